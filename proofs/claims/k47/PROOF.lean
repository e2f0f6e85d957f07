import PyProof.Rows.All
import KE.KFind
import KE.KLam
import KE.KTryMore
import KE.LcSums
import KE.KRevSl
import KE.KIntText
import KE.KUnpack
import Lean
import PySem.Challenge.RW_matefloors_k47_numbers_written
set_option Elab.async false
set_option linter.all false
set_option maxRecDepth 100000
set_option maxHeartbeats 4000000
set_option genSizeOf false
set_option compiler.extract_closed false
set_option bootstrap.genMatcherCode false
local macro_rules | `(‹$q›) => `({ nx := fun _ y => $q (.v .none) y, rt := $q })
namespace L2
open PySem PySem.W
def fF : Sem Fin → Bool
  | .choose .. => false
  | .os .. => false
  | _ => true
theorem yd {den : Code → Sem Fin} {p : Program} {w : World} {os : OsState} {s s' : Shared} {t t' : Thread} (h : fF t.cur = true) (e : step den p ⟨fun _ _ => 0, w.params⟩ s t = .go s' t') :
    step den p w { s with os := os } t = .go { s' with os := os } t' := by
  obtain ⟨heap, gens, drawn, toks, os0⟩ := s
  obtain ⟨cur, code, pos, stack⟩ := t
  cases cur <;> simp only [step, finish, fF] at e h ⊢ <;> (try (cases h; done)) <;> (repeat' split at e) <;> simp_all <;> (try (obtain ⟨rfl, rfl⟩ := e; simp_all)) <;> (try (obtain ⟨h1, h2⟩ := e; subst h1; rfl))
def jh (tb : String → Option Builtin) (p : Program) (P : Params) (n₀ : Nat) (ann : Option Value) : Nat → Shared → Thread → Option Shared
  | 0, _, _ => none
  | n + 1, s, t => match through t with
    | true => some s
    | false => match stepOk n₀ ann t && fF t.cur with
      | false => none
      | true => match step (denote tb) p ⟨fun _ _ => 0, P⟩ s t with
        | .go s' t' => jh tb p P n₀ ann n s' t'
        | .halt _ _ => none
theorem kR {tb : String → Option Builtin} {p : Program} {w : World} {n₀ : Nat} {ann : Option Value} {os : OsState} : ∀ {n : Nat} {s s' : Shared} {t : Thread}, jh tb p w.params n₀ ann n s t = some s' → topRun tb p w n₀ ann n { s with os := os } t = some { s' with os := os }
  | 0, _, _, _, h => by cases h
  | n + 1, s, s', t, h => by
    unfold jh at h
    unfold topRun
    cases ht : through t with
    | true => rw [ht] at h; cases h; rfl
    | false =>
      rw [ht] at h
      cases hk : (stepOk n₀ ann t && fF t.cur) with
      | false => rw [hk] at h; cases h
      | true =>
        rw [hk] at h
        obtain ⟨k1, k2⟩ := Bool.and_eq_true_iff.mp hk
        cases hs : step (denote tb) p ⟨fun _ _ => 0, w.params⟩ s t with
        | halt o s₂ => rw [hs] at h; cases h
        | go s₂ t₂ =>
          rw [hs] at h
          rw [k1, yd (os := os) k2 hs]
          exact kR h
noncomputable def ke (p : Program) (P : Params) (n₀ : Nat) (ann : Option Value) : Nat → Shared → Thread → Option Shared
  | 0, _, _ => none
  | n + 1, s, t => match through t with
    | true => some s
    | false => match Fast.tw6613529449190102663 n₀ ann t && fF t.cur with
      | false => none
      | true => match Fast.tw8437177126325714943 (Fast.tw11892475500146522536 Fast.tw14364793385576792824) p ⟨fun _ _ => 0, P⟩ s t with
        | .go s' t' => ke p P n₀ ann n s' t'
        | .halt _ _ => none
theorem kE {p : Program} {P : Params} {n₀ : Nat} {ann : Option Value} : ∀ (n : Nat) (s : Shared) (t : Thread), ke p P n₀ ann n s t = jh treeTable p P n₀ ann n s t
  | 0, _, _ => rfl
  | n + 1, s, t => by
    unfold ke jh
    rw [← Fast.te6613529449190102663, ← Fast.te8437177126325714943, ← Fast.te11892475500146522536, ← Fast.te14364793385576792824]
    cases through t with
    | true => rfl
    | false =>
      cases (stepOk n₀ ann t && fF t.cur) with
      | false => rfl
      | true =>
        cases step (denote treeTable) p ⟨fun _ _ => 0, P⟩ s t with
        | halt o s₂ => rfl
        | go s₂ t₂ => exact kE n s₂ t₂
end L2
namespace L2
open PySem
def eU (s : Stmt) : Arguments := match s with
  | .FunctionDef _ a _ _ _ _ _ _ _ _ => a
  | _ => { posonlyargs := [], args := [], vararg := none, kwonlyargs := [], kw_defaults := [], kwarg := none, defaults := [] }
def d0 (s : Stmt) : List Stmt := match s with
  | .FunctionDef _ _ b _ _ _ _ _ _ _ => b
  | _ => []
def aq (s : Stmt) : Scope := match s with
  | .FunctionDef _ _ _ _ _ _ sc _ _ _ => sc
  | _ => { kind := .function, names := [], isGenerator := false, isCoroutine := false }
end L2
namespace L2.DL
open PySem
def uL : List Str := ["law", "_law_is_right", "_law_is_put", "_law_are_refused", "_law_is_told", "_law_said", "_law_is_plan_told"]
def bR (o : Obj) : Option (Addr × Str) := match o.cls, o.data with
  | .type c, .fields vs => if c = "code" then (match vs[1]?, vs[7]?, vs[9]?, vs[10]?, vs[11]?, vs[18]? with
    | some (Value.str q _), some (Value.int _ _), some (Value.bool _), some (Value.int _ _), some (Value.ref P), some (Value.str _ _) => if uL.contains q = true then some (P, q) else none
    | _, _, _, _, _, _ => none) else none
  | _, _ => none
end L2.DL
namespace K47
open PySem L2
def top (i : Nat) : Stmt := PySem.Challenge.pw_matefloors_k47_numbers_written.main.body.getD i (.Pass ⟨0, 0, 0, 0⟩)
abbrev aV : Stmt := top 5
abbrev aY : Stmt := top 6
abbrev fD : Stmt := top 7
abbrev cg : Stmt := top 11
abbrev bM : Stmt := top 12
abbrev aX : Stmt := top 13
abbrev bO : Stmt := top 14
abbrev cI : Stmt := top 15
abbrev aW : Stmt := top 16
abbrev bK : Stmt := top 17
abbrev cf : Stmt := top 18
abbrev dh : Stmt := top 20
abbrev cK : Stmt := top 21
abbrev bo : Stmt := top 22
abbrev bI : Stmt := top 23
abbrev df : Stmt := top 24
abbrev aZ : Stmt := top 25
abbrev bJ : Stmt := top 26
abbrev bY : Stmt := top 27
abbrev cJ : Stmt := top 28
abbrev aS : Stmt := top 29
abbrev bL : Stmt := top 30
abbrev ie : Stmt := top 31
abbrev fd (n : Str) (s : Stmt) (tk : Tok) (m : Str) (cd : Addr) : FuncData := PySem.W.fnOf n n (eU s) (d0 s) (aq s) .none .none .none (.str m tk) none (.ref cd) .none
noncomputable abbrev FQ (K : PySem.W.Frag) (n : Str) (s : Stmt) (a cd : Addr) (tk : Tok) (m : Str) : Prop := PySem.W.nsIn K mainGlobals n = some (some (.ref a)) ∧ K.lookup a = some ⟨.type "function", none, .func (fd n s tk m cd), #[]⟩ ∧ PySem.W.codeIn K (.ref cd) n = true ∧ PySem.W.keepIn K (.ref a) = true
end K47
namespace K47.H
open PySem PySem.W PyProof.Rows L2 L2.DL
set_option maxRecDepth 100000
set_option maxHeartbeats 0
abbrev R : OpenLaw := PySem.Challenge.rw_matefloors_k47_numbers_written
abbrev LO : List Str := []
noncomputable def sT (P : Params) : Option Shared := ke R.row.prog P 11 (some (.ref 6)) 20000 { heap := boot_heap P, gens := #[], drawn := boot_drawn, toks := boot_toks, os := default } (topStub R.row.prog)
def defName : Stmt → Str
  | .FunctionDef n _ _ _ _ _ _ _ _ _ => n
  | _ => Str.empty
def rW : Stmt → Int
  | .FunctionDef _ _ _ _ _ _ _ _ _ p => Int.ofNat p.line
  | _ => 0
def cn (o : Obj) (r : List Obj) : List Obj := o :: r
def g (P : Params) (x : Str) (t : Nat) (v : Value) : DictEntry := ⟨PyData.keyHash P x, .str x t, v⟩
def gf (P : Params) (i t a : Nat) : DictEntry := g P (defName (top i)) t (.ref a)
def tb : List (Int × Nat) → List Value
  | [] => []
  | (a, b) :: l => .int a 0 :: .int 0 0 :: .ref b :: tb l
def tu (l : List Value) : Obj := ⟨.type "tuple", none, .seq l.toArray 0, #[]⟩
def nf : Obj := ⟨.none, none, .fields #[], #[]⟩
def dp (s : Stmt) : List Str := (eU s).args.map (·.arg)
def fd (s : Stmt) (a : Addr) (p c : Value) : Data := .func { name := defName s, qualname := defName s, params := eU s, body := .stmts (d0 s), scope := aq s, globals := a, closure := [], defaults := .none, kwdefaults := .none, pyModule := p, code := c }
def co (s : Stmt) (a t u : Nat) (x y : Value) (d : Nat) : Obj := ⟨.type "code", none, .fields #[.str (defName s) t, .str (defName s) (t + 1), .str "/claim/cut.py" (t + 2), .int (rW s) 0, .int (Int.ofNat (dp s).length) 0, .int 0 0, .int 0 0, .int 3 0, .ref a, .bool true, .int 181 0, .ref (a + 1), .none, x, y, .ref (a + d), .int (Int.ofNat u) 0, .int (rW s) 0, .str "/claim/cut.py" (u + 1)], #[]⟩
def nv : Nat → List Str → List Value
  | _, [] => []
  | t, x :: l => .str x t :: nv (t + 1) l
def fB (i a t : Nat) (l : List Str) (p : Value) (r : List Obj) : List Obj := tu [] :: nf :: tu (nv (t + 3) (dp (top i) ++ l)) :: tu [] :: ⟨.none, none, fd (top i) 0 .none .none, #[]⟩ :: co (top i) a t (t + 3 + (dp (top i) ++ l).length) (.ref (a + 2)) (.ref (a + 3)) 4 :: ⟨.type "function", none, fd (top i) 3 p (.ref (a + 5)), #[]⟩ :: r
def fL (i a t : Nat) (p : Value) (r : List Obj) : List Obj := tu [] :: nf :: ⟨.none, none, fd (top i) 0 .none .none, #[]⟩ :: co (top i) a t (t + 3) .none .none 2 :: ⟨.type "function", none, fd (top i) 3 p (.ref (a + 3)), #[]⟩ :: r
def me : Value := .str "matefloors.errors" 187
def cB (P : Params) (x : Str) (i t : Nat) (n : Int) (r : List Obj) : List Obj := tu [.ref 24] :: ⟨.type "builtin_function_or_method", none, .fields #[.builtin "type.__prepare__", .type "type"], #[]⟩ :: ⟨.type "dict", none, .dict #[g P "__module__" (t + 5) me, g P "__qualname__" (t + 7) (.str x (t + 6)), g P "__firstlineno__" (t + 9) (.int n (t + 8)), g P "__static_attributes__" (t + 10) (.ref (i + 7))] 4, #[]⟩ :: tu [] :: nf :: ⟨.type "code", none, .fields #[.str x t, .str x (t + 1), .str "/claim/cut.py" (t + 2), .int n 0, .int 0 0, .int 0 0, .int 0 0, .int 0 0, .ref (i + 3), .bool false, .int 181 0, .ref (i + 4), .none, .none, .none, .none, .int (Int.ofNat (t + 3)) 0, .int n 0, .str "/claim/cut.py" (t + 4)], #[]⟩ :: ⟨.type "frame", none, .plain, #[some (.ref (i + 5)), some (.ref 3), some (.ref (i + 2)), none, some me, none, some (.ref 0)]⟩ :: tu [] :: ⟨.type "dict", none, .dict #[g P "__module__" (t + 5) me, g P "__firstlineno__" (t + 9) (.int n (t + 8)), g P "__static_attributes__" (t + 10) (.ref (i + 7)), g P "__doc__" (t + 11) .none] 2, #[]⟩ :: ⟨.type "type", none, .cls ⟨x, [.ref 24], [.ref (i + 9), .ref 24, .type "ValueError", .type "Exception", .type "BaseException", .type "object"], i + 8, x, true, [], [], false, none, false⟩, #[some (.ref i), none, some (.str x (t - 2)), some (.str x (t + 6)), some (.builtin "ValueError.__new__"), some (.bool true)]⟩ :: ⟨.type "super", none, .fields #[.ref (i + 9), .ref (i + 9), .ref (i + 9)], #[]⟩ :: ⟨.type "builtin_function_or_method", none, .fields #[.builtin "object.__init_subclass__", .ref (i + 9)], #[]⟩ :: r
def m0 : Value := .str "matefloors.numbers" 239
def m1 : Value := .str "matefloors.texts" 268
def m2 : Value := .str "law_matefloors_k47_numbers_written" 344
noncomputable def ho0 (P : Params) (r : List Obj) : List Obj := cn (boot_o_0 P) <| cn (boot_o_1 P) <| cn (boot_o_2 P) <| cn (⟨.type "dict", none, .dict #[g P "__name__" 165 (.str "law_matefloors_k47_numbers_written" 344), g P "__doc__" 166 .none, g P "__package__" 167 .none, g P "__loader__" 168 (.builtin "__main__.__loader__#opaque"), g P "__spec__" 169 .none, g P "__annotations__" 170 (.ref 6), g P "__builtins__" 171 (.ref 4), g P "__file__" 173 (.str "/claim/cut.py" 172), g P "__cached__" 174 .none, g P "FloorError" 206 (.ref 24), g P "NoNumber" 222 (.ref 37), g P "NoText" 238 (.ref 49), gf P 5 248 58, gf P 6 257 65, gf P 7 267 72, g P "MOST_FIGURES" 271 (.int 40 270), g P "FIGURES" 273 (.str "0123456789" 272), gf P 11 283 79, gf P 12 294 86, gf P 13 301 93, gf P 14 315 100, gf P 15 323 107, gf P 16 330 114, gf P 17 337 121, gf P 18 343 126, gf P 20 357 133, gf P 21 366 140, gf P 22 373 147, gf P 23 381 154, gf P 24 391 161, gf P 25 397 166, gf P 26 409 173, gf P 27 416 180, gf P 28 427 187, gf P 29 433 192, gf P 30 443 199, gf P 31 457 206] 37, #[]⟩) <| cn (boot_o_4 P) <| cn (boot_o_5 P) <| cn (boot_o_6 P) <| cn (boot_o_7 P) <| cn (boot_o_8 P) <| cn (boot_o_9 P) <| cn (boot_o_10 P) <| cn (⟨(.type "tuple"), none, (.seq #[] 0), #[]⟩) <| cn (⟨.none, none, .fields (tb [(2, 20), (4, 33), (6, 45), (9, 57), (13, 64), (15, 71), (25, 78), (35, 85), (45, 92), (51, 99), (65, 106), (72, 113), (78, 120), (80, 125), (85, 132), (95, 139), (102, 146), (104, 153), (109, 160), (112, 165), (116, 172), (122, 179), (128, 186), (138, 191), (148, 198), (153, 205)]).toArray, #[]⟩) <| cn (⟨(.type "code"), none, (.fields #[(.str "<module>" 182), (.str "<module>" 183), (.str "/claim/cut.py" 184), (.int 1 0), (.int 0 0), (.int 0 0), (.int 0 0), (.int 0 0), (.ref 11), (.bool false), (.int 181 0), (.ref 12), .none, .none, .none, .none, (.int 185 0), (.int 1 0), (.str "/claim/cut.py" 186)]), #[]⟩) <| cn (⟨(.type "frame"), none, .plain, #[some (.ref 13), some (.ref 3), some (.ref 3), none, some (.str "__main__" 164), none, some (.ref 0)]⟩) <| cn (⟨(.type "tuple"), none, (.seq #[(.type "ValueError")] 0), #[]⟩) <| cn (⟨(.type "builtin_function_or_method"), none, (.fields #[(.builtin "type.__prepare__"), (.type "type")]), #[]⟩) <| cn (⟨(.type "dict"), none, (.dict #[⟨PyData.keyHash P "__module__", (.str "__module__" 196), (.str "matefloors.errors" 187)⟩, ⟨PyData.keyHash P "__qualname__", (.str "__qualname__" 198), (.str "FloorError" 197)⟩, ⟨PyData.keyHash P "__firstlineno__", (.str "__firstlineno__" 200), (.int 2 199)⟩, ⟨PyData.keyHash P "__static_attributes__", (.str "__static_attributes__" 201), (.ref 22)⟩] 4), #[]⟩) <| cn (⟨(.type "tuple"), none, (.seq #[] 0), #[]⟩) <| cn (⟨.none, none, (.fields #[]), #[]⟩) <| r
noncomputable def ho1 (P : Params) (r : List Obj) : List Obj := cn (⟨(.type "code"), none, (.fields #[(.str "FloorError" 191), (.str "FloorError" 192), (.str "/claim/cut.py" 193), (.int 2 0), (.int 0 0), (.int 0 0), (.int 0 0), (.int 0 0), (.ref 18), (.bool false), (.int 181 0), (.ref 19), .none, .none, .none, .none, (.int 194 0), (.int 2 0), (.str "/claim/cut.py" 195)]), #[]⟩) <| cn (⟨(.type "frame"), none, .plain, #[some (.ref 20), some (.ref 3), some (.ref 17), none, some (.str "matefloors.errors" 187), none, some (.ref 0)]⟩) <| cn (⟨(.type "tuple"), none, (.seq #[] 0), #[]⟩) <| cn (⟨(.type "dict"), none, (.dict #[⟨PyData.keyHash P "__module__", (.str "__module__" 196), (.str "matefloors.errors" 187)⟩, ⟨PyData.keyHash P "__firstlineno__", (.str "__firstlineno__" 200), (.int 2 199)⟩, ⟨PyData.keyHash P "__static_attributes__", (.str "__static_attributes__" 201), (.ref 22)⟩, ⟨PyData.keyHash P "__weakref__", (.str "__weakref__" 203), (.ref 25)⟩, ⟨PyData.keyHash P "__doc__", (.str "__doc__" 204), .none⟩] 3), #[]⟩) <| cn (⟨(.type "type"), none, (.cls ⟨"FloorError", [(.type "ValueError")], [(.ref 24), (.type "ValueError"), (.type "Exception"), (.type "BaseException"), (.type "object")], 23, "FloorError", true, [], [(.ref 37), (.ref 49)], false, none, false⟩), #[some (.ref 15), none, some (.str "FloorError" 189), some (.str "FloorError" 197), some (.builtin "ValueError.__new__"), some (.bool true)]⟩) <| cn (⟨(.type "getset_descriptor"), none, (.fields #[(.str "__weakref__" 202), (.ref 24), (.builtin "ExceptionGroup.__weakref__"), .none]), #[]⟩) <| cn (⟨(.type "super"), none, (.fields #[(.ref 24), (.ref 24), (.ref 24)]), #[]⟩) <| cn (⟨(.type "builtin_function_or_method"), none, (.fields #[(.builtin "object.__init_subclass__"), (.ref 24)]), #[]⟩) <| cB P "NoNumber" 28 209 4 <| cB P "NoText" 40 225 6 <| fB 5 52 241 [] m0 <| fB 6 59 249 [] m0 <| fB 7 66 258 ["divisor"] m0 <| fB 11 73 274 ["block", "blocks", "rest"] m1 <| fB 12 80 284 ["a", "b", "c", "body"] m1 <| fB 13 87 295 [] m1 <| fB 14 94 302 ["body", "slash", "below", "c", "plain", "beside_root", "found"] m1 <| fB 15 101 316 ["at"] m1 <| fB 16 108 324 [] m1 <| fB 17 115 331 [] m1 <| r
noncomputable def ho2 (P : Params) (r : List Obj) : List Obj := fL 18 122 338 m1 <| fB 20 127 346 ["_law_cell", "_law_great", "_law_primes", "_law_mixed"] m2 <| fB 21 134 358 ["_law_digit"] m2 <| fB 22 141 367 [] m2 <| fB 23 148 374 [] m2 <| fB 24 155 382 ["_law_common"] m2 <| fL 25 162 392 m2 <| fB 26 167 398 ["_law_wide", "_law_a", "_law_b", "_law_c", "_law_way"] m2 <| fB 27 174 410 [] m2 <| fB 28 181 417 ["_law_a", "_law_b", "_law_c", "_law_text_here"] m2 <| fL 29 188 428 m2 <| fB 30 193 434 ["_law_found", "_law_turn"] m2 <| fB 31 200 444 ["_law_ahead", "_law_k", "_law_bag_here", "_law_turn", "_law_x", "_law_text_here", "_law_told"] m2 <| r
noncomputable def hT (P : Params) : Heap := ⟨⟨ho0 P <| ho1 P <| ho2 P []⟩, (boot_heap P).life⟩
abbrev mz0 : Str := "matefloors.numbers"
abbrev mz1 : Str := "matefloors.texts"
abbrev mz2 : Str := "law_matefloors_k47_numbers_written"
def isNm : Stmt → Bool
  | .Assign [.Name x _] _ _ => x == "__name__"
  | _ => false
def V : Program := { R.row.prog with main := { R.row.prog.main with body := R.row.prog.main.body.filter fun s => !isNm s } }
def as : List Addr := [3, 58, 57, 65, 64, 72, 71, 79, 78, 86, 85, 93, 92, 100, 99, 107, 106, 114, 113, 121, 120, 126, 125, 133, 132, 140, 139, 147, 146, 154, 153, 161, 160, 166, 165, 173, 172, 180, 179, 187, 186, 192, 191, 199, 198, 206, 205]
def tabs : List Addr := [201]
noncomputable def K (P : Params) : Frag := as.map fun a => (a, ((hT P).get? a).getD default)
noncomputable def TF (P : Params) : Frag := tabs.map fun a => (a, ((hT P).get? a).getD default)
noncomputable def KF (P : Params) : Frag := K P ++ TF P
theorem kAs (P : Params) : as ++ tabs = (KF P).map (·.1) := by
  unfold KF K TF
  rw [List.map_append, List.map_map, List.map_map]
  exact congr (congrArg HAppend.hAppend (List.map_id _).symm) (List.map_id _).symm
noncomputable def HK : Hook := kHook KF (as ++ tabs) kAs
def posOf : Stmt → Pos
  | .FunctionDef _ _ _ _ _ _ _ _ _ p => p
  | _ => ⟨0, 0, 0, 0⟩
def D : DefRec := ⟨"law", eU K47.ie, d0 K47.ie, aq K47.ie, posOf K47.ie⟩
def Xt : Shared → Bool := fun s => xlAt V [] s && recOk R.row.records s
theorem runC (P : Params) : (sT P).map (fun s => (s.heap, s.gens, s.drawn, s.toks)) = some (hT P, #[], {}, 458) := by kernel_rfl
theorem AJ {A B C D : Type} {a a' : A} {b b' : B} {c c' : C} {d d' : D} (h : (a, b, c, d) = (a', b', c', d')) : a = a' ∧ b = b' ∧ c = c' ∧ d = d' := by
  cases h; exact ⟨rfl, rfl, rfl, rfl⟩
theorem run (w : World) (os : OsState) : topRun treeTable R.row.prog w 11 (some (.ref 6)) 20000 { heap := boot_heap w.params, gens := #[], drawn := boot_drawn, toks := boot_toks, os := os } (topStub R.row.prog) = some { heap := hT w.params, gens := #[], drawn := {}, toks := 458, os := os } := by
  have h := runC w.params
  cases e : sT w.params with
  | none => rw [e] at h; cases h
  | some s =>
    rw [e] at h
    obtain ⟨heap, gens, drawn, toks, os0⟩ := s
    have h' : some (heap, gens, drawn, toks) = some (hT w.params, (#[] : Array GenState), ({} : Drawn), 458) := h
    obtain ⟨rfl, rfl, rfl, rfl⟩ := AJ (Option.some.inj h')
    exact kR (w := w) (os := os) ((kE _ _ _).symm.trans e)
theorem zx (w : World) (os : OsState) : (staticsOk (importedModules R.row.prog.main.body) (boot_heap w.params) (hT w.params) && namesBound R.row.prog (hT w.params) && gensDone { heap := hT w.params, gens := #[], drawn := {}, toks := 458, os := os } && laidKept (boot_heap w.params) (hT w.params)) = true := by kernel_rfl
theorem yb (w : World) (os : OsState) : seen (List.map (fun x => x.name) (recsOf V)) (ownsOf V) [] { heap := hT w.params, drawn := {}, toks := 458, os := os } = expectedOf V := by kernel_rfl
theorem yD (w : World) (os : OsState) : (hT w.params).bltView = bltViewBooted := by kernel_rfl
theorem yo (w : World) (os : OsState) : ((hT w.params).keysOk (looseW V LO) (List.map (fun x => x.name) (recsOf V)) (List.map (fun x => x.fst) (litsOf V)) (List.map (fun x => x.name) (clssOf V (looseW V LO))) && (hT w.params).accountedOkI (importedModules R.row.prog.main.body) && (hT w.params).isNs mainGlobals && (hT w.params).isNs builtinsNs && tablesOk V (hT w.params) && Xt { heap := hT w.params, gens := #[], drawn := {}, toks := 458, os := os } && (if true = true then (#[] : Array GenState).size == 0 else !leftWithCleanup (#[] : Array GenState))) = true := by kernel_rfl
theorem ya (w : World) (os : OsState) : tabsOk V { heap := hT w.params, gens := #[], drawn := {}, toks := 458, os := os } = true := by kernel_rfl
theorem yq (w : World) (os : OsState) : pinSeenD V (drecsOf V) { heap := hT w.params, gens := #[], drawn := {}, toks := 458, os := os } = pinGoodD (drecsOf V) := by kernel_rfl
theorem y3 (w : World) (os : OsState) : plainSeenE V (looseW V LO) { heap := hT w.params, gens := #[], drawn := {}, toks := 458, os := os } = plainGoodE V (looseW V LO) := by kernel_rfl
theorem xA (w : World) (os : OsState) : plainSeenD V LO { heap := hT w.params, gens := #[], drawn := {}, toks := 458, os := os } = plainGoodD V LO := by kernel_rfl
theorem yJ (w : World) (os : OsState) : wideSeen V { heap := hT w.params, gens := #[], drawn := {}, toks := 458, os := os } = wideGood V := by kernel_rfl
theorem yV (w : World) (os : OsState) : clsSeenW V LO { heap := hT w.params, gens := #[], drawn := {}, toks := 458, os := os } = clsGoodW V LO := by kernel_rfl
theorem zP {A B C D E F G H I : Type} {a a' : A} {b b' : B} {c c' : C} {d d' : D} {e e' : E} {f f' : F} {g g' : G} {h h' : H} {i i' : I} (h0 : a = a') (h1 : b = b') (h2 : c = c') (h3 : d = d') (h4 : e = e') (h5 : f = f') (h6 : g = g') (h7 : h = h') (h8 : i = i') : (a, b, c, d, e, f, g, h, i) = (a', b', c', d', e', f', g', h', i') := by
  rw [h0, h1, h2, h3, h4, h5, h6, h7, h8]
theorem Ae (w : World) (os : OsState) : openSeen V LO (importedModules R.row.prog.main.body) Xt true { heap := hT w.params, gens := #[], drawn := {}, toks := 458, os := os } = openGood V LO := zP (yb w os) (yD w os) (yo w os) (ya w os) (yq w os) (y3 w os) (xA w os) (yJ w os) (yV w os)
theorem zq (w : World) (os : OsState) : HK.obs { heap := hT w.params, gens := #[], drawn := {}, toks := 458, os := os } = HK.val w := by kernel_rfl
theorem seen (w : World) : (fun os => (staticsOk (importedModules R.row.prog.main.body) (boot_heap w.params) (hT w.params) && namesBound R.row.prog (hT w.params) && gensDone { heap := hT w.params, gens := #[], drawn := {}, toks := 458, os := os } && laidKept (boot_heap w.params) (hT w.params),
    openSeen V LO (importedModules R.row.prog.main.body) Xt true { heap := hT w.params, gens := #[], drawn := {}, toks := 458, os := os }, HK.obs { heap := hT w.params, gens := #[], drawn := {}, toks := 458, os := os })) = fun _ : OsState => (true, openGood V LO, HK.val w) :=
  funext fun os => Prod.ext (zx w os) (Prod.ext (Ae w os) (zq w os))
theorem lkb {a b : Bool} (x : a = true) (y : b = true) : (a && b) = true := by rw [x, y]; rfl
theorem wsA : (sreFenced R.row.prog.main && ((moduleNames R.row.prog.main.body).isEmpty || lookedIntoSs (moduleNames R.row.prog.main.body) R.row.prog.main.body)) = true := by kernel_rfl
theorem wsB : namesResolve R.row.prog = true := by kernel_rfl
theorem wsC : R.row.prog.boundNames.all (fun n => !worldNames.contains n) = true := by kernel_rfl
theorem wsD : noRoadLSs { strict := !(importedModules R.row.prog.main.body).all cThrough.contains, foot := none, bare := (["vars", "dir", "locals"] : List Str).filter (readsOut R.row.prog R.row.prog.main.body) } R.row.prog.main.body = true := by kernel_rfl
theorem wsE : (namesMeet R.row.prog R.row.prog.main.body fun _ n => attrL n) = true := by kernel_rfl
theorem wsF : looksOpen R.row.prog = true := lkb (lkb (lkb (lkb wsA wsB) wsC) wsD) wsE
theorem wsG : R.row.wellSaid = true := by
  unfold OpenRow.wellSaid OpenRow.partSaid
  rw [wsF]
  kernel_rfl
theorem wsH : noClassBlock R.prog R.footing = true := by kernel_rfl
theorem wsI : noRoadLSs { strict := true, foot := some R.bound', writes := R.writes, may := R.may } R.footing = true := by kernel_rfl
theorem wsJ : R.namesIt = true := by kernel_rfl
theorem wsK : R.bound'.all (fun n => !builtinNamed n || R.about == [n] || !R.reads n) = true := by kernel_rfl
theorem wsL : namesMeet R.prog R.footing (fun sc n => (!(["type", "isinstance", "issubclass", "getattr", "hasattr"] : List Str).contains n || sc.names.lookup n == some .globalImplicit) && (R.may != some n || sc.kind == .module || sc.names.lookup n == some .globalImplicit)) = true := by kernel_rfl
theorem wsM : namesMeet R.prog R.above (fun _ n => !R.own.contains n) = true := by kernel_rfl
theorem wsN : (namesMeet R.prog R.footing fun sc n => sc.kind == .module || sc.names.lookup n != some .globalExplicit) = true := by kernel_rfl
theorem ws : R.wellSaid = true := by
  unfold OpenLaw.wellSaid
  rw [wsG, wsH, wsI, wsJ, wsK, wsL, wsM, wsN]
  kernel_rfl
theorem yg (P : Params) : FQ (K P) "common_divisor" aV 58 57 239 mz0 ∧ FQ (K P) "divisor_of_all" aY 65 64 239 mz0 ∧ FQ (K P) "number" fD 72 71 239 mz0 ∧ FQ (K P) "show_whole" cg 79 78 268 mz1 ∧ FQ (K P) "show_number" bM 86 85 268 mz1 ∧ FQ (K P) "show_root_part" aX 93 92 268 mz1 ∧ FQ (K P) "read_number" bO 100 99 268 mz1 ∧ FQ (K P) "split_sum" cI 107 106 268 mz1 ∧ FQ (K P) "read_root_part" aW 114 113 268 mz1 ∧ FQ (K P) "read_signed" bK 121 120 268 mz1 ∧ FQ (K P) "read_whole" cf 126 125 268 mz1 ∧ FQ (K P) "_law_bag" dh 133 132 344 mz2 ∧ FQ (K P) "_law_take" cK 140 139 344 mz2 ∧ FQ (K P) "_law_is_whole" bo 147 146 344 mz2 :=
  by (repeat' apply And.intro) <;> first | kernel_rfl | decide
theorem xH (P : Params) : FQ (K P) "_law_shared" bI 154 153 344 mz2 ∧ FQ (K P) "_law_low" df 161 160 344 mz2 ∧ FQ (K P) "_law_is_number" aZ 166 165 344 mz2 ∧ FQ (K P) "_law_number" bJ 173 172 344 mz2 ∧ FQ (K P) "_law_roots" bY 180 179 344 mz2 ∧ FQ (K P) "_law_text" cJ 187 186 344 mz2 ∧ FQ (K P) "_law_any_number" aS 192 191 344 mz2 ∧ FQ (K P) "_law_digits" bL 199 198 344 mz2 ∧ FQ (K P) "law" ie 206 205 344 mz2 ∧ nsIn (K P) mainGlobals "abs" = some none ∧ nsIn (K P) mainGlobals "str" = some none ∧ nsIn (K P) mainGlobals "isinstance" = some none ∧ nsIn (K P) mainGlobals "max" = some none ∧ nsIn (K P) mainGlobals "int" = some none :=
  by (repeat' apply And.intro) <;> first | kernel_rfl | decide
theorem yy (P : Params) : nsIn (K P) mainGlobals "len" = some none ∧ nsIn (K P) mainGlobals "all" = some none ∧ nsIn (K P) mainGlobals "bool" = some none ∧ nsIn (K P) mainGlobals "tuple" = some none ∧ nsIn (K P) mainGlobals "range" = some none ∧ nsIn (K P) mainGlobals "min" = some none ∧ nsIn (K P) mainGlobals "MOST_FIGURES" = some (some (.int 40 270)) ∧ nsIn (K P) mainGlobals "FIGURES" = some (some (.str "0123456789" 272)) :=
  by (repeat' apply And.intro) <;> first | kernel_rfl | decide
theorem vJ (P : Params) : ((K P).filterMap fun p => bR p.2) = [(201, ("law" : Str))] ∧ ((K P).lookup 205).bind bR = some (201, ("law" : Str)) ∧ (KF P).lookup 201 = some (tabObj #[]) ∧ (K P).lookup 201 = none := ⟨by kernel_rfl, by kernel_rfl, by kernel_rfl, by kernel_rfl⟩
theorem yp (P : Params) : ((K P).filterMap fun p => bR p.2) = [(201, ("law" : Str))] := (vJ P).1
theorem vx (P : Params) : ((K P).lookup 205).bind bR = some (201, ("law" : Str)) := (vJ P).2.1
theorem Af {q2 : Str} (h : ((201 : Addr), q2) ∈ ([(201, ("law" : Str))] : List (Addr × Str))) : q2 = "law" := by simpa using h
theorem rJ (P : Params) : (KF P).lookup 201 = some (tabObj #[]) ∧ (K P).lookup 201 = none := ⟨(vJ P).2.2.1, (vJ P).2.2.2⟩
theorem left : LeftO R.row.prog V LO Xt HK.obs HK.val 20000 :=
  LeftO.of_pieces (H₀ := boot_heap) (H₁ := hT) (gs₀ := #[]) (gs₁ := #[]) (d₀ := boot_drawn) (d₁ := {}) (k₀ := boot_toks) (k₁ := 458) (m₀ := 11) (ann := some (.ref 6)) (M := 20000)
    (boot_open (by kernel_rfl) (by kernel_rfl) (fun s => by kernel_rfl)) (fun w => by kernel_rfl) run (by kernel_rfl) seen
end K47.H
set_option Elab.async false
set_option linter.all false
set_option maxRecDepth 100000
namespace L2
open PySem PySem.Spec PyProof.Rows
noncomputable def dI (A : Around) (h : Heap) : Prop := A.handled = none ∨ ∃ (e : Addr) (oe : Obj) (vs : Array Value), A.handled = some (.ref e) ∧ h.get? e = some oe ∧ oe.data = .fields vs ∧ vs[2]? = some .none
theorem lV : entryFor table "proto.unchain" = some Builtin.«proto.unchain» := entryFor_of_tree (by kernel_rfl)
section
variable {prog : Program} {w : World} {A : Around} {E : Value → Shared → Prop} {s : Shared}
theorem mU {x e : Addr} {oe : Obj} {vs : Array Value} {Q : Value → Shared → Prop} (he : s.heap.get? e = some oe) (hd : oe.data = .fields vs) (h2 : vs[2]? = some .none) (h : Q .none s) :
    wpAny (model prog w) A (runValue (.builtin "proto.unchain" ⟨[.ref x, .ref e, .ref e, .bool false], []⟩)) Q E s := by
  refine wpAny_runValue (codeAny_builtin lV ?_)
  unfold Builtin.«proto.unchain»
  dsimp only
  refine wpAny_bind (wpAny_field he hd h2 ?_)
  rw [if_pos (by rfl)]
  exact wpAny_pure h
theorem kv {α : Type} {a : Addr} {oa : Obj} {ws : Array Value} {Q : α → Shared → Prop} (q : dI A s.heap) (ha : s.heap.get? a = some oa) (hda : oa.data = .fields ws) (hz : 2 < ws.size)
    (hnew : ∀ e oe, A.handled = some (.ref e) → s.heap.get? e = some oe → e ≠ a)
    (h : ∀ h', Heap.ExtBut a s.heap h' → (∃ o', h'.get? a = some o' ∧ o'.cls = oa.cls) → E (.ref a) { s with heap := h' }) : wpAny (model prog w) A (raiseNew (.ref a) : Sem α) Q E s := by
  unfold raiseNew
  refine wpAny_bind (wpAny_handled ?_)
  rcases q with q | ⟨e, oe, vs, q, he, hd, h2⟩
  · rw [q]
    exact wpAny_bind (wpAny_pure (wpAny_throw (h s.heap (fun b o _ z => z) ⟨oa, ha, rfl⟩)))
  · rw [q]
    have ne : e ≠ a := hnew e oe q he
    dsimp only
    rw [if_pos (by simp [ne])]
    refine wpAny_bind (wpAny_holding (mU he hd h2 ?_))
    refine wpAny_bind ?_
    refine wpAny_setField ha hda hz (wpAny_throw ?_)
    have hd' := Obj.data_mapFields hda (·.setIfInBounds 2 (Value.ref e))
    exact h _ (Heap.SameBut.update ..).extBut ⟨_, Heap.get?_update_self _ ha (Obj.isFreed_of_fields hd'), Obj.cls_mapFields ..⟩
theorem lu {it : Addr} {α : Type} {h0 : Heap} {Q : α → Shared → Prop} (q : dI A s.heap) (k : Heap.ExtBut it h0 s.heap) (kl : ∀ e oe, A.handled = some (.ref e) → s.heap.get? e = some oe → True)
    (h : ∀ h' a, Heap.ExtBut it h0 h' → (∃ o', h'.get? a = some o' ∧ o'.cls = .type "StopIteration") → E (.ref a) { s with heap := h' }) : wpAny (model prog w) A (newExc (.type "StopIteration") [] >>= fun e => (raiseNew e : Sem α)) Q E s := by
  refine wpAny_bind ?_; simp only [newExc, newTuple]
  refine wpAny_bind (wpAny_newObj_type ?_ (by size_fits)); refine wpAny_bind (m := firstArgMember _ _) (wpAny_of_eq (a := Value.none) (by first | rfl | (simp only [firstArgMember]; rfl)) ?_); refine wpAny_newObj_type ?_ (by size_fits)
  have q' : ∀ o1 o2 : Obj, dI A ((s.heap.push o1).push o2) := fun o1 o2 => by
    rcases q with q | ⟨e, oe, vs, q, he, r⟩
    · exact .inl q
    · exact .inr ⟨e, oe, vs, q, Heap.get?_push_of_some _ (Heap.get?_push_of_some _ he), r⟩
  refine kv (q' _ _) (Heap.get?_push_size _ rfl) rfl (by rw [Array.size_append]; exact Nat.lt_of_lt_of_le (by decide : 2 < 6) (Nat.le_add_right _ _)) (fun e oe hq he z => ?_) fun h' hx ⟨o', ho', hc'⟩ => h h' _ (fun b o hb e => hx b o ?_ (Heap.get?_push_of_some _ (Heap.get?_push_of_some _ (k b o hb e)))) ⟨o', ho', hc'⟩
  · rcases q with q | ⟨e1, oe1, vs, q, he1, r⟩
    · rw [q] at hq; cases hq
    · rw [q] at hq; cases hq
      exact absurd (Heap.lt_size he1) (by rw [z]; simp)
  · exact Nat.ne_of_lt (Nat.lt_of_lt_of_le (Heap.lt_size (k b o hb e)) (by simp))
theorem iF {it : Addr} {o : Obj} {ws : Array Value} {f : Array Value → Array Value} (q : dI A s.heap) (ho : s.heap.get? it = some o) (hd : o.data = .fields ws) (hn : ∀ e, A.handled = some (.ref e) → e ≠ it) : dI A (s.heap.update it (Obj.mapFields f)) := by
  rcases q with q | ⟨e, oe, vs, q, he, r⟩
  · exact .inl q
  · exact .inr ⟨e, oe, vs, q, by rw [Heap.get?_update_other _ _ (Ne.symm (hn e q))]; exact he, r⟩
theorem mf {it l : Addr} {i : Nat} {items} {Q : Option Value → Shared → Prop} (q : dI A s.heap) (hn : ∀ e, A.handled = some (.ref e) → e ≠ it) (hit : s.heap.IsListIter it l i) (hl : s.heap.IsList l items) (hx : items[i]? = none)
    (hQ : ∀ h', Heap.ExtBut it s.heap h' → Q none { s with heap := h' }) : wpAny (model prog w) A (pyNext (.ref it)) Q E s := by
  obtain ⟨o, ho, hc, hd⟩ := id hit
  obtain ⟨ol, hol, _, nl, hdl⟩ := hl; unfold pyNext
  refine wpAny_bind (wpAny_attempt (wpAny_callSpecial?_slot (name := Str.ofString "__next__") hit.typeIs slot_listiter_next (wpAny_call_entry slot_listiter_next hit.typeIs entry_listiter_next ?_ (args_listiter_next _))))
  show wpAny _ _ (field (.ref it) 0 >>= _) _ _ s; refine wpAny_bind (wpAny_field ho hd (x := .ref l) rfl ?_)
  show wpAny _ _ (if (Value.ref l == Value.none) = true then _ else _) _ _ s; rw [if_neg (show ¬ ((Value.ref l == Value.none) = true) from Bool.false_ne_true)]
  show wpAny _ _ (field (.ref it) 1 >>= _) _ _ s; refine wpAny_bind (wpAny_field ho hd (x := .int i 0) rfl ?_)
  show wpAny _ _ (seqItems? (.ref l) >>= _) _ _ s; refine wpAny_bind (wpAny_seqItems hol hdl ?_); simp only [Int.toNat_natCast, hx]
  refine wpAny_bind (wpAny_rule (wpAny_bind (wpAny_setField ho hd (by simp) ?_)))
  refine lu (it := it) (h0 := s.heap) (A := A.in1) (iF (A := A.in1) q ho hd hn) (Heap.SameBut.update ..).extBut (fun _ _ _ _ => trivial) fun h' a hx' ⟨o', ho', hc'⟩ => ?_
  refine wpAny_bind (wpAny_isInstance (T := "StopIteration") (b := true) ⟨_, ho', hc'⟩ isSubtype_stop ?_); exact wpAny_pure (hQ _ hx')
theorem jk {it t : Addr} {i : Nat} {items} {Q : Option Value → Shared → Prop} (q : dI A s.heap) (hn : ∀ e, A.handled = some (.ref e) → e ≠ it) (hit : IsTupIter s.heap it t i) (ht : IsTup s.heap t items) (hx : items[i]? = none)
    (hQ : ∀ h', Heap.ExtBut it s.heap h' → Q none { s with heap := h' }) : wpAny (model prog w) A (pyNext (.ref it)) Q E s := by
  obtain ⟨o, ho, hc, hd⟩ := id hit
  obtain ⟨ol, hol, _, nl, hdl⟩ := ht; unfold pyNext
  refine wpAny_bind (wpAny_attempt (wpAny_callSpecial?_slot (name := Str.ofString "__next__") hit.typeIs slot_tupleiter_next (wpAny_call_entry slot_tupleiter_next hit.typeIs entry_tupleiter_next ?_ (args_tupleiter_next _))))
  show wpAny _ _ (field (.ref it) 0 >>= _) _ _ s; refine wpAny_bind (wpAny_field ho hd (x := .ref t) rfl ?_)
  show wpAny _ _ (if (Value.ref t == Value.none) = true then _ else _) _ _ s; rw [if_neg (show ¬ ((Value.ref t == Value.none) = true) from Bool.false_ne_true)]
  show wpAny _ _ (field (.ref it) 1 >>= _) _ _ s; refine wpAny_bind (wpAny_field ho hd (x := .int i 0) rfl ?_)
  show wpAny _ _ (seqItems? (.ref t) >>= _) _ _ s; refine wpAny_bind (wpAny_seqItems hol hdl ?_); simp only [Int.toNat_natCast, hx]
  refine wpAny_bind (wpAny_rule (wpAny_bind (wpAny_setField ho hd (by simp) ?_)))
  refine lu (it := it) (h0 := s.heap) (A := A.in1) (iF (A := A.in1) q ho hd hn) (Heap.SameBut.update ..).extBut (fun _ _ _ _ => trivial) fun h' a hx' ⟨o', ho', hc'⟩ => ?_
  refine wpAny_bind (wpAny_isInstance (T := "StopIteration") (b := true) ⟨_, ho', hc'⟩ isSubtype_stop ?_); exact wpAny_pure (hQ _ hx')
theorem lF {env : Env} {elts : List Expr} {x1} {pos : Pos} {t : Addr} {items : Array Value} {Q : Unit → Shared → Prop} (q : dI A s.heap) (ht : IsTup s.heap t items) (hn : (assignEach elts env).length = items.size)
    (hstar : (assignEach elts env).findIdx? (·.1) = none) (h : ∀ h', Heap.ExtBut s.heap.objs.size s.heap h' → wpAny (model prog w) A (assignInOrder ((assignEach elts env).map (·.2)) items.toList) Q E { s with heap := h' }) :
    wpAny (model prog w) A (assign (.Tuple elts x1 pos) env (.ref t)) Q E s := by
  rw [assign_Tuple]
  refine wpAny_bind (wpAny_standAt ?_)
  unfold unpack; rw [hn, hstar]
  refine wpAny_bind (wpAny_holding ?_)
  have hlt : t ≠ s.heap.objs.size := by obtain ⟨o, ho, _⟩ := ht; exact Nat.ne_of_lt (Heap.lt_size ho)
  unfold unpackItems; refine wpAny_bind ?_
  unfold notIterableAtAll; refine wpAny_bind (wpAny_specialOf ht.typeIs slot_tuple_iter.lookup ?_); refine wpAny_pure ?_; simp only [Bool.false_eq_true, if_false]
  refine wpAny_bind (wpAny_holding (iter_tuple ht ?_))
  refine wpAny_bind (wpAny_holding (draw_tuple hlt items.size 0 _ _ ⟨_, Heap.get?_push_size _ rfl, rfl, rfl⟩ (ht.push _) (by omega) fun h₁ hit₁ hs₁ => ?_))
  rw [show List.take items.size (List.drop 0 items.toList) = items.toList from by rw [List.drop_zero]; exact List.take_of_length_le (by simp), if_neg (by simp)]
  have fr : ∀ e, A.handled = some (.ref e) → e ≠ s.heap.objs.size := fun e hq => by
    rcases q with q | ⟨e1, oe1, vs, q, he1, r⟩
    · rw [q] at hq; cases hq
    · rw [q] at hq; cases hq; exact Nat.ne_of_lt (Heap.lt_size he1)
  have q1 : dI A h₁ := by
    rcases q with q | ⟨e, oe, vs, q, he, r⟩
    · exact .inl q
    · exact .inr ⟨e, oe, vs, q, hs₁.extBut e oe (fr e q) (Heap.get?_push_of_some _ he), r⟩
  refine wpAny_bind (wpAny_holding (jk q1 fr hit₁ ((ht.push _).extBut hs₁.extBut hlt) (by simp) fun h₂ he₂ => ?_)); simp only [Option.isSome_none, Bool.false_eq_true, if_false]
  exact wpAny_pure (h h₂ fun b o hb e => he₂ b o hb (hs₁.extBut b o hb (Heap.get?_push_of_some _ e)))
end
end L2
set_option Elab.async false
set_option linter.all false
set_option maxRecDepth 100000
namespace L2
open PySem PySem.Spec PyProof.Rows
abbrev Key := Sum Int Str
def xl : Key → Value → Bool
  | .inl k, v => Value.isInt k v
  | .inr x, v => Value.isStrOf x v
def AV (w : World) : Key → Int
  | .inl k => hashInt k
  | .inr x => hashStr w x
theorem br : ∀ {k : Key} {v : Value}, xl k v = true → (∃ i t, k = Sum.inl i ∧ v = Value.int i t) ∨ (∃ x t, k = Sum.inr x ∧ v = Value.str x t)
  | .inl i, v, h => by
    obtain ⟨t, e⟩ := Value.isInt_shape (k := i) (v := v) h
    exact .inl ⟨i, t, rfl, e⟩
  | .inr x, v, h => by
    obtain ⟨t, e⟩ := Value.isStrOf_shape (x := x) (v := v) h
    exact .inr ⟨x, t, rfl, e⟩
theorem yK (a b : Int) : decide ((Sum.inl a : Key) = Sum.inl b) = (a == b) := by
  by_cases e : a = b
  · subst e; simp
  · have h : ¬ (Sum.inl a : Key) = Sum.inl b := fun q => e (Sum.inl.inj q)
    rw [decide_eq_false h]
    exact (beq_eq_false_iff_ne.mpr e).symm
theorem yL (a b : Str) : decide ((Sum.inr a : Key) = Sum.inr b) = decide (a = b) := by
  by_cases e : a = b
  · subst e; simp
  · have h : ¬ (Sum.inr a : Key) = Sum.inr b := fun q => e (Sum.inr.inj q)
    rw [decide_eq_false h, decide_eq_false e]
theorem y8 (a : Int) (b : Str) : decide ((Sum.inl a : Key) = Sum.inr b) = false := decide_eq_false (fun q => nomatch q)
theorem xB (a : Str) (b : Int) : decide ((Sum.inr a : Key) = Sum.inl b) = false := decide_eq_false (fun q => nomatch q)
def nC (prog : Program) (w : World) : PySem.KeyKind prog w Key where
  is := xl
  hash := AV w
  inj := fun v a b ha hb => by
    rcases br ha with ⟨i, t, rfl, rfl⟩ | ⟨x, t, rfl, rfl⟩
    · rcases br hb with ⟨j, u, rfl, e⟩ | ⟨y, u, rfl, e⟩
      · injection e with e1 _; rw [e1]
      · exact nomatch e
    · rcases br hb with ⟨j, u, rfl, e⟩ | ⟨y, u, rfl, e⟩
      · exact nomatch e
      · injection e with e1 _; rw [e1]
  byValue := fun k v h => by
    rcases br h with ⟨i, t, rfl, rfl⟩ | ⟨x, t, rfl, rfl⟩ <;> rfl
  pyHash := fun hv h => by
    rcases br hv with ⟨i, t, rfl, rfl⟩ | ⟨x, t, rfl, rfl⟩
    · exact wpAny_pyHash_int h
    · exact wpAny_pyHash_str h
  eqBool := fun hu hv h => by
    rcases br hu with ⟨i, t, rfl, rfl⟩ | ⟨x, t, rfl, rfl⟩
    · rcases br hv with ⟨j, u, rfl, rfl⟩ | ⟨y, u, rfl, rfl⟩
      · rw [yK] at h; exact wpAny_eqBool_int h
      · rw [y8] at h; exact SeqAt.EqAt.int_str i t y u _ _ _ _ h
    · rcases br hv with ⟨j, u, rfl, rfl⟩ | ⟨y, u, rfl, rfl⟩
      · rw [xB] at h; exact SeqAt.EqAt.str_int x t j u _ _ _ _ h
      · rw [yL] at h; exact wpAny_eqBool_str h
  «strs» := fun k x t v h => by
    rcases br h with ⟨i, u, rfl, e⟩ | ⟨y, u, rfl, e⟩
    · exact nomatch e
    · injection e with e1 _
      subst e1
      cases v <;> rfl
end L2
namespace L2
open PySem PySem.Spec PyProof.Rows
inductive V where
  | non | bl (b : Bool) | int (i : Int) | str (x : Str) | byt (b : Array UInt8) | flt (b : UInt64) | ref (a : Addr) | ty (n : String)
  deriving DecidableEq
def RelV : V → Value → Prop
  | .non, u => u = Value.none
  | .bl b, u => u = Value.bool b
  | .int i, u => ∃ t, u = Value.int i t
  | .str x, u => ∃ t, u = Value.str x t
  | .byt b, u => ∃ t, u = Value.bytes b t
  | .flt b, u => ∃ t, u = Value.float b t
  | .ref a, u => u = Value.ref a
  | .ty n, u => u = Value.type n
abbrev Vals : List V → List Value → Prop := Paired RelV
theorem Vals.length {xs : List V} {us : List Value} (r : Vals xs us) : xs.length = us.length := Paired.length r
theorem Vals.get : ∀ {xs : List V} {us : List Value} {i : Nat} {x : V}, Vals xs us → xs[i]? = some x → ∃ u, us[i]? = some u ∧ RelV x u
  | _, _, _, _, .nil, e => by simp at e
  | _, _, 0, _, .cons r _, e => by simp at e; subst e; exact ⟨_, rfl, r⟩
  | _, _, i + 1, x, .cons _ t, e => by
    obtain ⟨u, h1, h2⟩ := Vals.get (i := i) (x := x) t (by simpa using e)
    exact ⟨u, by simpa using h1, h2⟩
theorem Vals.set {x : V} {u : Value} (r : RelV x u) : ∀ {xs : List V} {us : List Value} (i : Nat), Vals xs us → Vals (xs.set i x) (us.set i u)
  | _, _, _, .nil => .nil
  | _, _, 0, .cons _ t => .cons r t
  | _, _, i + 1, .cons q t => .cons q (Vals.set r i t)
theorem Vals.append : ∀ {xs ys : List V} {us ws : List Value}, Vals xs us → Vals ys ws → Vals (xs ++ ys) (us ++ ws)
  | _, _, _, _, .nil, s => s
  | _, _, _, _, .cons r t, s => .cons r (Vals.append t s)
def zF : Option V → Option Value → Prop
  | some v, some u => RelV v u
  | none, none => True
  | _, _ => False
def KV {κ : Type} : List (κ × V) → List (κ × Value) → Prop := Paired fun (p : κ × V) (q : κ × Value) => p.1 = q.1 ∧ RelV p.2 q.2
def kV : Key → V
  | .inl i => .int i
  | .inr x => .str x
inductive HO where
  /-- a list -/
  | lst (xs : List V)
  /-- a tuple (never changes) -/
  | tup (xs : List V)
  /-- a dict whose keys are ints and texts; one whose keys are tuples of ints and texts (the empty one is both) -/
  | dK (kvs : List (Key × V)) | dT (kvs : List (List Key × V))
  /-- a set of ints: its members, its size -/
  | set (S : Int → Bool) (n : Nat)
  /-- an instance of the class at C, its dict at dx, its attributes -/
  | ins (C dx : Addr) (fs : List (Str × V))
  /-- the dict of the instance at x -/
  | own (x : Addr)
  /-- the dict of an exception -/
  | xd (fs : List (Str × V))
  /-- a bound method, f of x -/
  | met (f x : Addr)
  /-- a range object lo, lo + 1, .. below hi -/
  | rng (lo hi : Int)
  /-- a thing that is known to the object (the script; a dict while a loop walks it): read, never written while it is so -/
  | frz (o : Obj) (u : HO)
  /-- a code object's table -/
  | tbl (ps : Array Value)
  /-- any other thing, by what is true of its one object (a def of one's own: SetO a S n := HO.ext fun h => ..) -/
  | ext (φ : Heap → Prop)
abbrev Hp := Addr → Option HO
def upd (H : Hp) (a : Addr) (o : HO) : Hp := fun b => if b = a then some o else H b
theorem fC {H : Hp} {a : Addr} {o : HO} : upd H a o a = some o := by unfold upd; rw [if_pos rfl]
theorem aP {H : Hp} {a b : Addr} {o : HO} (h : b ≠ a) : upd H a o b = H b := by unfold upd; rw [if_neg h]
theorem bh {H : Hp} {a b : Addr} {o : HO} (h : H a = some o) (h' : H b = none) : a ≠ b := by
  intro e; subst e; rw [h] at h'; cases h'
section
variable (P : Program) (w : World)
def gx (H : Hp) (h : Heap) (a : Addr) : HO → Prop
  | .lst xs => xs.length ≤ sizeLine ∧ ∃ (its : List Value) (n : Nat), Vals xs its ∧ h.get? a = some { cls := .type "list", data := .seq its.toArray n }
  | .tup xs => xs.length ≤ sizeLine ∧ ∃ its : List Value, Vals xs its ∧ IsTup h a its.toArray
  | .dK kvs => kvs.length ≤ sizeLine ∧ (a == sysModules) = false ∧ ∃ vs, KV kvs vs ∧ h.DictOf (nC P w) a vs
  | .dT kvs => kvs.length ≤ sizeLine ∧ (a == sysModules) = false ∧ ∃ xs : List (List Key × Addr × Value),
      Paired (fun (p : List Key × V) (q : List Key × Addr × Value) => p.1 = q.1 ∧ H q.2.1 = some (.tup (p.1.map kV)) ∧ RelV p.2 q.2.2) kvs xs ∧
      ∃ o es ep, h.get? a = some o ∧ o.ExactDict ∧ o.data = .dict es ep ∧ es.toList = xs.map (entryOfKey (tupleKind (nC P w))) ∧ (xs.map (·.1)).Nodup
  | .set S n => h.SetOf (intKind P w) a S n
  | .ins C dx fs => H dx = some (.own a) ∧ fs.length ≤ 1000 ∧ dx ≠ a ∧ h.get? a = some (PySem.W.instObj C dx) ∧
      ∃ mA, h.Ns1 dx mA ∧ (∀ f, zF (fs.lookup f) (mA f)) ∧ PySem.Within mA (fs.map (·.1))
  | .own _ => ∃ o, h.get? a = some o
  | .xd fs => ∃ mA, h.Ns1 a mA ∧ ∀ f, zF (fs.lookup f) (mA f)
  | .rng lo hi => ∃ t u v, h.get? a = some { cls := .type "range", data := .fields #[.int lo t, .int hi u, .int 1 v] }
  | .frz o u => h.get? a = some o ∧ gx H h a u
  | .tbl ps => h.get? a = some { cls := .none, data := .fields ps }
  | .met f x => h.get? a = some (PySem.W.methodObj (.ref f) (.ref x))
  | .ext φ => φ h ∧ (∃ o, h.get? a = some o) ∧ ∀ h1 h2 : Heap, φ h1 → (∀ o, h1.get? a = some o → h2.get? a = some o) → φ h2
noncomputable def HOk (H : Hp) (h : Heap) : Prop := ∀ a o, H a = some o → gx P w H h a o
end
section
variable {P : Program} {w : World} {H H' : Hp} {h h' : Heap} {a : Addr} {o : HO}
theorem gx.lt (x : gx P w H h a o) : a < h.objs.size := by
  cases o with
  | lst xs => obtain ⟨_, _, _, _, e⟩ := x; exact Heap.lt_size e
  | tup xs => obtain ⟨_, _, _, p⟩ := x; exact p.lt
  | dK kvs => obtain ⟨_, _, _, _, o, _, _, e, _⟩ := x; exact Heap.lt_size e
  | dT kvs => obtain ⟨_, _, _, _, o, _, _, e, _⟩ := x; exact Heap.lt_size e
  | set S n => obtain ⟨o, _, _, _, e, _⟩ := x; exact Heap.lt_size e
  | ins C dx fs => obtain ⟨_, _, _, e, _⟩ := x; exact Heap.lt_size e
  | own y => obtain ⟨_, e⟩ := x; exact Heap.lt_size e
  | xd fs => obtain ⟨_, ⟨_, _, _, e, _⟩, _⟩ := x; exact Heap.lt_size e
  | rng lo hi => obtain ⟨_, _, _, e⟩ := x; exact Heap.lt_size e
  | frz ob u => obtain ⟨e, _⟩ := x; exact Heap.lt_size e
  | tbl ps => exact Heap.lt_size (show h.get? a = some _ from x)
  | met f y => exact Heap.lt_size (show h.get? a = some _ from x)
  | ext φ => obtain ⟨_, ⟨_, e⟩, _⟩ := x; exact Heap.lt_size e
theorem Paired.zd {α β : Type} {F G : α → β → Prop} : ∀ {l₁ : List α} {l₂ : List β}, Paired F l₁ l₂ → (∀ a b, F a b → G a b) → Paired G l₁ l₂
  | _, _, .nil, _ => .nil
  | _, _, .cons r t, f => .cons (f _ _ r) (Paired.zd t f)
theorem gx.nU (x : gx P w H h a o) (k : ∀ b u, (b = a ∨ H b = some (.own a)) → h.get? b = some u → h'.get? b = some u)
    (ho : ∀ b, H b = some (.own a) → H' b = some (.own a)) (ht : ∀ b xs, H b = some (.tup xs) → H' b = some (.tup xs)) : gx P w H' h' a o := by
  induction o with
  | lst xs => obtain ⟨z, its, n, r, e⟩ := x; exact ⟨z, its, n, r, k _ _ (.inl rfl) e⟩
  | tup xs => obtain ⟨z, its, r, ob, e, c⟩ := x; exact ⟨z, its, r, ob, k _ _ (.inl rfl) e, c⟩
  | dK kvs => obtain ⟨z, y, vs, r, ob, es, ep, e, c⟩ := x; exact ⟨z, y, vs, r, ob, es, ep, k _ _ (.inl rfl) e, c⟩
  | dT kvs =>
    obtain ⟨z, y, xs, r, ob, es, ep, e, c⟩ := x
    exact ⟨z, y, xs, Paired.zd r fun p q z => ⟨z.1, ht _ _ z.2.1, z.2.2⟩, ob, es, ep, k _ _ (.inl rfl) e, c⟩
  | set S n => obtain ⟨ob, es, ep, t, e, c⟩ := x; exact ⟨ob, es, ep, t, k _ _ (.inl rfl) e, c⟩
  | ins C dx fs =>
    obtain ⟨d, z, ne, e, mA, ⟨od, es, ep, e2, c⟩, r⟩ := x
    exact ⟨ho _ d, z, ne, k _ _ (.inl rfl) e, mA, ⟨od, es, ep, k _ _ (.inr d) e2, c⟩, r⟩
  | own y => obtain ⟨ob, e⟩ := x; exact ⟨ob, k _ _ (.inl rfl) e⟩
  | xd fs => obtain ⟨mA, ⟨od, es, ep, e, c⟩, r⟩ := x; exact ⟨mA, ⟨od, es, ep, k _ _ (.inl rfl) e, c⟩, r⟩
  | rng lo hi => obtain ⟨t, u, v, e⟩ := x; exact ⟨t, u, v, k _ _ (.inl rfl) e⟩
  | frz ob u ih => obtain ⟨e, q⟩ := x; exact ⟨k _ _ (.inl rfl) e, ih q⟩
  | tbl ps =>
    have e : h.get? a = some { cls := .none, data := .fields ps } := x
    show h'.get? a = some { cls := .none, data := .fields ps }
    exact k a _ (.inl rfl) e
  | met f y =>
    have e : h.get? a = some (PySem.W.methodObj (.ref f) (.ref y)) := x
    show h'.get? a = some (PySem.W.methodObj (.ref f) (.ref y))
    exact k a _ (.inl rfl) e
  | ext φ => obtain ⟨p, ⟨o, e⟩, st⟩ := x; exact ⟨st _ _ p fun o q => k _ _ (.inl rfl) q, ⟨o, k _ _ (.inl rfl) e⟩, st⟩
theorem HOk.lt (x : HOk P w H h) (e : H a = some o) : a < h.objs.size := (x a o e).lt
theorem HOk.fresh (x : HOk P w H h) (e : h.objs.size ≤ a) : H a = none := by
  cases q : H a with
  | none => rfl
  | some u => exact absurd (Nat.lt_of_lt_of_le (x.lt q) e) (Nat.lt_irrefl _)
theorem HOk.kept (x : HOk P w H h) (k : ∀ b u, h.get? b = some u → h'.get? b = some u) : HOk P w H h' := fun a o e =>
  (x a o e).nU (fun b u _ q => k b u q) (fun _ q => q) fun _ _ q => q
theorem HOk.laid (x : HOk P w H h) (k : ∀ b u, h.get? b = some u → h'.get? b = some u) (hp : h.objs.size ≤ a) (new : gx P w (upd H a o) h' a o) : HOk P w (upd H a o) h' := fun b u e => by
  have hn := x.fresh hp
  by_cases hb : b = a
  · subst hb; rw [fC] at e; cases e; exact new
  · rw [aP hb] at e
    exact (x b u e).nU (fun c v _ q => k c v q) (fun c q => by rw [aP (bh q hn)]; exact q) fun c xs q => by rw [aP (bh q hn)]; exact q
end
noncomputable def Rd (H : Hp) (a : Addr) (u : HO) : Prop := H a = some u ∨ ∃ o, H a = some (.frz o u)
theorem Rd.ok {P : Program} {w : World} {H : Hp} {h : Heap} {a : Addr} {u : HO} (r : Rd H a u) (x : HOk P w H h) : gx P w H h a u := by
  rcases r with r | ⟨o, r⟩
  · exact x a u r
  · obtain ⟨_, q⟩ := x a _ r
    exact q
def Mut : Option HO → Prop
  | some (.lst _) => True
  | some (.dK _) => True
  | some (.dT _) => True
  | some (.set _ _) => True
  | some (.ins _ _ _) => True
  | some (.ext _) => True
  | _ => False
section
variable {P : Program} {w : World} {H : Hp} {h h' : Heap} {x e : Addr} {o' : HO}
theorem HOk.write (ok : HOk P w H h) (mu : Mut (H x)) (he : e = x ∨ H e = some (.own x)) (k : ∀ b u, b ≠ e → h.get? b = some u → h'.get? b = some u) (heo : ∃ u, h'.get? e = some u)
    (new : gx P w (upd H x o') h' x o') : HOk P w (upd H x o') h' := fun b u q => by
  have nown : ∀ c y, H c = some (.own y) → c ≠ x := fun c y r z => by subst z; rw [r] at mu; exact mu
  have ntup : ∀ c xs, H c = some (.tup xs) → c ≠ x := fun c xs r z => by subst z; rw [r] at mu; exact mu
  by_cases hb : b = x
  · subst hb; rw [fC] at q; cases q; exact new
  · rw [aP hb] at q
    by_cases hbe : b = e
    · have q' : H b = some (.own x) := by
        rcases he with z | z
        · exact absurd (hbe.trans z) hb
        · rw [hbe]; exact z
      rw [q] at q'; cases q'
      obtain ⟨v, hv⟩ := heo
      exact ⟨v, by rw [hbe]; exact hv⟩
    · refine (ok b u q).nU (fun c v hc r => k c v ?_ r) (fun c r => by rw [aP (nown c b r)]; exact r) fun c xs r => by rw [aP (ntup c xs r)]; exact r
      rcases hc with rfl | hc
      · exact hbe
      · rintro rfl
        rcases he with z | z
        · exact nown c b hc z
        · rw [hc] at z; cases z; exact hb rfl
end
structure Un (fs ex : List Addr) (H H' : Hp) (h h' : Heap) : Prop where
  keep : ∀ b o, h.get? b = some o → H b = none → b ∉ fs → b ∉ ex → h'.get? b = some o
  slot : ∀ b o, h.get? b = some o → H b = none → b ∈ fs → b ∉ ex → ∃ sl, h'.get? b = some { o with slots := sl }
  free : ∀ b o, h.get? b = some o → H b = none → b ∉ ex → H' b = none
  there : ∀ b o, h.get? b = some o → b ∉ ex → ∃ o', h'.get? b = some o'
  j5 : ∀ b xs, H b = some (.tup xs) → H' b = some (.tup xs)
  jt : ∀ b o u, H b = some (.frz o u) → H' b = some (.frz o u)
  jy : ∀ b ps, H b = some (.tbl ps) → ∃ more, H' b = some (.tbl (ps ++ more))
section
variable {fs fs' ex ex' : List Addr} {H H1 H2 : Hp} {h h1 h2 h' : Heap} {a x e : Addr} {o : HO}
theorem Un.any (u : Un fs ex H H1 h h1) {b : Addr} {ob : Obj} (q : h.get? b = some ob) (n : H b = none) (hx : b ∉ ex) : ∃ sl, h1.get? b = some { ob with slots := sl } := by
  by_cases hb : b ∈ fs
  · exact u.slot b ob q n hb hx
  · exact ⟨ob.slots, u.keep b ob q n hb hx⟩
theorem Un.trans (a : Un fs ex H H1 h h1) (b : Un fs ex H1 H2 h1 h2) : Un fs ex H H2 h h2 where
  keep := fun c ob q n hc hx => b.keep c ob (a.keep c ob q n hc hx) (a.free c ob q n hx) hc hx
  slot := fun c ob q n hc hx => by
    obtain ⟨sl, e1⟩ := a.slot c ob q n hc hx
    obtain ⟨sl', e2⟩ := b.slot c _ e1 (a.free c ob q n hx) hc hx
    exact ⟨sl', e2⟩
  free := fun c ob q n hx => by
    obtain ⟨o', e1⟩ := a.there c ob q hx
    exact b.free c o' e1 (a.free c ob q n hx) hx
  there := fun c ob q hx => by
    obtain ⟨o', e1⟩ := a.there c ob q hx
    exact b.there c o' e1 hx
  j5 := fun c xs q => b.j5 c xs (a.j5 c xs q)
  jt := fun c ob xs q => b.jt c ob xs (a.jt c ob xs q)
  jy := fun c ps q => by
    obtain ⟨m1, e1⟩ := a.jy c ps q
    obtain ⟨m2, e2⟩ := b.jy c _ e1
    exact ⟨m1 ++ m2, by rw [e2, Array.append_assoc]⟩
theorem Un.kept (k : ∀ b u, h.get? b = some u → h'.get? b = some u) : Un fs ex H H h h' :=
  ⟨fun b ob q _ _ _ => k b ob q, fun b ob q _ _ _ => ⟨ob.slots, k b ob q⟩, fun _ _ _ n _ => n, fun b ob q _ => ⟨ob, k b ob q⟩, fun _ _ q => q, fun _ _ _ q => q, fun _ ps q => ⟨#[], by rw [q]; simp⟩⟩
theorem Un.refl : Un fs ex H H h h := Un.kept fun _ _ q => q
theorem Un.laid (k : ∀ b u, h.get? b = some u → h'.get? b = some u) (hp : h.objs.size ≤ a) (hn : H a = none) : Un fs ex H (upd H a o) h h' where
  keep := fun b u q _ _ _ => k b u q
  slot := fun b u q _ _ _ => ⟨u.slots, k b u q⟩
  free := fun b u q n _ => by rw [aP (Nat.ne_of_lt (Nat.lt_of_lt_of_le (Heap.lt_size q) hp))]; exact n
  there := fun b u q _ => ⟨u, k b u q⟩
  j5 := fun b xs q => by rw [aP (bh q hn)]; exact q
  jt := fun b u xs q => by rw [aP (bh q hn)]; exact q
  jy := fun b ps q => ⟨#[], by rw [aP (bh q hn), q]; simp⟩
theorem Un.write (mu : Mut (H x)) (he : e = x ∨ H e = some (.own x)) (k : ∀ b u, b ≠ e → h.get? b = some u → h'.get? b = some u) (heo : ∃ u, h'.get? e = some u) : Un fs ex H (upd H x o) h h' := by
  have hx : ∀ b, H b = none → b ≠ x := fun b n z => by subst z; rw [n] at mu; exact mu
  have hb : ∀ b, H b = none → b ≠ e := fun b n z => by
    subst z
    rcases he with r | r
    · exact hx b n r
    · rw [n] at r; cases r
  have hm : ∀ b u, H b = some u → ¬ Mut (some u) → b ≠ x := fun b u q nm z => by subst z; rw [q] at mu; exact nm mu
  refine ⟨fun b u q n _ _ => k b u (hb b n) q, fun b u q n _ _ => ⟨u.slots, k b u (hb b n) q⟩, fun b u q n _ => by rw [aP (hx b n)]; exact n, fun b u q _ => ?_,
    fun b xs q => by rw [aP (hm b _ q fun z => z)]; exact q, fun b u xs q => by rw [aP (hm b _ q fun z => z)]; exact q, fun b ps q => ⟨#[], by rw [aP (hm b _ q fun z => z), q]; simp⟩⟩
  by_cases hbe : b = e
  · subst hbe; exact heo
  · exact ⟨u, k b u hbe q⟩
end
def trk (h : Heap) (H : Hp) : List Addr := (List.range h.objs.size).filter fun a => (H a).isSome
def nF (h : Heap) (H : Hp) : Heap := PySem.W.hideAll h (trk h H)
theorem sE (h : Heap) (H : Hp) : (nF h H).objs.size = h.objs.size := PySem.W.hideAll_size _ _
theorem tP {h : Heap} {H : Hp} {b : Addr} {o : Obj} (e : h.get? b = some o) (n : H b = none) : (nF h H).get? b = some o :=
  PySem.W.hideAll_get _ e fun hm => by
    have q : (H b).isSome = true := (List.mem_filter.mp hm).2
    rw [n] at q; simp at q
theorem vT {h : Heap} {H : Hp} {b : Addr} {o : Obj} (e : (nF h H).get? b = some o) : h.get? b = some o ∧ H b = none := by
  have e' : h.get? b = some o := PySem.W.of_hideAll (trk h H) e
  refine ⟨e', ?_⟩
  cases q : H b with
  | none => rfl
  | some x =>
    have hm : b ∈ trk h H := List.mem_filter.mpr ⟨List.mem_range.mpr (Heap.lt_size e'), by simp [q]⟩
    have z : (nF h H).get? b = none := PySem.W.hideAll_none (trk h H) hm
    rw [z] at e; cases e
def wo (g h : Heap) (L : Addr) : List (Addr × Obj) := (List.range h.objs.size).filterMap fun a => if a = L ∨ (g.get? a).isSome = true then none else (h.get? a).map fun o => (a, o)
def rest (g h : Heap) (L d : Addr) : List (Addr × Obj) := (wo g h L).filter fun p => decide (p.1 ≠ d)
end L2
namespace L2
open PySem PySem.Spec PyProof.Rows
structure Mod (K : PySem.W.Frag) (mg : Str → Option Value) (base : Heap) : Prop where
  kin : K.In base
  glob : base.Ns mainGlobals mg
  blt : ∃ mb, base.Ns builtinsNs mb ∧ ∀ x : Str, x ≠ "__name__" → mb x = bootBuiltins x
  nolimit : base.NoLimit
structure Cx where
  prog : Program
  w : World
  K : PySem.W.Frag
  mg : Str → Option Value
  base : Heap
  A : Around
  N : List Str
  s₀ : Shared
  H₀ : Hp
  env : Env
  outer : List Env
  stack : List Env
  ex : List Addr
  fn : Str → Bool
  calm : Bool
  pn : List (Addr × Obj)
  xe : Value → Shared → Prop
def frs (l : List Env) : List Addr := l.filterMap (·.frame)
abbrev Cx.fs (X : Cx) : List Addr := frs X.outer
noncomputable def Vis (sc : Scope) (x : Str) : Prop := sc.names.lookup x = some .local ∨ sc.names.lookup x = some .cell ∨ sc.names.lookup x = some .free
noncomputable def Loc (sc : Scope) (x : Str) : Prop := sc.names.lookup x = some .local ∨ sc.names.lookup x = some .cell
noncomputable def Look (env : Env) (h : Heap) (m : Str → Option Value) (x : Str) (u : Value) : Prop :=
  (env.kindOf x = some .local ∧ m x = some u) ∨ ((env.kindOf x = some .cell ∨ env.kindOf x = some .free) ∧ ∃ c, env.cells.lookup x = some c ∧ h.IsCell c (some u))
structure Cx.Ok (X : Cx) : Prop where
  mod : Mod X.K X.mg X.base
  kind : X.env.scope.kind = .function
  glob : X.env.globals = mainGlobals
  blt : X.env.builtins = builtinsNs
  above : X.s₀.heap.objs.size ≤ X.env.locals
  inj : ∀ x y c, X.env.cells.lookup x = some c → X.env.cells.lookup y = some c → x = y
  has : ∀ x, (X.env.kindOf x = some .cell ∨ X.env.kindOf x = some .free) → ∃ c, X.env.cells.lookup x = some c
  cab : ∀ x c, X.fn x = true → X.env.cells.lookup x = some c → X.s₀.heap.objs.size ≤ c
  hd : X.calm = true → X.A.handled = none
  qt : X.A.handled = none ∨ ∃ (e : Addr) (oe : Obj) (vs : Array Value), X.A.handled = some (.ref e) ∧ (e, oe) ∈ X.pn ∧ oe.data = .fields vs ∧ vs[2]? = some .none
  frames : X.A.frames = some X.stack
  stk : X.stack = X.outer ∨ (X.stack = X.env :: X.outer ∧ X.env.frame = some X.env.locals)
  exf : ∀ b ∈ X.ex, b ≠ X.env.locals ∧ ∀ x c, X.env.cells.lookup x = some c → c ≠ b
  bs : ∀ b o, X.base.get? b = some o → X.s₀.heap.get? b = some o ∧ X.H₀ b = none
  bsz : X.base.objs.size ≤ X.s₀.heap.objs.size
  sM : ∀ b o, X.base.get? b = some o → b ∉ X.ex
  wY : ∀ b ∈ X.ex, b ∉ X.fs
  kn : X.s₀.heap.FunFrames X.base X.outer
  frf : ∀ b ∈ X.fs, X.H₀ b = none
structure Inv (X : Cx) (pins : List (Addr × Obj)) (σ : List (Option V)) (H : Hp) (s : Shared) : Prop where
  ok : X.Ok
  os : s.os = X.s₀.os
  bare : AllBare s.gens
  base : Un X.fs X.ex X.H₀ H X.s₀.heap s.heap
  loc : ∃ m, s.heap.Ns X.env.locals m ∧ ∀ (i : Nat) (x : Str) (v : V), X.N[i]? = some x → σ[i]? = some (some v) → Vis X.env.scope x → ∃ u, RelV v u ∧ Look X.env s.heap m x u
  cell : ∀ x c, X.env.cells.lookup x = some c → ∃ v, s.heap.IsCell c v
  free : H X.env.locals = none
  gW : ∀ x c, X.env.cells.lookup x = some c → H c = none
  pin : ∀ p ∈ X.pn ++ pins, s.heap.get? p.1 = some p.2 ∧ H p.1 = none ∧ p.1 ≠ X.env.locals ∧ p.1 ∉ X.fs ∧ ∀ v, p.2.data ≠ .cell v
  hok : HOk X.prog X.w H s.heap
  len : σ.length = X.N.length
section
variable {X : Cx} {pins : List (Addr × Obj)} {σ : List (Option V)} {H H' : Hp} {s : Shared} {h' : Heap}
theorem Inv.p5 (I : Inv X pins σ H s) : dI X.A s.heap := by
  rcases I.ok.qt with q | ⟨e, oe, vs, q, hp, r⟩
  · exact .inl q
  · exact .inr ⟨e, oe, vs, q, (I.pin (e, oe) (List.mem_append_left _ hp)).1, r⟩
theorem Inv.hne (I : Inv X pins σ H s) {b : Addr} (hb : ∀ p ∈ X.pn ++ pins, p.1 ≠ b) : ∀ e, X.A.handled = some (.ref e) → e ≠ b := fun e he => by
  rcases I.ok.qt with q | ⟨e1, oe, vs, q, hp, r⟩
  · rw [q] at he; cases he
  · rw [q] at he; cases he; exact hb (e, oe) (List.mem_append_left _ hp)
theorem Cx.Ok.Az (ok : X.Ok) {b : Addr} {o : Obj} (e : X.base.get? b = some o) : b ∉ X.fs := fun hb => by
  have := (ok.kn.mem hb).1
  rw [e] at this; cases this
theorem Inv.bs (I : Inv X pins σ H s) : ∀ b o, X.base.get? b = some o → s.heap.get? b = some o ∧ H b = none := fun b o e =>
  ⟨I.base.keep b o (I.ok.bs b o e).1 (I.ok.bs b o e).2 (I.ok.Az e) (I.ok.sM b o e), I.base.free b o (I.ok.bs b o e).1 (I.ok.bs b o e).2 (I.ok.sM b o e)⟩
theorem Inv.bk (I : Inv X pins σ H s) : ∀ b o, X.base.get? b = some o → s.heap.get? b = some o := fun b o e => (I.bs b o e).1
theorem Inv.mod (I : Inv X pins σ H s) : Mod X.K X.mg X.base := I.ok.mod
theorem Inv.kIn (I : Inv X pins σ H s) : X.K.In s.heap := I.ok.mod.kin.keeps I.bk
theorem Inv.lt (I : Inv X pins σ H s) : X.env.locals < s.heap.objs.size := let ⟨_, hn, _⟩ := I.loc; hn.lt
theorem Inv.sz (I : Inv X pins σ H s) : X.s₀.heap.objs.size ≤ s.heap.objs.size := Nat.le_trans I.ok.above (Nat.le_of_lt I.lt)
theorem Inv.Ar (I : Inv X pins σ H s) {a : Addr} (h : s.heap.objs.size ≤ a) : a ∉ X.fs := fun hb => by
  obtain ⟨_, o, ho, _⟩ := I.ok.kn.mem hb
  exact absurd (Nat.lt_of_lt_of_le (Heap.lt_size ho) (Nat.le_trans I.sz h)) (Nat.lt_irrefl _)
theorem Inv.cne (I : Inv X pins σ H s) : ∀ x c, X.env.cells.lookup x = some c → c ≠ X.env.locals := fun x c e z => by
  obtain ⟨v, o, ho, hd⟩ := I.cell x c e
  obtain ⟨m, ⟨o', es, ep, ho', hd', _⟩, _⟩ := I.loc
  rw [z, ho'] at ho; cases ho; rw [hd'] at hd; cases hd
theorem Inv.kn (I : Inv X pins σ H s) : s.heap.FunFrames X.base X.outer := by
  have all : ∀ (l : List Env), (∀ b ∈ frs l, b ∈ X.fs) → X.s₀.heap.FunFrames X.base l → s.heap.FunFrames X.base l := by
    intro l
    induction l with
    | nil => intro _ _; trivial
    | cons env r ih =>
      intro hs hl
      obtain ⟨hk, ⟨L, o, hf, hn, ho, hd⟩, hr⟩ := hl
      have hL : L ∈ X.fs := hs L (by unfold frs; rw [List.filterMap_cons, hf]; exact List.mem_cons_self)
      obtain ⟨sl, e⟩ := I.base.slot L o ho (I.ok.frf L hL) hL fun z => I.ok.wY L z hL
      exact ⟨hk, ⟨L, _, hf, hn, e, hd⟩, ih (fun b hb => hs b (by unfold frs; rw [List.filterMap_cons, hf]; exact List.mem_cons_of_mem _ hb)) hr⟩
  exact all X.outer (fun _ hb => hb) I.ok.kn
theorem Inv.stack (I : Inv X pins σ H s) : s.heap.FunFrames X.base X.stack := by
  rcases I.ok.stk with e | ⟨e, hf⟩
  · rw [e]; exact I.kn
  · rw [e]
    obtain ⟨m, hn, _⟩ := I.loc
    refine .cons (by rw [I.ok.kind]; decide) hf hn ?_ I.kn
    exact Heap.get?_none_of_le (Nat.le_trans I.ok.bsz I.ok.above)
theorem Inv.jF (I : Inv X pins σ H s) : ∀ b ∈ frs X.stack, b ∈ X.env.locals :: X.fs := fun b hb => by
  rcases I.ok.stk with e | ⟨e, hf⟩
  · rw [e] at hb; exact List.mem_cons_of_mem _ hb
  · rw [e] at hb
    unfold frs at hb
    rw [List.filterMap_cons, hf] at hb
    exact hb
theorem Inv.nK (I : Inv X pins σ H s) : ∀ b ∈ frs X.stack, H b = none := fun b hb => by
  rcases List.mem_cons.mp (I.jF b hb) with e | hb
  · rw [e]; exact I.free
  · obtain ⟨_, o, ho, _⟩ := I.ok.kn.mem hb
    exact I.base.free b o ho (I.ok.frf b hb) fun z => I.ok.wY b z hb
theorem Inv.step {g' : Array GenState} {t' : Nat} {d' : Drawn} {ch : List Addr} (I : Inv X pins σ H s)
    (hch : ∀ b ∈ ch, (b ∈ X.ex ∨ X.s₀.heap.objs.size ≤ b) ∧ b ≠ X.env.locals ∧ (∀ x c, X.env.cells.lookup x = some c → c ≠ b) ∧ ∀ p ∈ X.pn ++ pins, p.1 ≠ b)
    (keep : ∀ b o, b ≠ X.env.locals → b ∉ X.fs → b ∉ ch → s.heap.get? b = some o → H b = none → h'.get? b = some o)
    (slot : ∀ b o, b ≠ X.env.locals → b ∈ X.fs → b ∉ ch → s.heap.get? b = some o → H b = none → ∃ sl, h'.get? b = some { o with slots := sl }) (free : ∀ b o, b ∉ ch → s.heap.get? b = some o → H b = none → H' b = none)
    (there : ∀ b o, b ∉ ch → s.heap.get? b = some o → ∃ o', h'.get? b = some o')
    (j5 : ∀ b xs, H b = some (.tup xs) → H' b = some (.tup xs)) (jt : ∀ b o u, H b = some (.frz o u) → H' b = some (.frz o u)) (jy : ∀ b ps, H b = some (.tbl ps) → ∃ more, H' b = some (.tbl (ps ++ more)))
    (ns : ∀ m, s.heap.Ns X.env.locals m → h'.Ns X.env.locals m) (hok : HOk X.prog X.w H' h') (hg : AllBare g') :
    Inv X pins σ H' { s with heap := h', gens := g', drawn := d', toks := t' } := by
  have neL : ∀ b o, X.s₀.heap.get? b = some o → b ≠ X.env.locals := fun b o e => Nat.ne_of_lt (Nat.lt_of_lt_of_le (Heap.lt_size e) I.ok.above)
  have neC : ∀ b o, X.s₀.heap.get? b = some o → b ∉ X.ex → b ∉ ch := fun b o e hx hb => by
    rcases (hch b hb).1 with z | z
    · exact hx z
    · exact absurd (Nat.lt_of_lt_of_le (Heap.lt_size e) z) (Nat.lt_irrefl _)
  have cellK : ∀ x c, X.env.cells.lookup x = some c → ∀ v, s.heap.IsCell c v → h'.IsCell c v := fun x c e v ⟨o, ho, hd⟩ => by
    have nch : c ∉ ch := fun z => (hch c z).2.2.1 x c e rfl
    by_cases hc : c ∈ X.fs
    · obtain ⟨sl, q⟩ := slot c o (I.cne x c e) hc nch ho (I.gW x c e)
      exact ⟨_, q, hd⟩
    · exact ⟨o, keep c o (I.cne x c e) hc nch ho (I.gW x c e), hd⟩
  refine ⟨I.ok, I.os, hg, ⟨fun b o e n hb hx => ?_, fun b o e n hb hx => ?_, fun b o e n hx => ?_, fun b o e hx => ?_, fun b xs e => j5 b xs (I.base.j5 b xs e), fun b o xs e => jt b o xs (I.base.jt b o xs e), fun b ps e => ?_⟩, ?_, fun x c e => ?_, ?_, fun x c e => ?_, fun p hp => ?_, hok, I.len⟩
  · exact keep b o (neL b o e) hb (neC b o e hx) (I.base.keep b o e n hb hx) (I.base.free b o e n hx)
  · obtain ⟨sl, e1⟩ := I.base.slot b o e n hb hx
    obtain ⟨sl', e2⟩ := slot b _ (neL b o e) hb (neC b o e hx) e1 (I.base.free b o e n hx)
    exact ⟨sl', e2⟩
  · obtain ⟨o', e1⟩ := I.base.there b o e hx
    exact free b o' (neC b o e hx) e1 (I.base.free b o e n hx)
  · obtain ⟨o', e1⟩ := I.base.there b o e hx
    exact there b o' (neC b o e hx) e1
  · obtain ⟨m1, e1⟩ := I.base.jy b ps e
    obtain ⟨m2, e2⟩ := jy b _ e1
    exact ⟨m1 ++ m2, by rw [e2, Array.append_assoc]⟩
  · obtain ⟨m, hn, hl⟩ := I.loc
    refine ⟨m, ns m hn, fun i x v e1 e2 e3 => ?_⟩
    obtain ⟨u, r, l⟩ := hl i x v e1 e2 e3
    refine ⟨u, r, ?_⟩
    rcases l with l | ⟨k, c, e, z⟩
    · exact .inl l
    · exact .inr ⟨k, c, e, cellK x c e _ z⟩
  · obtain ⟨v, z⟩ := I.cell x c e
    exact ⟨v, cellK x c e v z⟩
  · obtain ⟨m, ⟨o, _, _, ho, _⟩, _⟩ := I.loc
    exact free _ o (fun z => (hch _ z).2.1 rfl) ho I.free
  · obtain ⟨v, o, ho, hd⟩ := I.cell x c e
    exact free c o (fun z => (hch c z).2.2.1 x c e rfl) ho (I.gW x c e)
  · obtain ⟨e, n, ne, nf, d⟩ := I.pin p hp
    have nch : p.1 ∉ ch := fun z => (hch p.1 z).2.2.2 p hp rfl
    exact ⟨keep p.1 p.2 ne nf nch e n, free p.1 p.2 nch e n, ne, nf, d⟩
theorem Inv.un {t' : Nat} (I : Inv X pins σ H s) (u : Un X.fs [] H H' s.heap h') (hok : HOk X.prog X.w H' h') : Inv X pins σ H' { s with heap := h', toks := t' } := by
  obtain ⟨m, ⟨o, es, ep, ho, r⟩, _⟩ := id I.loc
  obtain ⟨sl, hL⟩ := u.any ho I.free (by simp)
  exact I.step (g' := s.gens) (d' := s.drawn) (ch := []) (fun _ z => nomatch z) (fun b o _ hb _ e n => u.keep b o e n hb (by simp)) (fun b o _ hb _ e n => u.slot b o e n hb (by simp)) (fun b o _ e n => u.free b o e n (by simp)) (fun b o _ e => u.there b o e (by simp)) u.j5 u.jt u.jy (fun m' hm => by
    obtain ⟨o', es', ep', ho', r'⟩ := hm
    rw [ho] at ho'; cases ho'
    exact ⟨_, es', ep', hL, r'⟩) hok I.bare
theorem Inv.call {g' : Array GenState} {t' : Nat} {d' : Drawn} {ch : List Addr} (I : Inv X pins σ H s) (u : Un (frs X.stack) ch H H' s.heap h') (hok : HOk X.prog X.w H' h') (hg : AllBare g')
    (hch : ∀ b ∈ ch, (b ∈ X.ex ∨ X.s₀.heap.objs.size ≤ b) ∧ b ≠ X.env.locals ∧ (∀ x c, X.env.cells.lookup x = some c → c ≠ b) ∧ ∀ p ∈ X.pn ++ pins, p.1 ≠ b) :
    Inv X pins σ H' { s with heap := h', gens := g', drawn := d', toks := t' } := by
  obtain ⟨m, ⟨o, es, ep, ho, r⟩, _⟩ := id I.loc
  obtain ⟨sl, hL⟩ := u.any ho I.free fun z => (hch _ z).2.1 rfl
  exact I.step (ch := ch) hch (fun b o hL hb hc e n => u.keep b o e n (fun z => (List.mem_cons.mp (I.jF b z)).elim hL hb) hc) (fun b o _ _ hc e n => u.any e n hc) (fun b o hc e n => u.free b o e n hc) (fun b o hc e => u.there b o e hc) u.j5 u.jt u.jy (fun m' hm => by
    obtain ⟨o', es', ep', ho', r'⟩ := hm
    rw [ho] at ho'; cases ho'
    exact ⟨_, es', ep', hL, r'⟩) hok hg
theorem Inv.turned {t' : Nat} {it : Addr} (I : Inv X pins σ H s) (k : ∀ b o, b ≠ it → s.heap.get? b = some o → h'.get? b = some o) (hn : H it = none) (hL : it ≠ X.env.locals)
    (h1 : it ∈ X.ex ∨ X.s₀.heap.objs.size ≤ it) (h2 : ∀ x c, X.env.cells.lookup x = some c → c ≠ it) (h3 : ∀ p ∈ X.pn ++ pins, p.1 ≠ it) : Inv X pins σ H { s with heap := h', toks := t' } := by
  have nit : ∀ b u, H b = some u → b ≠ it := fun b u e z => by rw [z, hn] at e; cases e
  refine I.step (g' := s.gens) (d' := s.drawn) (ch := [it]) (fun b hb => ?_) (fun b o _ _ hc e _ => k b o (fun z => hc (by simp [z])) e) (fun b o _ _ hc e _ => ⟨o.slots, k b o (fun z => hc (by simp [z])) e⟩) (fun _ _ _ _ n => n)
    (fun b o hc e => ⟨o, k b o (fun z => hc (by simp [z])) e⟩) (fun _ _ e => e) (fun _ _ _ e => e) (fun b ps e => ⟨#[], by rw [e]; simp⟩) (fun m hm => ?_) (fun b u e => ?_) I.bare
  · have e : b = it := by simpa using hb
    subst e
    exact ⟨h1, hL, h2, h3⟩
  · obtain ⟨o, es, ep, ho, r⟩ := hm
    exact ⟨o, es, ep, k _ o (Ne.symm hL) ho, r⟩
  · refine (I.hok b u e).nU (fun c v hc q => k c v ?_ q) (fun _ q => q) fun _ _ q => q
    rcases hc with z | z
    · rw [z]; exact nit b u e
    · exact nit c _ z
theorem Inv.tok (I : Inv X pins σ H s) (t : Nat) : Inv X pins σ H { s with toks := t } := I.un (h' := s.heap) (t' := t) Un.refl I.hok
theorem Inv.kept {t' : Nat} (I : Inv X pins σ H s) (k : ∀ b u, s.heap.get? b = some u → h'.get? b = some u) : Inv X pins σ H { s with heap := h', toks := t' } := I.un (Un.kept k) (I.hok.kept k)
theorem Inv.laid {a : Addr} {o : HO} {t' : Nat} (I : Inv X pins σ H s) (k : ∀ b u, s.heap.get? b = some u → h'.get? b = some u) (hp : s.heap.objs.size ≤ a) (new : gx X.prog X.w (upd H a o) h' a o) :
    Inv X pins σ (upd H a o) { s with heap := h', toks := t' } := I.un (Un.laid k hp (I.hok.fresh hp)) (I.hok.laid k hp new)
theorem Inv.write {x e : Addr} {o : HO} {t' : Nat} (I : Inv X pins σ H s) (mu : Mut (H x)) (he : e = x ∨ H e = some (.own x)) (k : ∀ b u, b ≠ e → s.heap.get? b = some u → h'.get? b = some u) (heo : ∃ u, h'.get? e = some u)
    (new : gx X.prog X.w (upd H x o) h' x o) : Inv X pins σ (upd H x o) { s with heap := h', toks := t' } := I.un (Un.write mu he k heo) (I.hok.write mu he k heo new)
theorem Inv.rS {pins' : List (Addr × Obj)} (I : Inv X pins σ H s) (h : ∀ p ∈ pins', s.heap.get? p.1 = some p.2 ∧ H p.1 = none ∧ p.1 ≠ X.env.locals ∧ p.1 ∉ X.fs ∧ ∀ v, p.2.data ≠ .cell v) : Inv X pins' σ H s :=
  ⟨I.ok, I.os, I.bare, I.base, I.loc, I.cell, I.free, I.gW, fun p hp => (List.mem_append.mp hp).elim (fun z => I.pin p (List.mem_append_left _ z)) (h p), I.hok, I.len⟩
theorem oC {N : List Str} (hN : N.Nodup) {i j : Nat} {x : Str} (a : N[i]? = some x) (b : N[j]? = some x) : i = j := by
  obtain ⟨h1, e1⟩ := List.getElem?_eq_some_iff.mp a
  obtain ⟨h2, e2⟩ := List.getElem?_eq_some_iff.mp b
  exact (List.getElem_inj hN).mp (e1.trans e2.symm)
theorem sR {M : Model} {A : Around} {E : Value → Shared → Prop} {i : Nat} {x : Str} {v : V} {u : Value} {Q : Unit → Shared → Prop} (I : Inv X pins σ H s) (hN : X.N.Nodup) (hi : X.N[i]? = some x) (hx : Loc X.env.scope x) (r : RelV v u)
    (h : ∀ s', Inv X pins (σ.set i (some v)) H s' → (∃ a, Heap.SameBut a s.heap s'.heap ∧ (a = X.env.locals ∨ X.env.cells.lookup x = some a)) → Q () s') (hf : X.fn x = true ∨ X.env.scope.names.lookup x = some .local := by first | exact .inl rfl | exact .inr rfl | assumption) : wpAny M A (storeName X.env x u) Q E s := by
  obtain ⟨m, hn, hl⟩ := id I.loc
  have hcls : (X.env.scope.kind == .class || (X.env.scope.kind == .module && X.env.locals != X.env.globals)) = false := by rw [I.ok.kind]; rfl
  have hiσ : i < σ.length := by rw [I.len]; exact (List.getElem?_eq_some_iff.mp hi).1
  have cne := I.cne
  have tracked : ∀ {a : Addr} {h' : Heap}, (∃ o, s.heap.get? a = some o ∧ H a = none) → Heap.SameBut a s.heap h' → HOk X.prog X.w H h' := fun {a h'} ha hs b ob e => by
    obtain ⟨_, _, hfree⟩ := ha
    refine (I.hok b ob e).nU (fun c w' hc q => (hs.2 c ?_).trans q) (fun _ q => q) fun _ _ q => q
    rintro rfl
    rcases hc with rfl | hc
    · rw [hfree] at e; cases e
    · rw [hfree] at hc; cases hc
  rcases hx with hk | hk
  · refine wpAny_storeName_local hk hn (fun h' hn' hs => ?_) hcls
    obtain ⟨oL, _, _, hoL, _⟩ := id hn
    refine h _ ⟨I.ok, I.os, I.bare, ⟨fun b o e n hb hx => ?_, fun b o e n hb hx => ?_, I.base.free, fun b o e hx => ?_, I.base.j5, I.base.jt, I.base.jy⟩, ⟨_, hn', fun j y v' e1 e2 e3 => ?_⟩, fun y c e => ?_, I.free, I.gW, fun p hp => ?_, tracked ⟨oL, hoL, I.free⟩ hs, by simpa using I.len⟩ ⟨_, hs, .inl rfl⟩
    · exact (hs.2 b (Nat.ne_of_lt (Nat.lt_of_lt_of_le (Heap.lt_size e) I.ok.above))).trans (I.base.keep b o e n hb hx)
    · obtain ⟨sl, e1⟩ := I.base.slot b o e n hb hx
      exact ⟨sl, (hs.2 b (Nat.ne_of_lt (Nat.lt_of_lt_of_le (Heap.lt_size e) I.ok.above))).trans e1⟩
    · obtain ⟨o', e1⟩ := I.base.there b o e hx
      exact ⟨o', (hs.2 b (Nat.ne_of_lt (Nat.lt_of_lt_of_le (Heap.lt_size e) I.ok.above))).trans e1⟩
    · by_cases hj : j = i
      · subst hj
        rw [hi] at e1; cases e1
        rw [List.getElem?_set_self hiσ] at e2
        cases e2
        exact ⟨u, r, .inl ⟨hk, by simp⟩⟩
      · rw [List.getElem?_set_ne (Ne.symm hj)] at e2
        obtain ⟨u', r', q⟩ := hl j y v' e1 e2 e3
        refine ⟨u', r', ?_⟩
        rcases q with ⟨k, e⟩ | ⟨k, c, e, z⟩
        · refine .inl ⟨k, ?_⟩
          have : y ≠ x := fun e => hj (oC hN e1 (e ▸ hi))
          simp [this, e]
        · exact .inr ⟨k, c, e, z.sameBut hs (cne y c e)⟩
    · obtain ⟨w', z⟩ := I.cell y c e
      exact ⟨w', z.sameBut hs (cne y c e)⟩
    · obtain ⟨e, n, ne, nf, d⟩ := I.pin p hp
      exact ⟨(hs.2 p.1 ne).trans e, n, ne, nf, d⟩
  · have hfn : X.fn x = true := by
      rcases hf with z | z
      · exact z
      · rw [z] at hk; cases hk
    obtain ⟨c, hc⟩ := I.ok.has x (.inl hk)
    obtain ⟨w', z⟩ := I.cell x c hc
    refine wpAny_storeName_cell I.ok.kind hk hc z (fun h' hc' hs => ?_)
    obtain ⟨oc, hoc, hocd⟩ := id z
    refine h { s with heap := h' } ⟨I.ok, I.os, I.bare, ⟨fun b o e n hb hx => ?_, fun b o e n hb hx => ?_, I.base.free, fun b o e hx => ?_, I.base.j5, I.base.jt, I.base.jy⟩, ⟨m, hn.sameBut hs (Ne.symm (cne x c hc)), fun j y v' e1 e2 e3 => ?_⟩, fun y c' e => ?_, I.free, I.gW, fun p hp => ?_, tracked ⟨oc, hoc, I.gW x c hc⟩ hs, by simpa using I.len⟩ ⟨c, hs, .inr hc⟩
    · exact (hs.2 b (Nat.ne_of_lt (Nat.lt_of_lt_of_le (Heap.lt_size e) (I.ok.cab x c hfn hc)))).trans (I.base.keep b o e n hb hx)
    · obtain ⟨sl, e1⟩ := I.base.slot b o e n hb hx
      exact ⟨sl, (hs.2 b (Nat.ne_of_lt (Nat.lt_of_lt_of_le (Heap.lt_size e) (I.ok.cab x c hfn hc)))).trans e1⟩
    · obtain ⟨o', e1⟩ := I.base.there b o e hx
      exact ⟨o', (hs.2 b (Nat.ne_of_lt (Nat.lt_of_lt_of_le (Heap.lt_size e) (I.ok.cab x c hfn hc)))).trans e1⟩
    · by_cases hj : j = i
      · subst hj
        rw [hi] at e1; cases e1
        rw [List.getElem?_set_self hiσ] at e2
        cases e2
        exact ⟨u, r, .inr ⟨.inl hk, c, hc, hc'⟩⟩
      · rw [List.getElem?_set_ne (Ne.symm hj)] at e2
        obtain ⟨u', r', q⟩ := hl j y v' e1 e2 e3
        refine ⟨u', r', ?_⟩
        rcases q with q | ⟨k, c', e, z'⟩
        · exact .inl q
        · refine .inr ⟨k, c', e, z'.sameBut hs ?_⟩
          rintro rfl
          exact hj (oC hN e1 (I.ok.inj _ _ _ e hc ▸ hi))
    · by_cases hcc : c' = c
      · subst hcc; exact ⟨_, hc'⟩
      · obtain ⟨w2, z2⟩ := I.cell y c' e
        exact ⟨w2, z2.sameBut hs hcc⟩
    · obtain ⟨e, n, ne, nf, d⟩ := I.pin p hp
      refine ⟨(hs.2 p.1 ?_).trans e, n, ne, nf, d⟩
      intro q
      rw [q, hoc] at e
      have q' : oc = p.2 := Option.some.inj e
      exact d w' (by rw [← q']; exact hocd)
theorem iM {M : Model} {A : Around} {E : Value → Shared → Prop} {i : Nat} {x : Str} {v : V} {u : Value} {Q : Unit → Shared → Prop} (I : Inv X pins σ H s) (hN : X.N.Nodup) (hi : X.N[i]? = some x) (hx : Loc X.env.scope x) (r : RelV v u)
    (h : ∀ s', Inv X pins (σ.set i (some v)) H s' → Q () s') (hf : X.fn x = true ∨ X.env.scope.names.lookup x = some .local := by first | exact .inl rfl | exact .inr rfl | assumption) : wpAny M A (storeName X.env x u) Q E s :=
  sR I hN hi hx r (fun s' I' _ => h s' I') hf
theorem Inv.xb {s' : Shared} {ch : List Addr} (I : Inv X pins σ H s) (ho : s'.os = s.os) (u : Un (frs X.stack) ch H H' s.heap s'.heap) (hok : HOk X.prog X.w H' s'.heap) (hg : AllBare s'.gens)
    (hch : ∀ b ∈ ch, (b ∈ X.ex ∨ X.s₀.heap.objs.size ≤ b) ∧ b ≠ X.env.locals ∧ (∀ x c, X.env.cells.lookup x = some c → c ≠ b) ∧ ∀ p ∈ X.pn ++ pins, p.1 ≠ b) : Inv X pins σ H' s' := by
  obtain ⟨h', g', d', t', o'⟩ := s'
  have e : o' = s.os := ho
  subst e
  exact I.call (g' := g') (t' := t') (d' := d') u hok hg hch
end
abbrev XK := Value → Option Addr → Hp → Prop
abbrev St := List (Option V)
abbrev VK := V → Hp → Prop
abbrev TE := St → Hp → VK → Prop
abbrev TT := St → Hp → (Bool → Hp → Prop) → Prop
abbrev TA := St → Hp → (List V → Hp → Prop) → Prop
structure Ends where
  nx : St → Hp → Prop
  rt : VK
  bk : St → Hp → Prop := fun _ _ => False
  ct : St → Hp → Prop := fun _ _ => False
abbrev TS := Ends → St → Hp → Prop
noncomputable def EP (X : Cx) (pins : List (Addr × Obj)) (σ : St) (Q : VK) (u : Value) (s' : Shared) : Prop := ∃ v H', Inv X pins σ H' s' ∧ RelV v u ∧ Q v H'
noncomputable def TP (X : Cx) (pins : List (Addr × Obj)) (σ : St) (Q : Bool → Hp → Prop) (b : Bool) (s' : Shared) : Prop := ∃ H', Inv X pins σ H' s' ∧ Q b H'
noncomputable def AP (X : Cx) (pins : List (Addr × Obj)) (σ : St) (Q : List V → Hp → Prop) (us : List Value) (s' : Shared) : Prop := ∃ vs H', Inv X pins σ H' s' ∧ Vals vs us ∧ Q vs H'
noncomputable def SP (X : Cx) (pins : List (Addr × Obj)) (D : Ends) (f : Flow) (s' : Shared) : Prop :=
  match f with
  | .next => ∃ σ' H', Inv X pins σ' H' s' ∧ D.nx σ' H'
  | .brk => ∃ σ' H', Inv X pins σ' H' s' ∧ D.bk σ' H'
  | .cont => ∃ σ' H', Inv X pins σ' H' s' ∧ D.ct σ' H'
  | .ret u => ∃ v σ' H', Inv X pins σ' H' s' ∧ RelV v u ∧ D.rt v H'
noncomputable def PE (X : Cx) (e : Expr) (t : TE) : Prop :=
  ∀ (pins : List (Addr × Obj)) (s : Shared) (σ : St) (H : Hp) (Q : VK), Inv X pins σ H s → t σ H Q → wpAny (model X.prog X.w) X.A (eval e X.env) (EP X pins σ Q) X.xe s
noncomputable def PT (X : Cx) (e : Expr) (t : TT) : Prop :=
  ∀ (pins : List (Addr × Obj)) (s : Shared) (σ : St) (H : Hp) (Q : Bool → Hp → Prop), Inv X pins σ H s → t σ H Q → wpAny (model X.prog X.w) X.A (isTrue e X.env (eval e X.env)) (TP X pins σ Q) X.xe s
noncomputable def PW (X : Cx) (e : Expr) (t : TT) : Prop :=
  ∀ (whole : Sem Value) (pins : List (Addr × Obj)) (s : Shared) (σ : St) (H : Hp) (Q : Bool → Hp → Prop), Inv X pins σ H s → t σ H Q → wpAny (model X.prog X.w) X.A (isTrue e X.env whole) (TP X pins σ Q) X.xe s
theorem PW.pt {X : Cx} {e : Expr} {t : TT} (h : PW X e t) : PT X e t := h _
noncomputable def PA (X : Cx) (es : List Expr) (t : TA) : Prop :=
  ∀ (pos : Pos) (pins : List (Addr × Obj)) (s : Shared) (σ : St) (H : Hp) (Q : List V → Hp → Prop), Inv X pins σ H s → t σ H Q → wpAny (model X.prog X.w) X.A (spliced (backTo pos (starEach es X.env))) (AP X pins σ Q) X.xe s
noncomputable def PS (X : Cx) (st : Stmt) (t : TS) : Prop :=
  ∀ (pins : List (Addr × Obj)) (s : Shared) (σ : St) (H : Hp) (D : Ends), Inv X pins σ H s → t D σ H → wpAny (model X.prog X.w) X.A (exec st X.env) (SP X pins D) X.xe s
noncomputable def PSs (X : Cx) (st : List Stmt) (t : TS) : Prop :=
  ∀ (pins : List (Addr × Obj)) (s : Shared) (σ : St) (H : Hp) (D : Ends), Inv X pins σ H s → t D σ H → wpAny (model X.prog X.w) X.A (execs st X.env) (SP X pins D) X.xe s
theorem thn {α : Type} {t : Sem α} {Q Q' : α → Shared → Prop} {M : Model} {A : Around} {E : Value → Shared → Prop} {s : Shared} (h : wpAny M A t Q E s) (hQ : ∀ a s, Q a s → Q' a s) : wpAny M A t Q' E s := wpAny_mono h hQ fun _ _ x => x
end L2
namespace L2
open PySem PySem.Spec PyProof.Rows
section
variable {X : Cx}
theorem bin {a b : Expr} {ta tb : TE} (ha : PE X a ta) (hb : PE X b tb) {pins : List (Addr × Obj)} {s : Shared} {σ : St} {H : Hp} {R : V → V → Hp → Prop} (I : Inv X pins σ H s) (h : ta σ H fun x H1 => tb σ H1 fun y H2 => R x y H2)
    {α : Type} {Q : α → Shared → Prop} {f : Value → Value → Sem α}
    (hf : ∀ v u s2 x y H2, Inv X pins σ H2 s2 → RelV x v → RelV y u → R x y H2 → wpAny (model X.prog X.w) X.A (f v u) Q X.xe s2) :
    wpAny (model X.prog X.w) X.A (eval a X.env) (fun v s₁ => wpAny (model X.prog X.w) X.A (eval b X.env) (fun u s₂ => wpAny (model X.prog X.w) X.A (f v u) Q X.xe s₂) X.xe s₁) X.xe s := by
  refine thn (ha pins s σ H _ I h) fun v s1 ⟨x, H1, I1, r1, q1⟩ => ?_
  refine thn (hb pins s1 σ H1 _ I1 q1) fun u s2 ⟨y, H2, I2, r2, q2⟩ => ?_
  exact hf v u s2 x y H2 I2 r1 r2 q2
noncomputable def zH (i : Nat) : TE := fun σ H Q => ∃ v, σ[i]? = some (some v) ∧ Q v H
noncomputable def tC (v : V) : TE := fun _ H Q => Q v H
theorem xU {i : Nat} {x : Str} {pos : Pos} (hN : X.N[i]? = some x) (hv : Vis X.env.scope x) (hd : (x == ("__debug__" : Str)) = false := by decide) (hcd : (x == ("__classdict__" : Str)) = false := by decide) : PE X (.Name x pos) (zH i) := by
  intro pins s σ H Q I h
  obtain ⟨v, e, h⟩ := h
  obtain ⟨m, hn, hl⟩ := I.loc
  obtain ⟨u, r, l⟩ := hl i x v hN e hv
  have fin : EP X pins σ Q u s := ⟨v, H, I, r, h⟩
  rcases l with ⟨hk, hm⟩ | ⟨hk, c, hc, hcell⟩
  · exact wpAny_Name (wpAny_loadName_local I.ok.kind hk hn hm fin) hd
  · rcases hk with hk | hk
    · exact wpAny_Name (wpAny_loadName_cell I.ok.kind hk hc hcell fin) hd
    · exact wpAny_Name (wpAny_loadName_free I.ok.kind hk hc hcell fin hcd) hd
theorem xO {i j pos} : PE X (.Constant (.int i) j pos) (tC (.int i)) := fun _ _ _ H _ I h => wpAny_Constant_int ⟨.int i, H, I.tok _, ⟨_, rfl⟩, h⟩
theorem Ab {b j pos} : PE X (.Constant (.bool b) j pos) (tC (.bl b)) := fun _ _ _ H _ I h => Constant_bool ⟨.bl b, H, I, rfl, h⟩
theorem x4 {x j pos} : PE X (.Constant (.str x) j pos) (tC (.str x)) := fun _ _ _ H _ I h => Calls.Constant_str ⟨.str x, H, I.tok _, ⟨_, rfl⟩, h⟩
noncomputable def Gl (X : Cx) (x : Str) : Prop := X.env.kindOf x = some .globalImplicit
theorem q4 {E : Value → Shared → Prop} {pins : List (Addr × Obj)} {s : Shared} {σ : St} {H : Hp} {x : Str} {u : Value} {pos : Pos} {Q : Value → Shared → Prop} (I : Inv X pins σ H s) (hg : Gl X x) (hm : X.mg x = some u) (h : Q u s)
    (hd : (x == ("__debug__" : Str)) = false := by decide) : wpAny (model X.prog X.w) X.A (eval (.Name x pos) X.env) Q E s :=
  Calls.Name_function_global I.ok.kind hg (Calls.loadGlobal_global (by rw [I.ok.glob]; exact I.mod.glob.keeps I.bk) hm h) hd
theorem nR {E : Value → Shared → Prop} {pins : List (Addr × Obj)} {s : Shared} {σ : St} {H : Hp} {x : Str} {u : Value} {pos : Pos} {Q : Value → Shared → Prop} (I : Inv X pins σ H s) (hg : Gl X x) (hm : X.mg x = none) (hv : bootBuiltins x = some u) (h : Q u s)
    (hn : x ≠ "__name__" := by decide) (hd : (x == ("__debug__" : Str)) = false := by decide) : wpAny (model X.prog X.w) X.A (eval (.Name x pos) X.env) Q E s := by
  obtain ⟨mb, h1, h2⟩ := I.mod.blt
  exact Calls.Name_function_global I.ok.kind hg (Calls.loadGlobal_builtin (by rw [I.ok.glob]; exact I.mod.glob.keeps I.bk) hm (by rw [I.ok.blt]; exact h1.keeps I.bk) ((h2 x hn).trans hv) h) hd
theorem w5 {x : Str} {v : V} {u : Value} {pos : Pos} (hg : Gl X x) (hm : X.mg x = some u) (r : RelV v u) (hd : (x == ("__debug__" : Str)) = false := by decide) : PE X (.Name x pos) (tC v) :=
  fun _ _ _ H _ I h => q4 I hg hm ⟨v, H, I, r, h⟩ hd
theorem vY {x : Str} {v : V} {u : Value} {pos : Pos} (hg : Gl X x) (hm : X.mg x = none) (hv : bootBuiltins x = some u) (r : RelV v u) (hn : x ≠ "__name__" := by decide) (hd : (x == ("__debug__" : Str)) = false := by decide) : PE X (.Name x pos) (tC v) :=
  fun _ _ _ H _ I h => nR I hg hm hv ⟨v, H, I, r, h⟩ hn hd
variable {a b : Expr} {ta tb : TE} {pos : Pos}
noncomputable def PC (X : Cx) (op : CmpOp) (a b : Expr) (t : TE) : Prop :=
  ∀ (pins : List (Addr × Obj)) (s : Shared) (σ : St) (H : Hp) (Q : VK), Inv X pins σ H s → t σ H Q →
    wpAny (model X.prog X.w) X.A (eval a X.env) (fun v s₁ => wpAny (model X.prog X.w) X.A (eval b X.env) (fun u s₂ => wpAny (model X.prog X.w) X.A (compareOp op v u) (EP X pins σ Q) X.xe s₂) X.xe s₁) X.xe s
theorem uM (b : Expr) {op : CmpOp} (h : op ≠ .In) (h2 : op ≠ .NotIn) : behindInMarks op b = false := by
  have e1 : (op == CmpOp.In) = false := by cases op <;> first | rfl | exact absurd rfl h
  have e2 : (op == CmpOp.NotIn) = false := by cases op <;> first | rfl | exact absurd rfl h2
  cases b <;> simp [behindInMarks, e1, e2]
noncomputable def tB (t : TE) : TT := fun σ H Q => t σ H fun x H1 => ∃ c, x = .bl c ∧ Q c H1
theorem AF {op : CmpOp} {t : TE} (h : PC X op a b t) (h1 : behindInMarks op b = false := by first | exact uM _ (by decide) (by decide) | rfl) : PT X (.Compare a [op] [b] pos) (tB t) := by
  intro pins s σ H Q I hw
  refine wpAny_isTrue_Compare1 (thn (h pins s σ H _ I hw) fun v s1 h1 => thn h1 fun u s2 h2 => thn h2 fun c s3 ⟨x, H1, I1, r1, q1⟩ => ?_) h1
  obtain ⟨d, rfl, q⟩ := q1
  cases r1
  exact wpAny_truthy_bool ⟨H1, I1, q⟩
theorem xZ {e : Expr} {t : TE} (h : PE X e t) (he : ∀ whole, isTrue e X.env whole = (do let v ← whole; standAt e.pos; holding [v] (truthy v)) := by intro _; rfl) : PT X e (tB t) := by
  intro pins s σ H Q I hw
  refine isTrue_plain (thn (h pins s σ H _ I hw) fun v s1 ⟨x, H1, I1, r1, q1⟩ => ?_) (he _)
  obtain ⟨d, rfl, q⟩ := q1
  cases r1
  exact wpAny_truthy_bool ⟨H1, I1, q⟩
variable {tA tB' : TT} {rest : List Expr}
noncomputable def Ap (t u : TT) : TT := fun σ H Q => t σ H fun c H1 => if c = true then u σ H1 Q else Q false H1
noncomputable def tOr (t u : TT) : TT := fun σ H Q => t σ H fun c H1 => if c = true then Q true H1 else u σ H1 Q
noncomputable def Au (t : TT) : TT := fun σ H Q => t σ H fun c H1 => Q (!c) H1
theorem pw_and1 (ha : PT X a tA) : PW X (.BoolOp .And [a] pos) tA := by
  intro wh pins s σ H Q I h
  refine isTrue_and (thn (ha pins s σ H Q I h) fun c s1 e => ?_)
  cases c with
  | true => exact isTrue_and_nil e
  | false => exact e
theorem pw_or1 (ha : PT X a tA) : PW X (.BoolOp .Or [a] pos) tA := by
  intro wh pins s σ H Q I h
  refine isTrue_or (thn (ha pins s σ H Q I h) fun c s1 e => ?_)
  cases c with
  | false => exact isTrue_or_nil e
  | true => exact e
theorem pw_and (ha : PT X a tA) (hb : PW X (.BoolOp .And (b :: rest) pos) tB') : PW X (.BoolOp .And (a :: b :: rest) pos) (Ap tA tB') := by
  intro wh pins s σ H Q I h
  refine isTrue_and (thn (ha pins s σ H _ I h) fun c s1 ⟨H1, I1, q1⟩ => ?_)
  cases c with
  | true => exact hb wh pins s1 σ H1 Q I1 q1
  | false => exact ⟨H1, I1, q1⟩
theorem pw_or (ha : PT X a tA) (hb : PW X (.BoolOp .Or (b :: rest) pos) tB') : PW X (.BoolOp .Or (a :: b :: rest) pos) (tOr tA tB') := by
  intro wh pins s σ H Q I h
  refine isTrue_or (thn (ha pins s σ H _ I h) fun c s1 ⟨H1, I1, q1⟩ => ?_)
  cases c with
  | true => exact ⟨H1, I1, q1⟩
  | false => exact hb wh pins s1 σ H1 Q I1 q1
theorem ye (ha : PT X a tA) : PT X (.UnaryOp .Not a pos) (Au tA) := by
  intro pins s σ H Q I h
  exact isTrue_not (ha pins s σ H (fun c H1 => Q (!c) H1) I h)
noncomputable def zy (ta tb : TE) : TE := fun σ H Q => ta σ H fun x H1 => ∃ c, x = .bl c ∧ if c = true then tb σ H1 Q else Q (.bl false) H1
noncomputable def zh (ta : TE) : TE := fun σ H Q => ta σ H fun x H1 => ∃ c, x = .bl c ∧ Q (.bl (!c)) H1
theorem xD {op} {t : TE} (h : PE X a t) : PE X (.BoolOp op [a] pos) t := fun pins s σ H Q I hw => BoolOp_one (h pins s σ H Q I hw)
theorem xS (ha : PE X a ta) (hb : PE X (.BoolOp .And (b :: rest) pos) tb) : PE X (.BoolOp .And (a :: b :: rest) pos) (zy ta tb) := by
  intro pins s σ H Q I h
  refine BoolOp_and (thn (ha pins s σ H _ I h) fun v s1 ⟨x, H1, I1, r1, q1⟩ => ?_)
  obtain ⟨c, rfl, q1⟩ := q1
  cases r1
  refine wpAny_truthy_bool ?_
  cases c with
  | true => exact hb pins s1 σ H1 Q I1 q1
  | false => exact ⟨.bl false, H1, I1, rfl, q1⟩
theorem y0 (ha : PE X a ta) : PE X (.UnaryOp .Not a pos) (zh ta) := by
  intro pins s σ H Q I h
  refine UnaryOp_ (thn (ha pins s σ H _ I h) fun v s1 ⟨x, H1, I1, r1, q1⟩ => ?_)
  obtain ⟨c, rfl, q1⟩ := q1
  cases r1
  exact not_of (wpAny_truthy_bool ⟨.bl (!c), H1, I1, rfl, q1⟩)
noncomputable def tIf (t : TT) (ta tb : TE) : TE := fun σ H Q => t σ H fun c H1 => if c = true then ta σ H1 Q else tb σ H1 Q
theorem uQ {c : Expr} (hc : PT X c tA) (ha : PE X a ta) (hb : PE X b tb) : PE X (.IfExp c a b pos) (tIf tA ta tb) := by
  intro pins s σ H Q I h
  refine wpAny_IfExp (thn (hc pins s σ H _ I h) fun d s1 ⟨H1, I1, q1⟩ => ?_)
  cases d with
  | true => exact ha pins s1 σ H1 Q I1 q1
  | false => exact hb pins s1 σ H1 Q I1 q1
end
end L2
namespace L2
open PySem PySem.Spec PyProof.Rows
noncomputable def SqL (K : PySem.W.Frag) (H : Hp) (a : Addr) (xs : List V) : Prop :=
  Rd H a (.lst xs) ∨
    ∃ (o : Obj) (its : Array Value) (n : Nat), K.lookup a = some o ∧ o.cls = .type "list" ∧ o.dict = none ∧ o.data = .seq its n ∧ its.size ≤ sizeLine ∧ Vals xs its.toList
noncomputable def SqT (K : PySem.W.Frag) (H : Hp) (a : Addr) (xs : List V) : Prop :=
  Rd H a (.tup xs) ∨
    ∃ (o : Obj) (its : Array Value) (n : Nat), K.lookup a = some o ∧ o.cls = .type "tuple" ∧ o.data = .seq its n ∧ its.size ≤ sizeLine ∧ Vals xs its.toList
def A1 : Value → Option V
  | .none => some .non
  | .bool b => some (.bl b)
  | .int i _ => some (.int i)
  | .str x _ => some (.str x)
  | .bytes b _ => some (.byt b)
  | .float b _ => some (.flt b)
  | .ref a => some (.ref a)
  | .type n => some (.ty n)
  | _ => none
theorem RelV.abs {x : V} {u : Value} (r : RelV x u) : A1 u = some x := by
  cases x with
  | non => cases r; rfl
  | bl _ => cases r; rfl
  | int _ => obtain ⟨t, rfl⟩ := r; rfl
  | str _ => obtain ⟨t, rfl⟩ := r; rfl
  | byt _ => obtain ⟨t, rfl⟩ := r; rfl
  | flt _ => obtain ⟨t, rfl⟩ := r; rfl
  | ref _ => cases r; rfl
  | ty _ => cases r; rfl
theorem RelV.inj {x y : V} {u : Value} (r : RelV x u) (q : RelV y u) : x = y := Option.some.inj (r.abs.symm.trans q.abs)
theorem Vals.inj : ∀ {xs ys : List V} {us : List Value}, Vals xs us → Vals ys us → xs = ys
  | _, _, _, .nil, .nil => rfl
  | _, _, _, .cons r t, .cons r' t' => by rw [r.inj r', Vals.inj t t']
section
variable {X : Cx} {pins : List (Addr × Obj)} {σ : St} {H : Hp} {s : Shared} {a : Addr} {xs ys : List V}
theorem SqL.of {K : PySem.W.Frag} (h : H a = some (.lst xs)) : SqL K H a xs := .inl (.inl h)
theorem SqT.of {K : PySem.W.Frag} (h : H a = some (.tup xs)) : SqT K H a xs := .inl (.inl h)
theorem Inv.list (I : Inv X pins σ H s) (h : SqL X.K H a xs) : ∃ its : List Value, Vals xs its ∧ PlainL s.heap a its.toArray ∧ xs.length ≤ sizeLine := by
  rcases h with h | ⟨o, its, n, hk, hc, hd, hs, hz, r⟩
  · obtain ⟨z, its, n, r, e⟩ := h.ok I.hok
    exact ⟨its, r, ⟨_, n, e, rfl, rfl, rfl⟩, z⟩
  · refine ⟨its.toList, r, ⟨o, n, I.kIn a o hk, hc, hd, by simpa using hs⟩, ?_⟩
    have e := r.length
    simp only [Array.length_toList] at e
    omega
theorem Inv.tuple (I : Inv X pins σ H s) (h : SqT X.K H a xs) : ∃ its : List Value, Vals xs its ∧ IsTup s.heap a its.toArray ∧ xs.length ≤ sizeLine := by
  rcases h with h | ⟨o, its, n, hk, hc, hs, hz, r⟩
  · obtain ⟨z, its, r, p⟩ := h.ok I.hok
    exact ⟨its, r, p, z⟩
  · refine ⟨its.toList, r, ⟨o, I.kIn a o hk, hc, n, by simpa using hs⟩, ?_⟩
    have e := r.length
    simp only [Array.length_toList] at e
    omega
theorem Inv.ue (I : Inv X pins σ H s) (h : SqL X.K H a xs) (h' : SqL X.K H a ys) : xs = ys := by
  obtain ⟨its, r, ⟨o, n, e, _, _, d⟩, _⟩ := I.list h
  obtain ⟨its', r', ⟨o', n', e', _, _, d'⟩, _⟩ := I.list h'
  rw [e] at e'; cases e'
  rw [d] at d'
  injection d' with d1 _
  have : its = its' := by simpa using congrArg Array.toList d1
  subst this
  exact r.inj r'
theorem Inv.rX (I : Inv X pins σ H s) (h : SqT X.K H a xs) (h' : SqT X.K H a ys) : xs = ys := by
  obtain ⟨its, r, ⟨o, e, _, n, d⟩, _⟩ := I.tuple h
  obtain ⟨its', r', ⟨o', e', _, n', d'⟩, _⟩ := I.tuple h'
  rw [e] at e'; cases e'
  rw [d] at d'
  injection d' with d1 _
  have : its = its' := by simpa using congrArg Array.toList d1
  subst this
  exact r.inj r'
end
abbrev Cx.md (X : Cx) (E : Value → Shared → Prop) : Cx := { X with xe := E }
abbrev Cx.nox (X : Cx) : Cx := X.md fun _ _ => False
theorem Cx.Ok.md {X : Cx} (ok : X.Ok) (E : Value → Shared → Prop) : (X.md E).Ok :=
  ⟨ok.mod, ok.kind, ok.glob, ok.blt, ok.above, ok.inj, ok.has, ok.cab, ok.hd, ok.qt, ok.frames, ok.stk, ok.exf, ok.bs, ok.bsz, ok.sM, ok.wY, ok.kn, ok.frf⟩
theorem Cx.Ok.gO {X : Cx} {E : Value → Shared → Prop} (ok : (X.md E).Ok) : X.Ok :=
  ⟨ok.mod, ok.kind, ok.glob, ok.blt, ok.above, ok.inj, ok.has, ok.cab, ok.hd, ok.qt, ok.frames, ok.stk, ok.exf, ok.bs, ok.bsz, ok.sM, ok.wY, ok.kn, ok.frf⟩
section
variable {X : Cx} {pins : List (Addr × Obj)} {σ : St} {H : Hp} {s : Shared} {E : Value → Shared → Prop}
theorem Inv.md (I : Inv X pins σ H s) (E : Value → Shared → Prop) : Inv (X.md E) pins σ H s := ⟨I.ok.md E, I.os, I.bare, I.base, I.loc, I.cell, I.free, I.gW, I.pin, I.hok, I.len⟩
theorem Inv.gO (I : Inv (X.md E) pins σ H s) : Inv X pins σ H s := ⟨I.ok.gO, I.os, I.bare, I.base, I.loc, I.cell, I.free, I.gW, I.pin, I.hok, I.len⟩
theorem SP.gO {D : Ends} {f : Flow} {s' : Shared} (h : SP (X.md E) pins D f s') : SP X pins D f s' := by
  cases f with
  | next => obtain ⟨σ', H', I, q⟩ := h; exact ⟨σ', H', I.gO, q⟩
  | brk => obtain ⟨σ', H', I, q⟩ := h; exact ⟨σ', H', I.gO, q⟩
  | cont => obtain ⟨σ', H', I, q⟩ := h; exact ⟨σ', H', I.gO, q⟩
  | ret u => obtain ⟨v, σ', H', I, r, q⟩ := h; exact ⟨v, σ', H', I.gO, r, q⟩
theorem PSs.nox {st : List Stmt} {t : TS} (h : PSs X.nox st t) : PSs X st t := fun pins s σ H D I hw =>
  wpAny_mono (h pins s σ H D (I.md _) hw) (fun _ _ q => q.gO) fun _ _ z => False.elim z
end
section
variable {X : Cx} {st : Stmt} {rest : List Stmt} {t u : TS} {e : Expr} {te : TE} {pos : Pos}
noncomputable def zR : TS := fun D σ H => D.nx σ H
noncomputable def zI (t u : TS) : TS := fun D σ H => t { D with nx := u D } σ H
theorem wW : PSs X [] zR := fun _ _ σ H _ I h => wpAny_execs_nil ⟨σ, H, I, h⟩
theorem uz (h1 : PS X st t) (h2 : PSs X rest u) : PSs X (st :: rest) (zI t u) := by
  intro pins s σ H D I h
  refine wpAny_execs_cons (thn (h1 pins s σ H { D with nx := u D } I h) fun f s1 q => ?_)
  cases f with
  | next =>
    obtain ⟨σ', H', I', q⟩ := q
    exact h2 pins s1 σ' H' D I' q
  | ret v => exact q
  | brk => exact q
  | cont => exact q
theorem vC (h1 : PS X st t) : PSs X [st] t := by
  intro pins s σ H D I h
  refine wpAny_execs_cons (thn (h1 pins s σ H D I h) fun f s1 q => ?_)
  cases f with
  | next => exact wpAny_execs_nil q
  | ret v => exact q
  | brk => exact q
  | cont => exact q
theorem Inv.quiet {pins : List (Addr × Obj)} {σ : St} {H : Hp} {s : Shared} (I : Inv X pins σ H s) : interactive X.env = false := by simp [interactive, I.ok.kind]
noncomputable def ze (te : TE) : TS := fun D σ H => te σ H fun _ H1 => D.nx σ H1
theorem wK (he : PE X e te) (hs : swapsWith e none pos.line X.env = pure false := by rfl) : PS X (.Expr e pos) (ze te) := by
  intro pins s σ H D I h
  exact wpAny_Expr_any (thn (he pins s σ H _ I h) fun v s1 ⟨x, H1, I1, r1, q1⟩ => ⟨σ, H1, I1, q1⟩) I.quiet hs
noncomputable def AR (te : TE) : TS := fun D σ H => te σ H D.rt
theorem yi (he : PE X e te) : PS X (.Return (some e) pos) (AR te) := by
  intro pins s σ H D I h
  exact wpAny_Return_some (thn (he pins s σ H _ I h) fun v s1 ⟨x, H1, I1, r1, q1⟩ => ⟨x, σ, H1, I1, r1, q1⟩)
noncomputable def Av (c : TT) (t u : TS) : TS := fun D σ H => c σ H fun b H1 => if b = true then t D σ H1 else u D σ H1
theorem Ac {c : Expr} {a b : List Stmt} {tc : TT} (hc : PT X c tc) (ha : PSs X a t) (hb : PSs X b u) : PS X (.If c a b pos) (Av tc t u) := by
  intro pins s σ H D I h
  refine wpAny_If (thn (hc pins s σ H _ I h) fun d s1 ⟨H1, I1, q1⟩ => ?_)
  cases d with
  | true => exact ha pins s1 σ H1 D I1 q1
  | false => exact hb pins s1 σ H1 D I1 q1
end
abbrev TG := V → St → Hp → (St → Hp → Prop) → Prop
abbrev TGs := List V → St → Hp → (St → Hp → Prop) → Prop
noncomputable def PG (X : Cx) (target : Expr) (t : TG) : Prop :=
  ∀ (pins : List (Addr × Obj)) (s : Shared) (σ : St) (H : Hp) (v : V) (u : Value) (Q : St → Hp → Prop), Inv X pins σ H s → RelV v u → t v σ H Q →
    wpAny (model X.prog X.w) X.A (assign target X.env u) (fun _ s' => ∃ σ' H', Inv X pins σ' H' s' ∧ Q σ' H') X.xe s
noncomputable def PGs (X : Cx) (ts : List Expr) (t : TGs) : Prop :=
  ∀ (pins : List (Addr × Obj)) (s : Shared) (σ : St) (H : Hp) (vs : List V) (us : List Value) (Q : St → Hp → Prop), Inv X pins σ H s → Vals vs us → t vs σ H Q →
    wpAny (model X.prog X.w) X.A (assignInOrder ((assignEach ts X.env).map (·.2)) us) (fun _ s' => ∃ σ' H', Inv X pins σ' H' s' ∧ Q σ' H') X.xe s
abbrev yf := V → V → V → Hp → (Hp → Prop) → Prop
noncomputable def zT (X : Cx) (t : yf) : Prop :=
  ∀ (pins : List (Addr × Obj)) (s : Shared) (σ : St) (H : Hp) (o i v : V) (ov iv u : Value) (Q : Hp → Prop), Inv X pins σ H s → RelV o ov → RelV i iv → RelV v u → t o i v H Q →
    wpAny (model X.prog X.w) X.A (setItem ov iv u) (fun _ s' => ∃ H', Inv X pins σ H' s' ∧ Q H') X.xe s
section
variable {X : Cx} {pos : Pos}
noncomputable def uU (i : Nat) : TG := fun v σ H Q => Q (σ.set i (some v)) H
theorem vM {i : Nat} {x : Str} (hN : X.N.Nodup) (hi : X.N[i]? = some x) (hx : Loc X.env.scope x) (hf : X.fn x = true ∨ X.env.scope.names.lookup x = some .local := by first | exact .inl rfl | exact .inr rfl | assumption) : PG X (.Name x pos) (uU i) := by
  intro pins s σ H v u Q I r h
  exact wpAny_assign_Name (iM I hN hi hx r (fun s' I' => ⟨_, H, I', h⟩) hf)
def AM : TGs := fun vs σ H Q => vs = [] ∧ Q σ H
def zl (t : TG) (u : TGs) : TGs := fun vs σ H Q => ∃ v r, vs = v :: r ∧ t v σ H fun σ' H' => u r σ' H' Q
theorem wu : PGs X [] AM := by
  intro pins s σ H vs us Q I r h
  obtain ⟨e, h⟩ := h
  subst e
  cases r
  exact assignInOrder_nil ⟨σ, H, I, h⟩
theorem ug {e : Expr} {es : List Expr} {t : TG} {u : TGs} (h1 : PG X e t) (h2 : PGs X es u)
    (hs : (assignEach (e :: es) X.env).map (·.2) = assign e X.env :: (assignEach es X.env).map (·.2) := by rfl) : PGs X (e :: es) (zl t u) := by
  intro pins s σ H vs us Q I r h
  obtain ⟨v, vr, e1, h⟩ := h
  subst e1
  cases r with
  | cons r rr =>
    rw [hs]
    refine assignInOrder_cons (thn (h1 pins s σ H _ _ _ I r h) fun _ s1 ⟨σ1, H1, I1, q1⟩ => ?_)
    exact h2 pins s1 σ1 H1 _ _ Q I1 rr q1
noncomputable def AG (K : PySem.W.Frag) (n : Nat) (t : TGs) : TG := fun v σ H Q => ∃ a xs, v = .ref a ∧ SqT K H a xs ∧ xs.length = n ∧ t xs σ H Q
theorem yR {es : List Expr} {k : Nat} {t : TGs} {n : Nat} (hc : X.calm = X.calm) (h : PGs X es t)
    (hn : (assignEach es X.env).length = n := by rfl) (hst : (assignEach es X.env).findIdx? (·.1) = none := by rfl) : PG X (.Tuple es k pos) (AG X.K n t) := by
  intro pins s σ H v u Q I r hw
  obtain ⟨a, xs, e1, hq, hl, hw⟩ := hw
  subst e1
  cases r
  obtain ⟨its, rv, ht, hz⟩ := I.tuple hq
  refine lF I.p5 ht (by simp [hn, ← hl, rv.length]) hst fun h' hx => ?_
  have I1 : Inv X pins σ H { s with heap := h' } := I.kept (t' := s.toks) fun b o e => hx b o (Nat.ne_of_lt (Heap.lt_size e)) e
  exact h pins _ σ H xs _ Q I1 (by simpa using rv) hw
noncomputable def AE (to ti : TE) (t : yf) : TG := fun v σ H Q => to σ H fun o H1 => ti σ H1 fun i H2 => t o i v H2 fun H3 => Q σ H3
theorem xK {o i : Expr} {to ti : TE} {t : yf} (ho : PE X o to) (hi : PE X i ti) (hs : zT X t)
    (ha : ∀ v, assign (.Subscript o i pos) X.env v = (do
      let ov ← holding [v] (eval o X.env)
      let iv ← holding [v, ov] (eval i X.env)
      standAt pos
      holding [v, ov, iv] (setItem ov iv v)
      release [v, ov, iv] []) := by intro _; rfl) : PG X (.Subscript o i pos) (AE to ti t) := by
  intro pins s σ H v u Q I r h
  rw [ha]
  refine wpAny_bind (wpAny_holding (thn (ho pins s σ H _ I h) fun ov s1 ⟨x, H1, I1, r1, q1⟩ => ?_))
  refine wpAny_bind (wpAny_holding (thn (hi pins s1 σ H1 _ I1 q1) fun iv s2 ⟨y, H2, I2, r2, q2⟩ => ?_))
  refine wpAny_bind (wpAny_standAt (wpAny_bind (wpAny_holding (thn (hs pins s2 σ H2 x y v ov iv u _ I2 r1 r2 r q2) fun _ s3 ⟨H3, I3, q3⟩ => ?_))))
  exact wpAny_release ⟨σ, H3, I3, q3⟩
noncomputable def yw (te : TE) (g : TG) : TS := fun D σ H => te σ H fun x H1 => g x σ H1 D.nx
theorem yn {tg e : Expr} {te : TE} {g : TG} (he : PE X e te) (hg : PG X tg g) (hs : swapsWithSole [tg] e pos.line X.env = pure false := by rfl) (hw : swappedStores [tg] e X.env = pure none := by rfl)
    (h1 : (assignEach [tg] X.env).map (·.2) = [assign tg X.env] := by rfl) : PS X (.Assign [tg] e pos) (yw te g) := by
  intro pins s σ H D I h
  refine wpAny_Assign_stores (thn (he pins s σ H _ I h) fun v s1 ⟨x, H1, I1, r1, q1⟩ => ?_) hs hw
  rw [h1]
  exact thn (hg pins s1 σ H1 x v _ I1 r1 q1) fun _ s2 q => q
theorem x8 {i : Nat} {x : Str} {e : Expr} {te : TE} {pos' : Pos} (hN : X.N.Nodup) (hi : X.N[i]? = some x) (hx : Loc X.env.scope x) (he : PE X e te) (hs : swapsWith e (some (.Name x pos')) pos.line X.env = pure false := by rfl) (hf : X.fn x = true ∨ X.env.scope.names.lookup x = some .local := by first | exact .inl rfl | exact .inr rfl | assumption) :
    PS X (.Assign [.Name x pos'] e pos) (yw te (uU i)) := by
  intro pins s σ H D I h
  refine wpAny_Assign_Name (thn (he pins s σ H _ I h) fun v s1 ⟨y, H1, I1, r1, q1⟩ => ?_) hs
  exact iM I1 hN hi hx r1 (fun s2 I2 => ⟨_, H1, I2, q1⟩) hf
noncomputable def AK (i j : Nat) (ta : TA) : TS := fun D σ H => ta σ H fun vs H1 => ∃ v w, vs = [v, w] ∧ D.nx ((σ.set i (some v)).set j (some w)) H1
theorem x6 {i j : Nat} {x y : Str} {a b : Expr} {ta : TA} {px py pt : Pos} {kt k2 pt2} (hc : X.calm = true) (hN : X.N.Nodup) (hi : X.N[i]? = some x) (hj : X.N[j]? = some y) (hij : i ≠ j)
    (hx : X.env.scope.names.lookup x = some .local) (hy : X.env.scope.names.lookup y = some .local) (ha : PA X [a, b] ta)
    (hw : swappedStores [.Tuple [.Name x px, .Name y py] kt pt] (.Tuple [a, b] k2 pt2) X.env = pure (some [x, y]))
    (hs : swapsWithSole [.Tuple [.Name x px, .Name y py] kt pt] (.Tuple [a, b] k2 pt2) pos.line X.env = pure false := by rfl) :
    PS X (.Assign [.Tuple [.Name x px, .Name y py] kt pt] (.Tuple [a, b] k2 pt2) pos) (AK i j ta) := by
  intro pins s σ H D I h
  rw [exec_Assign_arm]
  refine wpAny_bind (wpAny_standAt ?_)
  rw [hs]
  refine wpAny_bind (wpAny_pure ?_)
  rw [if_neg (by decide)]
  refine wpAny_bind (Tuple_ (thn (ha _ pins s σ H _ I h) fun us s1 ⟨vs, H1, I1, r1, q1⟩ => ?_))
  obtain ⟨v, w, e1, q1⟩ := q1
  subst e1
  obtain ⟨u1, u2, rfl, rv, rw'⟩ : ∃ u1 u2, us = [u1, u2] ∧ RelV v u1 ∧ RelV w u2 := by
    cases r1 with
    | cons p q =>
      cases q with
      | cons p' q' =>
        cases q'
        exact ⟨_, _, rfl, p, p'⟩
  refine wpAny_newObj_type ?_ (by show 2 ≤ sizeLine; decide)
  have I2 : Inv X pins σ H1 { s1 with heap := s1.heap.push { cls := .type "tuple", data := .seq [u1, u2].toArray } } := I1.kept (t' := s1.toks) fun b o e => Heap.get?_push_of_some _ e
  rw [hw]
  refine wpAny_bind (wpAny_pure ?_)
  show wpAny (model X.prog X.w) X.A (do rule "assign.swapped-stores"; let items ← unpackItems (.ref s1.heap.objs.size) 2 none; assignInOrder [fun v => bindName X.env y v, fun v => bindName X.env x v] items.reverse; pure Flow.next) _ _ _
  refine wpAny_bind (wpAny_rule (wpAny_bind (unpackItems_tuple (items := #[u1, u2]) (I.ok.hd hc) (IsTup.new s1.heap _) fun h' hx' => ?_)))
  have I3 := I2.kept (h' := h') (t' := s1.toks) fun b o e => hx' b o (Nat.ne_of_lt (Heap.lt_size e)) e
  show wpAny _ _ (assignInOrder [fun v => bindName X.env y v, fun v => bindName X.env x v] [u2, u1] >>= fun _ => pure Flow.next) _ _ _
  refine wpAny_bind (assignInOrder_cons (wpAny_bindName (iM I3 hN hj (.inl hy) rw' (fun s2 I4 => ?_) (.inr hy))))
  refine assignInOrder_cons (wpAny_bindName (iM I4 hN hi (.inl hx) rv (fun s3 I5 => assignInOrder_nil (wpAny_pure ?_)) (.inr hx)))
  rw [List.set_comm _ _ (Ne.symm hij)] at I5
  exact ⟨_, H1, I5, q1⟩
end
section
variable {X : Cx} {pos : Pos}
noncomputable def y4 (c : TT) (tb : TS) : TS := fun D σ H => ∃ W : Nat → St → Hp → Prop, (∃ m, W m σ H) ∧ ∀ m σ H, W m σ H →
  c σ H fun b H1 => if b = true then ∃ N : St → Hp → Prop, (∀ σ' H', N σ' H' → ∃ m', m' < m ∧ W m' σ' H') ∧ tb { D with nx := N, ct := N, bk := D.nx } σ H1 else D.nx σ H1
theorem u4 {c : Expr} {body : List Stmt} {tc : TT} {tb : TS} (hp : PassesOwn (model X.prog X.w) X.A X.env X.xe) (hc : PT X c tc) (hb : PSs X body tb) : PS X (.While c body [] pos) (y4 tc tb) := by
  intro pins s σ H D I h
  obtain ⟨W, ⟨m0, w0⟩, turn⟩ := h
  refine wpAny_While (codeAny_whileLoop (fun n s' => ∃ σ' H', Inv X pins σ' H' s' ∧ W n σ' H') ?_ m0 ⟨σ, H, I, w0⟩)
  rintro n s1 ⟨σ1, H1, I1, w1⟩
  refine wpAny_passesOwn hp (thn (hc pins s1 σ1 H1 _ I1 (turn n σ1 H1 w1)) fun b s2 ⟨H2, I2, q2⟩ => ?_)
  cases b with
  | true =>
    obtain ⟨N, hN, q2⟩ := q2
    rw [if_pos rfl]
    refine wpAny_passesOwn hp (thn (hb pins s2 σ1 H2 _ I2 q2) fun f s3 q3 => ?_)
    cases f with
    | next =>
      obtain ⟨σ3, H3, I3, n3⟩ := q3
      obtain ⟨m', hm, w3⟩ := hN σ3 H3 n3
      exact ⟨m', hm, σ3, H3, I3, w3⟩
    | cont =>
      obtain ⟨σ3, H3, I3, n3⟩ := q3
      obtain ⟨m', hm, w3⟩ := hN σ3 H3 n3
      exact ⟨m', hm, σ3, H3, I3, w3⟩
    | brk => exact q3
    | ret v => exact q3
  | false =>
    rw [if_neg Bool.false_ne_true]
    exact wpAny_execs_nil ⟨σ1, H2, I2, q2⟩
end
structure It where
  go : Nat → Hp → Prop
  yld : Nat → Hp → V → Hp → Prop
  stop : Nat → Hp → Prop
noncomputable def nV (X : Cx) (pins : List (Addr × Obj)) (H : Hp) (b : Addr) : Prop :=
  H b = none ∧ b ≠ X.env.locals ∧ b ∉ X.fs ∧ (b ∈ X.ex ∨ X.s₀.heap.objs.size ≤ b) ∧ (∀ x c, X.env.cells.lookup x = some c → c ≠ b) ∧ ∀ p ∈ X.pn ++ pins, p.1 ≠ b
theorem Inv.u6 {X : Cx} {pins : List (Addr × Obj)} {σ : St} {H H' : Hp} {s : Shared} {b : Addr} (I : Inv X pins σ H s) (hb : s.heap.objs.size ≤ b) (hn : H' b = none) : nV X pins H' b := by
  refine ⟨hn, Nat.ne_of_gt (Nat.lt_of_lt_of_le I.lt hb), I.Ar hb, .inr (Nat.le_trans I.sz hb), fun x c e z => ?_, fun p hp z => ?_⟩
  · obtain ⟨v, q⟩ := I.cell x c e
    exact absurd (Nat.lt_of_lt_of_le q.lt (by rw [z]; exact hb)) (Nat.lt_irrefl _)
  · exact absurd (Nat.lt_of_lt_of_le (Heap.lt_size (I.pin p hp).1) (by rw [z]; exact hb)) (Nat.lt_irrefl _)
structure Turn (c : Bool) (P : Program) (w : World) (K : PySem.W.Frag) (tg : Expr) (J : It) (fp : List Addr) (it : Addr) (tn : Nat → Heap → Prop) : Prop where
  mem : it ∈ fp
  obj : ∀ i h, tn i h → ∀ b ∈ fp, ∃ o, h.get? b = some o ∧ ∀ v, o.data ≠ .cell v
  keep : ∀ i h h', tn i h → (∀ b ∈ fp, ∀ o, h.get? b = some o → h'.get? b = some o) → tn i h'
  item : ∀ (X : Cx), X.prog = P → X.w = w → X.K = K → (c = true → X.calm = true) → ∀ (i : Nat) (pins : List (Addr × Obj)) (s : Shared) (σ : St) (H : Hp) (E : Value → Shared → Prop), Inv X pins σ H s → (∀ b ∈ fp, nV X pins H b) → tn i s.heap → J.go i H →
    wpAny (model P w) X.A (pyNext (.ref it)) (fun r s1 => ∃ u, r = some u ∧
      wpAny (model P w) X.A (letOwnedTupleGo tg (.ref it) u) (fun _ s2 => ∃ x H', Inv X pins σ H' s2 ∧ RelV x u ∧ J.yld i H x H' ∧ tn (i + 1) s2.heap ∧ ∀ b ∈ fp, H' b = none) E s1) E s
  done : ∀ (X : Cx), X.prog = P → X.w = w → X.K = K → (c = true → X.calm = true) → ∀ (i : Nat) (pins : List (Addr × Obj)) (s : Shared) (σ : St) (H : Hp) (E : Value → Shared → Prop), Inv X pins σ H s → (∀ b ∈ fp, nV X pins H b) → tn i s.heap → J.stop i H →
    wpAny (model P w) X.A (pyNext (.ref it)) (fun r s1 => r = none ∧ Inv X pins σ H s1) E s
  self : ∀ (A : Around) (i : Nat) (s : Shared) (Q : Value → Shared → Prop) (E : Value → Shared → Prop), tn i s.heap → Q (.ref it) s → wpAny (model P w) A (pyIter (.ref it)) Q E s
theorem Turn.calm {c : Bool} {P : Program} {w : World} {K : PySem.W.Frag} {tg : Expr} {J : It} {fp : List Addr} {it : Addr} {tn : Nat → Heap → Prop} (T : Turn true P w K tg J fp it tn) (h : c = true) : Turn c P w K tg J fp it tn := by subst h; exact T
abbrev TI := St → Hp → (It → Hp → Prop) → Prop
noncomputable def PIE (X : Cx) (pins : List (Addr × Obj)) (σ : St) (tg : Expr) (R : It → Hp → Prop) (itv : Value) (s2 : Shared) : Prop :=
  ∃ (it : Addr) (fp : List Addr) (tn : Nat → Heap → Prop) (J : It) (H' : Hp), itv = .ref it ∧ Inv X pins σ H' s2 ∧ Turn X.calm X.prog X.w X.K tg J fp it tn ∧ tn 0 s2.heap ∧ (∀ b ∈ fp, nV X pins H' b) ∧ R J H'
noncomputable def PI (X : Cx) (tg iter : Expr) (wi : TI) : Prop :=
  ∀ (pins : List (Addr × Obj)) (s : Shared) (σ : St) (H : Hp) (R : It → Hp → Prop), Inv X pins σ H s → wi σ H R →
    wpAny (model X.prog X.w) X.A (eval iter X.env) (fun v s1 => wpAny (model X.prog X.w) X.A (pyIter v) (PIE X pins σ tg R) X.xe s1) X.xe s
theorem rF {M : Model} {A : Around} {E : Value → Shared → Prop} {s : Shared} {tg : Expr} {it : Addr} {u : Value} {o : Obj} {n : String} {vs : Array Value} {Q : Unit → Shared → Prop} (ho : s.heap.get? it = some o) (hc : o.cls = .type n) (hd : o.data = .fields vs)
    (hn : ["enumerate", "zip", "dict_itemiterator", "dict_reverseitemiterator", "odict_iterator", "itertools.zip_longest", "itertools.pairwise"].contains n = false) (hQ : Q () s) : wpAny M A (letOwnedTupleGo tg (.ref it) u) Q E s := by
  unfold letOwnedTupleGo
  cases tg <;> first
    | exact wpAny_pure hQ
    | (cases u <;> first
        | exact wpAny_pure hQ
        | (refine wpAny_bind (wpAny_load ho ?_)
           rw [hc, hd]
           show wpAny M A (if (["enumerate", "zip", "dict_itemiterator", "dict_reverseitemiterator", "odict_iterator", "itertools.zip_longest", "itertools.pairwise"].contains n && vs[0]? == some (rawInt _)) = true then _ else _) Q E s
           rw [if_neg (by intro h; rw [hn, Bool.false_and] at h; cases h)]
           exact wpAny_pure hQ))
def Itl (K : PySem.W.Frag) (a : Addr) : It :=
  ⟨fun i H => ∃ xs x, SqL K H a xs ∧ xs[i]? = some x, fun i H x H' => H' = H ∧ ∀ xs, SqL K H a xs → xs[i]? = some x, fun i H => ∃ xs, SqL K H a xs ∧ xs.length ≤ i⟩
def Itt (K : PySem.W.Frag) (a : Addr) : It :=
  ⟨fun i H => ∃ xs x, SqT K H a xs ∧ xs[i]? = some x, fun i H x H' => H' = H ∧ ∀ xs, SqT K H a xs → xs[i]? = some x, fun i H => ∃ xs, SqT K H a xs ∧ xs.length ≤ i⟩
def Itr (lo : Int) (n : Nat) : It := ⟨fun i _ => i < n, fun i H x H' => H' = H ∧ x = .int (lo + i), fun i _ => n ≤ i⟩
theorem sP {c : Bool} {P : Program} {w : World} {K : PySem.W.Frag} {tg : Expr} (a it : Addr) : Turn c P w K tg (Itl K a) [it] it (fun i h => h.IsListIter it a i) where
  mem := by simp
  obj := fun i h st b hb => by
    have e : b = it := by simpa using hb
    subst e
    obtain ⟨o, e, c, d⟩ := st
    exact ⟨o, e, fun v z => by rw [d] at z; cases z⟩
  keep := fun i h h' st k => st.at fun o e => k it (by simp) o e
  item := by
    intro X hP hw hK hc i pins s σ H E I hf st hg
    subst hP hw hK
    obtain ⟨xs, x, hq, hx⟩ := hg
    obtain ⟨its, rv, p, hz⟩ := I.list hq
    obtain ⟨u, hu, ru⟩ := rv.get hx
    obtain ⟨f0, f1, f2, f3, f4, f5⟩ := hf it (by simp)
    refine wpAny_pyNext_list_item st p.isList (x := u) (by simpa using hu) fun h' st' sb => ?_
    have I1 : Inv X pins σ H { s with heap := h' } := I.turned (t' := s.toks) (fun b o hb e => (sb.2 b hb).trans e) f0 f1 f3 f4 f5
    obtain ⟨o, e, c, d⟩ := id st'
    exact ⟨u, rfl, rF (s := { s with heap := h' }) e c d (by decide) ⟨x, H, I1, ru, ⟨rfl, fun ys hy => by rw [I.ue hy hq]; exact hx⟩, st', fun b hb => (hf b hb).1⟩⟩
  done := by
    intro X hP hw hK hc i pins s σ H E I hf st hg
    subst hP hw hK
    obtain ⟨xs, hq, hx⟩ := hg
    obtain ⟨its, rv, p, hz⟩ := I.list hq
    obtain ⟨f0, f1, f2, f3, f4, f5⟩ := hf it (by simp)
    have hl := rv.length
    exact mf I.p5 (I.hne f5) st p.isList (by simp; omega) fun h' eb => ⟨rfl, I.turned (t' := s.toks) (fun b o hb e => eb b o hb e) f0 f1 f3 f4 f5⟩
  self := fun _ _ _ _ _ st h => wpAny_pyIter_listiter st h
theorem qz {c : Bool} {P : Program} {w : World} {K : PySem.W.Frag} {tg : Expr} (a it : Addr) : Turn c P w K tg (Itt K a) [it] it (fun i h => h.IsTupleIter it a i) where
  mem := by simp
  obj := fun i h st b hb => by
    have e : b = it := by simpa using hb
    subst e
    obtain ⟨o, e, c, d⟩ := st
    exact ⟨o, e, fun v z => by rw [d] at z; cases z⟩
  keep := fun i h h' st k => st.at fun o e => k it (by simp) o e
  item := by
    intro X hP hw hK hc i pins s σ H E I hf st hg
    subst hP hw hK
    obtain ⟨xs, x, hq, hx⟩ := hg
    obtain ⟨its, rv, p, hz⟩ := I.tuple hq
    obtain ⟨u, hu, ru⟩ := rv.get hx
    obtain ⟨f0, f1, f2, f3, f4, f5⟩ := hf it (by simp)
    refine wpAny_pyNext_tuple_item st (show s.heap.IsTuple a its.toArray from p) (x := u) (by simpa using hu) fun h' st' sb => ?_
    have I1 : Inv X pins σ H { s with heap := h' } := I.turned (t' := s.toks) (fun b o hb e => (sb.2 b hb).trans e) f0 f1 f3 f4 f5
    obtain ⟨o, e, c, d⟩ := id st'
    exact ⟨u, rfl, rF (s := { s with heap := h' }) e c d (by decide) ⟨x, H, I1, ru, ⟨rfl, fun ys hy => by rw [I.rX hy hq]; exact hx⟩, st', fun b hb => (hf b hb).1⟩⟩
  done := by
    intro X hP hw hK hc i pins s σ H E I hf st hg
    subst hP hw hK
    obtain ⟨xs, hq, hx⟩ := hg
    obtain ⟨its, rv, p, hz⟩ := I.tuple hq
    obtain ⟨f0, f1, f2, f3, f4, f5⟩ := hf it (by simp)
    have hl := rv.length
    exact jk I.p5 (I.hne f5) st (show s.heap.IsTuple a its.toArray from p) (by simp; omega) fun h' eb => ⟨rfl, I.turned (t' := s.toks) (fun b o hb e => eb b o hb e) f0 f1 f3 f4 f5⟩
  self := fun _ _ _ _ _ st h => wpAny_pyIter_tupleiter st h
theorem qp {P : Program} {w : World} {K : PySem.W.Frag} {tg : Expr} (it : Addr) (lo : Int) (n : Nat) : Turn true P w K tg (Itr lo n) [it] it (fun i h => IsRangeIter h it (lo + (i : Nat) * 1) ((n : Int) - (i : Nat)) 1) where
  mem := by simp
  obj := fun i h st b hb => by
    have e : b = it := by simpa using hb
    subst e
    exact ⟨_, st, fun v z => by
      have z' : Data.fields _ = Data.cell v := z
      cases z'⟩
  keep := fun i h h' st k => k it (by simp) _ st
  item := by
    intro X hP hw hK hc i pins s σ H E I hf st hg
    subst hP hw hK
    obtain ⟨f0, f1, f2, f3, f4, f5⟩ := hf it (by simp)
    have W := Walks.range (prog := X.prog) (w := X.w) (I.ok.hd (hc rfl)) it lo 1 n
    refine W.item i s _ _ hg st fun v h' tk hv st' kk => ?_
    obtain ⟨t, rfl⟩ := hv
    have I1 : Inv X pins σ H { s with heap := h', toks := tk } := I.turned (fun b o hb e => kk b o (by simpa using hb) e) f0 f1 f3 f4 f5
    refine ⟨_, rfl, rF (s := { s with heap := h', toks := tk }) (n := "range_iterator") st' rfl rfl (by decide) ⟨.int (lo + i), H, I1, ⟨t, ?_⟩, ⟨rfl, rfl⟩, st', fun b hb => (hf b hb).1⟩⟩
    rw [Int.mul_one]
  done := by
    intro X hP hw hK hc i pins s σ H E I hf st hg
    subst hP hw hK
    obtain ⟨f0, f1, f2, f3, f4, f5⟩ := hf it (by simp)
    exact wpAny_pyNext_range_end (I.ok.hd (hc rfl)) st (by have : n ≤ i := hg; omega) fun h' eb => ⟨rfl, I.turned (t' := s.toks) (fun b o hb e => eb b o hb e) f0 f1 f3 f4 f5⟩
  self := fun _ _ _ _ _ st h => wpAny_pyIter_rangeiter st h
end L2
namespace L2
open PySem PySem.Spec PyProof.Rows
section
variable {X : Cx} {tg : Expr}
noncomputable def zo (K : PySem.W.Frag) (tl : TE) : TI := fun σ H R => tl σ H fun x H1 => ∃ a, x = .ref a ∧ (∃ xs, SqL K H1 a xs) ∧ R (Itl K a) H1
noncomputable def AN (K : PySem.W.Frag) (tl : TE) : TI := fun σ H R => tl σ H fun x H1 => ∃ a, x = .ref a ∧ (∃ xs, SqT K H1 a xs) ∧ R (Itt K a) H1
theorem qP {l : Expr} {tl : TE} (hl : PE X l tl) : PI X tg l (zo X.K tl) := by
  intro pins s σ H R I h
  refine thn (hl pins s σ H _ I h) fun v s1 ⟨x, H1, I1, r1, q1⟩ => ?_
  obtain ⟨a, e, ⟨xs, hq⟩, q⟩ := q1
  subst e
  cases r1
  obtain ⟨its, rv, p, hz⟩ := I1.list hq
  refine wpAny_pyIter_list p.isList ?_
  refine ⟨s1.heap.objs.size, [s1.heap.objs.size], _, _, H1, rfl, I1.kept (t' := s1.toks) fun b o e => Heap.get?_push_of_some _ e, sP a _, ⟨_, Heap.get?_push_size _ rfl, rfl, rfl⟩, fun b hb => ?_, q⟩
  have e : b = s1.heap.objs.size := by simpa using hb
  subst e
  exact I1.u6 (Nat.le_refl _) (I1.hok.fresh (Nat.le_refl _))
theorem yh {l : Expr} {tl : TE} (hl : PE X l tl) : PI X tg l (AN X.K tl) := by
  intro pins s σ H R I h
  refine thn (hl pins s σ H _ I h) fun v s1 ⟨x, H1, I1, r1, q1⟩ => ?_
  obtain ⟨a, e, ⟨xs, hq⟩, q⟩ := q1
  subst e
  cases r1
  obtain ⟨its, rv, p, hz⟩ := I1.tuple hq
  refine wpAny_pyIter_tuple (show s1.heap.IsTuple a its.toArray from p) ?_
  refine ⟨s1.heap.objs.size, [s1.heap.objs.size], _, _, H1, rfl, I1.kept (t' := s1.toks) fun b o e => Heap.get?_push_of_some _ e, qz a _, ⟨_, Heap.get?_push_size _ rfl, rfl, rfl⟩, fun b hb => ?_, q⟩
  have e : b = s1.heap.objs.size := by simpa using hb
  subst e
  exact I1.u6 (Nat.le_refl _) (I1.hok.fresh (Nat.le_refl _))
theorem vt (hc : X.calm = true) {pins : List (Addr × Obj)} {σ : St} {H : Hp} {s : Shared} {R : It → Hp → Prop} {E : Value → Shared → Prop} {lo hi : Int} {t u v : Tok} {tk : Nat} (I : Inv X pins σ H s) (h1 : -(2 ^ 62) ≤ lo) (h2 : lo < 2 ^ 62) (h3 : -(2 ^ 62) ≤ hi) (h4 : hi < 2 ^ 62)
    (q : R (Itr lo (hi - lo).toNat) H) : wpAny (model X.prog X.w) X.A (pyIter (.ref s.heap.objs.size)) (PIE X pins σ tg R) E { s with heap := s.heap.push { cls := .type "range", data := .fields #[.int lo t, .int hi u, .int 1 v] }, toks := tk } := by
  refine wpAny_pyIter_range (IsRange.new ..) (small_one h1 h2 h3 h4) ?_
  have I1 : Inv X pins σ H { s with heap := s.heap.push { cls := .type "range", data := .fields #[.int lo t, .int hi u, .int 1 v] }, toks := tk } := I.kept fun b o e => Heap.get?_push_of_some _ e
  refine ⟨(s.heap.push { cls := .type "range", data := .fields #[.int lo t, .int hi u, .int 1 v] }).objs.size, [(s.heap.push { cls := .type "range", data := .fields #[.int lo t, .int hi u, .int 1 v] }).objs.size], _, _, H, rfl,
    I1.kept (t' := tk) fun b o e => Heap.get?_push_of_some _ e, (qp _ lo (hi - lo).toNat).calm hc, ?_, fun b hb => ?_, q⟩
  · have e1 : lo + ((0 : Nat) : Int) * 1 = lo := by simp
    have e2 : (((hi - lo).toNat : Nat) : Int) - ((0 : Nat) : Int) = Builtin.Range.rangeSize lo hi 1 := by rw [rangeSize_one]; split <;> omega
    show IsRangeIter _ _ (lo + ((0 : Nat) : Int) * 1) ((((hi - lo).toNat : Nat) : Int) - ((0 : Nat) : Int)) 1
    rw [e1, e2]
    exact Heap.get?_push_size _ rfl
  · have e : b = (s.heap.push { cls := .type "range", data := .fields #[.int lo t, .int hi u, .int 1 v] }).objs.size := by simpa using hb
    subst e
    exact I1.u6 (Nat.le_refl _) (I1.hok.fresh (Nat.le_refl _))
noncomputable def Aa (ta : TA) : TI := fun σ H R => ta σ H fun vs H1 => ∃ j : Int, vs = [.int j] ∧ -(2 ^ 62) ≤ j ∧ j < 2 ^ 62 ∧ R (Itr 0 j.toNat) H1
theorem rY {a : Expr} {ta : TA} {p pos : Pos} (hc : X.calm = true) (hg : Gl X "range") (hm : X.mg "range" = none) (ha : PA X [a] ta) (hs : starEach [a] X.env = [(false, eval a X.env)] := by rfl) : PI X tg (.Call (.Name "range" p) [a] [] pos) (Aa ta) := by
  intro pins s σ H R I h
  refine Call_ (nR I hg hm boot_range (PyProof.Rows.callWith_type1 (thn (ha pos pins s σ H _ I h) fun us s1 ⟨vs, H1, I1, r1, q1⟩ => ?_) hs rfl))
  obtain ⟨j, e, q1, q2, q⟩ := q1
  subst e
  cases r1 with
  | cons r rr =>
    cases rr
    obtain ⟨t, rfl⟩ := r
    exact call_range_1 (vt hc I1 (by omega) (by omega) q1 q2 (by simpa using q))
noncomputable def A2 (wi : TI) (g : TG) (tb : TS) : TS := fun D σ H => wi σ H fun J H1 => ∃ W : Nat → Nat → St → Hp → Prop, (∃ m, W 0 m σ H1) ∧ ∀ i m σ H, W i m σ H →
  (J.stop i H ∧ D.nx σ H) ∨ (J.go i H ∧ ∃ N : St → Hp → Prop, (∀ σ' H', N σ' H' → ∃ m', m' < m ∧ W (i + 1) m' σ' H') ∧ ∀ x H', J.yld i H x H' → g x σ H' fun σ2 H2 => tb { D with nx := N, ct := N, bk := D.nx } σ2 H2)
def jv (fp : List Addr) (h : Heap) : List (Addr × Obj) := fp.filterMap fun b => (h.get? b).map fun o => (b, o)
theorem di {fp : List Addr} {h : Heap} {b : Addr} {o : Obj} (hb : b ∈ fp) (e : h.get? b = some o) : (b, o) ∈ jv fp h := List.mem_filterMap.mpr ⟨b, hb, by rw [e]; rfl⟩
theorem sy {fp : List Addr} {h : Heap} {p : Addr × Obj} (hp : p ∈ jv fp h) : p.1 ∈ fp ∧ h.get? p.1 = some p.2 := by
  obtain ⟨b, hb, e⟩ := List.mem_filterMap.mp hp
  cases q : h.get? b with
  | none => rw [q] at e; cases e
  | some o =>
    rw [q] at e
    have e' : (b, o) = p := Option.some.inj e
    subst e'
    exact ⟨hb, q⟩
theorem Inv.pinned {pins : List (Addr × Obj)} {σ : St} {H : Hp} {s : Shared} {fp : List Addr} (I : Inv X pins σ H s) (hf : ∀ b ∈ fp, nV X pins H b) (ho : ∀ b ∈ fp, ∃ o, s.heap.get? b = some o ∧ ∀ v, o.data ≠ .cell v) : Inv X (pins ++ jv fp s.heap) σ H s :=
  I.rS fun p hp => (List.mem_append.mp hp).elim (fun z => I.pin p (List.mem_append_right _ z)) fun z => by
    obtain ⟨hb, e⟩ := sy z
    obtain ⟨f0, f1, f2, _⟩ := hf p.1 hb
    obtain ⟨o, e', d⟩ := ho p.1 hb
    rw [e] at e'; cases e'
    exact ⟨e, f0, f1, f2, d⟩
theorem Inv.gG {pins pl : List (Addr × Obj)} {σ : St} {H : Hp} {s : Shared} (I : Inv X (pins ++ pl) σ H s) : Inv X pins σ H s := I.rS fun p hp => I.pin p (List.mem_append_right _ (List.mem_append_left _ hp))
theorem uR {iter : Expr} {body : List Stmt} {wi : TI} {g : TG} {tb : TS} {pos : Pos} (hp : PassesOwn (model X.prog X.w) X.A X.env X.xe) (hc : X.calm = true) (hi : PI X tg iter wi) (hg : PG X tg g) (hb : PSs X body tb)
    (hs : ∀ x, foldedSetIterable iter X.env x = pure x := by intro _; rfl) : PS X (.For tg iter body [] pos) (A2 wi g tb) := by
  intro pins s σ H D I h
  refine wpAny_For (thn (hi pins s σ H _ I h) fun v s1 h1 => thn h1 fun itv s2 h2 => ?_) hs
  obtain ⟨it, fp, tn, J, H2, e, I2, T, st2, f2, W, ⟨m0, w0⟩, turn⟩ := h2
  subst e
  have stat : ∀ {H' : Hp}, (∀ b ∈ fp, H' b = none) → ∀ b ∈ fp, nV X pins H' b := fun hn b hb => ⟨hn b hb, (f2 b hb).2⟩
  refine codeAny_forLoop_any (fun n s' => ∃ i σ' H', Inv X pins σ' H' s' ∧ tn i s'.heap ∧ (∀ b ∈ fp, H' b = none) ∧ W i n σ' H') ?_ m0 ⟨0, σ, H2, I2, st2, fun b hb => (f2 b hb).1, w0⟩
  rintro n s3 ⟨i, σ3, H3, I3, st3, fr3, w3⟩
  rcases turn i n σ3 H3 w3 with ⟨stop, qn⟩ | ⟨go, N, hN, step⟩
  · refine wpAny_passesOwn hp (thn (T.done X rfl rfl rfl (fun z => z) i pins s3 σ3 H3 X.xe I3 (stat fr3) st3 stop) fun r s4 ⟨hr, I4⟩ => ?_)
    subst hr
    exact wpAny_execs_nil ⟨σ3, H3, I4, qn⟩
  · refine wpAny_passesOwn hp (thn (T.item X rfl rfl rfl (fun z => z) i pins s3 σ3 H3 X.xe I3 (stat fr3) st3 go) fun r s4 ⟨u, hr, h4⟩ => ?_)
    subst hr
    refine wpAny_passesOwn hp (thn h4 fun _ s5 ⟨x, H5, I5, r5, y5, st5, fr5⟩ => ?_)
    have I5' := I5.pinned (stat fr5) (T.obj _ _ st5)
    refine wpAny_passesOwn hp (thn (hg _ s5 σ3 H5 x u _ I5' r5 (step x H5 y5)) fun _ s6 ⟨σ6, H6, I6, q6⟩ => ?_)
    refine wpAny_passesOwn hp (thn (hb _ s6 σ6 H6 _ I6 q6) fun f s7 q7 => ?_)
    have again : ∀ {σ7 : St} {H7 : Hp}, Inv X (pins ++ jv fp s5.heap) σ7 H7 s7 → N σ7 H7 → ∃ m, m < n ∧ ∃ i σ' H', Inv X pins σ' H' s7 ∧ tn i s7.heap ∧ (∀ b ∈ fp, H' b = none) ∧ W i m σ' H' := fun {σ7 H7} I7 n7 => by
      obtain ⟨m', hm, w7⟩ := hN σ7 H7 n7
      refine ⟨m', hm, i + 1, σ7, H7, I7.gG, T.keep _ _ _ st5 fun b hb o e => (I7.pin (b, o) (List.mem_append_right _ (List.mem_append_right _ (di hb e)))).1, fun b hb => ?_, w7⟩
      obtain ⟨o, e, d⟩ := T.obj _ _ st5 b hb
      exact (I7.pin (b, o) (List.mem_append_right _ (List.mem_append_right _ (di hb e)))).2.1
    cases f with
    | next => obtain ⟨σ7, H7, I7, n7⟩ := q7; exact again I7 n7
    | cont => obtain ⟨σ7, H7, I7, n7⟩ := q7; exact again I7 n7
    | brk => obtain ⟨σ7, H7, I7, q7⟩ := q7; exact ⟨σ7, H7, I7.gG, q7⟩
    | ret v => obtain ⟨x7, σ7, H7, I7, r7, q7⟩ := q7; exact ⟨x7, σ7, H7, I7.gG, r7, q7⟩
end
end L2
namespace L2
open PySem PySem.Spec PyProof.Rows
abbrev R2 := V → V → Hp → VK → Prop
noncomputable def OpR (X : Cx) (f : Value → Value → Sem Value) (r : R2) : Prop :=
  ∀ (pins : List (Addr × Obj)) (s : Shared) (σ : St) (H : Hp) (x y : V) (v u : Value) (Q : VK), Inv X pins σ H s → RelV x v → RelV y u → r x y H Q →
    wpAny (model X.prog X.w) X.A (f v u) (EP X pins σ Q) X.xe s
noncomputable def UnR (X : Cx) (f : Value → Sem Value) (r : V → Hp → VK → Prop) : Prop :=
  ∀ (pins : List (Addr × Obj)) (s : Shared) (σ : St) (H : Hp) (x : V) (v : Value) (Q : VK), Inv X pins σ H s → RelV x v → r x H Q →
    wpAny (model X.prog X.w) X.A (f v) (EP X pins σ Q) X.xe s
noncomputable def eQ (X : Cx) (f : Value) (r : List V → Hp → VK → Prop) : Prop :=
  ∀ (pins : List (Addr × Obj)) (s : Shared) (σ : St) (H : Hp) (xs : List V) (us : List Value) (Q : VK), Inv X pins σ H s → Vals xs us → r xs H Q →
    wpAny (model X.prog X.w) X.A (call f us) (EP X pins σ Q) X.xe s
noncomputable def Ax (X : Cx) (r : V → Hp → (Bool → Hp → Prop) → Prop) : Prop :=
  ∀ (pins : List (Addr × Obj)) (s : Shared) (σ : St) (H : Hp) (x : V) (v : Value) (Q : Bool → Hp → Prop), Inv X pins σ H s → RelV x v → r x H Q →
    wpAny (model X.prog X.w) X.A (truthy v) (TP X pins σ Q) X.xe s
noncomputable def tOp (r : R2) (ta tb : TE) : TE := fun σ H Q => ta σ H fun x H1 => tb σ H1 fun y H2 => r x y H2 Q
noncomputable def tUn (r : V → Hp → VK → Prop) (ta : TE) : TE := fun σ H Q => ta σ H fun x H1 => r x H1 Q
noncomputable def rI (C : Int → Int → Prop) (g : Int → Int → V) : R2 := fun x y H Q => ∃ i j, x = .int i ∧ y = .int j ∧ C i j ∧ Q (g i j) H
noncomputable def rI0 (g : Int → Int → V) : R2 := fun x y H Q => ∃ i j, x = .int i ∧ y = .int j ∧ Q (g i j) H
def rU (g : Int → V) : V → Hp → VK → Prop := fun x H Q => ∃ i, x = .int i ∧ Q (g i) H
section
variable {X : Cx} {a b c : Expr} {ta tb tc : TE} {pos : Pos}
theorem yj (ha : PE X a ta) (hb : PE X b tb) {pins : List (Addr × Obj)} {s : Shared} {σ : St} {H : Hp} {R : V → V → Hp → Prop} (I : Inv X pins σ H s)
    (h : ta σ H fun x H1 => tb σ H1 fun y H2 => R x y H2) {Q : Value → Shared → Prop} {f : Value → Value → Sem Value}
    (hf : ∀ v u s2 x y H2, Inv X pins σ H2 s2 → RelV x v → RelV y u → R x y H2 → wpAny (model X.prog X.w) X.A (f v u) Q X.xe s2) :
    wpAny (model X.prog X.w) X.A (eval a X.env) (fun v s₁ => wpAny (model X.prog X.w) X.A (eval b X.env) (fun u s₂ => wpAny (model X.prog X.w) X.A (f v u) Q X.xe s₂) X.xe s₁) X.xe s := by
  refine thn (ha pins s σ H _ I h) fun v s1 ⟨x, H1, I1, r1, q1⟩ => ?_
  refine thn (hb pins s1 σ H1 _ I1 q1) fun u s2 ⟨y, H2, I2, r2, q2⟩ => ?_
  exact hf v u s2 x y H2 I2 r1 r2 q2
theorem zE {op : Operator} {r : R2} (ho : OpR X (binaryOp op) r) (ha : PE X a ta) (hb : PE X b tb) : PE X (.BinOp a op b pos) (tOp r ta tb) := by
  intro pins s σ H Q I h
  exact wpAny_BinOp (yj ha hb I h fun v u s2 x y H2 I2 rx ry q => ho pins s2 σ H2 x y v u Q I2 rx ry q)
theorem zZ {op : UnaryOp} {r : V → Hp → VK → Prop} (ho : UnR X (unaryOp op) r) (ha : PE X a ta) : PE X (.UnaryOp op a pos) (tUn r ta) := by
  intro pins s σ H Q I h
  exact UnaryOp_ (thn (ha pins s σ H _ I h) fun v s1 ⟨x, H1, I1, r1, q1⟩ => ho pins s1 σ H1 x v Q I1 r1 q1)
theorem opI {f : Value → Value → Sem Value} {C : Int → Int → Prop} {g : Int → Int → Int}
    (rule : ∀ (i j : Int) (t u : Tok) (s : Shared) (Q : Value → Shared → Prop) (E : Value → Shared → Prop), C i j → Q (.int (g i j) s.toks) { s with toks := s.toks + 1 } → wpAny (model X.prog X.w) X.A (f (.int i t) (.int j u)) Q E s) :
    OpR X f (rI C fun i j => .int (g i j)) := by
  intro pins s σ H x y v u Q I rx ry h
  obtain ⟨i, j, rfl, rfl, hc, q⟩ := h
  obtain ⟨t, rfl⟩ := rx
  obtain ⟨t', rfl⟩ := ry
  exact rule i j t t' s _ _ hc ⟨.int (g i j), H, I.tok _, ⟨_, rfl⟩, q⟩
theorem zD {f : Value → Value → Sem Value} {g : Int → Int → Int}
    (rule : ∀ (i j : Int) (t u : Tok) (s : Shared) (Q : Value → Shared → Prop) (E : Value → Shared → Prop), Q (.int (g i j) s.toks) { s with toks := s.toks + 1 } → wpAny (model X.prog X.w) X.A (f (.int i t) (.int j u)) Q E s) :
    OpR X f (rI0 fun i j => .int (g i j)) := by
  intro pins s σ H x y v u Q I rx ry h
  obtain ⟨i, j, rfl, rfl, q⟩ := h
  obtain ⟨t, rfl⟩ := rx
  obtain ⟨t', rfl⟩ := ry
  exact rule i j t t' s _ _ ⟨.int (g i j), H, I.tok _, ⟨_, rfl⟩, q⟩
theorem wA {f : Value → Value → Sem Value} {g : Int → Int → Bool}
    (rule : ∀ (i j : Int) (t u : Tok) (s : Shared) (Q : Value → Shared → Prop) (E : Value → Shared → Prop), Q (.bool (g i j)) s → wpAny (model X.prog X.w) X.A (f (.int i t) (.int j u)) Q E s) :
    OpR X f (rI0 fun i j => .bl (g i j)) := by
  intro pins s σ H x y v u Q I rx ry h
  obtain ⟨i, j, rfl, rfl, q⟩ := h
  obtain ⟨t, rfl⟩ := rx
  obtain ⟨t', rfl⟩ := ry
  exact rule i j t t' s _ _ ⟨.bl (g i j), H, I, rfl, q⟩
noncomputable def yv (i j : Int) : Prop := 0 ≤ j ∧ j ≤ 1000000 ∧ i.natAbs < 2 ^ 64
noncomputable def vF (i j : Int) : Prop := (-(2 ^ 64) < i ∧ i < 2 ^ 64) ∨ (-(2 ^ 64) < j ∧ j < 2 ^ 64)
theorem vF.ok {i j : Int} (h : vF i j) : IntMulOk i j := by
  rcases h with ⟨h1, h2⟩ | ⟨h1, h2⟩
  · exact .of_left (intBits_le_64 h1 h2)
  · exact .of_right (intBits_le_64 h1 h2)
theorem y2 : OpR X (binaryOp .Add) (rI0 fun i j => .int (i + j)) := zD fun _ _ _ _ _ _ _ q => add_int q
theorem xJ : OpR X (binaryOp .Sub) (rI0 fun i j => .int (i - j)) := zD fun _ _ _ _ _ _ _ q => sub_int q
theorem wB : OpR X (binaryOp .Mod) (rI (fun _ j => j ≠ 0) fun i j => .int (i.fmod j)) := opI fun _ _ _ _ _ _ _ hc q => mod_int' hc q
theorem yG : OpR X (binaryOp .Pow) (rI yv fun i j => .int (i ^ j.toNat)) := opI fun _ _ _ _ _ _ _ hc q => pow_int_small hc.1 hc.2.1 hc.2.2 q
theorem unI {f : Value → Sem Value} {g : Int → Int}
    (rule : ∀ (i : Int) (t : Tok) (s : Shared) (Q : Value → Shared → Prop) (E : Value → Shared → Prop), Q (.int (g i) s.toks) { s with toks := s.toks + 1 } → wpAny (model X.prog X.w) X.A (f (.int i t)) Q E s) :
    UnR X f (rU fun i => .int (g i)) := by
  intro pins s σ H x v Q I rx h
  obtain ⟨i, rfl, q⟩ := h
  obtain ⟨t, rfl⟩ := rx
  exact rule i t s _ _ ⟨.int (g i), H, I.tok _, ⟨_, rfl⟩, q⟩
theorem xM : UnR X (unaryOp .USub) (rU fun i => .int (-i)) := unI fun _ _ _ _ _ q => neg_int q
end
section
variable {X : Cx} {a b c : Expr} {ta tb tc : TE} {pos : Pos}
theorem yC {pins : List (Addr × Obj)} {σ : St} {H : Hp} {s : Shared} {Q : VK} {k k' : Bool} (I : Inv X pins σ H s) (q : Q (.bl k) H) (e : k = k') : EP X pins σ Q (.bool k') s := by
  subst e
  exact ⟨.bl k, H, I, rfl, q⟩
theorem oM : OpR X (compareOp .Lt) (rI0 fun i j => .bl (decide (i < j))) := wA fun _ _ _ _ _ _ _ q => lt_int q
theorem zS : OpR X (compareOp .LtE) (rI0 fun i j => .bl (decide (i ≤ j))) := wA fun _ _ _ _ _ _ _ q => le_int q
theorem mI : OpR X (compareOp .Gt) (rI0 fun i j => .bl (decide (j < i))) := wA fun _ _ _ _ _ _ _ q => gt_int q
theorem xa : OpR X (compareOp .GtE) (rI0 fun i j => .bl (decide (j ≤ i))) := wA fun _ _ _ _ _ _ _ q => ge_int q
theorem sL : OpR X (compareOp .In) (fun x y H Q => ∃ i j, x = .str i ∧ y = .str j ∧ Q (.bl (!(Builtin.Str.occurrences j i 0 j.length 1).isEmpty)) H) := by
  intro pins s σ H x y v u Q I rx ry h
  obtain ⟨i, j, rfl, rfl, q⟩ := h
  obtain ⟨t, rfl⟩ := rx
  obtain ⟨t', rfl⟩ := ry
  exact in_str (yC I q rfl)
theorem aw (b : Expr) {op : CmpOp} (h : op ≠ .In := by decide) (h2 : op ≠ .NotIn := by decide) : behindInMarks op b = false := by
  have e1 : (op == CmpOp.In) = false := by cases op <;> first | rfl | exact absurd rfl h
  have e2 : (op == CmpOp.NotIn) = false := by cases op <;> first | rfl | exact absurd rfl h2
  cases b <;> simp [behindInMarks, e1, e2]
theorem wI {op : CmpOp} {r : R2} (ho : OpR X (compareOp op) r) (ha : PE X a ta) (hb : PE X b tb) (hm : behindInMarks op b = false) : PE X (.Compare a [op] [b] pos) (tOp r ta tb) := by
  intro pins s σ H Q I h
  exact wpAny_Compare1 (yj ha hb I h fun v u s2 x y H2 I2 rx ry q => ho pins s2 σ H2 x y v u Q I2 rx ry q) hm
noncomputable def xg (t : TE) : TT := fun σ H Q => t σ H fun x H' => ∃ k, x = .bl k ∧ Q k H'
theorem wC {op : CmpOp} {r : R2} (ho : OpR X (compareOp op) r) (ha : PE X a ta) (hb : PE X b tb) (hm : behindInMarks op b = false) : PT X (.Compare a [op] [b] pos) (xg (tOp r ta tb)) := by
  intro pins s σ H Q I h
  refine wpAny_isTrue_Compare1 (thn (ha pins s σ H _ I h) fun v s1 ⟨x, H1, I1, r1, q1⟩ => thn (hb pins s1 σ H1 _ I1 q1) fun u s2 ⟨y, H2, I2, r2, q2⟩ =>
    thn (ho pins s2 σ H2 x y v u _ I2 r1 r2 q2) fun c s3 ⟨z, H3, I3, r3, k, e, q3⟩ => ?_) hm
  subst e
  cases r3
  exact wpAny_truthy_bool ⟨H3, I3, q3⟩
noncomputable def zU (K : PySem.W.Frag) (x : V) (H : Hp) (k : Bool) : Prop :=
  match x with
  | .non => k = false
  | .bl b => k = b
  | .int i => k = (i != 0)
  | .str y => y.length ≤ sizeLine ∧ k = ((y.length : Int) != 0)
  | .byt y => y.size ≤ sizeLine ∧ k = ((y.size : Int) != 0)
  | .ref p => (∃ xs, SqL K H p xs ∧ k = !xs.isEmpty) ∨ (∃ xs, SqT K H p xs ∧ k = !xs.isEmpty) ∨ ∃ kvs, H p = some (.dK kvs) ∧ k = !kvs.isEmpty
  | _ => False
theorem pL {κ : Type} {kvs : List (κ × V)} {vs : List (κ × Value)} (r : KV kvs vs) : (!vs.isEmpty) = !kvs.isEmpty := by
  cases r <;> rfl
theorem kZ {xs : List V} {its : List Value} (r : Vals xs its) : (!its.toArray.isEmpty) = !xs.isEmpty := by
  cases r <;> simp
theorem ij : (sizeLine : Nat) < 2 ^ 63 := by rw [sizeLine_eq]; decide
theorem yO : Ax X (fun x H Q => ∃ k, zU X.K x H k ∧ Q k H) := by
  intro pins s σ H x v Q I rx h
  obtain ⟨k, e, q⟩ := h
  have hl := ij
  have hs : sizeLine = 16777216 := sizeLine_eq
  cases x with
  | non =>
    cases rx
    have e' : k = false := e
    subst e'
    exact truthy_none ⟨H, I, q⟩
  | bl b =>
    cases rx
    have e' : k = b := e
    subst e'
    exact wpAny_truthy_bool ⟨H, I, q⟩
  | int i =>
    obtain ⟨t, rfl⟩ := rx
    have e' : k = (i != 0) := e
    subst e'
    exact PySem.P.truthy_int ⟨H, I, q⟩
  | str y =>
    obtain ⟨t, rfl⟩ := rx
    obtain ⟨hy, e'⟩ : y.length ≤ sizeLine ∧ k = ((y.length : Int) != 0) := e
    subst e'
    exact PySem.P.truthy_str (by omega) ⟨H, I.tok _, q⟩
  | byt y =>
    obtain ⟨t, rfl⟩ := rx
    obtain ⟨hy, e'⟩ : y.size ≤ sizeLine ∧ k = ((y.size : Int) != 0) := e
    subst e'
    exact PySem.W.truthy_bytes (by omega) ⟨H, I.tok _, q⟩
  | ref p =>
    cases rx
    have e' : (∃ xs, SqL X.K H p xs ∧ k = !xs.isEmpty) ∨ (∃ xs, SqT X.K H p xs ∧ k = !xs.isEmpty) ∨ ∃ kvs, H p = some (.dK kvs) ∧ k = !kvs.isEmpty := e
    rcases e' with ⟨xs, hx, e'⟩ | ⟨xs, hx, e'⟩ | ⟨kvs, hx, e'⟩
    · subst e'
      obtain ⟨its, r, pl, hz⟩ := I.list hx
      have hlen := r.length
      exact wpAny_truthy_list pl.isList (by simp only [List.size_toArray]; omega) ⟨H, I.tok _, by rw [kZ r]; exact q⟩
    · subst e'
      obtain ⟨its, r, pl, hz⟩ := I.tuple hx
      have hlen := r.length
      exact truthy_tuple pl (by simp only [List.size_toArray]; omega) ⟨H, I.tok _, by rw [kZ r]; exact q⟩
    · subst e'
      obtain ⟨hz, hS, vs, r, m⟩ : kvs.length ≤ sizeLine ∧ (p == sysModules) = false ∧ ∃ vs, KV kvs vs ∧ s.heap.DictOf (nC X.prog X.w) p vs := I.hok p _ hx
      have hlen : kvs.length = vs.length := Paired.length r
      exact wpAny_truthy_dict hS m (by omega) ⟨H, I.tok _, by rw [pL r]; exact q⟩
  | _ => exact (show False from e).elim
theorem uG (ha : PE X a ta) (he : ∀ whole, isTrue a X.env whole = (do let v ← whole; standAt a.pos; holding [v] (truthy v))) :
    PT X a (fun σ H Q => ta σ H fun x H' => ∃ k, zU X.K x H' k ∧ Q k H') := by
  intro pins s σ H Q I h
  exact isTrue_plain (thn (ha pins s σ H _ I h) fun v s1 ⟨x, H1, I1, r1, q1⟩ => yO pins s1 σ H1 x v Q I1 r1 q1) (he _)
theorem qy : OpR X (binaryOp .Add) (fun x y H Q => ∃ i j, x = .str i ∧ y = .str j ∧ i.length + j.length ≤ sizeLine ∧ Q (.str (i ++ j)) H) := by
  intro pins s σ H x y v u Q I rx ry h
  obtain ⟨i, j, rfl, rfl, hz, q⟩ := h
  obtain ⟨t, rfl⟩ := rx
  obtain ⟨t', rfl⟩ := ry
  exact add_str (fun t' tk => ⟨.str (i ++ j), H, I.tok _, ⟨_, rfl⟩, q⟩) hz
theorem vals1 {x : V} {us : List Value} (r : Vals [x] us) : ∃ u, us = [u] ∧ RelV x u := by
  cases r with
  | cons r1 r2 => cases r2; exact ⟨_, rfl, r1⟩
theorem vals2 {x y : V} {us : List Value} (r : Vals [x, y] us) : ∃ u w', us = [u, w'] ∧ RelV x u ∧ RelV y w' := by
  cases r with
  | cons r1 r2 =>
    cases r2 with
    | cons r3 r4 => cases r4; exact ⟨_, _, rfl, r1, r3⟩
theorem ub : eQ X (.builtin "abs") (fun xs H Q => ∃ i, xs = [.int i] ∧ Q (.int (if i < 0 then -i else i)) H) := by
  intro pins s σ H xs us Q I r h
  obtain ⟨i, rfl, q⟩ := h
  obtain ⟨u, rfl, t, rfl⟩ := vals1 r
  exact call_abs_int fun u tk => ⟨.int (if i < 0 then -i else i), H, I.tok _, ⟨_, rfl⟩, q⟩
theorem sX (hc : X.calm = true) : eQ X (.builtin "max") (fun xs H Q => ∃ i j, xs = [.int i, .int j] ∧ Q (.int (if j > i then j else i)) H) := by
  intro pins s σ H xs us Q I r h
  obtain ⟨i, j, rfl, q⟩ := h
  obtain ⟨u, w', rfl, ⟨t, rfl⟩, ⟨t', rfl⟩⟩ := vals2 r
  refine max_two_ints (I.ok.hd hc) fun h' tk k => ⟨_, H, I.kept k, ?_, q⟩
  by_cases hj : j > i
  · rw [if_pos hj, if_pos hj]; exact ⟨_, rfl⟩
  · rw [if_neg hj, if_neg hj]; exact ⟨_, rfl⟩
theorem rZ (hc : X.calm = true) : eQ X (.builtin "min") (fun xs H Q => ∃ i j, xs = [.int i, .int j] ∧ Q (.int (if j < i then j else i)) H) := by
  intro pins s σ H xs us Q I r h
  obtain ⟨i, j, rfl, q⟩ := h
  obtain ⟨u, w', rfl, ⟨t, rfl⟩, ⟨t', rfl⟩⟩ := vals2 r
  refine min_two_ints (I.ok.hd hc) fun h' tk k => ⟨_, H, I.kept k, ?_, q⟩
  by_cases hj : j < i
  · rw [if_pos hj, if_pos hj]; exact ⟨_, rfl⟩
  · rw [if_neg hj, if_neg hj]; exact ⟨_, rfl⟩
theorem sJ : eQ X (.type "int") (fun xs H Q => (∃ i, xs = [.int i] ∧ Q (.int i) H) ∨ ∃ k, xs = [.bl k] ∧ Q (.int (if k then 1 else 0)) H) := by
  intro pins s σ H xs us Q I r h
  rcases h with ⟨i, rfl, q⟩ | ⟨k, rfl, q⟩
  · obtain ⟨u, rfl, t, rfl⟩ := vals1 r
    exact call_int_int ⟨.int i, H, I, ⟨_, rfl⟩, q⟩
  · obtain ⟨u, rfl, r1⟩ := vals1 r
    cases r1
    exact call_int_bool ⟨.int (if k then 1 else 0), H, I.tok _, ⟨_, rfl⟩, q⟩
theorem nQ : eQ X (.type "str") (fun xs H Q => ∃ i, xs = [.int i] ∧ i.natAbs.log2 < 1920 ∧ Q (.str (toString i)) H) := by
  intro pins s σ H xs us Q I r h
  obtain ⟨i, rfl, hz, q⟩ := h
  obtain ⟨u, rfl, t, rfl⟩ := vals1 r
  exact PySem.P.str_of_int hz ⟨.str _, H, I.tok _, ⟨_, rfl⟩, q⟩
end
end L2
namespace L2
open PySem PySem.Spec PyProof.Rows
section
variable {prog : Program} {w : World} {A : Around} {E : Value → Shared → Prop} {s : Shared} {K : PySem.W.Frag} {x dx C f : Addr} {mA : Str → Option Value} {name : Str} {v : Value}
end
section
variable {P : Program} {w : World} {H H' : Hp} {h h' : Heap} {a C dx : Addr} {fs fs' : List (Str × V)}
end
section
variable {X : Cx} {pins : List (Addr × Obj)} {σ : St} {H : Hp} {s : Shared} {a C dx : Addr} {fs : List (Str × V)} {f : Str} {v : V} {A : Around} {E : Value → Shared → Prop}
end
section
variable {X : Cx} {o e value : Expr} {f : Str} {pos pos' tpos : Pos} {ta tv : TE}
end
section
variable {X : Cx} {pins : List (Addr × Obj)} {σ : St} {H : Hp} {s : Shared} {A : Around} {E : Value → Shared → Prop} {Q : Value → Shared → Prop} {c : Value} {b : Bool}
end
end L2
namespace L2
open PySem PySem.Spec PyProof.Rows
structure fU (k : Nat) (A : Around) : Prop where
  hd : A.handled = none
  dp : A.depth + 3 * k + 5 < recursionLimit
  un : A.units + 16 * k + 200 < cLine
theorem fU.mono {j k : Nat} {A : Around} (r : fU k A) (h : j ≤ k) : fU j A := ⟨r.hd, by have := r.dp; omega, by have := r.un; omega⟩
theorem fU.deeper {k : Nat} {A : Around} (r : fU (k + 1) A) (env : Env) : fU k (A.deeper env) :=
  ⟨r.hd, by have := r.dp; show A.depth + 1 + 3 * k + 5 < _; omega, by have := r.un; show A.units + 3 + 16 * k + 200 < _; omega⟩
theorem fU.depth {k : Nat} {A : Around} (r : fU k A) : A.depth < recursionLimit := by have := r.dp; omega
theorem fU.units {k : Nat} {A : Around} (r : fU k A) : A.units + 64 < cLine := by have := r.un; omega
noncomputable def AA : TA := fun _ H Q => Q [] H
noncomputable def An (ta : TE) (tr : TA) : TA := fun σ H Q => ta σ H fun x H1 => tr σ H1 fun xs H2 => Q (x :: xs) H2
section
variable {X : Cx} {e : Expr} {es : List Expr} {te : TE} {t : TA} {pos : Pos}
theorem jN : PA X [] AA := fun _ _ _ _ H Q I h => Calls.spliced_nil ⟨[], H, I, .nil, h⟩
theorem gp (ha : PE X e te) (hr : PA X es t) (hs : starEach (e :: es) X.env = (false, eval e X.env) :: starEach es X.env := by rfl) : PA X (e :: es) (An te t) := by
  intro pos pins s σ H Q I h
  rw [hs]
  show wpAny _ _ (spliced ((false, eval e X.env) :: backTo pos (starEach es X.env))) _ _ s
  refine Calls.spliced_cons (thn (ha pins s σ H _ I h) fun u s1 ⟨x, H1, I1, r1, q1⟩ => ?_)
  exact thn (hr pos pins s1 σ H1 _ I1 q1) fun us s2 ⟨xs, H2, I2, r2, q2⟩ => ⟨x :: xs, H2, I2, .cons r1 r2, q2⟩
noncomputable def AX (t : TA) : TE := fun σ H Q => t σ H fun xs H1 => xs.length ≤ sizeLine ∧ ∀ p, H1 p = none → Q (.ref p) (upd H1 p (.tup xs))
noncomputable def AW (t : TA) : TE := fun σ H Q => t σ H fun xs H1 => xs.length ≤ sizeLine ∧ ∀ p, H1 p = none → Q (.ref p) (upd H1 p (.lst xs))
theorem xE {x1} (h : PA X es t) : PE X (.Tuple es x1 pos) (AX t) := by
  intro pins s σ H Q I hq
  refine wpAny_Tuple_spliced (thn (h pos pins s σ H _ I hq) fun us s1 ⟨xs, H1, I1, r, z, q⟩ => ⟨by rw [← r.length]; exact z, ?_⟩)
  have hf : H1 s1.heap.objs.size = none := I1.hok.fresh (Nat.le_refl _)
  refine ⟨.ref s1.heap.objs.size, upd H1 s1.heap.objs.size (.tup xs), I1.laid (t' := s1.toks) (fun b u e => Heap.get?_push_of_some _ e) (Nat.le_refl _) ?_, rfl, q _ hf⟩
  exact ⟨z, us, r, ⟨_, Heap.get?_push_size _ rfl, rfl, _, rfl⟩⟩
theorem yQ (h : PA X es t) : PE X (.List es pos) (AW t) := by
  intro pins s σ H Q I hq
  refine wpAny_List_spliced (thn (h pos pins s σ H _ I hq) fun us s1 ⟨xs, H1, I1, r, z, q⟩ => ⟨by rw [← r.length]; exact z, ?_⟩)
  have hf : H1 s1.heap.objs.size = none := I1.hok.fresh (Nat.le_refl _)
  refine ⟨.ref s1.heap.objs.size, upd H1 s1.heap.objs.size (.lst xs), I1.laid (t' := s1.toks) (fun b u e => Heap.get?_push_of_some _ e) (Nat.le_refl _) ?_, rfl, q _ hf⟩
  exact ⟨z, us, 0, r, Heap.get?_push_size _ rfl⟩
end
abbrev Sp := List V → Hp → VK → XK → Prop
abbrev CXT := List Env → Hp → Shared → XK → Value → Shared → Prop
structure wJ (P : Program) (w : World) (K : PySem.W.Frag) (mg : Str → Option Value) (base : Heap) (A : Around) (outer : List Env) (s : Shared) (H : Hp) : Prop where
  frames : A.frames = some outer
  mod : Mod K mg base
  bs : ∀ b o, base.get? b = some o → s.heap.get? b = some o ∧ H b = none
  bsz : base.objs.size ≤ s.heap.objs.size
  kn : s.heap.FunFrames base outer
  frf : ∀ b ∈ frs outer, H b = none
  hok : HOk P w H s.heap
  bare : AllBare s.gens
noncomputable def CE (outer : List Env) (P : Program) (w : World) (H : Hp) (s : Shared) (Q : VK) (u : Value) (s' : Shared) : Prop :=
  ∃ v H', s'.os = s.os ∧ AllBare s'.gens ∧ Un (frs outer) [] H H' s.heap s'.heap ∧ HOk P w H' s'.heap ∧ RelV v u ∧ Q v H'
noncomputable def CR (CX : CXT) (outer : List Env) (P : Program) (w : World) (H : Hp) (s : Shared) (Q : VK) (E : XK) (r : Result) (s' : Shared) : Prop :=
  match r with
  | .ok (.ret u) => CE outer P w H s Q u s'
  | .ok _ => False
  | .error e => CX outer H s E e s'
structure cq (P : Program) (w : World) (K : PySem.W.Frag) (mg : Str → Option Value) (base : Heap) (CX : CXT) (k : Nat) (f : Addr) (fd : FuncData) (ps : List Str) (sp : Sp) : Prop where
  len : ∀ vs H Q E, sp vs H Q E → vs.length = ps.length
  run : ∀ (A : Around) (outer : List Env) (s : Shared) (H : Hp) (args : Args) (us : List Value) (vs : List V) (Q : VK) (E : XK), fU k A → wJ P w K mg base A outer s H → BindsTo s fd args (ps.zip us) → Vals vs us → sp vs H Q E →
    codeAny (model P w) A (.call (.ref f) args) (CR CX outer P w H s Q E) s
section
variable {X : Cx} {pins : List (Addr × Obj)} {σ : St} {H : Hp} {s s' : Shared}
theorem Inv.AO (I : Inv X pins σ H s) : wJ X.prog X.w X.K X.mg X.base X.A X.stack s H :=
  ⟨I.ok.frames, I.ok.mod, I.bs, Nat.le_trans I.ok.bsz I.sz, I.stack, I.nK, I.hok, I.bare⟩
theorem Inv.after {Q : VK} {u : Value} (I : Inv X pins σ H s) (h : CE X.stack X.prog X.w H s Q u s') : EP X pins σ Q u s' := by
  obtain ⟨v, H', os, bare, un, hok, r, q⟩ := h
  obtain ⟨hh, g, d, t, os'⟩ := s'
  obtain rfl : os' = s.os := os
  exact ⟨v, H', I.call (h' := hh) (g' := g) (d' := d) (t' := t) (ch := []) un hok bare (fun b z => absurd z (by simp)), r, q⟩
end
noncomputable def Ai (sp : Sp) (dvs : List V) (E : XK) (t : TA) : TE := fun σ H Q => t σ H fun vs H1 => sp (vs ++ dvs) H1 Q E
noncomputable def Binds (K : PySem.W.Frag) (fd : FuncData) (ps : List Str) (ds : List Value) : Prop :=
  ∀ (s : Shared) (us : List Value), K.In s.heap → (us ++ ds).length = ps.length → BindsTo s fd ⟨us, []⟩ (ps.zip (us ++ ds))
theorem Binds.all {K : PySem.W.Frag} {fd : FuncData} {ps : List Str} (h : ∀ us : List Value, us.length = ps.length → bindArgs fd ⟨us, []⟩ = pure (ps.zip us)) : Binds K fd ps [] := fun s us _ hl => by
  rw [List.append_nil] at hl ⊢
  exact .of_eq (h us hl)
noncomputable def Passes (CX : CXT) (X : Cx) (E : XK) : Prop := ∀ (pins : List (Addr × Obj)) (σ : St) (H : Hp) (s : Shared) (e : Value) (s' : Shared), Inv X pins σ H s → CX X.stack H s E e s' → X.xe e s'
section
variable {X : Cx} {CX : CXT} {k : Nat} {f C : Addr} {fd : FuncData} {ps : List Str} {sp : Sp} {dvs : List V} {ds : List Value} {E : XK} {x m : Str} {p pos apos : Pos} {e o : Expr} {es : List Expr} {ta : TE} {t : TA}
theorem yM {pins : List (Addr × Obj)} {σ : St} {H : Hp} {s : Shared} {Q : VK} {us : List Value} {vs : List V} (F : cq X.prog X.w X.K X.mg X.base CX k f fd ps sp) (hr : fU k X.A) (hb : Binds X.K fd ps ds) (hd : Vals dvs ds) (hx : Passes CX X E)
    (I : Inv X pins σ H s) (r : Vals vs us) (h : sp (vs ++ dvs) H Q E) : wpAny (model X.prog X.w) X.A (call (.ref f) us) (EP X pins σ Q) X.xe s := by
  have r2 : Vals (vs ++ dvs) (us ++ ds) := r.append hd
  have hl : (us ++ ds).length = ps.length := by rw [← r2.length]; exact F.len _ _ _ _ h
  refine wpAny_call (codeAny_mono (F.run X.A X.stack s H ⟨us, []⟩ (us ++ ds) (vs ++ dvs) Q E hr I.AO (hb s us I.kIn hl) r2 h) fun r s' hq => ?_)
  cases r with
  | error e => exact hx pins σ H s e s' I hq
  | ok fl =>
    cases fl with
    | ret u => exact I.after hq
    | next => exact False.elim hq
    | brk => exact False.elim hq
    | cont => exact False.elim hq
theorem vI (F : cq X.prog X.w X.K X.mg X.base CX k f fd ps sp) (hr : fU k X.A) (hg : Gl X x) (hm : X.mg x = some (.ref f)) (hk : PySem.W.keepIn X.K (.ref f) = true) (hb : Binds X.K fd ps ds) (hd : Vals dvs ds) (hx : Passes CX X E)
    (ha : PA X (e :: es) t) (hdb : (x == ("__debug__" : Str)) = false := by decide) (he : starEach (e :: es) X.env = (false, eval e X.env) :: starEach es X.env := by rfl) (hpl : (backTo pos (starEach es X.env)).any (·.1) = false := by rfl) :
    PE X (.Call (.Name x p) (e :: es) [] pos) (Ai sp dvs E t) := by
  intro pins s σ H Q I h
  refine wpAny_Call_Name_kw (q4 I hg hm ?_ hdb)
  refine PySem.W.callWith_K (h₀ := X.base) I.ok.mod.kin hk (thn (ha pos pins s σ H _ I h) fun us s1 ⟨vs, H1, I1, r, q⟩ => ⟨I1.kIn, ?_⟩) he hpl
  exact yM F hr hb hd hx I1 r q
end
section
variable {X : Cx} {CX : CXT} {k : Nat} {f C : Addr} {fd : FuncData} {ps ks : List Str} {sp : Sp} {E : XK} {x m : Str} {p pos apos kpos : Pos} {e o : Expr} {es : List Expr} {kws : List Keyword} {te ta : TE} {t tk : TA} {nm : Option Str}
variable {g : List Value → List Value → List Value} {gV : List V → List V → List V}
end
structure aE (N P : List Str) (sc : Scope) : Prop where
  kind : sc.kind = .function
  co : sc.isCoroutine = false
  gen : sc.isGenerator = false
  nd : N.Nodup
  pre : N.take P.length = P
  par : ∀ x ∈ P, sc.names.lookup x = some .local ∨ sc.names.lookup x = some .cell
  xV : ∀ y ∈ sc.names, y.2 ≠ .free
theorem mB {kindOf : Str → Option NameKind} {x : Str} : ∀ {binds : List (Str × Value)} {m : Str → Option Value}, (∀ v, (x, v) ∉ binds) → bindL kindOf binds m x = m x
  | [], _, _ => rfl
  | (n, v) :: r, m, h => by
    unfold bindL
    rw [mB fun w hw => h w (List.mem_cons_of_mem _ hw)]
    split
    · have : x ≠ n := by rintro rfl; exact h v List.mem_cons_self
      simp [this]
    · rfl
theorem mj {kindOf : Str → Option NameKind} {x : Str} : ∀ {binds : List (Str × Value)} {m : Str → Option Value}, (∀ v, (x, v) ∉ binds) → bindC kindOf binds m x = m x
  | [], _, _ => rfl
  | (n, v) :: r, m, h => by
    unfold bindC
    rw [mj fun w hw => h w (List.mem_cons_of_mem _ hw)]
    split
    · rfl
    · have : x ≠ n := by rintro rfl; exact h v List.mem_cons_self
      simp [this]
theorem mh {kindOf : Str → Option NameKind} {x : Str} {v : Value} : ∀ {P : List Str} {vs : List Value} {i : Nat} {m : Str → Option Value}, P.Nodup → P[i]? = some x → vs[i]? = some v → kindOf x = some .local →
    bindL kindOf (P.zip vs) m x = some v
  | [], _, _, _, _, h, _, _ => by simp at h
  | _ :: _, [], _, _, _, _, h, _ => by simp at h
  | p :: P, w :: vs, 0, m, nd, h1, h2, hk => by
    simp at h1 h2; subst h1; subst h2
    show bindL kindOf ((p, w) :: P.zip vs) m p = _
    unfold bindL
    rw [mB fun v hv => (List.nodup_cons.mp nd).1 (List.of_mem_zip hv).1, if_pos hk]
    simp
  | p :: P, w :: vs, i + 1, m, nd, h1, h2, hk => by
    show bindL kindOf ((p, w) :: P.zip vs) m x = _
    unfold bindL
    exact mh (i := i) (List.nodup_cons.mp nd).2 (by simpa using h1) (by simpa using h2) hk
theorem mC {kindOf : Str → Option NameKind} {x : Str} {v : Value} : ∀ {P : List Str} {vs : List Value} {i : Nat} {m : Str → Option Value}, P.Nodup → P[i]? = some x → vs[i]? = some v → kindOf x ≠ some .local →
    bindC kindOf (P.zip vs) m x = some v
  | [], _, _, _, _, h, _, _ => by simp at h
  | _ :: _, [], _, _, _, _, h, _ => by simp at h
  | p :: P, w :: vs, 0, m, nd, h1, h2, hk => by
    simp at h1 h2; subst h1; subst h2
    show bindC kindOf ((p, w) :: P.zip vs) m p = _
    unfold bindC
    rw [mj fun v hv => (List.nodup_cons.mp nd).1 (List.of_mem_zip hv).1, if_neg hk]
    simp
  | p :: P, w :: vs, i + 1, m, nd, h1, h2, hk => by
    show bindC kindOf ((p, w) :: P.zip vs) m x = _
    unfold bindC
    exact mC (i := i) (List.nodup_cons.mp nd).2 (by simpa using h1) (by simpa using h2) hk
def start (N : List Str) (vs : List V) : St := vs.map some ++ List.replicate (N.length - vs.length) none
def pK (CX : CXT) (P : Program) (w : World) (K : PySem.W.Frag) (mg : Str → Option Value) (base : Heap) (N : List Str) (qual : Str) (scope : Scope) (f : Addr) (cd : Value) (A : Around) (outer : List Env) (s : Shared) (H : Hp) (E : XK) : Cx where
  prog := P
  w := w
  K := K
  mg := mg
  base := base
  A := A.deeper (envOfC qual scope s.heap.objs.size f cd)
  N := N
  s₀ := s
  H₀ := H
  env := envOfC qual scope s.heap.objs.size f cd
  outer := outer
  stack := envOfC qual scope s.heap.objs.size f cd :: outer
  ex := []
  calm := true
  fn := fun _ => true
  pn := []
  xe := fun e s' => wpAny (model P w) (A.deeper (envOfC qual scope s.heap.objs.size f cd)) (leaving (envOfC qual scope s.heap.objs.size f cd) e) (fun _ s'' => CX outer H s E e s'') (fun e' s'' => CX outer H s E e' s'') s'
theorem oD {sc : Scope} {n : Nat} {x : Str} (h : sc.names.lookup x = some .cell) : ∃ c, (cellsFrom n sc.names []).lookup x = some c := by
  have q := PySem.W.cellsFrom_some sc.names n [] (.inl h)
  exact Option.isSome_iff_exists.mp q
theorem sO {CX : CXT} {P : Program} {w : World} {K : PySem.W.Frag} {mg : Str → Option Value} {base : Heap} {N ps : List Str} {qual : Str} {scope : Scope} {f : Addr} {cd : Value} {A : Around} {outer : List Env} {s s1 : Shared} {H : Hp} {E : XK} {us : List Value} {vs : List V}
    (S : aE N ps scope) (hd : A.handled = none) (e0 : wJ P w K mg base A outer s H) (hl : vs.length = ps.length) (r : Vals vs us)
    (x : InCallC s s.heap.objs.size (bindL (envOfC qual scope s.heap.objs.size f cd).kindOf (ps.zip us) fun _ => none) (cellsFrom (s.heap.objs.size + 1) scope.names []) (bindC (envOfC qual scope s.heap.objs.size f cd).kindOf (ps.zip us) fun _ => none) s1) :
    Inv (pK CX P w K mg base N qual scope f cd A outer s H E) [] (start N vs) H s1 := by
  have hpl : ps.length ≤ N.length := by have := congrArg List.length S.pre; rw [List.length_take] at this; omega
  obtain ⟨h1, tk, rfl, hk⟩ := x.done
  have noA : ∀ b : Addr, b ∉ (pK CX P w K mg base N qual scope f cd A outer s H E).ex := fun b z => absurd (show b ∈ ([] : List Addr) from z) (by simp)
  refine ⟨⟨e0.mod, S.kind, rfl, rfl, Nat.le_refl _, fun y z c h1 h2 => ?_, fun y hy => ?_, fun y c _ h => ?_, fun _ => hd, .inl hd, Around.frames_deeper e0.frames, .inr ⟨rfl, rfl⟩, fun b z => absurd z (noA b), e0.bs, e0.bsz, fun b _ _ => noA b, fun b z => absurd z (noA b), e0.kn, e0.frf⟩,
    rfl, e0.bare, Un.kept hk, ⟨_, x.toInCall.ns, fun i y v h1 h2 h3 => ?_⟩, fun y c h => ⟨_, x.cell y c h⟩, e0.hok.fresh (Nat.le_refl _), fun y c h => ?_, fun p hp => absurd (show p ∈ ([] : List (Addr × Obj)) from hp) (by simp), e0.hok.kept hk, ?_⟩
  · exact name_of_addr x.apart (PySem.mem_of_lookup h1) (PySem.mem_of_lookup h2)
  · have hy : scope.names.lookup y = some .cell ∨ scope.names.lookup y = some .free := hy
    rcases hy with hy | hy
    · exact oD hy
    · exact absurd rfl (S.xV _ (PySem.mem_of_lookup hy))
  · exact Nat.le_of_lt (x.above y c (PySem.mem_of_lookup h))
  · have hi : i < vs.length := by
      unfold start at h2
      by_cases hi : i < vs.length
      · exact hi
      · rw [List.getElem?_append_right (by simpa using hi)] at h2
        rw [List.getElem?_replicate] at h2
        split at h2 <;> cases h2
    have ha : vs[i]? = some v := by
      unfold start at h2
      rw [List.getElem?_append_left (by simpa using hi), List.getElem?_map] at h2
      cases e : vs[i]? with
      | none => rw [e] at h2; cases h2
      | some a => rw [e] at h2; cases h2; rfl
    obtain ⟨u, hu, rv⟩ := r.get ha
    have hp : ps[i]? = some y := by
      rw [← S.pre, List.getElem?_take_of_lt (by omega)]; exact h1
    have ndP : ps.Nodup := by rw [← S.pre]; exact S.nd.sublist (List.take_sublist _ _)
    refine ⟨u, rv, ?_⟩
    rcases S.par y (List.mem_of_getElem? hp) with k | k
    · exact .inl ⟨k, mh ndP hp hu k⟩
    · obtain ⟨c, e⟩ := oD (n := s.heap.objs.size + 1) k
      refine .inr ⟨.inl k, c, e, ?_⟩
      have q := x.cell y c e
      rw [mC ndP hp hu (by show scope.names.lookup y ≠ _; rw [k]; decide)] at q
      exact q
  · exact e0.hok.fresh (Nat.le_of_lt (x.above y c (PySem.mem_of_lookup h)))
  · unfold start
    show _ = N.length
    rw [List.length_append, List.length_map, List.length_replicate]
    omega
theorem zv {CX : CXT} {P : Program} {w : World} {K : PySem.W.Frag} {mg : Str → Option Value} {base : Heap} {k : Nat} {f : Addr} {name qual : Str} {params : Arguments} {body : List Stmt} {scope : Scope} {dV kV doc pm cdv ct oc : Value} {an od : Option Addr}
    {osl : Array (Option Value)} {N ps : List Str} {sp : Sp} (lk : K.lookup f = some ⟨oc, od, .func (PySem.W.fnOf name qual params body scope dV kV doc pm an cdv ct), osl⟩) (hcd : PySem.W.codeIn K cdv qual = true) (S : aE N ps scope)
    (len : ∀ vs H Q E, sp vs H Q E → vs.length = ps.length)
    (hbody : ∀ (A : Around) (outer : List Env) (s : Shared) (H : Hp) (vs : List V) (Q : VK) (E : XK), fU k (A.deeper (envOfC qual scope s.heap.objs.size f cdv)) → sp vs H Q E →
      ∃ t, PSs (pK CX P w K mg base N qual scope f cdv A outer s H E) body t ∧ t { nx := fun _ H' => Q .non H', rt := Q } (start N vs) H) :
    cq P w K mg base CX (k + 1) f (PySem.W.fnOf name qual params body scope dV kV doc pm an cdv ct) ps sp := by
  refine ⟨len, fun A outer s H args us vs Q E hr e0 hb r hsp => ?_⟩
  have hl := len _ _ _ _ hsp
  have KX : K.In s.heap := e0.mod.kin.keeps fun b o e => (e0.bs b o e).1
  have lim : s.heap.NoLimit := e0.mod.nolimit.keeps fun b o e => (e0.bs b o e).1
  have hkind : ∀ y ∈ ps.zip us, scope.names.lookup y.1 = some .local ∨ (scope.names.lookup y.1 = some .cell ∧ ((cellsFrom (s.heap.objs.size + 1) scope.names []).lookup y.1).isSome = true) := fun ⟨n, v⟩ hy => by
    rcases S.par n (List.of_mem_zip hy).1 with q | q
    · exact .inl q
    · exact .inr ⟨q, PySem.W.cellsFrom_some _ _ _ (.inl q)⟩
  refine codeAny_call_function hr.depth (KX _ _ lk) rfl S.co S.gen rfl (PySem.W.codeRec_of KX hcd) (hb _ _ _ _ ?_)
  refine wpAny_newFunctionEnv_cells S.kind hkind fun env he s1 x => ?_
  subst he
  refine ⟨lim.keeps x.toInCall.keep, codeAny_func ?_⟩
  obtain ⟨t, ht, hq⟩ := hbody A outer s H vs Q E (hr.deeper _) hsp
  have I : Inv (pK CX P w K mg base N qual scope f cdv A outer s H E) [] (start N vs) H s1 := sO S hr.hd e0 hl r x
  refine wpAny_mono (ht [] s1 (start N vs) H _ I hq) (fun fl s' hs => ?_) fun e s' hs => hs
  have fin : ∀ {σ' : St} {H' : Hp} {v : V} {u : Value}, Inv (pK CX P w K mg base N qual scope f cdv A outer s H E) [] σ' H' s' → RelV v u → Q v H' → CE outer P w H s Q u s' :=
    fun {σ' H' v u} J rv q => ⟨v, H', J.os, J.bare, J.base, J.hok, rv, q⟩
  cases fl with
  | ret u =>
    obtain ⟨v, σ', H', J, rv, q⟩ := hs
    exact fin J rv q
  | next =>
    obtain ⟨σ', H', J, q⟩ := hs
    exact fin (v := V.non) (u := Value.none) J rfl q
  | brk =>
    obtain ⟨_, _, _, q⟩ := hs
    exact False.elim q
  | cont =>
    obtain ⟨_, _, _, q⟩ := hs
    exact False.elim q
end L2
namespace L2
open PySem PySem.Spec PyProof.Rows
section
variable {X : Cx} {x : Str} {p pos : Pos} {e : Expr} {es : List Expr} {t : TA} {id T : String} {r : List V → Hp → VK → Prop}
noncomputable def tCB (r : List V → Hp → VK → Prop) (t : TA) : TE := fun σ H Q => t σ H fun vs H1 => r vs H1 Q
theorem pb (hc : eQ X (.builtin id) r) (hg : Gl X x) (hm : X.mg x = none) (hv : bootBuiltins x = some (.builtin id)) (ha : PA X (e :: es) t) (hn : x ≠ "__name__" := by decide) (hdb : (x == ("__debug__" : Str)) = false := by decide)
    (he : starEach (e :: es) X.env = (false, eval e X.env) :: starEach es X.env := by rfl) (hpl : (backTo pos (starEach es X.env)).any (·.1) = false := by rfl) : PE X (.Call (.Name x p) (e :: es) [] pos) (tCB r t) := by
  intro pins s σ H Q I h
  refine wpAny_Call_Name_kw (nR I hg hm hv ?_ hn hdb)
  exact PyProof.Rows.callWith_builtin1 (thn (ha pos pins s σ H _ I h) fun us s1 ⟨vs, H1, I1, r1, q1⟩ => hc pins s1 σ H1 vs us Q I1 r1 q1) he hpl
theorem sG (hc : eQ X (.type T) r) (hg : Gl X x) (hm : X.mg x = none) (hv : bootBuiltins x = some (.type T)) (ha : PA X (e :: es) t) (hn : x ≠ "__name__" := by decide) (hdb : (x == ("__debug__" : Str)) = false := by decide)
    (he : starEach (e :: es) X.env = (false, eval e X.env) :: starEach es X.env := by rfl) (hpl : (backTo pos (starEach es X.env)).any (·.1) = false := by rfl) : PE X (.Call (.Name x p) (e :: es) [] pos) (tCB r t) := by
  intro pins s σ H Q I h
  refine wpAny_Call_Name_kw (nR I hg hm hv ?_ hn hdb)
  exact PyProof.Rows.callWith_type1 (thn (ha pos pins s σ H _ I h) fun us s1 ⟨vs, H1, I1, r1, q1⟩ => hc pins s1 σ H1 vs us Q I1 r1 q1) he hpl
end
end L2
namespace HT
open PySem PyProof.Rows
section
open PySem.SeqAt
open PySem.AutoSeq1 (wpAny_loadPart')
open PySem.MeetsSeq PySem.MeetsSeq2 PySem.MeetsSeq3
end
section
variable {prog : Program} {w : World} {A : Around} {E : Value → Shared → Prop} {s : Shared}
end
end HT
namespace L2
open PySem PySem.Spec PyProof.Rows
abbrev TO := St → Hp → (Option Int → Hp → Prop) → Prop
noncomputable def PO (X : Cx) (e : Option Expr) (t : TO) : Prop :=
  ∀ (pins : List (Addr × Obj)) (s : Shared) (σ : St) (H : Hp) (Q : Option Int → Hp → Prop), Inv X pins σ H s → t σ H Q →
    wpAny (model X.prog X.w) X.A (evalPart e X.env) (fun u s' => ∃ o H', Inv X pins σ H' s' ∧ IsPart u o ∧ Q o H') X.xe s
noncomputable def wD : TO := fun _ H Q => Q none H
noncomputable def zB (t : TE) : TO := fun σ H Q => t σ H fun x H1 => ∃ i, x = .int i ∧ Q (some i) H1
section
variable {X : Cx} {e : Expr} {te : TE} {lo hi : Option Expr} {tl th : TO} {pos p2 : Pos}
theorem wX : PO X none wD := by
  intro pins s σ H Q I h
  rw [evalPart_none]
  exact wpAny_pure ⟨none, H, I, .none, h⟩
theorem vP (h : PE X e te) : PO X (some e) (zB te) := by
  intro pins s σ H Q I hw
  rw [evalPart_some]
  refine thn (h pins s σ H _ I hw) fun u s1 ⟨x, H1, I1, r1, q1⟩ => ?_
  obtain ⟨i, rfl, q⟩ := q1
  obtain ⟨t, rfl⟩ := r1
  exact ⟨some i, H1, I1, .int i t, q⟩
noncomputable def SlR (X : Cx) (r : V → Option Int → Option Int → Hp → VK → Prop) : Prop :=
  ∀ (pins : List (Addr × Obj)) (s : Shared) (σ : St) (H : Hp) (x : V) (v vl vu : Value) (lo hi : Option Int) (sl : Addr) (Q : VK), Inv X pins σ H s → RelV x v → s.heap.IsSliceOf sl vl vu .none → IsPart vl lo → IsPart vu hi → r x lo hi H Q →
    ∃ T id, typeLookup (.type T) "__getitem__" = pure (some (.builtin id)) ∧ s.TypeIs v T ∧ wpAny (model X.prog X.w) X.A (getItem v (.ref sl)) (EP X pins σ Q) X.xe s
noncomputable def tSl (r : V → Option Int → Option Int → Hp → VK → Prop) (te : TE) (tl th : TO) : TE := fun σ H Q => te σ H fun x H1 => tl σ H1 fun l H2 => th σ H2 fun u H3 => r x l u H3 Q
theorem tT {r : V → Option Int → Option Int → Hp → VK → Prop} (hr : SlR X r) (he : PE X e te) (hl : PO X lo tl) (hu : PO X hi th) : PE X (.Subscript e (.Slice lo hi none p2) pos) (tSl r te tl th) := by
  intro pins s σ H Q I h
  refine Subscript_ (thn (he pins s σ H _ I h) fun v s1 ⟨x, H1, I1, r1, q1⟩ => ?_)
  refine wpAny_Slice (thn (hl pins s1 σ H1 _ I1 q1) fun vl s2 ⟨l, H2, I2, pl, q2⟩ => thn (hu pins s2 σ H2 _ I2 q2) fun vu s3 ⟨u, H3, I3, pu, q3⟩ => ?_)
  rw [evalPart_none]
  refine wpAny_pure ?_
  have I4 : Inv X pins σ H3 { s3 with heap := s3.heap.push { cls := .type "slice", data := .fields #[vl, vu, .none] } } := I3.kept (t' := s3.toks) fun b ob q => Heap.get?_push_of_some _ q
  obtain ⟨T, id, hT, ht, hg⟩ := hr pins { s3 with heap := s3.heap.push { cls := .type "slice", data := .fields #[vl, vu, .none] } } σ H3 x v vl vu l u s3.heap.objs.size Q I4 r1 (Heap.IsSliceOf.new ..) pl pu q3
  show wpAny (model X.prog X.w) X.A (subscriptTail e (.Slice lo hi none p2) v (.ref s3.heap.objs.size)) (EP X pins σ Q) X.xe { s3 with heap := s3.heap.push { cls := .type "slice", data := .fields #[vl, vu, .none] } }
  exact tail_any (ops := [.ref s3.heap.objs.size, v]) ht hT hg (by with_unfolding_all rfl)
end
end L2
namespace L2
open PySem PySem.Spec PyProof.Rows
def ixN (n : Nat) (i : Int) : Option Nat := if 0 ≤ i then (if i < n then some i.toNat else none) else if -(n : Int) ≤ i then some (i + n).toNat else none
def atI {α : Type} (xs : List α) (i : Int) : Option α := (ixN xs.length i).bind fun j => xs[j]?
theorem qZ {n : Nat} {i : Int} {j : Nat} (h : ixN n i = some j) : seqIndex? i n = some j ∧ j < n ∧ -(n : Int) ≤ i ∧ i < n := by
  unfold ixN at h
  by_cases h0 : 0 ≤ i
  · rw [if_pos h0] at h
    by_cases h1 : i < n
    · rw [if_pos h1] at h
      have e : i.toNat = j := Option.some.inj h
      exact ⟨by rw [seqIndex_of h0 h1, e], by omega, by omega, h1⟩
    · rw [if_neg h1] at h; cases h
  · rw [if_neg h0] at h
    by_cases h1 : -(n : Int) ≤ i
    · rw [if_pos h1] at h
      have e : (i + n).toNat = j := Option.some.inj h
      exact ⟨by rw [seqIndex_neg (by omega) h1, e], by omega, h1, by omega⟩
    · rw [if_neg h1] at h; cases h
theorem nc {α : Type} {xs : List α} {i : Int} {v : α} (h : atI xs i = some v) : ∃ j, seqIndex? i xs.length = some j ∧ xs[j]? = some v ∧ j < xs.length ∧ -(xs.length : Int) ≤ i ∧ i < xs.length := by
  unfold atI at h
  cases e : ixN xs.length i with
  | none => rw [e] at h; cases h
  | some j =>
    rw [e] at h
    obtain ⟨h1, h2, h3, h4⟩ := qZ e
    exact ⟨j, h1, h, h2, h3, h4⟩
theorem kf {α : Type} {xs : List α} {j : Nat} {v : α} (h : xs[j]? = some v) : atI xs (j : Int) = some v := by
  have hj : j < xs.length := (List.getElem?_eq_some_iff.mp h).1
  have e : ixN xs.length (j : Int) = some j := by
    unfold ixN
    rw [if_pos (by omega), if_pos (by omega)]; simp
  unfold atI; rw [e]; exact h
noncomputable def qX (b : Expr) : Prop := ∀ o i, subscripted b false o i = operate [o, i] (getItem o i)
noncomputable def IxR (X : Cx) (r : R2) : Prop :=
  ∀ (value slice : Expr) (pins : List (Addr × Obj)) (s : Shared) (σ : St) (H : Hp) (x y : V) (v u : Value) (Q : VK), Inv X pins σ H s → RelV x v → RelV y u → r x y H Q →
    subscripted slice false v u = operate [v, u] (getItem v u) → wpAny (model X.prog X.w) X.A (subscriptTail value slice v u) (EP X pins σ Q) X.xe s
noncomputable def MtR (X : Cx) (id : String) (r : V → List V → Hp → VK → Prop) : Prop :=
  ∀ (pins : List (Addr × Obj)) (s : Shared) (σ : St) (H : Hp) (x : V) (xs : List V) (v : Value) (us : List Value) (Q : VK), Inv X pins σ H s → RelV x v → Vals xs us → r x xs H Q →
    wpAny (model X.prog X.w) X.A (call (.builtin id) (v :: us)) (EP X pins σ Q) X.xe s
section
variable {X : Cx} {a b : Expr} {ta tb : TE} {pos : Pos}
theorem IxR.or {r r' : R2} (h : IxR X r) (h' : IxR X r') : IxR X (fun x y H Q => r x y H Q ∨ r' x y H Q) := by
  intro value slice pins s σ H x y v u Q I rx ry q hs
  rcases q with q | q
  · exact h value slice pins s σ H x y v u Q I rx ry q hs
  · exact h' value slice pins s σ H x y v u Q I rx ry q hs
theorem zu {r : R2} (hr : IxR X r) (ha : PE X a ta) (hb : PE X b tb) (hs : qX b) : PE X (.Subscript a b pos) (tOp r ta tb) := by
  intro pins s σ H Q I h
  exact Subscript_ (yj ha hb I h fun v u s2 x y H2 I2 rx ry q => hr a b pins s2 σ H2 x y v u Q I2 rx ry q (hs _ _))
noncomputable def Ah (K : PySem.W.Frag) : R2 := fun x y H Q => ∃ p xs i v, x = .ref p ∧ y = .int i ∧ SqL K H p xs ∧ atI xs i = some v ∧ Q v H
noncomputable def zw (K : PySem.W.Frag) : R2 := fun x y H Q => ∃ p xs i v, x = .ref p ∧ y = .int i ∧ SqT K H p xs ∧ atI xs i = some v ∧ Q v H
noncomputable def zW : R2 := fun x y H Q => ∃ z i c, x = .str z ∧ y = .int i ∧ z.length ≤ sizeLine ∧ atI z.cps.toList i = some c ∧ Q (.str ⟨#[c]⟩) H
theorem wc : IxR X (Ah X.K) := by
  intro value slice pins s σ H x y v u Q I rx ry h hs
  obtain ⟨p, xs, i, z, rfl, rfl, hq, he, q⟩ := h
  cases rx
  obtain ⟨t, rfl⟩ := ry
  obtain ⟨its, r, pl, hz⟩ := I.list hq
  obtain ⟨j, h1, h2, h3, h4, h5⟩ := nc he
  obtain ⟨w, ew, rw'⟩ := r.get h2
  have hl := r.length
  have hn := ij
  have fin : EP X pins σ Q w s := ⟨z, H, I, rw', q⟩
  by_cases h0 : 0 ≤ i
  · have hj : i.toNat = j := by
      rw [seqIndex_of h0 h5] at h1
      exact Option.some.inj h1
    exact item_listR pl.isList h0 (by omega) (by rw [hj]; simpa using ew) fin hs
  · have hj : (i + (its.toArray.size : Int)).toNat = j := by
      rw [seqIndex_neg (by omega) h4] at h1
      rw [List.size_toArray, ← hl]
      exact Option.some.inj h1
    exact subscriptTail_builtinR (x := w) pl.isList.typeIs slot_list_getitem.lookup
      (wpAny_getItem_list_neg (Q := fun r s' => r = w ∧ EP X pins σ Q r s') pl.isList (by omega) (by rw [List.size_toArray] <;> omega) (by omega) (by rw [hj]; simpa using ew) ⟨rfl, fin⟩) hs
theorem xy : IxR X (zw X.K) := by
  intro value slice pins s σ H x y v u Q I rx ry h hs
  obtain ⟨p, xs, i, z, rfl, rfl, hq, he, q⟩ := h
  cases rx
  obtain ⟨t, rfl⟩ := ry
  obtain ⟨its, r, pl, hz⟩ := I.tuple hq
  obtain ⟨j, h1, h2, h3, h4, h5⟩ := nc he
  obtain ⟨w, ew, rw'⟩ := r.get h2
  have hl := r.length
  have hn := ij
  have fin : EP X pins σ Q w s := ⟨z, H, I, rw', q⟩
  exact subscriptTail_builtinR (x := w) pl.typeIs slot_tuple_getitem.lookup
    (getItem_tuple (j := j) (Q := fun r s' => r = w ∧ EP X pins σ Q r s') pl (by omega) (by omega) (by rw [List.size_toArray, ← hl]; exact h1) (by simpa using ew) ⟨rfl, fin⟩) hs
theorem yP : IxR X zW := by
  intro value slice pins s σ H x y v u Q I rx ry h hs
  obtain ⟨z, i, c, rfl, rfl, hz, he, q⟩ := h
  obtain ⟨t, rfl⟩ := rx
  obtain ⟨t', rfl⟩ := ry
  obtain ⟨j, h1, h2, h3, h4, h5⟩ := nc he
  have hl : z.cps.toList.length = z.length := by simp [Str.length]
  rw [hl] at h1 h4 h5
  have hn := ij
  exact tail_any (typeIs_str s z t) slot_str_getitem.lookup (getItem_str (c := c) (by
    have e1 : decide (i < -(2 ^ 63 : Int)) = false := decide_eq_false (by omega)
    have e2 : decide (i ≥ 2 ^ 63) = false := decide_eq_false (by omega)
    rw [e1, e2, Bool.or_false]) (by rw [h1]; simpa using h2) ⟨.str ⟨#[c]⟩, H, I.tok _, ⟨_, rfl⟩, q⟩) hs
noncomputable def rIx (K : PySem.W.Frag) : R2 := fun x y H Q => Ah K x y H Q ∨ zw K x y H Q ∨ zW x y H Q
theorem yN : IxR X (rIx X.K) := wc.or (xy.or yP)
theorem qG (its : List Value) (n j : Nat) (u : Value) : Obj.mapSeq (·.setIfInBounds j u) { cls := .type "list", data := .seq its.toArray n } = { cls := .type "list", data := .seq (its.set j u).toArray n } := by
  simp [Obj.mapSeq]
theorem Inv.lst {pins : List (Addr × Obj)} {σ : St} {H : Hp} {s : Shared} {p : Addr} {xs : List V} (I : Inv X pins σ H s) (h : H p = some (.lst xs)) :
    ∃ (its : List Value) (n : Nat), Vals xs its ∧ s.heap.get? p = some { cls := .type "list", data := .seq its.toArray n } ∧ xs.length ≤ sizeLine := by
  obtain ⟨z, its, n, r, e⟩ := I.hok p _ h
  exact ⟨its, n, r, e, z⟩
theorem Inv.yA {pins : List (Addr × Obj)} {σ : St} {H : Hp} {s : Shared} {p : Addr} {xs ys : List V} {its its' : List Value} {n n' : Nat} {f : Obj → Obj} (I : Inv X pins σ H s) (h : H p = some (.lst xs))
    (ho : s.heap.get? p = some { cls := .type "list", data := .seq its.toArray n }) (hf : f { cls := .type "list", data := .seq its.toArray n } = { cls := .type "list", data := .seq its'.toArray n' }) (r : Vals ys its') (hz : ys.length ≤ sizeLine) (t : Nat) :
    Inv X pins σ (upd H p (.lst ys)) { s with heap := s.heap.update p f, toks := t } := by
  have e : (s.heap.update p f).get? p = some { cls := .type "list", data := .seq its'.toArray n' } := by
    rw [Heap.get?_update_self f ho (by rw [hf] <;> rfl), hf]
  refine I.write (x := p) (e := p) (by rw [h]; trivial) (.inl rfl) (fun b u hb q => (Heap.get?_update_other _ _ (Ne.symm hb)).trans q) ⟨_, e⟩ ?_
  exact ⟨hz, its', n', r, e⟩
def zQ : V → V → V → Hp → (Hp → Prop) → Prop := fun o i v H Q => ∃ p xs k j, o = .ref p ∧ i = .int k ∧ H p = some (.lst xs) ∧ ixN xs.length k = some j ∧ Q (upd H p (.lst (xs.set j v)))
theorem set_list : zT X zQ := by
  intro pins s σ H o i v ov iv u Q I ro ri rv h
  obtain ⟨p, xs, k, j, rfl, rfl, hp, hj, q⟩ := h
  cases ro
  obtain ⟨t, rfl⟩ := ri
  obtain ⟨its, n, r, ho, hz⟩ := I.lst hp
  obtain ⟨h1, h2, h3, h4⟩ := qZ hj
  have hl := r.length
  have hn := ij
  have I' : Inv X pins σ (upd H p (.lst (xs.set j v))) { s with heap := s.heap.update p (Obj.mapSeq (·.setIfInBounds j u)) } :=
    I.yA hp ho (qG its n j u) (r.set rv j) (by rw [List.length_set]; exact hz) s.toks
  by_cases h0 : 0 ≤ k
  · have hk : k.toNat = j := by
      rw [seqIndex_of h0 h4] at h1
      exact Option.some.inj h1
    exact PySem.W.ki_setAt ho h0 (by omega) (by rw [List.size_toArray, ← hl]; exact h4) (by rw [hk]; exact ⟨_, I', q⟩)
  · have hk : (k + (its.toArray.size : Int)).toNat = j := by
      rw [seqIndex_neg (by omega) h3] at h1
      rw [List.size_toArray, ← hl]
      exact Option.some.inj h1
    exact PySem.W.ki_setBack ho (by omega) (by rw [List.size_toArray, ← hl]; exact h3) (by omega) (by rw [hk]; exact ⟨_, I', q⟩)
theorem mR : eQ X (.builtin "len") (fun xs H Q => ∃ p ys, xs = [.ref p] ∧ (SqL X.K H p ys ∨ SqT X.K H p ys) ∧ Q (.int ys.length) H) := by
  intro pins s σ H xs us Q I r h
  obtain ⟨p, ys, rfl, hq, q⟩ := h
  obtain ⟨u, rfl, rx⟩ := vals1 r
  cases rx
  have hn := ij
  rcases hq with hq | hq
  · obtain ⟨its, r', pl, hz⟩ := I.list hq
    have hlen := r'.length
    exact Calls.call_len_list pl.isList (by simp only [List.size_toArray] <;> omega) ⟨.int ys.length, H, I.tok _, ⟨s.toks + 1, by rw [List.size_toArray, hlen]⟩, q⟩
  · obtain ⟨its, r', pl, hz⟩ := I.tuple hq
    have hlen := r'.length
    exact len_tuple pl (by simp only [List.size_toArray] <;> omega) ⟨.int ys.length, H, I.tok _, ⟨s.toks + 1, by rw [List.size_toArray, hlen]⟩, q⟩
theorem nh : eQ X (.builtin "len") (fun xs H Q => ∃ z, xs = [.str z] ∧ z.length ≤ sizeLine ∧ Q (.int z.length) H) := by
  intro pins s σ H xs us Q I r h
  obtain ⟨z, rfl, hz, q⟩ := h
  obtain ⟨u, rfl, t, rfl⟩ := vals1 r
  have hn := ij
  exact len_str (by omega) ⟨.int z.length, H, I.tok _, ⟨_, rfl⟩, q⟩
noncomputable def tyV (K : PySem.W.Frag) (T : String) (x : V) (H : Hp) : Prop := match x with
  | .str _ => T = "str"
  | .int _ => T = "int"
  | .ref p => (T = "list" ∧ ∃ xs, SqL K H p xs) ∨ (T = "tuple" ∧ ∃ o, K.lookup p = some o ∧ o.cls = .type "tuple" ∧ o.dict = none) ∨
      (T = "dict" ∧ ((∃ kvs, H p = some (.dK kvs)) ∨ ∃ kvs, H p = some (.dT kvs))) ∨ (T = "set" ∧ ∃ S n, H p = some (.set S n))
  | _ => False
theorem tV {pins : List (Addr × Obj)} {σ : St} {H : Hp} {s : Shared} {T : String} {x : V} {v : Value} (I : Inv X pins σ H s) (r : RelV x v) (ty : tyV X.K T x H) :
    s.TypeIs v T ∧ ∀ a, v = .ref a → ∃ ob, s.heap.get? a = some ob ∧ ob.dict = none := by
  cases x with
  | str z =>
    obtain ⟨t, rfl⟩ := r
    cases (show T = "str" from ty)
    exact ⟨typeIs_str s z t, fun _ e => nomatch e⟩
  | int i =>
    obtain ⟨t, rfl⟩ := r
    cases (show T = "int" from ty)
    exact ⟨typeIs_int s i t, fun _ e => nomatch e⟩
  | ref p =>
    cases r
    rcases ty with ⟨rfl, xs, hq⟩ | ⟨rfl, o, hk, hc, hd⟩ | ⟨rfl, hk⟩ | ⟨rfl, S, n, hk⟩
    · obtain ⟨its, _, pl, _⟩ := I.list hq
      refine ⟨pl.isList.typeIs, fun a e => ?_⟩
      cases e
      obtain ⟨o, n, e, c, hd, _⟩ := pl
      exact ⟨o, e, hd⟩
    · refine ⟨⟨o, I.kIn p o hk, hc⟩, fun a e => ?_⟩
      cases e
      exact ⟨o, I.kIn _ o hk, hd⟩
    · have z : ∃ o, s.heap.get? p = some o ∧ o.ExactDict := by
        rcases hk with ⟨kvs, hk⟩ | ⟨kvs, hk⟩
        · obtain ⟨_, _, _, _, o, _, _, e, ex, _⟩ := I.hok p _ hk
          exact ⟨o, e, ex⟩
        · obtain ⟨_, _, _, _, o, _, _, e, ex, _⟩ := I.hok p _ hk
          exact ⟨o, e, ex⟩
      obtain ⟨o, e, ex⟩ := z
      refine ⟨⟨o, e, ex.1⟩, fun a e2 => ?_⟩
      cases e2
      exact ⟨o, e, ex.2.1⟩
    · obtain ⟨o, _, _, _, e, ex, _⟩ := I.hok p _ hk
      refine ⟨⟨o, e, ex.1⟩, fun a e2 => ?_⟩
      cases e2
      exact ⟨o, e, ex.2.1⟩
  | _ => exact False.elim ty
noncomputable def AY (K : PySem.W.Frag) (T : String) (r : V → List V → Hp → VK → Prop) (to : TE) : TE := fun σ H Q => to σ H fun x H1 => tyV K T x H1 ∧ r x [] H1 Q
noncomputable def tBM (K : PySem.W.Frag) (T : String) (r : V → List V → Hp → VK → Prop) (to : TE) (t : TA) : TE := fun σ H Q => to σ H fun x H1 => tyV K T x H1 ∧ t σ H1 fun xs H2 => r x xs H2 Q
variable {o e : Expr} {es : List Expr} {to : TE} {t : TA} {name : Str} {apos cpos : Pos} {T id : String} {r : V → List V → Hp → VK → Prop}
theorem yZ (pa : PlainAttrs T) (slot : Slot T name id) (hty : typeOf (.builtin id) = pure (.type "method_descriptor")) (hm : MtR X id r) (ho : PE X o to)
    (hbase : attributeBase o name X.env (eval o X.env) = eval o X.env := by rfl) (hline : (apos.endLine == cpos.line) = true := by rfl) : PE X (.Call (.Attribute o name apos) [] [] cpos) (AY X.K T r to) := by
  intro pins s σ H Q I h
  refine wpAny_Call_method0_late hbase hline (thn (ho pins s σ H _ I h) fun v s1 ⟨x, H1, I1, r1, ty, q1⟩ => ?_)
  obtain ⟨h1, h2⟩ := tV I1 r1 ty
  exact ⟨T, id, pa, slot, hty, h1, h2, Calls.callWith_builtin rfl (PySem.evalArgs_none (hm pins s1 σ H1 x [] v [] Q I1 r1 .nil q1))⟩
theorem qQ (pa : PlainAttrs T) (slot : Slot T name id) (hty : typeOf (.builtin id) = pure (.type "method_descriptor")) (hm : MtR X id r) (ho : PE X o to) (ha : PA X (e :: es) t)
    (hbase : attributeBase o name X.env (eval o X.env) = eval o X.env := by rfl)
    (hfew : ((backTo cpos (starEach (e :: es) X.env)).all (fun x => !x.1) && (backToKw cpos (keywordEach [] X.env)).all (fun x => x.1.isSome)
      && decide ((e :: es).length + ([] : List Keyword).length + (if ([] : List Keyword).isEmpty then 0 else 1) < 30)) = true := by rfl)
    (hline : (apos.endLine == cpos.line) = true := by rfl) (hs : starEach (e :: es) X.env = (false, eval e X.env) :: starEach es X.env := by rfl) (hplain : (backTo cpos (starEach es X.env)).any (·.1) = false := by rfl) :
    PE X (.Call (.Attribute o name apos) (e :: es) [] cpos) (tBM X.K T r to t) := by
  intro pins s σ H Q I h
  refine wpAny_Call_method_late hbase hfew hline rfl (thn (ho pins s σ H _ I h) fun v s1 ⟨x, H1, I1, r1, ty, q1⟩ => ?_)
  obtain ⟨h1, h2⟩ := tV I1 r1 ty
  refine ⟨T, id, pa, slot, hty, h1, h2, ?_⟩
  have hA := ha cpos pins s1 σ H1 _ I1 q1
  rw [hs] at hA ⊢
  refine Calls.callWith_builtin (by show (false || (backTo cpos (starEach es X.env)).any (·.1)) = false; rw [hplain] <;> rfl) (Calls.evalArgs_plain ?_)
  exact thn hA fun us s2 ⟨vs, H2, I2, r2, q2⟩ => hm pins s2 σ H2 x vs v us Q I2 r1 r2 q2
end
end L2
namespace L2
open PySem PySem.Spec PyProof.Rows
noncomputable def MtM (X : Cx) (id : String) (r : V → List V → Hp → VK → Prop) : Prop :=
  ∀ (pins : List (Addr × Obj)) (s : Shared) (σ : St) (H : Hp) (x : V) (xs : List V) (v : Value) (us : List Value) (Q : VK), Inv X pins σ H s → RelV x v → Vals xs us → r x xs H Q →
    wpAny (model X.prog X.w) X.A (call (.builtin id) (v :: us)) (EP X pins σ Q) X.xe s
theorem Vals.one : ∀ {x : V} {us : List Value}, Vals [x] us → ∃ u, us = [u] ∧ RelV x u
  | _, _, .cons r .nil => ⟨_, rfl, r⟩
theorem Vals.zero : ∀ {us : List Value}, Vals [] us → us = []
  | _, .nil => rfl
theorem Vals.dropLast {xs : List V} {us : List Value} (h : Vals xs us) : Vals xs.dropLast us.dropLast := by
  induction h with
  | nil => exact .nil
  | cons r t ih =>
    cases t with
    | nil => exact .nil
    | cons q t' => exact .cons r ih
theorem Vals.reverse {xs : List V} {us : List Value} (h : Vals xs us) : Vals xs.reverse us.reverse := by
  induction h with
  | nil => exact .nil
  | cons r t ih => rw [List.reverse_cons, List.reverse_cons]; exact Vals.append ih (.cons r .nil)
theorem qv {α : Type} (l : List α) : l.eraseIdx (l.length - 1) = l.dropLast := by
  induction l with
  | nil => rfl
  | cons a r ih =>
    cases r with
    | nil => rfl
    | cons b r =>
      have e : (a :: b :: r).length - 1 = ((b :: r).length - 1) + 1 := by
        have h1 : (a :: b :: r).length = r.length + 2 := rfl
        have h2 : (b :: r).length = r.length + 1 := rfl
        omega
      rw [e, List.eraseIdx_cons_succ, ih]
      all_goals rfl
section
variable {X : Cx} {pins : List (Addr × Obj)} {σ : St} {H : Hp} {s : Shared} {l b : Addr} {xs ys zs : List V}
theorem Inv.x9 {its its' : List Value} {n : Nat} {f : Array Value → Array Value} {t' : Nat} (I : Inv X pins σ H s) (hH : H l = some (.lst xs))
    (e : s.heap.get? l = some { cls := .type "list", data := .seq its.toArray n }) (hf : f its.toArray = its'.toArray) (hv : Vals ys its') (hz : ys.length ≤ sizeLine) :
    Inv X pins σ (upd H l (.lst ys)) { s with heap := s.heap.update l (Obj.mapSeq f), toks := t' } := by
  have q := PySem.IsL.update e f
  rw [hf] at q
  refine I.write (x := l) (e := l) (by rw [hH]; exact trivial) (.inl rfl) (fun b' u hb hu => (Heap.get?_update_other s.heap (Obj.mapSeq f) (Ne.symm hb)).trans hu) ⟨_, q⟩ ?_
  exact ⟨hz, its', _, hv, q⟩
theorem Inv.wL (I : Inv X pins σ H s) (hH : H l = some (.lst xs)) : xs.length ≤ sizeLine ∧ ∃ (its : List Value) (n : Nat), Vals xs its ∧ xs.length = its.length ∧ s.heap.get? l = some { cls := .type "list", data := .seq its.toArray n } := by
  obtain ⟨z, its, n, r, e⟩ := I.hok l _ hH
  exact ⟨z, its, n, r, r.length, e⟩
end
section
variable {X : Cx}
def vS : V → List V → Hp → VK → Prop := fun x vs H Q => ∃ l xs y, x = .ref l ∧ vs = [y] ∧ H l = some (.lst xs) ∧ xs.length < sizeLine ∧ Q .non (upd H l (.lst (xs ++ [y])))
theorem jM : MtM X "list.append" vS := by
  intro pins s σ H x vs v us Q I rx rv h
  obtain ⟨l, xs, y, rfl, rfl, hH, hz, q⟩ := h
  cases rx
  obtain ⟨u, rfl, ru⟩ := rv.one
  obtain ⟨z, its, n, r, hl, e⟩ := I.wL hH
  refine call_meets F.slot_list_append ⟨_, e, rfl⟩ F.entry_list_append (F.args_list_append_2 _ _) (PySem.list_append l its.toArray n u (by rw [List.size_toArray]; omega)) ⟨e, ?_⟩
  refine ⟨.non, _, I.x9 (its' := its ++ [u]) hH e (by simp) (r.append (.cons ru .nil)) ?_, rfl, q⟩
  rw [List.length_append, List.length_singleton]
  omega
def AL : V → List V → Hp → VK → Prop := fun x vs H Q => ∃ l xs y, x = .ref l ∧ vs = [] ∧ H l = some (.lst xs) ∧ xs[xs.length - 1]? = some y ∧ Q y (upd H l (.lst xs.dropLast))
theorem AS : MtM X "list.pop" AL := by
  intro pins s σ H x vs v us Q I rx rv h
  obtain ⟨l, xs, y, rfl, rfl, hH, hy, q⟩ := h
  cases rx
  have hus := rv.zero
  subst hus
  obtain ⟨z, its, n, r, hl, e⟩ := I.wL hH
  obtain ⟨u, hu, ru⟩ := r.get hy
  have hy' : its.toArray[its.toArray.size - 1]? = some u := by
    show its.toArray[its.length - 1]? = some u
    rw [← Array.getElem?_toList, ← hl]
    exact hu
  refine call_meets F.slot_list_pop ⟨_, e, rfl⟩ F.entry_list_pop (F.args_list_pop_1 _) (MeetsSeq.list_pop_last l its.toArray n u hy' (by rw [List.size_toArray]; omega)) ⟨e, ?_⟩
  refine ⟨y, _, I.x9 (its' := its.dropLast) hH e ?_ r.dropLast ?_, ru, q⟩
  · show its.toArray.eraseIdxIfInBounds (its.toArray.size - 1) = its.dropLast.toArray
    rw [List.size_toArray, List.eraseIdxIfInBounds_toArray, qv]
  · rw [List.length_dropLast]
    omega
def u9 : V → List V → Hp → VK → Prop := fun x vs H Q => ∃ l xs, x = .ref l ∧ vs = [] ∧ H l = some (.lst xs) ∧ Q .non (upd H l (.lst xs.reverse))
theorem qb : MtM X "list.reverse" u9 := by
  intro pins s σ H x vs v us Q I rx rv h
  obtain ⟨l, xs, rfl, rfl, hH, q⟩ := h
  cases rx
  have hus := rv.zero
  subst hus
  obtain ⟨z, its, n, r, hl, e⟩ := I.wL hH
  refine call_meets F.slot_list_reverse ⟨_, e, rfl⟩ F.entry_list_reverse (F.args_list_reverse_1 _) (AutoSeq1.list_reverse_list_0 l its.toArray n (by rw [List.size_toArray]; omega)) ⟨e, ?_⟩
  refine ⟨.non, _, I.x9 (its' := its.reverse) hH e (by simp) r.reverse ?_, rfl, q⟩
  rw [List.length_reverse]
  omega
end
section
variable {prog : Program} {w : World} {A : Around} {E : Value → Shared → Prop} {s : Shared}
end
section
variable {X : Cx}
end
end L2
namespace Att
open PySem PySem.W PySem.Calls PyProof.Rows
theorem j9 {P : Params} {h : Heap} : ∀ (ns : List Int) (vs : List Value), WellAll P h vs (ns.map WData.int) → IntsAre vs ns := by
  intro ns
  induction ns with
  | nil =>
    intro vs w
    rw [List.map_nil] at w
    cases w
    exact .nil
  | cons n ns ih =>
    intro vs w
    rw [List.map_cons] at w
    cases w with
    | cons a b =>
      cases a
      exact .cons _ _ (ih _ b)
theorem sQ {l : OpenLaw} {n : Nat} (hn : l.most = some n) {P : Params} {h : Heap} {args : List WData} {vals : List Value}
    (hpre : l.row.toRowW.claim.pre args = true) (hwl : WellAll P h vals args) :
    ∃ a vs ns, vals = [Value.ref a] ∧ args = [WData.list (ns.map WData.int)] ∧ h.get? a = some { cls := .type "list", data := .seq vs.toArray } ∧ IntsAre vs ns ∧ ns.length ≤ n := by
  have hsh : WShape.hasAll [] args [.list .int] = true := (pre_splitW hpre).1
  have hc : l.pre.holds [] { args := args } = true := (pre_splitW hpre).2
  obtain ⟨d, r, rfl, h1, h2⟩ := hasAllW_cons hsh
  obtain rfl := hasAllW_nil h2
  obtain ⟨xs, rfl, h3⟩ := hasW_list h1
  obtain ⟨ns, rfl⟩ := items_int h3
  have hlen : ns.length ≤ n := by
    unfold OpenLaw.pre at hc
    have h4 : (WTm.not (.lt (.lit (.int (n : Int))) (.len (.arg 0)))).holds [] { args := [.list (ns.map .int)] } = true := by
      have h4 := (holds_andW hc).1
      rw [hn] at h4
      exact h4
    have h5 := condW_of h4 (w_not (w_lt w_lit (w_len_list (w_arg rfl))))
    rw [List.length_map] at h5
    refine Nat.le_of_not_lt fun q => ?_
    have q' : (n : Int) < ((ns.length : Nat) : Int) := by omega
    first
      | (rw [decide_eq_true q'] at h5; exact absurd h5 (by decide))
      | (simp at h5; omega)
  cases hwl with
  | cons w1 w2 =>
    cases w2
    cases w1 with
    | list ho hall => exact ⟨_, _, ns, rfl, rfl, ho, j9 ns _ hall, hlen⟩
theorem sg (l : OpenLaw) (args : List WData) : l.row.toRowW.claim.post args (.bool true) args = true :=
  postW_of (r := l.row.toRowW) (X := (true == true))
    (show WShape.has [] (.bool true) .bool = true by first | rfl | decide | simp [WShape.has, WShape.arms, WShape.armsAll])
    (show (WTm.eq .res (.lit (.bool true))).value [] { args := args, res := some (.bool true), after := args } = some (.bool (true == true)) from w_eq_bool (w_res rfl) w_lit) rfl
theorem oh {l : OpenLaw} {n : Nat} {q : Program} {loose : List Str} {XP : (Str → Option Value) → Heap → Prop} {YP : World → Heap → Prop} {d : DefRec}
    (hn : l.most = some n) (hdf : d.params.defaults = [])
    (call : ∀ (w : World) (s₀ s₁ : Shared) (mg mb : Str → Option Value) (fa : Addr) (o : Obj) (pm cd doc : Value) (a : Addr) (vs : List Value) (ns : List Int),
      Ground q loose [] XP w s₀ mg mb s₁.heap → YP w s₁.heap →
      s₁.heap.get? fa = some o → o.data = .func (docDef d.name d.params d.body d.scope pm cd doc) → s₁.heap.CodeRec cd d.name → mg d.name = some (.ref fa) →
      s₁.heap.get? a = some { cls := .type "list", data := .seq vs.toArray } → IntsAre vs ns → ns.length ≤ n → s₁.gens = #[] →
      codeAny (model l.prog w) callerA (.call (.ref fa) ⟨[.ref a], []⟩) (fun r s' => r = .ok (.ret (.bool true)) ∧ OldK s₁.heap s'.heap ∧ s'.os = s₁.os ∧ AllBare s'.gens) s₁) :
    WalkO q loose XP YP l.row.toRowW d [] (fun f vs => PySem.call f vs) := by
  intro w s₀ s₁ mg mb G Y fa o pm cd doc dV kV ho hd hcd hD hmg hg args vals as hpre hlay hrd hwl hlo
  obtain rfl : dV = .none := Dflts.none hD hdf
  obtain rfl : kV = .none := Dflts.noKw hD
  obtain ⟨a, vs, ns, rfl, rfl, hobj, hints, hlen⟩ := sQ hn hpre hwl
  refine enter_call (codeAny_mono (call w s₀ s₁ mg mb fa o pm cd doc a vs ns G Y ho (fd_plain hd) hcd hmg hobj hints hlen hg) fun r s' hq => ?_)
  obtain ⟨rfl, h2, h3, h4⟩ := hq
  exact ⟨.inl ⟨.bool true, .bool true, [], rfl, fun _ => rfl, .bool true, sg l _, fun _ => ⟨List.Pairwise.nil, fun _ hm => (nomatch hm)⟩⟩, h2, h3, h4⟩
section
variable {prog : Program} {w : World} {A : Around} {E : Value → Shared → Prop} {s : Shared} {K : Frag}
end
end Att
namespace L2
open PySem PySem.Spec PyProof.Rows
theorem mm : ∀ {vs : List Value} {ns : List Int}, IntsAre vs ns → Vals (ns.map V.int) vs
  | _, _, .nil => .nil
  | _, _, .cons n t h => .cons ⟨t, rfl⟩ (mm h)
end L2
namespace L2
open PySem PySem.Spec PyProof.Rows
end L2
namespace L2
open PySem PySem.Spec PyProof.Rows
noncomputable abbrev CX0 : CXT := fun _ _ _ _ _ _ => False
noncomputable abbrev E0 : XK := fun _ _ _ => False
theorem zp {X : Cx} : Passes CX0 X E0 := fun _ _ _ _ _ _ _ h => h.elim
structure Fun (K : PySem.W.Frag) (x qual : Str) (st : Stmt) (f : Addr) (fd : FuncData) : Prop where
  ex : ∃ (oc : Value) (od : Option Addr) (kV doc pm : Value) (an : Option Addr) (cdv ct : Value) (osl : Array (Option Value)),
    fd = PySem.W.fnOf x qual (eU st) (d0 st) (aq st) .none kV doc pm an cdv ct ∧ K.lookup f = some ⟨oc, od, .func fd, osl⟩ ∧ PySem.W.codeIn K cdv qual = true
  kp : PySem.W.keepIn K (.ref f) = true
section
variable {P : Program} {w : World} {K : PySem.W.Frag} {mg : Str → Option Value} {base : Heap}
theorem Fun.ok {x qual : Str} {st : Stmt} {f : Addr} {fd : FuncData} {N ps : List Str} {k : Nat} {sp : Sp} (F : Fun K x qual st f fd) (S : aE N ps (aq st)) (len : ∀ vs H Q E, sp vs H Q E → vs.length = ps.length)
    (hbody : ∀ (cdv : Value) (A : Around) (outer : List Env) (s : Shared) (H : Hp) (vs : List V) (Q : VK) (E : XK), fU k (A.deeper (envOfC qual (aq st) s.heap.objs.size f cdv)) → sp vs H Q E →
      ∃ t, PSs (pK CX0 P w K mg base N qual (aq st) f cdv A outer s H E).nox (d0 st) t ∧ t { nx := fun _ H' => Q .non H', rt := Q } (start N vs) H) : cq P w K mg base CX0 (k + 1) f fd ps sp := by
  obtain ⟨oc, od, kV, doc, pm, an, cdv, ct, osl, rfl, lk, hcd⟩ := F.ex
  refine zv lk hcd S len fun A outer s H vs Q E hr hsp => ?_
  obtain ⟨t, h, q⟩ := hbody cdv A outer s H vs Q E hr hsp
  exact ⟨t, h.nox, q⟩
theorem Fun.binds {x qual : Str} {st : Stmt} {f : Addr} {fd : FuncData} {ps : List Str} (F : Fun K x qual st f fd)
    (h : ∀ (kV doc pm : Value) (an : Option Addr) (cdv ct : Value) (us : List Value), us.length = ps.length → bindArgs (PySem.W.fnOf x qual (eU st) (d0 st) (aq st) .none kV doc pm an cdv ct) ⟨us, []⟩ = pure (ps.zip us)) : Binds K fd ps [] := by
  obtain ⟨oc, od, kV, doc, pm, an, cdv, ct, osl, rfl, lk, hcd⟩ := F.ex
  exact .all (h kV doc pm an cdv ct)
theorem bj {x qual : Str} {st : Stmt} {f : Addr} {oc : Value} {od an : Option Addr} {osl : Array (Option Value)} {kV doc pm cdv ct : Value} (l : K.lookup f = some ⟨oc, od, .func (PySem.W.fnOf x qual (eU st) (d0 st) (aq st) .none kV doc pm an cdv ct), osl⟩)
    (c : PySem.W.codeIn K cdv qual = true) (k : PySem.W.keepIn K (.ref f) = true) : Fun K x qual st f (PySem.W.fnOf x qual (eU st) (d0 st) (aq st) .none kV doc pm an cdv ct) := ⟨⟨oc, od, kV, doc, pm, an, cdv, ct, osl, rfl, l, c⟩, k⟩
end
theorem d9 {n : Nat} (h : n ≤ 1000) : n < sizeLine := Nat.lt_of_le_of_lt h (by decide)
section
variable {X : Cx}
end
theorem oG {A B : Prop} (h : B) : if false = true then A else B := by
  rw [if_neg Bool.false_ne_true]
  exact h
theorem oi {A B : Prop} (h : A) : if true = true then A else B := by
  rw [if_pos rfl]
  exact h
noncomputable def lY (H H' : Hp) : Prop := ∀ b o, H b = some o → H' b = some o
theorem lY.refl (H : Hp) : lY H H := fun _ _ h => h
end L2
set_option linter.all false
set_option maxRecDepth 100000
set_option maxHeartbeats 4000000
namespace NM
@[irreducible] def Sz (n : Nat) (i : Int) : Prop := i.natAbs < 2 ^ n
theorem Sz.mono {n m : Nat} {i : Int} (h : Sz n i) (l : n ≤ m) : Sz m i := by unfold Sz at *; exact Nat.lt_of_lt_of_le h (Nat.pow_le_pow_right (by decide) l)
theorem Sz.neg {n : Nat} {i : Int} (h : Sz n i) : Sz n (-i) := by unfold Sz at *; rw [Int.natAbs_neg]; exact h
theorem Sz.le {n : Nat} {i j : Int} (h : Sz n i) (g : j.natAbs ≤ i.natAbs) : Sz n j := by unfold Sz at *; exact Nat.lt_of_le_of_lt g h
theorem Sz.of {n : Nat} {i : Int} (h : i.natAbs < 2 ^ n) : Sz n i := by unfold Sz; exact h
theorem Sz.lt {n : Nat} {i : Int} (h : Sz n i) : i.natAbs < 2 ^ n := by unfold Sz at h; exact h
def g3 (a b c : Int) : Nat := Int.gcd (Int.gcd a b : Nat) c
theorem wG (a b c : Int) : Int.gcd (Int.gcd c a : Nat) b = g3 a b c := by
  unfold g3
  simp only [Int.gcd, Int.natAbs_natCast]
  rw [Nat.gcd_assoc, Nat.gcd_comm]
theorem vz (a b c : Int) : ((g3 a b c : Nat) : Int) ∣ a ∧ ((g3 a b c : Nat) : Int) ∣ b ∧ ((g3 a b c : Nat) : Int) ∣ c := by
  have h : ((g3 a b c : Nat) : Int) ∣ ((Int.gcd a b : Nat) : Int) := Int.gcd_dvd_left ..
  exact ⟨Int.dvd_trans h (Int.gcd_dvd_left ..), Int.dvd_trans h (Int.gcd_dvd_right ..), Int.gcd_dvd_right ..⟩
theorem yI {a b c : Int} {k : Nat} (h1 : (k : Int) ∣ a) (h2 : (k : Int) ∣ b) (h3 : (k : Int) ∣ c) : k ∣ g3 a b c := by
  unfold g3
  exact Int.dvd_gcd (Int.natCast_dvd_natCast.mpr (Int.dvd_gcd h1 h2)) h3
theorem mW {a b c : Int} (h : c ≠ 0) : 0 < g3 a b c := by
  unfold g3
  exact Int.gcd_pos_of_ne_zero_right _ h
theorem uO (a b c k : Int) : g3 (a * k) (b * k) (c * k) = g3 a b c * k.natAbs := by
  unfold g3
  simp only [Int.gcd, Int.natAbs_natCast, Int.natAbs_mul, Nat.gcd_mul_right]
structure N3 where
  a : Int
  b : Int
  c : Int
deriving DecidableEq
theorem N3.ext' {x y : N3} (h1 : x.a = y.a) (h2 : x.b = y.b) (h3 : x.c = y.c) : x = y := by cases x; cases y; simp_all
structure Ok (x : N3) : Prop where
  c : 0 < x.c
  g : g3 x.a x.b x.c = 1
def dv (a b c : Int) : Int := if c < 0 then -(g3 a b c : Nat) else (g3 a b c : Nat)
def low (a b c : Int) : N3 := ⟨a.fdiv (dv a b c), b.fdiv (dv a b c), c.fdiv (dv a b c)⟩
theorem nD {a k q : Int} (hk : k ≠ 0) (h : a = k * q) : a.fdiv k = q := by
  subst h
  exact Int.mul_fdiv_cancel_left q hk
theorem zY {a b c : Int} (h : c ≠ 0) : dv a b c ≠ 0 := by
  have := mW (a := a) (b := b) h
  unfold dv
  split <;> omega
theorem xR (a b c : Int) : dv a b c ∣ a ∧ dv a b c ∣ b ∧ dv a b c ∣ c := by
  obtain ⟨h1, h2, h3⟩ := vz a b c
  unfold dv
  split
  · exact ⟨Int.neg_dvd.mpr h1, Int.neg_dvd.mpr h2, Int.neg_dvd.mpr h3⟩
  · exact ⟨h1, h2, h3⟩
theorem iV (a b : Int) {c : Int} (h : c ≠ 0) : ∃ k : Int, k ≠ 0 ∧ (0 < k ↔ 0 < c) ∧ a = k * (low a b c).a ∧ b = k * (low a b c).b ∧ c = k * (low a b c).c ∧ Ok (low a b c) := by
  have hk := zY (a := a) (b := b) h
  obtain ⟨⟨p, hp⟩, ⟨q, hq⟩, ⟨r, hr⟩⟩ := xR a b c
  have ep : (low a b c).a = p := nD hk hp
  have eq : (low a b c).b = q := nD hk hq
  have er : (low a b c).c = r := nD hk hr
  have hg := mW (a := a) (b := b) h
  have hs : 0 < dv a b c ↔ 0 < c := by unfold dv; split <;> omega
  have hr0 : 0 < r := by
    have hr' : r ≠ 0 := fun z => h (by rw [hr, z, Int.mul_zero])
    rcases Int.lt_trichotomy 0 (dv a b c) with z | z | z
    · have := hs.mp z
      rw [hr] at this
      rw [Int.mul_comm] at this
      exact Int.pos_of_mul_pos_left this z |> fun t => t
    · exact absurd z.symm hk
    · have : c < 0 := by omega
      rcases Int.lt_trichotomy 0 r with w | w | w
      · exact w
      · exact absurd w.symm hr'
      · have := Int.mul_pos_of_neg_of_neg z w
        rw [← hr] at this
        omega
  refine ⟨dv a b c, hk, hs, by rw [ep]; exact hp, by rw [eq]; exact hq, by rw [er]; exact hr, by rw [er]; exact hr0, ?_⟩
  rw [ep, eq, er]
  have e := uO p q r (dv a b c)
  rw [Int.mul_comm p, Int.mul_comm q, Int.mul_comm r, ← hp, ← hq, ← hr] at e
  have e2 : (dv a b c).natAbs = g3 a b c := by unfold dv; split <;> simp
  rw [e2] at e
  have : g3 p q r * g3 a b c = 1 * g3 a b c := by omega
  exact Nat.eq_of_mul_eq_mul_right hg this
theorem tD (a b : Int) {c : Int} (h : c ≠ 0) : Ok (low a b c) := (iV a b h).choose_spec.2.2.2.2.2
theorem Ok.same {x y : N3} (hx : Ok x) (hy : Ok y) (h1 : x.a * y.c = y.a * x.c) (h2 : x.b * y.c = y.b * x.c) : x = y := by
  have key : ∀ {u v : N3}, Ok u → Ok v → u.a * v.c = v.a * u.c → u.b * v.c = v.b * u.c → u.c ∣ v.c := fun {u v} hu hv e1 e2 => by
    have hd : u.c.natAbs ∣ g3 (u.a * v.c) (u.b * v.c) (u.c * v.c) := yI
      (by rw [Int.natAbs_of_nonneg (Int.le_of_lt hu.c), e1]; exact Int.dvd_mul_left _ _) (by rw [Int.natAbs_of_nonneg (Int.le_of_lt hu.c), e2]; exact Int.dvd_mul_left _ _) (by rw [Int.natAbs_of_nonneg (Int.le_of_lt hu.c)]; exact Int.dvd_mul_right _ _)
    rw [uO, hu.g, Nat.one_mul] at hd
    exact Int.natAbs_dvd_natAbs.mp hd
  have hc : x.c = y.c := Int.dvd_antisymm (Int.le_of_lt hx.c) (Int.le_of_lt hy.c) (key hx hy h1 h2) (key hy hx h1.symm h2.symm)
  have hn : y.c ≠ 0 := by have := hy.c; omega
  rw [hc] at h1 h2
  exact N3.ext' (Int.eq_of_mul_eq_mul_right hn h1) (Int.eq_of_mul_eq_mul_right hn h2) hc
theorem Ok.low {x : N3} (h : Ok x) : low x.a x.b x.c = x := by
  have hc : x.c ≠ 0 := by have := h.c; omega
  obtain ⟨k, hk, _, p1, p2, p3, o⟩ := iV x.a x.b hc
  refine o.same h ?_ ?_
  · exact Int.eq_of_mul_eq_mul_left hk (by grind)
  · exact Int.eq_of_mul_eq_mul_left hk (by grind)
theorem xN (a b : Int) {c : Int} (h : c ≠ 0) : (low a b c).a.natAbs ≤ a.natAbs ∧ (low a b c).b.natAbs ≤ b.natAbs ∧ (low a b c).c.natAbs ≤ c.natAbs := by
  obtain ⟨k, hk, _, p1, p2, p3, _⟩ := iV a b h
  have hk' : 1 ≤ k.natAbs := by omega
  have le : ∀ {u v : Int}, u = k * v → v.natAbs ≤ u.natAbs := fun {u v} e => by
    rw [e, Int.natAbs_mul]
    exact Nat.le_mul_of_pos_left _ hk'
  exact ⟨le p1, le p2, le p3⟩
structure Bd (n : Nat) (x : N3) : Prop where
  a : Sz n x.a
  b : Sz n x.b
  c : Sz n x.c
theorem yU {a b c : Int} {n : Nat} (h : c ≠ 0) (ha : Sz n a) (hb : Sz n b) (hc : Sz n c) : Bd n (low a b c) := by
  obtain ⟨h1, h2, h3⟩ := xN a b h
  exact ⟨ha.le h1, hb.le h2, hc.le h3⟩
def plus (x y : N3) : N3 := low (x.a * y.c + y.a * x.c) (x.b * y.c + y.b * x.c) (x.c * y.c)
def times (d : Int) (x y : N3) : N3 := low (x.a * y.a + d * x.b * y.b) (x.a * y.b + x.b * y.a) (x.c * y.c)
def norm (d : Int) (x : N3) : Int := x.a * x.a - d * x.b * x.b
def uE (d : Int) (x : N3) : N3 := low (x.c * x.a) (-x.c * x.b) (norm d x)
def vN (x : N3) : N3 := ⟨x.a, -x.b, x.c⟩
def nN : N3 := ⟨0, 0, 1⟩
theorem sr : Ok nN := ⟨by decide, by decide⟩
noncomputable def P (d a b : Int) : Prop := (0 ≤ a ∧ 0 ≤ b ∧ ¬ (a = 0 ∧ b = 0)) ∨ (0 < a ∧ b < 0 ∧ d * b * b < a * a) ∨ (a < 0 ∧ 0 < b ∧ a * a < d * b * b)
end NM
set_option linter.all false
set_option maxRecDepth 100000
set_option maxHeartbeats 4000000
namespace NM
section
variable {x y : N3} {A B C A' B' C' d : Int}
end
end NM
set_option linter.all false
set_option maxRecDepth 100000
set_option maxHeartbeats 4000000
namespace NM
def qK (d : Int) (x : N3) : N3 := times d (times d (plus x (vN x)) (plus x (vN x))) (uE d (times d x (vN x)))
section
variable {d : Int} {x y z : N3}
def W (x y : N3) : Int := x.b * y.a - x.a * y.b
end
end NM
set_option Elab.async false
set_option linter.all false
set_option maxRecDepth 100000
set_option maxHeartbeats 4000000
namespace L2.DL
open PySem PySem.Spec PyProof.Rows
abbrev Mu := Addr → Option (List PyData)
abbrev PQ := PySem.W.Frag → V → Mu → Hp → Prop
inductive D where
  | v (x : PyData)
  | m (a : Addr)
  | s (ns : List Int)
  /-- an object that is handed on -/
  | o (a : Addr)
  /-- a thing of which something is known that stays -/
  | q (P : PQ)
abbrev Rho := List (Option D)
def ar (μ : Mu) (a : Addr) (ds : List PyData) : Mu := fun b => if b = a then some ds else μ b
theorem aD {μ : Mu} {a : Addr} {ds} : ar μ a ds a = some ds := by unfold ar; rw [if_pos rfl]
theorem aR {μ : Mu} {a b : Addr} {ds} (h : b ≠ a) : ar μ a ds b = μ b := by unfold ar; rw [if_neg h]
theorem sk {μ : Mu} {a : Addr} {ds es} : ar (ar μ a ds) a es = ar μ a es := by
  funext b; unfold ar; split <;> rfl
mutual
inductive Rp (K : PySem.W.Frag) (μ : Mu) (H : Hp) : PyData → V → Prop
  | none : Rp K μ H .none .non
  | bool (b : Bool) : Rp K μ H (.bool b) (.bl b)
  | int (i : Int) : Rp K μ H (.int i) (.int i)
  | str (x : Str) : Rp K μ H (.str x) (.str x)
  | list {a : Addr} {xs : List V} {ds : List PyData} : H a = some (.lst xs) → μ a = Option.none → RpL K μ H ds xs → Rp K μ H (.list ds) (.ref a)
  | tuple {a : Addr} {xs : List V} {ds : List PyData} : SqT K H a xs → RpL K μ H ds xs → Rp K μ H (.tuple ds) (.ref a)
inductive RpL (K : PySem.W.Frag) (μ : Mu) (H : Hp) : List PyData → List V → Prop
  | nil : RpL K μ H [] []
  | cons {d : PyData} {v : V} {ds : List PyData} {vs : List V} : Rp K μ H d v → RpL K μ H ds vs → RpL K μ H (d :: ds) (v :: vs)
end
def NT : HO → Prop
  | .tbl _ => False
  | _ => True
structure Ext (K : PySem.W.Frag) (μ : Mu) (H : Hp) (μ' : Mu) (H' : Hp) : Prop where
  keep : ∀ b o, H b = some o → μ b = none → NT o → H' b = some o
  tb : ∀ b ps, H b = some (.tbl ps) → μ b = none → ∃ ps', H' b = some (.tbl ps')
  dom : ∀ b ds, μ b = some ds → ∃ es, μ' b = some es
  fresh : ∀ b, μ b = none → (H b ≠ none ∨ K.lookup b ≠ none) → μ' b = none
def RpD (K : PySem.W.Frag) (μ : Mu) (H : Hp) : D → V → Prop
  | .v x, u => Rp K μ H x u
  | .m a, u => u = .ref a ∧ ∃ ds, μ a = some ds
  | .s ns, u => ∃ a, u = .ref a ∧ SqL K H a (ns.map V.int) ∧ μ a = none
  | .o a, u => u = .ref a
  | .q P, u => ∀ μ' H', Ext K μ H μ' H' → P K u μ' H'
noncomputable def codeAt (c : Addr) (q : Str) (h : Heap) : Prop := ∃ o vs t, h.get? c = some o ∧ o.data = .fields vs ∧ vs[1]? = some (.str q t)
abbrev wF (q : Str) : Str := (q ++ ".<locals>.") ++ "<lambda>"
noncomputable def As (H : Hp) (P : Addr) (q : Str) : Prop := ∃ ps : Array Value, H P = some (.tbl ps) ∧ TriplesOk ps.toList ∧ ∀ pos cv, codeAmong pos ps.toList = some cv → ∃ c, cv = .ref c ∧ H c = some (.ext (codeAt c (wF q)))
noncomputable def n4 (K : PySem.W.Frag) (H : Hp) : Prop := ∀ c o P q, K.lookup c = some o → bR o = some (P, q) → As H P q
structure bB (K : PySem.W.Frag) (μ : Mu) (H : Hp) : Prop where
  lst : ∀ a ds, μ a = some ds → ∃ xs, H a = some (.lst xs) ∧ RpL K μ H ds xs
  tab : n4 K H
instance {K : PySem.W.Frag} {μ : Mu} {H : Hp} : CoeFun (bB K μ H) fun _ => ∀ a ds, μ a = some ds → ∃ xs, H a = some (.lst xs) ∧ RpL K μ H ds xs := ⟨bB.lst⟩
theorem n4.of {K : PySem.W.Frag} {H H1 : Hp} (t : n4 K H) (s : ∀ b o, H b = some o → (∀ xs, o ≠ .lst xs) → H1 b = some o) : n4 K H1 := fun c o P q h1 h2 => by
  obtain ⟨ps, a1, a2, a3⟩ := t c o P q h1 h2
  exact ⟨ps, s _ _ a1 (fun _ z => nomatch z), a2, fun pos cv e => let ⟨c, q1, q2⟩ := a3 pos cv e; ⟨c, q1, s _ _ q2 (fun _ z => nomatch z)⟩⟩
noncomputable def dU (K : PySem.W.Frag) (μ : Mu) (H : Hp) (ρ : Rho) (σ : St) : Prop :=
  ρ.length = σ.length ∧ ∀ (i : Nat) (d : D), ρ[i]? = some (some d) → ∃ u, σ[i]? = some (some u) ∧ RpD K μ H d u
structure St0 (K : PySem.W.Frag) (H : Hp) (ρ : Rho) (μ : Mu) (σ : St) : Prop where
  mu : bB K μ H
  rho : dU K μ H ρ σ
section
variable {K : PySem.W.Frag} {μ μ1 μ2 : Mu} {H H1 H2 : Hp}
theorem Ext.refl : Ext K μ H μ H := ⟨fun _ _ h _ _ => h, fun _ ps h _ => ⟨ps, h⟩, fun _ ds h => ⟨ds, h⟩, fun _ h _ => h⟩
theorem Ext.trans (a : Ext K μ H μ1 H1) (b : Ext K μ1 H1 μ2 H2) : Ext K μ H μ2 H2 where
  keep := fun c o h n t => b.keep c o (a.keep c o h n t) (a.fresh c n (.inl (by rw [h]; exact fun z => nomatch z))) t
  tb := fun c ps h n => by
    obtain ⟨ps1, h1⟩ := a.tb c ps h n
    exact b.tb c ps1 h1 (a.fresh c n (.inl (by rw [h]; exact fun z => nomatch z)))
  dom := fun c ds h => let ⟨es, q⟩ := a.dom c ds h; b.dom c es q
  fresh := fun c n h => by
    refine b.fresh c (a.fresh c n h) ?_
    rcases h with h | h
    · cases q : H c with
      | none => exact absurd q h
      | some o =>
        by_cases t : NT o
        · exact .inl (by rw [a.keep c o q n t]; exact fun z => nomatch z)
        · cases o with
          | tbl ps =>
            obtain ⟨ps1, h1⟩ := a.tb c ps q n
            exact .inl (by rw [h1]; exact fun z => nomatch z)
          | _ => exact absurd trivial t
    · exact .inr h
theorem Ext.of_same (s : lY H H1) : Ext K μ H μ H1 := ⟨fun b o h _ _ => s b o h, fun b ps h _ => ⟨ps, s b _ h⟩, fun _ ds h => ⟨ds, h⟩, fun _ h _ => h⟩
theorem bB.not {a : Addr} {o : HO} (ok : bB K μ H) (h : H a = some o) (n : ∀ xs, o ≠ .lst xs) : μ a = none := by
  cases q : μ a with
  | none => rfl
  | some ds =>
    obtain ⟨ys, e, _⟩ := ok a ds q
    rw [h] at e
    exact absurd (Option.some.inj e) (n ys)
theorem bB.free {a : Addr} (ok : bB K μ H) (h : H a = none) : μ a = none := by
  cases q : μ a with
  | none => rfl
  | some ds =>
    obtain ⟨ys, e, _⟩ := ok a ds q
    rw [h] at e; cases e
theorem mY {a : Addr} {xs : List V} (ok : bB K μ H) (e : Ext K μ H μ1 H1) (h : SqT K H a xs) : SqT K H1 a xs := by
  rcases h with (h | ⟨o, h⟩) | h
  · exact .inl (.inl (e.keep _ _ h (ok.not h fun _ z => nomatch z) trivial))
  · exact .inl (.inr ⟨o, e.keep _ _ h (ok.not h fun _ z => nomatch z) trivial⟩)
  · exact .inr h
theorem rj {a : Addr} {xs : List V} (e : Ext K μ H μ1 H1) (h : SqL K H a xs) (n : μ a = none) : SqL K H1 a xs ∧ μ1 a = none := by
  rcases h with (h | ⟨o, h⟩) | h
  · exact ⟨.inl (.inl (e.keep _ _ h n trivial)), e.fresh _ n (.inl (by rw [h]; exact fun z => nomatch z))⟩
  · exact ⟨.inl (.inr ⟨o, e.keep _ _ h n trivial⟩), e.fresh _ n (.inl (by rw [h]; exact fun z => nomatch z))⟩
  · obtain ⟨o, its, k, hk, r⟩ := id h
    exact ⟨.inr h, e.fresh _ n (.inr (by rw [hk]; exact fun z => nomatch z))⟩
mutual
theorem Rp.ext {d : PyData} {u : V} (ok : bB K μ H) (e : Ext K μ H μ1 H1) : Rp K μ H d u → Rp K μ1 H1 d u
  | .none => .none
  | .bool b => .bool b
  | .int i => .int i
  | .str x => .str x
  | .list h n r => .list (e.keep _ _ h n trivial) (e.fresh _ n (.inl (by rw [h]; exact fun z => nomatch z))) (RpL.ext ok e r)
  | .tuple h r => .tuple (mY ok e h) (RpL.ext ok e r)
theorem RpL.ext {ds : List PyData} {us : List V} (ok : bB K μ H) (e : Ext K μ H μ1 H1) : RpL K μ H ds us → RpL K μ1 H1 ds us
  | .nil => .nil
  | .cons h r => .cons (Rp.ext ok e h) (RpL.ext ok e r)
end
theorem RpD.ext {d : D} {u : V} (ok : bB K μ H) (e : Ext K μ H μ1 H1) (r : RpD K μ H d u) : RpD K μ1 H1 d u := by
  cases d with
  | v x => exact Rp.ext ok e r
  | m a => obtain ⟨h, ds, q⟩ := r; exact ⟨h, e.dom a ds q⟩
  | s ns => obtain ⟨a, h, q, n⟩ := r; exact ⟨a, h, (rj e q n).1, (rj e q n).2⟩
  | o a => exact r
  | q P => exact fun μ' H' e' => r μ' H' (e.trans e')
theorem dU.ext {ρ : Rho} {σ : St} (ok : bB K μ H) (e : Ext K μ H μ1 H1) (r : dU K μ H ρ σ) : dU K μ1 H1 ρ σ :=
  ⟨r.1, fun i d h => let ⟨u, h1, h2⟩ := r.2 i d h; ⟨u, h1, h2.ext ok e⟩⟩
theorem RpL.length {ds : List PyData} {us : List V} : RpL K μ H ds us → ds.length = us.length
  | .nil => rfl
  | .cons _ r => congrArg (· + 1) (RpL.length r)
theorem RpL.get {ds : List PyData} {us : List V} : ∀ {i : Nat} {d : PyData}, RpL K μ H ds us → ds[i]? = some d → ∃ u, us[i]? = some u ∧ Rp K μ H d u
  | _, _, .nil, h => by simp at h
  | 0, _, .cons r _, h => by simp at h; subst h; exact ⟨_, rfl, r⟩
  | i + 1, d, .cons _ t, h => by
    obtain ⟨u, h1, h2⟩ := RpL.get (i := i) (d := d) t (by simpa using h)
    exact ⟨u, by simpa using h1, h2⟩
theorem RpL.append {ds es : List PyData} {us ws : List V} : RpL K μ H ds us → RpL K μ H es ws → RpL K μ H (ds ++ es) (us ++ ws)
  | .nil, s => s
  | .cons r t, s => .cons r (RpL.append t s)
theorem RpL.set {ds : List PyData} {us : List V} {d : PyData} {u : V} (q : Rp K μ H d u) : ∀ (i : Nat), RpL K μ H ds us → RpL K μ H (ds.set i d) (us.set i u)
  | _, .nil => .nil
  | 0, .cons _ t => .cons q t
  | i + 1, .cons r t => .cons r (RpL.set q i t)
theorem pT {ds : List PyData} {us : List V} {i : Int} {d : PyData} (r : RpL K μ H ds us) (h : atI ds i = some d) : ∃ u, atI us i = some u ∧ Rp K μ H d u := by
  unfold atI at h ⊢
  rw [← r.length]
  cases q : ixN ds.length i with
  | none => rw [q] at h; cases h
  | some j =>
    rw [q] at h
    exact r.get h
abbrev DK := D → Mu → Prop
abbrev DTE := Rho → Mu → DK → Prop
abbrev DTT := Rho → Mu → (Bool → Mu → Prop) → Prop
abbrev DTA := Rho → Mu → (List D → Mu → Prop) → Prop
structure oI where
  nx : Rho → Mu → Prop
  rt : DK
  bk : Rho → Mu → Prop := fun _ _ => False
  ct : Rho → Mu → Prop := fun _ _ => False
abbrev DTS := oI → Rho → Mu → Prop
inductive fi (K : PySem.W.Frag) (μ : Mu) (H : Hp) : List D → List V → Prop
  | nil : fi K μ H [] []
  | cons {d : D} {u : V} {ds : List D} {us : List V} : RpD K μ H d u → fi K μ H ds us → fi K μ H (d :: ds) (u :: us)
theorem fi.ext {ds : List D} {us : List V} (ok : bB K μ H) (e : Ext K μ H μ1 H1) : fi K μ H ds us → fi K μ1 H1 ds us
  | .nil => .nil
  | .cons h r => .cons (h.ext ok e) (fi.ext ok e r)
theorem fi.length {ds : List D} {us : List V} : fi K μ H ds us → ds.length = us.length
  | .nil => rfl
  | .cons _ r => congrArg (· + 1) (fi.length r)
end
noncomputable def iP (K : PySem.W.Frag) (t : TE) (td : DTE) : Prop := ∀ (σ : St) (H : Hp) (ρ : Rho) (μ : Mu) (Qd : DK) (Q : VK), St0 K H ρ μ σ → td ρ μ Qd →
  (∀ d u μ' H', Ext K μ H μ' H' → St0 K H' ρ μ' σ → RpD K μ' H' d u → Qd d μ' → Q u H') → t σ H Q
noncomputable def vh (K : PySem.W.Frag) (t : TT) (td : DTT) : Prop := ∀ (σ : St) (H : Hp) (ρ : Rho) (μ : Mu) (Qd : Bool → Mu → Prop) (Q : Bool → Hp → Prop), St0 K H ρ μ σ → td ρ μ Qd →
  (∀ b μ' H', Ext K μ H μ' H' → St0 K H' ρ μ' σ → Qd b μ' → Q b H') → t σ H Q
noncomputable def xk (K : PySem.W.Frag) (n : Nat) (t : TA) (td : DTA) : Prop := ∀ (σ : St) (H : Hp) (ρ : Rho) (μ : Mu) (Qd : List D → Mu → Prop) (Q : List V → Hp → Prop), St0 K H ρ μ σ → td ρ μ Qd →
  (∀ ds us μ' H', Ext K μ H μ' H' → St0 K H' ρ μ' σ → fi K μ' H' ds us → ds.length = n → Qd ds μ' → Q us H') → t σ H Q
noncomputable def mx (K : PySem.W.Frag) (t : TS) (td : DTS) : Prop := ∀ (σ : St) (H : Hp) (ρ : Rho) (μ : Mu) (Dd : oI) (De : Ends), St0 K H ρ μ σ → td Dd ρ μ →
  (∀ σ' ρ' μ' H', Ext K μ H μ' H' → St0 K H' ρ' μ' σ' → Dd.nx ρ' μ' → De.nx σ' H') →
  (∀ d u μ' H', Ext K μ H μ' H' → bB K μ' H' → RpD K μ' H' d u → Dd.rt d μ' → De.rt u H') →
  (∀ σ' ρ' μ' H', Ext K μ H μ' H' → St0 K H' ρ' μ' σ' → Dd.bk ρ' μ' → De.bk σ' H') →
  (∀ σ' ρ' μ' H', Ext K μ H μ' H' → St0 K H' ρ' μ' σ' → Dd.ct ρ' μ' → De.ct σ' H') → t De σ H
noncomputable def DE (X : Cx) (e : Expr) (td : DTE) : Prop := ∃ t, PE X e t ∧ iP X.K t td
noncomputable def DT (X : Cx) (e : Expr) (td : DTT) : Prop := ∃ t, PT X e t ∧ vh X.K t td
noncomputable def DA (X : Cx) (es : List Expr) (td : DTA) : Prop := ∃ t, PA X es t ∧ xk X.K es.length t td
noncomputable def DS (X : Cx) (st : Stmt) (td : DTS) : Prop := ∃ t, PS X st t ∧ mx X.K t td
noncomputable def DSs (X : Cx) (st : List Stmt) (td : DTS) : Prop := ∃ t, PSs X st t ∧ mx X.K t td
section
variable {X : Cx} {a b c : Expr} {ta tb tc : DTE} {pos : Pos}
noncomputable def ae (i : Nat) : DTE := fun ρ μ Q => match ρ[i]? with
  | some (some d) => Q d μ
  | _ => False
noncomputable def dC (x : PyData) : DTE := fun _ μ Q => Q (.v x) μ
theorem uA {K : PySem.W.Frag} (i : Nat) : iP K (zH i) (ae i) := by
  intro σ H ρ μ Qd Q S h k
  unfold ae at h
  split at h
  · rename_i d e
    obtain ⟨u, h1, h2⟩ := S.rho.2 i d e
    exact ⟨u, h1, k d u μ H .refl S h2 h⟩
  · exact h.elim
theorem dv (i : Nat) {x : Str} {pos : Pos} (hN : X.N[i]? = some x := by rfl) (hv : Vis X.env.scope x := by first | exact Or.inl rfl | exact Or.inr (Or.inl rfl) | exact Or.inr (Or.inr rfl)) (hd : (x == ("__debug__" : Str)) = false := by decide)
    (hcd : (x == ("__classdict__" : Str)) = false := by decide) : DE X (.Name x pos) (ae i) := ⟨_, xU hN hv hd hcd, uA i⟩
theorem mO {K : PySem.W.Frag} {x : PyData} {u : V} (h : ∀ μ H, bB K μ H → Rp K μ H x u) : iP K (tC u) (dC x) := fun σ H ρ μ Qd Q S q k => k (.v x) u μ H .refl S (h μ H S.mu) q
theorem af {i j pos} : DE X (.Constant (.int i) j pos) (dC (.int i)) := ⟨_, xO, mO fun _ _ _ => .int i⟩
theorem rp {i j pos} : DE X (.Constant (.bool i) j pos) (dC (.bool i)) := ⟨_, Ab, mO fun _ _ _ => .bool i⟩
theorem aC {x j pos} : DE X (.Constant (.str x) j pos) (dC (.str x)) := ⟨_, x4, mO fun _ _ _ => .str x⟩
theorem qL {x : Str} {d : PyData} {u : V} {w : Value} {pos : Pos} (hg : Gl X x) (hm : X.mg x = some w) (r : RelV u w) (h : ∀ μ H, bB X.K μ H → Rp X.K μ H d u) (hd : (x == ("__debug__" : Str)) = false := by decide) : DE X (.Name x pos) (dC d) :=
  ⟨_, w5 hg hm r hd, mO h⟩
noncomputable def gB (K : PySem.W.Frag) (rr : R2) (r : D → D → Mu → DK → Prop) : Prop := ∀ (x y : D) (ux uy : V) (H : Hp) (μ : Mu) (Qd : DK) (Q : VK), bB K μ H → RpD K μ H x ux → RpD K μ H y uy → r x y μ Qd →
  (∀ d u μ' H', Ext K μ H μ' H' → bB K μ' H' → RpD K μ' H' d u → Qd d μ' → Q u H') → rr ux uy H Q
noncomputable def dOp (r : D → D → Mu → DK → Prop) (ta tb : DTE) : DTE := fun ρ μ Q => ta ρ μ fun x μ1 => tb ρ μ1 fun y μ2 => r x y μ2 Q
theorem kb {K : PySem.W.Frag} {rr : R2} {r} {t1 t2 : TE} (lo : gB K rr r) (la : iP K t1 ta) (lb : iP K t2 tb) : iP K (tOp rr t1 t2) (dOp r ta tb) := by
  intro σ H ρ μ Qd Q S h k
  refine la σ H ρ μ _ _ S h fun x ux μ1 H1 e1 S1 rx h1 => ?_
  refine lb σ H1 ρ μ1 _ _ S1 h1 fun y uy μ2 H2 e2 S2 ry h2 => ?_
  exact lo x y ux uy H2 μ2 _ _ S2.mu (rx.ext S1.mu e2) ry h2 fun d u μ' H' e3 ok r q => k d u μ' H' (e1.trans (e2.trans e3)) ⟨ok, S2.rho.ext S2.mu e3⟩ r q
theorem lD {op : Operator} {rr : R2} {r} (ho : OpR X (binaryOp op) rr) (lo : gB X.K rr r) (ha : DE X a ta) (hb : DE X b tb) : DE X (.BinOp a op b pos) (dOp r ta tb) := by
  obtain ⟨t1, p1, l1⟩ := ha
  obtain ⟨t2, p2, l2⟩ := hb
  exact ⟨_, zE ho p1 p2, kb lo l1 l2⟩
theorem iy {op : CmpOp} {rr : R2} {r} (ho : OpR X (compareOp op) rr) (lo : gB X.K rr r) (ha : DE X a ta) (hb : DE X b tb) (hm : behindInMarks op b = false) : DE X (.Compare a [op] [b] pos) (dOp r ta tb) := by
  obtain ⟨t1, p1, l1⟩ := ha
  obtain ⟨t2, p2, l2⟩ := hb
  exact ⟨_, wI ho p1 p2 hm, kb lo l1 l2⟩
noncomputable def dB (t : DTE) : DTT := fun ρ μ Q => t ρ μ fun d μ1 => match d with
  | .v (.bool k) => Q k μ1
  | _ => False
theorem ml {K : PySem.W.Frag} {t : TE} {td : DTE} (l : iP K t td) : vh K (xg t) (dB td) := by
  intro σ H ρ μ Qd Q S h k
  refine l σ H ρ μ _ _ S h fun d u μ1 H1 e1 S1 r q => ?_
  split at q
  · rename_i b
    cases r
    exact ⟨b, rfl, k b μ1 H1 e1 S1 q⟩
  · exact q.elim
theorem aA {op : CmpOp} {rr : R2} {r} (ho : OpR X (compareOp op) rr) (lo : gB X.K rr r) (ha : DE X a ta) (hb : DE X b tb) (hm : behindInMarks op b = false) : DT X (.Compare a [op] [b] pos) (dB (dOp r ta tb)) := by
  obtain ⟨t1, p1, l1⟩ := ha
  obtain ⟨t2, p2, l2⟩ := hb
  exact ⟨_, wC ho p1 p2 hm, ml (kb lo l1 l2)⟩
theorem eC {e : Expr} {td : DTE} (h : DE X e td) (he : ∀ whole, isTrue e X.env whole = (do let v ← whole; standAt e.pos; holding [v] (truthy v)) := by intro _; rfl) : DT X e (dB td) := by
  obtain ⟨t, p, l⟩ := h
  exact ⟨_, xZ p he, ml l⟩
def rII (C : Int → Int → Prop) (g : Int → Int → PyData) : D → D → Mu → DK → Prop := fun x y μ Q => match x, y with
  | .v (.int i), .v (.int j) => C i j ∧ Q (.v (g i j)) μ
  | _, _ => False
theorem wg {K : PySem.W.Frag} {C : Int → Int → Prop} {g : Int → Int → V} {gd : Int → Int → PyData} (hg : ∀ μ H i j, Rp K μ H (gd i j) (g i j)) : gB K (rI C g) (rII C gd) := by
  intro x y ux uy H μ Qd Q ok rx ry h k
  unfold rII at h
  split at h
  · rename_i i j
    cases rx; cases ry
    exact ⟨i, j, rfl, rfl, h.1, k (.v _) _ μ H .refl ok (hg μ H i j) h.2⟩
  · exact h.elim
def lP (g : Int → Int → PyData) : D → D → Mu → DK → Prop := fun x y μ Q => match x, y with
  | .v (.int i), .v (.int j) => Q (.v (g i j)) μ
  | _, _ => False
theorem vf {K : PySem.W.Frag} {g : Int → Int → V} {gd : Int → Int → PyData} (hg : ∀ μ H i j, Rp K μ H (gd i j) (g i j)) : gB K (rI0 g) (lP gd) := by
  intro x y ux uy H μ Qd Q ok rx ry h k
  unfold lP at h
  split at h
  · rename_i i j
    cases rx; cases ry
    exact ⟨i, j, rfl, rfl, k (.v _) _ μ H .refl ok (hg μ H i j) h⟩
  · exact h.elim
noncomputable abbrev o9 (ta tb : DTE) : DTE := dOp (lP fun i j => .int (i + j)) ta tb
noncomputable abbrev pE (ta tb : DTE) : DTE := dOp (lP fun i j => .int (i - j)) ta tb
noncomputable abbrev MulOk (i j : Int) : Prop := IntMulOk i j
noncomputable abbrev lp (ta tb : DTE) : DTE := dOp (rII MulOk fun i j => .int (i * j)) ta tb
noncomputable abbrev j8 (ta tb : DTE) : DTE := dOp (rII (fun _ j => j ≠ 0) fun i j => .int (i.fmod j)) ta tb
noncomputable abbrev jV (i j : Int) : Prop := j ≠ 0 ∧ Builtin.divisionGoesByPylong i j = false
noncomputable abbrev kj (ta tb : DTE) : DTE := dOp (rII jV fun i j => .int (i.fdiv j)) ta tb
noncomputable abbrev tf (ta tb : DTE) : DTE := dOp (rII yv fun i j => .int (i ^ j.toNat)) ta tb
theorem we : OpR X (binaryOp .Mult) (rI MulOk fun i j => .int (i * j)) := opI fun _ _ _ _ _ _ _ hc q => mul_int q hc
theorem wa : OpR X (binaryOp .FloorDiv) (rI jV fun i j => .int (i.fdiv j)) := opI fun _ _ _ _ _ _ _ hc q => floordiv_int hc.1 q (.inl hc.2)
theorem ig (ha : DE X a ta) (hb : DE X b tb) : DE X (.BinOp a .Add b pos) (o9 ta tb) := lD y2 (vf fun _ _ _ _ => .int _) ha hb
theorem jD (ha : DE X a ta) (hb : DE X b tb) : DE X (.BinOp a .Sub b pos) (pE ta tb) := lD xJ (vf fun _ _ _ _ => .int _) ha hb
theorem fg (ha : DE X a ta) (hb : DE X b tb) : DE X (.BinOp a .Mult b pos) (lp ta tb) := lD we (wg fun _ _ _ _ => .int _) ha hb
theorem eo (ha : DE X a ta) (hb : DE X b tb) : DE X (.BinOp a .Mod b pos) (j8 ta tb) := lD wB (wg fun _ _ _ _ => .int _) ha hb
theorem fv (ha : DE X a ta) (hb : DE X b tb) : DE X (.BinOp a .FloorDiv b pos) (kj ta tb) := lD wa (wg fun _ _ _ _ => .int _) ha hb
theorem kX (ha : DE X a ta) (hb : DE X b tb) : DE X (.BinOp a .Pow b pos) (tf ta tb) := lD yG (wg fun _ _ _ _ => .int _) ha hb
abbrev rLt := lP fun i j => .bool (decide (i < j))
abbrev rLe := lP fun i j => .bool (decide (i ≤ j))
abbrev rGt := lP fun i j => .bool (decide (j < i))
abbrev rGe := lP fun i j => .bool (decide (j ≤ i))
theorem iX {K : PySem.W.Frag} {p : Int → Int → Bool} : gB K (rI0 fun i j => .bl (p i j)) (lP fun i j => .bool (p i j)) := vf fun _ _ _ _ => .bool _
noncomputable def iq (ta : DTE) : DTE := fun ρ μ Q => ta ρ μ fun x μ1 => match x with
  | .v (.int i) => Q (.v (.int (-i))) μ1
  | _ => False
theorem dS (ha : DE X a ta) : DE X (.UnaryOp .USub a pos) (iq ta) := by
  obtain ⟨t1, p1, l1⟩ := ha
  refine ⟨_, zZ xM p1, fun σ H ρ μ Qd Q S h k => ?_⟩
  refine l1 σ H ρ μ _ _ S h fun x ux μ1 H1 e1 S1 rx h1 => ?_
  split at h1
  · rename_i i
    cases rx
    exact ⟨i, rfl, k (.v _) _ μ1 H1 e1 S1 (Rp.int _) h1⟩
  · exact h1.elim
noncomputable def pf (t u : DTT) : DTT := fun ρ μ Q => t ρ μ fun c μ1 => if c = true then u ρ μ1 Q else Q false μ1
noncomputable def kO (t u : DTT) : DTT := fun ρ μ Q => t ρ μ fun c μ1 => if c = true then Q true μ1 else u ρ μ1 Q
noncomputable def jc (t : DTT) : DTT := fun ρ μ Q => t ρ μ fun c μ1 => Q (!c) μ1
noncomputable def DW (X : Cx) (e : Expr) (td : DTT) : Prop := ∃ t, PW X e t ∧ vh X.K t td
theorem DW.dt {e : Expr} {td : DTT} (h : DW X e td) : DT X e td := let ⟨t, p, l⟩ := h; ⟨t, p.pt, l⟩
variable {tA tB' : DTT} {rest : List Expr}
theorem qN (ha : DT X a tA) : DW X (.BoolOp .And [a] pos) tA := let ⟨t, p, l⟩ := ha; ⟨t, pw_and1 p, l⟩
theorem jA (ha : DT X a tA) : DW X (.BoolOp .Or [a] pos) tA := let ⟨t, p, l⟩ := ha; ⟨t, pw_or1 p, l⟩
theorem uD (ha : DT X a tA) (hb : DW X (.BoolOp .And (b :: rest) pos) tB') : DW X (.BoolOp .And (a :: b :: rest) pos) (pf tA tB') := by
  obtain ⟨t1, p1, l1⟩ := ha
  obtain ⟨t2, p2, l2⟩ := hb
  refine ⟨_, pw_and p1 p2, fun σ H ρ μ Qd Q S h k => ?_⟩
  refine l1 σ H ρ μ _ _ S h fun c μ1 H1 e1 S1 h1 => ?_
  cases c with
  | true =>
    refine oi (l2 σ H1 ρ μ1 _ _ S1 (by simpa using h1) fun c μ2 H2 e2 S2 h2 => k c μ2 H2 (e1.trans e2) S2 h2)
  | false => exact oG (k false μ1 H1 e1 S1 (by simpa using h1))
theorem jX (ha : DT X a tA) (hb : DW X (.BoolOp .Or (b :: rest) pos) tB') : DW X (.BoolOp .Or (a :: b :: rest) pos) (kO tA tB') := by
  obtain ⟨t1, p1, l1⟩ := ha
  obtain ⟨t2, p2, l2⟩ := hb
  refine ⟨_, pw_or p1 p2, fun σ H ρ μ Qd Q S h k => ?_⟩
  refine l1 σ H ρ μ _ _ S h fun c μ1 H1 e1 S1 h1 => ?_
  cases c with
  | true => exact oi (k true μ1 H1 e1 S1 (by simpa using h1))
  | false =>
    refine oG (l2 σ H1 ρ μ1 _ _ S1 (by simpa using h1) fun c μ2 H2 e2 S2 h2 => k c μ2 H2 (e1.trans e2) S2 h2)
theorem iA (ha : DT X a tA) : DT X (.UnaryOp .Not a pos) (jc tA) := by
  obtain ⟨t1, p1, l1⟩ := ha
  refine ⟨_, ye p1, fun σ H ρ μ Qd Q S h k => ?_⟩
  exact l1 σ H ρ μ _ _ S h fun c μ1 H1 e1 S1 h1 => k _ μ1 H1 e1 S1 h1
noncomputable def kH (ta tb : DTE) : DTE := fun ρ μ Q => ta ρ μ fun x μ1 => match x with
  | .v (.bool c) => if c = true then tb ρ μ1 Q else Q (.v (.bool false)) μ1
  | _ => False
noncomputable def uX (ta : DTE) : DTE := fun ρ μ Q => ta ρ μ fun x μ1 => match x with
  | .v (.bool c) => Q (.v (.bool (!c))) μ1
  | _ => False
theorem qu {op} (h : DE X a ta) : DE X (.BoolOp op [a] pos) ta := let ⟨t, p, l⟩ := h; ⟨t, xD p, l⟩
theorem nq (ha : DE X a ta) (hb : DE X (.BoolOp .And (b :: rest) pos) tb) : DE X (.BoolOp .And (a :: b :: rest) pos) (kH ta tb) := by
  obtain ⟨t1, p1, l1⟩ := ha
  obtain ⟨t2, p2, l2⟩ := hb
  refine ⟨_, xS p1 p2, fun σ H ρ μ Qd Q S h k => ?_⟩
  refine l1 σ H ρ μ _ _ S h fun x ux μ1 H1 e1 S1 rx h1 => ?_
  split at h1
  · rename_i c
    cases rx
    refine ⟨c, rfl, ?_⟩
    cases c with
    | true => exact oi (l2 σ H1 ρ μ1 _ _ S1 (by simpa using h1) fun d u μ2 H2 e2 S2 r2 h2 => k d u μ2 H2 (e1.trans e2) S2 r2 h2)
    | false => exact oG (k (.v _) _ μ1 H1 e1 S1 (Rp.bool false) (by simpa using h1))
  · exact h1.elim
theorem yT (ha : DE X a ta) : DE X (.UnaryOp .Not a pos) (uX ta) := by
  obtain ⟨t1, p1, l1⟩ := ha
  refine ⟨_, y0 p1, fun σ H ρ μ Qd Q S h k => ?_⟩
  refine l1 σ H ρ μ _ _ S h fun x ux μ1 H1 e1 S1 rx h1 => ?_
  split at h1
  · rename_i c
    cases rx
    exact ⟨c, rfl, k (.v _) _ μ1 H1 e1 S1 (Rp.bool _) h1⟩
  · exact h1.elim
noncomputable def dIf (t : DTT) (ta tb : DTE) : DTE := fun ρ μ Q => t ρ μ fun c μ1 => if c = true then ta ρ μ1 Q else tb ρ μ1 Q
theorem jf {c : Expr} (hc : DT X c tA) (ha : DE X a ta) (hb : DE X b tb) : DE X (.IfExp c a b pos) (dIf tA ta tb) := by
  obtain ⟨t0, p0, l0⟩ := hc
  obtain ⟨t1, p1, l1⟩ := ha
  obtain ⟨t2, p2, l2⟩ := hb
  refine ⟨_, uQ p0 p1 p2, fun σ H ρ μ Qd Q S h k => ?_⟩
  refine l0 σ H ρ μ _ _ S h fun c μ1 H1 e1 S1 h1 => ?_
  cases c with
  | true => exact oi (l1 σ H1 ρ μ1 _ _ S1 (by simpa using h1) fun d u μ2 H2 e2 S2 r2 h2 => k d u μ2 H2 (e1.trans e2) S2 r2 h2)
  | false => exact oG (l2 σ H1 ρ μ1 _ _ S1 (by simpa using h1) fun d u μ2 H2 e2 S2 r2 h2 => k d u μ2 H2 (e1.trans e2) S2 r2 h2)
end
open PySem PySem.Spec PyProof.Rows
section
variable {K : PySem.W.Frag} {μ μ1 : Mu} {H H1 : Hp} {p : Addr}
theorem gu {o : HO} (h : H p = none) : Ext K μ H μ (upd H p o) :=
  ⟨fun b u e _ _ => by rw [aP (bh e h)]; exact e, fun b ps e _ => ⟨ps, by rw [aP (bh e h)]; exact e⟩, fun _ ds q => ⟨ds, q⟩, fun _ q _ => q⟩
theorem bB.wt (ok : bB K μ H) (e : Ext K μ H μ H1) (s : lY H H1) : bB K μ H1 := ⟨fun a ds q => by
  obtain ⟨xs, h1, h2⟩ := ok a ds q
  exact ⟨xs, s _ _ h1, h2.ext ok e⟩, ok.tab.of fun b o h _ => s b o h⟩
theorem tm {o : HO} (h : H p = none) : lY H (upd H p o) := fun b u q => by rw [aP (bh q h)]; exact q
theorem bB.new {o : HO} (ok : bB K μ H) (h : H p = none) : bB K μ (upd H p o) := ok.wt (gu h) (tm h)
theorem St0.new {o : HO} {ρ : Rho} {σ : St} (S : St0 K H ρ μ σ) (h : H p = none) : St0 K (upd H p o) ρ μ σ := ⟨S.mu.new h, S.rho.ext S.mu (gu h)⟩
theorem ku {us : List V} {ds : List PyData} (ok : bB K μ H) (r : RpL K μ H ds us) (h : H p = none) : Rp K μ (upd H p (.tup us)) (.tuple ds) (.ref p) :=
  .tuple (SqT.of fC) (r.ext ok (gu h))
theorem pQ {us : List V} {ds : List PyData} (ok : bB K μ H) (r : RpL K μ H ds us) (h : H p = none) : Rp K μ (upd H p (.lst us)) (.list ds) (.ref p) :=
  .list fC (ok.free h) (r.ext ok (gu h))
theorem gX {o : HO} {ds : List PyData} (ok : bB K μ H) (h : H p = none) (hk : K.lookup p = none) : Ext K μ H (ar μ p ds) (upd H p o) where
  keep := fun b u e _ _ => by rw [aP (bh e h)]; exact e
  tb := fun b ps e _ => ⟨ps, by rw [aP (bh e h)]; exact e⟩
  dom := fun b es q => by
    have : b ≠ p := fun z => by rw [z, ok.free h] at q; cases q
    exact ⟨es, by rw [aR this]; exact q⟩
  fresh := fun b n q => by
    have : b ≠ p := fun z => by
      rcases q with q | q
      · exact q (by rw [z]; exact h)
      · exact q (by rw [z]; exact hk)
    rw [aR this]; exact n
theorem bB.mut {us : List V} {ds : List PyData} (ok : bB K μ H) (r : RpL K μ H ds us) (h : H p = none) (hk : K.lookup p = none) : bB K (ar μ p ds) (upd H p (.lst us)) := ⟨fun a es q => by
  have e := gX (o := .lst us) (ds := ds) ok h hk
  by_cases ha : a = p
  · subst ha
    rw [aD] at q
    cases q
    exact ⟨us, fC, r.ext ok e⟩
  · rw [aR ha] at q
    obtain ⟨xs, h1, h2⟩ := ok a es q
    exact ⟨xs, by rw [aP ha]; exact h1, h2.ext ok e⟩, ok.tab.of fun b o e _ => by rw [aP (bh e h)]; exact e⟩
theorem hB {o : HO} {ds es : List PyData} (h : μ p = some ds) : Ext K μ H (ar μ p es) (upd H p o) where
  keep := fun b u e n _ => by
    have : b ≠ p := fun z => by rw [z, h] at n; cases n
    rw [aP this]; exact e
  tb := fun b ps e n => by
    have : b ≠ p := fun z => by rw [z, h] at n; cases n
    exact ⟨ps, by rw [aP this]; exact e⟩
  dom := fun b fs q => by
    by_cases hb : b = p
    · subst hb; exact ⟨es, aD⟩
    · exact ⟨fs, by rw [aR hb]; exact q⟩
  fresh := fun b n q => by
    have : b ≠ p := fun z => by rw [z, h] at n; cases n
    rw [aR this]; exact n
theorem bB.set {us : List V} {ds es : List PyData} (ok : bB K μ H) (h : μ p = some ds) (r : RpL K μ H es us) : bB K (ar μ p es) (upd H p (.lst us)) := ⟨fun a fs q => by
  have e : Ext K μ H (ar μ p es) (upd H p (.lst us)) := hB h
  by_cases ha : a = p
  · subst ha
    rw [aD] at q
    cases q
    exact ⟨us, fC, r.ext ok e⟩
  · rw [aR ha] at q
    obtain ⟨xs, h1, h2⟩ := ok a fs q
    exact ⟨xs, by rw [aP ha]; exact h1, h2.ext ok e⟩, by
  obtain ⟨ys, hy, _⟩ := ok p ds h
  exact ok.tab.of fun b o e n => by
    have : b ≠ p := fun z => by rw [z, hy] at e; exact n ys (Option.some.inj e).symm
    rw [aP this]; exact e⟩
end
def bw : List D → Option (List PyData)
  | [] => some []
  | .v x :: r => (bw r).map (x :: ·)
  | _ :: _ => none
theorem fi.data {K : PySem.W.Frag} {μ : Mu} {H : Hp} : ∀ {ds : List D} {us : List V} {xs : List PyData}, fi K μ H ds us → bw ds = some xs → RpL K μ H xs us
  | _, _, _, .nil, e => by cases e; exact .nil
  | .v x :: r, _, xs, .cons h t, e => by
    simp only [bw] at e
    cases q : bw r with
    | none => rw [q] at e; cases e
    | some ys => rw [q] at e; cases e; exact .cons h (fi.data t q)
  | .m _ :: _, _, _, .cons _ _, e => by simp [bw] at e
  | .s _ :: _, _, _, .cons _ _, e => by simp [bw] at e
  | .o _ :: _, _, _, .cons _ _, e => by simp [bw] at e
section
variable {X : Cx} {e : Expr} {es : List Expr} {te : DTE} {t : DTA} {pos : Pos}
noncomputable def ao : DTA := fun _ μ Q => Q [] μ
noncomputable def ab (ta : DTE) (tr : DTA) : DTA := fun ρ μ Q => ta ρ μ fun x μ1 => tr ρ μ1 fun xs μ2 => Q (x :: xs) μ2
theorem ag : DA X [] ao := ⟨_, jN, fun σ H ρ μ Qd Q S h k => k [] [] μ H .refl S .nil rfl h⟩
theorem aa (ha : DE X e te) (hr : DA X es t) (hs : starEach (e :: es) X.env = (false, eval e X.env) :: starEach es X.env := by rfl) : DA X (e :: es) (ab te t) := by
  obtain ⟨t1, p1, l1⟩ := ha
  obtain ⟨t2, p2, l2⟩ := hr
  refine ⟨_, gp p1 p2 hs, fun σ H ρ μ Qd Q S h k => ?_⟩
  refine l1 σ H ρ μ _ _ S h fun x ux μ1 H1 e1 S1 rx h1 => ?_
  refine l2 σ H1 ρ μ1 _ _ S1 h1 fun xs us μ2 H2 e2 S2 rs len h2 => ?_
  exact k (x :: xs) (ux :: us) μ2 H2 (e1.trans e2) S2 (.cons (rx.ext S1.mu e2) rs) (by rw [List.length_cons, List.length_cons, len]) h2
noncomputable def kh (t : DTA) : DTE := fun ρ μ Q => t ρ μ fun ds μ1 => match bw ds with
  | some xs => Q (.v (.tuple xs)) μ1
  | none => False
noncomputable def j2 (t : DTA) : DTE := fun ρ μ Q => t ρ μ fun ds μ1 => match bw ds with
  | some xs => Q (.v (.list xs)) μ1
  | none => False
noncomputable def n8 (t : DTA) : DTE := fun ρ μ Q => t ρ μ fun ds μ1 => match bw ds with
  | some xs => ∀ p, μ1 p = none → Q (.m p) (ar μ1 p xs)
  | none => False
theorem fZ {x1} (h : DA X es t) (hl : es.length ≤ 1000 := by decide) : DE X (.Tuple es x1 pos) (kh t) := by
  obtain ⟨t1, p1, l1⟩ := h
  refine ⟨_, xE p1, fun σ H ρ μ Qd Q S h k => ?_⟩
  refine l1 σ H ρ μ _ _ S h fun ds us μ1 H1 e1 S1 rs len h1 => ?_
  cases q : bw ds with
  | none => rw [q] at h1; exact h1.elim
  | some xs =>
    rw [q] at h1
    refine ⟨Nat.le_of_lt (d9 (by rw [← rs.length, len]; exact hl)), fun p hp => ?_⟩
    exact k (.v (.tuple xs)) _ μ1 _ (e1.trans (gu hp)) (S1.new hp) (ku S1.mu (rs.data q) hp) h1
theorem fo (h : DA X es t) (hl : es.length ≤ 1000 := by decide) : DE X (.List es pos) (j2 t) := by
  obtain ⟨t1, p1, l1⟩ := h
  refine ⟨_, yQ p1, fun σ H ρ μ Qd Q S h k => ?_⟩
  refine l1 σ H ρ μ _ _ S h fun ds us μ1 H1 e1 S1 rs len h1 => ?_
  cases q : bw ds with
  | none => rw [q] at h1; exact h1.elim
  | some xs =>
    rw [q] at h1
    refine ⟨Nat.le_of_lt (d9 (by rw [← rs.length, len]; exact hl)), fun p hp => ?_⟩
    exact k (.v (.list xs)) _ μ1 _ (e1.trans (gu hp)) (S1.new hp) (pQ S1.mu (rs.data q) hp) h1
noncomputable def zk (K : PySem.W.Frag) (t : TA) : TE := fun σ H Q => t σ H fun xs H1 => xs.length ≤ sizeLine ∧ ∀ p, H1 p = none → K.lookup p = none → Q (.ref p) (upd H1 p (.lst xs))
theorem wV {t : TA} (h : PA X es t) : PE X (.List es pos) (zk X.K t) := by
  intro pins s σ H Q I hq
  refine wpAny_List_spliced (thn (h pos pins s σ H _ I hq) fun us s1 ⟨xs, H1, I1, r, z, q⟩ => ⟨by rw [← r.length]; exact z, ?_⟩)
  have hf : H1 s1.heap.objs.size = none := I1.hok.fresh (Nat.le_refl _)
  have hk : X.K.lookup s1.heap.objs.size = none := by
    cases c : X.K.lookup s1.heap.objs.size with
    | none => rfl
    | some o => exact absurd (Heap.lt_size (I1.kIn _ _ c)) (Nat.lt_irrefl _)
  refine ⟨.ref s1.heap.objs.size, upd H1 s1.heap.objs.size (.lst xs), I1.laid (t' := s1.toks) (fun b u e => Heap.get?_push_of_some _ e) (Nat.le_refl _) ?_, rfl, q _ hf hk⟩
  exact ⟨z, us, 0, r, Heap.get?_push_size _ rfl⟩
theorem nM (h : DA X es t) (hl : es.length ≤ 1000 := by decide) : DE X (.List es pos) (n8 t) := by
  obtain ⟨t1, p1, l1⟩ := h
  refine ⟨_, wV p1, fun σ H ρ μ Qd Q S h k => ?_⟩
  refine l1 σ H ρ μ _ _ S h fun ds us μ1 H1 e1 S1 rs len h1 => ?_
  cases q : bw ds with
  | none => rw [q] at h1; exact h1.elim
  | some xs =>
    rw [q] at h1
    refine ⟨Nat.le_of_lt (d9 (by rw [← rs.length, len]; exact hl)), fun p hp hk => ?_⟩
    have ex := gX (o := .lst us) (ds := xs) S1.mu hp hk
    exact k (.m p) _ (ar μ1 p xs) _ (e1.trans ex) ⟨S1.mu.mut (rs.data q) hp hk, S1.rho.ext S1.mu ex⟩ ⟨rfl, xs, aD⟩ (h1 p (S1.mu.free hp))
end
section
variable {X : Cx} {pins : List (Addr × Obj)} {σ : St} {H : Hp} {s : Shared} {μ : Mu}
mutual
theorem gM (I : Inv X pins σ H s) : ∀ {d : PyData} {x : V} {u : Value}, Rp X.K μ H d x → RelV x u → ∃ as, Reads s.heap u d as
  | _, _, _, .none, r => by cases r; exact ⟨_, .none⟩
  | _, _, _, .bool b, r => by cases r; exact ⟨_, .bool b⟩
  | _, _, _, .int i, r => by obtain ⟨t, rfl⟩ := r; exact ⟨_, .int i t⟩
  | _, _, _, .str y, r => by obtain ⟨t, rfl⟩ := r; exact ⟨_, .str y t⟩
  | _, _, _, .list h _ q, r => by
    cases r
    obtain ⟨its, rv, ⟨o, n, ho, hc, _, hd⟩, _⟩ := I.list (SqL.of h)
    obtain ⟨as, ra⟩ := gK I q rv
    exact ⟨_, .list ho hc hd (by simpa using ra)⟩
  | _, _, _, .tuple h q, r => by
    cases r
    obtain ⟨its, rv, ⟨o, ho, hc, n, hd⟩, _⟩ := I.tuple h
    obtain ⟨as, ra⟩ := gK I q rv
    exact ⟨_, .tuple ho hc hd (by simpa using ra)⟩
theorem gK (I : Inv X pins σ H s) : ∀ {ds : List PyData} {xs : List V} {us : List Value}, RpL X.K μ H ds xs → Vals xs us → ∃ as, ReadsAll s.heap us ds as
  | _, _, _, .nil, .nil => ⟨_, .nil⟩
  | _, _, _, .cons h t, .cons r q => by
    obtain ⟨as, ra⟩ := gM I h r
    obtain ⟨bs, rb⟩ := gK I t q
    exact ⟨_, .cons ra rb⟩
end
end
section
variable {X : Cx}
noncomputable def xX (K : PySem.W.Frag) (neg : Bool) : R2 := fun x y H Q => ∃ μ a b, Rp K μ H a x ∧ Rp K μ H b y ∧ SeqAt.shaped a = true ∧ SeqAt.shaped b = true ∧ Q (.bl (neg ^^ PyData.eqv a b)) H
theorem bC (hu : X.A.units + 64 < cLine) : OpR X (compareOp .Eq) (xX X.K false) := by
  intro pins s σ H x y v u Q I rx ry h
  obtain ⟨μ, a, b, ha, hb, sa, sb, q⟩ := h
  obtain ⟨as, ra⟩ := gM I ha rx
  obtain ⟨bs, rb⟩ := gM I hb ry
  exact eq_dataH ra rb sa sb hu ⟨.bl (PyData.eqv a b), H, I, rfl, by simpa using q⟩
theorem fq (hu : X.A.units + 64 < cLine) : OpR X (compareOp .NotEq) (xX X.K true) := by
  intro pins s σ H x y v u Q I rx ry h
  obtain ⟨μ, a, b, ha, hb, sa, sb, q⟩ := h
  obtain ⟨as, ra⟩ := gM I ha rx
  obtain ⟨bs, rb⟩ := gM I hb ry
  exact ne_dataH ra rb sa sb hu ⟨.bl (!PyData.eqv a b), H, I, rfl, by simpa using q⟩
def bp (neg : Bool) : D → D → Mu → DK → Prop := fun x y μ Q => match x, y with
  | .v a, .v b => SeqAt.shaped a = true ∧ SeqAt.shaped b = true ∧ Q (.v (.bool (neg ^^ PyData.eqv a b))) μ
  | _, _ => False
theorem aJ {K : PySem.W.Frag} {neg : Bool} : gB K (xX K neg) (bp neg) := by
  intro x y ux uy H μ Qd Q ok rx ry h k
  unfold bp at h
  split at h
  · rename_i a b
    exact ⟨μ, a, b, rx, ry, h.1, h.2.1, k (.v _) _ μ H .refl ok (Rp.bool _) h.2.2⟩
  · exact h.elim
end
open PySem PySem.Spec PyProof.Rows
section
variable {X : Cx} {a b e : Expr} {es : List Expr} {ta tb te : DTE} {t : DTA} {p pos : Pos}
def bP : D → D → Mu → DK → Prop := fun x y μ Q => match x, y with
  | .v (.list xs), .v (.int i) => (match atI xs i with | some d => Q (.v d) μ | none => False)
  | .v (.tuple xs), .v (.int i) => (match atI xs i with | some d => Q (.v d) μ | none => False)
  | .m l, .v (.int i) => (match μ l with
    | some xs => (match atI xs i with | some d => Q (.v d) μ | none => False)
    | none => False)
  | .s ns, .v (.int i) => (match atI ns i with | some d => Q (.v (.int d)) μ | none => False)
  | _, _ => False
theorem zm {K : PySem.W.Frag} : gB K (rIx K) bP := by
  intro x y ux uy H μ Qd Q ok rx ry h k
  unfold bP at h
  split at h
  · rename_i xs i
    cases ry
    cases q : atI xs i with
    | none => rw [q] at h; exact h.elim
    | some d =>
      rw [q] at h
      cases rx with
      | list hs hn r =>
        obtain ⟨u, e1, e2⟩ := pT r q
        exact .inl ⟨_, _, i, u, rfl, rfl, SqL.of hs, e1, k (.v d) u μ H .refl ok e2 h⟩
  · rename_i xs i
    cases ry
    cases q : atI xs i with
    | none => rw [q] at h; exact h.elim
    | some d =>
      rw [q] at h
      cases rx with
      | tuple hs r =>
        obtain ⟨u, e1, e2⟩ := pT r q
        exact .inr (.inl ⟨_, _, i, u, rfl, rfl, hs, e1, k (.v d) u μ H .refl ok e2 h⟩)
  · rename_i l i
    cases ry
    obtain ⟨rfl, ds, hm⟩ := rx
    rw [hm] at h
    simp only at h
    cases q : atI ds i with
    | none => rw [q] at h; exact h.elim
    | some d =>
      rw [q] at h
      obtain ⟨us, hl, r⟩ := ok l ds hm
      obtain ⟨u, e1, e2⟩ := pT r q
      exact .inl ⟨_, _, i, u, rfl, rfl, SqL.of hl, e1, k (.v d) u μ H .refl ok e2 h⟩
  · rename_i ns i
    cases ry
    obtain ⟨a, rfl, hs, hn⟩ := rx
    cases q : atI ns i with
    | none => rw [q] at h; exact h.elim
    | some d =>
      rw [q] at h
      have e1 : atI (ns.map V.int) i = some (.int d) := by
        unfold atI at q ⊢
        rw [List.length_map]
        cases z : ixN ns.length i with
        | none => rw [z] at q; cases q
        | some j =>
          rw [z] at q
          simp only [Option.bind_some, List.getElem?_map] at q ⊢
          rw [q] <;> rfl
      exact .inl ⟨_, _, i, _, rfl, rfl, hs, e1, k (.v (.int d)) _ μ H .refl ok (Rp.int d) h⟩
  · exact h.elim
theorem cH (ha : DE X a ta) (hb : DE X b tb) (hs : qX b := by exact fun _ _ => rfl) : DE X (.Subscript a b pos) (dOp bP ta tb) := by
  obtain ⟨t1, p1, l1⟩ := ha
  obtain ⟨t2, p2, l2⟩ := hb
  exact ⟨_, zu yN p1 p2 hs, kb zm l1 l2⟩
def kN (μ : Mu) : D → Option (List PyData)
  | .v (.list xs) => some xs
  | .m l => μ l
  | _ => none
def w9 : D → D → Mu → DK → Prop := fun x y μ Q => match kN μ x, kN μ y with
  | some xs, some ys => xs.length + ys.length ≤ 1000 ∧ Q (.v (.list (xs ++ ys))) μ
  | _, _ => False
end
end L2.DL
set_option Elab.async false
set_option linter.all false
set_option maxRecDepth 100000
set_option maxHeartbeats 4000000
namespace HT
open PySem PyProof.Rows
section
variable {prog : Program} {w : World} {A : Around} {E : Value → Shared → Prop} {s : Shared}
end
end HT
namespace L2.DL
open PySem PySem.Spec PyProof.Rows
section
variable {X : Cx} {a b e : Expr} {lo hi : Option Expr} {ta tb te : DTE} {pos p2 : Pos}
abbrev DTO := Rho → Mu → (Option Int → Mu → Prop) → Prop
noncomputable def Al (K : PySem.W.Frag) (t : TO) (td : DTO) : Prop := ∀ (σ : St) (H : Hp) (ρ : Rho) (μ : Mu) (Qd : Option Int → Mu → Prop) (Q : Option Int → Hp → Prop), St0 K H ρ μ σ → td ρ μ Qd →
  (∀ o μ' H', Ext K μ H μ' H' → St0 K H' ρ μ' σ → Qd o μ' → Q o H') → t σ H Q
noncomputable def DO (X : Cx) (e : Option Expr) (td : DTO) : Prop := ∃ t, PO X e t ∧ Al X.K t td
noncomputable def gY : DTO := fun _ μ Q => Q none μ
noncomputable def gy (t : DTE) : DTO := fun ρ μ Q => t ρ μ fun x μ1 => match x with
  | .v (.int i) => Q (some i) μ1
  | _ => False
theorem kc : DO X none gY := ⟨_, wX, fun σ H ρ μ Qd Q S h k => k none μ H .refl S h⟩
theorem eL (h : DE X e te) : DO X (some e) (gy te) := by
  obtain ⟨t1, p1, l1⟩ := h
  refine ⟨_, vP p1, fun σ H ρ μ Qd Q S h k => ?_⟩
  refine l1 σ H ρ μ _ _ S h fun x ux μ1 H1 e1 S1 rx h1 => ?_
  split at h1
  · cases rx
    exact ⟨_, rfl, k _ μ1 H1 e1 S1 h1⟩
  · exact h1.elim
end
open PySem PySem.Spec PyProof.Rows
section
variable {X : Cx} {a b e : Expr} {es : List Expr} {ta tb te : DTE} {t : DTA} {p pos : Pos} {x : Str} {bid T : String}
noncomputable def gI (K : PySem.W.Frag) (r : List V → Hp → VK → Prop) (rd : List D → Mu → DK → Prop) : Prop := ∀ (xs : List D) (us : List V) (H : Hp) (μ : Mu) (Qd : DK) (Q : VK), bB K μ H → fi K μ H xs us → rd xs μ Qd →
  (∀ d u μ' H', Ext K μ H μ' H' → bB K μ' H' → RpD K μ' H' d u → Qd d μ' → Q u H') → r us H Q
noncomputable def dCB (rd : List D → Mu → DK → Prop) (t : DTA) : DTE := fun ρ μ Q => t ρ μ fun ds μ1 => rd ds μ1 Q
theorem rA {K : PySem.W.Frag} {n : Nat} {r : List V → Hp → VK → Prop} {rd : List D → Mu → DK → Prop} {t1 : TA} (lc : gI K r rd) (l1 : xk K n t1 t) : iP K (tCB r t1) (dCB rd t) := by
  intro σ H ρ μ Qd Q S h k
  refine l1 σ H ρ μ _ _ S h fun xs us μ1 H1 e1 S1 rs len h1 => ?_
  exact lc xs us H1 μ1 _ _ S1.mu rs h1 fun d u μ' H' e2 ok r q => k d u μ' H' (e1.trans e2) ⟨ok, S1.rho.ext S1.mu e2⟩ r q
theorem fH {r : List V → Hp → VK → Prop} {rd : List D → Mu → DK → Prop} (hc : eQ X (.builtin bid) r) (lc : gI X.K r rd) (hg : Gl X x) (hm : X.mg x = none) (hv : bootBuiltins x = some (.builtin bid)) (ha : DA X (e :: es) t) (hn : x ≠ "__name__" := by decide) (hdb : (x == ("__debug__" : Str)) = false := by decide)
    (he : starEach (e :: es) X.env = (false, eval e X.env) :: starEach es X.env := by rfl) (hpl : (backTo pos (starEach es X.env)).any (·.1) = false := by rfl) : DE X (.Call (.Name x p) (e :: es) [] pos) (dCB rd t) := by
  obtain ⟨t1, p1, l1⟩ := ha
  exact ⟨_, pb hc hg hm hv p1 hn hdb he hpl, rA lc l1⟩
theorem jT {r : List V → Hp → VK → Prop} {rd : List D → Mu → DK → Prop} (hc : eQ X (.type T) r) (lc : gI X.K r rd) (hg : Gl X x) (hm : X.mg x = none) (hv : bootBuiltins x = some (.type T)) (ha : DA X (e :: es) t) (hn : x ≠ "__name__" := by decide) (hdb : (x == ("__debug__" : Str)) = false := by decide)
    (he : starEach (e :: es) X.env = (false, eval e X.env) :: starEach es X.env := by rfl) (hpl : (backTo pos (starEach es X.env)).any (·.1) = false := by rfl) : DE X (.Call (.Name x p) (e :: es) [] pos) (dCB rd t) := by
  obtain ⟨t1, p1, l1⟩ := ha
  exact ⟨_, sG hc hg hm hv p1 hn hdb he hpl, rA lc l1⟩
def jZ : List D → Mu → DK → Prop := fun xs μ Q => match xs with
  | [.v (.list ys)] => Q (.v (.int (ys.length : Nat))) μ
  | [.v (.tuple ys)] => Q (.v (.int (ys.length : Nat))) μ
  | [.m l] => (match μ l with | some ys => Q (.v (.int (ys.length : Nat))) μ | none => False)
  | [.s ns] => Q (.v (.int (ns.length : Nat))) μ
  | _ => False
theorem yX {K : PySem.W.Frag} : gI K (fun xs H Q => ∃ p ys, xs = [.ref p] ∧ (SqL K H p ys ∨ SqT K H p ys) ∧ Q (.int ys.length) H) jZ := by
  intro xs us H μ Qd Q ok rs h k
  unfold jZ at h
  split at h
  · cases rs with
    | cons r1 r2 =>
      cases r2
      cases r1 with
      | list hs hn r => exact ⟨_, _, rfl, .inl (SqL.of hs), k (.v _) _ μ H .refl ok (by rw [← r.length]; exact Rp.int _) h⟩
  · cases rs with
    | cons r1 r2 =>
      cases r2
      cases r1 with
      | tuple hs r => exact ⟨_, _, rfl, .inr hs, k (.v _) _ μ H .refl ok (by rw [← r.length]; exact Rp.int _) h⟩
  · cases rs with
    | cons r1 r2 =>
      cases r2
      obtain ⟨rfl, ds, hm⟩ := r1
      rw [hm] at h
      obtain ⟨us, hl, r⟩ := ok _ ds hm
      exact ⟨_, _, rfl, .inl (SqL.of hl), k (.v _) _ μ H .refl ok (by rw [← r.length]; exact Rp.int _) h⟩
  · cases rs with
    | cons r1 r2 =>
      cases r2
      obtain ⟨a, rfl, hs, hn⟩ := r1
      exact ⟨_, _, rfl, .inl hs, k (.v _) _ μ H .refl ok (by rw [List.length_map]; exact Rp.int _) h⟩
  · exact h.elim
theorem qe (hg : Gl X "len") (hm : X.mg "len" = none) (ha : DA X (e :: es) t)
    (he : starEach (e :: es) X.env = (false, eval e X.env) :: starEach es X.env := by rfl) (hpl : (backTo pos (starEach es X.env)).any (·.1) = false := by rfl) : DE X (.Call (.Name "len" p) (e :: es) [] pos) (dCB jZ t) :=
  fH mR yX hg hm PySem.boot_len ha (by decide) (by decide) he hpl
def hW : List D → Mu → DK → Prop := fun xs μ Q => match xs with
  | [.v (.int i)] => Q (.v (.int (i.natAbs : Nat))) μ
  | _ => False
theorem x2 {K : PySem.W.Frag} : gI K (fun xs H Q => ∃ i, xs = [.int i] ∧ Q (.int (if i < 0 then -i else i)) H) hW := by
  intro xs us H μ Qd Q ok rs h k
  unfold hW at h
  split at h
  · rename_i i
    cases rs with
    | cons r1 r2 =>
      cases r2
      cases r1
      refine ⟨i, rfl, k (.v (.int (i.natAbs : Nat))) _ μ H .refl ok ?_ h⟩
      have : (if i < 0 then -i else i) = ((i.natAbs : Nat) : Int) := by split <;> omega
      rw [this]
      exact Rp.int _
  · exact h.elim
theorem jH (hg : Gl X "abs") (hm : X.mg "abs" = none) (ha : DA X (e :: es) t)
    (he : starEach (e :: es) X.env = (false, eval e X.env) :: starEach es X.env := by rfl) (hpl : (backTo pos (starEach es X.env)).any (·.1) = false := by rfl) : DE X (.Call (.Name "abs" p) (e :: es) [] pos) (dCB hW t) :=
  fH ub x2 hg hm PyProof.Rows.Boot.«abs» ha (by decide) (by decide) he hpl
def o8 (g : Int → Int → Int) : List D → Mu → DK → Prop := fun xs μ Q => match xs with
  | [.v (.int i), .v (.int j)] => Q (.v (.int (g i j))) μ
  | _ => False
theorem xc {K : PySem.W.Frag} {g g' : Int → Int → Int} (hg : ∀ i j, g i j = g' i j) : gI K (fun xs H Q => ∃ i j, xs = [.int i, .int j] ∧ Q (.int (g i j)) H) (o8 g') := by
  intro xs us H μ Qd Q ok rs h k
  unfold o8 at h
  split at h
  · rename_i i j
    cases rs with
    | cons r1 r2 =>
      cases r2 with
      | cons r2 r3 =>
        cases r3
        cases r1
        cases r2
        exact ⟨i, j, rfl, k (.v _) _ μ H .refl ok (by rw [hg]; exact Rp.int _) h⟩
  · exact h.elim
theorem ui (hc : X.calm = true) (hg : Gl X "max") (hm : X.mg "max" = none) (ha : DA X (e :: es) t)
    (he : starEach (e :: es) X.env = (false, eval e X.env) :: starEach es X.env := by rfl) (hpl : (backTo pos (starEach es X.env)).any (·.1) = false := by rfl) : DE X (.Call (.Name "max" p) (e :: es) [] pos) (dCB (o8 max) t) :=
  fH (sX hc) (xc (fun i j => by show (if j > i then j else i) = max i j; simp only [Int.max_def]; split <;> split <;> omega)) hg hm PyProof.Rows.Boot.«max» ha (by decide) (by decide) he hpl
theorem xI (hc : X.calm = true) (hg : Gl X "min") (hm : X.mg "min" = none) (ha : DA X (e :: es) t)
    (he : starEach (e :: es) X.env = (false, eval e X.env) :: starEach es X.env := by rfl) (hpl : (backTo pos (starEach es X.env)).any (·.1) = false := by rfl) : DE X (.Call (.Name "min" p) (e :: es) [] pos) (dCB (o8 min) t) :=
  fH (rZ hc) (xc (fun i j => by show (if j < i then j else i) = min i j; simp only [Int.min_def]; split <;> split <;> omega)) hg hm PyProof.Rows.Boot.«min» ha (by decide) (by decide) he hpl
def o6 : List D → Mu → DK → Prop := fun xs μ Q => match xs with
  | [.v (.int i)] => Q (.v (.int i)) μ
  | [.v (.bool k)] => Q (.v (.int (if k then 1 else 0))) μ
  | _ => False
theorem xw {K : PySem.W.Frag} : gI K (fun xs H Q => (∃ i, xs = [.int i] ∧ Q (.int i) H) ∨ ∃ k, xs = [.bl k] ∧ Q (.int (if k then 1 else 0)) H) o6 := by
  intro xs us H μ Qd Q ok rs h k
  unfold o6 at h
  split at h
  · rename_i i
    cases rs with
    | cons r1 r2 => cases r2; cases r1; exact .inl ⟨i, rfl, k (.v _) _ μ H .refl ok (Rp.int _) h⟩
  · rename_i b
    cases rs with
    | cons r1 r2 => cases r2; cases r1; exact .inr ⟨b, rfl, k (.v _) _ μ H .refl ok (Rp.int _) h⟩
  · exact h.elim
theorem uY (hg : Gl X "int") (hm : X.mg "int" = none) (ha : DA X (e :: es) t)
    (he : starEach (e :: es) X.env = (false, eval e X.env) :: starEach es X.env := by rfl) (hpl : (backTo pos (starEach es X.env)).any (·.1) = false := by rfl) : DE X (.Call (.Name "int" p) (e :: es) [] pos) (dCB o6 t) :=
  jT sJ xw hg hm PyProof.Rows.Boot.«int» ha (by decide) (by decide) he hpl
theorem n5 : ∀ {bs : List Bool} {us : List Value}, Vals (bs.map V.bl) us → us = bs.map Value.bool
  | [], _, .nil => rfl
  | b :: r, _, .cons h t => by cases h; rw [n5 t]; rfl
theorem sq (hc : X.calm = true) : eQ X (.builtin "all") (fun xs H Q => ∃ (p : Addr) (bs : List Bool), xs = [.ref p] ∧ H p = some (.lst (bs.map V.bl)) ∧ Q (.bl (bs.all id)) H) := by
  intro pins s σ H xs us Q I r h
  obtain ⟨l, bs, rfl, hl, q⟩ := h
  obtain ⟨u, rfl, rx⟩ := vals1 r
  cases rx
  obtain ⟨its, rv, pl, _⟩ := I.list (SqL.of hl)
  have eb := n5 rv
  subst eb
  have hL := pl.isList
  have hlt := pl.lt
  refine call_all_walk (wpAny_pyIter_list hL ?_)
  refine ⟨s.heap.objs.size, [s.heap.objs.size, l], [s.heap.objs.size], (bs.map Value.bool).toArray.size, _, _, fun i => (bs[i]?).getD true, rfl, Walks.list (A := X.A.in1) (by exact I.ok.hd hc) _ l (Nat.ne_of_lt hlt) (bs.map Value.bool).toArray,
    ⟨⟨_, Heap.get?_push_size _ rfl, rfl, rfl⟩, hL.push _⟩, fun i v s' Q' E' hP hQ => ?_, fun h' tk hk => ?_⟩
  · have hP' : (bs.map Value.bool)[i]? = some v := by simpa using hP
    rw [List.getElem?_map] at hP'
    cases z : bs[i]? with
    | none => rw [z] at hP'; cases hP'
    | some b =>
      rw [z] at hP'
      cases hP'
      simp only [z, Option.getD_some] at hQ
      exact wpAny_truthy_bool hQ
  · have e : ((List.range (bs.map Value.bool).toArray.size).all fun i => (bs[i]?).getD true) = bs.all id := by
      rw [List.size_toArray, List.length_map]; exact PyProof.Rows.LSm.range_all bs
    rw [e]
    exact ⟨.bl (bs.all id), H, I.kept (PyProof.Rows.LSm.kept_iter hk), rfl, q⟩
def bE : List PyData → Option (List Bool)
  | [] => some []
  | .bool b :: r => (bE r).map (b :: ·)
  | _ :: _ => none
theorem kP {K : PySem.W.Frag} {μ : Mu} {H : Hp} : ∀ {xs : List PyData} {us : List V} {bs : List Bool}, RpL K μ H xs us → bE xs = some bs → us = bs.map V.bl
  | _, _, _, .nil, e => by cases e; rfl
  | .bool b :: r, _, bs, .cons h t, e => by
    simp only [bE] at e
    cases q : bE r with
    | none => rw [q] at e; cases e
    | some cs => rw [q] at e; cases e; cases h; rw [kP t q]; rfl
  | .none :: r, _, bs, .cons h t, e => by simp [bE] at e
  | .int _ :: r, _, bs, .cons h t, e => by simp [bE] at e
  | .str _ :: r, _, bs, .cons h t, e => by simp [bE] at e
  | .list _ :: r, _, bs, .cons h t, e => by simp [bE] at e
  | .tuple _ :: r, _, bs, .cons h t, e => by simp [bE] at e
  | .dict _ :: r, _, bs, .cons h t, e => by simp [bE] at e
def mi : List D → Mu → DK → Prop := fun xs μ Q => match xs with
  | [.v (.list ys)] => (match bE ys with | some bs => Q (.v (.bool (bs.all id))) μ | none => False)
  | _ => False
theorem yc {K : PySem.W.Frag} : gI K (fun xs H Q => ∃ (p : Addr) (bs : List Bool), xs = [.ref p] ∧ H p = some (.lst (bs.map V.bl)) ∧ Q (.bl (bs.all id)) H) mi := by
  intro xs us H μ Qd Q ok rs h k
  unfold mi at h
  split at h
  · rename_i ys
    cases q : bE ys with
    | none => rw [q] at h; exact h.elim
    | some bs =>
      rw [q] at h
      cases rs with
      | cons r1 r2 =>
        cases r2
        cases r1 with
        | list hs hn r => exact ⟨_, bs, rfl, by rw [hs, kP r q], k (.v _) _ μ H .refl ok (Rp.bool _) h⟩
  · exact h.elim
theorem vn (hc : X.calm = true) (hg : Gl X "all") (hm : X.mg "all" = none) (ha : DA X (e :: es) t)
    (he : starEach (e :: es) X.env = (false, eval e X.env) :: starEach es X.env := by rfl) (hpl : (backTo pos (starEach es X.env)).any (·.1) = false := by rfl) : DE X (.Call (.Name "all" p) (e :: es) [] pos) (dCB mi t) :=
  fH (sq hc) yc hg hm PyProof.Rows.Boot.«all» ha (by decide) (by decide) he hpl
def tyD : PyData → String
  | .none => "NoneType"
  | .bool _ => "bool"
  | .int _ => "int"
  | .str _ => "str"
  | .list _ => "list"
  | .tuple _ => "tuple"
  | .dict _ => "dict"
def isT (T : String) (d : PyData) : Bool := tyD d == T || (T == "int" && tyD d == "bool")
theorem sv {pins : List (Addr × Obj)} {σ : St} {H : Hp} {s : Shared} {μ : Mu} {d : PyData} {u : V} {v : Value} {k : Bool} {A : Around} {E : Value → Shared → Prop} {Q : Value → Shared → Prop} (I : Inv X pins σ H s) (r : Rp X.K μ H d u) (rx : RelV u v)
    (ek : PySem.W.kitOne X.K (.type (tyD d)) (.type T) = some k) (h : ∀ tk, Q (.bool k) { s with toks := tk }) : wpAny (model X.prog X.w) A (call (.builtin "isinstance") [v, .type T]) Q E s := by
  cases r with
  | none => cases rx; exact PySem.W.kia_one PySem.W.kitx_none I.kIn True.intro ek (fun z => nomatch z) h
  | bool b => cases rx; exact PySem.W.kia_one PySem.W.kitx_bool I.kIn True.intro ek (fun z => nomatch z) h
  | int i => obtain ⟨t, rfl⟩ := rx; exact PySem.W.kia_one PySem.W.kitx_int I.kIn True.intro ek (fun z => nomatch z) h
  | str y => obtain ⟨t, rfl⟩ := rx; exact PySem.W.kia_one PySem.W.kitx_str I.kIn True.intro ek (fun z => nomatch z) h
  | list hs hn q =>
    cases rx
    obtain ⟨its, rv, ⟨o, n, h1, h2, _⟩, _⟩ := I.list (SqL.of hs)
    exact PySem.W.kia_one PySem.W.kitx_list I.kIn ⟨o, h1, h2⟩ ek (fun z => nomatch z) h
  | tuple hs q =>
    cases rx
    obtain ⟨its, rv, ⟨o, h1, h2, _⟩, _⟩ := I.tuple hs
    exact PySem.W.kia_one PySem.W.kitx_tuple I.kIn ⟨o, h1, h2⟩ ek (fun z => nomatch z) h
theorem vU (K : PySem.W.Frag) (d : PyData) : PySem.W.kitOne K (.type (tyD d)) (.type "int") = some (isT "int" d) := by cases d <;> rfl
theorem tM (K : PySem.W.Frag) (d : PyData) : PySem.W.kitOne K (.type (tyD d)) (.type "bool") = some (isT "bool" d) := by cases d <;> rfl
theorem kit_tuple (K : PySem.W.Frag) (d : PyData) : PySem.W.kitOne K (.type (tyD d)) (.type "tuple") = some (isT "tuple" d) := by cases d <;> rfl
theorem qS (K : PySem.W.Frag) (d : PyData) : PySem.W.kitOne K (.type (tyD d)) (.type "str") = some (isT "str" d) := by cases d <;> rfl
theorem o5 (kt : ∀ d, PySem.W.kitOne X.K (.type (tyD d)) (.type T) = some (isT T d)) : eQ X (.builtin "isinstance") (fun xs H Q => ∃ μ d u, xs = [u, .ty T] ∧ Rp X.K μ H d u ∧ Q (.bl (isT T d)) H) := by
  intro pins s σ H xs us Q I r h
  obtain ⟨μ, d, u, rfl, rd, q⟩ := h
  obtain ⟨v, w', rfl, r1, r2⟩ := vals2 r
  cases r2
  exact sv I rd r1 (kt d) fun tk => ⟨.bl (isT T d), H, I.tok _, rfl, q⟩
noncomputable def qd (T : String) (te : DTE) : DTE := fun ρ μ Q => te ρ μ fun x μ1 => match x with
  | .v d => Q (.v (.bool (isT T d))) μ1
  | _ => False
theorem kG {y : Str} {py : Pos} (kt : ∀ d, PySem.W.kitOne X.K (.type (tyD d)) (.type T) = some (isT T d)) (hg : Gl X "isinstance") (hm : X.mg "isinstance" = none) (hgy : Gl X y) (hmy : X.mg y = none) (hvy : bootBuiltins y = some (.type T)) (ha : DE X e te)
    (hny : y ≠ "__name__" := by decide) (hdy : (y == ("__debug__" : Str)) = false := by decide)
    (he : starEach [e, .Name y py] X.env = (false, eval e X.env) :: starEach [.Name y py] X.env := by rfl) (he2 : starEach [.Name y py] X.env = [(false, eval (.Name y py) X.env)] := by rfl) (hpl : (backTo pos (starEach [.Name y py] X.env)).any (·.1) = false := by rfl) : DE X (.Call (.Name "isinstance" p) [e, .Name y py] [] pos) (qd T te) := by
  obtain ⟨t1, p1, l1⟩ := ha
  refine ⟨_, pb (o5 kt) hg hm PyProof.Rows.Boot.«isinstance» (gp p1 (gp (vY (v := .ty T) hgy hmy hvy rfl hny hdy) jN he2) he) (by decide) (by decide) he hpl, fun σ H ρ μ Qd Q S h k => ?_⟩
  refine l1 σ H ρ μ _ _ S h fun x ux μ1 H1 e1 S1 rx h1 => ?_
  split at h1
  · exact ⟨μ1, _, ux, rfl, rx, k (.v _) _ μ1 H1 e1 S1 (Rp.bool _) h1⟩
  · exact h1.elim
end
open PySem PySem.Spec PyProof.Rows
section
variable {X : Cx} {a b e : Expr} {es : List Expr} {ta tb te : DTE} {t : DTA} {p pos : Pos} {st : Stmt} {rest sts : List Stmt} {td ud : DTS} {tc : DTT}
noncomputable def bg : DTS := fun Dd ρ μ => Dd.nx ρ μ
noncomputable def az (t u : DTS) : DTS := fun Dd ρ μ => t { Dd with nx := u Dd } ρ μ
noncomputable def bu (te : DTE) : DTS := fun Dd ρ μ => te ρ μ Dd.rt
noncomputable def og (te : DTE) : DTS := fun Dd ρ μ => te ρ μ fun _ μ1 => Dd.nx ρ μ1
noncomputable def bT (c : DTT) (t u : DTS) : DTS := fun Dd ρ μ => c ρ μ fun b μ1 => if b = true then t Dd ρ μ1 else u Dd ρ μ1
theorem aG : DSs X [] bg := ⟨_, wW, fun σ H ρ μ Dd De S h k1 k2 k3 k4 => k1 σ ρ μ H .refl S h⟩
theorem ai (h : DS X st td) : DSs X [st] td := let ⟨t, p, l⟩ := h; ⟨t, vC p, l⟩
theorem lift_seq {K : PySem.W.Frag} {t u : TS} (l1 : mx K t td) (l2 : mx K u ud) : mx K (zI t u) (az td ud) := by
  intro σ H ρ μ Dd De S h k1 k2 k3 k4
  refine l1 σ H ρ μ _ _ S h (fun σ' ρ' μ' H' e' S' h' => ?_) k2 k3 k4
  exact l2 σ' H' ρ' μ' Dd De S' h' (fun a b c d e2 => k1 a b c d (e'.trans e2)) (fun a b c d e2 => k2 a b c d (e'.trans e2)) (fun a b c d e2 => k3 a b c d (e'.trans e2)) (fun a b c d e2 => k4 a b c d (e'.trans e2))
theorem ah (h1 : DS X st td) (h2 : DSs X rest ud) : DSs X (st :: rest) (az td ud) := by
  obtain ⟨t1, p1, l1⟩ := h1
  obtain ⟨t2, p2, l2⟩ := h2
  exact ⟨_, uz p1 p2, lift_seq l1 l2⟩
theorem aB (he : DE X e te) : DS X (.Return (some e) pos) (bu te) := by
  obtain ⟨t1, p1, l1⟩ := he
  exact ⟨_, yi p1, fun σ H ρ μ Dd De S h k1 k2 k3 k4 => l1 σ H ρ μ _ _ S h fun d u μ' H' e' S' r q => k2 d u μ' H' e' S'.mu r q⟩
theorem nB (he : DE X e te) (hs : swapsWith e none pos.line X.env = pure false := by rfl) : DS X (.Expr e pos) (og te) := by
  obtain ⟨t1, p1, l1⟩ := he
  exact ⟨_, wK p1 hs, fun σ H ρ μ Dd De S h k1 k2 k3 k4 => l1 σ H ρ μ _ _ S h fun d u μ' H' e' S' r q => k1 σ ρ μ' H' e' S' q⟩
theorem bz {c : Expr} {x y : List Stmt} (hc : DT X c tc) (ha : DSs X x td) (hb : DSs X y ud) : DS X (.If c x y pos) (bT tc td ud) := by
  obtain ⟨t0, p0, l0⟩ := hc
  obtain ⟨t1, p1, l1⟩ := ha
  obtain ⟨t2, p2, l2⟩ := hb
  refine ⟨_, Ac p0 p1 p2, fun σ H ρ μ Dd De S h k1 k2 k3 k4 => ?_⟩
  refine l0 σ H ρ μ _ _ S h fun c μ1 H1 e1 S1 h1 => ?_
  cases c with
  | true => exact oi (l1 σ H1 ρ μ1 Dd De S1 (by simpa using h1) (fun a b c d e2 => k1 a b c d (e1.trans e2)) (fun a b c d e2 => k2 a b c d (e1.trans e2)) (fun a b c d e2 => k3 a b c d (e1.trans e2)) (fun a b c d e2 => k4 a b c d (e1.trans e2)))
  | false => exact oG (l2 σ H1 ρ μ1 Dd De S1 (by simpa using h1) (fun a b c d e2 => k1 a b c d (e1.trans e2)) (fun a b c d e2 => k2 a b c d (e1.trans e2)) (fun a b c d e2 => k3 a b c d (e1.trans e2)) (fun a b c d e2 => k4 a b c d (e1.trans e2)))
abbrev DTG := D → Rho → Mu → (Rho → Mu → Prop) → Prop
abbrev jq := List PyData → Rho → Mu → (Rho → Mu → Prop) → Prop
noncomputable def tR (K : PySem.W.Frag) (g : TG) (gd : DTG) : Prop := ∀ (σ : St) (H : Hp) (ρ : Rho) (μ : Mu) (d : D) (u : V) (Qd : Rho → Mu → Prop) (Q : St → Hp → Prop), St0 K H ρ μ σ → RpD K μ H d u → gd d ρ μ Qd →
  (∀ σ' ρ' μ' H', Ext K μ H μ' H' → St0 K H' ρ' μ' σ' → Qd ρ' μ' → Q σ' H') → g u σ H Q
noncomputable def y7 (K : PySem.W.Frag) (g : TGs) (gd : jq) : Prop := ∀ (σ : St) (H : Hp) (ρ : Rho) (μ : Mu) (ds : List PyData) (us : List V) (Qd : Rho → Mu → Prop) (Q : St → Hp → Prop), St0 K H ρ μ σ → RpL K μ H ds us → gd ds ρ μ Qd →
  (∀ σ' ρ' μ' H', Ext K μ H μ' H' → St0 K H' ρ' μ' σ' → Qd ρ' μ' → Q σ' H') → g us σ H Q
noncomputable def DG (X : Cx) (tg : Expr) (gd : DTG) : Prop := ∃ g, PG X tg g ∧ tR X.K g gd
noncomputable def DGs (X : Cx) (tg : List Expr) (gd : jq) : Prop := ∃ g, PGs X tg g ∧ y7 X.K g gd
theorem dU.set {K : PySem.W.Frag} {μ : Mu} {H : Hp} {ρ : Rho} {σ : St} {i : Nat} {d : D} {u : V} (r : dU K μ H ρ σ) (h : RpD K μ H d u) : dU K μ H (ρ.set i (some d)) (σ.set i (some u)) := by
  refine ⟨by rw [List.length_set, List.length_set]; exact r.1, fun j d' e => ?_⟩
  by_cases hj : i = j
  · subst hj
    have hl : i < ρ.length := by
      have := (List.getElem?_eq_some_iff.mp e).1
      rw [List.length_set] at this
      exact this
    rw [List.getElem?_set_self hl] at e
    cases e
    exact ⟨u, List.getElem?_set_self (by rw [← r.1]; exact hl), h⟩
  · rw [List.getElem?_set_ne hj] at e
    obtain ⟨w, e1, e2⟩ := r.2 j d' e
    exact ⟨w, by rw [List.getElem?_set_ne hj]; exact e1, e2⟩
noncomputable def aj (i : Nat) : DTG := fun d ρ μ Q => Q (ρ.set i (some d)) μ
theorem kM {K : PySem.W.Frag} {i : Nat} : tR K (uU i) (aj i) := fun σ H ρ μ d u Qd Q S r h k => k _ _ μ H .refl ⟨S.mu, S.rho.set r⟩ h
theorem aN {i : Nat} {x : Str} (hN : X.N.Nodup) (hi : X.N[i]? = some x) (hx : Loc X.env.scope x) (hf : X.fn x = true ∨ X.env.scope.names.lookup x = some .local := by first | exact .inl rfl | exact .inr rfl | assumption) : DG X (.Name x pos) (aj i) := ⟨_, vM hN hi hx hf, kM⟩
def i9 : jq := fun ds ρ μ Q => match ds with
  | [] => Q ρ μ
  | _ => False
def bG (g : DTG) (gs : jq) : jq := fun ds ρ μ Q => match ds with
  | d :: r => g (.v d) ρ μ fun ρ1 μ1 => gs r ρ1 μ1 Q
  | _ => False
theorem g6 : DGs X [] i9 := ⟨_, wu, fun σ H ρ μ ds us Qd Q S r h k => by
  cases r with
  | nil => exact ⟨rfl, k σ ρ μ H .refl S h⟩
  | cons _ _ => exact h.elim⟩
theorem bf {g : DTG} {gs : jq} (h1 : DG X e g) (h2 : DGs X es gs) (hs : (assignEach (e :: es) X.env).map (·.2) = assign e X.env :: (assignEach es X.env).map (·.2) := by rfl) : DGs X (e :: es) (bG g gs) := by
  obtain ⟨t1, p1, l1⟩ := h1
  obtain ⟨t2, p2, l2⟩ := h2
  refine ⟨_, ug p1 p2 hs, fun σ H ρ μ ds us Qd Q S r h k => ?_⟩
  cases r with
  | nil => exact h.elim
  | @cons d u ds us r1 r2 =>
    refine ⟨u, us, rfl, l1 σ H ρ μ (.v d) u _ _ S r1 h fun σ' ρ' μ' H' e1 S' h1 => ?_⟩
    exact l2 σ' H' ρ' μ' ds us _ _ S' (r2.ext S.mu e1) h1 fun a b c d e2 => k a b c d (e1.trans e2)
noncomputable def ic (n : Nat) (gs : jq) : DTG := fun d ρ μ Q => match d with
  | .v (.tuple xs) => xs.length = n ∧ gs xs ρ μ Q
  | _ => False
theorem k8 {k n : Nat} {gs : jq} (hc : X.calm = X.calm) (h : DGs X es gs)
    (hn : (assignEach es X.env).length = n := by rfl) (hst : (assignEach es X.env).findIdx? (·.1) = none := by rfl) : DG X (.Tuple es k pos) (ic n gs) := by
  obtain ⟨t1, p1, l1⟩ := h
  refine ⟨_, yR hc p1 hn hst, fun σ H ρ μ d u Qd Q S r h k => ?_⟩
  unfold ic at h
  split at h
  · cases r with
    | @tuple a us _ ha ra => exact ⟨a, us, rfl, ha, by rw [← ra.length]; exact h.1, l1 σ H ρ μ _ us _ _ S ra h.2 k⟩
  · exact h.elim
noncomputable def rg (to ti : DTE) : DTG := fun d ρ μ Q => to ρ μ fun o μ1 => ti ρ μ1 fun i μ2 => match o, i, d with
  | .m l, .v (.int k), .v x => (match μ2 l with
    | some xs => (match ixN xs.length k with
      | some j => Q ρ (ar μ2 l (xs.set j x))
      | none => False)
    | none => False)
  | _, _, _ => False
theorem ve {o i : Expr} {to ti : DTE} (ho : DE X o to) (hi : DE X i ti)
    (ha : ∀ v, assign (.Subscript o i pos) X.env v = (do
      let ov ← holding [v] (eval o X.env)
      let iv ← holding [v, ov] (eval i X.env)
      standAt pos
      holding [v, ov, iv] (setItem ov iv v)
      release [v, ov, iv] []) := by intro _; rfl) : DG X (.Subscript o i pos) (rg to ti) := by
  obtain ⟨t1, p1, l1⟩ := ho
  obtain ⟨t2, p2, l2⟩ := hi
  refine ⟨_, xK p1 p2 set_list ha, fun σ H ρ μ d u Qd Q S r h k => ?_⟩
  refine l1 σ H ρ μ _ _ S h fun x ux μ1 H1 e1 S1 rx h1 => ?_
  refine l2 σ H1 ρ μ1 _ _ S1 h1 fun y uy μ2 H2 e2 S2 ry h2 => ?_
  have r2 := (r.ext S.mu e1).ext S1.mu e2
  have rx2 := rx.ext S1.mu e2
  split at h2
  · rename_i l kk xv
    obtain ⟨rfl, ds, hm⟩ := rx2
    cases ry
    rw [hm] at h2
    obtain ⟨us, hl, rl⟩ := S2.mu l ds hm
    simp only at h2
    cases q : ixN ds.length kk with
    | none => rw [q] at h2; exact h2.elim
    | some j =>
      rw [q] at h2
      refine ⟨l, us, kk, j, rfl, rfl, hl, by rw [← rl.length]; exact q, ?_⟩
      have ex : Ext X.K μ2 H2 (ar μ2 l (ds.set j xv)) (upd H2 l (.lst (us.set j u))) := hB hm
      exact k σ ρ _ _ (e1.trans (e2.trans ex)) ⟨S2.mu.set hm (rl.set r2 j), S2.rho.ext S2.mu ex⟩ h2
  · exact h2.elim
noncomputable def aO (te : DTE) (g : DTG) : DTS := fun Dd ρ μ => te ρ μ fun d μ1 => g d ρ μ1 Dd.nx
theorem oU {K : PySem.W.Frag} {t : TE} {g : TG} {gd : DTG} (l1 : iP K t te) (l2 : tR K g gd) : mx K (yw t g) (aO te gd) := by
  intro σ H ρ μ Dd De S h k1 k2 k3 k4
  refine l1 σ H ρ μ _ _ S h fun d u μ1 H1 e1 S1 r h1 => ?_
  exact l2 σ H1 ρ μ1 d u _ _ S1 r h1 fun a b c d e2 => k1 a b c d (e1.trans e2)
theorem ik {tg : Expr} {g : DTG} (he : DE X e te) (hg : DG X tg g) (hs : swapsWithSole [tg] e pos.line X.env = pure false := by rfl) (hw : swappedStores [tg] e X.env = pure none := by rfl)
    (h1 : (assignEach [tg] X.env).map (·.2) = [assign tg X.env] := by rfl) : DS X (.Assign [tg] e pos) (aO te g) := by
  obtain ⟨t1, p1, l1⟩ := he
  obtain ⟨t2, p2, l2⟩ := hg
  exact ⟨_, yn p1 p2 hs hw h1, oU l1 l2⟩
theorem ay {i : Nat} {x : Str} {pos' : Pos} (hN : X.N.Nodup) (hi : X.N[i]? = some x) (hx : Loc X.env.scope x) (he : DE X e te) (hs : swapsWith e (some (.Name x pos')) pos.line X.env = pure false := by rfl) (hf : X.fn x = true ∨ X.env.scope.names.lookup x = some .local := by first | exact .inl rfl | exact .inr rfl | assumption) :
    DS X (.Assign [.Name x pos'] e pos) (aO te (aj i)) := by
  obtain ⟨t1, p1, l1⟩ := he
  exact ⟨_, x8 hN hi hx p1 hs hf, oU l1 kM⟩
noncomputable def sU (i j : Nat) (t : DTA) : DTS := fun Dd ρ μ => t ρ μ fun ds μ1 => match ds with
  | [v, w] => Dd.nx ((ρ.set i (some v)).set j (some w)) μ1
  | _ => False
theorem nH {i j : Nat} {x y : Str} {a b : Expr} {t : DTA} {px py pt : Pos} {kt k2 pt2} (hc : X.calm = true) (hN : X.N.Nodup) (hi : X.N[i]? = some x) (hj : X.N[j]? = some y) (hij : i ≠ j)
    (hx : X.env.scope.names.lookup x = some .local) (hy : X.env.scope.names.lookup y = some .local) (ha : DA X [a, b] t)
    (hw : swappedStores [.Tuple [.Name x px, .Name y py] kt pt] (.Tuple [a, b] k2 pt2) X.env = pure (some [x, y]))
    (hs : swapsWithSole [.Tuple [.Name x px, .Name y py] kt pt] (.Tuple [a, b] k2 pt2) pos.line X.env = pure false := by rfl) :
    DS X (.Assign [.Tuple [.Name x px, .Name y py] kt pt] (.Tuple [a, b] k2 pt2) pos) (sU i j t) := by
  obtain ⟨t1, p1, l1⟩ := ha
  refine ⟨_, x6 hc hN hi hj hij hx hy p1 hw hs, fun σ H ρ μ Dd De S h k1 k2 k3 k4 => ?_⟩
  refine l1 σ H ρ μ _ _ S h fun ds us μ1 H1 e1 S1 rs len h1 => ?_
  split at h1
  · cases rs with
    | cons r1 r2 =>
      cases r2 with
      | cons r2 r3 =>
        cases r3
        exact ⟨_, _, rfl, k1 _ _ μ1 H1 e1 ⟨S1.mu, (S1.rho.set r1).set r2⟩ h1⟩
  · exact h1.elim
noncomputable def lC (c : DTT) (tb : DTS) : DTS := fun Dd ρ μ => ∃ W : Nat → Rho → Mu → Prop, (∃ m, W m ρ μ) ∧ ∀ m ρ μ, W m ρ μ →
  c ρ μ fun b μ1 => if b = true then tb { Dd with nx := fun ρ' μ' => ∃ m', m' < m ∧ W m' ρ' μ', ct := fun ρ' μ' => ∃ m', m' < m ∧ W m' ρ' μ', bk := Dd.nx } ρ μ1 else Dd.nx ρ μ1
theorem kS {c : Expr} {body : List Stmt} (hp : PassesOwn (model X.prog X.w) X.A X.env X.xe) (hc : DT X c tc) (hb : DSs X body td) : DS X (.While c body [] pos) (lC tc td) := by
  obtain ⟨t0, p0, l0⟩ := hc
  obtain ⟨t1, p1, l1⟩ := hb
  refine ⟨_, u4 hp p0 p1, fun σ H ρ μ Dd De S h k1 k2 k3 k4 => ?_⟩
  obtain ⟨W, ⟨m, w0⟩, turn⟩ := h
  refine ⟨fun m σ' H' => ∃ ρ' μ', Ext X.K μ H μ' H' ∧ St0 X.K H' ρ' μ' σ' ∧ W m ρ' μ', ⟨m, ρ, μ, .refl, S, w0⟩, ?_⟩
  rintro m σ1 H1 ⟨ρ1, μ1, e1, S1, w1⟩
  refine l0 σ1 H1 ρ1 μ1 _ _ S1 (turn m ρ1 μ1 w1) fun b μ2 H2 e2 S2 h2 => ?_
  cases b with
  | true =>
    refine oi ⟨fun σ' H' => ∃ m', m' < m ∧ ∃ ρ' μ', Ext X.K μ H μ' H' ∧ St0 X.K H' ρ' μ' σ' ∧ W m' ρ' μ', fun σ' H' ⟨m', hm, q⟩ => ⟨m', hm, q⟩, ?_⟩
    have nxt : ∀ σ' ρ' μ' H', Ext X.K μ2 H2 μ' H' → St0 X.K H' ρ' μ' σ' → (∃ m', m' < m ∧ W m' ρ' μ') → ∃ m', m' < m ∧ ∃ ρ' μ', Ext X.K μ H μ' H' ∧ St0 X.K H' ρ' μ' σ' ∧ W m' ρ' μ' :=
      fun σ' ρ' μ' H' e3 S3 ⟨m', hm, q⟩ => ⟨m', hm, ρ', μ', e1.trans (e2.trans e3), S3, q⟩
    rw [if_pos rfl] at h2
    exact l1 σ1 H2 ρ1 μ2 _ _ S2 h2 nxt (fun a b c d e3 => k2 a b c d (e1.trans (e2.trans e3))) (fun a b c d e3 => k1 a b c d (e1.trans (e2.trans e3))) nxt
  | false => exact oG (k1 σ1 ρ1 μ2 H2 (e1.trans e2) S2 (by simpa using h2))
abbrev DTI := Rho → Mu → (List PyData → Mu → Prop) → Prop
noncomputable def vE (K : PySem.W.Frag) (J : It) (xs : List PyData) (μ1 : Mu) (H1 : Hp) : Prop := ∀ μ2 H2, Ext K μ1 H1 μ2 H2 → bB K μ2 H2 → ∀ i, (i < xs.length → J.go i H2 ∧ ∀ x H', J.yld i H2 x H' → ∃ d, xs[i]? = some d ∧ lY H2 H' ∧ Rp K μ2 H' d x) ∧ (i = xs.length → J.stop i H2)
noncomputable def zO (K : PySem.W.Frag) (wi : TI) (src : DTI) : Prop := ∀ (σ : St) (H : Hp) (ρ : Rho) (μ : Mu) (Qd : List PyData → Mu → Prop) (R : It → Hp → Prop), St0 K H ρ μ σ → src ρ μ Qd →
  (∀ xs μ1 H1 J, Ext K μ H μ1 H1 → St0 K H1 ρ μ1 σ → vE K J xs μ1 H1 → Qd xs μ1 → R J H1) → wi σ H R
noncomputable def DI (X : Cx) (tg iter : Expr) (src : DTI) : Prop := ∃ wi, PI X tg iter wi ∧ zO X.K wi src
variable {tg : Expr}
noncomputable def xC (te : DTE) : DTI := fun ρ μ Q => te ρ μ fun d μ1 => match d with
  | .v (.list xs) => Q xs μ1
  | _ => False
noncomputable def u3 (te : DTE) : DTI := fun ρ μ Q => te ρ μ fun d μ1 => match d with
  | .v (.tuple xs) => Q xs μ1
  | _ => False
theorem Ao (h : DE X e te) : DI X tg e (xC te) := by
  obtain ⟨t1, p1, l1⟩ := h
  refine ⟨_, qP p1, fun σ H ρ μ Qd R S h k => ?_⟩
  refine l1 σ H ρ μ _ _ S h fun d u μ1 H1 e1 S1 r h1 => ?_
  split at h1
  · rename_i xs
    cases r with
    | @list a us _ ha hn ra =>
      refine ⟨a, rfl, ⟨us, SqL.of ha⟩, k xs μ1 H1 _ e1 S1 (fun μ2 H2 e2 ok2 i => ⟨fun hi => ?_, fun hi => ?_⟩) h1⟩
      · have ha2 := e2.keep _ _ ha hn trivial
        have hiu : i < us.length := by rw [← ra.length]; exact hi
        refine ⟨⟨us, us[i], SqL.of ha2, by simp [hiu]⟩, fun x H' ⟨eH, hx⟩ => ?_⟩
        subst eH
        obtain ⟨u', h1', h2'⟩ := ra.get (i := i) (d := xs[i]) (by simp [hi])
        have := hx us (SqL.of ha2)
        rw [h1'] at this
        cases this
        exact ⟨xs[i], by simp [hi], lY.refl _, h2'.ext S1.mu e2⟩
      · exact ⟨us, SqL.of (e2.keep _ _ ha hn trivial), by rw [← ra.length]; omega⟩
  · exact h1.elim
theorem x5 (h : DE X e te) : DI X tg e (u3 te) := by
  obtain ⟨t1, p1, l1⟩ := h
  refine ⟨_, yh p1, fun σ H ρ μ Qd R S h k => ?_⟩
  refine l1 σ H ρ μ _ _ S h fun d u μ1 H1 e1 S1 r h1 => ?_
  split at h1
  · rename_i xs
    cases r with
    | @tuple a us _ ha ra =>
      refine ⟨a, rfl, ⟨us, ha⟩, k xs μ1 H1 _ e1 S1 (fun μ2 H2 e2 ok2 i => ⟨fun hi => ?_, fun hi => ?_⟩) h1⟩
      · have ha2 := mY S1.mu e2 ha
        have hiu : i < us.length := by rw [← ra.length]; exact hi
        refine ⟨⟨us, us[i], ha2, by simp [hiu]⟩, fun x H' ⟨eH, hx⟩ => ?_⟩
        subst eH
        obtain ⟨u', h1', h2'⟩ := ra.get (i := i) (d := xs[i]) (by simp [hi])
        have := hx us ha2
        rw [h1'] at this
        cases this
        exact ⟨xs[i], by simp [hi], lY.refl _, h2'.ext S1.mu e2⟩
      · exact ⟨us, mY S1.mu e2 ha, by rw [← ra.length]; omega⟩
  · exact h1.elim
def lX (lo : Int) (n : Nat) : List PyData := (List.range n).map fun (i : Nat) => PyData.int (lo + (i : Int))
theorem yz {K : PySem.W.Frag} {lo : Int} {n : Nat} {μ : Mu} {H : Hp} : vE K (Itr lo n) (lX lo n) μ H := fun μ2 H2 e2 ok2 i => by
  have hl : (lX lo n).length = n := by unfold lX; simp
  refine ⟨fun hi => ?_, fun hi => ?_⟩
  · rw [hl] at hi
    refine ⟨hi, fun x H' ⟨eH, hx⟩ => ?_⟩
    subst eH hx
    exact ⟨.int (lo + i), by unfold lX; simp [hi], lY.refl _, .int _⟩
  · show n ≤ i
    omega
noncomputable def ip (t : DTA) : DTI := fun ρ μ Q => t ρ μ fun ds μ1 => match ds with
  | [.v (.int j)] => (-(2 ^ 62) ≤ j ∧ j < 2 ^ 62) ∧ Q (lX 0 j.toNat) μ1
  | _ => False
theorem jb {a : Expr} {t : DTA} {p pos : Pos} (hg : Gl X "range") (hm : X.mg "range" = none) (ha : DA X [a] t) (hs : starEach [a] X.env = [(false, eval a X.env)] := by rfl) (hc : X.calm = true := by rfl) : DI X tg (.Call (.Name "range" p) [a] [] pos) (ip t) := by
  obtain ⟨t1, p1, l1⟩ := ha
  refine ⟨_, rY hc hg hm p1 hs, fun σ H ρ μ Qd R S h k => ?_⟩
  refine l1 σ H ρ μ _ _ S h fun ds us μ1 H1 e1 S1 rs len h1 => ?_
  split at h1
  · rename_i j
    cases rs with
    | cons r1 r2 => cases r2; cases r1; exact ⟨j, rfl, h1.1.1, h1.1.2, k _ μ1 H1 _ e1 S1 yz h1.2⟩
  · exact h1.elim
noncomputable def sV (src : DTI) (g : DTG) (tb : DTS) : DTS := fun Dd ρ μ => src ρ μ fun xs μ1 => ∃ Pv : Nat → Rho → Mu → Prop, Pv 0 ρ μ1 ∧
  (∀ i x ρ' μ', xs[i]? = some x → Pv i ρ' μ' → g (.v x) ρ' μ' fun ρ2 μ2 => tb { Dd with nx := Pv (i + 1), ct := Pv (i + 1), bk := Dd.nx } ρ2 μ2) ∧ (∀ ρ' μ', Pv xs.length ρ' μ' → Dd.nx ρ' μ')
theorem nL {iter : Expr} {body : List Stmt} {src : DTI} {g : DTG} (hp : PassesOwn (model X.prog X.w) X.A X.env X.xe) (hc : X.calm = true) (hi : DI X tg iter src) (hg : DG X tg g) (hb : DSs X body td)
    (hs : ∀ x, foldedSetIterable iter X.env x = pure x := by intro _; rfl) : DS X (.For tg iter body [] pos) (sV src g td) := by
  obtain ⟨t0, p0, l0⟩ := hi
  obtain ⟨t1, p1, l1⟩ := hg
  obtain ⟨t2, p2, l2⟩ := hb
  refine ⟨_, uR hp hc p0 p1 p2 hs, fun σ H ρ μ Dd De S h k1 k2 k3 k4 => ?_⟩
  refine l0 σ H ρ μ _ _ S h fun xs μ1 H1 J e1 S1 it h1 => ?_
  obtain ⟨Pv, pv0, turn, fin⟩ := h1
  refine ⟨fun i m σ' H' => m = xs.length - i ∧ i ≤ xs.length ∧ ∃ ρ' μ', Ext X.K μ1 H1 μ' H' ∧ St0 X.K H' ρ' μ' σ' ∧ Pv i ρ' μ', ⟨xs.length, by simp, Nat.zero_le _, ρ, μ1, .refl, S1, pv0⟩, ?_⟩
  rintro i m σ' H' ⟨rfl, hi, ρ', μ', e2, S2, pv⟩
  obtain ⟨go, stop⟩ := it μ' H' e2 S2.mu i
  by_cases hlt : i < xs.length
  · obtain ⟨g1, y1⟩ := go hlt
    refine .inr ⟨g1, fun σ2 H2 => ∃ ρ2 μ2, Ext X.K μ1 H1 μ2 H2 ∧ St0 X.K H2 ρ2 μ2 σ2 ∧ Pv (i + 1) ρ2 μ2, fun σ2 H2 q => ⟨xs.length - (i + 1), by omega, rfl, hlt, q⟩, fun x H2 yl => ?_⟩
    obtain ⟨d, hd, sm, rd⟩ := y1 x H2 yl
    have e3 : Ext X.K μ' H' μ' H2 := .of_same sm
    have S3 : St0 X.K H2 ρ' μ' σ' := ⟨S2.mu.wt e3 sm, S2.rho.ext S2.mu e3⟩
    refine l1 σ' H2 ρ' μ' (.v d) x _ _ S3 rd (turn i d ρ' μ' hd pv) fun σ4 ρ4 μ4 H4 e4 S4 h4 => ?_
    have nxt : ∀ a b c dd, Ext X.K μ4 H4 c dd → St0 X.K dd b c a → Pv (i + 1) b c → ∃ ρ2 μ2, Ext X.K μ1 H1 μ2 dd ∧ St0 X.K dd ρ2 μ2 a ∧ Pv (i + 1) ρ2 μ2 := fun a b c dd e5 S5 q => ⟨b, c, e2.trans (e3.trans (e4.trans e5)), S5, q⟩
    have ee := e1.trans (e2.trans (e3.trans e4))
    exact l2 σ4 H4 ρ4 μ4 _ _ S4 h4 nxt (fun a b c d e5 => k2 a b c d (ee.trans e5)) (fun a b c d e5 => k1 a b c d (ee.trans e5)) nxt
  · have ei : i = xs.length := by omega
    subst ei
    exact .inl ⟨stop rfl, k1 σ' ρ' μ' H' (e1.trans e2) S2 (fin ρ' μ' pv)⟩
end
abbrev DSp := List D → Mu → DK → Prop
noncomputable def spD (K : PySem.W.Frag) (dsp : DSp) : Sp := fun vs H Q _ => ∃ (ds : List D) (μ : Mu) (Qd : DK), bB K μ H ∧ fi K μ H ds vs ∧ dsp ds μ Qd ∧
  (∀ d u μ' H', Ext K μ H μ' H' → bB K μ' H' → RpD K μ' H' d u → Qd d μ' → Q u H')
def aF (N : List Str) (ds : List D) : Rho := ds.map some ++ List.replicate (N.length - ds.length) none
theorem fi.get {K : PySem.W.Frag} {μ : Mu} {H : Hp} {ds : List D} {us : List V} : ∀ {i : Nat} {d : D}, fi K μ H ds us → ds[i]? = some d → ∃ u, us[i]? = some u ∧ RpD K μ H d u
  | _, _, .nil, h => by simp at h
  | 0, _, .cons r _, h => by simp at h; subst h; exact ⟨_, rfl, r⟩
  | i + 1, d, .cons _ t, h => by
    obtain ⟨u, h1, h2⟩ := fi.get (i := i) (d := d) t (by simpa using h)
    exact ⟨u, by simpa using h1, h2⟩
theorem sH {K : PySem.W.Frag} {μ : Mu} {H : Hp} {N : List Str} {ds : List D} {vs : List V} (r : fi K μ H ds vs) : dU K μ H (aF N ds) (start N vs) := by
  have hl := r.length
  refine ⟨by unfold aF start; simp [hl], fun i d e => ?_⟩
  unfold aF at e
  by_cases hi : i < ds.length
  · rw [List.getElem?_append_left (by simpa using hi), List.getElem?_map] at e
    unfold start
    rw [List.getElem?_append_left (by simpa [hl] using hi), List.getElem?_map]
    cases q : ds[i]? with
    | none => rw [q] at e; cases e
    | some d' =>
      rw [q] at e
      cases e
      obtain ⟨u, h1, h2⟩ := r.get q
      exact ⟨u, by rw [h1]; rfl, h2⟩
  · rw [List.getElem?_append_right (by simpa using hi), List.getElem?_replicate] at e
    split at e <;> cases e
section
variable {P : Program} {w : World} {K : PySem.W.Frag} {mg : Str → Option Value} {base : Heap}
theorem _root_.L2.Fun.okD {x qual : Str} {st : Stmt} {f : Addr} {fd : FuncData} {N ps : List Str} {k : Nat} {dsp : DSp} (F : Fun K x qual st f fd) (S : aE N ps (aq st)) (len : ∀ ds μ Q, dsp ds μ Q → ds.length = ps.length)
    (hbody : ∀ (cdv : Value) (A : Around) (outer : List Env) (s : Shared) (H : Hp) (E : XK), fU k (A.deeper (envOfC qual (aq st) s.heap.objs.size f cdv)) →
      ∃ td, DSs (pK CX0 P w K mg base N qual (aq st) f cdv A outer s H E).nox (d0 st) td ∧ ∀ ds μ Qd, dsp ds μ Qd → td ‹Qd› (aF N ds) μ) : cq P w K mg base CX0 (k + 1) f fd ps (spD K dsp) := by
  refine F.ok S (fun vs H Q E h => ?_) (fun cdv A outer s H vs Q E hr h => ?_)
  · obtain ⟨ds, μ, Qd, _, r, h, _⟩ := h
    rw [← r.length]
    exact len ds μ Qd h
  · obtain ⟨ds, μ, Qd, ok, r, h, fin⟩ := h
    obtain ⟨td, ⟨t, p, l⟩, rd⟩ := hbody cdv A outer s H E hr
    refine ⟨t, p, ?_⟩
    exact l (start N vs) H (aF N ds) μ _ _ ⟨ok, sH r⟩ (rd ds μ Qd h) (fun σ' ρ' μ' H' e' S' q => fin (.v .none) .non μ' H' e' S'.mu Rp.none q) (fun d u μ' H' e' ok' r' q => fin d u μ' H' e' ok' r' q) (fun _ _ _ _ _ _ q => q) (fun _ _ _ _ _ _ q => q)
end
section
variable {X : Cx} {e : Expr} {es : List Expr} {t : DTA} {p pos : Pos} {x : Str} {k : Nat} {f : Addr} {fd : FuncData} {ps : List Str} {dsp : DSp}
noncomputable def au (dsp : DSp) (t : DTA) : DTE := fun ρ μ Q => t ρ μ fun ds μ1 => dsp ds μ1 Q
theorem ak (F : cq X.prog X.w X.K X.mg X.base CX0 k f fd ps (spD X.K dsp)) (hr : fU k X.A) (hg : Gl X x) (hm : X.mg x = some (.ref f)) (hk : PySem.W.keepIn X.K (.ref f) = true) (hb : Binds X.K fd ps [])
    (ha : DA X (e :: es) t) (hdb : (x == ("__debug__" : Str)) = false := by decide) (he : starEach (e :: es) X.env = (false, eval e X.env) :: starEach es X.env := by rfl) (hpl : (backTo pos (starEach es X.env)).any (·.1) = false := by rfl) :
    DE X (.Call (.Name x p) (e :: es) [] pos) (au dsp t) := by
  obtain ⟨t1, p1, l1⟩ := ha
  refine ⟨_, vI F hr hg hm hk hb .nil zp p1 hdb he hpl, fun σ H ρ μ Qd Q S h kk => ?_⟩
  refine l1 σ H ρ μ _ _ S h fun ds us μ1 H1 e1 S1 rs len h1 => ?_
  refine ⟨ds, μ1, Qd, S1.mu, by rw [List.append_nil]; exact rs, h1, fun d u μ' H' e2 ok r q => ?_⟩
  exact kk d u μ' H' (e1.trans e2) ⟨ok, S1.rho.ext S1.mu e2⟩ r q
end
section
variable {X : Cx} {o e : Expr} {to te : DTE} {apos cpos : Pos}
noncomputable def vR (to te : DTE) : DTE := fun ρ μ Q => to ρ μ fun x μ1 => match x with
  | .m l => te ρ μ1 fun y μ2 => (match y, μ2 l with
    | .v d, some xs => xs.length < 1000 ∧ Q (.v .none) (ar μ2 l (xs ++ [d]))
    | _, _ => False)
  | _ => False
theorem mr (ho : DE X o to) (ha : DE X e te) (hbase : attributeBase o "append" X.env (eval o X.env) = eval o X.env := by rfl)
    (hfew : ((backTo cpos (starEach [e] X.env)).all (fun x => !x.1) && (backToKw cpos (keywordEach [] X.env)).all (fun x => x.1.isSome)
      && decide ([e].length + ([] : List Keyword).length + (if ([] : List Keyword).isEmpty then 0 else 1) < 30)) = true := by rfl)
    (hline : (apos.endLine == cpos.line) = true := by rfl) (hs : starEach [e] X.env = (false, eval e X.env) :: starEach [] X.env := by rfl) (hplain : (backTo cpos (starEach [] X.env)).any (·.1) = false := by rfl) :
    DE X (.Call (.Attribute o "append" apos) [e] [] cpos) (vR to te) := by
  obtain ⟨t1, p1, l1⟩ := ho
  obtain ⟨t2, p2, l2⟩ := ha
  refine ⟨_, qQ PySem.F.plainAttrs_list PySem.F.slot_list_append PySem.F.type_list_append jM p1 (gp p2 jN hs) hbase hfew hline hs hplain, fun σ H ρ μ Qd Q S h k => ?_⟩
  refine l1 σ H ρ μ _ _ S h fun x ux μ1 H1 e1 S1 rx h1 => ?_
  cases x with
  | m l =>
    obtain ⟨rfl, ds, hm⟩ := id rx
    obtain ⟨us, hl, rl⟩ := S1.mu l ds hm
    refine ⟨.inl ⟨rfl, us, SqL.of hl⟩, ?_⟩
    refine l2 σ H1 ρ μ1 _ _ S1 h1 fun y uy μ2 H2 e2 S2 ry h2 => ?_
    obtain ⟨_, ds2, hm2⟩ := rx.ext S1.mu e2
    obtain ⟨us2, hl2, rl2⟩ := S2.mu l ds2 hm2
    rw [hm2] at h2
    cases y with
    | v d =>
      have h3 : ds2.length < 1000 ∧ Qd (.v .none) (ar μ2 l (ds2 ++ [d])) := h2
      refine ⟨l, us2, uy, rfl, rfl, hl2, by rw [← rl2.length]; exact d9 (Nat.le_of_lt h3.1), ?_⟩
      have ex : Ext X.K μ2 H2 (ar μ2 l (ds2 ++ [d])) (upd H2 l (.lst (us2 ++ [uy]))) := hB hm2
      exact k (.v .none) .non _ _ (e1.trans (e2.trans ex)) ⟨S2.mu.set hm2 (rl2.append (.cons ry .nil)), S2.rho.ext S2.mu ex⟩ Rp.none h3.2
    | m _ => exact h2.elim
    | s _ => exact h2.elim
    | o _ => exact h2.elim
    | q _ => exact h2.elim
  | v d => exact h1.elim
  | s ns => exact h1.elim
  | o _ => exact h1.elim
  | q _ => exact h1.elim
end
open PySem PySem.Spec PyProof.Rows
theorem eK {prog : Program} {w : World} {A : Around} {R : Result → Shared → Prop} {s : Shared} {elt target iter : Expr} {ifs : List Expr} {scope : Scope} {pos : Pos} {it acc : Value} {env : Env} (I : Nat → Shared → Prop)
    (turn : ∀ n s, I n s → wpAny (model prog w) A (pyNext it) (fun r s₁ => match r with
      | none => R (.ok .next) s₁
      | some v => wpAny (model prog w) A (letOwnedTupleGo target it v) (fun _ s' => wpAny (model prog w) A (assign target env v) (fun _ s₂ =>
          wpAny (model prog w) A (forIn ifs true fun c r => if r = true then do let ok ← isTrue c env (eval c env); pure (ForInStep.yield ok) else pure (ForInStep.yield r)) (fun ok s₃ =>
            if ok = true then wpAny (model prog w) A (eval elt env) (fun x s₄ =>
              wpAny (model prog w) A (call (.builtin "list.append") [acc, x]) (fun _ s₅ => ∃ m, m < n ∧ I m s₅) (fun _ _ => False) s₄) (fun _ _ => False) s₃
            else ∃ m, m < n ∧ I m s₃) (fun _ _ => False) s₂) (fun _ _ => False) s') (fun _ _ => False) s₁) (fun _ _ => False) s)
    (n : Nat) (h : I n s) :
    codeAny (model prog w) A (.compLoop (.ListComp elt [⟨target, iter, ifs, 0⟩] scope pos) 0 it acc env) R s := by
  refine codeAny_loop rfl I (fun n s hI => ?_) n h
  show wpAny _ A ((compTurn (.ListComp elt [⟨target, iter, ifs, 0⟩] scope pos) 0 it acc env).onRaise (fun x => do noteFrame x env; theTreesLotGoes x)) _ _ s
  refine wpAny_noted ?_
  rw [compTurn_list]
  refine wpAny_bind (wpAny_standAt (wpAny_bind (wpAny_mono (turn n s hI) (fun r s₁ h₁ => ?_) fun _ _ h' => h'.elim)))
  cases r with
  | none => exact wpAny_pure h₁
  | some v =>
    refine wpAny_bind (wpAny_mono h₁ (fun _ s' h' => ?_) fun _ _ h' => h'.elim)
    refine wpAny_bind (wpAny_mono h' (fun _ s₂ h₂ => wpAny_bind (wpAny_mono h₂ (fun ok s₃ h₃ => ?_) fun _ _ h' => h'.elim)) fun _ _ h' => h'.elim)
    cases ok with
    | false => exact wpAny_pure ⟨rfl, h₃⟩
    | true =>
      exact wpAny_bind (wpAny_bind (wpAny_mono h₃ (fun x s₄ h₄ => wpAny_bind (wpAny_mono h₄ (fun _ s₅ h₅ => wpAny_pure (wpAny_pure ⟨rfl, h₅⟩)) fun _ _ h' => h'.elim)) fun _ _ h' => h'.elim))
section
variable {K : PySem.W.Frag} {μ μ' : Mu} {H : Hp}
mutual
theorem Rp.shrink {d : PyData} {u : V} (sub : ∀ a, μ' a = none → μ a = none) : Rp K μ' H d u → Rp K μ H d u
  | .none => .none
  | .bool b => .bool b
  | .int i => .int i
  | .str x => .str x
  | .list h n r => .list h (sub _ n) (RpL.shrink sub r)
  | .tuple h r => .tuple h (RpL.shrink sub r)
theorem RpL.shrink {ds : List PyData} {us : List V} (sub : ∀ a, μ' a = none → μ a = none) : RpL K μ' H ds us → RpL K μ H ds us
  | .nil => .nil
  | .cons h r => .cons (Rp.shrink sub h) (RpL.shrink sub r)
end
end
theorem xn {X : Cx} {e : Expr} {td : DTE} (h : ∀ (pins : List (Addr × Obj)) (s : Shared) (σ : St) (H : Hp) (ρ : Rho) (μ : Mu) (Qd : DK) (Q : VK), Inv X pins σ H s → St0 X.K H ρ μ σ → td ρ μ Qd →
    (∀ d u μ' H', Ext X.K μ H μ' H' → St0 X.K H' ρ μ' σ → RpD X.K μ' H' d u → Qd d μ' → Q u H') → wpAny (model X.prog X.w) X.A (eval e X.env) (EP X pins σ Q) X.xe s) : DE X e td :=
  ⟨fun σ H Q => ∃ ρ μ Qd, St0 X.K H ρ μ σ ∧ td ρ μ Qd ∧ (∀ d u μ' H', Ext X.K μ H μ' H' → St0 X.K H' ρ μ' σ → RpD X.K μ' H' d u → Qd d μ' → Q u H'),
    fun pins s σ H Q I ⟨ρ, μ, Qd, S, q, k⟩ => h pins s σ H ρ μ Qd Q I S q k, fun σ H ρ μ Qd Q S q k => ⟨ρ, μ, Qd, S, q, k⟩⟩
def aH (X : Cx) (N' : List Str) (scope : Scope) (cl : List (Str × Addr)) (fp : List Addr) (s₃ : Shared) (H₃ : Hp) : Cx :=
  { X with N := N', s₀ := s₃, H₀ := H₃, env := compEnvC scope cl s₃.heap.objs.size X.env, outer := X.stack, stack := X.stack, ex := fp, fn := fun _ => false, pn := X.pn, xe := fun _ _ => False }
def Le : Rho → Rho → Prop
  | [], [] => True
  | none :: r, _ :: r' => Le r r'
  | some d :: r, some d' :: r' => d = d' ∧ Le r r'
  | _, _ => False
theorem Le.get : ∀ {ρ ρ' : Rho}, Le ρ ρ' → ρ.length = ρ'.length ∧ ∀ (i : Nat) d, ρ[i]? = some (some d) → ρ'[i]? = some (some d)
  | [], [], _ => ⟨rfl, fun _ _ h => h⟩
  | none :: r, x :: r', h => by
    obtain ⟨h1, h2⟩ := Le.get (ρ := r) (ρ' := r') h
    refine ⟨congrArg (· + 1) h1, fun i d e => ?_⟩
    cases i with
    | zero => simp at e
    | succ j => exact h2 j d (by simpa using e)
  | some d :: r, some d' :: r', h => by
    obtain ⟨rfl, h⟩ := h
    obtain ⟨h1, h2⟩ := Le.get (ρ := r) (ρ' := r') h
    refine ⟨congrArg (· + 1) h1, fun i d e => ?_⟩
    cases i with
    | zero => simpa using e
    | succ j => exact h2 j d (by simpa using e)
  | some d :: r, none :: r', h => h.elim
  | [], _ :: _, h => h.elim
  | none :: _, [], h => h.elim
  | some _ :: _, [], h => h.elim
def bA {α : Type} (cap : List (Option Nat)) (ρ : List (Option α)) : List (Option α) := cap.map fun o => o.bind fun j => (ρ[j]?).join
noncomputable def rG (cap : List (Option Nat)) (src : DTI) (g : DTG) (c : DTT) (elt : DTE) : DTE := fun ρ μ Q => src ρ μ fun xs μ1 => xs.length ≤ 1000 ∧ ∃ f : PyData → Option PyData,
  (∀ x ∈ xs, ∀ μ' : Mu, (∀ a ds, μ1 a = some ds → μ' a = some ds) → g (.v x) (bA cap ρ) μ' fun ρ2 μ2 => Le (bA cap ρ) ρ2 ∧ c ρ2 μ2 fun b μ3 =>
    if b = true then elt ρ2 μ3 fun d μ4 => μ4 = μ' ∧ (match d with | .v y => f x = some y | _ => False) else μ3 = μ' ∧ f x = none) ∧ Q (.v (.list (xs.filterMap f))) μ1
noncomputable def vG (X : Cx) (ifs : List Expr) (c : DTT) : Prop := ∀ (pins : List (Addr × Obj)) (s : Shared) (σ : St) (H : Hp) (ρ : Rho) (μ : Mu) (Qd : Bool → Mu → Prop) (Q : Bool → Hp → Prop), Inv X pins σ H s → St0 X.K H ρ μ σ → c ρ μ Qd →
  (∀ b μ' H', Ext X.K μ H μ' H' → St0 X.K H' ρ μ' σ → Qd b μ' → Q b H') →
  wpAny (model X.prog X.w) X.A (forIn ifs true fun c r => if r = true then do let ok ← isTrue c X.env (eval c X.env); pure (ForInStep.yield ok) else pure (ForInStep.yield r)) (TP X pins σ Q) X.xe s
noncomputable def oE : DTT := fun _ μ Q => Q true μ
theorem km {X : Cx} : vG X [] oE := fun pins s σ H ρ μ Qd Q I S h k => wpAny_tests_nil ⟨H, I, k true μ H .refl S h⟩
theorem Un.after {fs ex : List Addr} {H H1 : Hp} {h h1 h' : Heap} (u : Un fs ex H H1 h h1) (k : ∀ b o, b < h.objs.size → h1.get? b = some o → h'.get? b = some o) : Un fs ex H H1 h h' :=
  ⟨fun b o e n hb hx => k b o (Heap.lt_size e) (u.keep b o e n hb hx), fun b o e n hb hx => let ⟨sl, q⟩ := u.slot b o e n hb hx; ⟨sl, k b _ (Heap.lt_size e) q⟩, u.free, fun b o e hx => let ⟨o', q⟩ := u.there b o e hx; ⟨o', k b _ (Heap.lt_size e) q⟩, u.j5, u.jt, u.jy⟩
theorem lA {α : Type} {cap : List (Option Nat)} {ρ : List (Option α)} {i : Nat} {d : α} (h : (bA cap ρ)[i]? = some (some d)) : ∃ j, cap[i]? = some (some j) ∧ ρ[j]? = some (some d) := by
  unfold bA at h
  rw [List.getElem?_map] at h
  cases q : cap[i]? with
  | none => rw [q] at h; cases h
  | some o =>
    rw [q] at h
    cases o with
    | none => cases h
    | some j =>
      refine ⟨j, rfl, ?_⟩
      simp only [Option.map_some, Option.bind_some, Option.some.injEq] at h
      cases z : ρ[j]? with
      | none => rw [z] at h; cases h
      | some y => rw [z] at h; simp only [Option.join_some] at h; rw [h]
theorem tK {α : Type} {cap : List (Option Nat)} {ρ : List (Option α)} {i j : Nat} {d : α} (h : cap[i]? = some (some j)) (e : ρ[j]? = some (some d)) : (bA cap ρ)[i]? = some (some d) := by
  unfold bA
  rw [List.getElem?_map, h]
  simp [e]
theorem dU.cap {K : PySem.W.Frag} {μ : Mu} {H : Hp} {ρ : Rho} {σ : St} {cap : List (Option Nat)} (r : dU K μ H ρ σ) : dU K μ H (bA cap ρ) (bA cap σ) := by
  refine ⟨by unfold bA; simp, fun i d e => ?_⟩
  obtain ⟨j, h1, h2⟩ := lA e
  obtain ⟨u, h3, h4⟩ := r.2 j d h2
  exact ⟨u, tK h1 h3, h4⟩
theorem dU.le {K : PySem.W.Frag} {μ : Mu} {H : Hp} {ρ ρ' : Rho} {σ : St} (r : dU K μ H ρ' σ) (l : Le ρ ρ') : dU K μ H ρ σ :=
  ⟨l.get.1.trans r.1, fun i d e => r.2 i d (l.get.2 i d e)⟩
theorem q9 {xs : List PyData} {f : PyData → Option PyData} {i : Nat} {d : PyData} (h : xs[i]? = some d) : (xs.take (i + 1)).filterMap f = (xs.take i).filterMap f ++ (f d).toList := by
  obtain ⟨hi, e⟩ := List.getElem?_eq_some_iff.mp h
  rw [List.take_succ_eq_append_getElem hi, List.filterMap_append, e]
  cases q : f d <;> simp [q]
theorem qO {X : Cx} {N' : List Str} {scope : Scope} {cl : List (Str × Addr)} {elt iter tg : Expr} {ifs : List Expr} {pos : Pos} {cap : List (Option Nat)} {src : DTI} {g : DTG} {c : DTT} {te : DTE} (hc : X.calm = X.calm)
    (hi : DI X tg iter src) (hg : ∀ fp s₃ H₃, DG (aH X N' scope cl fp s₃ H₃) tg g) (hif : ∀ fp s₃ H₃, vG (aH X N' scope cl fp s₃ H₃) ifs c) (he : ∀ fp s₃ H₃, DE (aH X N' scope cl fp s₃ H₃) elt te)
    (hclos : closureFor scope X.env = pure cl) (hcell : ∀ y ∈ scope.names, y.2 ≠ .cell) (hkind : scope.kind = .function) (hnames : ∀ y ∈ scope.names, y.2 = .local → scope.names.lookup y.1 = some .local)
    (hcl : ∀ x a, cl.lookup x = some a → X.env.cells.lookup x = some a) (hhas : ∀ x, (relabel scope X.env).names.lookup x = some .cell ∨ (relabel scope X.env).names.lookup x = some .free → ∃ a, cl.lookup x = some a)
    (hlen : cap.length = N'.length) (hcap : ∀ (i j : Nat) (x : Str), cap[i]? = some (some j) → N'[i]? = some x → X.N[j]? = some x ∧ Vis X.env.scope x ∧ X.env.kindOf x ≠ some .local ∧ ((relabel scope X.env).names.lookup x = some .cell ∨ (relabel scope X.env).names.lookup x = some .free))
    (hs : ∀ x, foldedSetIterable iter X.env x = pure x := by intro _; rfl) : DE X (.ListComp elt [⟨tg, iter, ifs, 0⟩] scope pos) (rG cap src g c te) := by
  refine xn fun pins s σ H ρ μ Qd Q I S h k => ?_
  obtain ⟨wi, pw, li⟩ := hi
  rw [eval_ListComp]
  refine wpAny_comprehension_free (use := none) rfl hs hclos hkind hnames (thn (pw pins s σ H _ I (li σ H ρ μ _ (fun J H1 => ∃ xs μ1, Ext X.K μ H μ1 H1 ∧ St0 X.K H1 ρ μ1 σ ∧ vE X.K J xs μ1 H1 ∧ xs.length ≤ 1000 ∧ ∃ f : PyData → Option PyData,
      (∀ x ∈ xs, ∀ μ' : Mu, (∀ a ds, μ1 a = some ds → μ' a = some ds) → g (.v x) (bA cap ρ) μ' fun ρ2 μ2 => Le (bA cap ρ) ρ2 ∧ c ρ2 μ2 fun b μ3 =>
        if b = true then te ρ2 μ3 fun d μ4 => μ4 = μ' ∧ (match d with | .v y => f x = some y | _ => False) else μ3 = μ' ∧ f x = none) ∧ Qd (.v (.list (xs.filterMap f))) μ1) S h (fun xs μ1 H1 J e1 S1 it q => ⟨xs, μ1, e1, S1, it, q⟩)))
    fun v s1 h1 => thn h1 fun itv s2 h2 => ?_)
  obtain ⟨it, fp, tn, J, H2, rfl, I2, T, st2, f2, xs, μ1, e1, S1, itok, hxs, f, body, fin⟩ := h2
  refine wpAny_newObj_type (wpAny_newFunctionEnv hcell (by intro y hy; simp at hy) (fun h₁ hns₁ hsb₁ => ?_) hkind)
  dsimp only at hns₁ hsb₁ ⊢
  have hfree2 : H2 s2.heap.objs.size = none := I2.hok.fresh (Nat.le_refl _)
  have hK2 : X.K.lookup s2.heap.objs.size = none := by
    cases z : X.K.lookup s2.heap.objs.size with
    | none => rfl
    | some o => exact absurd (Heap.lt_size (I2.kIn _ _ z)) (Nat.lt_irrefl _)
  have I3 : Inv X pins σ (upd H2 s2.heap.objs.size (.lst [])) { s2 with heap := s2.heap.push { cls := .type "list", dict := none, data := .seq ([] : List Value).toArray } } :=
    I2.laid (t' := s2.toks) (fun b u e => Heap.get?_push_of_some _ e) (Nat.le_refl _) ⟨Nat.zero_le _, [], 0, .nil, Heap.get?_push_size _ rfl⟩
  generalize hH : s2.heap.push { cls := .type "list", dict := none, data := .seq ([] : List Value).toArray } = hp3 at hns₁ hsb₁ I3 ⊢
  have hsz3 : hp3.objs.size = s2.heap.objs.size + 1 := by rw [← hH, Heap.size_push]
  have kept3 : ∀ b o, hp3.get? b = some o → h₁.get? b = some o := fun b o e => hsb₁.extBut b o (Nat.ne_of_lt (Heap.lt_size e)) (Heap.get?_push_of_some _ e)
  have old3 : ∀ b o, s2.heap.get? b = some o → hp3.get? b = some o := fun b o e => by rw [← hH]; exact Heap.get?_push_of_some _ e
  have fplt : ∀ b ∈ fp, b < s2.heap.objs.size := fun b hb => by obtain ⟨o, e, _⟩ := T.obj 0 _ st2 b hb; exact Heap.lt_size e
  have fpst : ∀ b ∈ fp, b ∉ frs X.stack := fun b hb hz => by
    rcases List.mem_cons.mp (I2.jF b hz) with e | e
    · exact (f2 b hb).2.1 e
    · exact (f2 b hb).2.2.1 e
  obtain ⟨s3, hs3⟩ : ∃ s3 : Shared, s3 = { s2 with heap := hp3 } := ⟨_, rfl⟩
  obtain ⟨H3, hH3⟩ : ∃ H3 : Hp, H3 = upd H2 s2.heap.objs.size (.lst []) := ⟨_, rfl⟩
  have heap3 : s3.heap = hp3 := by rw [hs3]
  rw [← hH3] at I3
  have I3' : Inv X pins σ H3 s3 := by rw [hs3]; exact I3
  have hloc : H3 hp3.objs.size = none := by have := I3'.hok.fresh (a := hp3.objs.size) (by rw [heap3]; exact Nat.le_refl _); exact this
  have okc : (aH X N' scope cl fp s3 H3).Ok := by
    refine ⟨I3.ok.mod, ?_, I3.ok.glob, I3.ok.blt, Nat.le_refl _, fun x y a h1 h2 => I3.ok.inj x y a (hcl x a h1) (hcl y a h2), fun x hx => hhas x hx, fun x a h => (nomatch h), I3.ok.hd, I3.ok.qt, I3.ok.frames, .inl rfl, fun b hb => ⟨?_, fun x a h => (f2 b hb).2.2.2.2.1 x a (hcl x a h)⟩,
      I3'.bs, Nat.le_trans I3.ok.bsz I3'.sz, fun b o e hb => ?_, fun b hb => fpst b hb, I3'.stack, I3'.nK⟩
    · exact hkind
    · show b ≠ s3.heap.objs.size
      rw [heap3, hsz3]
      exact Nat.ne_of_lt (Nat.lt_succ_of_lt (fplt b hb))
    · rcases (f2 b hb).2.2.2.1 with z | z
      · exact I3.ok.sM b o e z
      · exact absurd (Nat.lt_of_lt_of_le (Heap.lt_size (I3.ok.bs b o e).1) z) (Nat.lt_irrefl _)
  have I4 : Inv (aH X N' scope cl fp s3 H3) [] (bA cap σ) H3 { s2 with heap := h₁, toks := s2.toks + ([] : List (Str × Value)).length } := by
    refine ⟨okc, by show s2.os = s3.os; rw [hs3], I3.bare, Un.kept (by show ∀ b o, s3.heap.get? b = some o → _; rw [heap3]; exact kept3), ⟨_, (by show h₁.Ns s3.heap.objs.size _; rw [heap3]; exact hns₁), fun i x v e1 e2 e3 => ?_⟩, fun x a h => ?_, (by show H3 s3.heap.objs.size = none; rw [heap3]; exact hloc), fun x a h => I3.gW x a (hcl x a h), fun p hp => ?_, I3.hok.kept kept3, ?_⟩
    · obtain ⟨j, h1, h2⟩ := lA e2
      obtain ⟨hN, hv, hnl, hk⟩ := hcap i j x h1 e1
      obtain ⟨m, _, hl⟩ := I3.loc
      obtain ⟨u, r, lk⟩ := hl j x v hN h2 hv
      refine ⟨u, r, .inr ⟨hk, ?_⟩⟩
      obtain ⟨a, ha⟩ := hhas x hk
      rcases lk with ⟨z, _⟩ | ⟨_, a', z1, z2⟩
      · exact absurd z hnl
      · have : a' = a := by have q := hcl x a ha; rw [z1] at q; exact Option.some.inj q
        subst this
        obtain ⟨o, ho, hd⟩ := z2
        exact ⟨a', ha, o, kept3 _ _ ho, hd⟩
    · obtain ⟨v, o, ho, hd⟩ := I3.cell x a (hcl x a h)
      exact ⟨v, o, kept3 _ _ ho, hd⟩
    · have hp' : p ∈ X.pn ++ pins := List.mem_append_left _ (by simpa using (show p ∈ X.pn ++ [] from hp))
      obtain ⟨z1, z2, z3, z4, z5⟩ := I3'.pin p hp'
      refine ⟨kept3 _ _ (by rw [← heap3]; exact z1), z2, (show p.1 ≠ s3.heap.objs.size from Nat.ne_of_lt (Heap.lt_size z1)), fun z => ?_, z5⟩
      rcases List.mem_cons.mp (I3'.jF p.1 z) with e | e
      · exact z3 e
      · exact z4 e
    · show (bA cap σ).length = N'.length
      unfold bA
      rw [List.length_map]
      exact hlen
  have hμ1 : μ1 s2.heap.objs.size = none := S1.mu.free hfree2
  have sub1 : ∀ ys a ds, μ1 a = some ds → ar μ1 s2.heap.objs.size ys a = some ds := fun ys a ds e => by
    have : a ≠ s2.heap.objs.size := fun z => by rw [z, hμ1] at e; cases e
    rw [aR this]; exact e
  have loop : codeAny (model X.prog X.w) X.A (.compLoop (.ListComp elt [⟨tg, iter, ifs, 0⟩] scope pos) 0 (.ref it) (.ref s2.heap.objs.size) (aH X N' scope cl fp s3 H3).env)
      (compPost (model X.prog X.w) X.A X.xe none (EP X pins σ Q) (.ref s2.heap.objs.size) hp3.objs.size) { s2 with heap := h₁, toks := s2.toks + ([] : List (Str × Value)).length } := by
    refine eK (fun n s' => ∃ (i : Nat) (σc : St) (Hc : Hp), n = xs.length - i ∧ i ≤ xs.length ∧ Inv (aH X N' scope cl fp s3 H3) [] σc Hc s' ∧ tn i s'.heap ∧ (∀ b ∈ fp, Hc b = none) ∧
      St0 X.K Hc (bA cap ρ) (ar μ1 s2.heap.objs.size ((xs.take i).filterMap f)) σc ∧ Ext X.K μ1 H2 (ar μ1 s2.heap.objs.size ((xs.take i).filterMap f)) Hc) ?_ xs.length
      ⟨0, bA cap σ, H3, by simp, Nat.zero_le _, I4, T.keep 0 _ _ st2 (fun b hb o e => kept3 b o (old3 b o e)), fun b hb => ?_, ?_, ?_⟩
    · rintro n s' ⟨i, σc, Hc, rfl, hi, Ic, tc, frc, Sc, Ec⟩
      have stat : ∀ {Hd : Hp}, (∀ b ∈ fp, Hd b = none) → ∀ b ∈ fp, nV (aH X N' scope cl fp s3 H3) [] Hd b := fun hn b hb =>
        ⟨hn b hb, (okc.exf b hb).1, fpst b hb, .inl hb, fun x a h => (okc.exf b hb).2 x a h, fun p hp => (f2 b hb).2.2.2.2.2 p (List.mem_append_left _ (by simpa using (show p ∈ X.pn ++ [] from hp)))⟩
      obtain ⟨go, stop⟩ := itok _ Hc Ec Sc.mu i
      by_cases hlt : i < xs.length
      · obtain ⟨g1, y1⟩ := go hlt
        refine thn (T.item (aH X N' scope cl fp s3 H3) rfl rfl rfl (fun z => z) i [] s' σc Hc (fun _ _ => False) Ic (stat frc) tc g1) fun r s4 ⟨u, hr, h4⟩ => ?_
        subst hr
        refine thn h4 fun _ s5 ⟨x, H5, I5, r5, y5, st5, fr5⟩ => ?_
        obtain ⟨d, hd, sm, rd⟩ := y1 x H5 y5
        have I5' := I5.pinned (stat fr5) (T.obj _ _ st5)
        have e5 : Ext X.K _ Hc _ H5 := .of_same (μ := ar μ1 s2.heap.objs.size ((xs.take i).filterMap f)) sm
        have S5 : St0 X.K H5 (bA cap ρ) (ar μ1 s2.heap.objs.size ((xs.take i).filterMap f)) σc := ⟨Sc.mu.wt e5 sm, Sc.rho.ext Sc.mu e5⟩
        obtain ⟨gt, pg, lg⟩ := hg fp s3 H3
        have hmem : d ∈ xs := List.mem_of_getElem? hd
        refine thn (pg _ s5 σc H5 x u (fun σ' H' => ∃ ρ' μ', Ext X.K (ar μ1 s2.heap.objs.size ((xs.take i).filterMap f)) H5 μ' H' ∧ St0 X.K H' ρ' μ' σ' ∧ Le (bA cap ρ) ρ' ∧ c ρ' μ' fun b μ3 =>
            if b = true then te ρ' μ3 fun d' μ4 => μ4 = ar μ1 s2.heap.objs.size ((xs.take i).filterMap f) ∧ (match d' with | .v y => f d = some y | _ => False) else μ3 = ar μ1 s2.heap.objs.size ((xs.take i).filterMap f) ∧ f d = none) I5' r5
          (lg σc H5 (bA cap ρ) _ (.v d) x _ _ S5 rd (body d hmem _ (sub1 _)) fun σ' ρ' μ' H' e' S' q => ⟨ρ', μ', e', S', q⟩)) fun _ s6 ⟨σ6, H6, I6, ρ6, μ6, e6, S6, le6, q6⟩ => ?_
        refine thn (hif fp s3 H3 _ s6 σ6 H6 ρ6 μ6 _ (fun b H' => ∃ μ', Ext X.K μ6 H6 μ' H' ∧ St0 X.K H' ρ6 μ' σ6 ∧ if b = true then te ρ6 μ' fun d' μ4 => μ4 = ar μ1 s2.heap.objs.size ((xs.take i).filterMap f) ∧ (match d' with | .v y => f d = some y | _ => False) else μ' = ar μ1 s2.heap.objs.size ((xs.take i).filterMap f) ∧ f d = none)
          I6 S6 q6 fun b μ' H' e' S' q => ⟨μ', e', S', q⟩) fun b s7 ⟨H7, I7, μ7, e7, S7, q7⟩ => ?_
        have again : ∀ {H9 : Hp} {s9 : Shared}, Inv (aH X N' scope cl fp s3 H3) ([] ++ jv fp s5.heap) σ6 H9 s9 → bB X.K (ar μ1 s2.heap.objs.size ((xs.take (i + 1)).filterMap f)) H9 → dU X.K (ar μ1 s2.heap.objs.size ((xs.take (i + 1)).filterMap f)) H9 (bA cap ρ) σ6 →
            Ext X.K μ1 H2 (ar μ1 s2.heap.objs.size ((xs.take (i + 1)).filterMap f)) H9 → ∃ m, m < xs.length - i ∧ ∃ (i : Nat) (σc : St) (Hc : Hp), m = xs.length - i ∧ i ≤ xs.length ∧ Inv (aH X N' scope cl fp s3 H3) [] σc Hc s9 ∧ tn i s9.heap ∧ (∀ b ∈ fp, Hc b = none) ∧
              St0 X.K Hc (bA cap ρ) (ar μ1 s2.heap.objs.size ((xs.take i).filterMap f)) σc ∧ Ext X.K μ1 H2 (ar μ1 s2.heap.objs.size ((xs.take i).filterMap f)) Hc := fun {H9 s9} I9 m9 r9 e9 => by
          refine ⟨xs.length - (i + 1), by omega, i + 1, σ6, H9, rfl, hlt, I9.gG, T.keep _ _ _ st5 fun b hb o e => (I9.pin (b, o) (List.mem_append_right _ (List.mem_append_right _ (di hb e)))).1, fun b hb => ?_, ⟨m9, r9⟩, e9⟩
          obtain ⟨o, e, _⟩ := T.obj _ _ st5 b hb
          exact (I9.pin (b, o) (List.mem_append_right _ (List.mem_append_right _ (di hb e)))).2.1
        cases b with
        | false =>
          have q8 : μ7 = ar μ1 s2.heap.objs.size ((xs.take i).filterMap f) ∧ f d = none := by simpa using q7
          refine oG ?_
          have et : (xs.take (i + 1)).filterMap f = (xs.take i).filterMap f := by rw [q9 hd, q8.2]; simp
          have eμ : ar μ1 s2.heap.objs.size ((xs.take (i + 1)).filterMap f) = μ7 := by rw [et, q8.1]
          refine again I7 (by rw [eμ]; exact S7.mu) (by rw [eμ]; exact S7.rho.le le6) ?_
          rw [eμ]
          exact Ec.trans (e5.trans (e6.trans e7))
        | true =>
          refine oi ?_
          obtain ⟨t8, p8, l8⟩ := he fp s3 H3
          refine thn (p8 _ s7 σ6 H7 (fun v H' => ∃ y, Ext X.K μ7 H7 (ar μ1 s2.heap.objs.size ((xs.take i).filterMap f)) H' ∧ St0 X.K H' ρ6 (ar μ1 s2.heap.objs.size ((xs.take i).filterMap f)) σ6 ∧ Rp X.K (ar μ1 s2.heap.objs.size ((xs.take i).filterMap f)) H' y v ∧ f d = some y) I7
            (l8 σ6 H7 ρ6 μ7 _ _ S7 (by simpa using q7) fun d' v μ8 H8 e8 S8 r8 q8 => ?_)) fun v s8 ⟨v8, H8, I8, r8, y, e8, S8, ry, fy⟩ => ?_
          · obtain ⟨rfl, q8⟩ := q8
            cases d' with
            | v y => exact ⟨y, e8, S8, r8, q8⟩
            | m _ => exact q8.elim
            | s _ => exact q8.elim
            | o _ => exact q8.elim
            | q _ => exact q8.elim
          · obtain ⟨us, hacc, rus⟩ := S8.mu s2.heap.objs.size _ aD
            have hle : ((xs.take i).filterMap f).length ≤ 1000 := Nat.le_trans (List.length_filterMap_le _ _) (Nat.le_trans (by rw [List.length_take]; exact Nat.min_le_right _ _) hxs)
            refine thn (jM (X := aH X N' scope cl fp s3 H3) _ s8 σ6 H8 (.ref s2.heap.objs.size) [v8] (.ref s2.heap.objs.size) [v] (fun _ H' => H' = upd H8 s2.heap.objs.size (.lst (us ++ [v8]))) I8 rfl (.cons r8 .nil) ⟨_, us, v8, rfl, rfl, hacc, by rw [← rus.length]; exact d9 hle, rfl⟩) fun _ s9 ⟨_, H9, I9, _, e9⟩ => ?_
            subst e9
            have et : (xs.take (i + 1)).filterMap f = (xs.take i).filterMap f ++ [y] := by rw [q9 hd, fy]; rfl
            have mset : ar (ar μ1 s2.heap.objs.size ((xs.take i).filterMap f)) s2.heap.objs.size ((xs.take (i + 1)).filterMap f) = ar μ1 s2.heap.objs.size ((xs.take (i + 1)).filterMap f) := sk
            have ex : Ext X.K (ar μ1 s2.heap.objs.size ((xs.take i).filterMap f)) H8 (ar μ1 s2.heap.objs.size ((xs.take (i + 1)).filterMap f)) (upd H8 s2.heap.objs.size (.lst (us ++ [v8]))) := by
              rw [← mset]
              exact hB aD
            refine again I9 ?_ ((S8.rho.le le6).ext S8.mu ex) (Ec.trans (e5.trans (e6.trans (e7.trans (e8.trans ex)))))
            rw [← mset]
            refine S8.mu.set aD ?_
            rw [et]
            exact rus.append (.cons ry .nil)
      · have ei : i = xs.length := by omega
        subst ei
        refine thn (T.done (aH X N' scope cl fp s3 H3) rfl rfl rfl (fun z => z) _ [] s' σc Hc (fun _ _ => False) Ic (stat frc) tc (stop rfl)) fun r s4 ⟨hr, I5⟩ => ?_
        subst hr
        rw [List.take_length] at Sc Ec
        obtain ⟨m, hn, _⟩ := I5.loc
        refine ⟨m, (by have z : s4.heap.Ns s3.heap.objs.size m := hn; rw [heap3] at z; exact z), fun h' hs' => ?_⟩
        have kp : ∀ b o, b < s2.heap.objs.size → s4.heap.get? b = some o → h'.get? b = some o := fun b o hb e => hs'.extBut b o (by rw [hsz3]; exact Nat.ne_of_lt (Nat.lt_succ_of_lt hb)) e
        have hcC : Hc hp3.objs.size = none := by have z : Hc s3.heap.objs.size = none := I5.free; rw [heap3] at z; exact z
        have hok' : HOk X.prog X.w Hc h' := fun b ob e => by
          refine (I5.hok b ob e).nU (fun cc v hcc q => hs'.extBut cc v ?_ q) (fun _ q => q) fun _ _ q => q
          rintro rfl
          rcases hcc with z | z
          · rw [← z, hcC] at e; cases e
          · rw [hcC] at z; cases z
        have u1 : Un (frs X.stack) fp H2 H3 s2.heap s3.heap := by rw [heap3, hH3]; exact Un.laid old3 (Nat.le_refl _) hfree2
        have u2 : Un (frs X.stack) fp H3 Hc s3.heap s4.heap := I5.base
        have If : Inv X pins σ Hc { s4 with heap := h' } := I2.xb (ch := fp) (by show s4.os = s2.os; have z : s4.os = s3.os := I5.os; rw [z, hs3]) (Un.after (u1.trans u2) kp) hok' I5.bare fun b hb => ⟨(f2 b hb).2.2.2.1, (f2 b hb).2.1, (f2 b hb).2.2.2.2.1, (f2 b hb).2.2.2.2.2⟩
        obtain ⟨us, hacc, rus⟩ := Sc.mu s2.heap.objs.size _ aD
        have shr : ∀ a, ar μ1 s2.heap.objs.size (xs.filterMap f) a = none → μ1 a = none := fun a e => by
          by_cases ha : a = s2.heap.objs.size
          · rw [ha]; exact hμ1
          · rw [aR ha] at e; exact e
        have eF : Ext X.K μ1 H2 μ1 Hc := ⟨Ec.keep, Ec.tb, fun _ ds q => ⟨ds, q⟩, fun _ q _ => q⟩
        have mF : bB X.K μ1 Hc := ⟨fun a ds q => by
          obtain ⟨ys, z1, z2⟩ := Sc.mu a ds (sub1 _ a ds q)
          exact ⟨ys, z1, z2.shrink shr⟩, Sc.mu.tab⟩
        exact ⟨.ref s2.heap.objs.size, Hc, If, rfl, k (.v (.list (xs.filterMap f))) _ μ1 Hc (e1.trans eF) ⟨mF, S1.rho.ext S1.mu eF⟩ (Rp.list hacc hμ1 (rus.shrink shr)) fin⟩
    · have z : b ≠ s2.heap.objs.size := Nat.ne_of_lt (fplt b hb)
      rw [hH3, aP z]
      exact (f2 b hb).1
    · have ex := gX (o := .lst []) (ds := []) S1.mu hfree2 hK2
      rw [hH3]
      exact ⟨S1.mu.mut .nil hfree2 hK2, (S1.rho.ext S1.mu ex).cap⟩
    · rw [hH3]
      exact gX (o := .lst []) (ds := []) S1.mu hfree2 hK2
  have envE : (aH X N' scope cl fp s3 H3).env = compEnvC scope cl hp3.objs.size X.env := by show compEnvC scope cl s3.heap.objs.size X.env = _; rw [heap3]
  rw [envE] at loop
  exact codeAny_compStart_list loop (T.self X.A 0 _ _ _ (T.keep 0 _ _ st2 (fun b hb o e => kept3 b o (old3 b o e))) loop)
open PySem PySem.Spec PyProof.Rows
section
variable {X : Cx} {a b c : Expr} {ta tb tc : DTE} {pos : Pos}
end
open PySem PySem.Spec PyProof.Rows
theorem mD {α : Type} {x : α} {xs : List α} : atI (x :: xs) 0 = some x := by unfold atI ixN; simp
theorem my {α : Type} {x y : α} {xs : List α} : atI (x :: y :: xs) 1 = some y := by
  have h := kf (xs := x :: y :: xs) (j := 1) (v := y) rfl
  exact h
theorem oR {α : Type} {x y z : α} {xs : List α} : atI (x :: y :: z :: xs) 2 = some z := by
  have h := kf (xs := x :: y :: z :: xs) (j := 2) (v := z) rfl
  exact h
theorem rn {α : Type} {x y z u : α} {xs : List α} : atI (x :: y :: z :: u :: xs) 3 = some u := by
  have h := kf (xs := x :: y :: z :: u :: xs) (j := 3) (v := u) rfl
  exact h
def A4 : D → D → Mu → DK → Prop := fun x y μ Q => match x, y with
  | .v (.int i), .v (.int j) => Q (.v (.int (i + j))) μ
  | .v (.tuple xs), .v (.tuple ys) => xs.length + ys.length ≤ 1000 ∧ Q (.v (.tuple (xs ++ ys))) μ
  | _, _ => w9 x y μ Q
section
variable {ρ : Rho} {μ : Mu} {Q : DK} {QT : Bool → Mu → Prop} {QA : List D → Mu → Prop} {QG : Rho → Mu → Prop} {QI : List PyData → Mu → Prop} {QO : Option Int → Mu → Prop} {Dd : oI} {ta tb tc : DTE} {t u : DTT} {tA : DTA} {s1 s2 : DTS} {i j : Int} {x y : PyData} {xs ys : List PyData} {d e : D}
noncomputable def ec : DTS := fun _ _ _ => False
theorem gP {X : Cx} {st : Stmt} : DS X st ec := ⟨fun _ _ _ => False, fun _ _ _ _ _ _ h => h.elim, fun _ _ _ _ _ _ _ h => h.elim⟩
theorem pW {o : Rho} : ae 0 (some d :: o) μ Q = Q d μ := propext Iff.rfl
theorem qw {a} {o : Rho} : ae 1 (a :: some d :: o) μ Q = Q d μ := propext Iff.rfl
theorem qs {a b} {o : Rho} : ae 2 (a :: b :: some d :: o) μ Q = Q d μ := propext Iff.rfl
theorem pN {a b c} {o : Rho} : ae 3 (a :: b :: c :: some d :: o) μ Q = Q d μ := propext Iff.rfl
theorem qq {a b c f} {o : Rho} : ae 4 (a :: b :: c :: f :: some d :: o) μ Q = Q d μ := propext Iff.rfl
theorem pB {a b c f g} {o : Rho} : ae 5 (a :: b :: c :: f :: g :: some d :: o) μ Q = Q d μ := propext Iff.rfl
theorem p7 {a b c f g h} {o : Rho} : ae 6 (a :: b :: c :: f :: g :: h :: some d :: o) μ Q = Q d μ := propext Iff.rfl
theorem qH {a b c f g h k} {o : Rho} : ae 7 (a :: b :: c :: f :: g :: h :: k :: some d :: o) μ Q = Q d μ := propext Iff.rfl
theorem q_c : dC x ρ μ Q = Q (.v x) μ := propext Iff.rfl
theorem AQ {r} : dOp r ta tb ρ μ Q = ta ρ μ fun x μ1 => tb ρ μ1 fun y μ2 => r x y μ2 Q := propext Iff.rfl
theorem q_B : dB ta ρ μ QT = ta ρ μ fun d μ1 => match d with | .v (.bool k) => QT k μ1 | _ => False := propext Iff.rfl
theorem xT {C : Int → Int → Prop} {g : Int → Int → PyData} : rII C g (.v (.int i)) (.v (.int j)) μ Q = (C i j ∧ Q (.v (g i j)) μ) := propext Iff.rfl
theorem vA {g : Int → Int → PyData} : lP g (.v (.int i)) (.v (.int j)) μ Q = Q (.v (g i j)) μ := propext Iff.rfl
theorem vc : iq ta ρ μ Q = ta ρ μ fun x μ1 => match x with | .v (.int i) => Q (.v (.int (-i))) μ1 | _ => False := propext Iff.rfl
theorem zK : kO t u ρ μ QT = t ρ μ fun c μ1 => if c = true then QT true μ1 else u ρ μ1 QT := propext Iff.rfl
theorem pM : jc t ρ μ QT = t ρ μ fun c μ1 => QT (!c) μ1 := propext Iff.rfl
theorem yx : kH ta tb ρ μ Q = ta ρ μ fun x μ1 => match x with | .v (.bool c) => if c = true then tb ρ μ1 Q else Q (.v (.bool false)) μ1 | _ => False := propext Iff.rfl
theorem qi : uX ta ρ μ Q = ta ρ μ fun x μ1 => match x with | .v (.bool c) => Q (.v (.bool (!c))) μ1 | _ => False := propext Iff.rfl
theorem vk : ao ρ μ QA = QA [] μ := propext Iff.rfl
theorem qC : ab ta tA ρ μ QA = ta ρ μ fun x μ1 => tA ρ μ1 fun xs μ2 => QA (x :: xs) μ2 := propext Iff.rfl
theorem uP : kh tA ρ μ Q = tA ρ μ fun ds μ1 => match bw ds with | some xs => Q (.v (.tuple xs)) μ1 | none => False := propext Iff.rfl
theorem uj : j2 tA ρ μ Q = tA ρ μ fun ds μ1 => match bw ds with | some xs => Q (.v (.list xs)) μ1 | none => False := propext Iff.rfl
theorem qE : n8 tA ρ μ Q = tA ρ μ fun ds μ1 => match bw ds with | some xs => ∀ p, μ1 p = none → Q (.m p) (ar μ1 p xs) | none => False := propext Iff.rfl
theorem tJ : bw [] = some [] := by rw [bw]
theorem uW {r : List D} : bw (.v x :: r) = (bw r).map (x :: ·) := by rw [bw]
theorem tX {neg : Bool} : bp neg (.v x) (.v y) μ Q = (SeqAt.shaped x = true ∧ SeqAt.shaped y = true ∧ Q (.v (.bool (neg ^^ PyData.eqv x y))) μ) := propext Iff.rfl
theorem tq {neg : Bool} : bp neg (.v (.int i)) (.v (.int j)) μ Q = Q (.v (.bool (neg ^^ decide (i = j)))) μ := by
  have e : PyData.eqv (.int i) (.int j) = decide (i = j) := by simp [PyData.eqv]; rfl
  rw [tX, e]
  exact propext ⟨fun h => h.2.2, fun h => ⟨rfl, rfl, h⟩⟩
theorem mv : bP (.v (.list xs)) (.v (.int i)) μ Q = (match atI xs i with | some d => Q (.v d) μ | none => False) := propext Iff.rfl
theorem kB : bP (.v (.tuple xs)) (.v (.int i)) μ Q = (match atI xs i with | some d => Q (.v d) μ | none => False) := propext Iff.rfl
theorem um {l : Addr} : bP (.m l) (.v (.int i)) μ Q = (match μ l with | some xs => (match atI xs i with | some d => Q (.v d) μ | none => False) | none => False) := propext Iff.rfl
theorem uI {ns : List Int} : bP (.s ns) (.v (.int i)) μ Q = (match atI ns i with | some d => Q (.v (.int d)) μ | none => False) := propext Iff.rfl
theorem pG : bP (.v (.list (x :: xs))) (.v (.int 0)) μ Q = Q (.v x) μ := by rw [mv, mD]
theorem mK : bP (.v (.tuple (x :: xs))) (.v (.int 0)) μ Q = Q (.v x) μ := by rw [kB, mD]
theorem pV {z} : bP (.v (.list (z :: x :: xs))) (.v (.int 1)) μ Q = Q (.v x) μ := by rw [mv, my]
theorem mL {z} : bP (.v (.tuple (z :: x :: xs))) (.v (.int 1)) μ Q = Q (.v x) μ := by rw [kB, my]
theorem pz {z w} : bP (.v (.list (z :: w :: x :: xs))) (.v (.int 2)) μ Q = Q (.v x) μ := by rw [mv, oR]
theorem mN {z w} : bP (.v (.tuple (z :: w :: x :: xs))) (.v (.int 2)) μ Q = Q (.v x) μ := by rw [kB, oR]
theorem qx {z w v} : bP (.v (.tuple (z :: w :: v :: x :: xs))) (.v (.int 3)) μ Q = Q (.v x) μ := by rw [kB, rn]
theorem uN : w9 d e μ Q = (match kN μ d, kN μ e with | some xs, some ys => xs.length + ys.length ≤ 1000 ∧ Q (.v (.list (xs ++ ys))) μ | _, _ => False) := propext Iff.rfl
theorem kA : gY ρ μ QO = QO none μ := propext Iff.rfl
theorem qa : gy ta ρ μ QO = ta ρ μ fun x μ1 => match x with | .v (.int i) => QO (some i) μ1 | _ => False := propext Iff.rfl
theorem AH {rd} : dCB rd tA ρ μ Q = tA ρ μ fun ds μ1 => rd ds μ1 Q := propext Iff.rfl
theorem pA : jZ [.v (.tuple ys)] μ Q = Q (.v (.int (ys.length : Nat))) μ := propext Iff.rfl
theorem qh {ns : List Int} : jZ [.s ns] μ Q = Q (.v (.int (ns.length : Nat))) μ := propext Iff.rfl
theorem uZ : hW [.v (.int i)] μ Q = Q (.v (.int (i.natAbs : Nat))) μ := propext Iff.rfl
theorem xG {g : Int → Int → Int} : o8 g [.v (.int i), .v (.int j)] μ Q = Q (.v (.int (g i j))) μ := propext Iff.rfl
theorem pU {k : Bool} : o6 [.v (.bool k)] μ Q = Q (.v (.int (if k then 1 else 0))) μ := propext Iff.rfl
theorem tN : mi [.v (.list ys)] μ Q = (match bE ys with | some bs => Q (.v (.bool (bs.all id))) μ | none => False) := propext Iff.rfl
theorem uf {T : String} : qd T ta ρ μ Q = ta ρ μ fun x μ1 => match x with | .v d => Q (.v (.bool (isT T d))) μ1 | _ => False := propext Iff.rfl
theorem ng {n : Nat} : aj n d ρ μ QG = QG (ρ.set n (some d)) μ := propext Iff.rfl
theorem qg : i9 [] ρ μ QG = QG ρ μ := propext Iff.rfl
theorem mP {g : DTG} {gs : jq} : bG g gs (x :: xs) ρ μ QG = g (.v x) ρ μ fun ρ1 μ1 => gs xs ρ1 μ1 QG := propext Iff.rfl
theorem pY {n : Nat} {gs : jq} : ic n gs (.v (.tuple xs)) ρ μ QG = (xs.length = n ∧ gs xs ρ μ QG) := propext Iff.rfl
theorem pR : rg ta tb d ρ μ QG = ta ρ μ fun o μ1 => tb ρ μ1 fun i μ2 => match o, i, d with
  | .m l, .v (.int k), .v x => (match μ2 l with
    | some xs => (match ixN xs.length k with
      | some j => QG ρ (ar μ2 l (xs.set j x))
      | none => False)
    | none => False)
  | _, _, _ => False := propext Iff.rfl
theorem zf {g : DTG} : aO ta g Dd ρ μ = ta ρ μ fun d μ1 => g d ρ μ1 Dd.nx := propext Iff.rfl
theorem uF {i j : Nat} : sU i j tA Dd ρ μ = tA ρ μ fun ds μ1 => match ds with | [v, w] => Dd.nx ((ρ.set i (some v)).set j (some w)) μ1 | _ => False := propext Iff.rfl
theorem qm : bg Dd ρ μ = Dd.nx ρ μ := propext Iff.rfl
theorem uH : az s1 s2 Dd ρ μ = s1 { Dd with nx := s2 Dd } ρ μ := propext Iff.rfl
theorem uc : bu ta Dd ρ μ = ta ρ μ Dd.rt := propext Iff.rfl
theorem qo : og ta Dd ρ μ = ta ρ μ fun _ μ1 => Dd.nx ρ μ1 := propext Iff.rfl
theorem zX : bT t s1 s2 Dd ρ μ = t ρ μ fun b μ1 => if b = true then s1 Dd ρ μ1 else s2 Dd ρ μ1 := propext Iff.rfl
theorem mQ : ec Dd ρ μ = False := propext Iff.rfl
theorem xF {dsp : DSp} : au dsp tA ρ μ Q = tA ρ μ fun ds μ1 => dsp ds μ1 Q := propext Iff.rfl
theorem tS : vR ta tb ρ μ Q = ta ρ μ fun x μ1 => match x with
  | .m l => tb ρ μ1 fun y μ2 => (match y, μ2 l with
    | .v d, some xs => xs.length < 1000 ∧ Q (.v .none) (ar μ2 l (xs ++ [d]))
    | _, _ => False)
  | _ => False := propext Iff.rfl
theorem qc : oE ρ μ QT = QT true μ := propext Iff.rfl
theorem nW : u3 ta ρ μ QI = ta ρ μ fun d μ1 => match d with | .v (.tuple xs) => QI xs μ1 | _ => False := propext Iff.rfl
theorem lh : ip tA ρ μ QI = tA ρ μ fun ds μ1 => match ds with | [.v (.int j)] => (-(2 ^ 62) ≤ j ∧ j < 2 ^ 62) ∧ QI (lX 0 j.toNat) μ1 | _ => False := propext Iff.rfl
theorem rV {src : DTI} {g : DTG} : sV src g s1 Dd ρ μ = src ρ μ fun xs μ1 => ∃ Pv : Nat → Rho → Mu → Prop, Pv 0 ρ μ1 ∧
  (∀ i x ρ' μ', xs[i]? = some x → Pv i ρ' μ' → g (.v x) ρ' μ' fun ρ2 μ2 => s1 { Dd with nx := Pv (i + 1), ct := Pv (i + 1), bk := Dd.nx } ρ2 μ2) ∧ (∀ ρ' μ', Pv xs.length ρ' μ' → Dd.nx ρ' μ') := propext Iff.rfl
theorem vg {cap : List (Option Nat)} {src : DTI} {g : DTG} : rG cap src g t ta ρ μ Q = src ρ μ fun xs μ1 => xs.length ≤ 1000 ∧ ∃ f : PyData → Option PyData,
  (∀ x ∈ xs, ∀ μ' : Mu, (∀ a ds, μ1 a = some ds → μ' a = some ds) → g (.v x) (bA cap ρ) μ' fun ρ2 μ2 => Le (bA cap ρ) ρ2 ∧ t ρ2 μ2 fun b μ3 =>
    if b = true then ta ρ2 μ3 fun d μ4 => μ4 = μ' ∧ (match d with | .v y => f x = some y | _ => False) else μ3 = μ' ∧ f x = none) ∧ Q (.v (.list (xs.filterMap f))) μ1 := propext Iff.rfl
theorem p6 {α : Type} {r : List (Option α)} : bA [] r = [] := rfl
theorem pC {α : Type} {o : Option Nat} {c : List (Option Nat)} {r : List (Option α)} : bA (o :: c) r = (o.bind fun j => (r[j]?).join) :: bA c r := rfl
theorem va : Le [] [] = True := propext ⟨fun _ => trivial, fun h => h⟩
theorem uh {r r' : Rho} {o : Option D} : Le (none :: r) (o :: r') = Le r r' := propext Iff.rfl
theorem ur {r r' : Rho} {d d' : D} : Le (some d :: r) (some d' :: r') = (d = d' ∧ Le r r') := propext Iff.rfl
theorem gT {α : Type} (p : α → Bool) : ∀ xs : List α, bE (xs.map fun x => PyData.bool (p x)) = some (xs.map p)
  | [] => rfl
  | x :: r => by rw [List.map_cons, bE, gT p r]; rfl
theorem rm {α β : Type} (p : α → β) : ∀ xs : List α, xs.filterMap (fun x => some (p x)) = xs.map p
  | [] => rfl
  | x :: r => by rw [List.filterMap_cons, rm p r]; rfl
theorem wZ : lC t s1 Dd ρ μ = (∃ W : Nat → Rho → Mu → Prop, (∃ m, W m ρ μ) ∧ ∀ m ρ μ, W m ρ μ →
  t ρ μ fun b μ1 => if b = true then s1 { Dd with nx := fun ρ' μ' => ∃ m', m' < m ∧ W m' ρ' μ', ct := fun ρ' μ' => ∃ m', m' < m ∧ W m' ρ' μ', bk := Dd.nx } ρ μ1 else Dd.nx ρ μ1) := propext Iff.rfl
end
theorem uu {α β : Type} [BEq α] [LawfulBEq α] {x : α} {k : β} : ∀ {l : List (α × β)}, l.lookup x = some k → (x, k) ∈ l
  | [], h => by cases h
  | (y, j) :: r, h => by
    rw [List.lookup_cons] at h
    cases e : x == y with
    | true =>
      rw [e] at h
      simp only [Option.some.injEq] at h
      have : x = y := eq_of_beq e
      subst this h
      exact List.mem_cons_self
    | false =>
      rw [e] at h
      exact List.mem_cons_of_mem _ (uu h)
def cfK : NameKind → Bool
  | .cell => true
  | .free => true
  | _ => false
theorem pX {names : List (Str × NameKind)} {cl : List (Str × Addr)} (h : (names.all fun y => !(cfK y.2) || (cl.lookup y.1).isSome) = true) (x : Str) (hx : names.lookup x = some .cell ∨ names.lookup x = some .free) : ∃ a, cl.lookup x = some a := by
  rw [List.all_eq_true] at h
  have key : ∀ k, cfK k = true → names.lookup x = some k → ∃ a, cl.lookup x = some a := fun k hk e => by
    have q := h _ (uu e)
    simp only [hk, Bool.not_true, Bool.false_or] at q
    exact Option.isSome_iff_exists.mp q
  rcases hx with e | e
  · exact key _ rfl e
  · exact key _ rfl e
def vj (X : Cx) (sc : Scope) : List (Option Nat) → List Str → Prop
  | none :: c, _ :: n => vj X sc c n
  | some j :: c, x :: n => (X.N[j]? = some x ∧ Vis X.env.scope x ∧ X.env.kindOf x ≠ some .local ∧ ((relabel sc X.env).names.lookup x = some .cell ∨ (relabel sc X.env).names.lookup x = some .free)) ∧ vj X sc c n
  | _, _ => True
theorem kq {X : Cx} {sc : Scope} : ∀ {c : List (Option Nat)} {n : List Str}, vj X sc c n → ∀ (i j : Nat) (x : Str), c[i]? = some (some j) → n[i]? = some x →
    X.N[j]? = some x ∧ Vis X.env.scope x ∧ X.env.kindOf x ≠ some .local ∧ ((relabel sc X.env).names.lookup x = some .cell ∨ (relabel sc X.env).names.lookup x = some .free)
  | [], _, _, i, j, x, h, _ => by simp at h
  | _ :: _, [], _, i, j, x, _, h => by simp at h
  | none :: c, y :: n, k, 0, j, x, h, _ => by simp at h
  | none :: c, y :: n, k, i + 1, j, x, h, g => kq (c := c) (n := n) k i j x (by simpa using h) (by simpa using g)
  | some l :: c, y :: n, k, 0, j, x, h, g => by
    simp only [List.getElem?_cons_zero, Option.some.injEq] at h g
    subst h g
    exact k.1
  | some l :: c, y :: n, k, i + 1, j, x, h, g => kq (c := c) (n := n) k.2 i j x (by simpa using h) (by simpa using g)
theorem zM {X : Cx} {sc : Scope} {j : Nat} {x : Str} (h1 : X.N[j]? = some x := by rfl) (h2 : Vis X.env.scope x := by first | exact Or.inl rfl | exact Or.inr (Or.inl rfl) | exact Or.inr (Or.inr rfl)) (h3 : X.env.kindOf x ≠ some .local := by first | (intro z; cases z) | exact (fun z => nomatch z))
    (h4 : (relabel sc X.env).names.lookup x = some .cell ∨ (relabel sc X.env).names.lookup x = some .free := by first | exact Or.inl rfl | exact Or.inr rfl) : X.N[j]? = some x ∧ Vis X.env.scope x ∧ X.env.kindOf x ≠ some .local ∧ ((relabel sc X.env).names.lookup x = some .cell ∨ (relabel sc X.env).names.lookup x = some .free) := ⟨h1, h2, h3, h4⟩
open PySem PySem.Spec PyProof.Rows
def dW (μ : Mu) (p : Addr) : Mu := fun b => if b = p then none else μ b
theorem oH {μ : Mu} {p b : Addr} (h : b ≠ p) : dW μ p b = μ b := by unfold dW; rw [if_neg h]
noncomputable def ni (cap : List (Option Nat)) (src : DTI) (g : DTG) (c : DTT) (elt : DTE) : DTE := fun ρ μ Q => src ρ μ fun xs μ1 => xs.length ≤ 1000 ∧ ∀ p, μ1 p = none → ∃ Pv : Nat → List PyData → Mu → Prop, Pv 0 [] (ar μ1 p []) ∧
  (∀ i x acc μ', xs[i]? = some x → μ' p = some acc → Pv i acc μ' → g (.v x) (bA cap ρ) μ' fun ρ2 μ2 => Le (bA cap ρ) ρ2 ∧ c ρ2 μ2 fun b μ3 =>
    if b = true then elt ρ2 μ3 fun d μ4 => μ4 p = some acc ∧ (match d with | .v y => Pv (i + 1) (acc ++ [y]) (ar μ4 p (acc ++ [y])) | _ => False) else μ3 p = some acc ∧ Pv (i + 1) acc μ3) ∧
  (∀ acc μ', Pv xs.length acc μ' → μ' p = some acc → Q (.v (.list acc)) (dW μ' p))
theorem sA {X : Cx} {pos2 : Pos} {use : Option (Value → Sem Unit)} {QQ : Value → Shared → Prop} {pins : List (Addr × Obj)} {s : Shared} {σ : St} {H : Hp} {ρ : Rho} {μ : Mu} {Qd : DK} {N' : List Str} {scope : Scope} {cl : List (Str × Addr)} {elt iter tg : Expr} {ifs : List Expr} {pos : Pos} {cap : List (Option Nat)} {src : DTI} {g : DTG} {c : DTT} {te : DTE} (hc : X.calm = X.calm)
    (hi : DI X tg iter src) (hg : ∀ fp s₃ H₃, DG (aH X N' scope cl fp s₃ H₃) tg g) (hif : ∀ fp s₃ H₃, vG (aH X N' scope cl fp s₃ H₃) ifs c) (he : ∀ fp s₃ H₃, DE (aH X N' scope cl fp s₃ H₃) elt te)
    (hclos : closureFor scope X.env = pure cl) (hcell : ∀ y ∈ scope.names, y.2 ≠ .cell) (hkind : scope.kind = .function) (hnames : ∀ y ∈ scope.names, y.2 = .local → scope.names.lookup y.1 = some .local)
    (hcl : ∀ x a, cl.lookup x = some a → X.env.cells.lookup x = some a) (hhas : ∀ x, (relabel scope X.env).names.lookup x = some .cell ∨ (relabel scope X.env).names.lookup x = some .free → ∃ a, cl.lookup x = some a)
    (hlen : cap.length = N'.length) (hcap : ∀ (i j : Nat) (x : Str), cap[i]? = some (some j) → N'[i]? = some x → X.N[j]? = some x ∧ Vis X.env.scope x ∧ X.env.kindOf x ≠ some .local ∧ ((relabel scope X.env).names.lookup x = some .cell ∨ (relabel scope X.env).names.lookup x = some .free))
    (hs : ∀ x, foldedSetIterable iter X.env x = pure x )
    (I : Inv X pins σ H s) (S : St0 X.K H ρ μ σ) (h : ni cap src g c te ρ μ Qd)
    (hend : ∀ (s4 : Shared) (Hc : Hp) (C pa : Addr) (m : Str → Option Value) (acc : List PyData) (μF : Mu), s4.heap.Ns C m → nV X pins Hc C → (∀ h', Heap.SameBut C s4.heap h' → Inv X pins σ Hc { s4 with heap := h' }) →
      Ext X.K μ H μF Hc → St0 X.K Hc ρ μF σ → Rp X.K μF Hc (.list acc) (.ref pa) → Qd (.v (.list acc)) μF → compPost (model X.prog X.w) X.A X.xe use QQ (.ref pa) C (.ok .next) s4) :
    wpAny (model X.prog X.w) X.A (comprehension (.ListComp elt [⟨tg, iter, ifs, 0⟩] scope pos) scope X.env pos2 (newList []) false (eval iter X.env) use) QQ X.xe s := by
  obtain ⟨wi, pw, li⟩ := hi
  refine wpAny_comprehension_free rfl hs hclos hkind hnames (thn (pw pins s σ H _ I (li σ H ρ μ _ (fun J H1 => ∃ xs μ1, Ext X.K μ H μ1 H1 ∧ St0 X.K H1 ρ μ1 σ ∧ vE X.K J xs μ1 H1 ∧ xs.length ≤ 1000 ∧ ∀ p, μ1 p = none → ∃ Pv : Nat → List PyData → Mu → Prop, Pv 0 [] (ar μ1 p []) ∧
      (∀ i x acc μ', xs[i]? = some x → μ' p = some acc → Pv i acc μ' → g (.v x) (bA cap ρ) μ' fun ρ2 μ2 => Le (bA cap ρ) ρ2 ∧ c ρ2 μ2 fun b μ3 =>
        if b = true then te ρ2 μ3 fun d μ4 => μ4 p = some acc ∧ (match d with | .v y => Pv (i + 1) (acc ++ [y]) (ar μ4 p (acc ++ [y])) | _ => False) else μ3 p = some acc ∧ Pv (i + 1) acc μ3) ∧
      (∀ acc μ', Pv xs.length acc μ' → μ' p = some acc → Qd (.v (.list acc)) (dW μ' p))) S h (fun xs μ1 H1 J e1 S1 it q => ⟨xs, μ1, e1, S1, it, q⟩)))
    fun v s1 h1 => thn h1 fun itv s2 h2 => ?_)
  obtain ⟨it, fp, tn, J, H2, rfl, I2, T, st2, f2, xs, μ1, e1, S1, itok, hxs, allp⟩ := h2
  refine wpAny_newObj_type (wpAny_newFunctionEnv hcell (by intro y hy; simp at hy) (fun h₁ hns₁ hsb₁ => ?_) hkind)
  dsimp only at hns₁ hsb₁ ⊢
  have hfree2 : H2 s2.heap.objs.size = none := I2.hok.fresh (Nat.le_refl _)
  have hK2 : X.K.lookup s2.heap.objs.size = none := by
    cases z : X.K.lookup s2.heap.objs.size with
    | none => rfl
    | some o => exact absurd (Heap.lt_size (I2.kIn _ _ z)) (Nat.lt_irrefl _)
  have I3 : Inv X pins σ (upd H2 s2.heap.objs.size (.lst [])) { s2 with heap := s2.heap.push { cls := .type "list", dict := none, data := .seq ([] : List Value).toArray } } :=
    I2.laid (t' := s2.toks) (fun b u e => Heap.get?_push_of_some _ e) (Nat.le_refl _) ⟨Nat.zero_le _, [], 0, .nil, Heap.get?_push_size _ rfl⟩
  generalize hH : s2.heap.push { cls := .type "list", dict := none, data := .seq ([] : List Value).toArray } = hp3 at hns₁ hsb₁ I3 ⊢
  have hsz3 : hp3.objs.size = s2.heap.objs.size + 1 := by rw [← hH, Heap.size_push]
  have kept3 : ∀ b o, hp3.get? b = some o → h₁.get? b = some o := fun b o e => hsb₁.extBut b o (Nat.ne_of_lt (Heap.lt_size e)) (Heap.get?_push_of_some _ e)
  have old3 : ∀ b o, s2.heap.get? b = some o → hp3.get? b = some o := fun b o e => by rw [← hH]; exact Heap.get?_push_of_some _ e
  have fplt : ∀ b ∈ fp, b < s2.heap.objs.size := fun b hb => by obtain ⟨o, e, _⟩ := T.obj 0 _ st2 b hb; exact Heap.lt_size e
  have fpst : ∀ b ∈ fp, b ∉ frs X.stack := fun b hb hz => by
    rcases List.mem_cons.mp (I2.jF b hz) with e | e
    · exact (f2 b hb).2.1 e
    · exact (f2 b hb).2.2.1 e
  obtain ⟨s3, hs3⟩ : ∃ s3 : Shared, s3 = { s2 with heap := hp3 } := ⟨_, rfl⟩
  obtain ⟨H3, hH3⟩ : ∃ H3 : Hp, H3 = upd H2 s2.heap.objs.size (.lst []) := ⟨_, rfl⟩
  have heap3 : s3.heap = hp3 := by rw [hs3]
  rw [← hH3] at I3
  have I3' : Inv X pins σ H3 s3 := by rw [hs3]; exact I3
  have hloc : H3 hp3.objs.size = none := by have := I3'.hok.fresh (a := hp3.objs.size) (by rw [heap3]; exact Nat.le_refl _); exact this
  have okc : (aH X N' scope cl fp s3 H3).Ok := by
    refine ⟨I3.ok.mod, ?_, I3.ok.glob, I3.ok.blt, Nat.le_refl _, fun x y a h1 h2 => I3.ok.inj x y a (hcl x a h1) (hcl y a h2), fun x hx => hhas x hx, fun x a h => (nomatch h), I3.ok.hd, I3.ok.qt, I3.ok.frames, .inl rfl, fun b hb => ⟨?_, fun x a h => (f2 b hb).2.2.2.2.1 x a (hcl x a h)⟩,
      I3'.bs, Nat.le_trans I3.ok.bsz I3'.sz, fun b o e hb => ?_, fun b hb => fpst b hb, I3'.stack, I3'.nK⟩
    · exact hkind
    · show b ≠ s3.heap.objs.size
      rw [heap3, hsz3]
      exact Nat.ne_of_lt (Nat.lt_succ_of_lt (fplt b hb))
    · rcases (f2 b hb).2.2.2.1 with z | z
      · exact I3.ok.sM b o e z
      · exact absurd (Nat.lt_of_lt_of_le (Heap.lt_size (I3.ok.bs b o e).1) z) (Nat.lt_irrefl _)
  have I4 : Inv (aH X N' scope cl fp s3 H3) [] (bA cap σ) H3 { s2 with heap := h₁, toks := s2.toks + ([] : List (Str × Value)).length } := by
    refine ⟨okc, by show s2.os = s3.os; rw [hs3], I3.bare, Un.kept (by show ∀ b o, s3.heap.get? b = some o → _; rw [heap3]; exact kept3), ⟨_, (by show h₁.Ns s3.heap.objs.size _; rw [heap3]; exact hns₁), fun i x v e1 e2 e3 => ?_⟩, fun x a h => ?_, (by show H3 s3.heap.objs.size = none; rw [heap3]; exact hloc), fun x a h => I3.gW x a (hcl x a h), fun p hp => ?_, I3.hok.kept kept3, ?_⟩
    · obtain ⟨j, h1, h2⟩ := lA e2
      obtain ⟨hN, hv, hnl, hk⟩ := hcap i j x h1 e1
      obtain ⟨m, _, hl⟩ := I3.loc
      obtain ⟨u, r, lk⟩ := hl j x v hN h2 hv
      refine ⟨u, r, .inr ⟨hk, ?_⟩⟩
      obtain ⟨a, ha⟩ := hhas x hk
      rcases lk with ⟨z, _⟩ | ⟨_, a', z1, z2⟩
      · exact absurd z hnl
      · have : a' = a := by have q := hcl x a ha; rw [z1] at q; exact Option.some.inj q
        subst this
        obtain ⟨o, ho, hd⟩ := z2
        exact ⟨a', ha, o, kept3 _ _ ho, hd⟩
    · obtain ⟨v, o, ho, hd⟩ := I3.cell x a (hcl x a h)
      exact ⟨v, o, kept3 _ _ ho, hd⟩
    · have hp' : p ∈ X.pn ++ pins := List.mem_append_left _ (by simpa using (show p ∈ X.pn ++ [] from hp))
      obtain ⟨z1, z2, z3, z4, z5⟩ := I3'.pin p hp'
      refine ⟨kept3 _ _ (by rw [← heap3]; exact z1), z2, (show p.1 ≠ s3.heap.objs.size from Nat.ne_of_lt (Heap.lt_size z1)), fun z => ?_, z5⟩
      rcases List.mem_cons.mp (I3'.jF p.1 z) with e | e
      · exact z3 e
      · exact z4 e
    · show (bA cap σ).length = N'.length
      unfold bA
      rw [List.length_map]
      exact hlen
  have hμ1 : μ1 s2.heap.objs.size = none := S1.mu.free hfree2
  obtain ⟨Pv, pv0, body, fin⟩ := allp s2.heap.objs.size hμ1
  have loop : codeAny (model X.prog X.w) X.A (.compLoop (.ListComp elt [⟨tg, iter, ifs, 0⟩] scope pos) 0 (.ref it) (.ref s2.heap.objs.size) (aH X N' scope cl fp s3 H3).env)
      (compPost (model X.prog X.w) X.A X.xe use QQ (.ref s2.heap.objs.size) hp3.objs.size) { s2 with heap := h₁, toks := s2.toks + ([] : List (Str × Value)).length } := by
    refine eK (fun n s' => ∃ (i : Nat) (σc : St) (Hc : Hp) (acc : List PyData) (μc : Mu), n = xs.length - i ∧ i ≤ xs.length ∧ Inv (aH X N' scope cl fp s3 H3) [] σc Hc s' ∧ tn i s'.heap ∧ (∀ b ∈ fp, Hc b = none) ∧
      acc.length ≤ i ∧ μc s2.heap.objs.size = some acc ∧ Pv i acc μc ∧ St0 X.K Hc (bA cap ρ) μc σc ∧ Ext X.K μ1 H2 μc Hc) ?_ xs.length
      ⟨0, bA cap σ, H3, [], ar μ1 s2.heap.objs.size [], by simp, Nat.zero_le _, I4, T.keep 0 _ _ st2 (fun b hb o e => kept3 b o (old3 b o e)), fun b hb => ?_, Nat.le_refl _, aD, pv0, ?_, ?_⟩
    · rintro n s' ⟨i, σc, Hc, acc, μc, rfl, hi, Ic, tc, frc, hal, hpa, pvi, Sc, Ec⟩
      have stat : ∀ {Hd : Hp}, (∀ b ∈ fp, Hd b = none) → ∀ b ∈ fp, nV (aH X N' scope cl fp s3 H3) [] Hd b := fun hn b hb =>
        ⟨hn b hb, (okc.exf b hb).1, fpst b hb, .inl hb, fun x a h => (okc.exf b hb).2 x a h, fun p hp => (f2 b hb).2.2.2.2.2 p (List.mem_append_left _ (by simpa using (show p ∈ X.pn ++ [] from hp)))⟩
      obtain ⟨go, stop⟩ := itok _ Hc Ec Sc.mu i
      by_cases hlt : i < xs.length
      · obtain ⟨g1, y1⟩ := go hlt
        refine thn (T.item (aH X N' scope cl fp s3 H3) rfl rfl rfl (fun z => z) i [] s' σc Hc (fun _ _ => False) Ic (stat frc) tc g1) fun r s4 ⟨u, hr, h4⟩ => ?_
        subst hr
        refine thn h4 fun _ s5 ⟨x, H5, I5, r5, y5, st5, fr5⟩ => ?_
        obtain ⟨d, hd, sm, rd⟩ := y1 x H5 y5
        have I5' := I5.pinned (stat fr5) (T.obj _ _ st5)
        have e5 : Ext X.K _ Hc _ H5 := .of_same (μ := μc) sm
        have S5 : St0 X.K H5 (bA cap ρ) μc σc := ⟨Sc.mu.wt e5 sm, Sc.rho.ext Sc.mu e5⟩
        obtain ⟨gt, pg, lg⟩ := hg fp s3 H3
        refine thn (pg _ s5 σc H5 x u (fun σ' H' => ∃ ρ' μ', Ext X.K μc H5 μ' H' ∧ St0 X.K H' ρ' μ' σ' ∧ Le (bA cap ρ) ρ' ∧ c ρ' μ' fun b μ3 =>
            if b = true then te ρ' μ3 fun d' μ4 => μ4 s2.heap.objs.size = some acc ∧ (match d' with | .v y => Pv (i + 1) (acc ++ [y]) (ar μ4 s2.heap.objs.size (acc ++ [y])) | _ => False) else μ3 s2.heap.objs.size = some acc ∧ Pv (i + 1) acc μ3) I5' r5
          (lg σc H5 (bA cap ρ) _ (.v d) x _ _ S5 rd (body i d acc μc hd hpa pvi) fun σ' ρ' μ' H' e' S' q => ⟨ρ', μ', e', S', q⟩)) fun _ s6 ⟨σ6, H6, I6, ρ6, μ6, e6, S6, le6, q6⟩ => ?_
        refine thn (hif fp s3 H3 _ s6 σ6 H6 ρ6 μ6 _ (fun b H' => ∃ μ', Ext X.K μ6 H6 μ' H' ∧ St0 X.K H' ρ6 μ' σ6 ∧ if b = true then te ρ6 μ' fun d' μ4 => μ4 s2.heap.objs.size = some acc ∧ (match d' with | .v y => Pv (i + 1) (acc ++ [y]) (ar μ4 s2.heap.objs.size (acc ++ [y])) | _ => False) else μ' s2.heap.objs.size = some acc ∧ Pv (i + 1) acc μ')
          I6 S6 q6 fun b μ' H' e' S' q => ⟨μ', e', S', q⟩) fun b s7 ⟨H7, I7, μ7, e7, S7, q7⟩ => ?_
        have again : ∀ {H9 : Hp} {s9 : Shared} {acc' : List PyData} {μ9 : Mu}, Inv (aH X N' scope cl fp s3 H3) ([] ++ jv fp s5.heap) σ6 H9 s9 → acc'.length ≤ i + 1 → μ9 s2.heap.objs.size = some acc' → Pv (i + 1) acc' μ9 → bB X.K μ9 H9 → dU X.K μ9 H9 (bA cap ρ) σ6 →
            Ext X.K μ1 H2 μ9 H9 → ∃ m, m < xs.length - i ∧ ∃ (i : Nat) (σc : St) (Hc : Hp) (acc : List PyData) (μc : Mu), m = xs.length - i ∧ i ≤ xs.length ∧ Inv (aH X N' scope cl fp s3 H3) [] σc Hc s9 ∧ tn i s9.heap ∧ (∀ b ∈ fp, Hc b = none) ∧
              acc.length ≤ i ∧ μc s2.heap.objs.size = some acc ∧ Pv i acc μc ∧ St0 X.K Hc (bA cap ρ) μc σc ∧ Ext X.K μ1 H2 μc Hc := fun {H9 s9 acc' μ9} I9 l9 p9 v9 m9 r9 e9 => by
          refine ⟨xs.length - (i + 1), by omega, i + 1, σ6, H9, acc', μ9, rfl, hlt, I9.gG, T.keep _ _ _ st5 fun b hb o e => (I9.pin (b, o) (List.mem_append_right _ (List.mem_append_right _ (di hb e)))).1, fun b hb => ?_, l9, p9, v9, ⟨m9, r9⟩, e9⟩
          obtain ⟨o, e, _⟩ := T.obj _ _ st5 b hb
          exact (I9.pin (b, o) (List.mem_append_right _ (List.mem_append_right _ (di hb e)))).2.1
        cases b with
        | false =>
          have q8 : μ7 s2.heap.objs.size = some acc ∧ Pv (i + 1) acc μ7 := by simpa using q7
          refine oG ?_
          exact again I7 (by omega) q8.1 q8.2 S7.mu (S7.rho.le le6) (Ec.trans (e5.trans (e6.trans e7)))
        | true =>
          refine oi ?_
          obtain ⟨t8, p8, l8⟩ := he fp s3 H3
          refine thn (p8 _ s7 σ6 H7 (fun v H' => ∃ y μ8, Ext X.K μ7 H7 μ8 H' ∧ St0 X.K H' ρ6 μ8 σ6 ∧ Rp X.K μ8 H' y v ∧ μ8 s2.heap.objs.size = some acc ∧ Pv (i + 1) (acc ++ [y]) (ar μ8 s2.heap.objs.size (acc ++ [y]))) I7
            (l8 σ6 H7 ρ6 μ7 _ _ S7 (by simpa using q7) fun d' v μ8 H8 e8 S8 r8 q8 => ?_)) fun v s8 ⟨v8, H8, I8, r8, y, μ8, e8, S8, ry, pa8, fy⟩ => ?_
          · obtain ⟨q80, q8⟩ := q8
            cases d' with
            | v y => exact ⟨y, μ8, e8, S8, r8, q80, q8⟩
            | m _ => exact q8.elim
            | s _ => exact q8.elim
            | o _ => exact q8.elim
            | q _ => exact q8.elim
          · obtain ⟨us, hacc, rus⟩ := S8.mu s2.heap.objs.size _ pa8
            have hle : acc.length ≤ 1000 := by omega
            refine thn (jM (X := aH X N' scope cl fp s3 H3) _ s8 σ6 H8 (.ref s2.heap.objs.size) [v8] (.ref s2.heap.objs.size) [v] (fun _ H' => H' = upd H8 s2.heap.objs.size (.lst (us ++ [v8]))) I8 rfl (.cons r8 .nil) ⟨_, us, v8, rfl, rfl, hacc, by rw [← rus.length]; exact d9 hle, rfl⟩) fun _ s9 ⟨_, H9, I9, _, e9⟩ => ?_
            subst e9
            have ex : Ext X.K μ8 H8 (ar μ8 s2.heap.objs.size (acc ++ [y])) (upd H8 s2.heap.objs.size (.lst (us ++ [v8]))) := hB pa8
            exact again I9 (by rw [List.length_append, List.length_singleton]; omega) aD fy (S8.mu.set pa8 (rus.append (.cons ry .nil))) ((S8.rho.le le6).ext S8.mu ex) (Ec.trans (e5.trans (e6.trans (e7.trans (e8.trans ex)))))
      · have ei : i = xs.length := by omega
        subst ei
        refine thn (T.done (aH X N' scope cl fp s3 H3) rfl rfl rfl (fun z => z) _ [] s' σc Hc (fun _ _ => False) Ic (stat frc) tc (stop rfl)) fun r s4 ⟨hr, I5⟩ => ?_
        subst hr
        obtain ⟨m, hn, _⟩ := I5.loc
        have hcC : Hc hp3.objs.size = none := by have z : Hc s3.heap.objs.size = none := I5.free; rw [heap3] at z; exact z
        obtain ⟨us, hacc, rus⟩ := Sc.mu s2.heap.objs.size _ hpa
        have shr : ∀ a, μc a = none → dW μc s2.heap.objs.size a = none := fun a e => by
          unfold dW
          split
          · rfl
          · exact e
        have dne : ∀ a ds, dW μc s2.heap.objs.size a = some ds → μc a = some ds := fun a ds e => by
          unfold dW at e
          split at e
          · cases e
          · exact e
        have eF : Ext X.K μ1 H2 (dW μc s2.heap.objs.size) Hc := by
          refine ⟨Ec.keep, Ec.tb, fun b ds q => ?_, fun b q z => shr b (Ec.fresh b q z)⟩
          obtain ⟨es, q2⟩ := Ec.dom b ds q
          have : b ≠ s2.heap.objs.size := fun z => by rw [z, hμ1] at q; cases q
          exact ⟨es, by unfold dW; rw [if_neg this]; exact q2⟩
        have mF : bB X.K (dW μc s2.heap.objs.size) Hc := ⟨fun a ds q => by
          obtain ⟨ys, z1, z2⟩ := Sc.mu a ds (dne a ds q)
          exact ⟨ys, z1, z2.shrink shr⟩, Sc.mu.tab⟩
        refine hend s4 Hc hp3.objs.size s2.heap.objs.size m acc (dW μc s2.heap.objs.size) (by have z : s4.heap.Ns s3.heap.objs.size m := hn; rw [heap3] at z; exact z) (I2.u6 (by rw [hsz3]; exact Nat.le_succ _) hcC) (fun h' hs' => ?_) (e1.trans eF) ⟨mF, S1.rho.ext S1.mu eF⟩ (Rp.list hacc (by unfold dW; rw [if_pos rfl]) (rus.shrink shr)) (fin acc μc pvi hpa)
        have kp : ∀ b o, b < s2.heap.objs.size → s4.heap.get? b = some o → h'.get? b = some o := fun b o hb e => hs'.extBut b o (by rw [hsz3]; exact Nat.ne_of_lt (Nat.lt_succ_of_lt hb)) e
        have hok' : HOk X.prog X.w Hc h' := fun b ob e => by
          refine (I5.hok b ob e).nU (fun cc v hcc q => hs'.extBut cc v ?_ q) (fun _ q => q) fun _ _ q => q
          rintro rfl
          rcases hcc with z | z
          · rw [← z, hcC] at e; cases e
          · rw [hcC] at z; cases z
        have u1 : Un (frs X.stack) fp H2 H3 s2.heap s3.heap := by rw [heap3, hH3]; exact Un.laid old3 (Nat.le_refl _) hfree2
        have u2 : Un (frs X.stack) fp H3 Hc s3.heap s4.heap := I5.base
        exact I2.xb (ch := fp) (by show s4.os = s2.os; have z : s4.os = s3.os := I5.os; rw [z, hs3]) (Un.after (u1.trans u2) kp) hok' I5.bare fun b hb => ⟨(f2 b hb).2.2.2.1, (f2 b hb).2.1, (f2 b hb).2.2.2.2.1, (f2 b hb).2.2.2.2.2⟩
    · have z : b ≠ s2.heap.objs.size := Nat.ne_of_lt (fplt b hb)
      rw [hH3, aP z]
      exact (f2 b hb).1
    · have ex := gX (o := .lst []) (ds := []) S1.mu hfree2 hK2
      rw [hH3]
      exact ⟨S1.mu.mut .nil hfree2 hK2, (S1.rho.ext S1.mu ex).cap⟩
    · rw [hH3]
      exact gX (o := .lst []) (ds := []) S1.mu hfree2 hK2
  have envE : (aH X N' scope cl fp s3 H3).env = compEnvC scope cl hp3.objs.size X.env := by show compEnvC scope cl s3.heap.objs.size X.env = _; rw [heap3]
  rw [envE] at loop
  exact codeAny_compStart_list loop (T.self X.A 0 _ _ _ (T.keep 0 _ _ st2 (fun b hb o e => kept3 b o (old3 b o e))) loop)
theorem tO {X : Cx} {N' : List Str} {scope : Scope} {cl : List (Str × Addr)} {elt iter tg : Expr} {ifs : List Expr} {pos : Pos} {cap : List (Option Nat)} {src : DTI} {g : DTG} {c : DTT} {te : DTE} (hc : X.calm = X.calm)
    (hi : DI X tg iter src) (hg : ∀ fp s₃ H₃, DG (aH X N' scope cl fp s₃ H₃) tg g) (hif : ∀ fp s₃ H₃, vG (aH X N' scope cl fp s₃ H₃) ifs c) (he : ∀ fp s₃ H₃, DE (aH X N' scope cl fp s₃ H₃) elt te)
    (hclos : closureFor scope X.env = pure cl) (hcell : ∀ y ∈ scope.names, y.2 ≠ .cell) (hkind : scope.kind = .function) (hnames : ∀ y ∈ scope.names, y.2 = .local → scope.names.lookup y.1 = some .local)
    (hcl : ∀ x a, cl.lookup x = some a → X.env.cells.lookup x = some a) (hhas : ∀ x, (relabel scope X.env).names.lookup x = some .cell ∨ (relabel scope X.env).names.lookup x = some .free → ∃ a, cl.lookup x = some a)
    (hlen : cap.length = N'.length) (hcap : ∀ (i j : Nat) (x : Str), cap[i]? = some (some j) → N'[i]? = some x → X.N[j]? = some x ∧ Vis X.env.scope x ∧ X.env.kindOf x ≠ some .local ∧ ((relabel scope X.env).names.lookup x = some .cell ∨ (relabel scope X.env).names.lookup x = some .free))
    (hs : ∀ x, foldedSetIterable iter X.env x = pure x := by intro _; rfl) : DE X (.ListComp elt [⟨tg, iter, ifs, 0⟩] scope pos) (ni cap src g c te) := by
  refine xn fun pins s σ H ρ μ Qd Q I S h k => ?_
  rw [eval_ListComp]
  refine sA hc hi hg hif he hclos hcell hkind hnames hcl hhas hlen hcap hs I S h fun s4 Hc C pa m acc μF hn _ hI e1 S1 r q => ?_
  exact ⟨m, hn, fun h' hs' => ⟨.ref pa, Hc, hI h' hs', rfl, k (.v (.list acc)) _ μF Hc e1 S1 r q⟩⟩
theorem rf {cap : List (Option Nat)} {src : DTI} {g : DTG} {t : DTT} {ta : DTE} {ρ : Rho} {μ : Mu} {Q : DK} : ni cap src g t ta ρ μ Q = src ρ μ fun xs μ1 => xs.length ≤ 1000 ∧ ∀ p, μ1 p = none → ∃ Pv : Nat → List PyData → Mu → Prop, Pv 0 [] (ar μ1 p []) ∧
  (∀ i x acc μ', xs[i]? = some x → μ' p = some acc → Pv i acc μ' → g (.v x) (bA cap ρ) μ' fun ρ2 μ2 => Le (bA cap ρ) ρ2 ∧ t ρ2 μ2 fun b μ3 =>
    if b = true then ta ρ2 μ3 fun d μ4 => μ4 p = some acc ∧ (match d with | .v y => Pv (i + 1) (acc ++ [y]) (ar μ4 p (acc ++ [y])) | _ => False) else μ3 p = some acc ∧ Pv (i + 1) acc μ3) ∧
  (∀ acc μ', Pv xs.length acc μ' → μ' p = some acc → Q (.v (.list acc)) (dW μ' p)) := propext Iff.rfl
open PySem PySem.Spec PyProof.Rows
section
variable {X : Cx} {es : List Expr} {x1 : Nat} {tpos : Pos}
def uV : List PyData → List PyData → List PyData
  | x :: xs, y :: ys => .tuple [x, y] :: uV xs ys
  | _, _ => []
end
open PySem PySem.Spec PyProof.Rows
section
variable {X : Cx} {a b e : Expr} {es : List Expr} {ta tb te : DTE} {t : DTA} {p pos : Pos}
end
open PySem PySem.Spec PyProof.Rows
section
variable {prog : Program} {w : World} {A : Around} {E : Value → Shared → Prop} {s : Shared}
end
open PySem PySem.Spec PyProof.Rows
section
variable {X : Cx} {es : List Expr} {x1 : Nat} {tpos : Pos}
noncomputable def A0 (t : DTA) : DTI := fun ρ μ Q => t ρ μ fun ds μ1 => match ds with
  | [.v (.tuple xs), .v (.tuple ys)] => Q (uV xs ys) μ1
  | _ => False
end
section
variable {X : Cx} {es : List Expr} {pos : Pos}
noncomputable def AB (K : PySem.W.Frag) (n : Nat) (t : TGs) : TG := fun v σ H Q => ∃ a xs, v = .ref a ∧ SqL K H a xs ∧ xs.length = n ∧ t xs σ H Q
theorem y6 {k : Nat} {t : TGs} {n : Nat} (hc : X.calm = true) (h : PGs X es t)
    (hn : (assignEach es X.env).length = n := by rfl) (hst : (assignEach es X.env).findIdx? (·.1) = none := by rfl) : PG X (.Tuple es k pos) (AB X.K n t) := by
  intro pins s σ H v u Q I r hw
  obtain ⟨a, xs, e1, hq, hl, hw⟩ := hw
  subst e1
  cases r
  obtain ⟨its, rv, p, _⟩ := I.list hq
  rw [assign_Tuple]
  refine wpAny_bind (wpAny_standAt ?_)
  unfold unpack
  rw [hst, show (assignEach es X.env).length = its.toArray.size by simp [hn, ← hl, rv.length]]
  refine wpAny_bind (wpAny_holding (PySem.W.kun_itemsOf (I.ok.hd hc) p.isList fun h' hx => ?_))
  have I1 : Inv X pins σ H { s with heap := h' } := I.kept (t' := s.toks) fun b o e => hx b o (Nat.ne_of_lt (Heap.lt_size e)) e
  exact h pins _ σ H xs _ Q I1 (by simpa using rv) hw
noncomputable def rP (n : Nat) (gs : jq) : DTG := fun d ρ μ Q => match d with
  | .v (.list xs) => xs.length = n ∧ gs xs ρ μ Q
  | _ => False
theorem yS {k n : Nat} {gs : jq} (hc : X.calm = true) (h : DGs X es gs)
    (hn : (assignEach es X.env).length = n := by rfl) (hst : (assignEach es X.env).findIdx? (·.1) = none := by rfl) : DG X (.Tuple es k pos) (rP n gs) := by
  obtain ⟨t1, p1, l1⟩ := h
  refine ⟨_, y6 hc p1 hn hst, fun σ H ρ μ d u Qd Q S r h k => ?_⟩
  unfold rP at h
  split at h
  · cases r with
    | @list a us _ ha hn' ra => exact ⟨a, us, rfl, SqL.of ha, by rw [← ra.length]; exact h.1, l1 σ H ρ μ _ us _ _ S ra h.2 k⟩
  · exact h.elim
theorem vQ {n : Nat} {gs : jq} {xs : List PyData} {ρ : Rho} {μ : Mu} {Q : Rho → Mu → Prop} : rP n gs (.v (.list xs)) ρ μ Q = (xs.length = n ∧ gs xs ρ μ Q) := propext Iff.rfl
end
theorem cl1 {k : Str} {v : Addr} {r : List (Str × Addr)} {x : Str} {a : Addr} (h : List.lookup x [(k, v)] = some a) : List.lookup x ((k, v) :: r) = some a := by
  simp only [List.lookup_cons] at h ⊢
  cases e : x == k with
  | true => rw [e] at h; exact h
  | false => rw [e] at h; exact absurd h (by simp)
theorem cl2 {k k' : Str} {v v' : Addr} {r : List (Str × Addr)} {x : Str} {a : Addr} (n : (k == k') = false) (h : List.lookup x [(k, v)] = some a) : List.lookup x ((k', v') :: (k, v) :: r) = some a := by
  have g := cl1 (r := r) h
  simp only [List.lookup_cons] at h
  cases e : x == k with
  | true =>
    have e' : x = k := by simpa using e
    subst e'
    rw [List.lookup_cons, n]
    exact g
  | false => rw [e] at h; exact absurd h (by simp)
open PySem PySem.Spec PyProof.Rows
section
variable {X : Cx} {e : Expr} {es : List Expr} {t : DTA} {p pos : Pos}
end
section
variable {X : Cx} {e tg : Expr} {te : DTE} {td : DTS} {pos : Pos}
noncomputable def tQ (te : DTE) (g : DTG) (tb : DTS) : DTS := fun Dd ρ μ => te ρ μ fun d μ1 => match d with
  | .m l => ∃ xs, μ1 l = some xs ∧ ∃ Pv : Nat → Rho → Mu → Prop, Pv 0 ρ μ1 ∧ (∀ i ρ' μ', Pv i ρ' μ' → μ' l = some xs) ∧
      (∀ i x ρ' μ', xs[i]? = some x → Pv i ρ' μ' → g (.v x) ρ' μ' fun ρ2 μ2 => tb { Dd with nx := Pv (i + 1), ct := Pv (i + 1), bk := Dd.nx } ρ2 μ2) ∧ (∀ ρ' μ', Pv xs.length ρ' μ' → Dd.nx ρ' μ')
  | _ => False
theorem wd {body : List Stmt} {g : DTG} (hp : PassesOwn (model X.prog X.w) X.A X.env X.xe) (hc : X.calm = true) (hi : DE X e te) (hg : DG X tg g) (hb : DSs X body td)
    (hs : ∀ x, foldedSetIterable e X.env x = pure x := by intro _; rfl) : DS X (.For tg e body [] pos) (tQ te g td) := by
  obtain ⟨t0, p0, l0⟩ := hi
  obtain ⟨t1, p1, l1⟩ := hg
  obtain ⟨t2, p2, l2⟩ := hb
  refine ⟨_, uR hp hc (qP p0) p1 p2 hs, fun σ H ρ μ Dd De S h k1 k2 k3 k4 => ?_⟩
  refine l0 σ H ρ μ _ _ S h fun d u μ1 H1 e1 S1 r h1 => ?_
  split at h1
  · rename_i l
    obtain ⟨xs, hl, Pv, pv0, nU, turn, fin⟩ := h1
    obtain ⟨rfl, _⟩ := r
    obtain ⟨us0, hus0, _⟩ := S1.mu l xs hl
    refine ⟨l, rfl, ⟨us0, SqL.of hus0⟩, ?_⟩
    refine ⟨fun i m σ' H' => m = xs.length - i ∧ i ≤ xs.length ∧ ∃ ρ' μ', Ext X.K μ1 H1 μ' H' ∧ St0 X.K H' ρ' μ' σ' ∧ Pv i ρ' μ', ⟨xs.length, by simp, Nat.zero_le _, ρ, μ1, .refl, S1, pv0⟩, ?_⟩
    rintro i m σ' H' ⟨rfl, hi, ρ', μ', e2, S2, pv⟩
    obtain ⟨us, hus, ra⟩ := S2.mu l xs (nU i ρ' μ' pv)
    by_cases hlt : i < xs.length
    · have hiu : i < us.length := by rw [← ra.length]; exact hlt
      refine .inr ⟨⟨us, us[i], SqL.of hus, by simp [hiu]⟩, fun σ2 H2 => ∃ ρ2 μ2, Ext X.K μ1 H1 μ2 H2 ∧ St0 X.K H2 ρ2 μ2 σ2 ∧ Pv (i + 1) ρ2 μ2, fun σ2 H2 q => ⟨xs.length - (i + 1), by omega, rfl, hlt, q⟩, fun x H2 yl => ?_⟩
      obtain ⟨eH, hx⟩ := yl
      subst eH
      obtain ⟨u', h1', h2'⟩ := ra.get (i := i) (d := xs[i]) (by simp [hlt])
      have hx' := hx us (SqL.of hus)
      rw [h1'] at hx'
      cases hx'
      refine l1 σ' H2 ρ' μ' (.v xs[i]) _ _ _ S2 h2' (turn i xs[i] ρ' μ' (by simp [hlt]) pv) fun σ4 ρ4 μ4 H4 e4 S4 h4 => ?_
      have nxt : ∀ a b c dd, Ext X.K μ4 H4 c dd → St0 X.K dd b c a → Pv (i + 1) b c → ∃ ρ2 μ2, Ext X.K μ1 H1 μ2 dd ∧ St0 X.K dd ρ2 μ2 a ∧ Pv (i + 1) ρ2 μ2 := fun a b c dd e5 S5 q => ⟨b, c, e2.trans (e4.trans e5), S5, q⟩
      have ee := e1.trans (e2.trans e4)
      exact l2 σ4 H4 ρ4 μ4 _ _ S4 h4 nxt (fun a b c d e5 => k2 a b c d (ee.trans e5)) (fun a b c d e5 => k1 a b c d (ee.trans e5)) nxt
    · have ei : i = xs.length := by omega
      subst ei
      exact .inl ⟨⟨us, SqL.of hus, by rw [← ra.length]; omega⟩, k1 σ' ρ' μ' H' (e1.trans e2) S2 (fin ρ' μ' pv)⟩
  · exact h1.elim
theorem yt {g : DTG} {tb : DTS} {Dd : oI} {ρ : Rho} {μ : Mu} : tQ te g tb Dd ρ μ = te ρ μ fun d μ1 => match d with
  | .m l => ∃ xs, μ1 l = some xs ∧ ∃ Pv : Nat → Rho → Mu → Prop, Pv 0 ρ μ1 ∧ (∀ i ρ' μ', Pv i ρ' μ' → μ' l = some xs) ∧
      (∀ i x ρ' μ', xs[i]? = some x → Pv i ρ' μ' → g (.v x) ρ' μ' fun ρ2 μ2 => tb { Dd with nx := Pv (i + 1), ct := Pv (i + 1), bk := Dd.nx } ρ2 μ2) ∧ (∀ ρ' μ', Pv xs.length ρ' μ' → Dd.nx ρ' μ')
  | _ => False := propext Iff.rfl
end
section
variable {X : Cx} {a b c : Expr} {ta tb tc : DTE} {pos : Pos}
theorem cl3 {k k' : Str} {v v' : Addr} {x : Str} {a : Addr} (n : (k == k') = false) (h : List.lookup x [(k, v), (k', v')] = some a) : List.lookup x [(k', v'), (k, v)] = some a := by
  simp only [List.lookup_cons, List.lookup_nil] at h ⊢
  cases e : x == k with
  | true =>
    have e' : x = k := by simpa using e
    subst e'
    rw [e] at h
    rw [n]
    exact h
  | false =>
    rw [e] at h
    cases e2 : x == k' with
    | true => rw [e2] at h; exact h
    | false => rw [e2] at h; exact absurd h (by simp)
end
open PySem PySem.Spec PyProof.Rows
section
variable {X : Cx} {o e : Expr} {to te : DTE} {apos cpos pos : Pos}
end
section
variable {X : Cx} {e : Expr} {es : List Expr} {t : DTA} {p pos : Pos}
end
section
variable {X : Cx} {a b : Expr} {ta tb : DTE} {pos : Pos}
end
open PySem PySem.Spec PyProof.Rows
def vd (cells : List (Str × Addr)) : List (Str × Addr) → Prop
  | [] => True
  | (k, v) :: r => cells.lookup k = some v ∧ vd cells r
theorem oN {cells : List (Str × Addr)} : vd cells [] := trivial
theorem cX {cells r : List (Str × Addr)} {k : Str} {v : Addr} (h : cells.lookup k = some v) (t : vd cells r) : vd cells ((k, v) :: r) := ⟨h, t⟩
theorem iH {cells : List (Str × Addr)} : ∀ {cl : List (Str × Addr)}, vd cells cl → ∀ x a, cl.lookup x = some a → cells.lookup x = some a
  | [], _, _, _, h => by simp at h
  | (k, v) :: r, c, x, a, h => by
    rw [List.lookup_cons] at h
    cases e : x == k with
    | true =>
      have e' : x = k := by simpa using e
      rw [e] at h
      subst e'
      rw [c.1]; exact h
    | false =>
      rw [e] at h
      exact iH c.2 x a h
open PySem PySem.Spec PyProof.Rows
section
variable {O : Addr → Prop} {fs : List Addr} {h h1 h2 : Heap}
end
section
variable {M : Model} {A : Around} {E : Value → Shared → Prop} {s : Shared} {O : Addr → Prop} {e L : Addr} {cls fl : Value} {env : Env} {outer : List Env} {base : Heap} {Q : Unit → Shared → Prop}
end
open PySem PySem.Spec PyProof.Rows
section
variable {X : Cx} {pins : List (Addr × Obj)} {σ : St} {H : Hp} {s : Shared} {O : Addr → Prop} {ea : Addr} {cls : Value} {E : XK} {base : Heap}
end
abbrev DTX := Rho → Mu → (Mu → Prop) → Prop
abbrev XSp := List D → Mu → (Mu → Prop) → Prop
section
variable {X : Cx} {E : XK} {C : Value} {e : Expr} {es : List Expr} {t : DTA} {te : DTE} {tx ty : DTX} {p pos : Pos} {x : Str} {k : Nat} {f : Addr} {fd : FuncData} {ps : List Str} {dsp : XSp} {st : Stmt} {sts : List Stmt}
end
open PySem PySem.Spec PyProof.Rows
section
variable {X : Cx} {E : XK} {x : Str} {C : Addr}
end
open PySem PySem.Spec PyProof.Rows
section
variable {prog : Program} {w : World} {A : Around} {E : Value → Shared → Prop} {h : Heap} {g : Array GenState} {d : Drawn} {t : Nat} {os : OsState} {a C : Addr} {o : Obj} {K : PySem.W.Frag}
end
open PySem PySem.Spec PyProof.Rows
section
variable {X : Cx} {pins : List (Addr × Obj)} {σ : St} {H : Hp} {s : Shared}
end
open PySem PySem.Spec PyProof.Rows
section
variable {P : Program} {w : World} {K : PySem.W.Frag} {mg : Str → Option Value} {base : Heap} {N : List Str} {lsc : Scope} {cl : List (Str × Addr)} {q : Str} {fa c1 : Addr} {A : Around} {outer : List Env} {s : Shared} {H : Hp} {E : XK} {σ : St} {k : Nat} {params : Arguments} {body : Expr} {pm ctv : Value} {t : TE}
end
open PySem PySem.Spec PyProof.Rows
section
variable {X : Cx} {pins : List (Addr × Obj)} {σ : St} {H : Hp} {s : Shared} {O : Addr → Prop} {ea : Addr} {oe : Obj} {vs : Array Value}
end
open PySem PySem.Spec PyProof.Rows
open PySem PySem.Spec PyProof.Rows
section
variable {X : Cx} {e : Expr} {te : DTE} {p py pos : Pos} {y : Str} {C : Addr} {b : Bool} {ea : Addr} {oe : Obj}
end
end L2.DL
set_option Elab.async false
set_option linter.all false
set_option maxRecDepth 100000
set_option maxHeartbeats 4000000
namespace L2
open PySem PySem.Spec PyProof.Rows DL
noncomputable def zL (tabs : List Addr) (H : Hp) : Prop := ∀ b, H b = none ∨ (∃ o xs, H b = some (.frz o (.lst xs))) ∨ (b ∈ tabs ∧ H b = some (.tbl #[]))
theorem sj {P : Program} {w : World} {K : PySem.W.Frag} {mg mb : Str → Option Value} {CX : CXT} {k : Nat} {fa a : Addr} {fd : FuncData} {x : Str} {sp : Sp} {s₁ : Shared} {vs : List Value} {ns : List Int} (tabs : List Addr)
    (hT : ∀ p ∈ tabs, s₁.heap.get? p = some (PySem.W.tabObj #[]) ∧ K.lookup p = none) (hA2 : ∀ c o p q, K.lookup c = some o → bR o = some (p, q) → p ∈ tabs) (hC : ∀ p ∈ tabs, isCodeTable s₁.heap p)
    (KX : K.In s₁.heap) (hns : s₁.heap.Ns mainGlobals mg) (hb : s₁.heap.Ns builtinsNs mb) (hbb : ∀ x : Str, x ≠ "__name__" → mb x = bootBuiltins x) (hlim : s₁.heap.NoLimit) (hg : s₁.gens = #[])
    (ha : s₁.heap.get? a = some { cls := .type "list", data := .seq vs.toArray }) (hi : IntsAre vs ns) (hl : ns.length ≤ sizeLine) (hr : fU k callerA)
    (F : ∀ base : Heap, K.In base → base.Ns mainGlobals mg → cq P w K mg base CX k fa fd [x] sp) (hbind : ∀ (s : Shared) (u : Value), BindsTo s fd ⟨[u], []⟩ [(x, u)])
    (hsp : ∀ H : Hp, n4 K H → SqL K H a (ns.map V.int) → sp [.ref a] H (fun v _ => v = .bl true) fun _ _ _ => False)
    (hCX : ∀ H e s', CX [] H s₁ (fun _ _ _ => False) e s' → False) :
    codeAny (model P w) callerA (.call (.ref fa) ⟨[.ref a], []⟩) (fun r s' => r = .ok (.ret (.bool true)) ∧ OldK s₁.heap s'.heap ∧ s'.os = s₁.os ∧ AllBare s'.gens) s₁ := by
  have rv := mm hi
  have lenV := hi.length
  have ant : a ∉ tabs := fun z => by have := (hT a z).1; rw [ha] at this; cases this
  have core : ∀ H : Hp, zL tabs H → SqL K H a (ns.map V.int) → HOk P w H s₁.heap → (∀ b, H b ≠ none → b = a ∨ b ∈ tabs) → (H a ≠ none → K.lookup a = none) → (∀ p ∈ tabs, H p = some (.tbl #[])) →
      codeAny (model P w) callerA (.call (.ref fa) ⟨[.ref a], []⟩) (fun r s' => r = .ok (.ret (.bool true)) ∧ OldK s₁.heap s'.heap ∧ s'.os = s₁.os ∧ AllBare s'.gens) s₁ := by
    intro H hO hS hok hA hK hP
    have base_of : ∀ {b : Addr} {o : Obj}, s₁.heap.get? b = some o → H b = none → (nF s₁.heap H).get? b = some o := fun e n => tP e n
    have noA : ∀ {b : Addr} {o : Obj} {es : Array DictEntry} {ep : Nat}, s₁.heap.get? b = some o → o.data = .dict es ep → H b = none := fun {b o es ep} e d => by
      cases q : H b with
      | none => rfl
      | some u =>
        rcases hA b (by rw [q]; simp) with e' | e'
        · subst e'
          rw [ha] at e; cases e
          have d' : Data.seq vs.toArray _ = Data.dict es ep := d
          cases d'
        · rw [(hT b e').1] at e; cases e
          have d' : Data.fields #[] = Data.dict es ep := d
          cases d'
    have nsK : ∀ {b : Addr} {m : Str → Option Value}, s₁.heap.Ns b m → (nF s₁.heap H).Ns b m := fun {b m} ⟨o, es, ep, e, d, r⟩ => ⟨o, es, ep, base_of e (noA e d), d, r⟩
    have hKb : K.In (nF s₁.heap H) := fun b o e => base_of (KX b o e) (by
      cases q : H b with
      | none => rfl
      | some u =>
        rcases hA b (by rw [q]; simp) with e' | e'
        · subst e'
          rw [hK (by rw [q]; simp)] at e; cases e
        · have e2 := e; rw [show K.lookup b = none from (hT b e').2] at e2; cases e2)
    have hM : Mod K mg (nF s₁.heap H) := ⟨hKb, nsK hns, ⟨mb, nsK hb, hbb⟩, let ⟨mc, h1, h2⟩ := hlim; ⟨mc, nsK h1, h2⟩⟩
    have e0 : wJ P w K mg (nF s₁.heap H) callerA [] s₁ H := ⟨rfl, hM, fun b o e => vT e, Nat.le_of_eq (sE _ _), trivial, fun b hb => absurd (show b ∈ ([] : List Addr) from hb) (by simp), hok, .of_eq hg⟩
    have tb : n4 K H := fun c o p q h1 h2 => ⟨#[], hP p (hA2 c o p q h1 h2), trivial, fun pos cv e => by simp [codeAmong] at e⟩
    refine codeAny_mono ((F _ hKb (nsK hns)).run callerA [] s₁ H ⟨[.ref a], []⟩ [.ref a] [.ref a] _ _ hr e0 (hbind s₁ (.ref a)) (.cons rfl .nil) (hsp H tb hS)) fun r s' h => ?_
    cases r with
    | error e => exact (hCX H e s' h).elim
    | ok fl =>
      cases fl with
      | next => exact False.elim h
      | brk => exact False.elim h
      | cont => exact False.elim h
      | ret u =>
        obtain ⟨v, H', os, bare, un, hok', r', q⟩ := h
        have q' : v = .bl true := q
        subst q'
        obtain rfl : u = Value.bool true := r'
        refine ⟨rfl, ⟨fun b o e => ?_, fun b o e => un.there b o e (by simp)⟩, os, bare⟩
        cases q : H b with
        | none => exact .inl (un.keep b o e q (by intro z; exact absurd (show b ∈ ([] : List Addr) from z) (by simp)) (by simp))
        | some u =>
          rcases hO b with z | ⟨ob, xs, z⟩ | ⟨zt, z⟩
          · rw [q] at z; cases z
          · have z2 := un.jt b ob _ z
            obtain ⟨e1, _⟩ := hok b _ z
            obtain ⟨e2, _⟩ := hok' b _ z2
            rw [e] at e1; cases e1
            exact .inl e2
          · obtain ⟨more, z2⟩ := un.jy b _ z
            have e2 : s'.heap.get? b = some { cls := .none, data := .fields (#[] ++ more) } := hok' b _ z2
            have e1 := (hT b zt).1
            rw [e] at e1; cases e1
            exact .inr (.inl ⟨hC b zt, rfl, #[], more, rfl, e2⟩)
  have okT : ∀ p ∈ tabs, s₁.heap.get? p = some { cls := .none, data := .fields #[] } := fun p hp => (hT p hp).1
  cases hk : K.lookup a with
  | some o =>
    have e := KX a o hk
    rw [ha] at e
    cases e
    refine core (fun b => if b ∈ tabs then some (.tbl #[]) else none) (fun b => ?_) (.inr ⟨_, vs.toArray, _, hk, rfl, rfl, rfl, by rw [List.size_toArray, lenV]; exact hl, by simpa using rv⟩) (fun b u z => ?_) (fun b z => ?_) (fun z => absurd (if_neg ant) z) (fun p hp => if_pos hp)
    · by_cases hb : b ∈ tabs
      · exact .inr (.inr ⟨hb, if_pos hb⟩)
      · exact .inl (if_neg hb)
    · by_cases hb : b ∈ tabs
      · have z' := (if_pos hb).symm.trans z; cases z'; exact okT b hb
      · have z' := (if_neg hb).symm.trans z; cases z'
    · by_cases hb : b ∈ tabs
      · exact .inr hb
      · exact absurd (if_neg hb) z
  | none =>
    refine core (fun b => if b = a then some (.frz { cls := .type "list", data := .seq vs.toArray } (.lst (ns.map V.int))) else if b ∈ tabs then some (.tbl #[]) else none) (fun b => ?_) (.inl (.inr ⟨{ cls := .type "list", data := .seq vs.toArray }, if_pos rfl⟩)) (fun b u z => ?_) (fun b z => ?_) (fun _ => hk) (fun p hp => by
      have : p ≠ a := fun y => ant (by rw [← y]; exact hp)
      exact (if_neg this).trans (if_pos hp))
    · by_cases hb : b = a
      · exact .inr (.inl ⟨_, _, if_pos hb⟩)
      · by_cases hb2 : b ∈ tabs
        · exact .inr (.inr ⟨hb2, (if_neg hb).trans (if_pos hb2)⟩)
        · exact .inl ((if_neg hb).trans (if_neg hb2))
    · by_cases hb : b = a
      · have z' := (if_pos hb).symm.trans z
        cases z'
        subst hb
        exact ⟨ha, by rw [List.length_map]; exact hl, vs, _, rv, ha⟩
      · by_cases hb2 : b ∈ tabs
        · have z' := ((if_neg hb).trans (if_pos hb2)).symm.trans z; cases z'; exact okT b hb2
        · have z' := ((if_neg hb).trans (if_neg hb2)).symm.trans z; cases z'
    · by_cases hb : b = a
      · exact .inl hb
      · by_cases hb2 : b ∈ tabs
        · exact .inr hb2
        · exact absurd ((if_neg hb).trans (if_neg hb2)) z
theorem vp {l : PySem.W.OpenLaw} {n k : Nat} {q : Program} {loose : List Str} {XP : (Str → Option Value) → Heap → Prop} {YP : World → Heap → Prop} {d : DefRec} {K : Params → PySem.W.Frag} {CX : World → CXT} {sp : World → Sp} {x : Str} (tabs : List Addr)
    (hn : l.most = some n) (hn2 : n ≤ sizeLine) (hdf : d.params.defaults = []) (hr : fU k callerA)
    (hY : ∀ (w : World) (h : Heap), YP w h → (K w.params).In h ∧ (∀ p ∈ tabs, h.get? p = some (PySem.W.tabObj #[]) ∧ (K w.params).lookup p = none) ∧ (∀ p ∈ tabs, isCodeTable h p))
    (hA2 : ∀ (w : World) c o p q, (K w.params).lookup c = some o → bR o = some (p, q) → p ∈ tabs)
    (F : ∀ (w : World) (mg : Str → Option Value) (fa : Addr) (h : Heap), (K w.params).In h → h.Ns mainGlobals mg → mg d.name = some (.ref fa) →
      ∃ fd : FuncData, (∀ (s : Shared) (u : Value), BindsTo s fd ⟨[u], []⟩ [(x, u)]) ∧
        ∀ base : Heap, (K w.params).In base → base.Ns mainGlobals mg → cq l.prog w (K w.params) mg base (CX w) k fa fd [x] (sp w))
    (hsp : ∀ (w : World) (H : Hp) (a : Addr) (ns : List Int), ns.length ≤ n → n4 (K w.params) H → SqL (K w.params) H a (ns.map V.int) → sp w [.ref a] H (fun v _ => v = .bl true) fun _ _ _ => False)
    (hCX : ∀ (w : World) (H : Hp) (s : Shared) (e : Value) (s' : Shared), CX w [] H s (fun _ _ _ => False) e s' → False) :
    PySem.W.WalkO q loose XP YP l.row.toRowW d [] (fun f vs => PySem.call f vs) := by
  refine Att.oh hn hdf fun w s₀ s₁ mg mb fa o pm cd doc a vs ns G Y ho hd hcd hmg hobj hints hlen hg => ?_
  obtain ⟨KX, hT, hC⟩ := hY w _ Y
  obtain ⟨fd, hb, hF⟩ := F w mg fa _ KX G.T.g hmg
  exact sj tabs hT (hA2 w) hC KX G.T.g G.T.b G.T.builtins G.T.nolimit hg hobj hints (Nat.le_trans hlen hn2) hr hF hb (fun H hO hS => hsp w H a ns hlen hO hS) fun H e s' => hCX w H s₁ e s'
end L2
namespace L2.DL
open PySem PySem.Spec PyProof.Rows
theorem vD {K : PySem.W.Frag} {l : List (Addr × Str)} (h : (K.filterMap fun p => bR p.2) = l) {c : Addr} {o : Obj} {P : Addr} {q : Str} (e : K.lookup c = some o) (e2 : bR o = some (P, q)) : (P, q) ∈ l := by
  rw [← h]
  have mem : ∀ (L : List (Addr × Obj)), List.lookup c L = some o → (c, o) ∈ L := fun L => by
    induction L with
    | nil => intro z; cases z
    | cons a r ih =>
      intro z
      rw [List.lookup_cons] at z
      by_cases y : c = a.1
      · rw [y] at z ⊢; simp at z; rw [← z]; exact List.mem_cons_self
      · rw [show (c == a.1) = false from by simpa using y] at z
        exact List.mem_cons_of_mem _ (ih z)
  exact List.mem_filterMap.mpr ⟨(c, o), mem K e, e2⟩
theorem sY {K : PySem.W.Frag} {h : Heap} {c P : Addr} {o : Obj} {q : Str} (X : K.In h) (l : K.lookup c = some o) (e : bR o = some (P, q)) : isCodeTable h P := by
  have ho := X _ _ l
  unfold bR at e
  split at e
  · rename_i cn vs hcls hd
    split at e
    · rename_i hcn
      subst hcn
      split at e
      · rename_i e11 e18
        split at e
        · cases e
          exact ⟨c, o, vs, ho, hcls, hd, by assumption⟩
        · cases e
      · cases e
    · cases e
  · cases e
theorem v7 {K : PySem.W.Frag} {c P : Addr} {q : Str} (h : (K.lookup c).bind bR = some (P, q)) : ∃ o, K.lookup c = some o ∧ bR o = some (P, q) := Option.bind_eq_some_iff.mp h
theorem q5 {K T : PySem.W.Frag} {h : Heap} (X : PySem.W.Frag.In (K ++ T) h) : K.In h := fun b o e => X b o (by
  show List.lookup b (K ++ T) = some o
  rw [List.lookup_append, show List.lookup b K = some o from e]; rfl)
open PySem PySem.Spec PyProof.Rows
section
end
open PySem PySem.Spec PyProof.Rows
section
variable {X : Cx} {a b e : Expr} {es : List Expr} {ta tb te : DTE} {t : DTA} {p pos : Pos} {x : Str} {bid T : String}
end
open PySem PySem.Spec PyProof.Rows
section
variable {X : Cx} {es : List Expr} {x1 : Nat} {tpos : Pos}
end
open PySem PySem.Spec PyProof.Rows
section
variable {X : Cx} {e : Expr} {te : DTE} {p p2 pos pos2 : Pos}
end
open PySem PySem.Spec PyProof.Rows
noncomputable def QT (ds : List D) : PQ := fun K u μ H => ∃ a us, u = .ref a ∧ H a = some (.tup us) ∧ fi K μ H ds us
section
variable {X : Cx} {pins : List (Addr × Obj)} {σ : St} {H : Hp} {s : Shared}
end
section
variable {K : PySem.W.Frag} {μ : Mu} {H : Hp} {a : Addr} {us : List V} {ds : List D}
end
section
variable {X : Cx} {es : List Expr} {t : DTA} {pos : Pos}
end
open PySem PySem.Spec PyProof.Rows
open PySem PySem.Spec PyProof.Rows
open PySem PySem.Spec PyProof.Rows
section
variable {X : Cx} {o e : Expr} {to te : DTE} {apos cpos : Pos}
end
section
variable {X : Cx} {E : XK} {C : Value} {a b : Expr} {tx : DTX} {pos : Pos}
end
section
variable {X : Cx}
end
open PySem PySem.Spec PyProof.Rows
section
variable {X : Cx}
end
open PySem PySem.Spec PyProof.Rows
open PySem PySem.Spec PyProof.Rows
open PySem PySem.Spec PyProof.Rows
section
variable {K : PySem.W.Frag} {μ : Mu} {H : Hp}
def A7 (neg : Bool) : D → D → Mu → DK → Prop := fun x y μ Q => match x, y with
  | .m a, .v b => ∃ es, μ a = some es ∧ SeqAt.shaped (.list es) = true ∧ SeqAt.shaped b = true ∧ Q (.v (.bool (neg ^^ PyData.eqv (.list es) b))) μ
  | x, y => bp neg x y μ Q
end
section
variable {X : Cx} {a b e : Expr} {ta tb te : DTE} {pos p : Pos} {T : String}
noncomputable def vv (to : DTE) : DTE := fun ρ μ Q => to ρ μ fun x μ1 => match x with
  | .m l => (match μ1 l with
    | some xs => Q (.v .none) (ar μ1 l xs.reverse)
    | none => False)
  | _ => False
theorem RpL.snoc {K : PySem.W.Frag} {μ : Mu} {H : Hp} : ∀ {ds : List PyData} {us : List V} {d : PyData} {u : V}, RpL K μ H ds us → Rp K μ H d u → RpL K μ H (ds ++ [d]) (us ++ [u])
  | _, _, _, _, .nil, r => .cons r .nil
  | _, _, _, _, .cons a b, r => .cons a (RpL.snoc b r)
theorem RpL.rev {K : PySem.W.Frag} {μ : Mu} {H : Hp} : ∀ {ds : List PyData} {us : List V}, RpL K μ H ds us → RpL K μ H ds.reverse us.reverse
  | _, _, .nil => .nil
  | _, _, .cons a b => by rw [List.reverse_cons, List.reverse_cons]; exact RpL.snoc (RpL.rev b) a
theorem vH {o : Expr} {to : DTE} {apos cpos : Pos} (ho : DE X o to) (hbase : attributeBase o "reverse" X.env (eval o X.env) = eval o X.env := by rfl) (hline : (apos.endLine == cpos.line) = true := by rfl) :
    DE X (.Call (.Attribute o "reverse" apos) [] [] cpos) (vv to) := by
  obtain ⟨t1, p1, l1⟩ := ho
  refine ⟨_, yZ PySem.F.plainAttrs_list PySem.F.slot_list_reverse PySem.F.type_list_reverse qb p1 hbase hline, fun σ H ρ μ Qd Q S h k => ?_⟩
  refine l1 σ H ρ μ _ _ S h fun x ux μ1 H1 e1 S1 rx h1 => ?_
  cases x with
  | m l =>
    obtain ⟨rfl, ds, hm⟩ := id rx
    obtain ⟨us, hl, rl⟩ := S1.mu l ds hm
    refine ⟨.inl ⟨rfl, us, SqL.of hl⟩, ?_⟩
    dsimp only at h1
    rw [hm] at h1
    have ex : Ext X.K μ1 H1 (ar μ1 l ds.reverse) (upd H1 l (.lst us.reverse)) := hB hm
    exact ⟨l, us, rfl, rfl, hl, k (.v .none) .non _ _ (e1.trans ex) ⟨S1.mu.set hm rl.rev, S1.rho.ext S1.mu ex⟩ Rp.none h1⟩
  | v d => exact h1.elim
  | s ns => exact h1.elim
  | o _ => exact h1.elim
  | q _ => exact h1.elim
end
theorem tp {to : DTE} {ρ : Rho} {μ : Mu} {Q : DK} : vv to ρ μ Q = to ρ μ (fun x μ1 => match x with
  | .m l => (match μ1 l with
    | some xs => Q (.v .none) (ar μ1 l xs.reverse)
    | none => False)
  | _ => False) := propext Iff.rfl
end L2.DL
set_option Elab.async false
set_option linter.all false
set_option maxRecDepth 100000
set_option maxHeartbeats 4000000
namespace L2
open PySem PySem.W PyProof.Rows
section
variable {X : Cx} {a b c d : Expr} {ta tb tc td : TE} {pos : Pos}
end
end L2
namespace L2.DL
open PySem PySem.Spec PyProof.Rows
section
variable {X : Cx} {a b c d : Expr} {ta tb tc td : DTE} {pos : Pos}
end
end L2.DL
namespace L2
open PySem PySem.W PyProof.Rows
section
variable {X : Cx}
end
end L2
namespace L2.DL
open PySem PySem.Spec PyProof.Rows
open PySem PySem.Spec PyProof.Rows
section
variable {X : Cx} {a b : Expr} {ta tb : DTE} {pos : Pos}
end
open PySem PySem.Spec PyProof.Rows
end L2.DL
set_option Elab.async false
set_option linter.all false
set_option maxRecDepth 100000
set_option maxHeartbeats 4000000
namespace L2
open PySem PySem.Spec PyProof.Rows
section
variable {X : Cx} {pos : Pos}
end
end L2
namespace L2.DL
open PySem PySem.W PyProof.Rows
section
variable {X : Cx} {pos : Pos}
end
open PySem PySem.Spec PyProof.Rows
section
variable {X : Cx} {e : Expr} {te : DTE} {pos p : Pos}
end
open PySem PySem.Spec PyProof.Rows
end L2.DL
set_option Elab.async false
set_option linter.all false
set_option maxRecDepth 100000
set_option maxHeartbeats 4000000
namespace L2
open PySem PySem.Spec PyProof.Rows
end L2
namespace L2.DL
open PySem PySem.Spec PyProof.Rows
section
variable {X : Cx} {a b e : Expr} {ta tb te : DTE} {pos p2 : Pos}
end
end L2.DL
set_option Elab.async false
set_option linter.all false
set_option maxRecDepth 100000
set_option maxHeartbeats 4000000
namespace L2
open PySem PySem.Spec PyProof.Rows
section
variable {X : Cx}
end
end L2
namespace L2.DL
open PySem PySem.Spec PyProof.Rows
section
variable {X : Cx} {o i e : Expr} {to ti te : DTE} {apos cpos : Pos}
end
end L2.DL
set_option Elab.async false
set_option linter.all false
set_option maxRecDepth 100000
set_option maxHeartbeats 4000000
namespace L2
open PySem PySem.Spec PyProof.Rows
section
variable {X : Cx}
theorem lN : eQ X (.type "int") (fun xs H Q => ∃ z n, xs = [.str z] ∧ intText? z = some n ∧ z.length ≤ 640 ∧ Q (.int n) H) := by
  intro pins s σ H xs us Q I r h
  obtain ⟨z, n, rfl, hn, hz, q⟩ := h
  obtain ⟨u, rfl, t, rfl⟩ := vals1 r
  exact PySem.W.KIN.call_text hn hz ⟨.int n, H, I.tok _, ⟨_, rfl⟩, q⟩
def AD : V → Option Int → Option Int → Hp → VK → Prop := fun x lo hi H Q => ∃ z, x = .str z ∧ z.length ≤ sizeLine ∧ Q (.str (Txt.slice z lo hi)) H
theorem ph {vl : Value} {lo : Option Int} (h : IsPart vl lo) : ∃ o : Option (Int × Tok), o.map (·.1) = lo ∧ (vl = match o with | some p => .int p.1 p.2 | none => .none) := by
  cases h with
  | none => exact ⟨none, rfl, rfl⟩
  | int i t => exact ⟨some (i, t), rfl, rfl⟩
theorem xQ : SlR X AD := by
  intro pins s σ H x v vl vu lo hi sl Q I rx hs pl pu h
  obtain ⟨z, rfl, hz, q⟩ := h
  obtain ⟨t, rfl⟩ := rx
  obtain ⟨ol, rfl, el⟩ := ph pl
  obtain ⟨ou, rfl, eu⟩ := ph pu
  refine ⟨"str", _, slot_str_getitem.lookup, typeIs_str s z t, wpAny_getItem_str_slice (l := ol) (u := ou) (st := none) ?_ rfl ?_⟩
  · obtain ⟨o, h1, h2, h3⟩ := hs
    refine ⟨o, h1, h2, ?_⟩
    rw [h3, el, eu]
    cases ol <;> cases ou <;> rfl
  · have e : Txt.slice z (ol.map (·.1)) (ou.map (·.1)) = if ((1 : Int) == 1 && (slicePicked z ol ou none).length == z.length) = true then z else ⟨((slicePicked z ol ou none).filterMap fun i => z.cps[i]?).toArray⟩ := rfl
    have hl := Txt.slice_le z (ol.map (·.1)) (ou.map (·.1))
    rw [e] at q hl
    unfold sliceMade
    show Made.post (if ((1 : Int) == 1 && (slicePicked z ol ou none).length == z.length) = true then _ else _) _ s
    split at q
    · rename_i c
      rw [if_pos c]
      exact ⟨.str z, H, I, ⟨_, rfl⟩, q⟩
    · rename_i c
      rw [if_neg c] at hl ⊢
      exact ⟨Nat.le_trans hl hz, .str _, H, I.tok _, ⟨_, rfl⟩, q⟩
def rSM (g : Str → Str → V) : V → List V → Hp → VK → Prop := fun x vs H Q => ∃ a b, x = .str a ∧ vs = [.str b] ∧ Q (g a b) H
theorem sd : MtM X "str.startswith" (rSM fun x y => .bl (decide (0 + y.length ≤ x.length) && Builtin.Str.subAt x y 0)) := by
  intro pins s σ H x vs v us Q I rx rv h
  obtain ⟨a, b, rfl, rfl, q⟩ := h
  obtain ⟨t, rfl⟩ := rx
  obtain ⟨u, rfl, t', rfl⟩ := vals1 rv
  exact call_gives F.slot_str_startswith (typeIs_str s a t) F.entry_str_startswith (F.args_str_startswith_2 _ _) (gives_str_startswith a b t t') ⟨.bl _, H, I, rfl, q⟩
theorem wk : MtM X "str.endswith" (rSM fun x y => .bl (decide (0 + y.length ≤ x.length) && Builtin.Str.subAt x y (x.length - y.length))) := by
  intro pins s σ H x vs v us Q I rx rv h
  obtain ⟨a, b, rfl, rfl, q⟩ := h
  obtain ⟨t, rfl⟩ := rx
  obtain ⟨u, rfl, t', rfl⟩ := vals1 rv
  exact call_gives F.slot_str_endswith (typeIs_str s a t) F.entry_str_endswith (F.args_str_endswith_2 _ _) (gives_str_endswith a b t t') ⟨.bl _, H, I, rfl, q⟩
def eh (x y : Str) : Int := match Builtin.Str.lastOccurrence x y 0 x.length with | some i => (i : Nat) | none => -1
theorem tG : MtM X "str.rfind" (rSM fun x y => .int (eh x y)) := by
  intro pins s σ H x vs v us Q I rx rv h
  obtain ⟨a, b, rfl, rfl, q⟩ := h
  obtain ⟨t, rfl⟩ := rx
  obtain ⟨u, rfl, t', rfl⟩ := vals1 rv
  exact call_gives F.slot_str_rfind (typeIs_str s a t) F.entry_str_rfind (F.args_str_rfind_2 _ _) (gives_str_rfind a b t t') ⟨.int _, H, I.tok _, ⟨_, rfl⟩, q⟩
def rK (x y : Str) : List V := match Builtin.Str.occurrences x y 0 x.length 1 with
  | i :: _ => [.str (Builtin.Str.strSub x 0 i), .str y, .str (Builtin.Str.strSub x (i + y.length) x.length)]
  | [] => [.str x, .str Str.empty, .str Str.empty]
def yu : V → List V → Hp → VK → Prop := fun x vs H Q => ∃ a b, x = .str a ∧ vs = [.str b] ∧ (b.length == 0) = false ∧ a.length ≤ sizeLine ∧ ∀ p, H p = none → Q (.ref p) (upd H p (.tup (rK a b)))
theorem nk : MtM X "str.partition" yu := by
  intro pins s σ H x vs v us Q I rx rv h
  obtain ⟨a, b, rfl, rfl, hb, ha, q⟩ := h
  obtain ⟨t, rfl⟩ := rx
  obtain ⟨u, rfl, t', rfl⟩ := vals1 rv
  refine call_meets F.slot_str_partition (typeIs_str s a t) F.entry_str_partition (F.args_str_partition_2 _ _) (meets_str_partition a b t t' hb ha) ?_
  unfold rK at q
  split
  · rename_i i tl e
    rw [e] at q
    refine ⟨.ref s.heap.objs.size, _, I.laid (o := .tup _) (fun b ob q => Heap.get?_push_of_some _ q) (Nat.le_refl _) ?_, rfl, q _ (I.hok.fresh (Nat.le_refl _))⟩
    exact ⟨by show 3 ≤ sizeLine; decide, _, .cons ⟨_, rfl⟩ (.cons ⟨_, rfl⟩ (.cons ⟨_, rfl⟩ .nil)), IsTup.new _ _⟩
  · rename_i e
    rw [e] at q
    refine ⟨.ref s.heap.objs.size, _, I.laid (o := .tup _) (fun b ob q => Heap.get?_push_of_some _ q) (Nat.le_refl _) ?_, rfl, q _ (I.hok.fresh (Nat.le_refl _))⟩
    exact ⟨by show 3 ≤ sizeLine; decide, _, .cons ⟨_, rfl⟩ (.cons ⟨_, rfl⟩ (.cons ⟨_, rfl⟩ .nil)), IsTup.new _ _⟩
end
end L2
set_option Elab.async false
set_option linter.all false
set_option maxRecDepth 100000
set_option maxHeartbeats 4000000
namespace L2
open PySem PySem.Spec PyProof.Rows
section
variable {X : Cx} {tg : Expr}
def qD (x : Str) : List V := x.cps.toList.map fun c => .str ⟨#[c]⟩
def Its (x : Str) : It := { go := fun i _ => i < x.cps.size, yld := fun i H v H' => H' = H ∧ (qD x)[i]? = some v, stop := fun i _ => x.cps.size ≤ i }
theorem tE {P : Program} {w : World} {K : PySem.W.Frag} {tg : Expr} (it : Addr) (x : Str) (t : Tok) : Turn true P w K tg (Its x) [it] it (fun i h => i ≤ x.cps.size ∧ h.IsStrIter it (strIterType x) x t i) where
  mem := by simp
  obj := fun i h st b hb => by
    have e : b = it := by simpa using hb
    subst e
    obtain ⟨o, e, c, d⟩ := st.2
    exact ⟨o, e, fun v z => by rw [d] at z; cases z⟩
  keep := fun i h h' st k => ⟨st.1, by obtain ⟨o, e, c, d⟩ := st.2; exact ⟨o, k it (by simp) o e, c, d⟩⟩
  item := by
    intro X hP hw hK hc i pins s σ H E I hf st hg
    subst hP hw hK
    obtain ⟨f0, f1, f2, f3, f4, f5⟩ := hf it (by simp)
    have W : Walks X.prog X.w X.A it [it] [it] x.cps.size (SignAt x) (fun i h => h.IsStrIter it (strIterType x) x t i) := by
      have e : strIterType x = "str_ascii_iterator" ∨ strIterType x = "str_iterator" := by
        unfold strIterType; split
        · exact .inl rfl
        · exact .inr rfl
      rcases e with e | e <;> rw [e]
      · exact Walks.strAscii (I.ok.hd (hc rfl)) it x t
      · exact Walks.strWide (I.ok.hd (hc rfl)) it x t
    refine W.item i s _ _ hg st.2 fun v h' tk hv st' kk => ?_
    obtain ⟨c, u, hcu, rfl⟩ := hv
    have I1 : Inv X pins σ H { s with heap := h', toks := tk } := I.turned (fun b o hb e => kk b o (by simpa using hb) e) f0 f1 f3 f4 f5
    obtain ⟨o, e1, e2, e3⟩ := id st'
    refine ⟨_, rfl, rF (s := { s with heap := h', toks := tk }) e1 e2 e3 (by unfold strIterType; split <;> decide) ⟨.str ⟨#[c]⟩, H, I1, ⟨_, rfl⟩, ⟨rfl, ?_⟩, ⟨hg, st'⟩, fun b hb => (hf b hb).1⟩⟩
    unfold qD
    rw [List.getElem?_map, Array.getElem?_toList, hcu]
    rfl
  done := by
    intro X hP hw hK hc i pins s σ H E I hf st hg
    subst hP hw hK
    obtain ⟨f0, f1, f2, f3, f4, f5⟩ := hf it (by simp)
    have W : Walks X.prog X.w X.A it [it] [it] x.cps.size (SignAt x) (fun i h => h.IsStrIter it (strIterType x) x t i) := by
      have e : strIterType x = "str_ascii_iterator" ∨ strIterType x = "str_iterator" := by
        unfold strIterType; split
        · exact .inl rfl
        · exact .inr rfl
      rcases e with e | e <;> rw [e]
      · exact Walks.strAscii (I.ok.hd (hc rfl)) it x t
      · exact Walks.strWide (I.ok.hd (hc rfl)) it x t
    have hi : i = x.cps.size := Nat.le_antisymm st.1 hg
    subst hi
    exact W.done s _ _ st.2 fun h' tk kk => ⟨rfl, I.turned (fun b o hb e => kk b o (by simpa using hb) e) f0 f1 f3 f4 f5⟩
  self := fun A i s Q E st h => by
    have e : strIterType x = "str_ascii_iterator" ∨ strIterType x = "str_iterator" := by
      unfold strIterType; split
      · exact .inl rfl
      · exact .inr rfl
    rcases e with e | e <;> rw [e] at st
    · exact wpAny_pyIter_striter_ascii st.2 h
    · exact wpAny_pyIter_striter_wide st.2 h
noncomputable def AZ (tl : TE) : TI := fun σ H R => tl σ H fun x H1 => ∃ z, x = .str z ∧ R (Its z) H1
theorem yk {l : Expr} {tl : TE} (hc : X.calm = true) (hl : PE X l tl) : PI X tg l (AZ tl) := by
  intro pins s σ H R I h
  refine thn (hl pins s σ H _ I h) fun v s1 ⟨x, H1, I1, r1, q1⟩ => ?_
  obtain ⟨z, rfl, q⟩ := q1
  obtain ⟨t, rfl⟩ := r1
  refine wpAny_pyIter_strU ?_
  refine ⟨s1.heap.objs.size, [s1.heap.objs.size], _, _, H1, rfl, I1.kept (t' := s1.toks) fun b o e => Heap.get?_push_of_some _ e, (tE _ z t).calm hc, ⟨Nat.zero_le _, _, Heap.get?_push_size _ rfl, rfl, rfl⟩, fun b hb => ?_, q⟩
  have e : b = s1.heap.objs.size := by simpa using hb
  subst e
  exact I1.u6 (Nat.le_refl _) (I1.hok.fresh (Nat.le_refl _))
def iQ (sep : Str) (ws : List Str) : Str := match ws with
  | [p] => p
  | l => Builtin.Str.glued sep l
def rJoin : V → List V → Hp → VK → Prop := fun x vs H Q => ∃ (z : Str) (a : Addr) (ws : List Str), x = .str z ∧ vs = [.ref a] ∧ H a = some (.lst (ws.map .str)) ∧ Builtin.Str.tooLong (Array.foldl (fun n w => n + w.length + z.length) 0 ws.toArray) = false ∧ (iQ z ws).length ≤ sizeLine ∧ Q (.str (iQ z ws)) H
theorem mH : ∀ {ws : List Str} {us : List Value}, Vals (ws.map .str) us → ∃ l : List (Str × Tok), us = strValues l ∧ l.map (·.1) = ws
  | [], _, .nil => ⟨[], rfl, rfl⟩
  | w :: r, _, .cons ⟨t, e⟩ h => by
    obtain ⟨l, rfl, rfl⟩ := mH h
    exact ⟨(w, t) :: l, by rw [e]; rfl, rfl⟩
theorem vO : MtM X "str.join" rJoin := by
  intro pins s σ H x vs v us Q I rx rv h
  obtain ⟨z, a, ws, rfl, rfl, hH, hz, hs, q⟩ := h
  obtain ⟨t, rfl⟩ := rx
  obtain ⟨u, rfl, ru⟩ := vals1 rv
  cases ru
  obtain ⟨_, its, n, r, hl, e⟩ := I.wL hH
  obtain ⟨l, rfl, rfl⟩ := mH r
  refine call_meets F.slot_str_join (typeIs_str s z t) F.entry_str_join (F.args_str_join_2 _ _) (meets_str_join_list z t a l hz) ⟨⟨_, e, rfl, n, rfl⟩, ?_⟩
  match l, hs, q with
  | [], hs, q => exact ⟨hs, .str _, H, I.tok _, ⟨_, rfl⟩, q⟩
  | [p], hs, q => exact ⟨.str p.1, H, I, ⟨_, rfl⟩, q⟩
  | p :: p' :: l, hs, q => exact ⟨hs, .str _, H, I.tok _, ⟨_, rfl⟩, q⟩
end
end L2
set_option Elab.async false
set_option linter.all false
set_option maxRecDepth 100000
set_option maxHeartbeats 4000000
namespace L2
open PySem PySem.Spec PyProof.Rows
section
variable {X : Cx} {e e1 e2 : Expr} {es : List Expr} {te : TE} {pos : Pos}
abbrev TJ := Str → St → Hp → (Str → Hp → Prop) → Prop
noncomputable def PJ (X : Cx) (es : List Expr) (t : TJ) : Prop := ∀ (pins : List (Addr × Obj)) (s : Shared) (σ : St) (H : Hp) (acc : Str) (Q : Str → Hp → Prop), Inv X pins σ H s → t acc σ H Q →
  Joins (model X.prog X.w) X.A X.xe (evalEach es X.env) acc (fun out s1 => out.length ≤ sizeLine ∧ ∃ H1, Inv X pins σ H1 s1 ∧ Q out H1) s
def tjN : TJ := fun acc _ H Q => acc.length ≤ sizeLine ∧ Q acc H
def tjC (te : TE) (tj : TJ) : TJ := fun acc σ H Q => te σ H fun x H1 => ∃ y, x = .str y ∧ (acc ++ y).length ≤ sizeLine ∧ tj (acc ++ y) σ H1 Q
theorem xP : PJ X [] tjN := by
  intro pins s σ H acc Q I h
  exact ⟨h.1, H, I, h.2⟩
theorem vV {tj : TJ} (he : PE X e te) (hr : PJ X es tj) : PJ X (e :: es) (tjC te tj) := by
  intro pins s σ H acc Q I h
  show Joins _ _ _ (eval e X.env :: evalEach es X.env) acc _ s
  rw [Joins.eq_2]
  refine thn (he pins s σ H _ I h) fun v s1 ⟨x, H1, I1, r1, q1⟩ => ?_
  obtain ⟨y, rfl, hl, q⟩ := q1
  obtain ⟨t, rfl⟩ := r1
  exact ⟨y, t, rfl, hl, hr pins s1 σ H1 _ Q I1 q⟩
noncomputable def tJS (tj : TJ) : TE := fun σ H Q => tj Str.empty σ H fun z H1 => Q (.str z) H1
theorem sC {tj : TJ} (h : PJ X (e1 :: e2 :: es) tj) : PE X (.JoinedStr (e1 :: e2 :: es) pos) (tJS tj) := by
  intro pins s σ H Q I hq
  refine wpAny_JoinedStr ?_
  have := h pins s σ H Str.empty (fun z H1 => Q (.str z) H1) I hq
  clear I hq h
  revert this
  generalize evalEach (e1 :: e2 :: es) X.env = ts
  generalize Str.empty = acc
  induction ts generalizing acc s with
  | nil => exact fun ⟨a, H1, b, c⟩ => ⟨a, .str acc, H1, b.tok _, ⟨_, rfl⟩, c⟩
  | cons t r ih =>
    intro g
    rw [Joins.eq_2] at g ⊢
    exact thn g fun v s1 ⟨y, tk, e, hl, g'⟩ => ⟨y, tk, e, hl, ih s1 _ g'⟩
noncomputable def tFv (te : TE) : TE := fun σ H Q => te σ H fun x H1 => ∃ z, x = .str z ∧ z.length ≤ sizeLine ∧ Q (.str z) H1
theorem Ad (he : PE X e te) : PE X (.FormattedValue e (-1) none pos) (tFv te) := by
  intro pins s σ H Q I h
  refine wpAny_FormattedValue_plain (thn (he pins s σ H _ I h) fun v s1 ⟨x, H1, I1, r1, q1⟩ => ?_)
  obtain ⟨z, rfl, hz, q⟩ := q1
  obtain ⟨t, rfl⟩ := r1
  exact wpAny_formatField_str ⟨.str z, H1, I1, ⟨_, rfl⟩, q⟩ ⟨.str z, H1, I1.tok _, ⟨_, rfl⟩, q⟩ hz
end
end L2
namespace L2.DL
open PySem PySem.Spec PyProof.Rows
section
variable {X : Cx} {a b e e1 e2 o : Expr} {es : List Expr} {ta tb te to : DTE} {t : DTA} {pos p p2 apos cpos : Pos} {lo hi : Option Expr}
def aT : D → D → Mu → DK → Prop := fun x y μ Q => match x, y with
  | .v (.str i), .v (.str j) => i.length + j.length ≤ 10000 ∧ Q (.v (.str (i ++ j))) μ
  | _, _ => False
theorem bU {n : Nat} (h : n ≤ 10000) : n ≤ sizeLine := Nat.le_trans h (by decide)
theorem wU {K : PySem.W.Frag} : gB K (fun x y H Q => ∃ i j, x = .str i ∧ y = .str j ∧ i.length + j.length ≤ sizeLine ∧ Q (.str (i ++ j)) H) aT := by
  intro x y ux uy H μ Qd Q ok rx ry h k
  unfold aT at h
  split at h
  · cases rx; cases ry
    exact ⟨_, _, rfl, rfl, bU h.1, k (.v _) _ μ H .refl ok (.str _) h.2⟩
  · exact h.elim
theorem cC (ha : DE X a ta) (hb : DE X b tb) : DE X (.BinOp a .Add b pos) (dOp aT ta tb) := lD qy wU ha hb
def inS (i j : Str) : Bool := !(Builtin.Str.occurrences j i 0 j.length 1).isEmpty
def rq (neg : Bool) : D → D → Mu → DK → Prop := fun x y μ Q => match x, y with
  | .v (.str i), .v (.str j) => Q (.v (.bool (neg ^^ inS i j))) μ
  | _, _ => False
theorem yE {K : PySem.W.Frag} : gB K (fun x y H Q => ∃ i j, x = .str i ∧ y = .str j ∧ Q (.bl (!(Builtin.Str.occurrences j i 0 j.length 1).isEmpty)) H) (rq false) := by
  intro x y ux uy H μ Qd Q ok rx ry h k
  unfold rq at h
  split at h
  · cases rx; cases ry
    rw [Bool.false_xor] at h
    exact ⟨_, _, rfl, rfl, k (.v _) _ μ H .refl ok (.bool _) h⟩
  · exact h.elim
def gw : List D → Mu → DK → Prop := fun xs μ Q => match xs with
  | [.v (.int i)] => i.natAbs.log2 < 1920 ∧ Q (.v (.str (toString i))) μ
  | _ => False
theorem x3 {K : PySem.W.Frag} : gI K (fun xs H Q => ∃ i, xs = [.int i] ∧ i.natAbs.log2 < 1920 ∧ Q (.str (toString i)) H) gw := by
  intro xs us H μ Qd Q ok rs h k
  unfold gw at h
  split at h
  · rename_i i
    cases rs with
    | cons r1 r2 => cases r2; cases r1; exact ⟨i, rfl, h.1, k (.v _) _ μ H .refl ok (Rp.str _) h.2⟩
  · exact h.elim
theorem fN (hg : Gl X "str") (hm : X.mg "str" = none) (ha : DA X (e :: es) t)
    (he : starEach (e :: es) X.env = (false, eval e X.env) :: starEach es X.env := by rfl) (hpl : (backTo pos (starEach es X.env)).any (·.1) = false := by rfl) : DE X (.Call (.Name "str" p) (e :: es) [] pos) (dCB gw t) :=
  jT nQ x3 hg hm PyProof.Rows.Boot.«str» ha (by decide) (by decide) he hpl
def pk : List D → Mu → DK → Prop := fun xs μ Q => match xs with
  | [.v (.str z)] => ∃ n, intText? z = some n ∧ z.length ≤ 640 ∧ Q (.v (.int n)) μ
  | _ => False
theorem wj {K : PySem.W.Frag} : gI K (fun xs H Q => ∃ z n, xs = [.str z] ∧ intText? z = some n ∧ z.length ≤ 640 ∧ Q (.int n) H) pk := by
  intro xs us H μ Qd Q ok rs h k
  unfold pk at h
  split at h
  · rename_i z
    obtain ⟨n, h1, h2, h3⟩ := h
    cases rs with
    | cons r1 r2 => cases r2; cases r1; exact ⟨z, n, rfl, h1, h2, k (.v _) _ μ H .refl ok (Rp.int _) h3⟩
  · exact h.elim
theorem wz (hg : Gl X "int") (hm : X.mg "int" = none) (ha : DA X (e :: es) t)
    (he : starEach (e :: es) X.env = (false, eval e X.env) :: starEach es X.env := by rfl) (hpl : (backTo pos (starEach es X.env)).any (·.1) = false := by rfl) : DE X (.Call (.Name "int" p) (e :: es) [] pos) (dCB pk t) :=
  jT lN wj hg hm PyProof.Rows.Boot.«int» ha (by decide) (by decide) he hpl
def ow : List D → Mu → DK → Prop := fun xs μ Q => match xs with
  | [.v (.str z)] => z.length ≤ 10000 ∧ Q (.v (.int (z.length : Nat))) μ
  | _ => False
theorem wM {K : PySem.W.Frag} : gI K (fun xs H Q => ∃ z, xs = [.str z] ∧ z.length ≤ sizeLine ∧ Q (.int z.length) H) ow := by
  intro xs us H μ Qd Q ok rs h k
  unfold ow at h
  split at h
  · rename_i z
    cases rs with
    | cons r1 r2 => cases r2; cases r1; exact ⟨z, rfl, bU h.1, k (.v _) _ μ H .refl ok (Rp.int _) h.2⟩
  · exact h.elim
theorem w4 (hg : Gl X "len") (hm : X.mg "len" = none) (ha : DA X (e :: es) t)
    (he : starEach (e :: es) X.env = (false, eval e X.env) :: starEach es X.env := by rfl) (hpl : (backTo pos (starEach es X.env)).any (·.1) = false := by rfl) : DE X (.Call (.Name "len" p) (e :: es) [] pos) (dCB ow t) :=
  fH nh wM hg hm PySem.boot_len ha (by decide) (by decide) he hpl
noncomputable def mZ (te : DTE) (tl th : DTO) : DTE := fun ρ μ Q => te ρ μ fun x μ1 => tl ρ μ1 fun l μ2 => th ρ μ2 fun u μ3 => match x with
  | .v (.str z) => z.length ≤ 10000 ∧ Q (.v (.str (Txt.slice z l u))) μ3
  | _ => False
theorem d8 {tl th : DTO} (he : DE X e te) (hl : DO X lo tl) (hu : DO X hi th) : DE X (.Subscript e (.Slice lo hi none p2) pos) (mZ te tl th) := by
  obtain ⟨t1, p1, l1⟩ := he
  obtain ⟨t2, p2, l2⟩ := hl
  obtain ⟨t3, p3, l3⟩ := hu
  refine ⟨_, tT xQ p1 p2 p3, fun σ H ρ μ Qd Q S h k => ?_⟩
  refine l1 σ H ρ μ _ _ S h fun x ux μ1 H1 e1 S1 rx h1 => ?_
  refine l2 σ H1 ρ μ1 _ _ S1 h1 fun l μ2 H2 e2 S2 h2 => ?_
  refine l3 σ H2 ρ μ2 _ _ S2 h2 fun u μ3 H3 e3 S3 h3 => ?_
  split at h3
  · cases rx
    exact ⟨_, rfl, bU h3.1, k (.v _) _ μ3 H3 (e1.trans (e2.trans e3)) S3 (Rp.str _) h3.2⟩
  · exact h3.elim
def kd (x y : Str) : Bool := decide (0 + y.length ≤ x.length) && Builtin.Str.subAt x y 0
def rE (x y : Str) : Bool := decide (0 + y.length ≤ x.length) && Builtin.Str.subAt x y (x.length - y.length)
noncomputable def dSM (g : Str → Str → PyData) (to te : DTE) : DTE := fun ρ μ Q => to ρ μ fun x μ1 => match x with
  | .v (.str i) => te ρ μ1 fun y μ2 => (match y with
    | .v (.str j) => Q (.v (g i j)) μ2
    | _ => False)
  | _ => False
theorem tU {name : Str} {id : String} {g : Str → Str → PyData} {gv : Str → Str → V} (slot : Slot "str" name id) (hty : typeOf (.builtin id) = pure (.type "method_descriptor")) (hmt : MtM X id (rSM gv)) (hg : ∀ (K : PySem.W.Frag) (μ : Mu) (H : Hp) x y, Rp K μ H (g x y) (gv x y))
    (ho : DE X o to) (ha : DE X e te) (hbase : attributeBase o name X.env (eval o X.env) = eval o X.env)
    (hfew : ((backTo cpos (starEach [e] X.env)).all (fun x => !x.1) && (backToKw cpos (keywordEach [] X.env)).all (fun x => x.1.isSome)
      && decide ([e].length + ([] : List Keyword).length + (if ([] : List Keyword).isEmpty then 0 else 1) < 30)) = true)
    (hline : (apos.endLine == cpos.line) = true) (hs : starEach [e] X.env = (false, eval e X.env) :: starEach [] X.env) (hplain : (backTo cpos (starEach [] X.env)).any (·.1) = false) :
    DE X (.Call (.Attribute o name apos) [e] [] cpos) (dSM g to te) := by
  obtain ⟨t1, p1, l1⟩ := ho
  obtain ⟨t2, p2, l2⟩ := ha
  refine ⟨_, qQ PySem.F.plainAttrs_str slot hty hmt p1 (gp p2 jN hs) hbase hfew hline hs hplain, fun σ H ρ μ Qd Q S h k => ?_⟩
  refine l1 σ H ρ μ _ _ S h fun x ux μ1 H1 e1 S1 rx h1 => ?_
  split at h1
  · cases rx
    refine ⟨rfl, ?_⟩
    refine l2 σ H1 ρ μ1 _ _ S1 h1 fun y uy μ2 H2 e2 S2 ry h2 => ?_
    split at h2
    · cases ry
      exact ⟨_, _, rfl, rfl, k (.v _) _ μ2 H2 (e1.trans e2) S2 (hg _ _ _ _ _) h2⟩
    · exact h2.elim
  · exact h1.elim
end
open PySem PySem.Spec PyProof.Rows
section
variable {X : Cx} {a b e e1 e2 o tg : Expr} {es : List Expr} {ta tb te to : DTE} {t : DTA} {pos p p2 apos cpos : Pos} {lo hi : Option Expr}
def ib (x y : Str) : List PyData := match Builtin.Str.occurrences x y 0 x.length 1 with
  | i :: _ => [.str (Builtin.Str.strSub x 0 i), .str y, .str (Builtin.Str.strSub x (i + y.length) x.length)]
  | [] => [.str x, .str Str.empty, .str Str.empty]
theorem wq {K : PySem.W.Frag} {μ : Mu} {H : Hp} (x y : Str) : RpL K μ H (ib x y) (rK x y) := by
  unfold ib rK
  cases Builtin.Str.occurrences x y 0 x.length 1 with
  | nil => exact .cons (.str _) (.cons (.str _) (.cons (.str _) .nil))
  | cons i r => exact .cons (.str _) (.cons (.str _) (.cons (.str _) .nil))
noncomputable def pP (to te : DTE) : DTE := fun ρ μ Q => to ρ μ fun x μ1 => match x with
  | .v (.str i) => te ρ μ1 fun y μ2 => (match y with
    | .v (.str j) => (j.length == 0) = false ∧ i.length ≤ 10000 ∧ Q (.v (.tuple (ib i j))) μ2
    | _ => False)
  | _ => False
theorem vq (ho : DE X o to) (ha : DE X e te) (hbase : attributeBase o "partition" X.env (eval o X.env) = eval o X.env := by rfl)
    (hfew : ((backTo cpos (starEach [e] X.env)).all (fun x => !x.1) && (backToKw cpos (keywordEach [] X.env)).all (fun x => x.1.isSome)
      && decide ([e].length + ([] : List Keyword).length + (if ([] : List Keyword).isEmpty then 0 else 1) < 30)) = true := by rfl)
    (hline : (apos.endLine == cpos.line) = true := by rfl) (hs : starEach [e] X.env = (false, eval e X.env) :: starEach [] X.env := by rfl) (hplain : (backTo cpos (starEach [] X.env)).any (·.1) = false := by rfl) :
    DE X (.Call (.Attribute o "partition" apos) [e] [] cpos) (pP to te) := by
  obtain ⟨t1, p1, l1⟩ := ho
  obtain ⟨t2, p2, l2⟩ := ha
  refine ⟨_, qQ PySem.F.plainAttrs_str PySem.F.slot_str_partition PySem.F.type_str_partition nk p1 (gp p2 jN hs) hbase hfew hline hs hplain, fun σ H ρ μ Qd Q S h k => ?_⟩
  refine l1 σ H ρ μ _ _ S h fun x ux μ1 H1 e1 S1 rx h1 => ?_
  split at h1
  · cases rx
    refine ⟨rfl, ?_⟩
    refine l2 σ H1 ρ μ1 _ _ S1 h1 fun y uy μ2 H2 e2 S2 ry h2 => ?_
    split at h2
    · cases ry
      exact ⟨_, _, rfl, rfl, h2.1, bU h2.2.1, fun p hp => k (.v _) _ μ2 _ ((e1.trans e2).trans (gu hp)) (S2.new hp) (ku S2.mu (wq _ _) hp) h2.2.2⟩
    · exact h2.elim
  · exact h1.elim
def gU : List PyData → Option (List Str)
  | [] => some []
  | .str z :: r => (gU r).map (z :: ·)
  | _ :: _ => none
theorem nP {K : PySem.W.Frag} {μ : Mu} {H : Hp} : ∀ {xs : List PyData} {us : List V} {ws : List Str}, RpL K μ H xs us → gU xs = some ws → us = ws.map .str
  | [], _, ws, .nil, h => by cases (show some [] = some ws from h); rfl
  | x :: r, _, ws, .cons q t, h => by
    cases q <;> first | (rename_i z; cases er : gU r with
      | none => simp [gU, er] at h
      | some ws' => simp [gU, er] at h; rw [← h, nP t er]; rfl) | cases h
def qI (n : Nat) (ws : List Str) : Nat := Array.foldl (fun k w => k + w.length + n) 0 ws.toArray
def wx (μ : Mu) : D → Option (List PyData)
  | .v (.list xs) => some xs
  | .m l => μ l
  | _ => none
noncomputable def qj (to te : DTE) : DTE := fun ρ μ Q => to ρ μ fun x μ1 => match x with
  | .v (.str z) => te ρ μ1 fun y μ2 => ∃ xs ws, wx μ2 y = some xs ∧ gU xs = some ws ∧ qI z.length ws ≤ 10000 ∧ (iQ z ws).length ≤ 10000 ∧ Q (.v (.str (iQ z ws))) μ2
  | _ => False
theorem uS (ho : DE X o to) (ha : DE X e te) (hbase : attributeBase o "join" X.env (eval o X.env) = eval o X.env := by rfl)
    (hfew : ((backTo cpos (starEach [e] X.env)).all (fun x => !x.1) && (backToKw cpos (keywordEach [] X.env)).all (fun x => x.1.isSome)
      && decide ([e].length + ([] : List Keyword).length + (if ([] : List Keyword).isEmpty then 0 else 1) < 30)) = true := by rfl)
    (hline : (apos.endLine == cpos.line) = true := by rfl) (hs : starEach [e] X.env = (false, eval e X.env) :: starEach [] X.env := by rfl) (hplain : (backTo cpos (starEach [] X.env)).any (·.1) = false := by rfl) :
    DE X (.Call (.Attribute o "join" apos) [e] [] cpos) (qj to te) := by
  obtain ⟨t1, p1, l1⟩ := ho
  obtain ⟨t2, p2, l2⟩ := ha
  refine ⟨_, qQ PySem.F.plainAttrs_str PySem.F.slot_str_join PySem.F.type_str_join vO p1 (gp p2 jN hs) hbase hfew hline hs hplain, fun σ H ρ μ Qd Q S h k => ?_⟩
  refine l1 σ H ρ μ _ _ S h fun x ux μ1 H1 e1 S1 rx h1 => ?_
  split at h1
  · cases rx
    refine ⟨rfl, ?_⟩
    refine l2 σ H1 ρ μ1 _ _ S1 h1 fun y uy μ2 H2 e2 S2 ry h2 => ?_
    obtain ⟨xs, ws, hl, hw, hz, hj, q⟩ := h2
    have tl : ∀ n, n ≤ 10000 → Builtin.Str.tooLong n = false := fun n h => by
      unfold Builtin.Str.tooLong
      exact decide_eq_false (Nat.not_lt.mpr (bU h))
    cases y with
    | v d =>
      cases d <;> first | cases hl | skip
      cases ry with
      | @list l us _ ha hn ra =>
        have eu := nP ra hw
        subst eu
        exact ⟨_, l, ws, rfl, rfl, ha, tl _ hz, bU hj, k (.v _) _ μ2 H2 (e1.trans e2) S2 (Rp.str _) q⟩
    | m l =>
      obtain ⟨rfl, ds, hm⟩ := id ry
      obtain ⟨us, ha, ra⟩ := S2.mu l ds hm
      have : ds = xs := by rw [show wx μ2 (.m l) = μ2 l from rfl, hm] at hl; cases hl; rfl
      subst this
      have eu := nP ra hw
      subst eu
      exact ⟨_, l, ws, rfl, rfl, ha, tl _ hz, bU hj, k (.v _) _ μ2 H2 (e1.trans e2) S2 (Rp.str _) q⟩
    | s ns => cases hl
    | o a => cases hl
    | q P => cases hl
  · exact h1.elim
abbrev DTJ := Str → Rho → Mu → (Str → Mu → Prop) → Prop
noncomputable def zg (K : PySem.W.Frag) (t : TJ) (td : DTJ) : Prop := ∀ (acc : Str) (σ : St) (H : Hp) (ρ : Rho) (μ : Mu) (Qd : Str → Mu → Prop) (Q : Str → Hp → Prop), St0 K H ρ μ σ → td acc ρ μ Qd →
  (∀ z μ' H', Ext K μ H μ' H' → St0 K H' ρ μ' σ → Qd z μ' → Q z H') → t acc σ H Q
noncomputable def DJ (X : Cx) (es : List Expr) (td : DTJ) : Prop := ∃ t, PJ X es t ∧ zg X.K t td
def djN : DTJ := fun acc _ μ Q => acc.length ≤ 10000 ∧ Q acc μ
def djC (te : DTE) (tj : DTJ) : DTJ := fun acc ρ μ Q => te ρ μ fun x μ1 => match x with
  | .v (.str y) => (acc ++ y).length ≤ 10000 ∧ tj (acc ++ y) ρ μ1 Q
  | _ => False
theorem tY : DJ X [] djN := ⟨_, xP, fun acc σ H ρ μ Qd Q S h k => ⟨bU h.1, k acc μ H .refl S h.2⟩⟩
theorem g8 {tj : DTJ} (he : DE X e te) (hr : DJ X es tj) : DJ X (e :: es) (djC te tj) := by
  obtain ⟨t1, p1, l1⟩ := he
  obtain ⟨t2, p2, l2⟩ := hr
  refine ⟨_, vV p1 p2, fun acc σ H ρ μ Qd Q S h k => ?_⟩
  refine l1 σ H ρ μ _ _ S h fun x ux μ1 H1 e1 S1 rx h1 => ?_
  split at h1
  · cases rx
    exact ⟨_, rfl, bU h1.1, l2 _ σ H1 ρ μ1 _ _ S1 h1.2 fun z μ2 H2 e2 S2 q => k z μ2 H2 (e1.trans e2) S2 q⟩
  · exact h1.elim
noncomputable def dJS (tj : DTJ) : DTE := fun ρ μ Q => tj Str.empty ρ μ fun z μ1 => Q (.v (.str z)) μ1
theorem mn {tj : DTJ} (h : DJ X (e1 :: e2 :: es) tj) : DE X (.JoinedStr (e1 :: e2 :: es) pos) (dJS tj) := by
  obtain ⟨t1, p1, l1⟩ := h
  exact ⟨_, sC p1, fun σ H ρ μ Qd Q S h k => l1 _ σ H ρ μ _ _ S h fun z μ1 H1 e1 S1 q => k (.v _) _ μ1 H1 e1 S1 (Rp.str _) q⟩
noncomputable def dFv (te : DTE) : DTE := fun ρ μ Q => te ρ μ fun x μ1 => match x with
  | .v (.str z) => z.length ≤ 10000 ∧ Q (.v (.str z)) μ1
  | _ => False
theorem uB (he : DE X e te) : DE X (.FormattedValue e (-1) none pos) (dFv te) := by
  obtain ⟨t1, p1, l1⟩ := he
  refine ⟨_, Ad p1, fun σ H ρ μ Qd Q S h k => ?_⟩
  refine l1 σ H ρ μ _ _ S h fun x ux μ1 H1 e1 S1 rx h1 => ?_
  split at h1
  · cases rx
    exact ⟨_, rfl, bU h1.1, k (.v _) _ μ1 H1 e1 S1 (Rp.str _) h1.2⟩
  · exact h1.elim
def gn (z : Str) : List PyData := z.cps.toList.map fun c => .str ⟨#[c]⟩
noncomputable def tL (te : DTE) : DTI := fun ρ μ Q => te ρ μ fun x μ1 => match x with
  | .v (.str z) => Q (gn z) μ1
  | _ => False
theorem y9 (h : DE X e te) (hc : X.calm = true := by rfl) : DI X tg e (tL te) := by
  obtain ⟨t1, p1, l1⟩ := h
  refine ⟨_, yk hc p1, fun σ H ρ μ Qd R S h k => ?_⟩
  refine l1 σ H ρ μ _ _ S h fun d u μ1 H1 e1 S1 r h1 => ?_
  split at h1
  · rename_i z
    cases r
    refine ⟨z, rfl, k (gn z) μ1 H1 _ e1 S1 (fun μ2 H2 e2 ok2 i => ?_) h1⟩
    have hl : (gn z).length = z.cps.size := by unfold gn; simp
    refine ⟨fun hi => ?_, fun hi => ?_⟩
    · rw [hl] at hi
      refine ⟨hi, fun x H' ⟨eH, hx⟩ => ?_⟩
      subst eH
      unfold qD at hx
      rw [List.getElem?_map, Array.getElem?_toList, Array.getElem?_eq_getElem hi] at hx
      cases hx
      exact ⟨.str ⟨#[z.cps[i]]⟩, by unfold gn; rw [List.getElem?_map, Array.getElem?_toList, Array.getElem?_eq_getElem hi]; rfl, lY.refl _, .str _⟩
    · show z.cps.size ≤ i
      omega
  · exact h1.elim
end
open PySem PySem.Spec PyProof.Rows
section
variable {X : Cx} {e o : Expr} {te to : DTE} {apos cpos : Pos}
noncomputable def uT (to : DTE) : DTT := fun ρ μ Q => to ρ μ fun x μ1 => match x with
  | .v (.str z) => z.length ≤ 10000 ∧ Q (((z.length : Nat) : Int) != 0) μ1
  | _ => False
theorem wm (ho : DE X o to) (he : ∀ whole, isTrue o X.env whole = (do let v ← whole; standAt o.pos; holding [v] (truthy v)) := by intro _; rfl) : DT X o (uT to) := by
  obtain ⟨t1, p1, l1⟩ := ho
  refine ⟨_, uG p1 he, fun σ H ρ μ Qd Q S h k => ?_⟩
  refine l1 σ H ρ μ _ _ S h fun x ux μ1 H1 e1 S1 rx h1 => ?_
  split at h1
  · cases rx
    exact ⟨_, ⟨bU h1.1, rfl⟩, k _ μ1 H1 e1 S1 h1.2⟩
  · exact h1.elim
theorem sS {ss : List Stmt} : DSs X ss ec := ⟨fun _ _ _ => False, fun _ _ _ _ _ _ h => h.elim, fun _ _ _ _ _ _ _ h => h.elim⟩
def gb (x y : Str) : PyData := .bool (kd x y)
def mq (x y : Str) : PyData := .bool (rE x y)
def ly (x y : Str) : PyData := .int (eh x y)
theorem jx (ho : DE X o to) (ha : DE X e te) (hbase : attributeBase o "startswith" X.env (eval o X.env) = eval o X.env := by rfl)
    (hfew : ((backTo cpos (starEach [e] X.env)).all (fun x => !x.1) && (backToKw cpos (keywordEach [] X.env)).all (fun x => x.1.isSome)
      && decide ([e].length + ([] : List Keyword).length + (if ([] : List Keyword).isEmpty then 0 else 1) < 30)) = true := by rfl)
    (hline : (apos.endLine == cpos.line) = true := by rfl) (hs : starEach [e] X.env = (false, eval e X.env) :: starEach [] X.env := by rfl) (hplain : (backTo cpos (starEach [] X.env)).any (·.1) = false := by rfl) :
    DE X (.Call (.Attribute o "startswith" apos) [e] [] cpos) (dSM gb to te) := tU PySem.F.slot_str_startswith PySem.F.type_str_startswith sd (fun _ _ _ _ _ => Rp.bool _) ho ha hbase hfew hline hs hplain
theorem qJ (ho : DE X o to) (ha : DE X e te) (hbase : attributeBase o "endswith" X.env (eval o X.env) = eval o X.env := by rfl)
    (hfew : ((backTo cpos (starEach [e] X.env)).all (fun x => !x.1) && (backToKw cpos (keywordEach [] X.env)).all (fun x => x.1.isSome)
      && decide ([e].length + ([] : List Keyword).length + (if ([] : List Keyword).isEmpty then 0 else 1) < 30)) = true := by rfl)
    (hline : (apos.endLine == cpos.line) = true := by rfl) (hs : starEach [e] X.env = (false, eval e X.env) :: starEach [] X.env := by rfl) (hplain : (backTo cpos (starEach [] X.env)).any (·.1) = false := by rfl) :
    DE X (.Call (.Attribute o "endswith" apos) [e] [] cpos) (dSM mq to te) := tU PySem.F.slot_str_endswith PySem.F.type_str_endswith wk (fun _ _ _ _ _ => Rp.bool _) ho ha hbase hfew hline hs hplain
theorem pq (ho : DE X o to) (ha : DE X e te) (hbase : attributeBase o "rfind" X.env (eval o X.env) = eval o X.env := by rfl)
    (hfew : ((backTo cpos (starEach [e] X.env)).all (fun x => !x.1) && (backToKw cpos (keywordEach [] X.env)).all (fun x => x.1.isSome)
      && decide ([e].length + ([] : List Keyword).length + (if ([] : List Keyword).isEmpty then 0 else 1) < 30)) = true := by rfl)
    (hline : (apos.endLine == cpos.line) = true := by rfl) (hs : starEach [e] X.env = (false, eval e X.env) :: starEach [] X.env := by rfl) (hplain : (backTo cpos (starEach [] X.env)).any (·.1) = false := by rfl) :
    DE X (.Call (.Attribute o "rfind" apos) [e] [] cpos) (dSM ly to te) := tU PySem.F.slot_str_rfind PySem.F.type_str_rfind tG (fun _ _ _ _ _ => Rp.int _) ho ha hbase hfew hline hs hplain
end
section
variable {ρ : Rho} {μ : Mu} {Q : DK} {QT : Bool → Mu → Prop} {QI : List PyData → Mu → Prop} {QS : Str → Mu → Prop} {ta tb te to : DTE} {i j z acc : Str} {n : Int} {tj : DTJ} {tl th : DTO} {xs : List PyData} {l : Addr}
theorem nJ : aT (.v (.str i)) (.v (.str j)) μ Q = (i.length + j.length ≤ 10000 ∧ Q (.v (.str (i ++ j))) μ) := propext Iff.rfl
theorem xt {neg : Bool} : rq neg (.v (.str i)) (.v (.str j)) μ Q = Q (.v (.bool (neg ^^ inS i j))) μ := propext Iff.rfl
theorem rC : gw [.v (.int n)] μ Q = (n.natAbs.log2 < 1920 ∧ Q (.v (.str (toString n))) μ) := propext Iff.rfl
theorem uC : pk [.v (.str z)] μ Q = (∃ n, intText? z = some n ∧ z.length ≤ 640 ∧ Q (.v (.int n)) μ) := propext Iff.rfl
theorem rz : ow [.v (.str z)] μ Q = (z.length ≤ 10000 ∧ Q (.v (.int (z.length : Nat))) μ) := propext Iff.rfl
theorem xi : mZ te tl th ρ μ Q = te ρ μ fun x μ1 => tl ρ μ1 fun l μ2 => th ρ μ2 fun u μ3 => match x with | .v (.str z) => z.length ≤ 10000 ∧ Q (.v (.str (Txt.slice z l u))) μ3 | _ => False := propext Iff.rfl
theorem zG {g : Str → Str → PyData} : dSM g to te ρ μ Q = to ρ μ fun x μ1 => match x with | .v (.str i) => te ρ μ1 (fun y μ2 => match y with | .v (.str j) => Q (.v (g i j)) μ2 | _ => False) | _ => False := propext Iff.rfl
theorem qV : pP to te ρ μ Q = to ρ μ fun x μ1 => match x with | .v (.str i) => te ρ μ1 (fun y μ2 => match y with | .v (.str j) => (j.length == 0) = false ∧ i.length ≤ 10000 ∧ Q (.v (.tuple (ib i j))) μ2 | _ => False) | _ => False := propext Iff.rfl
theorem rR : qj to te ρ μ Q = to ρ μ fun x μ1 => match x with | .v (.str z) => te ρ μ1 (fun y μ2 => ∃ xs ws, wx μ2 y = some xs ∧ gU xs = some ws ∧ qI z.length ws ≤ 10000 ∧ (iQ z ws).length ≤ 10000 ∧ Q (.v (.str (iQ z ws))) μ2) | _ => False := propext Iff.rfl
theorem zN : dJS tj ρ μ Q = tj Str.empty ρ μ fun z μ1 => Q (.v (.str z)) μ1 := propext Iff.rfl
theorem zV : djN acc ρ μ QS = (acc.length ≤ 10000 ∧ QS acc μ) := propext Iff.rfl
theorem Ak : djC te tj acc ρ μ QS = te ρ μ fun x μ1 => match x with | .v (.str y) => (acc ++ y).length ≤ 10000 ∧ tj (acc ++ y) ρ μ1 QS | _ => False := propext Iff.rfl
theorem zC : dFv te ρ μ Q = te ρ μ fun x μ1 => match x with | .v (.str z) => z.length ≤ 10000 ∧ Q (.v (.str z)) μ1 | _ => False := propext Iff.rfl
theorem qT : tL te ρ μ QI = te ρ μ fun x μ1 => match x with | .v (.str z) => QI (gn z) μ1 | _ => False := propext Iff.rfl
theorem vw : uT to ρ μ QT = to ρ μ fun x μ1 => match x with | .v (.str z) => z.length ≤ 10000 ∧ QT (((z.length : Nat) : Int) != 0) μ1 | _ => False := propext Iff.rfl
end
end L2.DL
set_option linter.all false
set_option maxRecDepth 100000
set_option maxHeartbeats 1000000
namespace NM
section
variable {d : Int} {x y z k s o : N3} {A B C A' B' C' P Q R E F G : Int}
end
end NM
set_option linter.all false
set_option maxRecDepth 100000
set_option maxHeartbeats 4000000
namespace NM
section
variable {d : Int} {x y z : N3}
section
variable {f : N3}
end
end
end NM
set_option linter.all false
set_option maxRecDepth 100000
set_option maxHeartbeats 4000000
namespace NM
section
variable {d : Int} {n m : Nat} {x y : N3}
end
end NM
set_option linter.all false
set_option maxRecDepth 100000
set_option maxHeartbeats 4000000
namespace NM
section
variable {d : Int} {x y z : N3}
noncomputable def gtL (d : Int) (k o : N3) : Prop := ((qK d o).a.natAbs : Int) * (qK d k).c < ((qK d k).a.natAbs : Int) * (qK d o).c
instance : Decidable (gtL d x y) := by unfold gtL; infer_instance
end
end NM
set_option linter.all false
set_option maxRecDepth 100000
set_option maxHeartbeats 400000
namespace NM
section
variable {d : Int} {x y z k s o f : N3}
end
end NM
set_option linter.all false
set_option maxRecDepth 100000
set_option maxHeartbeats 400000
namespace NM
section
variable {d : Int} {x y z k s o f : N3}
end
end NM
set_option Elab.async false
set_option linter.all false
set_option maxHeartbeats 4000000
namespace NM
section
variable {d : Int} {x y z u p q s t w h p' q' s' t' w' h' : N3}
def hf (d : Int) (p q h : N3) : N3 := plus (times d p h) (times d q (vN h))
end
end NM
set_option linter.all false
set_option maxRecDepth 100000
set_option maxHeartbeats 400000
namespace NM
section
variable {d : Int} {x y z k s o f u v : N3}
end
end NM
set_option Elab.async false
set_option linter.all false
set_option maxRecDepth 100000
set_option maxHeartbeats 4000000
namespace L2.DL
open PySem PySem.Spec PyProof.Rows NM
theorem rB {n : Nat} {i j : Int} (h0 : j ≠ 0) (h : Sz n j) (l : n ≤ 8900) : jV i j := by
  refine ⟨h0, PyProof.noPylong_of_log2 ?_⟩
  have hz' : j.natAbs ≠ 0 := by omega
  have := (Nat.log2_lt hz').mpr h.lt
  omega
theorem divC {i j : Int} (h0 : j ≠ 0) (h1 : j.natAbs < 1073741824) : jV i j := ⟨h0, PyProof.noPylong_small h1⟩
theorem mulL {i j : Int} (h : i.natAbs < 2 ^ 64) : IntMulOk i j := vF.ok (.inl (by omega))
theorem mulR {i j : Int} (h : j.natAbs < 2 ^ 64) : IntMulOk i j := vF.ok (.inr (by omega))
def dN (x : N3) : PyData := .tuple [.int x.a, .int x.b, .int x.c]
def isWhole (d : PyData) : Bool := isT "int" d && !isT "bool" d
def isNum : PyData → Bool
  | .tuple [.int a, .int b, .int c] => decide (1 ≤ c) && (g3 a b c == 1)
  | _ => false
noncomputable def jd : DSp := fun ds μ Q => ∃ d, ds = [.v d] ∧ Q (.v (.bool (isWhole d))) μ
noncomputable def gS : DSp := fun ds μ Q => ∃ a b : Int, ds = [.v (.int a), .v (.int b)] ∧ Q (.v (.int (Int.gcd a b : Nat))) μ
noncomputable def nu : DSp := fun ds μ Q => ∃ a b c : Int, ds = [.v (.int a), .v (.int b), .v (.int c)] ∧ Q (.v (.int (g3 a b c : Nat))) μ
def Few : PyData → Prop
  | .tuple xs => xs.length ≤ 1000
  | _ => True
noncomputable def nr : DSp := fun ds μ Q => ∃ d, ds = [.v d] ∧ Few d ∧ Q (.v (.bool (isNum d))) μ
noncomputable def cU : DSp := fun ds μ Q => ∃ a b c : Int, ds = [.v (.int a), .v (.int b), .v (.int c)] ∧ c ≠ 0 ∧ Sz 8800 c ∧ Q (.v (dN (low a b c))) μ
noncomputable def Bag (μ : Mu) (a : Addr) : Prop := ∃ g m : Int, μ a = some [.int g, .int m] ∧ 0 ≤ g ∧ 0 ≤ m ∧ m < 2147483648
noncomputable def Step (a : Addr) (μ μ' : Mu) : Prop := Bag μ' a ∧ ∀ b, b ≠ a → μ' b = μ b
noncomputable def qR : DSp := fun ds μ Q => ∃ (ns : List Int) (k : Int), ds = [.s ns, .v (.int k)] ∧ 0 ≤ k ∧ k ≤ 1000 ∧ ∀ p μ', μ p = none → Step p μ μ' → Q (.m p) μ'
noncomputable def cE : DSp := fun ds μ Q => ∃ (a : Addr) (n : Int), ds = [.m a, .v (.int n)] ∧ 1 ≤ n ∧ n ≤ 1000000000 ∧ Bag μ a ∧ ∀ r μ', 0 ≤ r → r < n → Step a μ μ' → Q (.v (.int r)) μ'
noncomputable def hE : DSp := fun ds μ Q => ∃ a : Addr, ds = [.m a] ∧ Bag μ a ∧ ∀ x μ', Ok x → Bd 20 x → Step a μ μ' → Q (.v (dN x)) μ'
theorem Step.trans {a : Addr} {μ μ1 μ2 : Mu} (h : Step a μ μ1) (g : Step a μ1 μ2) : Step a μ μ2 := ⟨g.1, fun b n => (g.2 b n).trans (h.2 b n)⟩
theorem Step.set {a : Addr} {μ : Mu} {g m : Int} (h1 : 0 ≤ g) (h2 : 0 ≤ m) (h3 : m < 2147483648) : Step a μ (ar μ a [.int g, .int m]) := ⟨⟨g, m, aD, h1, h2, h3⟩, fun b n => aR n⟩
def mkW(s:String):Lean.MacroM (Lean.TSyntax `tactic):=do let a<-(s.splitOn " ").toArray.mapM fun t=>if t.front=='↓' then `(Lean.Parser.Tactic.simpLemma|↓$(Lean.mkIdent (t.drop 1).toName):term) else `(Lean.Parser.Tactic.simpLemma|$(Lean.mkIdent t.toName):term);`(tactic|simp only[$a,*])
local macro_rules|`(tactic| walk_at "rd")=>mkW "↓pW ↓qw ↓qs ↓pN ↓qq ↓pB ↓p7 ↓qH ↓q_c ↓AQ ↓q_B ↓xT ↓vA ↓vc ↓zK ↓pM ↓yx ↓qi ↓vk ↓qC ↓uP ↓uj ↓qE ↓tJ ↓uW ↓tq ↓pG ↓pV ↓pz ↓mK ↓mL ↓mN ↓qx ↓mv ↓kB ↓um ↓uI ↓uN ↓kA ↓qa ↓AH ↓pA ↓qh ↓uZ ↓xG ↓pU ↓tN ↓uf ↓ng ↓qg ↓mP ↓pY ↓pR ↓zf ↓uF ↓qm ↓uH ↓uc ↓qo ↓zX ↓mQ ↓xF ↓tS ↓qc ↓nW ↓lh uV ↓vg ↓rf p6 pC va uh ur Option.bind_none Option.bind_some Option.join_some List.getElem?_cons_zero List.getElem?_cons_succ aF dN kN mD my oR rn List.map List.append List.replicate List.length_cons List.length_nil Nat.reduceAdd Nat.reduceSub List.nil_append List.cons_append List.set_cons_zero List.set_cons_succ Option.map_some ↓reduceIte Bool.not_true Bool.not_false Bool.false_eq_true Bool.true_eq_false Bool.xor_false Bool.false_xor"
noncomputable def gD : DTS :=
  (bu (kH (qd "int" (ae 0)) (uX (qd "bool" (ae 0)))))
noncomputable def cP : DTS :=
  (az (lC (dB (dOp (bp true) (ae 1) (dC (.int 0)))) (sU 0 1 (ab (ae 1) (ab (j8 (ae 0) (ae 1)) ao))))
  (bu (dCB hW (ab (ae 0) ao))))
noncomputable def cW : DTS :=
  (bu (au gS (ab (au gS (ab (ae 2) (ab (ae 0) ao))) (ab (ae 1) ao))))
noncomputable def ed : DTS :=
  (az (sU 0 1 (ab (dCB hW (ab (ae 0) ao)) (ab (dCB hW (ab (ae 1) ao)) ao)))
  (az (lC (dB (dOp rGt (ae 1) (dC (.int 0)))) (sU 0 1 (ab (ae 1) (ab (j8 (ae 0) (ae 1)) ao))))
  (bu (ae 0))))
section
theorem rN (x : Int) {y : Int} (h : y ≠ 0) : (x.fmod y).natAbs < y.natAbs := by
  have e := Int.mul_fdiv_add_fmod x y
  have := Int.fmod_def x y
  rcases Int.lt_or_gt_of_ne h with h | h
  · have k := Int.neg_fmod_neg (a := x) (b := y)
    have h1 := Int.fmod_nonneg_of_pos (-x) (show 0 < -y by omega)
    have h2 := Int.fmod_lt_of_pos (-x) (show 0 < -y by omega)
    omega
  · have h1 := Int.fmod_nonneg_of_pos x h
    have h2 := Int.fmod_lt_of_pos x h
    omega
theorem oS (x y : Int) : Int.gcd y (x.fmod y) = Int.gcd x y := by
  have e := Int.mul_fdiv_add_fmod x y
  have e' : x.fmod y = x + y * (-(x.fdiv y)) := by rw [Int.mul_neg]; omega
  rw [e', Int.gcd_add_mul_left_right, Int.gcd_comm]
theorem oj {μ Qd ds} (h : jd ds μ Qd) : gD ‹Qd› (aF ["thing"] ds) μ := by
  obtain ⟨d, rfl, q⟩ := h
  unfold gD
  walk_at "rd"
  unfold isWhole at q
  cases hb : isT "int" d <;> simp_all
theorem i4 {μ Qd ds} (h : gS ds μ Qd) : cP ‹Qd› (aF ["a", "b"] ds) μ := by
  obtain ⟨a, b, rfl, q⟩ := h
  unfold cP
  walk_at "rd"
  refine ⟨fun m ρ μ' => ∃ x y : Int, ρ = [some (.v (.int x)), some (.v (.int y))] ∧ m = y.natAbs ∧ Int.gcd x y = Int.gcd a b ∧ μ' = μ, ⟨_, a, b, rfl, rfl, rfl, rfl⟩, ?_⟩
  rintro m ρ μ' ⟨x, y, rfl, rfl, hg, rfl⟩
  walk_at "rd"
  by_cases hy : y = 0
  · subst hy
    have e : Int.gcd x 0 = x.natAbs := Int.gcd_zero_right x
    rw [← hg, e] at q
    simpa using q
  · have z : (true ^^ decide (y = 0)) = true := by simp [hy]
    rw [if_pos z]
    exact ⟨hy, _, rN x hy, y, x.fmod y, rfl, rfl, (oS x y).trans hg, trivial⟩
theorem ki {μ Qd ds} (h : gS ds μ Qd) : ed ‹Qd› (aF ["_law_one", "_law_other"] ds) μ := by
  obtain ⟨a, b, rfl, q⟩ := h
  unfold ed
  walk_at "rd"
  refine ⟨fun m ρ μ' => ∃ x y : Int, ρ = [some (.v (.int x)), some (.v (.int y))] ∧ m = y.natAbs ∧ 0 ≤ x ∧ 0 ≤ y ∧ Int.gcd x y = Int.gcd a b ∧ μ' = μ, ⟨_, _, _, rfl, rfl, by omega, by omega, by simp [Int.gcd], rfl⟩, ?_⟩
  rintro m ρ μ' ⟨x, y, rfl, rfl, hx, hy, hg, rfl⟩
  walk_at "rd"
  by_cases h0 : 0 < y
  · rw [if_pos (by simpa using h0)]
    have hy' : y ≠ 0 := by omega
    exact ⟨hy', _, rN x hy', y, x.fmod y, rfl, rfl, by omega, Int.fmod_nonneg_of_pos x h0, (oS x y).trans hg, trivial⟩
  · rw [if_neg (by simpa using h0)]
    have e : y = 0 := by omega
    subst e
    rw [Int.gcd_zero_right] at hg
    have : x = ((Int.gcd a b : Nat) : Int) := by omega
    rw [this]
    exact q
theorem iD {μ Qd ds} (h : nu ds μ Qd) : cW ‹Qd› (aF ["a", "b", "c"] ds) μ := by
  obtain ⟨a, b, c, rfl, q⟩ := h
  unfold cW
  walk_at "rd"
  rw [← wG] at q
  exact ⟨c, a, rfl, _, b, rfl, q⟩
end
open PySem PySem.Spec PyProof.Rows NM
noncomputable def jJ : DTS :=
  (az (bT (dB (dOp (bp false) (ae 2) (dC (.int 0)))) ec bg)
  (az (aO (au nu (ab (ae 0) (ab (ae 1) (ab (ae 2) ao)))) (aj 3))
  (az (bT (dB (dOp rLt (ae 2) (dC (.int 0)))) (aO (iq (ae 3)) (aj 3)) bg)
  (bu (kh (ab (kj (ae 0) (ae 3)) (ab (kj (ae 1) (ae 3)) (ab (kj (ae 2) (ae 3)) ao))))))))
noncomputable def gF : DTS :=
  (az (aO (lp (au gS (ab (au gS (ab (ae 0) (ab (ae 1) ao))) (ab (ae 2) ao))) (dOp bP (j2 (ab (dC (.int 1)) (ab (iq (dC (.int 1))) ao))) (dCB o6 (ab (dOp rLt (ae 2) (dC (.int 0))) ao)))) (aj 3))
  (bu (kh (ab (kj (ae 0) (ae 3)) (ab (kj (ae 1) (ae 3)) (ab (kj (ae 2) (ae 3)) ao))))))
section
variable {μ : Mu} {Qd : DK} {ds : List D}
theorem gdv {a b c : Int} (h : Sz 8800 c) (hc : c ≠ 0) : Sz 8800 ((g3 a b c : Nat) : Int) := by
  have h1 := (vz a b c).2.2
  have h2 := Int.natAbs_dvd_natAbs.mpr h1
  exact h.le (Nat.le_of_dvd (by omega) h2)
theorem sZ (h : cU ds μ Qd) : jJ ‹Qd› (aF ["a", "b", "c", "divisor"] ds) μ := by
  obtain ⟨a, b, c, rfl, hc, hz, q⟩ := h
  unfold jJ
  walk_at "rd"
  rw [decide_eq_false hc]
  simp only [Bool.xor_false, Bool.false_eq_true, ↓reduceIte]
  refine ⟨a, b, c, rfl, ?_⟩
  walk_at "rd"
  have hp := mW (a := a) (b := b) hc
  have hg := gdv (a := a) (b := b) hz hc
  unfold low NM.dv dN at q
  simp only at q
  by_cases hn : c < 0
  · rw [if_pos (by simpa using hn)]
    rw [if_pos hn] at q
    have o : ∀ i : Int, jV i (-((g3 a b c : Nat) : Int)) := fun i => rB (by omega) hg.neg (by decide)
    exact ⟨o _, o _, o _, q⟩
  · rw [if_neg (by simpa using hn)]
    rw [if_neg hn] at q
    have o : ∀ i : Int, jV i ((g3 a b c : Nat) : Int) := fun i => rB (by omega) hg (by decide)
    exact ⟨o _, o _, o _, q⟩
theorem n6 (h : cU ds μ Qd) : gF ‹Qd› (aF ["_law_a", "_law_b", "_law_c", "_law_common"] ds) μ := by
  obtain ⟨a, b, c, rfl, hc, hz, q⟩ := h
  unfold gF
  walk_at "rd"
  refine ⟨a, b, rfl, _, c, rfl, ?_⟩
  walk_at "rd"
  have hp := mW (a := a) (b := b) hc
  have hg := gdv (a := a) (b := b) hz hc
  unfold low NM.dv dN at q
  simp only at q
  by_cases hn : c < 0
  · simp only [hn, decide_true, ↓reduceIte, my]
    rw [if_pos hn] at q
    have e : ((Int.gcd (Int.gcd a b : Nat) c : Nat) : Int) * -1 = -((g3 a b c : Nat) : Int) := by unfold g3; omega
    walk_at "rd"
    rw [e]
    have o : ∀ i : Int, jV i (-((g3 a b c : Nat) : Int)) := fun i => rB (by omega) hg.neg (by decide)
    exact ⟨mulR (by decide), o _, o _, o _, q⟩
  · simp only [hn, decide_false, Bool.false_eq_true, ↓reduceIte, mD]
    rw [if_neg hn] at q
    have e : ((Int.gcd (Int.gcd a b : Nat) c : Nat) : Int) * 1 = ((g3 a b c : Nat) : Int) := by unfold g3; omega
    walk_at "rd"
    rw [e]
    have o : ∀ i : Int, jV i ((g3 a b c : Nat) : Int) := fun i => rB (by omega) hg (by decide)
    exact ⟨mulR (by decide), o _, o _, o _, q⟩
theorem Aw (a b c a' b' c' : Int) : PyData.eqv (.tuple [.int a, .int b, .int c]) (.tuple [.int a', .int b', .int c']) = decide (a = a' ∧ b = b' ∧ c = c') := by
  simp [PyData.eqv, PyData.eqvAll]
  rfl
end
open PySem PySem.Spec PyProof.Rows NM
section
variable {μ : Mu} {Qd : DK} {ds : List D}
end
open PySem PySem.Spec PyProof.Rows NM
noncomputable def gA : DTS :=
  (az (aO (dC (.int 0)) (aj 2))
  (az (bT (dB (dOp rLt (ae 1) (dCB jZ (ab (ae 0) ao)))) (aO (dOp bP (ae 0) (ae 1)) (aj 2)) bg)
  (az (aO (dC (.int 0)) (aj 3))
  (az (bT (dB (dOp rGe (dCB hW (ab (ae 2) ao)) (tf (dC (.int 10)) (dC (.int 18))))) (aO (dCB hW (ab (ae 2) ao)) (aj 3)) bg)
  (az (aO (j2 (ab (dC (.int 2147483647)) (ab (dC (.int 2147483629)) (ab (dC (.int 2147483587)) (ab (dC (.int 2147483579)) (ab (dC (.int 2147483563)) (ab (dC (.int 2147483549)) (ab (dC (.int 2147483543)) (ab (dC (.int 2147483497)) ao))))))))) (aj 4))
  (az (aO (o9 (o9 (o9 (lp (j8 (ae 2) (dC (.int 2147483647))) (dC (.int 69623))) (lp (lp (dC (.int 104729)) (ae 1)) (ae 1))) (lp (dC (.int 7919)) (ae 1))) (dC (.int 12345))) (aj 5))
  (bu (n8 (ab (ae 3) (ab (j8 (ae 5) (dOp bP (ae 4) (j8 (ae 1) (dC (.int 8))))) ao))))))))))
noncomputable def fS : DTS :=
  (az (bT (dB (dOp rGt (dOp bP (ae 0) (dC (.int 0))) (dC (.int 0)))) (az (aO (j8 (dOp bP (ae 0) (dC (.int 0))) (ae 1)) (aj 2))
  (az (aO (kj (dOp bP (ae 0) (dC (.int 0))) (ae 1)) (rg (ae 0) (dC (.int 0))))
  (bu (ae 2)))) bg)
  (az (aO (j8 (o9 (lp (dOp bP (ae 0) (dC (.int 1))) (dC (.int 48271))) (dC (.int 2531011))) (dC (.int 2147483647))) (rg (ae 0) (dC (.int 1))))
  (bu (j8 (kj (j8 (tf (dOp bP (ae 0) (dC (.int 1))) (dC (.int 3))) (dC (.int 2147483629))) (dC (.int 64))) (ae 1)))))
section
variable {μ : Mu} {Qd : DK} {ds : List D}
theorem mX {α : Type} {xs : List α} {i : Int} (h0 : 0 ≤ i) (h : i < (xs.length : Nat)) : ∃ d, atI xs i = some d ∧ d ∈ xs := by
  have hj : i.toNat < xs.length := by omega
  have e := kf (xs := xs) (j := i.toNat) (v := xs[i.toNat]) (by simp [hj])
  rw [show ((i.toNat : Nat) : Int) = i by omega] at e
  exact ⟨_, e, List.getElem_mem _⟩
theorem eB (x : Int) {y : Int} (h : 0 < y) : 0 ≤ x.fmod y ∧ x.fmod y < y := ⟨Int.fmod_nonneg_of_pos x h, Int.fmod_lt_of_pos x h⟩
theorem wQ {x y : Int} (hx : 0 ≤ x) (hy : 0 < y) : 0 ≤ x.fdiv y := by rw [Int.fdiv_eq_ediv_of_nonneg _ (by omega)]; exact Int.ediv_nonneg hx (by omega)
def g4 : List PyData := [.int 2147483647, .int 2147483629, .int 2147483587, .int 2147483579, .int 2147483563, .int 2147483549, .int 2147483543, .int 2147483497]
theorem o4 (h : qR ds μ Qd) : gA ‹Qd› (aF ["_law_script", "_law_at", "_law_cell", "_law_great", "_law_primes", "_law_mixed"] ds) μ := by
  obtain ⟨ns, k, rfl, h0, h1, q⟩ := h
  unfold gA
  have hp : ∃ pr : Int, atI g4 (k.fmod 8) = some (.int pr) ∧ 0 < pr ∧ pr < 2147483648 := by
    obtain ⟨h2, h3⟩ := eB k (show (0 : Int) < 8 by decide)
    obtain ⟨p, e, hm⟩ := mX (xs := g4) h2 (by exact h3)
    simp only [g4, List.mem_cons, List.not_mem_nil, or_false] at hm
    rcases hm with rfl | rfl | rfl | rfl | rfl | rfl | rfl | rfl <;> exact ⟨_, e, by decide, by decide⟩
  obtain ⟨pr, hpe, hp0, hp1⟩ := hp
  unfold g4 at hpe
  walk_at "rd"
  rw [hpe]
  walk_at "rd"
  have c1 : yv 10 18 := ⟨by decide, by decide, by decide⟩
  have z1 : (2147483647 : Int) ≠ 0 := by decide
  have z2 : (8 : Int) ≠ 0 := by decide
  have m1 : ∀ i : Int, MulOk i 69623 := fun i => mulR (by decide)
  have m2 : MulOk 104729 k := mulL (by decide)
  have m3 : MulOk (104729 * k) k := mulR (by omega)
  have m4 : MulOk 7919 k := mulL (by decide)
  have z3 : pr ≠ 0 := by omega
  have fin : ∀ G x : Int, 0 ≤ G → ∀ p, μ p = none → Qd (.m p) (ar μ p [.int G, .int (x.fmod pr)]) := fun G x hG p hp => by
    obtain ⟨h2, h3⟩ := eB x hp0
    exact q p _ hp (Step.set hG h2 (by omega))
  by_cases hk : k < (ns.length : Nat)
  · rw [if_pos (by simpa using hk)]
    obtain ⟨c, hc, _⟩ := mX h0 hk
    rw [hc]
    walk_at "rd"
    refine ⟨c1, ?_⟩
    split
    · exact ⟨z1, m1 _, m2, m3, m4, z2, z3, fin _ _ (by omega)⟩
    · exact ⟨z1, m1 _, m2, m3, m4, z2, z3, fin _ _ (by omega)⟩
  · rw [if_neg (by simpa using hk)]
    refine ⟨c1, ?_⟩
    split
    · exact ⟨z1, m1 _, m2, m3, m4, z2, z3, fin _ _ (by omega)⟩
    · exact ⟨z1, m1 _, m2, m3, m4, z2, z3, fin _ _ (by omega)⟩
theorem mT (h : cE ds μ Qd) : fS ‹Qd› (aF ["_law_bag_here", "_law_many", "_law_digit"] ds) μ := by
  obtain ⟨a, n, rfl, h0, h1, ⟨g, m, hb, hg, hm, hm'⟩, q⟩ := h
  unfold fS
  walk_at "rd"
  rw [hb]
  walk_at "rd"
  rw [hb]
  walk_at "rd"
  have n0 : n ≠ 0 := by omega
  have i0 : ixN 2 0 = some 0 := by rfl
  have i1 : ixN 2 1 = some 1 := by rfl
  by_cases hg0 : 0 < g
  · rw [if_pos (by simpa using hg0)]
    simp only [hb]
    walk_at "rd"
    obtain ⟨r0, r1⟩ := eB g (show 0 < n by omega)
    refine ⟨n0, ?_⟩
    simp only [hb]
    walk_at "rd"
    refine ⟨divC n0 (by omega), ?_⟩
    simp only [hb, List.length_cons, List.length_nil, Nat.reduceAdd, i0, List.set_cons_zero]
    exact q _ _ r0 r1 (Step.set (wQ hg (by omega)) hm hm')
  · rw [if_neg (by simpa using hg0)]
    simp only [hb, i1, aD]
    walk_at "rd"
    obtain ⟨s0, s1⟩ := eB (m * 48271 + 2531011) (show (0 : Int) < 2147483647 by decide)
    generalize (m * 48271 + 2531011).fmod 2147483647 = w at s0 s1 ⊢
    obtain ⟨r0, r1⟩ := eB ((((w ^ Int.toNat 3).fmod 2147483629).fdiv 64)) (show 0 < n by omega)
    refine ⟨mulL (by omega), by decide, ?_⟩
    refine ⟨⟨by decide, by decide, by omega⟩, (by show (2147483629 : Int) ≠ 0; decide), divC (by decide) (by decide), n0, ?_⟩
    exact q _ _ r0 r1 (Step.set hg s0 (by omega))
end
open PySem PySem.Spec PyProof.Rows NM
section
variable {μ : Mu} {Qd : DK} {ds : List D}
end
open PySem PySem.Spec PyProof.Rows NM
section
variable {μ : Mu} {Qd : DK} {ds : List D}
theorem fx (d : PyData) : (∃ i, d = .int i ∧ isWhole d = true) ∨ ((∀ i, d ≠ .int i) ∧ isWhole d = false) := by
  cases d <;> first | exact .inl ⟨_, rfl, rfl⟩ | exact .inr ⟨fun _ z => (by cases z), rfl⟩
theorem vZ (d : PyData) : (∃ xs, d = .tuple xs ∧ isT "tuple" d = true) ∨ ((∀ xs, d ≠ .tuple xs) ∧ isT "tuple" d = false) := by
  cases d <;> first | exact .inl ⟨_, rfl, rfl⟩ | exact .inr ⟨fun _ z => (by cases z), rfl⟩
theorem sN {d : PyData} (h : ∀ xs, d ≠ .tuple xs) : isNum d = false := by cases d <;> first | rfl | exact absurd rfl (h _)
theorem sF {xs : List PyData} (h : xs.length ≠ 3) : isNum (.tuple xs) = false := by
  unfold isNum
  split
  · rename_i e; cases e; exact absurd rfl h
  · rfl
theorem three {α : Type} {xs : List α} (h : xs.length = 3) : ∃ a b c, xs = [a, b, c] := by
  match xs, h with
  | [a, b, c], _ => exact ⟨a, b, c, rfl⟩
end
open PySem PySem.Spec PyProof.Rows NM
noncomputable def cO : DTS :=
  (az (bT (kO (jc (dB (qd "tuple" (ae 0)))) (kO (dB (dOp (bp true) (dCB jZ (ab (ae 0) ao)) (dC (.int 3)))) (jc (dB (dCB mi (ab (rG [none] (u3 (ae 0)) (aj 0) oE (au jd (ab (ae 0) ao))) ao)))))) (bu (dC (.bool false))) bg)
  (bu (kH (dOp rGt (dOp bP (ae 0) (dC (.int 2))) (dC (.int 0))) (dOp (bp false) (au gS (ab (au gS (ab (dOp bP (ae 0) (dC (.int 0))) (ab (dOp bP (ae 0) (dC (.int 1))) ao))) (ab (dOp bP (ae 0) (dC (.int 2))) ao))) (dC (.int 1))))))
noncomputable def ez : DTS :=
  (az (aO (dOp bP (j2 (ab (dC (.int 4)) (ab (dC (.int 10)) (ab (dC (.int 100)) (ab (dC (.int 1000000)) ao))))) (au cE (ab (ae 0) (ab (dC (.int 4)) ao)))) (aj 1))
  (az (sU 2 3 (ab (pE (au cE (ab (ae 0) (ab (ae 1) ao))) (kj (ae 1) (dC (.int 2)))) (ab (pE (au cE (ab (ae 0) (ab (ae 1) ao))) (kj (ae 1) (dC (.int 2)))) ao)))
  (az (aO (o9 (dC (.int 1)) (au cE (ab (ae 0) (ab (pE (ae 1) (dC (.int 1))) ao)))) (aj 4))
  (az (aO (au cE (ab (ae 0) (ab (dC (.int 8)) ao))) (aj 5))
  (bu (au cU (ab (dOp bP (j2 (ab (ae 2) (ab (ae 2) (ab (ae 2) (ab (ae 2) (ab (ae 2) (ab (ae 2) (ab (ae 2) (ab (dC (.int 0)) ao))))))))) (ae 5)) (ab (dOp bP (j2 (ab (ae 3) (ab (ae 3) (ab (ae 3) (ab (ae 3) (ab (ae 3) (ab (dC (.int 0)) (ab (dC (.int 0)) (ab (ae 3) ao))))))))) (ae 5)) (ab (dOp bP (j2 (ab (ae 4) (ab (ae 4) (ab (dC (.int 1)) (ab (ae 4) (ab (dC (.int 1)) (ab (ae 4) (ab (dC (.int 1)) (ab (ae 4) ao))))))))) (ae 5)) ao)))))))))
section
variable {μ : Mu} {Qd : DK} {ds : List D}
theorem jn (h : nr ds μ Qd) : cO ‹Qd› (aF ["_law_thing"] ds) μ := by
  obtain ⟨d, rfl, few, q⟩ := h
  unfold cO
  walk_at "rd"
  rcases vZ d with ⟨xs, rfl, e⟩ | ⟨hn, e⟩
  · rw [e]
    walk_at "rd"
    by_cases hl : xs.length = 3
    · obtain ⟨a, b, c, rfl⟩ := three hl
      have e3 : decide ((([a, b, c].length : Nat) : Int) = 3) = true := rfl
      simp only [e3, Bool.xor_self, Bool.false_eq_true, ↓reduceIte]
      refine ⟨by simp, fun x => some (.bool (isWhole x)), fun x hx μ' hs => ⟨trivial, x, rfl, rfl, rfl⟩, ?_⟩
      rw [rm (fun x => PyData.bool (isWhole x)), gT]
      simp only [List.map_cons, List.map_nil, List.all_cons, List.all_nil, id, Bool.and_true]
      rcases fx a with ⟨i, rfl, ea⟩ | ⟨hn, ea⟩
      · rcases fx b with ⟨j, rfl, e1⟩ | ⟨hn, e1⟩
        · rcases fx c with ⟨k, rfl, e2⟩ | ⟨hn, e2⟩
          · rw [ea, e1, e2]
            simp only [Bool.and_self]
            walk_at "rd"
            have q' : Qd (.v (.bool (decide (1 ≤ k) && (g3 i j k == 1)))) μ := q
            by_cases hk : 1 ≤ k
            · rw [if_pos (by simp; omega)]
              refine ⟨i, j, rfl, _, k, rfl, ?_⟩
              walk_at "rd"
              have ee : decide (((Int.gcd (Int.gcd i j : Nat) k : Nat) : Int) = 1) = (decide (1 ≤ k) && (g3 i j k == 1)) := by
                unfold g3
                rw [decide_eq_true hk, Bool.true_and, Bool.eq_iff_iff]; simp; omega
              rw [ee]
              exact q'
            · rw [if_neg (by simp; omega)]
              rw [decide_eq_false hk] at q'
              exact q'
          · rw [ea, e1, e2]
            simp only [Bool.and_false]
            walk_at "rd"
            have : isNum (.tuple [.int i, .int j, c]) = false := by cases c <;> first | rfl | exact absurd rfl (hn _)
            rw [this] at q
            exact q
        · rw [ea, e1]
          simp only [Bool.and_false, Bool.false_and]
          walk_at "rd"
          have : isNum (.tuple [.int i, b, c]) = false := by cases b <;> first | rfl | exact absurd rfl (hn _)
          rw [this] at q
          exact q
      · rw [ea]
        simp only [Bool.and_false, Bool.false_and]
        walk_at "rd"
        have : isNum (.tuple [a, b, c]) = false := by cases a <;> first | rfl | exact absurd rfl (hn _)
        rw [this] at q
        exact q
    · rw [sF hl] at q
      have : decide (((xs.length : Nat) : Int) = 3) = false := by simp; omega
      rw [this]
      simp only [Bool.xor_false, ↓reduceIte]
      exact q
  · rw [e]
    rw [sN hn] at q
    walk_at "rd"
    exact q
theorem pick {P : PyData → Prop} {xs : List PyData} {i : Int} (h0 : 0 ≤ i) (h1 : i < (xs.length : Nat)) (h : ∀ x ∈ xs, P x) : ∃ d, atI xs i = some d ∧ P d := let ⟨d, e, m⟩ := mX h0 h1; ⟨d, e, h d m⟩
theorem vb {i : Int} (h1 : -1048576 < i) (h2 : i < 1048576) : Sz 20 i := Sz.of (by show i.natAbs < 1048576; omega)
theorem kI (h : hE ds μ Qd) : ez ‹Qd› (aF ["_law_bag_here", "_law_wide", "_law_a", "_law_b", "_law_c", "_law_way"] ds) μ := by
  obtain ⟨a, rfl, hb, q⟩ := h
  unfold ez
  walk_at "rd"
  refine ⟨a, 4, rfl, by decide, by decide, hb, fun r0 μ1 h0 h1 s1 => ?_⟩
  walk_at "rd"
  obtain ⟨w, e, i, rfl, w0, w1⟩ := pick (P := fun d => ∃ i : Int, d = .int i ∧ 4 ≤ i ∧ i ≤ 1000000) (xs := [PyData.int 4, PyData.int 10, PyData.int 100, PyData.int 1000000]) h0 (by exact h1) (by
    intro x hx
    simp only [List.mem_cons, List.not_mem_nil, or_false] at hx
    rcases hx with rfl | rfl | rfl | rfl <;> exact ⟨_, rfl, by decide, by decide⟩)
  rw [e]
  walk_at "rd"
  refine ⟨a, i, rfl, by omega, by omega, s1.1, fun r1 μ2 h2 h3 s2 => ?_⟩
  walk_at "rd"
  refine ⟨divC (by decide) (by decide), a, i, rfl, by omega, by omega, s2.1, fun r2 μ3 h4 h5 s3 => ?_⟩
  walk_at "rd"
  refine ⟨divC (by decide) (by decide), a, i - 1, rfl, by omega, by omega, s3.1, fun r3 μ4 h6 h7 s4 => ?_⟩
  walk_at "rd"
  refine ⟨a, 8, rfl, by decide, by decide, s4.1, fun r4 μ5 h8 h9 s5 => ?_⟩
  walk_at "rd"
  have ef : i.fdiv 2 = i / 2 := Int.fdiv_eq_ediv_of_nonneg _ (by omega)
  rw [ef]
  have za : Sz 20 (r1 - i / 2) := vb (by omega) (by omega)
  have zb : Sz 20 (r2 - i / 2) := vb (by omega) (by omega)
  have zc : Sz 20 (1 + r3) := vb (by omega) (by omega)
  have z0 : Sz 20 0 := vb (by omega) (by omega)
  have z1 : Sz 20 1 := vb (by omega) (by omega)
  obtain ⟨d1, e1, i1, rfl, b1⟩ := pick (P := fun d => ∃ i : Int, d = .int i ∧ Sz 20 i) (xs := [PyData.int (r1 - i / 2), PyData.int (r1 - i / 2), PyData.int (r1 - i / 2), PyData.int (r1 - i / 2), PyData.int (r1 - i / 2), PyData.int (r1 - i / 2), PyData.int (r1 - i / 2), PyData.int 0]) h8 (by exact h9) (by
    intro x hx
    simp only [List.mem_cons, List.not_mem_nil, or_false] at hx
    rcases hx with rfl | rfl | rfl | rfl | rfl | rfl | rfl | rfl <;> exact ⟨_, rfl, by assumption⟩)
  rw [e1]
  walk_at "rd"
  obtain ⟨d2, e2, i2, rfl, b2⟩ := pick (P := fun d => ∃ i : Int, d = .int i ∧ Sz 20 i) (xs := [PyData.int (r2 - i / 2), PyData.int (r2 - i / 2), PyData.int (r2 - i / 2), PyData.int (r2 - i / 2), PyData.int (r2 - i / 2), PyData.int 0, PyData.int 0, PyData.int (r2 - i / 2)]) h8 (by exact h9) (by
    intro x hx
    simp only [List.mem_cons, List.not_mem_nil, or_false] at hx
    rcases hx with rfl | rfl | rfl | rfl | rfl | rfl | rfl | rfl <;> exact ⟨_, rfl, by assumption⟩)
  rw [e2]
  walk_at "rd"
  obtain ⟨d3, e3, i3, rfl, b3, p3⟩ := pick (P := fun d => ∃ i : Int, d = .int i ∧ Sz 20 i ∧ 0 < i) (xs := [PyData.int (1 + r3), PyData.int (1 + r3), PyData.int 1, PyData.int (1 + r3), PyData.int 1, PyData.int (1 + r3), PyData.int 1, PyData.int (1 + r3)]) h8 (by exact h9) (by
    intro x hx
    simp only [List.mem_cons, List.not_mem_nil, or_false] at hx
    rcases hx with rfl | rfl | rfl | rfl | rfl | rfl | rfl | rfl <;> exact ⟨_, rfl, by assumption, by omega⟩)
  rw [e3]
  walk_at "rd"
  have n3 : i3 ≠ 0 := by omega
  exact ⟨i1, i2, i3, rfl, n3, b3.mono (by decide), q _ _ (tD _ _ n3) (yU n3 b1 b2 b3) (s1.trans (s2.trans (s3.trans (s4.trans s5))))⟩
end
open PySem PySem.Spec PyProof.Rows NM
section
variable {μ : Mu} {Qd : DK} {ds : List D}
end
open PySem PySem.Spec PyProof.Rows NM
section
variable {μ : Mu} {Q : DK} {ds : List D}
noncomputable def k5 : DSp := fun ds μ Q => ∃ ns : List Int, ds = [.s ns] ∧ ns.length ≤ 63 ∧ ∀ μ', Q (.v (.bool true)) μ'
theorem om (h : jd ds μ Q) : ds.length = 1 := by obtain ⟨_, rfl, _⟩ := h; rfl
theorem mE (h : gS ds μ Q) : ds.length = 2 := by obtain ⟨_, _, rfl, _⟩ := h; rfl
theorem qk (h : nu ds μ Q) : ds.length = 3 := by obtain ⟨_, _, _, rfl, _⟩ := h; rfl
theorem pS (h : nr ds μ Q) : ds.length = 1 := by obtain ⟨_, rfl, _⟩ := h; rfl
theorem i8 (h : cU ds μ Q) : ds.length = 3 := by obtain ⟨_, _, _, rfl, _⟩ := h; rfl
theorem su (h : qR ds μ Q) : ds.length = 2 := by obtain ⟨_, _, rfl, _⟩ := h; rfl
theorem pO (h : cE ds μ Q) : ds.length = 2 := by obtain ⟨_, _, rfl, _⟩ := h; rfl
theorem lR (h : hE ds μ Q) : ds.length = 1 := by obtain ⟨_, rfl, _⟩ := h; rfl
theorem sh (h : k5 ds μ Q) : ds.length = 1 := by obtain ⟨_, rfl, _⟩ := h; rfl
end
noncomputable def fP : DTS := gD
theorem jr {μ Qd ds} (h : jd ds μ Qd) : fP ‹Qd› (aF ["_law_thing"] ds) μ := oj h
theorem si {K : PySem.W.Frag} {H : Hp} {a : Addr} {ns : List Int} (hl : ns.length ≤ 63) (hT : n4 K H) (hS : SqL K H a (ns.map V.int)) : spD K k5 [.ref a] H (fun v _ => v = .bl true) fun _ _ _ => False := by
  refine ⟨[.s ns], fun _ => none, fun d _ => d = .v (.bool true), ⟨fun a ds h => (by cases h), hT⟩, .cons ⟨a, rfl, hS, rfl⟩ .nil, ⟨ns, rfl, hl, fun _ => rfl⟩, fun d u μ' H' _ _ r q => ?_⟩
  subst q
  cases r
  rfl
open PySem PySem.Spec PyProof.Rows NM
section
variable {μ : Mu} {Q : DK} {ds : List D} {x y : N3}
theorem xr (a b c : Int) : PyData.tuple [.int a, .int b, .int c] = dN ⟨a, b, c⟩ := rfl
theorem vo : bP (.v (dN x)) (.v (.int 0)) μ Q = Q (.v (.int x.a)) μ := by unfold dN; rw [mK]
theorem uk : bP (.v (dN x)) (.v (.int 1)) μ Q = Q (.v (.int x.b)) μ := by unfold dN; rw [mL]
theorem u7 : bP (.v (dN x)) (.v (.int 2)) μ Q = Q (.v (.int x.c)) μ := by unfold dN; rw [mN]
theorem eqN : PyData.eqv (dN x) (dN y) = decide (x = y) := by
  unfold dN
  rw [Aw, Bool.eq_iff_iff]
  simp only [decide_eq_true_eq]
  exact ⟨fun h => N3.ext' h.1 h.2.1 h.2.2, fun h => by subst h; exact ⟨rfl, rfl, rfl⟩⟩
theorem w8 {neg : Bool} : bp neg (.v (dN x)) (.v (dN y)) μ Q = Q (.v (.bool (neg ^^ decide (x = y)))) μ := by
  rw [tX, eqN]
  exact propext ⟨fun h => h.2.2, fun h => ⟨rfl, rfl, h⟩⟩
theorem u5 (h : Ok x) : isNum (dN x) = true := by
  have := h.c
  show (decide (1 ≤ x.c) && (g3 x.a x.b x.c == 1)) = true
  rw [h.g]
  simp; omega
theorem Ag : Few (dN x) := by simp [dN, Few]
theorem xj {lo : Int} {n i : Nat} {x : PyData} (h : (lX lo n)[i]? = some x) : x = .int (lo + i) ∧ i < n := by
  unfold lX at h
  rw [List.getElem?_map] at h
  by_cases hi : i < n
  · rw [List.getElem?_range hi] at h
    cases h
    exact ⟨rfl, hi⟩
  · rw [List.getElem?_eq_none (by simpa using hi)] at h
    cases h
theorem kr {lo : Int} {n : Nat} : (lX lo n).length = n := by unfold lX; simp
end
open PySem PySem.Spec PyProof.Rows NM
structure Tg {α : Sort u} (x : α) : Type where
def hd {α : Sort u} (x : α) (_ : Tg x) : α := x
section
variable {ρ : Rho} {μ : Mu} {Q : DK} {QT : Bool → Mu → Prop} {Dd : oI} {ta tb tc : DTE} {t u : DTT} {tA : DTA} {s1 s2 : DTS} {d : D} {A B : Prop} {p : Tg A} {q : Tg B}
theorem vL {w : Tg Q} : hd Q w d μ = Q d μ := propext Iff.rfl
theorem l_T {i : Decidable True} : (if True then hd A p else hd B q) = A := if_pos trivial
theorem l_F {i : Decidable False} : (if False then hd A p else hd B q) = B := if_neg id
theorem l_t {i : Decidable (true = true)} : (if true = true then hd A p else hd B q) = A := if_pos rfl
theorem l_f {i : Decidable (false = true)} : (if false = true then hd A p else hd B q) = B := if_neg Bool.false_ne_true
theorem cY {c : Prop} {i : Decidable c} (h : c) : (if c then hd A p else hd B q) = A := if_pos h
theorem cG {c : Prop} {i : Decidable c} (h : ¬ c) : (if c then hd A p else hd B q) = B := if_neg h
theorem zr {i j : Int} {k : Decidable True} : (if True then i else j) = i := if_pos trivial
theorem zz {i j : Int} {k : Decidable False} : (if False then i else j) = j := if_neg id
theorem zj {r} : dOp r ta tb ρ μ Q = ta ρ μ fun x μ1 => tb ρ μ1 fun y μ2 => r x y μ2 (hd Q .mk) := propext Iff.rfl
theorem xq {g : DTG} : aO ta g Dd ρ μ = ta ρ μ (hd (fun d μ1 => g d ρ μ1 Dd.nx) .mk) := propext Iff.rfl
theorem Am {rd} : dCB rd tA ρ μ Q = tA ρ μ fun ds μ1 => rd ds μ1 (hd Q .mk) := propext Iff.rfl
theorem vi {dsp : DSp} : au dsp tA ρ μ Q = tA ρ μ fun ds μ1 => dsp ds μ1 (hd Q .mk) := propext Iff.rfl
theorem vy : pf t u ρ μ QT = t ρ μ fun c μ1 => if c = true then hd (u ρ μ1 QT) .mk else hd (QT false μ1) .mk := propext Iff.rfl
theorem xu : kO t u ρ μ QT = t ρ μ fun c μ1 => if c = true then hd (QT true μ1) .mk else hd (u ρ μ1 QT) .mk := propext Iff.rfl
theorem uq : kH ta tb ρ μ Q = ta ρ μ fun x μ1 => match x with | .v (.bool c) => if c = true then hd (tb ρ μ1 Q) .mk else hd (Q (.v (.bool false)) μ1) .mk | _ => False := propext Iff.rfl
theorem zA : dIf t ta tb ρ μ Q = t ρ μ fun c μ1 => if c = true then hd (ta ρ μ1 Q) .mk else hd (tb ρ μ1 Q) .mk := propext Iff.rfl
theorem xh : bT t s1 s2 Dd ρ μ = t ρ μ fun b μ1 => if b = true then hd (s1 Dd ρ μ1) .mk else hd (s2 Dd ρ μ1) .mk := propext Iff.rfl
end
open PySem PySem.Spec PyProof.Rows NM
def txt (l : List Nat) : Str := ⟨l.toArray⟩
theorem av (l : List Nat) : (txt l).length = l.length := List.size_toArray
theorem eE (l : List Nat) : (txt l).cps.toList = l := rfl
theorem bq (l r : List Nat) : txt l ++ txt r = txt (l ++ r) := by
  show (⟨l.toArray ++ r.toArray⟩ : Str) = _
  unfold txt
  rw [List.append_toArray]
theorem tW {x : Str} {l : List Nat} (h : x.cps.toList = l) : x = txt l := StrLaws.mk_of_toList h
theorem wN {l r : List Nat} (h : txt l = txt r) : l = r := by
  have := congrArg (fun z : Str => z.cps.toList) h
  exact this
def dg (n : Nat) : List Nat := (Nat.toDigits 10 n).map Char.toNat
def whl (i : Int) : List Nat := if i < 0 then 45 :: dg i.natAbs else dg i.natAbs
theorem yY (n : Nat) : NumText.digitsVal (dg n) = n := PySem.W.KIN.val_back n
theorem oq : ∀ (f n : Nat) (r : List Char), (∀ c ∈ r, 48 ≤ c.toNat ∧ c.toNat ≤ 57) → ∀ c ∈ Nat.toDigitsCore 10 f n r, 48 ≤ c.toNat ∧ c.toNat ≤ 57
  | 0, n, r, h => by simpa [Nat.toDigitsCore] using h
  | f + 1, n, r, h => by
    have hd : 48 ≤ (Nat.digitChar (n % 10)).toNat ∧ (Nat.digitChar (n % 10)).toNat ≤ 57 := by
      have : n % 10 < 10 := Nat.mod_lt _ (by decide)
      generalize n % 10 = k at this
      match k, this with
      | 0, _ => decide
      | 1, _ => decide
      | 2, _ => decide
      | 3, _ => decide
      | 4, _ => decide
      | 5, _ => decide
      | 6, _ => decide
      | 7, _ => decide
      | 8, _ => decide
      | 9, _ => decide
    have h' : ∀ c ∈ Nat.digitChar (n % 10) :: r, 48 ≤ c.toNat ∧ c.toNat ≤ 57 := fun c hc => by
      rcases List.mem_cons.mp hc with z | z
      · rw [z]; exact hd
      · exact h c z
    intro c hc
    simp only [Nat.toDigitsCore] at hc
    split at hc
    · exact h' c hc
    · exact oq f _ _ h' c hc
theorem cV (n : Nat) : NumText.AllDigits (dg n) := fun c hc => by
  obtain ⟨k, hk, rfl⟩ := List.mem_map.mp hc
  exact oq _ _ [] (fun _ z => nomatch z) k hk
theorem qW : ∀ (f n : Nat) (r : List Char), r ≠ [] → Nat.toDigitsCore 10 f n r ≠ []
  | 0, n, r, h => by simpa [Nat.toDigitsCore] using h
  | f + 1, n, r, h => by
    simp only [Nat.toDigitsCore]
    split
    · exact List.cons_ne_nil _ _
    · exact qW f _ _ (List.cons_ne_nil _ _)
theorem o3 (n : Nat) : dg n ≠ [] := fun h => by
  have h2 : Nat.toDigits 10 n = [] := List.map_eq_nil_iff.mp h
  unfold Nat.toDigits at h2
  simp only [Nat.toDigitsCore] at h2
  split at h2
  · cases h2
  · exact qW _ _ _ (List.cons_ne_nil _ _) h2
theorem oT : ∀ (f n k : Nat) (r : List Char), n < 10 ^ (k + 1) → (Nat.toDigitsCore 10 f n r).length ≤ k + 1 + r.length
  | 0, n, k, r, h => by simp [Nat.toDigitsCore]
  | f + 1, n, k, r, h => by
    simp only [Nat.toDigitsCore]
    split
    · rw [List.length_cons]; omega
    · rename_i hz
      cases k with
      | zero => exact absurd (Nat.div_eq_of_lt (by simpa using h)) hz
      | succ k =>
        have := oT f (n / 10) k (Nat.digitChar (n % 10) :: r) (by rw [Nat.div_lt_iff_lt_mul (by decide)]; rw [Nat.pow_succ] at h; exact h)
        rw [List.length_cons] at this
        omega
theorem uJ {n k : Nat} (h : n < 10 ^ (k + 1)) : (dg n).length ≤ k + 1 := by
  unfold dg
  rw [List.length_map]
  exact oT _ _ k [] h
theorem wR (n : Nat) : Str.ofString (toString ((n : Nat) : Int)) = txt (dg n) := text_ofNat n
theorem tos (i : Int) : Str.ofString (toString i) = txt (whl i) := by
  unfold whl
  cases i with
  | ofNat n => rw [if_neg (by show ¬ ((n : Nat) : Int) < 0; omega)]; exact text_ofNat n
  | negSucc n =>
    rw [if_pos (by omega)]
    rw [PySem.Str.ofString_eq_toList]
    unfold txt
    have e : (toString (Int.negSucc n)).toList = '-' :: (Nat.toDigits 10 (n + 1)) := by
      show ("-" ++ Nat.repr (n + 1)).toList = _
      rw [String.toList_append]
      unfold Nat.repr
      show '-' :: (String.ofList (Nat.toDigits 10 (n + 1))).toList = _
      rw [show (String.ofList (Nat.toDigits 10 (n + 1))).toList = Nat.toDigits 10 (n + 1) from String.toList_ofList ..]
    rw [e]
    rfl
theorem lit (s : String) : Str.ofString s = txt (s.toList.map Char.toNat) := PySem.Str.ofString_eq_toList s
theorem tw {l : List Nat} {i j : Int} (h : 0 ≤ i ∧ i ≤ j ∧ j ≤ (l.length : Nat)) : Txt.slice (txt l) (some i) (some j) = txt ((l.drop i.toNat).take (j - i).toNat) := by
  have := slice_closes (x := txt l) h
  exact eq_of_beq this
theorem rk {l : List Nat} {i : Int} (h : 0 ≤ i ∧ i ≤ (l.length : Nat)) : Txt.slice (txt l) (some i) none = txt (l.drop i.toNat) := by
  have := slice_closes_from (x := txt l) h
  have e := eq_of_beq this
  rw [e]
  unfold txt
  congr 1
  congr 1
  show List.take ((l.length : Nat) - i : Int).toNat (l.drop i.toNat) = _
  rw [List.take_of_length_le (by rw [List.length_drop]; omega)]
theorem xm {l : List Nat} {j : Int} (h : 0 ≤ j ∧ j ≤ (l.length : Nat)) : Txt.slice (txt l) none (some j) = txt (l.take j.toNat) := by
  have := slice_closes_to (x := txt l) h
  have e := eq_of_beq this
  rw [e]
  unfold txt
  congr 1
  congr 1
  simp
theorem pZ {x : Str} {lo : Option Int} {j : Int} (h : j < 0) (h' : -(x.length : Nat) ≤ j) : Txt.slice x lo (some j) = Txt.slice x lo (some (j + (x.length : Nat))) := by
  unfold Txt.slice
  have e : Builtin.Str.strSliceIndices lo (some j) 1 x.length = Builtin.Str.strSliceIndices lo (some (j + (x.length : Nat))) 1 x.length := StrLaws.sliceIdx_neg_hi _ _ h h'
  rw [e]
theorem ir (l : List Nat) (c : Nat) : kd (txt l) (txt [c]) = decide (l.head? = some c) := by
  have h := StrLaws.subAt_one (txt l) c 0
  rw [eE] at h
  have e : kd (txt l) (txt [c]) = true ↔ l[0]? = some c := by
    rw [← h]
    unfold kd
    rw [Bool.and_eq_true, decide_eq_true_eq]
    exact Iff.rfl
  rw [Bool.eq_iff_iff, e, decide_eq_true_eq, List.head?_eq_getElem?]
theorem oF (l : List Nat) (c : Nat) : rE (txt l) (txt [c]) = decide (l.getLast? = some c) := by
  have h := StrLaws.subAt_one (txt l) c (l.length - 1)
  rw [eE] at h
  have e : rE (txt l) (txt [c]) = true ↔ l[l.length - 1]? = some c := by
    rw [← h]
    unfold rE
    rw [Bool.and_eq_true, decide_eq_true_eq]
    have e1 : (txt l).length = l.length := av l
    have e2 : (txt [c]).length = 1 := rfl
    have e3 : (⟨#[c]⟩ : Str).length = 1 := rfl
    show 0 + (txt [c]).length ≤ (txt l).length ∧ Builtin.Str.subAt (txt l) (txt [c]) ((txt l).length - (txt [c]).length) = true ↔ _
    rw [e1, e2, e3]
    constructor
    · rintro ⟨a, b⟩; exact ⟨by omega, b⟩
    · rintro ⟨a, b⟩; exact ⟨by omega, b⟩
  rw [Bool.eq_iff_iff, e, decide_eq_true_eq, List.getLast?_eq_getElem?]
theorem yW (l : List Nat) (c : Nat) : inS (txt [c]) (txt l) = decide (c ∈ l) := StrLaws.found_one (txt l) c
theorem sI {l : List Nat} {c : Nat} (h : c ∉ l) : ib (txt l) (txt [c]) = [.str (txt l), .str Str.empty, .str Str.empty] := by
  unfold ib
  have := StrLaws.found_one (txt l) c
  rw [eE, decide_eq_false h] at this
  cases e : Builtin.Str.occurrences (txt l) (txt [c]) 0 (txt l).length 1 with
  | nil => rfl
  | cons a r => rw [show (⟨#[c]⟩ : Str) = txt [c] from rfl, e] at this; cases this
theorem sW {u v : List Nat} {c : Nat} (h : c ∉ u) : ib (txt (u ++ c :: v)) (txt [c]) = [.str (txt u), .str (txt [c]), .str (txt v)] := by
  unfold ib
  have sub : ∀ i, StrLaws.At (txt (u ++ c :: v)) (txt [c]) (txt (u ++ c :: v)).length i ↔ (u ++ c :: v)[i]? = some c := fun i => StrLaws.subAt_one _ c i
  rcases StrLaws.occ_head (txt (u ++ c :: v)) (txt [c]) 1 (by decide) with ⟨e, g⟩ | ⟨i, r, e, g, g'⟩
  · exact absurd ((sub u.length).mpr (by simp)) (g u.length)
  · have hi : i = u.length := by
      rcases Nat.lt_trichotomy i u.length with z | z | z
      · exfalso
        have := (sub i).mp g
        rw [List.getElem?_append_left z] at this
        exact h (List.mem_of_getElem? this)
      · exact z
      · exact absurd ((sub u.length).mpr (by simp)) (g' _ z)
    subst hi
    rw [e]
    dsimp only
    have e1 : Builtin.Str.strSub (txt (u ++ c :: v)) 0 u.length = txt u := tW (by rw [StrLaws.strSub_toList, eE]; simp)
    have e2 : Builtin.Str.strSub (txt (u ++ c :: v)) (u.length + (txt [c]).length) (txt (u ++ c :: v)).length = txt v := tW (by
      rw [StrLaws.strSub_toList, eE, av, av]
      have : (u ++ c :: v).drop (u.length + [c].length) = v := by
        rw [show u ++ c :: v = (u ++ [c]) ++ v by simp, show u.length + [c].length = (u ++ [c]).length by simp, List.drop_left]
      rw [this, List.take_of_length_le (by simp; omega)])
    rw [e1, e2]
theorem fQ {l : List Nat} {c : Nat} (h : c ∉ l) : eh (txt l) (txt [c]) = -1 := by
  unfold eh
  have sub : ∀ i, StrLaws.At (txt l) (txt [c]) (txt l).length i ↔ l[i]? = some c := fun i => StrLaws.subAt_one _ c i
  rcases StrLaws.last_spec (txt l) (txt [c]) with ⟨e, g⟩ | ⟨i, e, g, g'⟩
  · rw [e]
  · exact absurd (List.mem_of_getElem? ((sub i).mp g)) h
theorem gm {u v : List Nat} {c : Nat} (h : c ∉ v) : eh (txt (u ++ c :: v)) (txt [c]) = (u.length : Nat) := by
  unfold eh
  have sub : ∀ i, StrLaws.At (txt (u ++ c :: v)) (txt [c]) (txt (u ++ c :: v)).length i ↔ (u ++ c :: v)[i]? = some c := fun i => StrLaws.subAt_one _ c i
  rcases StrLaws.last_spec (txt (u ++ c :: v)) (txt [c]) with ⟨e, g⟩ | ⟨i, e, g, g'⟩
  · exact absurd ((sub u.length).mpr (by simp)) (g u.length)
  · have hi : i = u.length := by
      rcases Nat.lt_trichotomy i u.length with z | z | z
      · exact absurd ((sub u.length).mpr (by simp)) (g' _ z)
      · exact z
      · exfalso
        have := (sub i).mp g
        obtain ⟨k, rfl⟩ : ∃ k, i = u.length + 1 + k := ⟨i - (u.length + 1), by omega⟩
        rw [List.getElem?_append_right (by omega), show u.length + 1 + k - u.length = k + 1 by omega, List.getElem?_cons_succ] at this
        exact h (List.mem_of_getElem? this)
    subst hi
    rw [e]
theorem yF {l : List Nat} (h : NumText.AllDigits l) (hn : l ≠ []) (hl : l.length ≤ 640) : intText? (txt l) = some ((NumText.digitsVal l : Nat) : Int) := intText_digits (x := txt l) h hn (by rw [av]; omega)
theorem vW (l r : List Nat) : PyData.eqv (.str (txt l)) (.str (txt r)) = decide (l = r) := by
  have : PyData.eqv (.str (txt l)) (.str (txt r)) = (txt l == txt r) := by simp [PyData.eqv]
  rw [this]
  by_cases h : l = r
  · rw [h, decide_eq_true rfl]; exact beq_self_eq_true _
  · rw [decide_eq_false h]
    exact beq_eq_false_iff_ne.mpr fun z => h (wN z)
noncomputable def Asc (l : List Nat) : Prop := ∀ c ∈ l, c < 128
theorem lB {l : List Nat} (h : Asc l) : SeqAt.shaped (.str (txt l)) = true := by
  unfold SeqAt.shaped
  simp only [PyData.canLay0, PyData.depth]
  have : PyData.strOk (txt l) = true := by
    unfold PyData.strOk
    rw [Array.all_eq_true']
    intro c hc
    have := h c (by simpa [txt] using hc)
    exact decide_eq_true (by omega)
  rw [this]
  rfl
theorem nA (n : Nat) : Asc (dg n) := fun c hc => by have := cV n c hc; omega
theorem rM (i : Int) : Asc (whl i) := fun c hc => by
  unfold whl at hc
  split at hc
  · rcases List.mem_cons.mp hc with z | z
    · omega
    · exact nA _ c z
  · exact nA _ c hc
open PySem PySem.Spec PyProof.Rows NM
noncomputable def dq (i : Int) : Prop := i.natAbs < 10 ^ 40
def rt (b : Int) : List Nat := if b = 1 then [114] else if b = -1 then [45, 114] else whl b ++ [114]
def dr (a b : Int) : List Nat := whl a ++ (if 0 < b then [43] else []) ++ rt b
def aI (x : N3) : List Nat := if x.b = 0 then whl x.a else if x.a = 0 then rt x.b else if x.c = 1 then dr x.a x.b else 40 :: dr x.a x.b ++ [41]
def bH (x : N3) : List Nat := if x.c = 1 then aI x else aI x ++ 47 :: whl x.c
noncomputable def iU (x : N3) : Prop := dq x.a ∧ dq x.b ∧ dq x.c
noncomputable def dE : DSp := fun ds μ Q => ∃ k : Int, ds = [.v (.int k)] ∧ dq k ∧ ∀ μ', (∀ b ds, μ b = some ds → μ' b = some ds) → Q (.v (.str (txt (whl k)))) μ'
noncomputable def cT : DSp := fun ds μ Q => ∃ b : Int, ds = [.v (.int b)] ∧ dq b ∧ ∀ μ', (∀ b ds, μ b = some ds → μ' b = some ds) → Q (.v (.str (txt (rt b)))) μ'
noncomputable def cD : DSp := fun ds μ Q => ∃ x : N3, ds = [.v (dN x)] ∧ iU x ∧ ∀ μ', (∀ b ds, μ b = some ds → μ' b = some ds) → Q (.v (.str (txt (bH x)))) μ'
theorem qM {gs : jq} {x : N3} {ρ : Rho} {μ : Mu} {QG : Rho → Mu → Prop} : ic 3 gs (.v (dN x)) ρ μ QG = gs [.int x.a, .int x.b, .int x.c] ρ μ QG := propext ⟨fun h => h.2, fun h => ⟨rfl, h⟩⟩
theorem oB {μ : Mu} {Q : DK} {ds : List D} (h : dE ds μ Q) : ds.length = 1 := by obtain ⟨_, rfl, _⟩ := h; rfl
theorem j0 {μ : Mu} {Q : DK} {ds : List D} (h : cT ds μ Q) : ds.length = 1 := by obtain ⟨_, rfl, _⟩ := h; rfl
theorem jU {μ : Mu} {Q : DK} {ds : List D} (h : cD ds μ Q) : ds.length = 1 := by obtain ⟨_, rfl, _⟩ := h; rfl
local macro_rules|`(tactic| walk_at "rl")=>mkW "↓qM ↓tp ↓vL ↓l_t ↓l_f l_T l_F zr zz ↓nJ ↓xt ↓rC ↓uC ↓rz ↓xi ↓zG ↓qV ↓rR ↓zN ↓zV ↓Ak ↓zC ↓qT ↓vw gb mq ly decide_true decide_false Bool.true_xor Bool.xor_true ↓pW ↓qw ↓qs ↓pN ↓qq ↓pB ↓p7 ↓qH ↓q_c ↓zj ↓q_B ↓xT ↓vA ↓vc ↓vy ↓xu ↓pM ↓uq ↓qi ↓zA ↓vk ↓qC ↓uP ↓uj ↓qE ↓tJ ↓uW ↓tq ↓pG ↓pV ↓pz ↓mK ↓mL ↓mN ↓qx ↓mv ↓kB ↓um ↓uI ↓uN ↓kA ↓qa ↓Am ↓pA ↓qh ↓uZ ↓xG ↓pU ↓tN ↓uf ↓ng ↓qg ↓mP ↓pY ↓pR ↓xq ↓uF ↓qm ↓uH ↓uc ↓qo ↓xh ↓mQ ↓vi ↓tS ↓qc ↓nW ↓lh uV p6 pC va uh ur Option.bind_none Option.bind_some Option.join_some List.getElem?_cons_zero List.getElem?_cons_succ aF xr vo uk u7 w8 kN mD my oR rn List.map List.append List.replicate List.length_cons List.length_nil Nat.reduceAdd Nat.reduceSub List.nil_append List.cons_append List.set_cons_zero List.set_cons_succ Option.map_some Bool.not_true Bool.not_false Bool.false_eq_true Bool.true_eq_false Bool.xor_false Bool.false_xor"
noncomputable def fb : DTS :=
  (az (aO (tf (dC (.int 10)) (dC (.int 64))) (aj 1))
  (az (aO (n8 ao) (aj 2))
  (az (aO (dCB hW (ab (ae 0) ao)) (aj 3))
  (az (lC (dB (dOp rGe (ae 3) (ae 1))) ec)
  (az (og (vR (ae 2) (dCB gw (ab (ae 3) ao))))
  (az (og (vv (ae 2)))
  (bu (dOp aT (dIf (dB (dOp rLt (ae 0) (dC (.int 0)))) (dC (.str "-")) (dC (.str ""))) (qj (dC (.str "")) (ae 2))))))))))
noncomputable def cM : DTS :=
  (az (bT (dB (dOp (bp false) (ae 0) (dC (.int 1)))) (bu (dC (.str "r"))) bg)
  (az (bT (dB (dOp (bp false) (ae 0) (iq (dC (.int 1))))) (bu (dC (.str "-r"))) bg)
  (bu (dOp aT (au dE (ab (ae 0) ao)) (dC (.str "r"))))))
noncomputable def eI : DTS :=
  (az (aO (ae 0) (ic 3 (bG (aj 1) (bG (aj 2) (bG (aj 3) i9)))))
  (az (bT (dB (dOp (bp false) (ae 2) (dC (.int 0)))) (aO (au dE (ab (ae 1) ao)) (aj 4)) (bT (dB (dOp (bp false) (ae 1) (dC (.int 0)))) (aO (au cT (ab (ae 2) ao)) (aj 4)) (az (aO (dOp aT (dOp aT (au dE (ab (ae 1) ao)) (dIf (dB (dOp rGt (ae 2) (dC (.int 0)))) (dC (.str "+")) (dC (.str "")))) (au cT (ab (ae 2) ao))) (aj 4))
  (aO (dIf (dB (dOp (bp false) (ae 3) (dC (.int 1)))) (ae 4) (dJS (djC (dC (.str "(")) (djC (dFv (ae 4)) (djC (dC (.str ")")) djN))))) (aj 4)))))
  (bu (dIf (dB (dOp (bp false) (ae 3) (dC (.int 1)))) (ae 4) (dJS (djC (dFv (ae 4)) (djC (dC (.str "/")) (djC (dFv (au dE (ab (ae 3) ao))) djN))))))))
noncomputable def eY : DTS :=
  (az (bT (dB (dOp (bp false) (ae 0) (dC (.int 1)))) (bu (dC (.str "r"))) bg)
  (az (bT (dB (dOp (bp false) (ae 0) (iq (dC (.int 1))))) (bu (dC (.str "-r"))) bg)
  (bu (dOp aT (dCB gw (ab (ae 0) ao)) (dC (.str "r"))))))
noncomputable def gk : DTS :=
  (az (aO (ae 0) (ic 3 (bG (aj 1) (bG (aj 2) (bG (aj 3) i9)))))
  (az (aO (dCB gw (ab (ae 1) ao)) (aj 4))
  (az (bT (pf (dB (dOp (bp true) (ae 2) (dC (.int 0)))) (dB (dOp (bp false) (ae 1) (dC (.int 0))))) (aO (au cT (ab (ae 2) ao)) (aj 4)) (bT (dB (dOp (bp true) (ae 2) (dC (.int 0)))) (az (aO (dIf (dB (dOp rGt (ae 2) (dC (.int 0)))) (dOp aT (dOp aT (dCB gw (ab (ae 1) ao)) (dC (.str "+"))) (au cT (ab (ae 2) ao))) (dOp aT (dCB gw (ab (ae 1) ao)) (au cT (ab (ae 2) ao)))) (aj 4))
  (bT (dB (dOp (bp true) (ae 3) (dC (.int 1)))) (aO (dOp aT (dOp aT (dC (.str "(")) (ae 4)) (dC (.str ")"))) (aj 4)) bg)) bg))
  (bu (dIf (dB (dOp (bp false) (ae 3) (dC (.int 1)))) (ae 4) (dOp aT (dOp aT (ae 4) (dC (.str "/"))) (dCB gw (ab (ae 3) ao))))))))
section
variable {μ : Mu} {Qd : DK} {ds : List D}
theorem bS {i : Int} (h : dq i) : (whl i).length ≤ 41 := by
  have := uJ (n := i.natAbs) (k := 39) h
  unfold whl
  split
  · rw [List.length_cons]; omega
  · omega
theorem lx {i : Int} (h : dq i) : (rt i).length ≤ 42 := by
  have := bS h
  unfold rt
  split
  · decide
  · split
    · decide
    · rw [List.length_append]; simp; omega
theorem g7 {i : Int} (h : dq i) : i.natAbs.log2 < 1920 := by
  rcases Nat.eq_zero_or_pos i.natAbs with z | z
  · rw [z]; decide
  · rw [Nat.log2_lt (by omega)]
    exact Nat.lt_trans h (by decide +kernel)
theorem w6 {i : Int} (h : dq i) : ((i.natAbs : Nat) : Int).natAbs.log2 < 1920 := by
  rw [Int.natAbs_natCast]; exact g7 h
theorem lZ (h : dE ds μ Qd) : fb ‹Qd› (aF ["k", "block", "blocks", "rest"] ds) μ := by
  obtain ⟨k, rfl, hk, q⟩ := h
  unfold fb
  walk_at "rl"
  refine ⟨⟨by decide, by decide, by decide⟩, fun p hp => ?_⟩
  rw [wZ]
  refine ⟨fun _ ρ μ' => ρ = [some (.v (.int k)), some (.v (.int (10 ^ Int.toNat 64))), some (.m p), some (.v (.int (k.natAbs : Nat)))] ∧ μ' = ar μ p [], ⟨0, rfl, rfl⟩, fun m ρ μ' ⟨e1, e2⟩ => ?_⟩
  subst e1 e2
  walk_at "rl"
  have hb : ¬ (10 : Int) ^ Int.toNat 64 ≤ (k.natAbs : Nat) := by
    have h1 : k.natAbs < 10 ^ 40 := hk
    have e : (10 : Int) ^ Int.toNat 64 = ((10 ^ 64 : Nat) : Int) := by decide +kernel
    rw [e]
    have : (10 : Nat) ^ 40 < 10 ^ 64 := by decide +kernel
    omega
  rw [decide_eq_false hb, if_neg Bool.false_ne_true]
  refine ⟨w6 hk, ?_⟩
  simp only [aD]
  refine ⟨by decide, ?_⟩
  simp only [aD, List.nil_append]
  have fin : ∀ (u : List Nat) (z : Str) (M : Mu), z = txt u → u ++ dg k.natAbs = whl k → M p = some [.str (txt (dg k.natAbs))] → (∀ b ds, μ b = some ds → M b = some ds) →
      ∃ xs ws, wx M (.m p) = some xs ∧ gU xs = some ws ∧ qI (Str.ofString "").length ws ≤ 10000 ∧ (iQ (Str.ofString "") ws).length ≤ 10000 ∧ z.length + (iQ (Str.ofString "") ws).length ≤ 10000 ∧ Qd (.v (.str (z ++ iQ (Str.ofString "") ws))) M := fun u z M hz hu hM hk' => by
    have hl := bS hk
    rw [← hu, List.length_append] at hl
    refine ⟨_, [txt (dg k.natAbs)], hM, rfl, ?_, ?_, ?_, ?_⟩
    · show 0 + (txt (dg k.natAbs)).length + 0 ≤ 10000
      rw [av]; omega
    · show (txt (dg k.natAbs)).length ≤ 10000
      rw [av]; omega
    · show z.length + (txt (dg k.natAbs)).length ≤ 10000
      rw [hz, av, av]; omega
    · show Qd (.v (.str (z ++ txt (dg k.natAbs)))) _
      rw [hz, bq, hu]
      exact q _ hk'
  have hM : ar (ar (ar μ p []) p [.str (Str.ofString (toString ((k.natAbs : Nat) : Int)))]) p [PyData.str (Str.ofString (toString ((k.natAbs : Nat) : Int)))].reverse p = some [.str (txt (dg k.natAbs))] := by
    rw [aD, wR]; rfl
  have hk' : ∀ b ds, μ b = some ds → ar (ar (ar μ p []) p [.str (Str.ofString (toString ((k.natAbs : Nat) : Int)))]) p [PyData.str (Str.ofString (toString ((k.natAbs : Nat) : Int)))].reverse b = some ds := fun b ds e => by
    have hb : b ≠ p := fun z => by rw [z, hp] at e; cases e
    rw [aR hb, aR hb, aR hb]; exact e
  by_cases c : k < 0
  · rw [cY (decide_eq_true c)]
    walk_at "rl"
    exact fin [45] _ _ (lit _) (by unfold whl; rw [if_pos c]; rfl) hM hk'
  · rw [cG (by rw [decide_eq_true_eq]; exact c)]
    walk_at "rl"
    exact fin [] _ _ (lit _) (by unfold whl; rw [if_neg c]; rfl) hM hk'
theorem iS (h : cT ds μ Qd) : cM ‹Qd› (aF ["b"] ds) μ := by
  obtain ⟨b, rfl, hb, q⟩ := h
  unfold cM
  walk_at "rl"
  by_cases c1 : b = 1
  · rw [cY (decide_eq_true c1)]
    walk_at "rl"
    have := q μ fun _ _ e => e
    unfold rt at this
    rw [if_pos c1] at this
    exact this
  · rw [cG (by rw [decide_eq_true_eq]; exact c1)]
    walk_at "rl"
    by_cases c2 : b = -1
    · rw [cY (decide_eq_true c2)]
      walk_at "rl"
      have := q μ fun _ _ e => e
      unfold rt at this
      rw [if_neg c1, if_pos c2] at this
      exact this
    · rw [cG (by rw [decide_eq_true_eq]; exact c2)]
      walk_at "rl"
      refine ⟨b, rfl, hb, fun μ' h => ?_⟩
      walk_at "rl"
      have := bS hb
      refine ⟨by rw [av]; show _ + 1 ≤ 10000; omega, ?_⟩
      have := q μ' h
      unfold rt at this
      rw [if_neg c1, if_neg c2, ← bq] at this
      exact this
theorem lG (h : cT ds μ Qd) : eY ‹Qd› (aF ["_law_b"] ds) μ := by
  obtain ⟨b, rfl, hb, q⟩ := h
  unfold eY
  walk_at "rl"
  by_cases c1 : b = 1
  · rw [cY (decide_eq_true c1)]
    walk_at "rl"
    have := q μ fun _ _ e => e
    unfold rt at this
    rw [if_pos c1] at this
    exact this
  · rw [cG (by rw [decide_eq_true_eq]; exact c1)]
    walk_at "rl"
    by_cases c2 : b = -1
    · rw [cY (decide_eq_true c2)]
      walk_at "rl"
      have := q μ fun _ _ e => e
      unfold rt at this
      rw [if_neg c1, if_pos c2] at this
      exact this
    · rw [cG (by rw [decide_eq_true_eq]; exact c2)]
      walk_at "rl"
      refine ⟨g7 hb, ?_⟩
      have := bS hb
      rw [tos]
      refine ⟨by rw [av]; show _ + 1 ≤ 10000; omega, ?_⟩
      have := q μ fun _ _ e => e
      unfold rt at this
      rw [if_neg c1, if_neg c2, ← bq] at this
      exact this
end
open PySem PySem.Spec PyProof.Rows NM
section
variable {μ : Mu} {Qd : DK} {ds : List D}
theorem fO {x : N3} (h : iU x) : (aI x).length ≤ 100 := by
  have h1 := bS h.1
  have h2 := lx h.2.1
  have hm : (dr x.a x.b).length ≤ 84 := by
    unfold dr
    rw [List.length_append, List.length_append]
    split
    · show _ + 1 + _ ≤ 84; omega
    · show _ + 0 + _ ≤ 84; omega
  unfold aI
  split
  · omega
  · split
    · omega
    · split
      · omega
      · rw [List.length_append, List.length_cons]; show _ + 1 ≤ 100; omega
theorem uv {x : N3} (h : iU x) : (bH x).length ≤ 200 := by
  have h1 := fO h
  have h2 := bS h.2.2
  unfold bH
  split
  · omega
  · rw [List.length_append, List.length_cons]; omega
theorem qU (z : Str) : Str.empty ++ z = z := by
  show (⟨#[] ++ z.cps⟩ : Str) = z
  rw [Array.empty_append]
theorem bD {l : List Nat} {n : Nat} (h : l.length ≤ n) : (txt l).length ≤ n := by rw [av]; exact h
theorem nj {x : N3} {r0 r1 r2 : Option D} (hx : iU x) (q : ∀ μ', (∀ b ds, μ b = some ds → μ' b = some ds) → Qd (.v (.str (txt (bH x)))) μ') {μ1 : Mu} (h1 : ∀ b ds, μ b = some ds → μ1 b = some ds) :
    if decide (x.c = 1) = true then hd (ae 4 [r0, r1, r2, some (.v (.int x.c)), some (.v (.str (txt (aI x))))] μ1 Qd) .mk else hd (dJS (djC (dFv (ae 4)) (djC (dC (.str "/")) (djC (dFv (au dE (ab (ae 3) ao))) djN))) [r0, r1, r2, some (.v (.int x.c)), some (.v (.str (txt (aI x))))] μ1 Qd) .mk := by
  have l1 := fO hx
  have l2 := bS hx.2.2
  by_cases c : x.c = 1
  · rw [cY (decide_eq_true c)]
    walk_at "rl"
    have := q μ1 h1
    unfold bH at this
    rw [if_pos c] at this
    exact this
  · rw [cG (by rw [decide_eq_true_eq]; exact c)]
    walk_at "rl"
    rw [qU, lit "/"]
    refine ⟨bD (by omega), bD (by omega), by rw [bq]; exact bD (by rw [List.length_append]; show _ + 1 ≤ 10000; omega), x.c, rfl, hx.2.2, fun μ2 h2 => ?_⟩
    walk_at "rl"
    rw [bq, bq]
    have l3 : (aI x ++ "/".toList.map Char.toNat ++ whl x.c).length ≤ 10000 := by
      rw [List.length_append, List.length_append]; show _ + 1 + _ ≤ 10000; omega
    refine ⟨bD (by omega), bD l3, bD l3, ?_⟩
    have := q μ2 fun b ds e => h2 b ds (h1 b ds e)
    unfold bH at this
    rw [if_neg c] at this
    rw [List.append_assoc]
    exact this
theorem nX {x : N3} {r0 r1 r2 : Option D} (hx : iU x) (q : ∀ μ', (∀ b ds, μ b = some ds → μ' b = some ds) → Qd (.v (.str (txt (bH x)))) μ') {μ1 : Mu} (h1 : ∀ b ds, μ b = some ds → μ1 b = some ds) :
    bu (dIf (dB (dOp (bp false) (ae 3) (dC (.int 1)))) (ae 4) (dJS (djC (dFv (ae 4)) (djC (dC (.str "/")) (djC (dFv (au dE (ab (ae 3) ao))) djN))))) ‹Qd› [r0, r1, r2, some (.v (.int x.c)), some (.v (.str (txt (aI x))))] μ1 := by
  walk_at "rl"
  exact nj hx q h1
theorem kT (h : cD ds μ Qd) : eI ‹Qd› (aF ["x", "a", "b", "c", "body"] ds) μ := by
  obtain ⟨x, rfl, hx, q⟩ := h
  obtain ⟨ha, hb, hc⟩ := id hx
  have l1 := bS ha
  have l2 := lx hb
  unfold eI
  walk_at "rl"
  by_cases cb : x.b = 0
  · rw [cY (decide_eq_true cb)]
    walk_at "rl"
    refine ⟨x.a, rfl, ha, fun μ1 h1 => ?_⟩
    have eb : aI x = whl x.a := by unfold aI; rw [if_pos cb]
    rw [← eb]
    have := nX (r0 := some (.v (dN x))) (r1 := some (.v (.int x.a))) (r2 := some (.v (.int x.b))) hx q h1
    exact this
  · rw [cG (by rw [decide_eq_true_eq]; exact cb)]
    walk_at "rl"
    by_cases ca : x.a = 0
    · rw [cY (decide_eq_true ca)]
      walk_at "rl"
      refine ⟨x.b, rfl, hb, fun μ1 h1 => ?_⟩
      have eb : aI x = rt x.b := by unfold aI; rw [if_neg cb, if_pos ca]
      rw [← eb]
      exact nX (r0 := some (.v (dN x))) (r1 := some (.v (.int x.a))) (r2 := some (.v (.int x.b))) hx q h1
    · rw [cG (by rw [decide_eq_true_eq]; exact ca)]
      walk_at "rl"
      refine ⟨x.a, rfl, ha, fun μ1 h1 => ?_⟩
      walk_at "rl"
      have fin : ∀ u : List Nat, (whl x.a ++ u ++ rt x.b) = dr x.a x.b → u.length ≤ 1 → ∀ z : Str, z = txt u → aT (.v (.str (txt (whl x.a)))) (.v (.str z)) μ1 (fun w μ2 => au cT (ab (ae 2) ao) [some (.v (dN x)), some (.v (.int x.a)), some (.v (.int x.b)), some (.v (.int x.c)), none] μ2 fun y μ3 => aT w y μ3 (hd (fun d μ4 => aj 4 d [some (.v (dN x)), some (.v (.int x.a)), some (.v (.int x.b)), some (.v (.int x.c)), none] μ4 fun ρ μ5 => aO (dIf (dB (dOp (bp false) (ae 3) (dC (.int 1)))) (ae 4) (dJS (djC (dC (.str "(")) (djC (dFv (ae 4)) (djC (dC (.str ")")) djN))))) (aj 4) { nx := bu (dIf (dB (dOp (bp false) (ae 3) (dC (.int 1)))) (ae 4) (dJS (djC (dFv (ae 4)) (djC (dC (.str "/")) (djC (dFv (au dE (ab (ae 3) ao))) djN))))) ‹Qd›, rt := Qd } ρ μ5) .mk)) := fun u hu hl z hz => by
        subst hz
        walk_at "rl"
        refine ⟨by rw [av, av]; omega, x.b, rfl, hb, fun μ2 h2 => ?_⟩
        walk_at "rl"
        rw [bq, bq, hu]
        have lm : (dr x.a x.b).length ≤ 84 := by rw [← hu, List.length_append, List.length_append]; omega
        refine ⟨by rw [av, av, List.length_append]; omega, ?_⟩
        have h02 : ∀ b ds, μ b = some ds → μ2 b = some ds := fun b ds e => h2 b ds (h1 b ds e)
        by_cases cc : x.c = 1
        · rw [cY (decide_eq_true cc)]
          walk_at "rl"
          have eb : aI x = dr x.a x.b := by unfold aI; rw [if_neg cb, if_neg ca, if_pos cc]
          rw [← eb]
          exact nj (r0 := some (.v (dN x))) (r1 := some (.v (.int x.a))) (r2 := some (.v (.int x.b))) hx q h02
        · rw [cG (by rw [decide_eq_true_eq]; exact cc)]
          walk_at "rl"
          rw [qU, lit "(", lit ")", bq, bq]
          have eb : aI x = "(".toList.map Char.toNat ++ dr x.a x.b ++ ")".toList.map Char.toNat := by unfold aI; rw [if_neg cb, if_neg ca, if_neg cc]; rfl
          rw [← eb]
          have l3 := fO hx
          refine ⟨bD (by decide), bD (by omega), bD (by rw [List.length_append]; show 1 + _ ≤ 10000; omega), bD (by omega), bD (by omega), ?_⟩
          exact nj (r0 := some (.v (dN x))) (r1 := some (.v (.int x.a))) (r2 := some (.v (.int x.b))) hx q h02
      by_cases cp : 0 < x.b
      · rw [cY (decide_eq_true cp)]
        exact fin [43] (by unfold dr; rw [if_pos cp]) (by decide) (Str.ofString "+") (lit "+")
      · rw [cG (by rw [decide_eq_true_eq]; exact cp)]
        exact fin [] (by unfold dr; rw [if_neg cp]) (by decide) (Str.ofString "") (lit "")
end
open PySem PySem.Spec PyProof.Rows NM
section
variable {μ : Mu} {Qd : DK} {ds : List D}
theorem rH {x : N3} (h : iU x) : (dr x.a x.b).length ≤ 84 := by
  have h1 := bS h.1
  have h2 := lx h.2.1
  unfold dr
  rw [List.length_append, List.length_append]
  split
  · show _ + 1 + _ ≤ 84; omega
  · show _ + 0 + _ ≤ 84; omega
theorem iY {x : N3} {r0 r1 r2 : Option D} (hx : iU x) {μ1 : Mu} (q : Qd (.v (.str (txt (bH x)))) μ1) :
    if decide (x.c = 1) = true then hd (ae 4 [r0, r1, r2, some (.v (.int x.c)), some (.v (.str (txt (aI x))))] μ1 Qd) .mk else hd (dOp aT (dOp aT (ae 4) (dC (.str "/"))) (dCB gw (ab (ae 3) ao)) [r0, r1, r2, some (.v (.int x.c)), some (.v (.str (txt (aI x))))] μ1 Qd) .mk := by
  have l1 := fO hx
  have l2 := bS hx.2.2
  by_cases c : x.c = 1
  · rw [cY (decide_eq_true c)]
    walk_at "rl"
    unfold bH at q
    rw [if_pos c] at q
    exact q
  · rw [cG (by rw [decide_eq_true_eq]; exact c)]
    walk_at "rl"
    rw [lit "/", bq, tos, bq]
    refine ⟨by rw [av, av]; show _ + 1 ≤ 10000; omega, g7 hx.2.2, by rw [av, av, List.length_append]; show _ + 1 + _ ≤ 10000; omega, ?_⟩
    unfold bH at q
    rw [if_neg c] at q
    rw [List.append_assoc]
    exact q
theorem nG (h : cD ds μ Qd) : gk ‹Qd› (aF ["_law_x", "_law_a", "_law_b", "_law_c", "_law_text_here"] ds) μ := by
  obtain ⟨x, rfl, hx, q⟩ := h
  obtain ⟨ha, hb, hc⟩ := id hx
  have l1 := bS ha
  have l2 := lx hb
  unfold gk
  walk_at "rl"
  rw [tos]
  refine ⟨g7 ha, ?_⟩
  have keep : ∀ b ds, μ b = some ds → μ b = some ds := fun _ _ e => e
  by_cases cb : x.b = 0
  · have e1 : (!decide (x.b = 0)) = false := by rw [decide_eq_true cb]; rfl
    rw [e1]
    walk_at "rl"
    rw [e1]
    walk_at "rl"
    have eb : aI x = whl x.a := by unfold aI; rw [if_pos cb]
    rw [← eb]
    exact iY hx (q _ keep)
  · have e1 : (!decide (x.b = 0)) = true := by rw [decide_eq_false cb]; rfl
    rw [e1]
    walk_at "rl"
    by_cases ca : x.a = 0
    · rw [cY (decide_eq_true ca)]
      walk_at "rl"
      refine ⟨x.b, rfl, hb, fun μ1 h1 => ?_⟩
      walk_at "rl"
      have eb : aI x = rt x.b := by unfold aI; rw [if_neg cb, if_pos ca]
      rw [← eb]
      exact iY hx (q _ h1)
    · rw [cG (by rw [decide_eq_true_eq]; exact ca)]
      walk_at "rl"
      rw [e1]
      walk_at "rl"
      have fin : ∀ μ1, (∀ b ds, μ b = some ds → μ1 b = some ds) → az (bT (dB (dOp (bp true) (ae 3) (dC (.int 1)))) (aO (dOp aT (dOp aT (dC (.str "(")) (ae 4)) (dC (.str ")"))) (aj 4)) bg) (bu (dIf (dB (dOp (bp false) (ae 3) (dC (.int 1)))) (ae 4) (dOp aT (dOp aT (ae 4) (dC (.str "/"))) (dCB gw (ab (ae 3) ao))))) ‹Qd›
          [some (.v (dN x)), some (.v (.int x.a)), some (.v (.int x.b)), some (.v (.int x.c)), some (.v (.str (txt (dr x.a x.b))))] μ1 := fun μ1 h1 => by
        have l3 : (dr x.a x.b).length ≤ 84 := rH hx
        walk_at "rl"
        by_cases cc : x.c = 1
        · rw [cG (by rw [decide_eq_true cc]; decide)]
          walk_at "rl"
          have eb : aI x = dr x.a x.b := by unfold aI; rw [if_neg cb, if_neg ca, if_pos cc]
          rw [← eb]
          exact iY hx (q _ h1)
        · rw [cY (by rw [decide_eq_false cc]; rfl)]
          walk_at "rl"
          rw [lit "(", lit ")", bq, bq]
          have eb : aI x = "(".toList.map Char.toNat ++ dr x.a x.b ++ ")".toList.map Char.toNat := by unfold aI; rw [if_neg cb, if_neg ca, if_neg cc]; rfl
          rw [← eb]
          refine ⟨by rw [av, av]; show 1 + _ ≤ 10000; omega, by rw [av, av, List.length_append]; show 1 + _ + 1 ≤ 10000; omega, ?_⟩
          exact iY hx (q _ h1)
      have l3 : (dr x.a x.b).length ≤ 84 := rH hx
      by_cases cp : 0 < x.b
      · rw [cY (decide_eq_true cp)]
        walk_at "rl"
        rw [tos, lit "+", bq]
        have em : whl x.a ++ "+".toList.map Char.toNat ++ rt x.b = dr x.a x.b := by unfold dr; rw [if_pos cp]; rfl
        have l4 := congrArg List.length em
        rw [List.length_append] at l4
        refine ⟨g7 ha, by rw [av, av]; show _ + 1 ≤ 10000; omega, x.b, rfl, hb, fun μ1 h1 => ?_⟩
        rw [vL, nJ, bq, em]
        refine ⟨by rw [av, av]; omega, ?_⟩
        exact fin μ1 h1
      · rw [cG (by rw [decide_eq_true_eq]; exact cp)]
        walk_at "rl"
        rw [tos]
        have em : whl x.a ++ rt x.b = dr x.a x.b := by unfold dr; rw [if_neg cp, List.append_nil]
        have l4 := congrArg List.length em
        rw [List.length_append] at l4
        refine ⟨g7 ha, x.b, rfl, hb, fun μ1 h1 => ?_⟩
        rw [vL, nJ, bq, em]
        refine ⟨by rw [av, av]; omega, ?_⟩
        exact fin μ1 h1
end
open PySem PySem.Spec PyProof.Rows NM
noncomputable def g9 : DSp := fun ds μ Q => ∃ n : Nat, ds = [.v (.str (txt (dg n)))] ∧ n < 10 ^ 40 ∧ Q (.v (.int (n : Nat))) μ
noncomputable def gZ : DSp := fun ds μ Q => ∃ i : Int, ds = [.v (.str (txt (whl i)))] ∧ dq i ∧ Q (.v (.int i)) μ
noncomputable def RP (t : List Nat) (b : Int) : Prop := (t = [] ∧ b = 1) ∨ (t = [43] ∧ b = 1) ∨ (t = [45] ∧ b = -1) ∨ t = whl b ∨ (0 ≤ b ∧ t = 43 :: dg b.natAbs)
noncomputable def jl : DSp := fun ds μ Q => ∃ (t : List Nat) (b : Int), ds = [.v (.str (txt t))] ∧ RP t b ∧ dq b ∧ Q (.v (.int b)) μ
def gq (a b : Int) : List Nat := if b = 0 then whl a else if a = 0 then rt b else dr a b
noncomputable def iT : DSp := fun ds μ Q => ∃ a b : Int, ds = [.v (.str (txt (gq a b)))] ∧ dq a ∧ dq b ∧ ∀ t, RP t b → Q (.v (.tuple [.str (txt (whl a)), .str (txt t)])) μ
noncomputable def g5 : DSp := fun ds μ Q => ∃ x : N3, ds = [.v (.str (txt (bH x)))] ∧ Ok x ∧ iU x ∧ ∀ μ', (∀ b ds, μ b = some ds → μ' b = some ds) → Q (.v (dN x)) μ'
theorem oX {μ : Mu} {Q : DK} {ds : List D} (h : g9 ds μ Q) : ds.length = 1 := by obtain ⟨_, rfl, _⟩ := h; rfl
theorem oJ {μ : Mu} {Q : DK} {ds : List D} (h : gZ ds μ Q) : ds.length = 1 := by obtain ⟨_, rfl, _⟩ := h; rfl
theorem n9 {μ : Mu} {Q : DK} {ds : List D} (h : jl ds μ Q) : ds.length = 1 := by obtain ⟨_, _, rfl, _⟩ := h; rfl
theorem oQ {μ : Mu} {Q : DK} {ds : List D} (h : iT ds μ Q) : ds.length = 1 := by obtain ⟨_, _, rfl, _⟩ := h; rfl
theorem oO {μ : Mu} {Q : DK} {ds : List D} (h : g5 ds μ Q) : ds.length = 1 := by obtain ⟨_, rfl, _⟩ := h; rfl
noncomputable def ft : DTS :=
  (az (bT (kO (dB (dOp (bp false) (ae 0) (dC (.str "")))) (kO (dB (dOp rGt (dCB ow (ab (ae 0) ao)) (dC (.int 40)))) (jc (dB (dCB mi (ab (rG [none] (tL (ae 0)) (aj 0) oE (dOp (rq false) (ae 0) (dC (.str "0123456789")))) ao)))))) ec bg)
  (bu (dCB pk (ab (ae 0) ao))))
noncomputable def eD : DTS :=
  (bu (dIf (dB (dSM gb (ae 0) (dC (.str "-")))) (iq (au g9 (ab (mZ (ae 0) (gy (dC (.int 1))) gY) ao))) (au g9 (ab (ae 0) ao))))
noncomputable def cN : DTS :=
  (az (bT (kO (dB (dOp (bp false) (ae 0) (dC (.str "")))) (dB (dOp (bp false) (ae 0) (dC (.str "+"))))) (bu (dC (.int 1))) bg)
  (az (bT (dB (dOp (bp false) (ae 0) (dC (.str "-")))) (bu (iq (dC (.int 1)))) bg)
  (bu (au gZ (ab (dIf (dB (dSM gb (ae 0) (dC (.str "+")))) (mZ (ae 0) (gy (dC (.int 1))) gY) (ae 0)) ao)))))
noncomputable def gc : DTS :=
  (az (bT (jc (dB (dSM mq (ae 0) (dC (.str "r"))))) (bu (kh (ab (ae 0) (ab (dC (.str "0")) ao)))) bg)
  (az (aO (dCB (o8 max) (ab (dSM ly (ae 0) (dC (.str "+"))) (ab (dSM ly (ae 0) (dC (.str "-"))) ao))) (aj 1))
  (az (bT (dB (dOp rLe (ae 1) (dC (.int 0)))) (bu (kh (ab (dC (.str "0")) (ab (mZ (ae 0) gY (gy (iq (dC (.int 1))))) ao)))) bg)
  (bu (kh (ab (mZ (ae 0) gY (gy (ae 1))) (ab (mZ (ae 0) (gy (ae 1)) (gy (iq (dC (.int 1))))) ao)))))))
noncomputable def eJ : DTS :=
  (az (bT (jc (dB (qd "str" (ae 0)))) ec bg)
  (az (aO (pP (ae 0) (dC (.str "/"))) (ic 3 (bG (aj 1) (bG (aj 2) (bG (aj 3) i9)))))
  (az (aO (dIf (uT (ae 2)) (au g9 (ab (ae 3) ao)) (dC (.int 1))) (aj 4))
  (az (bT (dB (dOp (bp false) (ae 4) (dC (.int 0)))) ec bg)
  (az (bT (pf (dB (dSM gb (ae 1) (dC (.str "(")))) (dB (dSM mq (ae 1) (dC (.str ")"))))) (aO (mZ (ae 1) (gy (dC (.int 1))) (gy (iq (dC (.int 1))))) (aj 1)) bg)
  (az (aO (au iT (ab (ae 1) ao)) (ic 2 (bG (aj 5) (bG (aj 6) i9))))
  (az (aO (au cU (ab (au gZ (ab (ae 5) ao)) (ab (au jl (ab (ae 6) ao)) (ab (ae 4) ao)))) (aj 7))
  (az (bT (dB (dOp (bp true) (au cD (ab (ae 7) ao)) (ae 0))) ec bg)
  (bu (ae 7))))))))))
section
variable {μ : Mu} {Qd : DK} {ds : List D}
theorem zi : Str.ofString "" = txt [] := lit _
theorem yr : Str.ofString "+" = txt [43] := lit _
theorem wy : Str.ofString "-" = txt [45] := lit _
theorem AU : Str.ofString "r" = txt [114] := lit _
theorem Aq : Str.ofString "(" = txt [40] := lit _
theorem Ay : Str.ofString ")" = txt [41] := lit _
theorem AI : Str.ofString "/" = txt [47] := lit _
theorem lt_0 : Str.ofString "0" = txt [48] := lit _
theorem iG {l r : List Nat} {neg : Bool} {μ : Mu} {Q : DK} (hl : Asc l) (hr : Asc r) : bp neg (.v (.str (txt l))) (.v (.str (txt r))) μ Q = Q (.v (.bool (neg ^^ decide (l = r)))) μ := by
  rw [tX, vW]
  exact propext ⟨fun h => h.2.2, fun h => ⟨lB hl, lB hr, h⟩⟩
theorem dO {l : List Nat} (h : l.all (fun c => decide (c < 128)) = true) : Asc l := fun c hc => of_decide_eq_true (List.all_eq_true.mp h c hc)
theorem v5 (xs : List PyData) : (xs.filterMap fun _ => some (PyData.bool true)) = xs.map fun _ => PyData.bool true := by
  induction xs with
  | nil => rfl
  | cons a r ih => rw [List.filterMap_cons, ih]; rfl
theorem lU (h : g9 ds μ Qd) : ft ‹Qd› (aF ["text"] ds) μ := by
  obtain ⟨n, rfl, hn, q⟩ := h
  have l1 := uJ (n := n) (k := 39) hn
  unfold ft
  walk_at "rl"
  rw [zi, iG (nA n) (dO rfl), decide_eq_false (o3 n)]
  walk_at "rl"
  refine ⟨bD (by omega), ?_⟩
  rw [av, cG (by rw [decide_eq_true_eq]; omega)]
  walk_at "rl"
  rw [vg]
  walk_at "rl"
  have el : (gn (txt (dg n))).length = (dg n).length := by unfold gn; rw [List.length_map, eE]
  refine ⟨by rw [el]; omega, fun _ => some (.bool true), fun x hx μ' _ => ⟨trivial, ?_⟩, ?_⟩
  · obtain ⟨c, hc, rfl⟩ := List.mem_map.mp hx
    rw [eE] at hc
    have hd := cV n c hc
    walk_at "rl"
    refine ⟨trivial, ?_⟩
    have e : inS ⟨#[c]⟩ (Str.ofString "0123456789") = true := by
      rw [lit, show (⟨#[c]⟩ : Str) = txt [c] from rfl, yW]
      have : c = 48 ∨ c = 49 ∨ c = 50 ∨ c = 51 ∨ c = 52 ∨ c = 53 ∨ c = 54 ∨ c = 55 ∨ c = 56 ∨ c = 57 := by omega
      rcases this with rfl | rfl | rfl | rfl | rfl | rfl | rfl | rfl | rfl | rfl <;> decide
    rw [e]
  · rw [v5, gT (fun _ => true)]
    have ea : ((gn (txt (dg n))).map fun _ => true).all id = true := by rw [List.all_map]; exact List.all_eq_true.mpr fun _ _ => rfl
    dsimp only
    rw [ea]
    walk_at "rl"
    refine ⟨_, yF (cV n) (o3 n) (by omega), bD (by omega), ?_⟩
    rw [yY]
    exact q
theorem kY (h : gZ ds μ Qd) : eD ‹Qd› (aF ["text"] ds) μ := by
  obtain ⟨i, rfl, hi, q⟩ := h
  have l1 := bS hi
  unfold eD
  walk_at "rl"
  rw [wy, ir]
  by_cases c : i < 0
  · have ew : whl i = 45 :: dg i.natAbs := by unfold whl; rw [if_pos c]
    rw [cY (decide_eq_true (by rw [ew]; rfl))]
    walk_at "rl"
    refine ⟨bD (by omega), i.natAbs, ?_, hi, ?_⟩
    · rw [ew, rk ⟨by decide, by rw [List.length_cons]; omega⟩]
      rfl
    · walk_at "rl"
      rw [show -((i.natAbs : Nat) : Int) = i by omega]
      exact q
  · have ew : whl i = dg i.natAbs := by unfold whl; rw [if_neg c]
    have hh : (whl i).head? ≠ some 45 := fun z => by
      rw [ew] at z
      have := cV i.natAbs 45 (List.mem_of_mem_head? (by rw [z]; rfl))
      omega
    rw [cG (by rw [decide_eq_true_eq]; exact hh)]
    walk_at "rl"
    refine ⟨i.natAbs, by rw [ew], hi, ?_⟩
    walk_at "rl"
    rw [show ((i.natAbs : Nat) : Int) = i by omega]
    exact q
theorem qF (i : Int) : whl i ≠ [] := by
  unfold whl; split
  · exact List.cons_ne_nil _ _
  · exact o3 _
theorem vK (i : Int) : whl i ≠ [45] := by
  unfold whl; split
  · intro z; exact o3 _ (List.cons.inj z).2
  · intro z
    have := cV i.natAbs 45 (by rw [z]; exact List.mem_singleton.mpr rfl)
    omega
theorem kg (i : Int) : 43 ∉ whl i := by
  unfold whl; split
  · intro z
    rcases List.mem_cons.mp z with w | w
    · cases w
    · have := cV i.natAbs 43 w; omega
  · intro z; have := cV i.natAbs 43 z; omega
theorem oP (i : Int) : ∀ c ∈ whl i, c = 45 ∨ (48 ≤ c ∧ c ≤ 57) := fun c hc => by
  unfold whl at hc
  split at hc
  · rcases List.mem_cons.mp hc with z | z
    · exact .inl z
    · exact .inr (cV _ c z)
  · exact .inr (cV _ c hc)
theorem k7 {c : Nat} {l : List Nat} (hc : c < 128) (h : Asc l) : Asc (c :: l) := fun d hd => by
  rcases List.mem_cons.mp hd with z | z
  · rw [z]; exact hc
  · exact h d z
theorem rT {l r : List Nat} (h : Asc l) (h' : Asc r) : Asc (l ++ r) := fun d hd => by
  rcases List.mem_append.mp hd with z | z
  · exact h d z
  · exact h' d z
theorem iN (h : jl ds μ Qd) : cN ‹Qd› (aF ["text"] ds) μ := by
  obtain ⟨t, b, rfl, hr, hb, q⟩ := h
  have l1 := bS hb
  unfold cN
  walk_at "rl"
  have ht : Asc t := by
    rcases hr with ⟨rfl, _⟩ | ⟨rfl, _⟩ | ⟨rfl, _⟩ | rfl | ⟨_, rfl⟩
    · exact dO rfl
    · exact dO rfl
    · exact dO rfl
    · exact rM b
    · exact k7 (by decide) (nA _)
  rw [zi, iG ht (dO rfl)]
  by_cases c0 : t = []
  · rw [decide_eq_true c0]
    walk_at "rl"
    have : b = 1 := by
      subst c0
      rcases hr with ⟨_, e⟩ | ⟨e, _⟩ | ⟨e, _⟩ | e | ⟨_, e⟩
      · exact e
      · cases e
      · cases e
      · exact absurd e.symm (qF b)
      · cases e
    rw [← this]
    exact q
  · rw [decide_eq_false c0]
    walk_at "rl"
    rw [yr, iG ht (dO rfl)]
    by_cases c1 : t = [43]
    · rw [decide_eq_true c1]
      walk_at "rl"
      have : b = 1 := by
        subst c1
        rcases hr with ⟨e, _⟩ | ⟨_, e⟩ | ⟨e, _⟩ | e | ⟨_, e⟩
        · cases e
        · exact e
        · cases e
        · exact absurd (by rw [← e]; exact List.mem_singleton.mpr rfl) (kg b)
        · exact absurd (List.cons.inj e).2.symm (o3 _)
      rw [← this]
      exact q
    · rw [decide_eq_false c1]
      walk_at "rl"
      rw [wy, iG ht (dO rfl)]
      by_cases c2 : t = [45]
      · rw [decide_eq_true c2]
        walk_at "rl"
        have : b = -1 := by
          subst c2
          rcases hr with ⟨e, _⟩ | ⟨e, _⟩ | ⟨_, e⟩ | e | ⟨_, e⟩
          · cases e
          · cases e
          · exact e
          · exact absurd e.symm (vK b)
          · cases e
        rw [← this]
        exact q
      · rw [decide_eq_false c2]
        walk_at "rl"
        rw [ir]
        have hr' : t = whl b ∨ (0 ≤ b ∧ t = 43 :: dg b.natAbs) := by
          rcases hr with ⟨e, _⟩ | ⟨e, _⟩ | ⟨e, _⟩ | e | e
          · exact absurd e c0
          · exact absurd e c1
          · exact absurd e c2
          · exact .inl e
          · exact .inr e
        rcases hr' with e | ⟨h0, e⟩
        · subst e
          have hh : (whl b).head? ≠ some 43 := fun z => kg b (List.mem_of_mem_head? (by rw [z]; rfl))
          rw [cG (by rw [decide_eq_true_eq]; exact hh)]
          walk_at "rl"
          exact ⟨b, rfl, hb, q⟩
        · subst e
          have ew : whl b = dg b.natAbs := by unfold whl; rw [if_neg (by omega)]
          rw [cY (decide_eq_true (show (43 :: dg b.natAbs).head? = some 43 from rfl))]
          walk_at "rl"
          refine ⟨bD (by rw [List.length_cons]; rw [ew] at l1; omega), b, ?_, hb, q⟩
          rw [rk ⟨by decide, by rw [List.length_cons]; omega⟩, ew]
          rfl
def rtm (b : Int) : List Nat := if b = 1 then [] else if b = -1 then [45] else whl b
theorem oo (b : Int) : rt b = rtm b ++ [114] := by
  unfold rt rtm
  split
  · rfl
  · split
    · rfl
    · rfl
theorem tZ (b : Int) : RP (rtm b) b := by
  unfold rtm
  split
  · rename_i h1; exact .inl ⟨rfl, h1⟩
  · split
    · rename_i h2; exact .inr (.inr (.inl ⟨rfl, h2⟩))
    · exact .inr (.inr (.inr (.inl rfl)))
theorem vX {b : Int} (h : 0 < b) : RP (43 :: rtm b) b := by
  unfold rtm
  split
  · rename_i h1; exact .inr (.inl ⟨rfl, h1⟩)
  · split
    · omega
    · refine .inr (.inr (.inr (.inr ⟨by omega, ?_⟩)))
      unfold whl; rw [if_neg (by omega)]
theorem ny (b : Int) : 43 ∉ rtm b := by
  unfold rtm
  split
  · exact List.not_mem_nil
  · split
    · decide
    · exact kg b
theorem qY {b : Int} (h : 0 < b) : 45 ∉ rtm b := by
  unfold rtm
  split
  · exact List.not_mem_nil
  · split
    · omega
    · unfold whl; rw [if_neg (by omega)]
      intro z; have := cV b.natAbs 45 z; omega
theorem rQ {b : Int} (h : b < 0) : ∃ r, rtm b = 45 :: r ∧ 45 ∉ r ∧ 43 ∉ r := by
  unfold rtm
  rw [if_neg (by omega)]
  split
  · exact ⟨[], rfl, List.not_mem_nil, List.not_mem_nil⟩
  · unfold whl; rw [if_pos h]
    exact ⟨_, rfl, fun z => by have := cV b.natAbs 45 z; omega, fun z => by have := cV b.natAbs 43 z; omega⟩
theorem uK (l : List Nat) : (l ++ [114]).getLast? = some 114 := by simp
theorem ql {c : Nat} {l : List Nat} (h : c ∉ l) (hc : c ≠ 114) : c ∉ l ++ [114] := fun z => by
  rcases List.mem_append.mp z with w | w
  · exact h w
  · exact hc (List.mem_singleton.mp w)
theorem wO {l : List Nat} : Txt.slice (txt (l ++ [114])) none (some (-1)) = txt l := by
  rw [pZ (by decide) (by rw [av]; simp; omega), av, xm (by simp; omega)]
  congr 1
  rw [List.length_append, show (-1 + ((l.length + [114].length : Nat) : Int)).toNat = l.length by simp; omega, List.take_left']
  rfl
theorem nI (h : iT ds μ Qd) : gc ‹Qd› (aF ["body", "at"] ds) μ := by
  obtain ⟨a, b, rfl, ha, hb, q⟩ := h
  have l1 := bS ha
  have l2 := lx hb
  unfold gc
  walk_at "rl"
  rw [AU, oF]
  by_cases cb : b = 0
  · have es : gq a b = whl a := by unfold gq; rw [if_pos cb]
    rw [es]
    have hl : (whl a).getLast? ≠ some 114 := fun z => by
      have := oP a 114 (List.mem_of_mem_getLast? (by rw [z]; rfl))
      omega
    rw [decide_eq_false hl]
    walk_at "rl"
    rw [lt_0]
    refine q [48] ?_
    rw [cb]
    exact .inr (.inr (.inr (.inl rfl)))
  · by_cases ca : a = 0
    · have es : gq a b = rtm b ++ [114] := by unfold gq; rw [if_neg cb, if_pos ca, oo]
      rw [es, uK]
      have ll : (rtm b ++ [114]).length ≤ 42 := by rw [← oo]; exact l2
      walk_at "rl"
      rw [yr, wy, fQ (ql (ny b) (by decide))]
      have hm : max (-1) (eh (txt (rtm b ++ [114])) (txt [45])) ≤ 0 := by
        rcases Int.lt_or_lt_of_ne cb with z | z
        · obtain ⟨r, e, n1, n2⟩ := rQ z
          rw [e]
          have := gm (u := []) (ql n1 (by decide))
          rw [show 45 :: r ++ [114] = [] ++ 45 :: (r ++ [114]) from rfl, this]
          decide
        · rw [fQ (ql (qY z) (by decide))]; decide
      rw [cY (decide_eq_true hm)]
      walk_at "rl"
      refine ⟨bD (by omega), ?_⟩
      rw [wO, lt_0]
      have := q (rtm b) (tZ b)
      rw [ca] at this
      exact this
    · obtain ⟨s, es, hs, hm⟩ : ∃ s, dr a b = whl a ++ s ++ [114] ∧ RP s b ∧ max (eh (txt (whl a ++ s ++ [114])) (txt [43])) (eh (txt (whl a ++ s ++ [114])) (txt [45])) = ((whl a).length : Nat) := by
        have la : 1 ≤ (whl a).length := List.length_pos_iff.mpr (qF a)
        rcases Int.lt_or_lt_of_ne cb with z | z
        · obtain ⟨r, e, n1, n2⟩ := rQ z
          refine ⟨rtm b, by unfold dr; rw [if_neg (by omega), oo, List.append_nil, List.append_assoc], tZ b, ?_⟩
          rw [fQ (c := 43) (ql (fun w => by
            rcases List.mem_append.mp w with w | w
            · exact kg a w
            · exact ny b w) (by decide))]
          rw [e, List.append_assoc, show 45 :: r ++ [114] = 45 :: (r ++ [114]) from rfl, gm (ql n1 (by decide))]
          omega
        · refine ⟨43 :: rtm b, by unfold dr; rw [if_pos z, oo]; simp, vX z, ?_⟩
          have e1 : eh (txt (whl a ++ 43 :: rtm b ++ [114])) (txt [43]) = ((whl a).length : Nat) := by
            rw [List.append_assoc, show 43 :: rtm b ++ [114] = 43 :: (rtm b ++ [114]) from rfl, gm (ql (ny b) (by decide))]
          have n45 : 45 ∉ 43 :: rtm b ++ [114] := ql (fun w => by
            rcases List.mem_cons.mp w with w | w
            · cases w
            · exact qY z w) (by decide)
          have e2 : eh (txt (whl a ++ 43 :: rtm b ++ [114])) (txt [45]) ≤ 0 := by
            rw [List.append_assoc]
            by_cases an : a < 0
            · have ew : whl a = 45 :: dg a.natAbs := by unfold whl; rw [if_pos an]
              rw [ew]
              have := gm (u := []) (v := dg a.natAbs ++ (43 :: rtm b ++ [114])) (c := 45) (fun w => by
                rcases List.mem_append.mp w with w | w
                · have := cV a.natAbs 45 w; omega
                · exact n45 w)
              rw [show 45 :: dg a.natAbs ++ (43 :: rtm b ++ [114]) = [] ++ 45 :: (dg a.natAbs ++ (43 :: rtm b ++ [114])) from rfl, this]
              decide
            · have ew : whl a = dg a.natAbs := by unfold whl; rw [if_neg an]
              rw [fQ (fun w => by
                rcases List.mem_append.mp w with w | w
                · rw [ew] at w; have := cV a.natAbs 45 w; omega
                · exact n45 w)]
              decide
          rw [e1]
          omega
      have es' : gq a b = whl a ++ s ++ [114] := by unfold gq; rw [if_neg cb, if_neg ca]; exact es
      rw [es', uK]
      have lm : (whl a ++ s ++ [114]).length ≤ 90 := by
        rw [← es]; unfold dr; rw [List.length_append, List.length_append]; split
        · show _ + 1 + _ ≤ 90; omega
        · show _ + 0 + _ ≤ 90; omega
      have la : 1 ≤ (whl a).length := List.length_pos_iff.mpr (qF a)
      walk_at "rl"
      rw [yr, wy, hm]
      rw [cG (by rw [decide_eq_true_eq]; omega)]
      walk_at "rl"
      refine ⟨bD (by omega), bD (by omega), ?_⟩
      have e1 : Txt.slice (txt (whl a ++ s ++ [114])) none (some ((whl a).length : Nat)) = txt (whl a) := by
        rw [xm (by simp; omega), Int.toNat_natCast, List.append_assoc, List.take_left']
        rfl
      have e2 : Txt.slice (txt (whl a ++ s ++ [114])) (some ((whl a).length : Nat)) (some (-1)) = txt s := by
        rw [pZ (by decide) (by rw [av]; simp; omega), av, tw (by simp; omega), Int.toNat_natCast]
        congr 1
        have en : (-1 + (((whl a ++ s ++ [114]).length : Nat) : Int) - ((whl a).length : Nat)).toNat = s.length := by simp; omega
        rw [en, List.append_assoc, List.drop_left' rfl, List.take_left' rfl]
      rw [e1, e2]
      exact q s hs
end
open PySem PySem.Spec PyProof.Rows NM
section
variable {μ : Mu} {Qd : DK} {ds : List D}
theorem tI {i : Int} (h : dq i) : Sz 8800 i := (Sz.of (n := 133) (Nat.lt_trans h (by decide +kernel))).mono (by decide)
theorem g0 {a b : Int} : ∀ c ∈ gq a b, c = 43 ∨ c = 45 ∨ (48 ≤ c ∧ c ≤ 57) ∨ c = 114 := by
  have hw : ∀ i : Int, ∀ c ∈ whl i, c = 43 ∨ c = 45 ∨ (48 ≤ c ∧ c ≤ 57) ∨ c = 114 := fun i c hc => by
    rcases oP i c hc with z | z
    · exact .inr (.inl z)
    · exact .inr (.inr (.inl z))
  have hr : ∀ c ∈ rt b, c = 43 ∨ c = 45 ∨ (48 ≤ c ∧ c ≤ 57) ∨ c = 114 := fun c hc => by
    rw [oo] at hc
    rcases List.mem_append.mp hc with z | z
    · unfold rtm at z
      split at z
      · cases z
      · split at z
        · exact .inr (.inl (List.mem_singleton.mp z))
        · exact hw b c z
    · exact .inr (.inr (.inr (List.mem_singleton.mp z)))
  intro c hc
  unfold gq at hc
  split at hc
  · exact hw a c hc
  · split at hc
    · exact hr c hc
    · unfold dr at hc
      rcases List.mem_append.mp hc with z | z
      · rcases List.mem_append.mp z with z | z
        · exact hw a c z
        · split at z
          · exact .inl (List.mem_singleton.mp z)
          · cases z
      · exact hr c z
theorem iz (x : N3) : aI x = gq x.a x.b ∨ aI x = 40 :: gq x.a x.b ++ [41] := by
  unfold aI gq
  split
  · exact .inl rfl
  · split
    · exact .inl rfl
    · split
      · exact .inl rfl
      · exact .inr rfl
theorem rh (x : N3) : 47 ∉ aI x := by
  rcases iz x with e | e <;> rw [e]
  · intro z; have := g0 47 z; omega
  · intro z
    rcases List.mem_append.mp z with z | z
    · rcases List.mem_cons.mp z with z | z
      · cases z
      · have := g0 47 z; omega
    · cases List.mem_singleton.mp z
theorem rD (a b : Int) : Asc (gq a b) := fun c hc => by have := g0 c hc; omega
theorem nY (x : N3) : Asc (aI x) := by
  rcases iz x with e | e <;> rw [e]
  · exact rD _ _
  · exact rT (k7 (by decide) (rD _ _)) (dO rfl)
theorem dP (x : N3) : Asc (bH x) := by
  unfold bH
  split
  · exact nY x
  · exact rT (nY x) (k7 (by decide) (rM _))
noncomputable def ym : DTS := (az (aO (au iT (ab (ae 1) ao)) (ic 2 (bG (aj 5) (bG (aj 6) i9))))
    (az (aO (au cU (ab (au gZ (ab (ae 5) ao)) (ab (au jl (ab (ae 6) ao)) (ab (ae 4) ao)))) (aj 7))
    (az (bT (dB (dOp (bp true) (au cD (ab (ae 7) ao)) (ae 0))) ec bg)
    (bu (ae 7)))))
theorem mG {x : N3} {r1 r2 r3 r5 r6 r7 : Option D} (ox : Ok x) (hx : iU x) (q : ∀ μ', (∀ b ds, μ b = some ds → μ' b = some ds) → Qd (.v (dN x)) μ') :
    ym ‹Qd› [some (.v (.str (txt (bH x)))), some (.v (.str (txt (gq x.a x.b)))), r2, r3, some (.v (.int x.c)), r5, r6, r7] μ := by
  have hc := ox.c
  unfold ym
  walk_at "rl"
  refine ⟨x.a, x.b, rfl, hx.1, hx.2.1, fun t ht => ?_⟩
  walk_at "rl"
  refine ⟨trivial, x.a, rfl, hx.1, ?_⟩
  walk_at "rl"
  refine ⟨t, x.b, rfl, ht, hx.2.1, ?_⟩
  walk_at "rl"
  refine ⟨x.a, x.b, x.c, rfl, by omega, tI hx.2.2, ?_⟩
  rw [ox.low]
  walk_at "rl"
  refine ⟨x, rfl, hx, fun μ1 h1 => ?_⟩
  walk_at "rl"
  rw [iG (dP x) (dP x), decide_eq_true rfl]
  walk_at "rl"
  exact q μ1 h1
theorem pe {x : N3} {r2 r3 r5 r6 r7 : Option D} (ox : Ok x) (hx : iU x) (q : ∀ μ', (∀ b ds, μ b = some ds → μ' b = some ds) → Qd (.v (dN x)) μ') :
    az (bT (dB (dOp (bp false) (ae 4) (dC (.int 0)))) ec bg) (az (bT (pf (dB (dSM gb (ae 1) (dC (.str "(")))) (dB (dSM mq (ae 1) (dC (.str ")"))))) (aO (mZ (ae 1) (gy (dC (.int 1))) (gy (iq (dC (.int 1))))) (aj 1)) bg) ym) ‹Qd› [some (.v (.str (txt (bH x)))), some (.v (.str (txt (aI x)))), r2, r3, some (.v (.int x.c)), r5, r6, r7] μ := by
  have hc := ox.c
  have lb := fO hx
  walk_at "rl"
  rw [cG (by rw [decide_eq_true_eq]; omega)]
  walk_at "rl"
  rw [Aq, ir]
  rcases iz x with e | e
  · rw [e]
    have hh : (gq x.a x.b).head? ≠ some 40 := fun z => by
      have := g0 40 (List.mem_of_mem_head? (by rw [z]; rfl)); omega
    rw [decide_eq_false hh]
    walk_at "rl"
    exact mG (r1 := none) ox hx q
  · have h1 : (aI x).head? = some 40 := by rw [e]; rfl
    have h2 : (aI x).getLast? = some 41 := by rw [e, List.getLast?_append]; rfl
    rw [decide_eq_true h1]
    walk_at "rl"
    rw [Ay, oF, decide_eq_true h2]
    walk_at "rl"
    refine ⟨bD (by omega), ?_⟩
    have el : (aI x).length = (gq x.a x.b).length + 2 := by rw [e]; simp
    have es : Txt.slice (txt (aI x)) (some 1) (some (-1)) = txt (gq x.a x.b) := by
      rw [pZ (by decide) (by rw [av]; omega), av, tw (by omega)]
      congr 1
      have en : (-1 + (((aI x).length : Nat) : Int) - 1).toNat = (gq x.a x.b).length := by omega
      rw [en, e]
      show List.take _ (gq x.a x.b ++ [41]) = _
      rw [List.take_left' rfl]
    rw [es]
    exact mG (r1 := none) ox hx q
theorem kF (h : g5 ds μ Qd) : eJ ‹Qd› (aF ["text", "body", "slash", "below", "c", "plain", "beside_root", "found"] ds) μ := by
  obtain ⟨x, rfl, ox, hx, q⟩ := h
  have hc := ox.c
  have ls := uv hx
  have lb := fO hx
  unfold eJ
  have eS : ∀ z : Str, isT "str" (.str z) = true := fun _ => rfl
  walk_at "rl"
  rw [eS]
  walk_at "rl"
  rw [AI]
  refine ⟨rfl, bD (by omega), ?_⟩
  by_cases c1 : x.c = 1
  · have es : bH x = aI x := by unfold bH; rw [if_pos c1]
    have ep : ib (txt (bH x)) (txt [47]) = [.str (txt (aI x)), .str Str.empty, .str Str.empty] := by rw [es, sI (rh x)]
    rw [ep]
    refine ⟨rfl, ?_⟩
    walk_at "rl"
    refine ⟨by decide, ?_⟩
    rw [show (((Str.empty.length : Nat) : Int) != 0) = false from rfl, l_f]
    have := pe (r2 := some (.v (.str Str.empty))) (r3 := some (.v (.str Str.empty))) (r5 := none) (r6 := none) (r7 := none) ox hx q
    rw [c1] at this
    exact this
  · have es : bH x = aI x ++ 47 :: whl x.c := by unfold bH; rw [if_neg c1]
    have ep : ib (txt (bH x)) (txt [47]) = [.str (txt (aI x)), .str (txt [47]), .str (txt (whl x.c))] := by rw [es, sW (rh x)]
    rw [ep]
    refine ⟨rfl, ?_⟩
    walk_at "rl"
    refine ⟨by decide, ?_⟩
    rw [show ((((txt [47]).length : Nat) : Int) != 0) = true from rfl]
    walk_at "rl"
    have ew : whl x.c = dg x.c.natAbs := by unfold whl; rw [if_neg (by omega)]
    refine ⟨x.c.natAbs, by rw [ew], hx.2.2, ?_⟩
    rw [show ((x.c.natAbs : Nat) : Int) = x.c by omega]
    have := pe (r2 := some (.v (.str (txt [47])))) (r3 := some (.v (.str (txt (whl x.c))))) (r5 := none) (r6 := none) (r7 := none) ox hx q
    exact this
end
open PySem PySem.Spec PyProof.Rows NM
noncomputable def xo (a : Addr) (μ μ' : Mu) : Prop := Bag μ' a ∧ ∀ b, b ≠ a → ∀ ds, μ b = some ds → μ' b = some ds
theorem Step.w {a : Addr} {μ μ' : Mu} (h : Step a μ μ') : xo a μ μ' := ⟨h.1, fun b n ds e => by rw [h.2 b n]; exact e⟩
noncomputable def lz : DSp := fun ds μ Q => ∃ (a : Addr) (w : Int), ds = [.m a, .v (.int w)] ∧ 1 ≤ w ∧ Bag μ a ∧ ∀ r μ', 0 ≤ r → r < w → Step a μ μ' → Q (.v (.int r)) μ'
noncomputable def nT : DSp := fun ds μ Q => ∃ a : Addr, ds = [.m a] ∧ Bag μ a ∧ ∀ x μ', Ok x → iU x → xo a μ μ' → Q (.v (dN x)) μ'
theorem qf {μ : Mu} {Q : DK} {ds : List D} (h : lz ds μ Q) : ds.length = 2 := by obtain ⟨_, _, rfl, _⟩ := h; rfl
theorem p4 {μ : Mu} {Q : DK} {ds : List D} (h : nT ds μ Q) : ds.length = 1 := by obtain ⟨_, rfl, _⟩ := h; rfl
local macro_rules|`(tactic| walk_at "rl")=>mkW "↓vQ ↓qM ↓tp ↓vL ↓l_t ↓l_f l_T l_F zr zz ↓nJ ↓xt ↓rC ↓uC ↓rz ↓xi ↓zG ↓qV ↓rR ↓zN ↓zV ↓Ak ↓zC ↓qT ↓vw gb mq ly decide_true decide_false Bool.true_xor Bool.xor_true ↓pW ↓qw ↓qs ↓pN ↓qq ↓pB ↓p7 ↓qH ↓q_c ↓zj ↓q_B ↓xT ↓vA ↓vc ↓vy ↓xu ↓pM ↓uq ↓qi ↓zA ↓vk ↓qC ↓uP ↓uj ↓qE ↓tJ ↓uW ↓tq ↓pG ↓pV ↓pz ↓mK ↓mL ↓mN ↓qx ↓mv ↓kB ↓um ↓uI ↓uN ↓kA ↓qa ↓Am ↓pA ↓qh ↓uZ ↓xG ↓pU ↓tN ↓uf ↓ng ↓qg ↓mP ↓pY ↓pR ↓xq ↓uF ↓qm ↓uH ↓uc ↓qo ↓xh ↓mQ ↓vi ↓tS ↓qc ↓nW ↓lh uV p6 pC va uh ur Option.bind_none Option.bind_some Option.join_some List.getElem?_cons_zero List.getElem?_cons_succ aF xr vo uk u7 w8 kN mD my oR rn List.map List.append List.replicate List.length_cons List.length_nil Nat.reduceAdd Nat.reduceSub List.nil_append List.cons_append List.set_cons_zero List.set_cons_succ Option.map_some Bool.not_true Bool.not_false Bool.false_eq_true Bool.true_eq_false Bool.xor_false Bool.false_xor"
noncomputable def ej : DTS :=
  (az (aO (dC (.int 0)) (aj 2))
  (az (sV (ip (ab (dC (.int 10)) ao)) (aj 3) (aO (o9 (lp (ae 2) (tf (dC (.int 10)) (dC (.int 4)))) (au cE (ab (ae 0) (ab (tf (dC (.int 10)) (dC (.int 4))) ao)))) (aj 2)))
  (bu (j8 (ae 2) (ae 1)))))
noncomputable def cF : DTS :=
  (az (aO (au cE (ab (ae 0) (ab (dC (.int 4)) ao))) (aj 1))
  (az (bT (dB (dOp rLt (ae 1) (dC (.int 2)))) (bu (au hE (ab (ae 0) ao))) bg)
  (az (aO (dC (.int 10)) (aj 2))
  (az (sV (ip (ab (dOp bP (j2 (ab (dC (.int 39)) (ab (au cE (ab (ae 0) (ab (dC (.int 39)) ao))) ao))) (pE (dC (.int 3)) (ae 1))) ao)) (aj 3) (aO (lp (ae 2) (dC (.int 10))) (aj 2)))
  (az (aO (ni [none, some 0, some 2] (ip (ab (dC (.int 2)) ao)) (aj 0) oE (lp (au lz (ab (ae 1) (ab (ae 2) ao))) (pE (dC (.int 1)) (lp (dC (.int 2)) (au cE (ab (ae 1) (ab (dC (.int 2)) ao))))))) (rP 2 (bG (aj 4) (bG (aj 5) i9))))
  (az (aO (o9 (dC (.int 1)) (j8 (au lz (ab (ae 0) (ab (ae 2) ao))) (pE (ae 2) (dC (.int 1))))) (aj 6))
  (bu (au cU (ab (dOp bP (j2 (ab (ae 4) (ab (ae 4) (ab (dC (.int 0)) (ab (ae 4) ao))))) (au cE (ab (ae 0) (ab (dC (.int 4)) ao)))) (ab (dOp bP (j2 (ab (ae 5) (ab (dC (.int 1)) (ab (ae 5) (ab (iq (dC (.int 1))) (ab (dC (.int 0)) ao)))))) (au cE (ab (ae 0) (ab (dC (.int 5)) ao)))) (ab (dOp bP (j2 (ab (ae 6) (ab (dC (.int 1)) ao))) (au cE (ab (ae 0) (ab (dC (.int 2)) ao)))) ao)))))))))))
section
variable {μ : Mu} {Qd : DK} {ds : List D}
theorem kL (h : lz ds μ Qd) : ej ‹Qd› (aF ["_law_bag_here", "_law_wide", "_law_found", "_law_turn"] ds) μ := by
  obtain ⟨a, w, rfl, hw, hb, q⟩ := h
  unfold ej
  walk_at "rl"
  rw [rV]
  walk_at "rl"
  have ep : (10 : Int) ^ Int.toNat 4 = 10000 := by decide
  refine ⟨by decide, fun i ρ μ' => ∃ (f : Int) (r3 : Option D), ρ = [some (.m a), some (.v (.int w)), some (.v (.int f)), r3] ∧ Step a μ μ', ⟨0, _, rfl, hb, fun _ _ => rfl⟩, ?_, ?_⟩
  · rintro i x ρ μ1 hx ⟨f, r3, rfl, s1⟩
    walk_at "rl"
    rw [ep]
    refine ⟨⟨by decide, by decide, by decide⟩, mulR (by decide), ⟨by decide, by decide, by decide⟩, a, 10000, rfl, by decide, by decide, s1.1, fun r μ2 r0 r1 s2 => ?_⟩
    walk_at "rl"
    exact ⟨_, _, rfl, s1.trans s2⟩
  · rintro ρ μ1 ⟨f, r3, rfl, s1⟩
    walk_at "rl"
    obtain ⟨m0, m1⟩ := eB f (show (0 : Int) < w by omega)
    exact ⟨by omega, q _ μ1 m0 m1 s1⟩
theorem wb {a b c : Int} (ha : dq a) (hb : dq b) (hc : dq c) (h : c ≠ 0) : iU (low a b c) := by
  obtain ⟨k, hk, _, p1, p2, p3, o⟩ := iV a b h
  have mono : ∀ {i j : Int}, i = k * j → dq i → dq j := fun {i j} e hi => by
    have : j.natAbs ≤ i.natAbs := by
      rw [e, Int.natAbs_mul]
      exact Nat.le_mul_of_pos_left _ (Int.natAbs_pos.mpr hk)
    exact Nat.lt_of_le_of_lt this hi
  exact ⟨mono p1 ha, mono p2 hb, mono p3 hc⟩
theorem pF {i : Int} (h : Sz 20 i) : dq i := by
  unfold Sz at h
  exact Nat.lt_trans h (by decide +kernel)
theorem iu (h : nT ds μ Qd) : cF ‹Qd› (aF ["_law_bag_here", "_law_way", "_law_wide", "_law_turn", "_law_a", "_law_b", "_law_c"] ds) μ := by
  obtain ⟨a, rfl, hb, q⟩ := h
  unfold cF
  walk_at "rl"
  refine ⟨a, 4, rfl, by decide, by decide, hb, fun way μ1 w0 w1 s1 => ?_⟩
  walk_at "rl"
  by_cases cw : way < 2
  · rw [cY (decide_eq_true cw)]
    walk_at "rl"
    exact ⟨a, rfl, s1.1, fun x μ2 ox bx s2 => q x μ2 ox ⟨pF bx.a, pF bx.b, pF bx.c⟩ (s1.trans s2).w⟩
  · rw [cG (by rw [decide_eq_true_eq]; exact cw)]
    walk_at "rl"
    rw [rV]
    walk_at "rl"
    refine ⟨a, 39, rfl, by decide, by decide, s1.1, fun t μ2 t0 t1 s2 => ?_⟩
    walk_at "rl"
    obtain ⟨_, e1, n, rfl, n0, n1⟩ := pick (P := fun v => ∃ n : Int, v = .int n ∧ 0 ≤ n ∧ n ≤ 39) (xs := [.int 39, .int t]) (i := 3 - way) (by omega) (by show 3 - way < 2; omega) (by
      intro v hv
      simp only [List.mem_cons, List.not_mem_nil, or_false] at hv
      rcases hv with rfl | rfl
      · exact ⟨_, rfl, by decide, by decide⟩
      · exact ⟨_, rfl, by omega, by omega⟩)
    rw [e1]
    have s12 := s1.trans s2
    refine ⟨⟨by omega, by omega⟩, fun i ρ μ' => ∃ r3 : Option D, ρ = [some (.m a), some (.v (.int way)), some (.v (.int (10 ^ (i + 1) : Nat))), r3, none, none, none] ∧ μ2 = μ', ⟨_, rfl, rfl⟩, ?_, ?_⟩
    · rintro i x ρ μ' hx ⟨r3, rfl, rfl⟩
      walk_at "rl"
      have e10 : ((10 ^ (i + 1) : Nat) : Int) * 10 = (10 ^ (i + 1 + 1) : Nat) := by rw [Nat.pow_succ 10 (i + 1)]; omega
      rw [e10]
      exact ⟨mulR (by decide), some (.v x), rfl, trivial⟩
    · rintro ρ μ' ⟨r3, rfl, rfl⟩
      rw [kr]
      obtain ⟨w, hw⟩ : ∃ w : Nat, 10 ^ (n.toNat + 1) = w := ⟨_, rfl⟩
      rw [hw]
      have w10 : 10 ≤ w := by rw [← hw]; exact Nat.le_trans (by decide) (Nat.pow_le_pow_right (by decide) (show 1 ≤ n.toNat + 1 by omega))
      have w40 : w ≤ 10 ^ 40 := by rw [← hw]; exact Nat.pow_le_pow_right (by decide) (by omega)
      rw [rf]
      walk_at "rl"
      refine ⟨⟨by decide, by decide⟩, by decide, fun p hp => ?_⟩
      have pa : p ≠ a := fun z => by obtain ⟨g, k, e, _⟩ := s2.1; rw [z, e] at hp; cases hp
      refine ⟨fun i acc μ' => ∃ vs : List Int, acc = vs.map .int ∧ vs.length = i ∧ (∀ v ∈ vs, v.natAbs < w) ∧ Bag μ' a ∧ ∀ b, b ≠ a → b ≠ p → μ' b = μ2 b, ⟨[], rfl, rfl, (fun _ z => nomatch z), ?_, fun b _ n2 => aR n2⟩, ?_, ?_⟩
      · obtain ⟨g, k, e, z⟩ := s2.1; exact ⟨g, k, by rw [aR (fun z => pa z.symm)]; exact e, z⟩
      · rintro i x acc μ' hx hacc ⟨vs, rfl, hl, hv, hb', hk⟩
        refine ⟨⟨trivial, trivial, trivial⟩, ?_⟩
        rw [if_pos trivial]
        refine ⟨a, w, rfl, by omega, hb', fun r μ3 r0 r1 s3 => ?_⟩
        walk_at "rl"
        refine ⟨a, 2, rfl, by decide, by decide, s3.1, fun u μ4 u0 u1 s4 => ?_⟩
        walk_at "rl"
        have s34 := s3.trans s4
        refine ⟨mulR (by omega), mulR (by omega), by rw [s34.2 p pa]; exact hacc, vs ++ [r * (1 - 2 * u)], by simp, by simp [hl], fun v hv' => ?_, ?_, fun b n1 n2 => by rw [aR n2, s34.2 b n1]; exact hk b n1 n2⟩
        · rcases List.mem_append.mp hv' with z | z
          · exact hv v z
          · rw [List.mem_singleton.mp z]
            have hu : u = 0 ∨ u = 1 := by omega
            rcases hu with rfl | rfl
            · rw [show r * (1 - 2 * 0) = r by omega]; omega
            · rw [show r * (1 - 2 * 1) = -r by omega]; omega
        · obtain ⟨g, k, e, z⟩ := s34.1; exact ⟨g, k, by rw [aR (fun z => pa z.symm)]; exact e, z⟩
      · rintro acc μ' ⟨vs, rfl, hl, hv, hb', hk⟩ hacc
        rcases vs with _ | ⟨v1, _ | ⟨v2, _ | ⟨v3, vr⟩⟩⟩
        · simp [kr] at hl
        · simp [kr] at hl
        · have b1 : dq v1 := Nat.lt_of_lt_of_le (hv v1 (by simp)) w40
          have b2 : dq v2 := Nat.lt_of_lt_of_le (hv v2 (by simp)) w40
          have s5 : Step a μ2 (dW μ' p) := ⟨by obtain ⟨g, k, e, z⟩ := hb'; exact ⟨g, k, by rw [oH (fun z => pa z.symm)]; exact e, z⟩, fun b n1 => by
            by_cases hbp : b = p
            · rw [hbp, hp]; unfold dW; rw [if_pos rfl]
            · rw [oH hbp]; exact hk b n1 hbp⟩
          walk_at "rl"
          refine ⟨trivial, a, w, rfl, by omega, s5.1, fun r μ3 r0 r1 s3 => ?_⟩
          walk_at "rl"
          obtain ⟨m0, m1⟩ := eB r (show (0 : Int) < (w : Int) - 1 by omega)
          refine ⟨by omega, a, 4, rfl, by decide, by decide, s3.1, fun k1 μ4 k10 k11 s4 => ?_⟩
          walk_at "rl"
          obtain ⟨_, f1, a1, rfl, ba⟩ := pick (P := fun v => ∃ n : Int, v = .int n ∧ dq n) (xs := [.int v1, .int v1, .int 0, .int v1]) k10 (by exact k11) (by
            intro v hv
            simp only [List.mem_cons, List.not_mem_nil, or_false] at hv
            rcases hv with rfl | rfl | rfl | rfl
            · exact ⟨_, rfl, b1⟩
            · exact ⟨_, rfl, b1⟩
            · exact ⟨_, rfl, by show (0 : Int).natAbs < _; decide +kernel⟩
            · exact ⟨_, rfl, b1⟩)
          rw [f1]
          refine ⟨a, 5, rfl, by decide, by decide, s4.1, fun k2 μ5 k20 k21 s5' => ?_⟩
          walk_at "rl"
          obtain ⟨_, f2, a2, rfl, bb⟩ := pick (P := fun v => ∃ n : Int, v = .int n ∧ dq n) (xs := [.int v2, .int 1, .int v2, .int (-1), .int 0]) k20 (by exact k21) (by
            intro v hv
            simp only [List.mem_cons, List.not_mem_nil, or_false] at hv
            rcases hv with rfl | rfl | rfl | rfl | rfl
            · exact ⟨_, rfl, b2⟩
            · exact ⟨_, rfl, by show (1 : Int).natAbs < _; decide +kernel⟩
            · exact ⟨_, rfl, b2⟩
            · exact ⟨_, rfl, by show (-1 : Int).natAbs < _; decide +kernel⟩
            · exact ⟨_, rfl, by show (0 : Int).natAbs < _; decide +kernel⟩)
          rw [f2]
          refine ⟨a, 2, rfl, by decide, by decide, s5'.1, fun k3 μ6 k30 k31 s6 => ?_⟩
          walk_at "rl"
          have b3 : dq (1 + r.fmod ((w : Int) - 1)) := by
            show (1 + r.fmod ((w : Int) - 1)).natAbs < 10 ^ 40
            omega
          obtain ⟨_, f3, a3, rfl, bc, c1⟩ := pick (P := fun v => ∃ n : Int, v = .int n ∧ dq n ∧ 1 ≤ n) (xs := [.int (1 + r.fmod ((w : Int) - 1)), .int 1]) k30 (by exact k31) (by
            intro v hv
            simp only [List.mem_cons, List.not_mem_nil, or_false] at hv
            rcases hv with rfl | rfl
            · exact ⟨_, rfl, b3, by omega⟩
            · exact ⟨_, rfl, by show (1 : Int).natAbs < _; decide +kernel, by decide⟩)
          rw [f3]
          refine ⟨a1, a2, a3, rfl, by omega, tI bc, ?_⟩
          exact q _ μ6 (tD _ _ (by omega)) (wb ba bb bc (by omega)) (s12.trans (s5.trans (s3.trans (s4.trans (s5'.trans s6))))).w
        · simp [kr] at hl
end
open PySem PySem.Spec PyProof.Rows NM
noncomputable def pH : DTS :=
  (az (aO (n8 ao) (aj 1))
  (az (sV (ip (ab (dCB (o8 max) (ab (dC (.int 2)) (ab (dCB (o8 min) (ab (dC (.int 6)) (ab (dCB jZ (ab (ae 0) ao)) ao))) ao))) ao)) (aj 2) (az (aO (au qR (ab (ae 0) (ab (ae 2) ao))) (aj 3))
  (sV (ip (ab (dC (.int 6)) ao)) (aj 4) (az (aO (au nT (ab (ae 3) ao)) (aj 5))
  (az (aO (au cD (ab (ae 5) ao)) (aj 6))
  (az (bT (kO (jc (dB (qd "str" (ae 6)))) (dB (dOp (bp true) (ae 6) (au cD (ab (ae 5) ao))))) (bu (dC (.bool false))) bg)
  (az (aO (au g5 (ab (ae 6) ao)) (aj 7))
  (az (bT (kO (jc (dB (au nr (ab (ae 7) ao)))) (dB (dOp (bp true) (ae 7) (ae 5)))) (bu (dC (.bool false))) bg)
  (og (vR (ae 1) (kh (ab (ae 5) (ab (ae 6) ao)))))))))))))
  (az (tQ (ae 1) (ic 2 (bG (aj 5) (bG (aj 6) i9))) (bT (kO (dB (dOp (bp true) (au cD (ab (ae 5) ao)) (ae 6))) (dB (dOp (bp true) (au g5 (ab (ae 6) ao)) (ae 5)))) (bu (dC (.bool false))) bg))
  (bu (kH (dOp (bp false) (au cD (ab (kh (ab (dC (.int 0)) (ab (iq (dC (.int 1))) (ab (dC (.int 1)) ao)))) ao)) (dC (.str "-r"))) (kH (dOp (bp false) (au cD (ab (kh (ab (dC (.int 1)) (ab (iq (dC (.int 1))) (ab (dC (.int 2)) ao)))) ao)) (dC (.str "(1-r)/2"))) (dOp (bp false) (au g5 (ab (dC (.str "0")) ao)) (kh (ab (dC (.int 0)) (ab (dC (.int 0)) (ab (dC (.int 1)) ao)))))))))))
section
variable {μ : Mu} {Qd : DK} {ds : List D}
def sx (x : N3) : PyData := .tuple [dN x, .str (txt (bH x))]
theorem xY (h : k5 ds μ Qd) : pH ‹Qd› (aF ["_law_script", "_law_ahead", "_law_k", "_law_bag_here", "_law_turn", "_law_x", "_law_text_here", "_law_told"] ds) μ := by
  obtain ⟨ns, rfl, h63, q⟩ := h
  unfold pH
  walk_at "rl"
  intro p hp
  rw [rV]
  walk_at "rl"
  have hm : (-(2 ^ 62) ≤ max 2 (min 6 ((ns.length : Nat) : Int)) ∧ max 2 (min 6 ((ns.length : Nat) : Int)) < 2 ^ 62) := by omega
  refine ⟨hm, fun i ρ μ' => ∃ (r2 r3 r4 r5 r6 r7 : Option D) (xs : List N3), ρ = [some (.s ns), some (.m p), r2, r3, r4, r5, r6, r7] ∧ μ' p = some (xs.map sx) ∧ xs.length = 6 * i ∧ ∀ x ∈ xs, Ok x ∧ iU x, ⟨_, _, _, _, _, _, [], rfl, aD, rfl, fun _ z => nomatch z⟩, ?_, ?_⟩
  · rintro i x ρ μ1 hx ⟨r2, r3, r4, r5, r6, r7, xs, rfl, hp1, hl, hok⟩
    obtain ⟨rfl, hi⟩ := xj hx
    have i6 : i < 6 := by omega
    walk_at "rl"
    refine ⟨ns, _, rfl, by omega, by omega, fun a μ2 ha s2 => ?_⟩
    have pa : p ≠ a := fun z => by rw [z, ha] at hp1; cases hp1
    walk_at "rl"
    rw [rV]
    walk_at "rl"
    refine ⟨by decide, fun j ρ μ' => ∃ (r4 r5 r6 r7 : Option D) (ys : List N3), ρ = [some (.s ns), some (.m p), some (.v (.int (0 + (i : Int)))), some (.m a), r4, r5, r6, r7] ∧ μ' p = some (ys.map sx) ∧ ys.length = 6 * i + j ∧ (∀ x ∈ ys, Ok x ∧ iU x) ∧ Bag μ' a, ⟨_, _, _, _, xs, rfl, by rw [s2.2 p pa]; exact hp1, hl, hok, s2.1⟩, ?_, ?_⟩
    · rintro j y ρ μ3 hy ⟨r4, r5, r6, r7, ys, rfl, hp3, hl3, hok3, hb3⟩
      obtain ⟨rfl, hj⟩ := xj hy
      have j6 : j < 6 := by omega
      walk_at "rl"
      refine ⟨a, rfl, hb3, fun x μ4 ox bx s4 => ?_⟩
      walk_at "rl"
      refine ⟨x, rfl, bx, fun μ5 h5 => ?_⟩
      have eS : ∀ z : Str, isT "str" (.str z) = true := fun _ => rfl
      walk_at "rl"
      rw [eS]
      walk_at "rl"
      refine ⟨x, rfl, bx, fun μ6 h6 => ?_⟩
      walk_at "rl"
      rw [iG (dP x) (dP x), decide_eq_true rfl]
      walk_at "rl"
      refine ⟨x, rfl, ox, bx, fun μ7 h7 => ?_⟩
      walk_at "rl"
      refine ⟨dN x, rfl, ?_, ?_⟩
      · exact Ag
      · have hp7 : μ7 p = some (ys.map sx) := h7 _ _ (h6 _ _ (h5 _ _ (s4.2 p pa _ hp3)))
        rw [u5 ox]
        walk_at "rl"
        simp only [hp7]
        refine ⟨by rw [List.length_map]; omega, ?_⟩
        refine ⟨_, _, _, _, ys ++ [x], rfl, ?_, by rw [List.length_append, hl3]; rfl, fun z hz => ?_, ?_⟩
        · rw [aD, List.map_append]; rfl
        · rcases List.mem_append.mp hz with w | w
          · exact hok3 z w
          · rw [List.mem_singleton.mp w]; exact ⟨ox, bx⟩
        · obtain ⟨g, m, e, z⟩ := s4.1
          exact ⟨g, m, by rw [aR (fun z => pa z.symm)]; exact h7 _ _ (h6 _ _ (h5 _ _ e)), z⟩
    · rintro ρ μ3 ⟨r4, r5, r6, r7, ys, rfl, hp3, hl3, hok3, hb3⟩
      exact ⟨_, _, _, _, _, _, ys, rfl, hp3, by rw [hl3, kr]; show 6 * i + 6 = 6 * (i + 1); omega, hok3⟩
  · rintro ρ μ1 ⟨r2, r3, r4, r5, r6, r7, xs, rfl, hp1, hl, hok⟩
    rw [yt]
    walk_at "rl"
    refine ⟨_, hp1, fun i ρ μ' => ∃ (r5 r6 : Option D), ρ = [some (.s ns), some (.m p), r2, r3, r4, r5, r6, r7] ∧ μ' p = some (xs.map sx), ⟨_, _, rfl, hp1⟩, fun i ρ μ' ⟨_, _, _, e⟩ => e, ?_, ?_⟩
    · rintro i y ρ μ2 hy ⟨r5, r6, rfl, hp2⟩
      obtain ⟨x, hx, rfl⟩ : ∃ x ∈ xs, sx x = y := List.mem_map.mp (List.mem_of_getElem? hy)
      obtain ⟨ox, bx⟩ := hok x hx
      unfold sx
      walk_at "rl"
      refine ⟨trivial, x, rfl, bx, fun μ3 h3 => ?_⟩
      walk_at "rl"
      rw [iG (dP x) (dP x), decide_eq_true rfl]
      walk_at "rl"
      refine ⟨x, rfl, ox, bx, fun μ4 h4 => ?_⟩
      walk_at "rl"
      exact ⟨_, _, rfl, h4 _ _ (h3 _ _ hp2)⟩
    · rintro ρ μ2 ⟨r5, r6, rfl, hp2⟩
      have z : ∀ n : Int, n.natAbs < 3 → dq n := fun n h => Nat.lt_trans h (by decide +kernel)
      refine ⟨⟨0, -1, 1⟩, rfl, ⟨z _ (by decide), z _ (by decide), z _ (by decide)⟩, fun μ3 h3 => ?_⟩
      walk_at "rl"
      have e1 : bH ⟨0, -1, 1⟩ = "-r".toList.map Char.toNat := by decide +kernel
      rw [lit "-r", iG (dP _) (dO rfl), decide_eq_true e1]
      walk_at "rl"
      refine ⟨⟨1, -1, 2⟩, rfl, ⟨z _ (by decide), z _ (by decide), z _ (by decide)⟩, fun μ4 h4 => ?_⟩
      walk_at "rl"
      have e2 : bH ⟨1, -1, 2⟩ = "(1-r)/2".toList.map Char.toNat := by decide +kernel
      rw [lit "(1-r)/2", iG (dP _) (dO rfl), decide_eq_true e2]
      walk_at "rl"
      have e3 : bH nN = [48] := by decide +kernel
      refine ⟨nN, by rw [lt_0, e3], sr, ⟨z _ (by decide), z _ (by decide), z _ (by decide)⟩, fun μ5 h5 => ?_⟩
      walk_at "rl"
      have e4 : decide (nN = { a := 0, b := 0, c := 1 }) = true := by decide
      rw [e4]
      exact q μ5
end
end L2.DL
set_option Elab.async false
set_option linter.all false
set_option maxRecDepth 100000
set_option maxHeartbeats 4000000
namespace K47
open PySem L2 L2.DL
local macro_rules | `(tactic| walk_at "cl") => `(tactic| (intro _ _ h; first | exact h | exact cl1 h | exact cl2 (by decide +kernel) h | exact cl3 (by decide +kernel) h | exact iH (cX rfl oN) _ _ h | exact iH (cX rfl (cX rfl oN)) _ _ h | exact iH (cX rfl (cX rfl (cX rfl oN))) _ _ h | exact iH (cX rfl (cX rfl (cX rfl (cX rfl oN)))) _ _ h | exact iH (cX rfl (cX rfl (cX rfl (cX rfl (cX rfl oN))))) _ _ h | exact iH (cX rfl (cX rfl (cX rfl (cX rfl (cX rfl (cX rfl oN)))))) _ _ h | exact iH (cX rfl (cX rfl (cX rfl (cX rfl (cX rfl (cX rfl (cX rfl oN))))))) _ _ h | exact iH oN _ _ h | cases h))
set_option genInjectivity false in
structure Adr where
  bW : Addr
  dj : FuncData
  bV : Addr
  de : FuncData
  iO : Addr
  ko : FuncData
  d6 : Addr
  gi : FuncData
  dM : Addr
  ff : FuncData
  bZ : Addr
  dn : FuncData
  dF : Addr
  fm : FuncData
  eM : Addr
  gJ : FuncData
  bX : Addr
  dc : FuncData
  dG : Addr
  fh : FuncData
  d4 : Addr
  fW : FuncData
  fV : Addr
  iC : FuncData
  eV : Addr
  gC : FuncData
  cA : Addr
  dQ : FuncData
  dz : Addr
  fk : FuncData
  fT : Addr
  ix : FuncData
  cj : Addr
  da : FuncData
  dA : Addr
  fj : FuncData
  d5 : Addr
  gg : FuncData
  eR : Addr
  gR : FuncData
  bQ : Addr
  cR : FuncData
  dJ : Addr
  fz : FuncData
  rO : Addr
  vB : FuncData
  ka : Tok
  pD : Tok
structure Txt (K : PySem.W.Frag) (mg : Str → Option Value) (t : Adr) : Prop where
  jI : Fun K "common_divisor" "common_divisor" aV t.bW t.dj
  fA : mg "common_divisor" = some (.ref t.bW)
  fE : PySem.W.keepIn K (.ref t.bW) = true
  fK : Binds K t.dj ["a", "b"] []
  jO : Fun K "divisor_of_all" "divisor_of_all" aY t.bV t.de
  jz : mg "divisor_of_all" = some (.ref t.bV)
  jS : PySem.W.keepIn K (.ref t.bV) = true
  jC : Binds K t.de ["a", "b", "c"] []
  tF : Fun K "number" "number" fD t.iO t.ko
  tH : mg "number" = some (.ref t.iO)
  uw : PySem.W.keepIn K (.ref t.iO) = true
  ua : Binds K t.ko ["a", "b", "c"] []
  mS : Fun K "show_whole" "show_whole" cg t.d6 t.gi
  dZ : mg "show_whole" = some (.ref t.d6)
  dX : PySem.W.keepIn K (.ref t.d6) = true
  d7 : Binds K t.gi ["k"] []
  lS : Fun K "show_number" "show_number" bM t.dM t.ff
  cy : mg "show_number" = some (.ref t.dM)
  cx : PySem.W.keepIn K (.ref t.dM) = true
  cz : Binds K t.ff ["x"] []
  jR : Fun K "show_root_part" "show_root_part" aX t.bZ t.dn
  fM : mg "show_root_part" = some (.ref t.bZ)
  fJ : PySem.W.keepIn K (.ref t.bZ) = true
  fI : Binds K t.dn ["b"] []
  l5 : Fun K "read_number" "read_number" bO t.dF t.fm
  fw : mg "read_number" = some (.ref t.dF)
  fu : PySem.W.keepIn K (.ref t.dF) = true
  eZ : Binds K t.fm ["text"] []
  oz : Fun K "split_sum" "split_sum" cI t.eM t.gJ
  ot : mg "split_sum" = some (.ref t.eM)
  oW : PySem.W.keepIn K (.ref t.eM) = true
  oK : Binds K t.gJ ["body"] []
  ju : Fun K "read_root_part" "read_root_part" aW t.bX t.dc
  jE : mg "read_root_part" = some (.ref t.bX)
  jP : PySem.W.keepIn K (.ref t.bX) = true
  js : Binds K t.dc ["text"] []
  lW : Fun K "read_signed" "read_signed" bK t.dG t.fh
  hX : mg "read_signed" = some (.ref t.dG)
  hJ : PySem.W.keepIn K (.ref t.dG) = true
  ia : Binds K t.fh ["text"] []
  nO : Fun K "read_whole" "read_whole" cf t.d4 t.fW
  gr : mg "read_whole" = some (.ref t.d4)
  fY : PySem.W.keepIn K (.ref t.d4) = true
  gh : Binds K t.fW ["text"] []
  qB : Fun K "_law_bag" "_law_bag" dh t.fV t.iC
  qA : mg "_law_bag" = some (.ref t.fV)
  qr : PySem.W.keepIn K (.ref t.fV) = true
  pJ : Binds K t.iC ["_law_script", "_law_at"] []
  pj : Fun K "_law_take" "_law_take" cK t.eV t.gC
  aK : mg "_law_take" = some (.ref t.eV)
  aM : PySem.W.keepIn K (.ref t.eV) = true
  aL : Binds K t.gC ["_law_bag_here", "_law_many"] []
  j4 : Fun K "_law_is_whole" "_law_is_whole" bo t.cA t.dQ
  j1 : mg "_law_is_whole" = some (.ref t.cA)
  j3 : PySem.W.keepIn K (.ref t.cA) = true
  j7 : Binds K t.dQ ["_law_thing"] []
  lL : Fun K "_law_shared" "_law_shared" bI t.dz t.fk
  dw : mg "_law_shared" = some (.ref t.dz)
  dH : PySem.W.keepIn K (.ref t.dz) = true
  dD : Binds K t.fk ["_law_one", "_law_other"] []
  pI : Fun K "_law_low" "_law_low" df t.fT t.ix
  kz : mg "_law_low" = some (.ref t.fT)
  kQ : PySem.W.keepIn K (.ref t.fT) = true
  lj : Binds K t.ix ["_law_a", "_law_b", "_law_c"] []
  jQ : Fun K "_law_is_number" "_law_is_number" aZ t.cj t.da
  jw : mg "_law_is_number" = some (.ref t.cj)
  jK : PySem.W.keepIn K (.ref t.cj) = true
  jL : Binds K t.da ["_law_thing"] []
  lQ : Fun K "_law_number" "_law_number" bJ t.dA t.fj
  lO : mg "_law_number" = some (.ref t.dA)
  ma : PySem.W.keepIn K (.ref t.dA) = true
  lT : Binds K t.fj ["_law_bag_here"] []
  nz : Fun K "_law_roots" "_law_roots" bY t.d5 t.gg
  fR : mg "_law_roots" = some (.ref t.d5)
  gj : PySem.W.keepIn K (.ref t.d5) = true
  fX : Binds K t.gg ["_law_b"] []
  oV : Fun K "_law_text" "_law_text" cJ t.eR t.gR
  oY : mg "_law_text" = some (.ref t.eR)
  o7 : PySem.W.keepIn K (.ref t.eR) = true
  pd : Binds K t.gR ["_law_x"] []
  iK : Fun K "_law_any_number" "_law_any_number" aS t.bQ t.cR
  jo : mg "_law_any_number" = some (.ref t.bQ)
  iE : PySem.W.keepIn K (.ref t.bQ) = true
  ja : Binds K t.cR ["_law_bag_here"] []
  lJ : Fun K "_law_digits" "_law_digits" bL t.dJ t.fz
  hV : mg "_law_digits" = some (.ref t.dJ)
  hR : PySem.W.keepIn K (.ref t.dJ) = true
  hU : Binds K t.fz ["_law_bag_here", "_law_wide"] []
  Aj : Fun K "law" "law" ie t.rO t.vB
  A6 : mg "law" = some (.ref t.rO)
  A3 : PySem.W.keepIn K (.ref t.rO) = true
  A5 : Binds K t.vB ["_law_script"] []
  mw : mg "abs" = none
  jW : mg "str" = none
  cL : mg "isinstance" = none
  xf : mg "max" = none
  vm : mg "int" = none
  rL : mg "len" = none
  xp : mg "all" = none
  yH : mg "bool" = none
  wH : mg "tuple" = none
  jg : mg "range" = none
  zJ : mg "min" = none
  k6 : mg "MOST_FIGURES" = some (.int 40 t.ka)
  sD : mg "FIGURES" = some (.str "0123456789" t.pD)
structure EQ where
  P : Program
  w : World
  K : PySem.W.Frag
  mg : Str → Option Value
  base : Heap
  t : Adr
noncomputable abbrev TX (e : EQ) : Prop := Txt e.K e.mg e.t
noncomputable abbrev eT (e : EQ) : Prop := cq e.P e.w e.K e.mg e.base CX0 1 e.t.bW e.t.dj ["a", "b"] (spD e.K gS)
noncomputable abbrev eO (e : EQ) : Prop := cq e.P e.w e.K e.mg e.base CX0 2 e.t.bV e.t.de ["a", "b", "c"] (spD e.K nu)
noncomputable abbrev mz (e : EQ) : Prop := cq e.P e.w e.K e.mg e.base CX0 3 e.t.iO e.t.ko ["a", "b", "c"] (spD e.K cU)
noncomputable abbrev fc (e : EQ) : Prop := cq e.P e.w e.K e.mg e.base CX0 1 e.t.d6 e.t.gi ["k"] (spD e.K dE)
noncomputable abbrev eg (e : EQ) : Prop := cq e.P e.w e.K e.mg e.base CX0 3 e.t.dM e.t.ff ["x"] (spD e.K cD)
noncomputable abbrev eN (e : EQ) : Prop := cq e.P e.w e.K e.mg e.base CX0 2 e.t.bZ e.t.dn ["b"] (spD e.K cT)
noncomputable abbrev gN (e : EQ) : Prop := cq e.P e.w e.K e.mg e.base CX0 4 e.t.dF e.t.fm ["text"] (spD e.K g5)
noncomputable abbrev i5 (e : EQ) : Prop := cq e.P e.w e.K e.mg e.base CX0 1 e.t.eM e.t.gJ ["body"] (spD e.K iT)
noncomputable abbrev eW (e : EQ) : Prop := cq e.P e.w e.K e.mg e.base CX0 3 e.t.bX e.t.dc ["text"] (spD e.K jl)
noncomputable abbrev eG (e : EQ) : Prop := cq e.P e.w e.K e.mg e.base CX0 2 e.t.dG e.t.fh ["text"] (spD e.K gZ)
noncomputable abbrev fe (e : EQ) : Prop := cq e.P e.w e.K e.mg e.base CX0 1 e.t.d4 e.t.fW ["text"] (spD e.K g9)
noncomputable abbrev jY (e : EQ) : Prop := cq e.P e.w e.K e.mg e.base CX0 1 e.t.fV e.t.iC ["_law_script", "_law_at"] (spD e.K qR)
noncomputable abbrev dY (e : EQ) : Prop := cq e.P e.w e.K e.mg e.base CX0 1 e.t.eV e.t.gC ["_law_bag_here", "_law_many"] (spD e.K cE)
noncomputable abbrev fG (e : EQ) : Prop := cq e.P e.w e.K e.mg e.base CX0 1 e.t.cA e.t.dQ ["_law_thing"] (spD e.K jd)
noncomputable abbrev ey (e : EQ) : Prop := cq e.P e.w e.K e.mg e.base CX0 1 e.t.dz e.t.fk ["_law_one", "_law_other"] (spD e.K gS)
noncomputable abbrev gH (e : EQ) : Prop := cq e.P e.w e.K e.mg e.base CX0 2 e.t.fT e.t.ix ["_law_a", "_law_b", "_law_c"] (spD e.K cU)
noncomputable abbrev eP (e : EQ) : Prop := cq e.P e.w e.K e.mg e.base CX0 2 e.t.cj e.t.da ["_law_thing"] (spD e.K nr)
noncomputable abbrev gQ (e : EQ) : Prop := cq e.P e.w e.K e.mg e.base CX0 3 e.t.dA e.t.fj ["_law_bag_here"] (spD e.K hE)
noncomputable abbrev hZ (e : EQ) : Prop := cq e.P e.w e.K e.mg e.base CX0 1 e.t.d5 e.t.gg ["_law_b"] (spD e.K cT)
noncomputable abbrev iI (e : EQ) : Prop := cq e.P e.w e.K e.mg e.base CX0 2 e.t.eR e.t.gR ["_law_x"] (spD e.K cD)
noncomputable abbrev eA (e : EQ) : Prop := cq e.P e.w e.K e.mg e.base CX0 4 e.t.bQ e.t.cR ["_law_bag_here"] (spD e.K nT)
noncomputable abbrev gL (e : EQ) : Prop := cq e.P e.w e.K e.mg e.base CX0 2 e.t.dJ e.t.fz ["_law_bag_here", "_law_wide"] (spD e.K lz)
noncomputable abbrev uo (e : EQ) : Prop := cq e.P e.w e.K e.mg e.base CX0 5 e.t.rO e.t.vB ["_law_script"] (spD e.K k5)
section
variable {e : EQ}
theorem iW : aE ["a", "b"] ["a", "b"] (aq aV) := ⟨rfl, rfl, rfl, by decide +kernel, rfl, by decide +kernel, by decide +kernel⟩
theorem je (T : TX e)  : eT e := by
  have S := iW
  exact T.jI.okD S (fun ds μ Q h => mE h) (fun cdv A outer s H E hr => ⟨cP, (ah (kS PassesOwn.never (aA (fq hr.units) aJ (dv 1) af (aw _)) (ai (nH (i := 0) (j := 1) rfl S.nd rfl rfl (by decide) rfl rfl (aa (dv 1) (aa (eo (dv 0) (dv 1)) ag)) rfl)))
    (ai (aB (jH rfl T.mw (aa (dv 0) ag))))), fun ds μ Qd h => i4 h⟩)
theorem lH : aE ["k", "block", "blocks", "rest"] ["k"] (aq cg) := ⟨rfl, rfl, rfl, by decide +kernel, rfl, by decide +kernel, by decide +kernel⟩
theorem lK (T : TX e)  : fc e := by
  have S := lH
  exact T.mS.okD S (fun ds μ Q h => oB h) (fun cdv A outer s H E hr => ⟨fb, (ah (ay (i := 1) S.nd rfl (Or.inl rfl) (kX af af))
    (ah (ay (i := 2) S.nd rfl (Or.inl rfl) (nM ag))
    (ah (ay (i := 3) S.nd rfl (Or.inl rfl) (jH rfl T.mw (aa (dv 0) ag)))
    (ah (kS PassesOwn.never (aA xa iX (dv 3) (dv 1) (aw _)) sS)
    (ah (nB (mr (dv 2) (fN rfl T.jW (aa (dv 3) ag))))
    (ah (nB (vH (dv 2)))
    (ai (aB (cC (jf (aA oM iX (dv 0) af (aw _)) aC aC) (uS aC (dv 2))))))))))), fun ds μ Qd h => lZ h⟩)
theorem mM : aE ["body", "at"] ["body"] (aq cI) := ⟨rfl, rfl, rfl, by decide +kernel, rfl, by decide +kernel, by decide +kernel⟩
theorem nE (T : TX e)  : i5 e := by
  have S := mM
  exact T.oz.okD S (fun ds μ Q h => oQ h) (fun cdv A outer s H E hr => ⟨gc, (ah (bz (iA (eC (qJ (dv 0) aC))) (ai (aB (fZ (aa (dv 0) (aa aC ag))))) aG)
    (ah (ay (i := 1) S.nd rfl (Or.inl rfl) (ui rfl rfl T.xf (aa (pq (dv 0) aC) (aa (pq (dv 0) aC) ag))))
    (ah (bz (aA zS iX (dv 1) af (aw _)) (ai (aB (fZ (aa aC (aa (d8 (dv 0) kc (eL (dS af))) ag))))) aG)
    (ai (aB (fZ (aa (d8 (dv 0) kc (eL (dv 1))) (aa (d8 (dv 0) (eL (dv 1)) (eL (dS af))) ag)))))))), fun ds μ Qd h => nI h⟩)
theorem lM : aE ["text"] ["text"] (aq cf) := ⟨rfl, rfl, rfl, by decide +kernel, rfl, by decide +kernel, by decide +kernel⟩
theorem l7 (T : TX e)  : fe e := by
  have S := lM
  exact T.nO.okD S (fun ds μ Q h => oX h) (fun cdv A outer s H E hr => ⟨ft, (ah (bz (DW.dt (jX (aA (bC hr.units) aJ (dv 0) aC (aw _)) (jX (aA mI iX (w4 rfl T.rL (aa (dv 0) ag)) (qL (u := .int 40) rfl T.k6 ⟨_, rfl⟩ (fun _ _ _ => Rp.int 40)) (aw _)) (jA (iA (eC (vn rfl rfl T.xp (aa (qO (N' := ["sign"]) (cap := [none]) rfl (y9 (dv 0)) (fun _ _ _ => (aN (i := 0) (show List.Nodup (["sign"] : List Str) by decide +kernel) rfl (Or.inl rfl))) (fun _ _ _ => km) (fun _ _ _ => (iy sL yE (dv 0) (qL (u := .str "0123456789") rfl T.sD ⟨_, rfl⟩ (fun _ _ _ => Rp.str _)) (by with_unfolding_all rfl))) rfl (by decide +kernel) rfl (by decide +kernel) (by walk_at "cl") (pX rfl) rfl (kq trivial)) ag)))))))) (ai gP) aG)
    (ai (aB (wz rfl T.vm (aa (dv 0) ag))))), fun ds μ Qd h => lU h⟩)
theorem oZ : aE ["_law_script", "_law_at", "_law_cell", "_law_great", "_law_primes", "_law_mixed"] ["_law_script", "_law_at"] (aq dh) := ⟨rfl, rfl, rfl, by decide +kernel, rfl, by decide +kernel, by decide +kernel⟩
theorem nZ (T : TX e)  : jY e := by
  have S := oZ
  exact T.qB.okD S (fun ds μ Q h => su h) (fun cdv A outer s H E hr => ⟨gA, (ah (ay (i := 2) S.nd rfl (Or.inl rfl) af)
    (ah (bz (aA oM iX (dv 1) (qe rfl T.rL (aa (dv 0) ag)) (aw _)) (ai (ay (i := 2) S.nd rfl (Or.inl rfl) (cH (dv 0) (dv 1)))) aG)
    (ah (ay (i := 3) S.nd rfl (Or.inl rfl) af)
    (ah (bz (aA xa iX (jH rfl T.mw (aa (dv 2) ag)) (kX af af) (aw _)) (ai (ay (i := 3) S.nd rfl (Or.inl rfl) (jH rfl T.mw (aa (dv 2) ag)))) aG)
    (ah (ay (i := 4) S.nd rfl (Or.inl rfl) (fo (aa af (aa af (aa af (aa af (aa af (aa af (aa af (aa af ag))))))))))
    (ah (ay (i := 5) S.nd rfl (Or.inl rfl) (ig (ig (ig (fg (eo (dv 2) af) af) (fg (fg af (dv 1)) (dv 1))) (fg af (dv 1))) af))
    (ai (aB (nM (aa (dv 3) (aa (eo (dv 5) (cH (dv 4) (eo (dv 1) af))) ag))))))))))), fun ds μ Qd h => o4 h⟩)
theorem nS : aE ["_law_bag_here", "_law_many", "_law_digit"] ["_law_bag_here", "_law_many"] (aq cK) := ⟨rfl, rfl, rfl, by decide +kernel, rfl, by decide +kernel, by decide +kernel⟩
theorem mV (T : TX e)  : dY e := by
  have S := nS
  exact T.pj.okD S (fun ds μ Q h => pO h) (fun cdv A outer s H E hr => ⟨fS, (ah (bz (aA mI iX (cH (dv 0) af) af (aw _)) (ah (ay (i := 2) S.nd rfl (Or.inl rfl) (eo (cH (dv 0) af) (dv 1)))
    (ah (ik (fv (cH (dv 0) af) (dv 1)) (ve (dv 0) af))
    (ai (aB (dv 2))))) aG)
    (ah (ik (eo (ig (fg (cH (dv 0) af) af) af) af) (ve (dv 0) af))
    (ai (aB (eo (fv (eo (kX (cH (dv 0) af) af) af) af) (dv 1)))))), fun ds μ Qd h => mT h⟩)
theorem jB : aE ["_law_thing"] ["_law_thing"] (aq bo) := ⟨rfl, rfl, rfl, by decide +kernel, rfl, by decide +kernel, by decide +kernel⟩
theorem jG (T : TX e)  : fG e := by
  have S := jB
  exact T.j4.okD S (fun ds μ Q h => om h) (fun cdv A outer s H E hr => ⟨fP, (ai (aB (nq (kG (vU _) rfl T.cL rfl T.vm PyProof.Rows.Boot.«int» (dv 0)) (qu (yT (kG (tM _) rfl T.cL rfl T.yH PyProof.Rows.Boot.«bool» (dv 0))))))), fun ds μ Qd h => jr h⟩)
theorem kD : aE ["_law_one", "_law_other"] ["_law_one", "_law_other"] (aq bI) := ⟨rfl, rfl, rfl, by decide +kernel, rfl, by decide +kernel, by decide +kernel⟩
theorem lq (T : TX e)  : ey e := by
  have S := kD
  exact T.lL.okD S (fun ds μ Q h => mE h) (fun cdv A outer s H E hr => ⟨ed, (ah (nH (i := 0) (j := 1) rfl S.nd rfl rfl (by decide) rfl rfl (aa (jH rfl T.mw (aa (dv 0) ag)) (aa (jH rfl T.mw (aa (dv 1) ag)) ag)) rfl)
    (ah (kS PassesOwn.never (aA mI iX (dv 1) af (aw _)) (ai (nH (i := 0) (j := 1) rfl S.nd rfl rfl (by decide) rfl rfl (aa (dv 1) (aa (eo (dv 0) (dv 1)) ag)) rfl)))
    (ai (aB (dv 0))))), fun ds μ Qd h => ki h⟩)
theorem l6 : aE ["_law_b"] ["_law_b"] (aq bY) := ⟨rfl, rfl, rfl, by decide +kernel, rfl, by decide +kernel, by decide +kernel⟩
theorem lI (T : TX e)  : hZ e := by
  have S := l6
  exact T.nz.okD S (fun ds μ Q h => j0 h) (fun cdv A outer s H E hr => ⟨eY, (ah (bz (aA (bC hr.units) aJ (dv 0) af (aw _)) (ai (aB aC)) aG)
    (ah (bz (aA (bC hr.units) aJ (dv 0) (dS af) (aw _)) (ai (aB aC)) aG)
    (ai (aB (cC (fN rfl T.jW (aa (dv 0) ag)) aC))))), fun ds μ Qd h => lG h⟩)
theorem jj : aE ["a", "b", "c"] ["a", "b", "c"] (aq aY) := ⟨rfl, rfl, rfl, by decide +kernel, rfl, by decide +kernel, by decide +kernel⟩
theorem iL (T : TX e) (ck : eT e) : eO e := by
  have S := jj
  exact T.jO.okD S (fun ds μ Q h => qk h) (fun cdv A outer s H E hr => ⟨cW, (ai (aB (ak ck (hr.mono (by decide)) rfl T.fA T.fE T.fK (aa (ak ck (hr.mono (by decide)) rfl T.fA T.fE T.fK (aa (dv 2) (aa (dv 0) ag))) (aa (dv 1) ag))))), fun ds μ Qd h => iD h⟩)
theorem i7 : aE ["b"] ["b"] (aq aX) := ⟨rfl, rfl, rfl, by decide +kernel, rfl, by decide +kernel, by decide +kernel⟩
theorem iJ (T : TX e) (bt : fc e) : eN e := by
  have S := i7
  exact T.jR.okD S (fun ds μ Q h => j0 h) (fun cdv A outer s H E hr => ⟨cM, (ah (bz (aA (bC hr.units) aJ (dv 0) af (aw _)) (ai (aB aC)) aG)
    (ah (bz (aA (bC hr.units) aJ (dv 0) (dS af) (aw _)) (ai (aB aC)) aG)
    (ai (aB (cC (ak bt (hr.mono (by decide)) rfl T.dZ T.dX T.d7 (aa (dv 0) ag)) aC))))), fun ds μ Qd h => iS h⟩)
theorem kU : aE ["text"] ["text"] (aq bK) := ⟨rfl, rfl, rfl, by decide +kernel, rfl, by decide +kernel, by decide +kernel⟩
theorem kW (T : TX e) (bF : fe e) : eG e := by
  have S := kU
  exact T.lW.okD S (fun ds μ Q h => oJ h) (fun cdv A outer s H E hr => ⟨eD, (ai (aB (jf (eC (jx (dv 0) aC)) (dS (ak bF (hr.mono (by decide)) rfl T.gr T.fY T.gh (aa (d8 (dv 0) (eL af) kc) ag))) (ak bF (hr.mono (by decide)) rfl T.gr T.fY T.gh (aa (dv 0) ag))))), fun ds μ Qd h => kY h⟩)
theorem oy : aE ["_law_a", "_law_b", "_law_c", "_law_common"] ["_law_a", "_law_b", "_law_c"] (aq df) := ⟨rfl, rfl, rfl, by decide +kernel, rfl, by decide +kernel, by decide +kernel⟩
theorem oA (T : TX e) (aU : ey e) : gH e := by
  have S := oy
  exact T.pI.okD S (fun ds μ Q h => i8 h) (fun cdv A outer s H E hr => ⟨gF, (ah (ay (i := 3) S.nd rfl (Or.inl rfl) (fg (ak aU (hr.mono (by decide)) rfl T.dw T.dH T.dD (aa (ak aU (hr.mono (by decide)) rfl T.dw T.dH T.dD (aa (dv 0) (aa (dv 1) ag))) (aa (dv 2) ag))) (cH (fo (aa af (aa (dS af) ag))) (uY rfl T.vm (aa (iy oM iX (dv 2) af (aw _)) ag)))))
    (ai (aB (fZ (aa (fv (dv 0) (dv 3)) (aa (fv (dv 1) (dv 3)) (aa (fv (dv 2) (dv 3)) ag))))))), fun ds μ Qd h => n6 h⟩)
theorem iR : aE ["_law_thing"] ["_law_thing"] (aq aZ) := ⟨rfl, rfl, rfl, by decide +kernel, rfl, by decide +kernel, by decide +kernel⟩
theorem iZ (T : TX e) (dR : fG e) (aU : ey e) : eP e := by
  have S := iR
  exact T.jQ.okD S (fun ds μ Q h => pS h) (fun cdv A outer s H E hr => ⟨cO, (ah (bz (DW.dt (jX (iA (eC (kG (kit_tuple _) rfl T.cL rfl T.wH PyProof.Rows.Boot.«tuple» (dv 0)))) (jX (aA (fq hr.units) aJ (qe rfl T.rL (aa (dv 0) ag)) af (aw _)) (jA (iA (eC (vn rfl rfl T.xp (aa (qO (N' := ["_law_one"]) (cap := [none]) rfl (x5 (dv 0)) (fun _ _ _ => (aN (i := 0) (show List.Nodup (["_law_one"] : List Str) by decide +kernel) rfl (Or.inl rfl))) (fun _ _ _ => km) (fun _ _ _ => (ak dR (hr.mono (by decide)) rfl T.j1 T.j3 T.j7 (aa (dv 0) ag))) rfl (by decide +kernel) rfl (by decide +kernel) (by walk_at "cl") (pX rfl) rfl (kq trivial)) ag)))))))) (ai (aB rp)) aG)
    (ai (aB (nq (iy mI iX (cH (dv 0) af) af (aw _)) (qu (iy (bC hr.units) aJ (ak aU (hr.mono (by decide)) rfl T.dw T.dH T.dD (aa (ak aU (hr.mono (by decide)) rfl T.dw T.dH T.dD (aa (cH (dv 0) af) (aa (cH (dv 0) af) ag))) (aa (cH (dv 0) af) ag))) af (aw _))))))), fun ds μ Qd h => jn h⟩)
theorem mJ : aE ["_law_x", "_law_a", "_law_b", "_law_c", "_law_text_here"] ["_law_x"] (aq cJ) := ⟨rfl, rfl, rfl, by decide +kernel, rfl, by decide +kernel, by decide +kernel⟩
theorem nt (T : TX e) (cS : hZ e) : iI e := by
  have S := mJ
  exact T.oV.okD S (fun ds μ Q h => jU h) (fun cdv A outer s H E hr => ⟨gk, (ah (ik (dv 0) (k8 (n := 3) rfl (bf (aN (i := 1) S.nd rfl (Or.inl rfl)) (bf (aN (i := 2) S.nd rfl (Or.inl rfl)) (bf (aN (i := 3) S.nd rfl (Or.inl rfl)) g6)))))
    (ah (ay (i := 4) S.nd rfl (Or.inl rfl) (fN rfl T.jW (aa (dv 1) ag)))
    (ah (bz (DW.dt (uD (aA (fq hr.units) aJ (dv 2) af (aw _)) (qN (aA (bC hr.units) aJ (dv 1) af (aw _))))) (ai (ay (i := 4) S.nd rfl (Or.inl rfl) (ak cS (hr.mono (by decide)) rfl T.fR T.gj T.fX (aa (dv 2) ag)))) (ai (bz (aA (fq hr.units) aJ (dv 2) af (aw _)) (ah (ay (i := 4) S.nd rfl (Or.inl rfl) (jf (aA mI iX (dv 2) af (aw _)) (cC (cC (fN rfl T.jW (aa (dv 1) ag)) aC) (ak cS (hr.mono (by decide)) rfl T.fR T.gj T.fX (aa (dv 2) ag))) (cC (fN rfl T.jW (aa (dv 1) ag)) (ak cS (hr.mono (by decide)) rfl T.fR T.gj T.fX (aa (dv 2) ag)))))
    (ai (bz (aA (fq hr.units) aJ (dv 3) af (aw _)) (ai (ay (i := 4) S.nd rfl (Or.inl rfl) (cC (cC aC (dv 4)) aC))) aG))) aG)))
    (ai (aB (jf (aA (bC hr.units) aJ (dv 3) af (aw _)) (dv 4) (cC (cC (dv 4) aC) (fN rfl T.jW (aa (dv 3) ag))))))))), fun ds μ Qd h => nG h⟩)
theorem kx : aE ["_law_bag_here", "_law_wide", "_law_found", "_law_turn"] ["_law_bag_here", "_law_wide"] (aq bL) := ⟨rfl, rfl, rfl, by decide +kernel, rfl, by decide +kernel, by decide +kernel⟩
theorem lE (T : TX e) (ax : dY e) : gL e := by
  have S := kx
  exact T.lJ.okD S (fun ds μ Q h => qf h) (fun cdv A outer s H E hr => ⟨ej, (ah (ay (i := 2) S.nd rfl (Or.inl rfl) af)
    (ah (nL PassesOwn.never rfl (jb rfl T.jg (aa af ag)) (aN (i := 3) S.nd rfl (Or.inl rfl)) (ai (ay (i := 2) S.nd rfl (Or.inl rfl) (ig (fg (dv 2) (kX af af)) (ak ax (hr.mono (by decide)) rfl T.aK T.aM T.aL (aa (dv 0) (aa (kX af af) ag)))))))
    (ai (aB (eo (dv 2) (dv 1)))))), fun ds μ Qd h => kL h⟩)
theorem sf : aE ["a", "b", "c", "divisor"] ["a", "b", "c"] (aq fD) := ⟨rfl, rfl, rfl, by decide +kernel, rfl, by decide +kernel, by decide +kernel⟩
theorem se (T : TX e) (du : eO e) : mz e := by
  have S := sf
  exact T.tF.okD S (fun ds μ Q h => i8 h) (fun cdv A outer s H E hr => ⟨jJ, (ah (bz (aA (bC hr.units) aJ (dv 2) af (aw _)) (ai gP) aG)
    (ah (ay (i := 3) S.nd rfl (Or.inl rfl) (ak du (hr.mono (by decide)) rfl T.jz T.jS T.jC (aa (dv 0) (aa (dv 1) (aa (dv 2) ag)))))
    (ah (bz (aA oM iX (dv 2) af (aw _)) (ai (ay (i := 3) S.nd rfl (Or.inl rfl) (dS (dv 3)))) aG)
    (ai (aB (fZ (aa (fv (dv 0) (dv 3)) (aa (fv (dv 1) (dv 3)) (aa (fv (dv 2) (dv 3)) ag))))))))), fun ds μ Qd h => sZ h⟩)
theorem ky : aE ["x", "a", "b", "c", "body"] ["x"] (aq bM) := ⟨rfl, rfl, rfl, by decide +kernel, rfl, by decide +kernel, by decide +kernel⟩
theorem k9 (T : TX e) (bt : fc e) (cm : eN e) : eg e := by
  have S := ky
  exact T.lS.okD S (fun ds μ Q h => jU h) (fun cdv A outer s H E hr => ⟨eI, (ah (ik (dv 0) (k8 (n := 3) rfl (bf (aN (i := 1) S.nd rfl (Or.inl rfl)) (bf (aN (i := 2) S.nd rfl (Or.inl rfl)) (bf (aN (i := 3) S.nd rfl (Or.inl rfl)) g6)))))
    (ah (bz (aA (bC hr.units) aJ (dv 2) af (aw _)) (ai (ay (i := 4) S.nd rfl (Or.inl rfl) (ak bt (hr.mono (by decide)) rfl T.dZ T.dX T.d7 (aa (dv 1) ag)))) (ai (bz (aA (bC hr.units) aJ (dv 1) af (aw _)) (ai (ay (i := 4) S.nd rfl (Or.inl rfl) (ak cm (hr.mono (by decide)) rfl T.fM T.fJ T.fI (aa (dv 2) ag)))) (ah (ay (i := 4) S.nd rfl (Or.inl rfl) (cC (cC (ak bt (hr.mono (by decide)) rfl T.dZ T.dX T.d7 (aa (dv 1) ag)) (jf (aA mI iX (dv 2) af (aw _)) aC aC)) (ak cm (hr.mono (by decide)) rfl T.fM T.fJ T.fI (aa (dv 2) ag))))
    (ai (ay (i := 4) S.nd rfl (Or.inl rfl) (jf (aA (bC hr.units) aJ (dv 3) af (aw _)) (dv 4) (mn (g8 aC (g8 (uB (dv 4)) (g8 aC tY)))))))))))
    (ai (aB (jf (aA (bC hr.units) aJ (dv 3) af (aw _)) (dv 4) (mn (g8 (uB (dv 4)) (g8 aC (g8 (uB (ak bt (hr.mono (by decide)) rfl T.dZ T.dX T.d7 (aa (dv 3) ag))) tY))))))))), fun ds μ Qd h => kT h⟩)
theorem ji : aE ["text"] ["text"] (aq aW) := ⟨rfl, rfl, rfl, by decide +kernel, rfl, by decide +kernel, by decide +kernel⟩
theorem jm (T : TX e) (bN : eG e) : eW e := by
  have S := ji
  exact T.ju.okD S (fun ds μ Q h => n9 h) (fun cdv A outer s H E hr => ⟨cN, (ah (bz (DW.dt (jX (aA (bC hr.units) aJ (dv 0) aC (aw _)) (jA (aA (bC hr.units) aJ (dv 0) aC (aw _))))) (ai (aB af)) aG)
    (ah (bz (aA (bC hr.units) aJ (dv 0) aC (aw _)) (ai (aB (dS af))) aG)
    (ai (aB (ak bN (hr.mono (by decide)) rfl T.hX T.hJ T.ia (aa (jf (eC (jx (dv 0) aC)) (d8 (dv 0) (eL af) kc) (dv 0)) ag)))))), fun ds μ Qd h => iN h⟩)
theorem kJ : aE ["_law_bag_here", "_law_wide", "_law_a", "_law_b", "_law_c", "_law_way"] ["_law_bag_here"] (aq bJ) := ⟨rfl, rfl, rfl, by decide +kernel, rfl, by decide +kernel, by decide +kernel⟩
theorem k0 (T : TX e) (ax : dY e) (dk : gH e) : gQ e := by
  have S := kJ
  exact T.lQ.okD S (fun ds μ Q h => lR h) (fun cdv A outer s H E hr => ⟨ez, (ah (ay (i := 1) S.nd rfl (Or.inl rfl) (cH (fo (aa af (aa af (aa af (aa af ag))))) (ak ax (hr.mono (by decide)) rfl T.aK T.aM T.aL (aa (dv 0) (aa af ag)))))
    (ah (nH (i := 2) (j := 3) rfl S.nd rfl rfl (by decide) rfl rfl (aa (jD (ak ax (hr.mono (by decide)) rfl T.aK T.aM T.aL (aa (dv 0) (aa (dv 1) ag))) (fv (dv 1) af)) (aa (jD (ak ax (hr.mono (by decide)) rfl T.aK T.aM T.aL (aa (dv 0) (aa (dv 1) ag))) (fv (dv 1) af)) ag)) rfl)
    (ah (ay (i := 4) S.nd rfl (Or.inl rfl) (ig af (ak ax (hr.mono (by decide)) rfl T.aK T.aM T.aL (aa (dv 0) (aa (jD (dv 1) af) ag)))))
    (ah (ay (i := 5) S.nd rfl (Or.inl rfl) (ak ax (hr.mono (by decide)) rfl T.aK T.aM T.aL (aa (dv 0) (aa af ag))))
    (ai (aB (ak dk (hr.mono (by decide)) rfl T.kz T.kQ T.lj (aa (cH (fo (aa (dv 2) (aa (dv 2) (aa (dv 2) (aa (dv 2) (aa (dv 2) (aa (dv 2) (aa (dv 2) (aa af ag))))))))) (dv 5)) (aa (cH (fo (aa (dv 3) (aa (dv 3) (aa (dv 3) (aa (dv 3) (aa (dv 3) (aa af (aa af (aa (dv 3) ag))))))))) (dv 5)) (aa (cH (fo (aa (dv 4) (aa (dv 4) (aa af (aa (dv 4) (aa af (aa (dv 4) (aa af (aa (dv 4) ag))))))))) (dv 5)) ag)))))))))), fun ds μ Qd h => kI h⟩)
theorem kC : aE ["text", "body", "slash", "below", "c", "plain", "beside_root", "found"] ["text"] (aq bO) := ⟨rfl, rfl, rfl, by decide +kernel, rfl, by decide +kernel, by decide +kernel⟩
theorem lr (T : TX e) (bF : fe e) (gE : i5 e) (kK : mz e) (bN : eG e) (dm : eW e) (aQ : eg e) : gN e := by
  have S := kC
  exact T.l5.okD S (fun ds μ Q h => oO h) (fun cdv A outer s H E hr => ⟨eJ, (ah (bz (iA (eC (kG (qS _) rfl T.cL rfl T.jW PyProof.Rows.Boot.«str» (dv 0)))) (ai gP) aG)
    (ah (ik (vq (dv 0) aC) (k8 (n := 3) rfl (bf (aN (i := 1) S.nd rfl (Or.inl rfl)) (bf (aN (i := 2) S.nd rfl (Or.inl rfl)) (bf (aN (i := 3) S.nd rfl (Or.inl rfl)) g6)))))
    (ah (ay (i := 4) S.nd rfl (Or.inl rfl) (jf (wm (dv 2)) (ak bF (hr.mono (by decide)) rfl T.gr T.fY T.gh (aa (dv 3) ag)) af))
    (ah (bz (aA (bC hr.units) aJ (dv 4) af (aw _)) (ai gP) aG)
    (ah (bz (DW.dt (uD (eC (jx (dv 1) aC)) (qN (eC (qJ (dv 1) aC))))) (ai (ay (i := 1) S.nd rfl (Or.inl rfl) (d8 (dv 1) (eL af) (eL (dS af))))) aG)
    (ah (ik (ak gE (hr.mono (by decide)) rfl T.ot T.oW T.oK (aa (dv 1) ag)) (k8 (n := 2) rfl (bf (aN (i := 5) S.nd rfl (Or.inl rfl)) (bf (aN (i := 6) S.nd rfl (Or.inl rfl)) g6))))
    (ah (ay (i := 7) S.nd rfl (Or.inl rfl) (ak kK (hr.mono (by decide)) rfl T.tH T.uw T.ua (aa (ak bN (hr.mono (by decide)) rfl T.hX T.hJ T.ia (aa (dv 5) ag)) (aa (ak dm (hr.mono (by decide)) rfl T.jE T.jP T.js (aa (dv 6) ag)) (aa (dv 4) ag)))))
    (ah (bz (aA (fq hr.units) aJ (ak aQ (hr.mono (by decide)) rfl T.cy T.cx T.cz (aa (dv 7) ag)) (dv 0) (aw _)) (ai gP) aG)
    (ai (aB (dv 7))))))))))), fun ds μ Qd h => kF h⟩)
theorem iB : aE ["_law_bag_here", "_law_way", "_law_wide", "_law_turn", "_law_a", "_law_b", "_law_c"] ["_law_bag_here"] (aq aS) := ⟨rfl, rfl, rfl, by decide +kernel, rfl, by decide +kernel, by decide +kernel⟩
theorem iw (T : TX e) (ax : dY e) (eX : gQ e) (dy : gL e) (dk : gH e) : eA e := by
  have S := iB
  exact T.iK.okD S (fun ds μ Q h => p4 h) (fun cdv A outer s H E hr => ⟨cF, (ah (ay (i := 1) S.nd rfl (Or.inl rfl) (ak ax (hr.mono (by decide)) rfl T.aK T.aM T.aL (aa (dv 0) (aa af ag))))
    (ah (bz (aA oM iX (dv 1) af (aw _)) (ai (aB (ak eX (hr.mono (by decide)) rfl T.lO T.ma T.lT (aa (dv 0) ag)))) aG)
    (ah (ay (i := 2) S.nd rfl (Or.inr rfl) af)
    (ah (nL PassesOwn.never rfl (jb rfl T.jg (aa (cH (fo (aa af (aa (ak ax (hr.mono (by decide)) rfl T.aK T.aM T.aL (aa (dv 0) (aa af ag))) ag))) (jD af (dv 1))) ag)) (aN (i := 3) S.nd rfl (Or.inl rfl)) (ai (ay (i := 2) S.nd rfl (Or.inr rfl) (fg (dv 2) af))))
    (ah (ik (tO (N' := ["_law_k", "_law_bag_here", "_law_wide"]) (cap := [none, some 0, some 2]) rfl (jb rfl T.jg (aa af ag)) (fun _ _ _ => (aN (i := 0) (show List.Nodup (["_law_k", "_law_bag_here", "_law_wide"] : List Str) by decide +kernel) rfl (Or.inl rfl))) (fun _ _ _ => km) (fun _ _ _ => (fg (ak dy (hr.mono (by decide)) rfl T.hV T.hR T.hU (aa (dv 1) (aa (dv 2) ag))) (jD af (fg af (ak ax (hr.mono (by decide)) rfl T.aK T.aM T.aL (aa (dv 1) (aa af ag))))))) rfl (by decide +kernel) rfl (by decide +kernel) (by walk_at "cl") (pX rfl) rfl (kq ⟨zM, ⟨zM, trivial⟩⟩)) (yS (n := 2) rfl (bf (aN (i := 4) S.nd rfl (Or.inl rfl)) (bf (aN (i := 5) S.nd rfl (Or.inl rfl)) g6))))
    (ah (ay (i := 6) S.nd rfl (Or.inl rfl) (ig af (eo (ak dy (hr.mono (by decide)) rfl T.hV T.hR T.hU (aa (dv 0) (aa (dv 2) ag))) (jD (dv 2) af))))
    (ai (aB (ak dk (hr.mono (by decide)) rfl T.kz T.kQ T.lj (aa (cH (fo (aa (dv 4) (aa (dv 4) (aa af (aa (dv 4) ag))))) (ak ax (hr.mono (by decide)) rfl T.aK T.aM T.aL (aa (dv 0) (aa af ag)))) (aa (cH (fo (aa (dv 5) (aa af (aa (dv 5) (aa (dS af) (aa af ag)))))) (ak ax (hr.mono (by decide)) rfl T.aK T.aM T.aL (aa (dv 0) (aa af ag)))) (aa (cH (fo (aa (dv 6) (aa af ag))) (ak ax (hr.mono (by decide)) rfl T.aK T.aM T.aL (aa (dv 0) (aa af ag)))) ag)))))))))))), fun ds μ Qd h => iu h⟩)
theorem yB : aE ["_law_script", "_law_ahead", "_law_k", "_law_bag_here", "_law_turn", "_law_x", "_law_text_here", "_law_told"] ["_law_script"] (aq ie) := ⟨rfl, rfl, rfl, by decide +kernel, rfl, by decide +kernel, by decide +kernel⟩
theorem xx (T : TX e) (il : jY e) (cQ : eA e) (aQ : eg e) (gz : iI e) (cu : gN e) (cZ : eP e) : uo e := by
  have S := yB
  exact T.Aj.okD S (fun ds μ Q h => sh h) (fun cdv A outer s H E hr => ⟨pH, (ah (ay (i := 1) S.nd rfl (Or.inl rfl) (nM ag))
    (ah (nL PassesOwn.never rfl (jb rfl T.jg (aa (ui rfl rfl T.xf (aa af (aa (xI rfl rfl T.zJ (aa af (aa (qe rfl T.rL (aa (dv 0) ag)) ag))) ag))) ag)) (aN (i := 2) S.nd rfl (Or.inl rfl)) (ah (ay (i := 3) S.nd rfl (Or.inl rfl) (ak il (hr.mono (by decide)) rfl T.qA T.qr T.pJ (aa (dv 0) (aa (dv 2) ag))))
    (ai (nL PassesOwn.never rfl (jb rfl T.jg (aa af ag)) (aN (i := 4) S.nd rfl (Or.inl rfl)) (ah (ay (i := 5) S.nd rfl (Or.inl rfl) (ak cQ (hr.mono (by decide)) rfl T.jo T.iE T.ja (aa (dv 3) ag)))
    (ah (ay (i := 6) S.nd rfl (Or.inl rfl) (ak aQ (hr.mono (by decide)) rfl T.cy T.cx T.cz (aa (dv 5) ag)))
    (ah (bz (DW.dt (jX (iA (eC (kG (qS _) rfl T.cL rfl T.jW PyProof.Rows.Boot.«str» (dv 6)))) (jA (aA (fq hr.units) aJ (dv 6) (ak gz (hr.mono (by decide)) rfl T.oY T.o7 T.pd (aa (dv 5) ag)) (aw _))))) (ai (aB rp)) aG)
    (ah (ay (i := 7) S.nd rfl (Or.inl rfl) (ak cu (hr.mono (by decide)) rfl T.fw T.fu T.eZ (aa (dv 6) ag)))
    (ah (bz (DW.dt (jX (iA (eC (ak cZ (hr.mono (by decide)) rfl T.jw T.jK T.jL (aa (dv 7) ag)))) (jA (aA (fq hr.units) aJ (dv 7) (dv 5) (aw _))))) (ai (aB rp)) aG)
    (ai (nB (mr (dv 1) (fZ (aa (dv 5) (aa (dv 6) ag)))))))))))))))
    (ah (wd PassesOwn.never rfl (dv 1) (k8 (n := 2) rfl (bf (aN (i := 5) S.nd rfl (Or.inl rfl)) (bf (aN (i := 6) S.nd rfl (Or.inl rfl)) g6))) (ai (bz (DW.dt (jX (aA (fq hr.units) aJ (ak aQ (hr.mono (by decide)) rfl T.cy T.cx T.cz (aa (dv 5) ag)) (dv 6) (aw _)) (jA (aA (fq hr.units) aJ (ak cu (hr.mono (by decide)) rfl T.fw T.fu T.eZ (aa (dv 6) ag)) (dv 5) (aw _))))) (ai (aB rp)) aG)))
    (ai (aB (nq (iy (bC hr.units) aJ (ak aQ (hr.mono (by decide)) rfl T.cy T.cx T.cz (aa (fZ (aa af (aa (dS af) (aa af ag)))) ag)) aC (aw _)) (nq (iy (bC hr.units) aJ (ak aQ (hr.mono (by decide)) rfl T.cy T.cx T.cz (aa (fZ (aa af (aa (dS af) (aa af ag)))) ag)) aC (aw _)) (qu (iy (bC hr.units) aJ (ak cu (hr.mono (by decide)) rfl T.fw T.fu T.eZ (aa aC ag)) (fZ (aa af (aa af (aa af ag)))) (aw _)))))))))), fun ds μ Qd h => xY h⟩)
theorem xW (T : TX e) : uo e := by
  have ck := je T
  have bt := lK T
  have gE := nE T
  have bF := l7 T
  have il := nZ T
  have ax := mV T
  have dR := jG T
  have aU := lq T
  have cS := lI T
  have du := iL T ck
  have cm := iJ T bt
  have bN := kW T bF
  have dk := oA T aU
  have cZ := iZ T dR aU
  have gz := nt T cS
  have dy := lE T ax
  have kK := se T du
  have aQ := k9 T bt cm
  have dm := jm T bN
  have eX := k0 T ax dk
  have cu := lr T bF gE kK bN dm aQ
  have cQ := iw T ax eX dy dk
  exact xx T il cQ aQ gz cu cZ
end
theorem all_mk {l : PySem.W.OpenLaw} {w : World} {K : PySem.W.Frag} {h : Heap} {mg : Str → Option Value} {fa : Addr} (X : K.In h) (G : h.Ns mainGlobals mg) (hfa : mg "law" = some (.ref fa))
    {f0 c0 f1 c1 f2 c2 f3 c3 f4 c4 f5 c5 f6 c6 f7 c7 f8 c8 f9 c9 f10 c10 f11 c11 f12 c12 f13 c13 f14 c14 f15 c15 f16 c16 f17 c17 f18 c18 f19 c19 f20 c20 f21 c21 f22 c22 : Addr} {t0 t1 t2 t3 t4 t5 t6 t7 t8 t9 t10 t11 t12 t13 t14 t15 t16 t17 t18 t19 t20 t21 t22 : Tok} {m0 m1 m2 m3 m4 m5 m6 m7 m8 m9 m10 m11 m12 m13 m14 m15 m16 m17 m18 m19 m20 m21 m22 : Str} {q0 : Tok} {q1 : Tok}
    (a0 : FQ K "common_divisor" aV f0 c0 t0 m0)
    (a1 : FQ K "divisor_of_all" aY f1 c1 t1 m1)
    (a2 : FQ K "number" fD f2 c2 t2 m2)
    (a3 : FQ K "show_whole" cg f3 c3 t3 m3)
    (a4 : FQ K "show_number" bM f4 c4 t4 m4)
    (a5 : FQ K "show_root_part" aX f5 c5 t5 m5)
    (a6 : FQ K "read_number" bO f6 c6 t6 m6)
    (a7 : FQ K "split_sum" cI f7 c7 t7 m7)
    (a8 : FQ K "read_root_part" aW f8 c8 t8 m8)
    (a9 : FQ K "read_signed" bK f9 c9 t9 m9)
    (a10 : FQ K "read_whole" cf f10 c10 t10 m10)
    (a11 : FQ K "_law_bag" dh f11 c11 t11 m11)
    (a12 : FQ K "_law_take" cK f12 c12 t12 m12)
    (a13 : FQ K "_law_is_whole" bo f13 c13 t13 m13)
    (a14 : FQ K "_law_shared" bI f14 c14 t14 m14)
    (a15 : FQ K "_law_low" df f15 c15 t15 m15)
    (a16 : FQ K "_law_is_number" aZ f16 c16 t16 m16)
    (a17 : FQ K "_law_number" bJ f17 c17 t17 m17)
    (a18 : FQ K "_law_roots" bY f18 c18 t18 m18)
    (a19 : FQ K "_law_text" cJ f19 c19 t19 m19)
    (a20 : FQ K "_law_any_number" aS f20 c20 t20 m20)
    (a21 : FQ K "_law_digits" bL f21 c21 t21 m21)
    (a22 : FQ K "law" ie f22 c22 t22 m22)
    (z0 : PySem.W.nsIn K mainGlobals "abs" = some none)
    (z1 : PySem.W.nsIn K mainGlobals "str" = some none)
    (z2 : PySem.W.nsIn K mainGlobals "isinstance" = some none)
    (z3 : PySem.W.nsIn K mainGlobals "max" = some none)
    (z4 : PySem.W.nsIn K mainGlobals "int" = some none)
    (z5 : PySem.W.nsIn K mainGlobals "len" = some none)
    (z6 : PySem.W.nsIn K mainGlobals "all" = some none)
    (z7 : PySem.W.nsIn K mainGlobals "bool" = some none)
    (z8 : PySem.W.nsIn K mainGlobals "tuple" = some none)
    (z9 : PySem.W.nsIn K mainGlobals "range" = some none)
    (z10 : PySem.W.nsIn K mainGlobals "min" = some none)
    (v0 : PySem.W.nsIn K mainGlobals "MOST_FIGURES" = some (some (.int 40 q0)))
    (v1 : PySem.W.nsIn K mainGlobals "FIGURES" = some (some (.str "0123456789" q1))) :
    ∃ fd : FuncData, (∀ (s : Shared) (v : Value), BindsTo s fd ⟨[v], []⟩ [("_law_script", v)]) ∧ ∀ base : Heap, K.In base → base.Ns mainGlobals mg → cq l.prog w K mg base CX0 5 fa fd ["_law_script"] (spD K k5) := by
  have e := hfa.symm.trans (PySem.W.mg_of X G a22.1)
  cases e
  have F0 := bj (st := aV) a0.2.1 a0.2.2.1 a0.2.2.2
  have b0 := F0.binds (ps := ["a", "b"]) fun _ _ _ _ _ _ us hl => match us, hl with | [_, _], _ => rfl
  have F1 := bj (st := aY) a1.2.1 a1.2.2.1 a1.2.2.2
  have b1 := F1.binds (ps := ["a", "b", "c"]) fun _ _ _ _ _ _ us hl => match us, hl with | [_, _, _], _ => rfl
  have F2 := bj (st := fD) a2.2.1 a2.2.2.1 a2.2.2.2
  have b2 := F2.binds (ps := ["a", "b", "c"]) fun _ _ _ _ _ _ us hl => match us, hl with | [_, _, _], _ => rfl
  have F3 := bj (st := cg) a3.2.1 a3.2.2.1 a3.2.2.2
  have b3 := F3.binds (ps := ["k"]) fun _ _ _ _ _ _ us hl => match us, hl with | [_], _ => rfl
  have F4 := bj (st := bM) a4.2.1 a4.2.2.1 a4.2.2.2
  have b4 := F4.binds (ps := ["x"]) fun _ _ _ _ _ _ us hl => match us, hl with | [_], _ => rfl
  have F5 := bj (st := aX) a5.2.1 a5.2.2.1 a5.2.2.2
  have b5 := F5.binds (ps := ["b"]) fun _ _ _ _ _ _ us hl => match us, hl with | [_], _ => rfl
  have F6 := bj (st := bO) a6.2.1 a6.2.2.1 a6.2.2.2
  have b6 := F6.binds (ps := ["text"]) fun _ _ _ _ _ _ us hl => match us, hl with | [_], _ => rfl
  have F7 := bj (st := cI) a7.2.1 a7.2.2.1 a7.2.2.2
  have b7 := F7.binds (ps := ["body"]) fun _ _ _ _ _ _ us hl => match us, hl with | [_], _ => rfl
  have F8 := bj (st := aW) a8.2.1 a8.2.2.1 a8.2.2.2
  have b8 := F8.binds (ps := ["text"]) fun _ _ _ _ _ _ us hl => match us, hl with | [_], _ => rfl
  have F9 := bj (st := bK) a9.2.1 a9.2.2.1 a9.2.2.2
  have b9 := F9.binds (ps := ["text"]) fun _ _ _ _ _ _ us hl => match us, hl with | [_], _ => rfl
  have F10 := bj (st := cf) a10.2.1 a10.2.2.1 a10.2.2.2
  have b10 := F10.binds (ps := ["text"]) fun _ _ _ _ _ _ us hl => match us, hl with | [_], _ => rfl
  have F11 := bj (st := dh) a11.2.1 a11.2.2.1 a11.2.2.2
  have b11 := F11.binds (ps := ["_law_script", "_law_at"]) fun _ _ _ _ _ _ us hl => match us, hl with | [_, _], _ => rfl
  have F12 := bj (st := cK) a12.2.1 a12.2.2.1 a12.2.2.2
  have b12 := F12.binds (ps := ["_law_bag_here", "_law_many"]) fun _ _ _ _ _ _ us hl => match us, hl with | [_, _], _ => rfl
  have F13 := bj (st := bo) a13.2.1 a13.2.2.1 a13.2.2.2
  have b13 := F13.binds (ps := ["_law_thing"]) fun _ _ _ _ _ _ us hl => match us, hl with | [_], _ => rfl
  have F14 := bj (st := bI) a14.2.1 a14.2.2.1 a14.2.2.2
  have b14 := F14.binds (ps := ["_law_one", "_law_other"]) fun _ _ _ _ _ _ us hl => match us, hl with | [_, _], _ => rfl
  have F15 := bj (st := df) a15.2.1 a15.2.2.1 a15.2.2.2
  have b15 := F15.binds (ps := ["_law_a", "_law_b", "_law_c"]) fun _ _ _ _ _ _ us hl => match us, hl with | [_, _, _], _ => rfl
  have F16 := bj (st := aZ) a16.2.1 a16.2.2.1 a16.2.2.2
  have b16 := F16.binds (ps := ["_law_thing"]) fun _ _ _ _ _ _ us hl => match us, hl with | [_], _ => rfl
  have F17 := bj (st := bJ) a17.2.1 a17.2.2.1 a17.2.2.2
  have b17 := F17.binds (ps := ["_law_bag_here"]) fun _ _ _ _ _ _ us hl => match us, hl with | [_], _ => rfl
  have F18 := bj (st := bY) a18.2.1 a18.2.2.1 a18.2.2.2
  have b18 := F18.binds (ps := ["_law_b"]) fun _ _ _ _ _ _ us hl => match us, hl with | [_], _ => rfl
  have F19 := bj (st := cJ) a19.2.1 a19.2.2.1 a19.2.2.2
  have b19 := F19.binds (ps := ["_law_x"]) fun _ _ _ _ _ _ us hl => match us, hl with | [_], _ => rfl
  have F20 := bj (st := aS) a20.2.1 a20.2.2.1 a20.2.2.2
  have b20 := F20.binds (ps := ["_law_bag_here"]) fun _ _ _ _ _ _ us hl => match us, hl with | [_], _ => rfl
  have F21 := bj (st := bL) a21.2.1 a21.2.2.1 a21.2.2.2
  have b21 := F21.binds (ps := ["_law_bag_here", "_law_wide"]) fun _ _ _ _ _ _ us hl => match us, hl with | [_, _], _ => rfl
  have F22 := bj (st := ie) a22.2.1 a22.2.2.1 a22.2.2.2
  have b22 := F22.binds (ps := ["_law_script"]) fun _ _ _ _ _ _ us hl => match us, hl with | [_], _ => rfl
  have T : Txt K mg ⟨f0, fd "common_divisor" aV t0 m0 c0, f1, fd "divisor_of_all" aY t1 m1 c1, f2, fd "number" fD t2 m2 c2, f3, fd "show_whole" cg t3 m3 c3, f4, fd "show_number" bM t4 m4 c4, f5, fd "show_root_part" aX t5 m5 c5, f6, fd "read_number" bO t6 m6 c6, f7, fd "split_sum" cI t7 m7 c7, f8, fd "read_root_part" aW t8 m8 c8, f9, fd "read_signed" bK t9 m9 c9, f10, fd "read_whole" cf t10 m10 c10, f11, fd "_law_bag" dh t11 m11 c11, f12, fd "_law_take" cK t12 m12 c12, f13, fd "_law_is_whole" bo t13 m13 c13, f14, fd "_law_shared" bI t14 m14 c14, f15, fd "_law_low" df t15 m15 c15, f16, fd "_law_is_number" aZ t16 m16 c16, f17, fd "_law_number" bJ t17 m17 c17, f18, fd "_law_roots" bY t18 m18 c18, f19, fd "_law_text" cJ t19 m19 c19, f20, fd "_law_any_number" aS t20 m20 c20, f21, fd "_law_digits" bL t21 m21 c21, fa, fd "law" ie t22 m22 c22, q0, q1⟩ := ⟨F0, PySem.W.mg_of X G a0.1, a0.2.2.2, b0, F1, PySem.W.mg_of X G a1.1, a1.2.2.2, b1, F2, PySem.W.mg_of X G a2.1, a2.2.2.2, b2, F3, PySem.W.mg_of X G a3.1, a3.2.2.2, b3, F4, PySem.W.mg_of X G a4.1, a4.2.2.2, b4, F5, PySem.W.mg_of X G a5.1, a5.2.2.2, b5, F6, PySem.W.mg_of X G a6.1, a6.2.2.2, b6, F7, PySem.W.mg_of X G a7.1, a7.2.2.2, b7, F8, PySem.W.mg_of X G a8.1, a8.2.2.2, b8, F9, PySem.W.mg_of X G a9.1, a9.2.2.2, b9, F10, PySem.W.mg_of X G a10.1, a10.2.2.2, b10, F11, PySem.W.mg_of X G a11.1, a11.2.2.2, b11, F12, PySem.W.mg_of X G a12.1, a12.2.2.2, b12, F13, PySem.W.mg_of X G a13.1, a13.2.2.2, b13, F14, PySem.W.mg_of X G a14.1, a14.2.2.2, b14, F15, PySem.W.mg_of X G a15.1, a15.2.2.2, b15, F16, PySem.W.mg_of X G a16.1, a16.2.2.2, b16, F17, PySem.W.mg_of X G a17.1, a17.2.2.2, b17, F18, PySem.W.mg_of X G a18.1, a18.2.2.2, b18, F19, PySem.W.mg_of X G a19.1, a19.2.2.2, b19, F20, PySem.W.mg_of X G a20.1, a20.2.2.2, b20, F21, PySem.W.mg_of X G a21.1, a21.2.2.2, b21, F22, PySem.W.mg_of X G a22.1, a22.2.2.2, b22, PySem.W.mg_none_of X G z0, PySem.W.mg_none_of X G z1, PySem.W.mg_none_of X G z2, PySem.W.mg_none_of X G z3, PySem.W.mg_none_of X G z4, PySem.W.mg_none_of X G z5, PySem.W.mg_none_of X G z6, PySem.W.mg_none_of X G z7, PySem.W.mg_none_of X G z8, PySem.W.mg_none_of X G z9, PySem.W.mg_none_of X G z10, PySem.W.mg_of X G v0, PySem.W.mg_of X G v1⟩
  exact ⟨_, fun s v => .of_eq rfl, fun base _ _ => xW (e := ⟨l.prog, w, K, mg, base, _⟩) T⟩
theorem walk {l : PySem.W.OpenLaw} {q : Program} {loose : List Str} {XP : (Str → Option Value) → Heap → Prop} {YP : World → Heap → Prop} {d : DefRec} {K : Params → PySem.W.Frag} (tabs : List Addr) (hn : l.most = some 63) (hdf : d.params.defaults = [])
    (hY : ∀ (w : World) (h : Heap), YP w h → (K w.params).In h ∧ (∀ p ∈ tabs, h.get? p = some (PySem.W.tabObj #[]) ∧ (K w.params).lookup p = none) ∧ (∀ p ∈ tabs, isCodeTable h p))
    (hA2 : ∀ (w : World) c o p q, (K w.params).lookup c = some o → bR o = some (p, q) → p ∈ tabs)
    (F : ∀ (w : World) (mg : Str → Option Value) (fa : Addr) (h : Heap), (K w.params).In h → h.Ns mainGlobals mg → mg d.name = some (.ref fa) →
      ∃ fd : FuncData, (∀ (s : Shared) (u : Value), BindsTo s fd ⟨[u], []⟩ [("_law_script", u)]) ∧ ∀ base : Heap, (K w.params).In base → base.Ns mainGlobals mg → cq l.prog w (K w.params) mg base CX0 5 fa fd ["_law_script"] (spD (K w.params) k5)) :
    PySem.W.WalkO q loose XP YP l.row.toRowW d [] (fun f vs => PySem.call f vs) :=
  L2.vp (n := 63) (k := 5) (x := "_law_script") (CX := fun _ => CX0) (sp := fun w => spD (K w.params) k5) tabs hn (by decide) hdf ⟨rfl, by decide, by decide⟩ hY hA2 F (fun w H a ns hl hT hS => si hl hT hS) fun _ _ _ _ _ z => z
end K47
open PySem PySem.W PyProof.Rows L2.DL in
set_option maxRecDepth 100000 in
set_option maxHeartbeats 0 in
theorem PySem.Challenge.cw_matefloors_k47_numbers_written_holds : PySem.Challenge.rw_matefloors_k47_numbers_written.Holds :=
  holds_law K47.H.ws fun said => holds_open (XP := XL K47.H.V []) (YP := K47.H.HK.says) (d := K47.H.D) (kwd := []) K47.H.left K47.H.HK.of K47.H.HK.keeps (fun s e => xl_of s (Bool.and_eq_true_iff.mp e).1) XL.keeps (by kernel_rfl) (by kernel_rfl) (by kernel_rfl)
    (fun s e => recFacts_of (Bool.and_eq_true_iff.mp e).2) (by kernel_rfl) said (by kernel_rfl) ⟨by kernel_rfl, by kernel_rfl, by kernel_rfl, by kernel_rfl, by kernel_rfl, by kernel_rfl⟩ ⟨[.list []], by kernel_rfl, by kernel_rfl⟩
    (K47.walk (l := PySem.Challenge.rw_matefloors_k47_numbers_written) (K := K47.H.K) K47.H.tabs (by kernel_rfl) (by kernel_rfl) (fun w h Y => by
      have Y : (K47.H.KF w.params).In h := Y
      refine ⟨q5 Y, fun p hp => ?_, fun p hp => ?_⟩
      · rcases List.mem_cons.mp hp with rfl | hp
        · exact ⟨Y _ _ (K47.H.rJ w.params).1, (K47.H.rJ w.params).2⟩
        exact nomatch hp
      · rcases List.mem_cons.mp hp with rfl | hp
        · obtain ⟨o, e1, e2⟩ := v7 (K47.H.vx w.params); exact sY (q5 Y) e1 e2
        exact nomatch hp) (fun w c o p q e e2 => by
      have h := vD (K47.H.yp w.params) e e2
      have h2 := List.mem_map_of_mem (f := fun x : Addr × Str => x.1) h
      exact h2) fun w mg fa h KX G hmg => by
      obtain ⟨h0, h1, h2, h3, h4, h5, h6, h7, h8, h9, h10, h11, h12, h13⟩ := K47.H.yg w.params
      obtain ⟨h14, h15, h16, h17, h18, h19, h20, h21, h22, h23, h24, h25, h26, h27⟩ := K47.H.xH w.params
      obtain ⟨h28, h29, h30, h31, h32, h33, h34, h35⟩ := K47.H.yy w.params
      exact K47.all_mk KX G hmg h0 h1 h2 h3 h4 h5 h6 h7 h8 h9 h10 h11 h12 h13 h14 h15 h16 h17 h18 h19 h20 h21 h22 h23 h24 h25 h26 h27 h28 h29 h30 h31 h32 h33 h34 h35)
