import PyProof.Rows.All
import KE.KFind
import KE.KLam
import KE.KTryMore
import KE.LcSums
import KE.KRevSl
import KE.KIntText
import Lean
import PySem.Challenge.RW_matefloors_k48_any_texts_read
set_option Elab.async false
set_option linter.all false
set_option maxRecDepth 100000
set_option maxHeartbeats 4000000
set_option genSizeOf false
set_option compiler.extract_closed false
set_option bootstrap.genMatcherCode false
local macro_rules | `(‹$q›) => `({ nx := fun _ y => $q (.v .none) y, rt := $q })
namespace L2
open PySem PySem.W
def kg : Sem Fin → Bool
  | .choose .. => false
  | .os .. => false
  | _ => true
theorem HB {den : Code → Sem Fin} {p : Program} {w : World} {os : OsState} {s s' : Shared} {t t' : Thread} (h : kg t.cur = true) (e : step den p ⟨fun _ _ => 0, w.params⟩ s t = .go s' t') :
    step den p w { s with os := os } t = .go { s' with os := os } t' := by
  obtain ⟨heap, gens, drawn, toks, os0⟩ := s
  obtain ⟨cur, code, pos, stack⟩ := t
  cases cur <;> simp only [step, finish, kg] at e h ⊢ <;> (try (cases h; done)) <;> (repeat' split at e) <;> simp_all <;> (try (obtain ⟨rfl, rfl⟩ := e; simp_all)) <;> (try (obtain ⟨h1, h2⟩ := e; subst h1; rfl))
def nN (tb : String → Option Builtin) (p : Program) (P : Params) (n₀ : Nat) (ann : Option Value) : Nat → Shared → Thread → Option Shared
  | 0, _, _ => none
  | n + 1, s, t => match through t with
    | true => some s
    | false => match stepOk n₀ ann t && kg t.cur with
      | false => none
      | true => match step (denote tb) p ⟨fun _ _ => 0, P⟩ s t with
        | .go s' t' => nN tb p P n₀ ann n s' t'
        | .halt _ _ => none
theorem sM {tb : String → Option Builtin} {p : Program} {w : World} {n₀ : Nat} {ann : Option Value} {os : OsState} : ∀ {n : Nat} {s s' : Shared} {t : Thread}, nN tb p w.params n₀ ann n s t = some s' → topRun tb p w n₀ ann n { s with os := os } t = some { s' with os := os }
  | 0, _, _, _, h => by cases h
  | n + 1, s, s', t, h => by
    unfold nN at h
    unfold topRun
    cases ht : through t with
    | true => rw [ht] at h; cases h; rfl
    | false =>
      rw [ht] at h
      cases hk : (stepOk n₀ ann t && kg t.cur) with
      | false => rw [hk] at h; cases h
      | true =>
        rw [hk] at h
        obtain ⟨k1, k2⟩ := Bool.and_eq_true_iff.mp hk
        cases hs : step (denote tb) p ⟨fun _ _ => 0, w.params⟩ s t with
        | halt o s₂ => rw [hs] at h; cases h
        | go s₂ t₂ =>
          rw [hs] at h
          rw [k1, HB (os := os) k2 hs]
          exact sM h
noncomputable def qP (p : Program) (P : Params) (n₀ : Nat) (ann : Option Value) : Nat → Shared → Thread → Option Shared
  | 0, _, _ => none
  | n + 1, s, t => match through t with
    | true => some s
    | false => match Fast.tw6613529449190102663 n₀ ann t && kg t.cur with
      | false => none
      | true => match Fast.tw8437177126325714943 (Fast.tw11892475500146522536 Fast.tw14364793385576792824) p ⟨fun _ _ => 0, P⟩ s t with
        | .go s' t' => qP p P n₀ ann n s' t'
        | .halt _ _ => none
theorem sD {p : Program} {P : Params} {n₀ : Nat} {ann : Option Value} : ∀ (n : Nat) (s : Shared) (t : Thread), qP p P n₀ ann n s t = nN treeTable p P n₀ ann n s t
  | 0, _, _ => rfl
  | n + 1, s, t => by
    unfold qP nN
    rw [← Fast.te6613529449190102663, ← Fast.te8437177126325714943, ← Fast.te11892475500146522536, ← Fast.te14364793385576792824]
    cases through t with
    | true => rfl
    | false =>
      cases (stepOk n₀ ann t && kg t.cur) with
      | false => rfl
      | true =>
        cases step (denote treeTable) p ⟨fun _ _ => 0, P⟩ s t with
        | halt o s₂ => rfl
        | go s₂ t₂ => exact sD n s₂ t₂
end L2
namespace L2
open PySem
def jF (s : Stmt) : Arguments := match s with
  | .FunctionDef _ a _ _ _ _ _ _ _ _ => a
  | _ => { posonlyargs := [], args := [], vararg := none, kwonlyargs := [], kw_defaults := [], kwarg := none, defaults := [] }
def d7 (s : Stmt) : List Stmt := match s with
  | .FunctionDef _ _ b _ _ _ _ _ _ _ => b
  | _ => []
def aw (s : Stmt) : Scope := match s with
  | .FunctionDef _ _ _ _ _ _ sc _ _ _ => sc
  | _ => { kind := .function, names := [], isGenerator := false, isCoroutine := false }
end L2
namespace L2.DL
open PySem
def DU : List Str := ["law", "_law_is_right", "_law_is_put", "_law_are_refused", "_law_is_told", "_law_said", "_law_is_plan_told"]
def bq (o : Obj) : Option (Addr × Str) := match o.cls, o.data with
  | .type c, .fields vs => if c = "code" then (match vs[1]?, vs[7]?, vs[9]?, vs[10]?, vs[11]?, vs[18]? with
    | some (Value.str q _), some (Value.int _ _), some (Value.bool _), some (Value.int _ _), some (Value.ref P), some (Value.str _ _) => if DU.contains q = true then some (P, q) else none
    | _, _, _, _, _, _ => none) else none
  | _, _ => none
abbrev bmV : List Value := [.type "ValueError", .type "Exception", .type "BaseException", .type "object"]
end L2.DL
namespace K48
open PySem L2
def top (i : Nat) : Stmt := PySem.Challenge.pw_matefloors_k48_any_texts_read.main.body.getD i (.Pass ⟨0, 0, 0, 0⟩)
abbrev bV : Stmt := top 16
abbrev bW : Stmt := top 17
abbrev km : Stmt := top 18
abbrev dZ : Stmt := top 22
abbrev dE : Stmt := top 23
abbrev bZ : Stmt := top 24
abbrev dy : Stmt := top 25
abbrev fb : Stmt := top 26
abbrev cj : Stmt := top 27
abbrev dr : Stmt := top 28
abbrev eo : Stmt := top 29
abbrev fV : Stmt := top 31
abbrev eY : Stmt := top 32
abbrev cz : Stmt := top 33
abbrev dA : Stmt := top 34
abbrev gp : Stmt := top 35
abbrev bX : Stmt := top 36
abbrev dm : Stmt := top 37
abbrev gz : Stmt := top 38
abbrev cT : Stmt := top 39
abbrev eh : Stmt := top 40
abbrev fj : Stmt := top 41
abbrev dW : Stmt := top 42
abbrev bY : Stmt := top 43
abbrev dR : Stmt := top 44
abbrev ff : Stmt := top 45
abbrev bU : Stmt := top 46
abbrev dw : Stmt := top 47
abbrev cQ : Stmt := top 48
abbrev mT : Stmt := top 49
abbrev fd (n : Str) (s : Stmt) (tk : Tok) (m : Str) (cd : Addr) : FuncData := PySem.W.fnOf n n (jF s) (d7 s) (aw s) .none .none .none (.str m tk) none (.ref cd) .none
noncomputable abbrev FQ (K : PySem.W.Frag) (n : Str) (s : Stmt) (a cd : Addr) (tk : Tok) (m : Str) : Prop := PySem.W.nsIn K mainGlobals n = some (some (.ref a)) ∧ K.lookup a = some ⟨.type "function", none, .func (fd n s tk m cd), #[]⟩ ∧ PySem.W.codeIn K (.ref cd) n = true ∧ PySem.W.keepIn K (.ref a) = true
end K48
namespace K48.H
open PySem PySem.W PyProof.Rows L2 L2.DL
set_option maxRecDepth 100000
set_option maxHeartbeats 0
abbrev R : OpenLaw := PySem.Challenge.rw_matefloors_k48_any_texts_read
abbrev LO : List Str := []
noncomputable def sT (P : Params) : Option Shared := qP R.row.prog P 11 (some (.ref 6)) 20000 { heap := boot_heap P, gens := #[], drawn := boot_drawn, toks := boot_toks, os := default } (topStub R.row.prog)
def defName : Stmt → Str
  | .FunctionDef n _ _ _ _ _ _ _ _ _ => n
  | _ => Str.empty
def BX : Stmt → Int
  | .FunctionDef _ _ _ _ _ _ _ _ _ p => Int.ofNat p.line
  | _ => 0
def cn (o : Obj) (r : List Obj) : List Obj := o :: r
def g (P : Params) (x : Str) (t : Nat) (v : Value) : DictEntry := ⟨PyData.keyHash P x, .str x t, v⟩
def gf (P : Params) (i t a : Nat) : DictEntry := g P (defName (top i)) t (.ref a)
def tb : List (Int × Nat) → List Value
  | [] => []
  | (a, b) :: l => .int a 0 :: .int 0 0 :: .ref b :: tb l
def tu (l : List Value) : Obj := ⟨.type "tuple", none, .seq l.toArray 0, #[]⟩
def nf : Obj := ⟨.none, none, .fields #[], #[]⟩
def dp (s : Stmt) : List Str := (jF s).args.map (·.arg)
def fd (s : Stmt) (a : Addr) (p c : Value) : Data := .func { name := defName s, qualname := defName s, params := jF s, body := .stmts (d7 s), scope := aw s, globals := a, closure := [], defaults := .none, kwdefaults := .none, pyModule := p, code := c }
def co (s : Stmt) (a t u : Nat) (x y : Value) (d : Nat) : Obj := ⟨.type "code", none, .fields #[.str (defName s) t, .str (defName s) (t + 1), .str "/claim/cut.py" (t + 2), .int (BX s) 0, .int (Int.ofNat (dp s).length) 0, .int 0 0, .int 0 0, .int 3 0, .ref a, .bool true, .int 181 0, .ref (a + 1), .none, x, y, .ref (a + d), .int (Int.ofNat u) 0, .int (BX s) 0, .str "/claim/cut.py" (u + 1)], #[]⟩
def nv : Nat → List Str → List Value
  | _, [] => []
  | t, x :: l => .str x t :: nv (t + 1) l
def fB (i a t : Nat) (l : List Str) (p : Value) (r : List Obj) : List Obj := tu [] :: nf :: tu (nv (t + 3) (dp (top i) ++ l)) :: tu [] :: ⟨.none, none, fd (top i) 0 .none .none, #[]⟩ :: co (top i) a t (t + 3 + (dp (top i) ++ l).length) (.ref (a + 2)) (.ref (a + 3)) 4 :: ⟨.type "function", none, fd (top i) 3 p (.ref (a + 5)), #[]⟩ :: r
def fL (i a t : Nat) (p : Value) (r : List Obj) : List Obj := tu [] :: nf :: ⟨.none, none, fd (top i) 0 .none .none, #[]⟩ :: co (top i) a t (t + 3) .none .none 2 :: ⟨.type "function", none, fd (top i) 3 p (.ref (a + 3)), #[]⟩ :: r
def fC (i a t : Nat) (l c : List Str) (p : Value) (r : List Obj) : List Obj := tu [] :: nf :: tu (nv (t + 3) (dp (top i) ++ l)) :: tu (nv (t + 3 + (dp (top i) ++ l).length) c) :: ⟨.none, none, fd (top i) 0 .none .none, #[]⟩ :: co (top i) a t (t + 3 + (dp (top i) ++ l).length + c.length) (.ref (a + 2)) (.ref (a + 3)) 4 :: ⟨.type "function", none, fd (top i) 3 p (.ref (a + 5)), #[]⟩ :: r
def me : Value := .str "matefloors.errors" 187
def cB (P : Params) (x : Str) (i t : Nat) (n : Int) (r : List Obj) : List Obj := tu [.ref 24] :: ⟨.type "builtin_function_or_method", none, .fields #[.builtin "type.__prepare__", .type "type"], #[]⟩ :: ⟨.type "dict", none, .dict #[g P "__module__" (t + 5) me, g P "__qualname__" (t + 7) (.str x (t + 6)), g P "__firstlineno__" (t + 9) (.int n (t + 8)), g P "__static_attributes__" (t + 10) (.ref (i + 7))] 4, #[]⟩ :: tu [] :: nf :: ⟨.type "code", none, .fields #[.str x t, .str x (t + 1), .str "/claim/cut.py" (t + 2), .int n 0, .int 0 0, .int 0 0, .int 0 0, .int 0 0, .ref (i + 3), .bool false, .int 181 0, .ref (i + 4), .none, .none, .none, .none, .int (Int.ofNat (t + 3)) 0, .int n 0, .str "/claim/cut.py" (t + 4)], #[]⟩ :: ⟨.type "frame", none, .plain, #[some (.ref (i + 5)), some (.ref 3), some (.ref (i + 2)), none, some me, none, some (.ref 0)]⟩ :: tu [] :: ⟨.type "dict", none, .dict #[g P "__module__" (t + 5) me, g P "__firstlineno__" (t + 9) (.int n (t + 8)), g P "__static_attributes__" (t + 10) (.ref (i + 7)), g P "__doc__" (t + 11) .none] 2, #[]⟩ :: ⟨.type "type", none, .cls ⟨x, [.ref 24], [.ref (i + 9), .ref 24, .type "ValueError", .type "Exception", .type "BaseException", .type "object"], i + 8, x, true, [], [], false, none, false⟩, #[some (.ref i), none, some (.str x (t - 2)), some (.str x (t + 6)), some (.builtin "ValueError.__new__"), some (.bool true)]⟩ :: ⟨.type "super", none, .fields #[.ref (i + 9), .ref (i + 9), .ref (i + 9)], #[]⟩ :: ⟨.type "builtin_function_or_method", none, .fields #[.builtin "object.__init_subclass__", .ref (i + 9)], #[]⟩ :: r
def m0 : Value := .str "matefloors.numbers" 415
def m1 : Value := .str "matefloors.texts" 444
def m2 : Value := .str "law_matefloors_k48_any_texts_read" 520
noncomputable def ho0 (P : Params) (r : List Obj) : List Obj := cn (boot_o_0 P) <| cn (boot_o_1 P) <| cn (boot_o_2 P) <| cn (⟨.type "dict", none, .dict #[g P "__name__" 165 (.str "law_matefloors_k48_any_texts_read" 520), g P "__doc__" 166 .none, g P "__package__" 167 .none, g P "__loader__" 168 (.builtin "__main__.__loader__#opaque"), g P "__spec__" 169 .none, g P "__annotations__" 170 (.ref 6), g P "__builtins__" 171 (.ref 4), g P "__file__" 173 (.str "/claim/cut.py" 172), g P "__cached__" 174 .none, g P "FloorError" 206 (.ref 24), g P "NoRoot" 222 (.ref 37), g P "NoNumber" 238 (.ref 49), g P "NoLaying" 254 (.ref 61), g P "NoTile" 270 (.ref 73), g P "NoFit" 286 (.ref 85), g P "NoKinds" 302 (.ref 97), g P "NoPlan" 318 (.ref 109), g P "NoSpot" 334 (.ref 121), g P "NoNet" 350 (.ref 133), g P "NoText" 366 (.ref 145), g P "NoSaying" 382 (.ref 157), g P "NoName" 398 (.ref 169), g P "TooMany" 414 (.ref 181), gf P 16 424 190, gf P 17 433 197, gf P 18 443 204, g P "MOST_FIGURES" 447 (.int 40 446), g P "FIGURES" 449 (.str "0123456789" 448), gf P 22 459 211, gf P 23 470 218, gf P 24 477 225, gf P 25 491 232, gf P 26 499 239, gf P 27 506 246, gf P 28 513 253, gf P 29 519 258, gf P 31 533 265, gf P 32 542 272, gf P 33 549 279, gf P 34 557 286, gf P 35 567 293, gf P 36 573 298, gf P 37 585 305, gf P 38 593 312, gf P 39 599 317, gf P 40 606 324, gf P 41 617 331, gf P 42 623 338, gf P 43 636 345, gf P 44 642 350, gf P 45 653 357, gf P 46 665 364, gf P 47 684 371, gf P 48 694 378, gf P 49 700 383] 55, #[]⟩) <| cn (boot_o_4 P) <| cn (boot_o_5 P) <| cn (boot_o_6 P) <| cn (boot_o_7 P) <| cn (boot_o_8 P) <| cn (boot_o_9 P) <| cn (boot_o_10 P) <| cn (⟨(.type "tuple"), none, (.seq #[] 0), #[]⟩) <| cn (⟨.none, none, .fields (tb [(2, 20), (4, 33), (6, 45), (8, 57), (10, 69), (12, 81), (14, 93), (16, 105), (18, 117), (20, 129), (22, 141), (24, 153), (26, 165), (28, 177), (31, 189), (35, 196), (37, 203), (47, 210), (57, 217), (67, 224), (73, 231), (87, 238), (94, 245), (100, 252), (102, 257), (107, 264), (117, 271), (124, 278), (126, 285), (131, 292), (134, 297), (138, 304), (144, 311), (147, 316), (157, 323), (163, 330), (173, 337), (175, 344), (184, 349), (189, 356), (201, 363), (212, 370), (224, 377), (230, 382)]).toArray, #[]⟩) <| cn (⟨(.type "code"), none, (.fields #[(.str "<module>" 182), (.str "<module>" 183), (.str "/claim/cut.py" 184), (.int 1 0), (.int 0 0), (.int 0 0), (.int 0 0), (.int 0 0), (.ref 11), (.bool false), (.int 181 0), (.ref 12), .none, .none, .none, .none, (.int 185 0), (.int 1 0), (.str "/claim/cut.py" 186)]), #[]⟩) <| cn (⟨(.type "frame"), none, .plain, #[some (.ref 13), some (.ref 3), some (.ref 3), none, some (.str "__main__" 164), none, some (.ref 0)]⟩) <| cn (⟨(.type "tuple"), none, (.seq #[(.type "ValueError")] 0), #[]⟩) <| cn (⟨(.type "builtin_function_or_method"), none, (.fields #[(.builtin "type.__prepare__"), (.type "type")]), #[]⟩) <| cn (⟨(.type "dict"), none, (.dict #[⟨PyData.keyHash P "__module__", (.str "__module__" 196), (.str "matefloors.errors" 187)⟩, ⟨PyData.keyHash P "__qualname__", (.str "__qualname__" 198), (.str "FloorError" 197)⟩, ⟨PyData.keyHash P "__firstlineno__", (.str "__firstlineno__" 200), (.int 2 199)⟩, ⟨PyData.keyHash P "__static_attributes__", (.str "__static_attributes__" 201), (.ref 22)⟩] 4), #[]⟩) <| cn (⟨(.type "tuple"), none, (.seq #[] 0), #[]⟩) <| cn (⟨.none, none, (.fields #[]), #[]⟩) <| r
noncomputable def ho1 (P : Params) (r : List Obj) : List Obj := cn (⟨(.type "code"), none, (.fields #[(.str "FloorError" 191), (.str "FloorError" 192), (.str "/claim/cut.py" 193), (.int 2 0), (.int 0 0), (.int 0 0), (.int 0 0), (.int 0 0), (.ref 18), (.bool false), (.int 181 0), (.ref 19), .none, .none, .none, .none, (.int 194 0), (.int 2 0), (.str "/claim/cut.py" 195)]), #[]⟩) <| cn (⟨(.type "frame"), none, .plain, #[some (.ref 20), some (.ref 3), some (.ref 17), none, some (.str "matefloors.errors" 187), none, some (.ref 0)]⟩) <| cn (⟨(.type "tuple"), none, (.seq #[] 0), #[]⟩) <| cn (⟨(.type "dict"), none, (.dict #[⟨PyData.keyHash P "__module__", (.str "__module__" 196), (.str "matefloors.errors" 187)⟩, ⟨PyData.keyHash P "__firstlineno__", (.str "__firstlineno__" 200), (.int 2 199)⟩, ⟨PyData.keyHash P "__static_attributes__", (.str "__static_attributes__" 201), (.ref 22)⟩, ⟨PyData.keyHash P "__weakref__", (.str "__weakref__" 203), (.ref 25)⟩, ⟨PyData.keyHash P "__doc__", (.str "__doc__" 204), .none⟩] 3), #[]⟩) <| cn (⟨(.type "type"), none, (.cls ⟨"FloorError", [(.type "ValueError")], [(.ref 24), (.type "ValueError"), (.type "Exception"), (.type "BaseException"), (.type "object")], 23, "FloorError", true, [], [(.ref 37), (.ref 49), (.ref 61), (.ref 73), (.ref 85), (.ref 97), (.ref 109), (.ref 121), (.ref 133), (.ref 145), (.ref 157), (.ref 169), (.ref 181)], false, none, false⟩), #[some (.ref 15), none, some (.str "FloorError" 189), some (.str "FloorError" 197), some (.builtin "ValueError.__new__"), some (.bool true)]⟩) <| cn (⟨(.type "getset_descriptor"), none, (.fields #[(.str "__weakref__" 202), (.ref 24), (.builtin "ExceptionGroup.__weakref__"), .none]), #[]⟩) <| cn (⟨(.type "super"), none, (.fields #[(.ref 24), (.ref 24), (.ref 24)]), #[]⟩) <| cn (⟨(.type "builtin_function_or_method"), none, (.fields #[(.builtin "object.__init_subclass__"), (.ref 24)]), #[]⟩) <| cB P "NoRoot" 28 209 4 <| cB P "NoNumber" 40 225 6 <| cB P "NoLaying" 52 241 8 <| cB P "NoTile" 64 257 10 <| cB P "NoFit" 76 273 12 <| cB P "NoKinds" 88 289 14 <| cB P "NoPlan" 100 305 16 <| cB P "NoSpot" 112 321 18 <| cB P "NoNet" 124 337 20 <| cB P "NoText" 136 353 22 <| cB P "NoSaying" 148 369 24 <| cB P "NoName" 160 385 26 <| r
noncomputable def ho2 (P : Params) (r : List Obj) : List Obj := cB P "TooMany" 172 401 28 <| fB 16 184 417 [] m0 <| fB 17 191 425 [] m0 <| fB 18 198 434 ["divisor"] m0 <| fB 22 205 450 ["block", "blocks", "rest"] m1 <| fB 23 212 460 ["a", "b", "c", "body"] m1 <| fB 24 219 471 [] m1 <| fB 25 226 478 ["body", "slash", "below", "c", "plain", "beside_root", "found"] m1 <| fB 26 233 492 ["at"] m1 <| fB 27 240 500 [] m1 <| fB 28 247 507 [] m1 <| fL 29 254 514 m1 <| fB 31 259 522 ["_law_cell", "_law_great", "_law_primes", "_law_mixed"] m2 <| fB 32 266 534 ["_law_digit"] m2 <| fB 33 273 543 [] m2 <| fB 34 280 550 [] m2 <| fB 35 287 558 ["_law_common"] m2 <| fL 36 294 568 m2 <| fB 37 299 574 ["_law_wide", "_law_a", "_law_b", "_law_c", "_law_way"] m2 <| fB 38 306 586 ["_law_some"] m2 <| r
noncomputable def ho3 (P : Params) (r : List Obj) : List Obj := fL 39 313 594 m2 <| fB 40 318 600 [] m2 <| fB 41 325 607 ["_law_a", "_law_b", "_law_c", "_law_text_here"] m2 <| fB 42 332 618 [] m2 <| fB 43 339 624 ["_law_at", "_law_sign", "_law_end", "_law_some"] m2 <| fL 44 346 637 m2 <| fB 45 351 643 ["_law_cut", "_law_at", "_law_ahead", "_law_roots_here"] m2 <| fB 46 358 654 ["_law_body", "_law_under", "_law_cut", "_law_a", "_law_b"] m2 <| fB 47 365 666 ["_law_a", "_law_b", "_law_c", "_law_top", "_law_under", "_law_roots_here", "_law_sign", "_law_many", "_law_wide", "_law_whole_here", "_law_some"] m2 <| fC 48 372 685 ["_law_due", "_law_told"] ["_law_text_here"] m2 <| fL 49 379 695 m2 <| r
noncomputable def hT (P : Params) : Heap := ⟨⟨ho0 P <| ho1 P <| ho2 P <| ho3 P []⟩, (boot_heap P).life⟩
abbrev mz0 : Str := "matefloors.numbers"
abbrev mz1 : Str := "matefloors.texts"
abbrev mz2 : Str := "law_matefloors_k48_any_texts_read"
def isNm : Stmt → Bool
  | .Assign [.Name x _] _ _ => x == "__name__"
  | _ => false
def V : Program := { R.row.prog with main := { R.row.prog.main with body := R.row.prog.main.body.filter fun s => !isNm s } }
def as : List Addr := [3, 190, 189, 197, 196, 204, 203, 211, 210, 218, 217, 225, 224, 232, 231, 239, 238, 246, 245, 253, 252, 258, 257, 265, 264, 272, 271, 279, 278, 286, 285, 293, 292, 298, 297, 305, 304, 312, 311, 317, 316, 324, 323, 331, 330, 338, 337, 345, 344, 350, 349, 357, 356, 364, 363, 371, 370, 378, 377, 383, 382, 24, 23, 37, 36, 49, 48, 61, 60, 73, 72, 85, 84, 97, 96, 109, 108, 121, 120, 133, 132, 145, 144, 157, 156, 169, 168, 181, 180, 4]
def tabs : List Addr := [373, 380]
noncomputable def K (P : Params) : Frag := as.map fun a => (a, ((hT P).get? a).getD default)
noncomputable def TF (P : Params) : Frag := tabs.map fun a => (a, ((hT P).get? a).getD default)
noncomputable def KF (P : Params) : Frag := K P ++ TF P
theorem kAs (P : Params) : as ++ tabs = (KF P).map (·.1) := by
  unfold KF K TF
  rw [List.map_append, List.map_map, List.map_map]
  exact congr (congrArg HAppend.hAppend (List.map_id _).symm) (List.map_id _).symm
noncomputable def HK : Hook := kHook KF (as ++ tabs) kAs
def posOf : Stmt → Pos
  | .FunctionDef _ _ _ _ _ _ _ _ _ p => p
  | _ => ⟨0, 0, 0, 0⟩
def D : DefRec := ⟨"law", jF K48.mT, d7 K48.mT, aw K48.mT, posOf K48.mT⟩
def Xt : Shared → Bool := fun s => xlAt V [] s && recOk R.row.records s
theorem runC (P : Params) : (sT P).map (fun s => (s.heap, s.gens, s.drawn, s.toks)) = some (hT P, #[], {}, 701) := by kernel_rfl
theorem Lh {A B C D : Type} {a a' : A} {b b' : B} {c c' : C} {d d' : D} (h : (a, b, c, d) = (a', b', c', d')) : a = a' ∧ b = b' ∧ c = c' ∧ d = d' := by
  cases h; exact ⟨rfl, rfl, rfl, rfl⟩
theorem run (w : World) (os : OsState) : topRun treeTable R.row.prog w 11 (some (.ref 6)) 20000 { heap := boot_heap w.params, gens := #[], drawn := boot_drawn, toks := boot_toks, os := os } (topStub R.row.prog) = some { heap := hT w.params, gens := #[], drawn := {}, toks := 701, os := os } := by
  have h := runC w.params
  cases e : sT w.params with
  | none => rw [e] at h; cases h
  | some s =>
    rw [e] at h
    obtain ⟨heap, gens, drawn, toks, os0⟩ := s
    have h' : some (heap, gens, drawn, toks) = some (hT w.params, (#[] : Array GenState), ({} : Drawn), 701) := h
    obtain ⟨rfl, rfl, rfl, rfl⟩ := Lh (Option.some.inj h')
    exact sM (w := w) (os := os) ((sD _ _ _).symm.trans e)
theorem Kw (w : World) (os : OsState) : (staticsOk (importedModules R.row.prog.main.body) (boot_heap w.params) (hT w.params) && namesBound R.row.prog (hT w.params) && gensDone { heap := hT w.params, gens := #[], drawn := {}, toks := 701, os := os } && laidKept (boot_heap w.params) (hT w.params)) = true := by kernel_rfl
theorem Jn (w : World) (os : OsState) : seen (List.map (fun x => x.name) (recsOf V)) (ownsOf V) [] { heap := hT w.params, drawn := {}, toks := 701, os := os } = expectedOf V := by kernel_rfl
theorem IU (w : World) (os : OsState) : (hT w.params).bltView = bltViewBooted := by kernel_rfl
theorem IE (w : World) (os : OsState) : ((hT w.params).keysOk (looseW V LO) (List.map (fun x => x.name) (recsOf V)) (List.map (fun x => x.fst) (litsOf V)) (List.map (fun x => x.name) (clssOf V (looseW V LO))) && (hT w.params).accountedOkI (importedModules R.row.prog.main.body) && (hT w.params).isNs mainGlobals && (hT w.params).isNs builtinsNs && tablesOk V (hT w.params) && Xt { heap := hT w.params, gens := #[], drawn := {}, toks := 701, os := os } && (if true = true then (#[] : Array GenState).size == 0 else !leftWithCleanup (#[] : Array GenState))) = true := by kernel_rfl
theorem JK (w : World) (os : OsState) : tabsOk V { heap := hT w.params, gens := #[], drawn := {}, toks := 701, os := os } = true := by kernel_rfl
theorem HN (w : World) (os : OsState) : pinSeenD V (drecsOf V) { heap := hT w.params, gens := #[], drawn := {}, toks := 701, os := os } = pinGoodD (drecsOf V) := by kernel_rfl
theorem HU (w : World) (os : OsState) : plainSeenE V (looseW V LO) { heap := hT w.params, gens := #[], drawn := {}, toks := 701, os := os } = plainGoodE V (looseW V LO) := by kernel_rfl
theorem Ie (w : World) (os : OsState) : plainSeenD V LO { heap := hT w.params, gens := #[], drawn := {}, toks := 701, os := os } = plainGoodD V LO := by kernel_rfl
theorem IV (w : World) (os : OsState) : wideSeen V { heap := hT w.params, gens := #[], drawn := {}, toks := 701, os := os } = wideGood V := by kernel_rfl
theorem HG (w : World) (os : OsState) : clsSeenW V LO { heap := hT w.params, gens := #[], drawn := {}, toks := 701, os := os } = clsGoodW V LO := by kernel_rfl
theorem Kb {A B C D E F G H I : Type} {a a' : A} {b b' : B} {c c' : C} {d d' : D} {e e' : E} {f f' : F} {g g' : G} {h h' : H} {i i' : I} (h0 : a = a') (h1 : b = b') (h2 : c = c') (h3 : d = d') (h4 : e = e') (h5 : f = f') (h6 : g = g') (h7 : h = h') (h8 : i = i') : (a, b, c, d, e, f, g, h, i) = (a', b', c', d', e', f', g', h', i') := by
  rw [h0, h1, h2, h3, h4, h5, h6, h7, h8]
theorem KA (w : World) (os : OsState) : openSeen V LO (importedModules R.row.prog.main.body) Xt true { heap := hT w.params, gens := #[], drawn := {}, toks := 701, os := os } = openGood V LO := Kb (Jn w os) (IU w os) (IE w os) (JK w os) (HN w os) (HU w os) (Ie w os) (IV w os) (HG w os)
theorem KJ (w : World) (os : OsState) : HK.obs { heap := hT w.params, gens := #[], drawn := {}, toks := 701, os := os } = HK.val w := by kernel_rfl
theorem seen (w : World) : (fun os => (staticsOk (importedModules R.row.prog.main.body) (boot_heap w.params) (hT w.params) && namesBound R.row.prog (hT w.params) && gensDone { heap := hT w.params, gens := #[], drawn := {}, toks := 701, os := os } && laidKept (boot_heap w.params) (hT w.params),
    openSeen V LO (importedModules R.row.prog.main.body) Xt true { heap := hT w.params, gens := #[], drawn := {}, toks := 701, os := os }, HK.obs { heap := hT w.params, gens := #[], drawn := {}, toks := 701, os := os })) = fun _ : OsState => (true, openGood V LO, HK.val w) :=
  funext fun os => Prod.ext (Kw w os) (Prod.ext (KA w os) (KJ w os))
theorem lkb {a b : Bool} (x : a = true) (y : b = true) : (a && b) = true := by rw [x, y]; rfl
theorem wsA : (sreFenced R.row.prog.main && ((moduleNames R.row.prog.main.body).isEmpty || lookedIntoSs (moduleNames R.row.prog.main.body) R.row.prog.main.body)) = true := by kernel_rfl
theorem wsB : namesResolve R.row.prog = true := by kernel_rfl
theorem wsC : R.row.prog.boundNames.all (fun n => !worldNames.contains n) = true := by kernel_rfl
theorem wsD : noRoadLSs { strict := !(importedModules R.row.prog.main.body).all cThrough.contains, foot := none, bare := (["vars", "dir", "locals"] : List Str).filter (readsOut R.row.prog R.row.prog.main.body) } R.row.prog.main.body = true := by kernel_rfl
theorem wsE : (namesMeet R.row.prog R.row.prog.main.body fun _ n => attrL n) = true := by kernel_rfl
theorem wsF : looksOpen R.row.prog = true := lkb (lkb (lkb (lkb wsA wsB) wsC) wsD) wsE
theorem wsG : R.row.wellSaid = true := by
  unfold OpenRow.wellSaid OpenRow.partSaid
  rw [wsF]
  kernel_rfl
theorem wsH : noClassBlock R.prog R.footing = true := by kernel_rfl
theorem wsI : noRoadLSs { strict := true, foot := some R.bound', writes := R.writes, may := R.may } R.footing = true := by kernel_rfl
theorem wsJ : R.namesIt = true := by kernel_rfl
theorem wsK : R.bound'.all (fun n => !builtinNamed n || R.about == [n] || !R.reads n) = true := by kernel_rfl
theorem wsL : namesMeet R.prog R.footing (fun sc n => (!(["type", "isinstance", "issubclass", "getattr", "hasattr"] : List Str).contains n || sc.names.lookup n == some .globalImplicit) && (R.may != some n || sc.kind == .module || sc.names.lookup n == some .globalImplicit)) = true := by kernel_rfl
theorem wsM : namesMeet R.prog R.above (fun _ n => !R.own.contains n) = true := by kernel_rfl
theorem wsN : (namesMeet R.prog R.footing fun sc n => sc.kind == .module || sc.names.lookup n != some .globalExplicit) = true := by kernel_rfl
theorem ws : R.wellSaid = true := by
  unfold OpenLaw.wellSaid
  rw [wsG, wsH, wsI, wsJ, wsK, wsL, wsM, wsN]
  kernel_rfl
theorem Jb (P : Params) : FQ (K P) "common_divisor" bV 190 189 415 mz0 ∧ FQ (K P) "divisor_of_all" bW 197 196 415 mz0 ∧ FQ (K P) "number" km 204 203 415 mz0 ∧ FQ (K P) "show_whole" dZ 211 210 444 mz1 ∧ FQ (K P) "show_number" dE 218 217 444 mz1 ∧ FQ (K P) "show_root_part" bZ 225 224 444 mz1 ∧ FQ (K P) "read_number" dy 232 231 444 mz1 ∧ FQ (K P) "split_sum" fb 239 238 444 mz1 ∧ FQ (K P) "read_root_part" cj 246 245 444 mz1 ∧ FQ (K P) "read_signed" dr 253 252 444 mz1 ∧ FQ (K P) "read_whole" eo 258 257 444 mz1 ∧ FQ (K P) "_law_bag" fV 265 264 520 mz2 ∧ FQ (K P) "_law_take" eY 272 271 520 mz2 ∧ FQ (K P) "_law_is_whole" cz 279 278 520 mz2 :=
  by (repeat' apply And.intro) <;> first | kernel_rfl | decide
theorem Jp (P : Params) : FQ (K P) "_law_shared" dA 286 285 520 mz2 ∧ FQ (K P) "_law_low" gp 293 292 520 mz2 ∧ FQ (K P) "_law_is_number" bX 298 297 520 mz2 ∧ FQ (K P) "_law_number" dm 305 304 520 mz2 ∧ FQ (K P) "_law_odd" gz 312 311 520 mz2 ∧ FQ (K P) "_law_refusal" cT 317 316 520 mz2 ∧ FQ (K P) "_law_roots" eh 324 323 520 mz2 ∧ FQ (K P) "_law_text" fj 331 330 520 mz2 ∧ FQ (K P) "_law_signs" dW 338 337 520 mz2 ∧ FQ (K P) "_law_bent_text" bY 345 344 520 mz2 ∧ FQ (K P) "_law_whole" dR 350 349 520 mz2 ∧ FQ (K P) "_law_tops" ff 357 356 520 mz2 ∧ FQ (K P) "_law_number_in" bU 364 363 520 mz2 ∧ FQ (K P) "_law_nearly" dw 371 370 520 mz2 :=
  by (repeat' apply And.intro) <;> first | kernel_rfl | decide
theorem Hr (P : Params) : FQ (K P) "_law_is_told" cQ 378 377 520 mz2 ∧ FQ (K P) "law" mT 383 382 520 mz2 ∧ nsIn (K P) mainGlobals "abs" = some none ∧ nsIn (K P) mainGlobals "str" = some none ∧ nsIn (K P) mainGlobals "isinstance" = some none ∧ nsIn (K P) mainGlobals "max" = some none ∧ nsIn (K P) mainGlobals "int" = some none ∧ nsIn (K P) mainGlobals "len" = some none ∧ nsIn (K P) mainGlobals "all" = some none ∧ nsIn (K P) mainGlobals "bool" = some none ∧ nsIn (K P) mainGlobals "tuple" = some none ∧ nsIn (K P) mainGlobals "ValueError" = some none ∧ nsIn (K P) mainGlobals "min" = some none ∧ nsIn (K P) mainGlobals "list" = some none :=
  by (repeat' apply And.intro) <;> first | kernel_rfl | decide
theorem IK (P : Params) : nsIn (K P) mainGlobals "range" = some none ∧ nsIn (K P) mainGlobals "MOST_FIGURES" = some (some (.int 40 446)) ∧ nsIn (K P) mainGlobals "FIGURES" = some (some (.str "0123456789" 448)) ∧ nsIn (K P) mainGlobals "FloorError" = some (some (.ref 24)) ∧ nsIn (K P) mainGlobals "NoRoot" = some (some (.ref 37)) ∧ nsIn (K P) mainGlobals "NoNumber" = some (some (.ref 49)) ∧ nsIn (K P) mainGlobals "NoLaying" = some (some (.ref 61)) ∧ nsIn (K P) mainGlobals "NoTile" = some (some (.ref 73)) ∧ nsIn (K P) mainGlobals "NoFit" = some (some (.ref 85)) ∧ nsIn (K P) mainGlobals "NoKinds" = some (some (.ref 97)) ∧ nsIn (K P) mainGlobals "NoPlan" = some (some (.ref 109)) ∧ nsIn (K P) mainGlobals "NoSpot" = some (some (.ref 121)) ∧ nsIn (K P) mainGlobals "NoNet" = some (some (.ref 133)) ∧ nsIn (K P) mainGlobals "NoText" = some (some (.ref 145)) :=
  by (repeat' apply And.intro) <;> first | kernel_rfl | decide
theorem IG (P : Params) : nsIn (K P) mainGlobals "NoSaying" = some (some (.ref 157)) ∧ nsIn (K P) mainGlobals "NoName" = some (some (.ref 169)) ∧ nsIn (K P) mainGlobals "TooMany" = some (some (.ref 181)) ∧ excIn (K P) (145) bmV "ValueError.__new__" = true ∧ exmOne (K P) (.ref 145) (.ref 24) = some true ∧ findIn (K P) (.ref 145) "__getattribute__" = some (some (.builtin "BaseException.__getattribute__")) ∧ findIn (K P) (.ref 145) "__getattr__" = some none ∧ findIn (K P) (.ref 145) "__class__" = some (some (.builtin "object.__class__")) ∧ mroIn (K P) 145 (.type "object") = some true ∧ mroIn (K P) 145 (.type "BaseException") = some true ∧ (clsIn (K P) 145).isSome = true ∧ kitOne (K P) (.ref 145) (.ref 37) = some false ∧ kitOne (K P) (.ref 145) (.ref 49) = some false ∧ kitOne (K P) (.ref 145) (.ref 61) = some false :=
  by (repeat' apply And.intro) <;> first | kernel_rfl | decide
theorem IY (P : Params) : kitOne (K P) (.ref 145) (.ref 73) = some false ∧ kitOne (K P) (.ref 145) (.ref 85) = some false ∧ kitOne (K P) (.ref 145) (.ref 97) = some false ∧ kitOne (K P) (.ref 145) (.ref 109) = some false ∧ kitOne (K P) (.ref 145) (.ref 121) = some false ∧ kitOne (K P) (.ref 145) (.ref 133) = some false ∧ kitOne (K P) (.ref 145) (.ref 145) = some true ∧ kitOne (K P) (.ref 145) (.ref 157) = some false ∧ kitOne (K P) (.ref 145) (.ref 169) = some false ∧ kitOne (K P) (.ref 145) (.ref 181) = some false ∧ kitOne (K P) (.ref 145) (.type "ValueError") = some true ∧ (nsIn (K P) mainGlobals "__builtins__" = some (some (.ref 4)) ∧ (4 : Addr) ≠ builtinsNs ∧ (K P).lookup 4 = some ⟨.type "module", some builtinsNs, .plain, #[]⟩) :=
  by (repeat' apply And.intro) <;> first | kernel_rfl | decide
theorem zy (P : Params) : ((K P).filterMap fun p => bq p.2) = [(373, ("_law_is_told" : Str)), (380, ("law" : Str))] ∧ ((K P).lookup 377).bind bq = some (373, ("_law_is_told" : Str)) ∧ ((K P).lookup 382).bind bq = some (380, ("law" : Str)) ∧ (KF P).lookup 373 = some (tabObj #[]) ∧ (KF P).lookup 380 = some (tabObj #[]) ∧ (K P).lookup 373 = none ∧ (K P).lookup 380 = none := ⟨by kernel_rfl, by kernel_rfl, by kernel_rfl, by kernel_rfl, by kernel_rfl, by kernel_rfl, by kernel_rfl⟩
theorem zV (P : Params) : ((K P).filterMap fun p => bq p.2) = [(373, ("_law_is_told" : Str)), (380, ("law" : Str))] := (zy P).1
theorem jw (P : Params) : ((K P).lookup 377).bind bq = some (373, ("_law_is_told" : Str)) := (zy P).2.1
theorem oh {q2 : Str} (h : ((373 : Addr), q2) ∈ ([(373, ("_law_is_told" : Str)), (380, ("law" : Str))] : List (Addr × Str))) : q2 = "_law_is_told" := by simpa using h
theorem xY (P : Params) : ((K P).lookup 382).bind bq = some (380, ("law" : Str)) := (zy P).2.2.1
theorem Ds {q2 : Str} (h : ((380 : Addr), q2) ∈ ([(373, ("_law_is_told" : Str)), (380, ("law" : Str))] : List (Addr × Str))) : q2 = "law" := by simpa using h
theorem j5 (P : Params) : (KF P).lookup 373 = some (tabObj #[]) ∧ (K P).lookup 373 = none := ⟨(zy P).2.2.2.1, (zy P).2.2.2.2.2.1⟩
theorem Bg (P : Params) : (KF P).lookup 380 = some (tabObj #[]) ∧ (K P).lookup 380 = none := ⟨(zy P).2.2.2.2.1, (zy P).2.2.2.2.2.2⟩
theorem left : LeftO R.row.prog V LO Xt HK.obs HK.val 20000 :=
  LeftO.of_pieces (H₀ := boot_heap) (H₁ := hT) (gs₀ := #[]) (gs₁ := #[]) (d₀ := boot_drawn) (d₁ := {}) (k₀ := boot_toks) (k₁ := 701) (m₀ := 11) (ann := some (.ref 6)) (M := 20000)
    (boot_open (by kernel_rfl) (by kernel_rfl) (fun s => by kernel_rfl)) (fun w => by kernel_rfl) run (by kernel_rfl) seen
end K48.H
set_option Elab.async false
set_option linter.all false
set_option maxRecDepth 100000
namespace L2
open PySem PySem.Spec PyProof.Rows
noncomputable def gJ (A : Around) (h : Heap) : Prop := A.handled = none ∨ ∃ (e : Addr) (oe : Obj) (vs : Array Value), A.handled = some (.ref e) ∧ h.get? e = some oe ∧ oe.data = .fields vs ∧ vs[2]? = some .none
theorem uH : entryFor table "proto.unchain" = some Builtin.«proto.unchain» := entryFor_of_tree (by kernel_rfl)
section
variable {prog : Program} {w : World} {A : Around} {E : Value → Shared → Prop} {s : Shared}
theorem xf {x e : Addr} {oe : Obj} {vs : Array Value} {Q : Value → Shared → Prop} (he : s.heap.get? e = some oe) (hd : oe.data = .fields vs) (h2 : vs[2]? = some .none) (h : Q .none s) :
    wpAny (model prog w) A (runValue (.builtin "proto.unchain" ⟨[.ref x, .ref e, .ref e, .bool false], []⟩)) Q E s := by
  refine wpAny_runValue (codeAny_builtin uH ?_)
  unfold Builtin.«proto.unchain»
  dsimp only
  refine wpAny_bind (wpAny_field he hd h2 ?_)
  rw [if_pos (by rfl)]
  exact wpAny_pure h
theorem tM {α : Type} {a : Addr} {oa : Obj} {ws : Array Value} {Q : α → Shared → Prop} (q : gJ A s.heap) (ha : s.heap.get? a = some oa) (hda : oa.data = .fields ws) (hz : 2 < ws.size)
    (hnew : ∀ e oe, A.handled = some (.ref e) → s.heap.get? e = some oe → e ≠ a)
    (h : ∀ h', Heap.ExtBut a s.heap h' → (∃ o', h'.get? a = some o' ∧ o'.cls = oa.cls) → E (.ref a) { s with heap := h' }) : wpAny (model prog w) A (raiseNew (.ref a) : Sem α) Q E s := by
  unfold raiseNew
  refine wpAny_bind (wpAny_handled ?_)
  rcases q with q | ⟨e, oe, vs, q, he, hd, h2⟩
  · rw [q]
    exact wpAny_bind (wpAny_pure (wpAny_throw (h s.heap (fun b o _ z => z) ⟨oa, ha, rfl⟩)))
  · rw [q]
    have ne : e ≠ a := hnew e oe q he
    dsimp only
    rw [if_pos (by simp [ne])]
    refine wpAny_bind (wpAny_holding (xf he hd h2 ?_))
    refine wpAny_bind ?_
    refine wpAny_setField ha hda hz (wpAny_throw ?_)
    have hd' := Obj.data_mapFields hda (·.setIfInBounds 2 (Value.ref e))
    exact h _ (Heap.SameBut.update ..).extBut ⟨_, Heap.get?_update_self _ ha (Obj.isFreed_of_fields hd'), Obj.cls_mapFields ..⟩
theorem tU {it : Addr} {α : Type} {h0 : Heap} {Q : α → Shared → Prop} (q : gJ A s.heap) (k : Heap.ExtBut it h0 s.heap) (kl : ∀ e oe, A.handled = some (.ref e) → s.heap.get? e = some oe → True)
    (h : ∀ h' a, Heap.ExtBut it h0 h' → (∃ o', h'.get? a = some o' ∧ o'.cls = .type "StopIteration") → E (.ref a) { s with heap := h' }) : wpAny (model prog w) A (newExc (.type "StopIteration") [] >>= fun e => (raiseNew e : Sem α)) Q E s := by
  refine wpAny_bind ?_; simp only [newExc, newTuple]
  refine wpAny_bind (wpAny_newObj_type ?_ (by size_fits)); refine wpAny_bind (m := firstArgMember _ _) (wpAny_of_eq (a := Value.none) (by first | rfl | (simp only [firstArgMember]; rfl)) ?_); refine wpAny_newObj_type ?_ (by size_fits)
  have q' : ∀ o1 o2 : Obj, gJ A ((s.heap.push o1).push o2) := fun o1 o2 => by
    rcases q with q | ⟨e, oe, vs, q, he, r⟩
    · exact .inl q
    · exact .inr ⟨e, oe, vs, q, Heap.get?_push_of_some _ (Heap.get?_push_of_some _ he), r⟩
  refine tM (q' _ _) (Heap.get?_push_size _ rfl) rfl (by rw [Array.size_append]; exact Nat.lt_of_lt_of_le (by decide : 2 < 6) (Nat.le_add_right _ _)) (fun e oe hq he z => ?_) fun h' hx ⟨o', ho', hc'⟩ => h h' _ (fun b o hb e => hx b o ?_ (Heap.get?_push_of_some _ (Heap.get?_push_of_some _ (k b o hb e)))) ⟨o', ho', hc'⟩
  · rcases q with q | ⟨e1, oe1, vs, q, he1, r⟩
    · rw [q] at hq; cases hq
    · rw [q] at hq; cases hq
      exact absurd (Heap.lt_size he1) (by rw [z]; simp)
  · exact Nat.ne_of_lt (Nat.lt_of_lt_of_le (Heap.lt_size (k b o hb e)) (by simp))
theorem oX {it : Addr} {o : Obj} {ws : Array Value} {f : Array Value → Array Value} (q : gJ A s.heap) (ho : s.heap.get? it = some o) (hd : o.data = .fields ws) (hn : ∀ e, A.handled = some (.ref e) → e ≠ it) : gJ A (s.heap.update it (Obj.mapFields f)) := by
  rcases q with q | ⟨e, oe, vs, q, he, r⟩
  · exact .inl q
  · exact .inr ⟨e, oe, vs, q, by rw [Heap.get?_update_other _ _ (Ne.symm (hn e q))]; exact he, r⟩
theorem uG {it l : Addr} {i : Nat} {items} {Q : Option Value → Shared → Prop} (q : gJ A s.heap) (hn : ∀ e, A.handled = some (.ref e) → e ≠ it) (hit : s.heap.IsListIter it l i) (hl : s.heap.IsList l items) (hx : items[i]? = none)
    (hQ : ∀ h', Heap.ExtBut it s.heap h' → Q none { s with heap := h' }) : wpAny (model prog w) A (pyNext (.ref it)) Q E s := by
  obtain ⟨o, ho, hc, hd⟩ := id hit
  obtain ⟨ol, hol, _, nl, hdl⟩ := hl; unfold pyNext
  refine wpAny_bind (wpAny_attempt (wpAny_callSpecial?_slot (name := Str.ofString "__next__") hit.typeIs slot_listiter_next (wpAny_call_entry slot_listiter_next hit.typeIs entry_listiter_next ?_ (args_listiter_next _))))
  show wpAny _ _ (field (.ref it) 0 >>= _) _ _ s; refine wpAny_bind (wpAny_field ho hd (x := .ref l) rfl ?_)
  show wpAny _ _ (if (Value.ref l == Value.none) = true then _ else _) _ _ s; rw [if_neg (show ¬ ((Value.ref l == Value.none) = true) from Bool.false_ne_true)]
  show wpAny _ _ (field (.ref it) 1 >>= _) _ _ s; refine wpAny_bind (wpAny_field ho hd (x := .int i 0) rfl ?_)
  show wpAny _ _ (seqItems? (.ref l) >>= _) _ _ s; refine wpAny_bind (wpAny_seqItems hol hdl ?_); simp only [Int.toNat_natCast, hx]
  refine wpAny_bind (wpAny_rule (wpAny_bind (wpAny_setField ho hd (by simp) ?_)))
  refine tU (it := it) (h0 := s.heap) (A := A.in1) (oX (A := A.in1) q ho hd hn) (Heap.SameBut.update ..).extBut (fun _ _ _ _ => trivial) fun h' a hx' ⟨o', ho', hc'⟩ => ?_
  refine wpAny_bind (wpAny_isInstance (T := "StopIteration") (b := true) ⟨_, ho', hc'⟩ isSubtype_stop ?_); exact wpAny_pure (hQ _ hx')
theorem nZ {it t : Addr} {i : Nat} {items} {Q : Option Value → Shared → Prop} (q : gJ A s.heap) (hn : ∀ e, A.handled = some (.ref e) → e ≠ it) (hit : IsTupIter s.heap it t i) (ht : IsTup s.heap t items) (hx : items[i]? = none)
    (hQ : ∀ h', Heap.ExtBut it s.heap h' → Q none { s with heap := h' }) : wpAny (model prog w) A (pyNext (.ref it)) Q E s := by
  obtain ⟨o, ho, hc, hd⟩ := id hit
  obtain ⟨ol, hol, _, nl, hdl⟩ := ht; unfold pyNext
  refine wpAny_bind (wpAny_attempt (wpAny_callSpecial?_slot (name := Str.ofString "__next__") hit.typeIs slot_tupleiter_next (wpAny_call_entry slot_tupleiter_next hit.typeIs entry_tupleiter_next ?_ (args_tupleiter_next _))))
  show wpAny _ _ (field (.ref it) 0 >>= _) _ _ s; refine wpAny_bind (wpAny_field ho hd (x := .ref t) rfl ?_)
  show wpAny _ _ (if (Value.ref t == Value.none) = true then _ else _) _ _ s; rw [if_neg (show ¬ ((Value.ref t == Value.none) = true) from Bool.false_ne_true)]
  show wpAny _ _ (field (.ref it) 1 >>= _) _ _ s; refine wpAny_bind (wpAny_field ho hd (x := .int i 0) rfl ?_)
  show wpAny _ _ (seqItems? (.ref t) >>= _) _ _ s; refine wpAny_bind (wpAny_seqItems hol hdl ?_); simp only [Int.toNat_natCast, hx]
  refine wpAny_bind (wpAny_rule (wpAny_bind (wpAny_setField ho hd (by simp) ?_)))
  refine tU (it := it) (h0 := s.heap) (A := A.in1) (oX (A := A.in1) q ho hd hn) (Heap.SameBut.update ..).extBut (fun _ _ _ _ => trivial) fun h' a hx' ⟨o', ho', hc'⟩ => ?_
  refine wpAny_bind (wpAny_isInstance (T := "StopIteration") (b := true) ⟨_, ho', hc'⟩ isSubtype_stop ?_); exact wpAny_pure (hQ _ hx')
theorem uR {env : Env} {elts : List Expr} {x1} {pos : Pos} {t : Addr} {items : Array Value} {Q : Unit → Shared → Prop} (q : gJ A s.heap) (ht : IsTup s.heap t items) (hn : (assignEach elts env).length = items.size)
    (hstar : (assignEach elts env).findIdx? (·.1) = none) (h : ∀ h', Heap.ExtBut s.heap.objs.size s.heap h' → wpAny (model prog w) A (assignInOrder ((assignEach elts env).map (·.2)) items.toList) Q E { s with heap := h' }) :
    wpAny (model prog w) A (assign (.Tuple elts x1 pos) env (.ref t)) Q E s := by
  rw [assign_Tuple]
  refine wpAny_bind (wpAny_standAt ?_)
  unfold unpack; rw [hn, hstar]
  refine wpAny_bind (wpAny_holding ?_)
  have hlt : t ≠ s.heap.objs.size := by obtain ⟨o, ho, _⟩ := ht; exact Nat.ne_of_lt (Heap.lt_size ho)
  unfold unpackItems; refine wpAny_bind ?_
  unfold notIterableAtAll; refine wpAny_bind (wpAny_specialOf ht.typeIs slot_tuple_iter.lookup ?_); refine wpAny_pure ?_; simp only [Bool.false_eq_true, if_false]
  refine wpAny_bind (wpAny_holding (iter_tuple ht ?_))
  refine wpAny_bind (wpAny_holding (draw_tuple hlt items.size 0 _ _ ⟨_, Heap.get?_push_size _ rfl, rfl, rfl⟩ (ht.push _) (by omega) fun h₁ hit₁ hs₁ => ?_))
  rw [show List.take items.size (List.drop 0 items.toList) = items.toList from by rw [List.drop_zero]; exact List.take_of_length_le (by simp), if_neg (by simp)]
  have fr : ∀ e, A.handled = some (.ref e) → e ≠ s.heap.objs.size := fun e hq => by
    rcases q with q | ⟨e1, oe1, vs, q, he1, r⟩
    · rw [q] at hq; cases hq
    · rw [q] at hq; cases hq; exact Nat.ne_of_lt (Heap.lt_size he1)
  have q1 : gJ A h₁ := by
    rcases q with q | ⟨e, oe, vs, q, he, r⟩
    · exact .inl q
    · exact .inr ⟨e, oe, vs, q, hs₁.extBut e oe (fr e q) (Heap.get?_push_of_some _ he), r⟩
  refine wpAny_bind (wpAny_holding (nZ q1 fr hit₁ ((ht.push _).extBut hs₁.extBut hlt) (by simp) fun h₂ he₂ => ?_)); simp only [Option.isSome_none, Bool.false_eq_true, if_false]
  exact wpAny_pure (h h₂ fun b o hb e => he₂ b o hb (hs₁.extBut b o hb (Heap.get?_push_of_some _ e)))
end
end L2
set_option Elab.async false
set_option linter.all false
set_option maxRecDepth 100000
namespace L2
open PySem PySem.Spec PyProof.Rows
abbrev Key := Sum Int Str
def G8 : Key → Value → Bool
  | .inl k, v => Value.isInt k v
  | .inr x, v => Value.isStrOf x v
def Lj (w : World) : Key → Int
  | .inl k => hashInt k
  | .inr x => hashStr w x
theorem cG : ∀ {k : Key} {v : Value}, G8 k v = true → (∃ i t, k = Sum.inl i ∧ v = Value.int i t) ∨ (∃ x t, k = Sum.inr x ∧ v = Value.str x t)
  | .inl i, v, h => by
    obtain ⟨t, e⟩ := Value.isInt_shape (k := i) (v := v) h
    exact .inl ⟨i, t, rfl, e⟩
  | .inr x, v, h => by
    obtain ⟨t, e⟩ := Value.isStrOf_shape (x := x) (v := v) h
    exact .inr ⟨x, t, rfl, e⟩
theorem HP (a b : Int) : decide ((Sum.inl a : Key) = Sum.inl b) = (a == b) := by
  by_cases e : a = b
  · subst e; simp
  · have h : ¬ (Sum.inl a : Key) = Sum.inl b := fun q => e (Sum.inl.inj q)
    rw [decide_eq_false h]
    exact (beq_eq_false_iff_ne.mpr e).symm
theorem JI (a b : Str) : decide ((Sum.inr a : Key) = Sum.inr b) = decide (a = b) := by
  by_cases e : a = b
  · subst e; simp
  · have h : ¬ (Sum.inr a : Key) = Sum.inr b := fun q => e (Sum.inr.inj q)
    rw [decide_eq_false h, decide_eq_false e]
theorem IP (a : Int) (b : Str) : decide ((Sum.inl a : Key) = Sum.inr b) = false := decide_eq_false (fun q => nomatch q)
theorem JH (a : Str) (b : Int) : decide ((Sum.inr a : Key) = Sum.inl b) = false := decide_eq_false (fun q => nomatch q)
def wM (prog : Program) (w : World) : PySem.KeyKind prog w Key where
  is := G8
  hash := Lj w
  inj := fun v a b ha hb => by
    rcases cG ha with ⟨i, t, rfl, rfl⟩ | ⟨x, t, rfl, rfl⟩
    · rcases cG hb with ⟨j, u, rfl, e⟩ | ⟨y, u, rfl, e⟩
      · injection e with e1 _; rw [e1]
      · exact nomatch e
    · rcases cG hb with ⟨j, u, rfl, e⟩ | ⟨y, u, rfl, e⟩
      · exact nomatch e
      · injection e with e1 _; rw [e1]
  byValue := fun k v h => by
    rcases cG h with ⟨i, t, rfl, rfl⟩ | ⟨x, t, rfl, rfl⟩ <;> rfl
  pyHash := fun hv h => by
    rcases cG hv with ⟨i, t, rfl, rfl⟩ | ⟨x, t, rfl, rfl⟩
    · exact wpAny_pyHash_int h
    · exact wpAny_pyHash_str h
  eqBool := fun hu hv h => by
    rcases cG hu with ⟨i, t, rfl, rfl⟩ | ⟨x, t, rfl, rfl⟩
    · rcases cG hv with ⟨j, u, rfl, rfl⟩ | ⟨y, u, rfl, rfl⟩
      · rw [HP] at h; exact wpAny_eqBool_int h
      · rw [IP] at h; exact SeqAt.EqAt.int_str i t y u _ _ _ _ h
    · rcases cG hv with ⟨j, u, rfl, rfl⟩ | ⟨y, u, rfl, rfl⟩
      · rw [JH] at h; exact SeqAt.EqAt.str_int x t j u _ _ _ _ h
      · rw [JI] at h; exact wpAny_eqBool_str h
  «strs» := fun k x t v h => by
    rcases cG h with ⟨i, u, rfl, e⟩ | ⟨y, u, rfl, e⟩
    · exact nomatch e
    · injection e with e1 _
      subst e1
      cases v <;> rfl
end L2
namespace L2
open PySem PySem.Spec PyProof.Rows
inductive V where
  | non | bl (b : Bool) | int (i : Int) | str (x : Str) | byt (b : Array UInt8) | flt (b : UInt64) | ref (a : Addr) | ty (n : String)
  deriving DecidableEq
def RelV : V → Value → Prop
  | .non, u => u = Value.none
  | .bl b, u => u = Value.bool b
  | .int i, u => ∃ t, u = Value.int i t
  | .str x, u => ∃ t, u = Value.str x t
  | .byt b, u => ∃ t, u = Value.bytes b t
  | .flt b, u => ∃ t, u = Value.float b t
  | .ref a, u => u = Value.ref a
  | .ty n, u => u = Value.type n
abbrev Vals : List V → List Value → Prop := Paired RelV
theorem Vals.length {xs : List V} {us : List Value} (r : Vals xs us) : xs.length = us.length := Paired.length r
theorem Vals.get : ∀ {xs : List V} {us : List Value} {i : Nat} {x : V}, Vals xs us → xs[i]? = some x → ∃ u, us[i]? = some u ∧ RelV x u
  | _, _, _, _, .nil, e => by simp at e
  | _, _, 0, _, .cons r _, e => by simp at e; subst e; exact ⟨_, rfl, r⟩
  | _, _, i + 1, x, .cons _ t, e => by
    obtain ⟨u, h1, h2⟩ := Vals.get (i := i) (x := x) t (by simpa using e)
    exact ⟨u, by simpa using h1, h2⟩
theorem Vals.set {x : V} {u : Value} (r : RelV x u) : ∀ {xs : List V} {us : List Value} (i : Nat), Vals xs us → Vals (xs.set i x) (us.set i u)
  | _, _, _, .nil => .nil
  | _, _, 0, .cons _ t => .cons r t
  | _, _, i + 1, .cons q t => .cons q (Vals.set r i t)
theorem Vals.append : ∀ {xs ys : List V} {us ws : List Value}, Vals xs us → Vals ys ws → Vals (xs ++ ys) (us ++ ws)
  | _, _, _, _, .nil, s => s
  | _, _, _, _, .cons r t, s => .cons r (Vals.append t s)
def KN : Option V → Option Value → Prop
  | some v, some u => RelV v u
  | none, none => True
  | _, _ => False
def KV {κ : Type} : List (κ × V) → List (κ × Value) → Prop := Paired fun (p : κ × V) (q : κ × Value) => p.1 = q.1 ∧ RelV p.2 q.2
def kV : Key → V
  | .inl i => .int i
  | .inr x => .str x
inductive HO where
  /-- a list -/
  | lst (xs : List V)
  /-- a tuple (never changes) -/
  | tup (xs : List V)
  /-- a dict whose keys are ints and texts; one whose keys are tuples of ints and texts (the empty one is both) -/
  | dK (kvs : List (Key × V)) | dT (kvs : List (List Key × V))
  /-- a set of ints: its members, its size -/
  | set (S : Int → Bool) (n : Nat)
  /-- an instance of the class at C, its dict at dx, its attributes -/
  | ins (C dx : Addr) (fs : List (Str × V))
  /-- the dict of the instance at x -/
  | own (x : Addr)
  /-- the dict of an exception -/
  | xd (fs : List (Str × V))
  /-- a bound method, f of x -/
  | met (f x : Addr)
  /-- a range object lo, lo + 1, .. below hi -/
  | rng (lo hi : Int)
  /-- a thing that is known to the object (the script; a dict while a loop walks it): read, never written while it is so -/
  | frz (o : Obj) (u : HO)
  /-- a code object's table -/
  | tbl (ps : Array Value)
  /-- any other thing, by what is true of its one object (a def of one's own: SetO a S n := HO.ext fun h => ..) -/
  | ext (φ : Heap → Prop)
abbrev Hp := Addr → Option HO
def upd (H : Hp) (a : Addr) (o : HO) : Hp := fun b => if b = a then some o else H b
theorem dj {H : Hp} {a : Addr} {o : HO} : upd H a o a = some o := by unfold upd; rw [if_pos rfl]
theorem bj {H : Hp} {a b : Addr} {o : HO} (h : b ≠ a) : upd H a o b = H b := by unfold upd; rw [if_neg h]
theorem aO {H : Hp} {a b : Addr} {o : HO} (h : H a = some o) (h' : H b = none) : a ≠ b := by
  intro e; subst e; rw [h] at h'; cases h'
section
variable (P : Program) (w : World)
def jq (H : Hp) (h : Heap) (a : Addr) : HO → Prop
  | .lst xs => xs.length ≤ sizeLine ∧ ∃ (its : List Value) (n : Nat), Vals xs its ∧ h.get? a = some { cls := .type "list", data := .seq its.toArray n }
  | .tup xs => xs.length ≤ sizeLine ∧ ∃ its : List Value, Vals xs its ∧ IsTup h a its.toArray
  | .dK kvs => kvs.length ≤ sizeLine ∧ (a == sysModules) = false ∧ ∃ vs, KV kvs vs ∧ h.DictOf (wM P w) a vs
  | .dT kvs => kvs.length ≤ sizeLine ∧ (a == sysModules) = false ∧ ∃ xs : List (List Key × Addr × Value),
      Paired (fun (p : List Key × V) (q : List Key × Addr × Value) => p.1 = q.1 ∧ H q.2.1 = some (.tup (p.1.map kV)) ∧ RelV p.2 q.2.2) kvs xs ∧
      ∃ o es ep, h.get? a = some o ∧ o.ExactDict ∧ o.data = .dict es ep ∧ es.toList = xs.map (entryOfKey (tupleKind (wM P w))) ∧ (xs.map (·.1)).Nodup
  | .set S n => h.SetOf (intKind P w) a S n
  | .ins C dx fs => H dx = some (.own a) ∧ fs.length ≤ 1000 ∧ dx ≠ a ∧ h.get? a = some (PySem.W.instObj C dx) ∧
      ∃ mA, h.Ns1 dx mA ∧ (∀ f, KN (fs.lookup f) (mA f)) ∧ PySem.Within mA (fs.map (·.1))
  | .own _ => ∃ o, h.get? a = some o
  | .xd fs => ∃ mA, h.Ns1 a mA ∧ ∀ f, KN (fs.lookup f) (mA f)
  | .rng lo hi => ∃ t u v, h.get? a = some { cls := .type "range", data := .fields #[.int lo t, .int hi u, .int 1 v] }
  | .frz o u => h.get? a = some o ∧ jq H h a u
  | .tbl ps => h.get? a = some { cls := .none, data := .fields ps }
  | .met f x => h.get? a = some (PySem.W.methodObj (.ref f) (.ref x))
  | .ext φ => φ h ∧ (∃ o, h.get? a = some o) ∧ ∀ h1 h2 : Heap, φ h1 → (∀ o, h1.get? a = some o → h2.get? a = some o) → φ h2
noncomputable def HOk (H : Hp) (h : Heap) : Prop := ∀ a o, H a = some o → jq P w H h a o
end
section
variable {P : Program} {w : World} {H H' : Hp} {h h' : Heap} {a : Addr} {o : HO}
theorem jq.lt (x : jq P w H h a o) : a < h.objs.size := by
  cases o with
  | lst xs => obtain ⟨_, _, _, _, e⟩ := x; exact Heap.lt_size e
  | tup xs => obtain ⟨_, _, _, p⟩ := x; exact p.lt
  | dK kvs => obtain ⟨_, _, _, _, o, _, _, e, _⟩ := x; exact Heap.lt_size e
  | dT kvs => obtain ⟨_, _, _, _, o, _, _, e, _⟩ := x; exact Heap.lt_size e
  | set S n => obtain ⟨o, _, _, _, e, _⟩ := x; exact Heap.lt_size e
  | ins C dx fs => obtain ⟨_, _, _, e, _⟩ := x; exact Heap.lt_size e
  | own y => obtain ⟨_, e⟩ := x; exact Heap.lt_size e
  | xd fs => obtain ⟨_, ⟨_, _, _, e, _⟩, _⟩ := x; exact Heap.lt_size e
  | rng lo hi => obtain ⟨_, _, _, e⟩ := x; exact Heap.lt_size e
  | frz ob u => obtain ⟨e, _⟩ := x; exact Heap.lt_size e
  | tbl ps => exact Heap.lt_size (show h.get? a = some _ from x)
  | met f y => exact Heap.lt_size (show h.get? a = some _ from x)
  | ext φ => obtain ⟨_, ⟨_, e⟩, _⟩ := x; exact Heap.lt_size e
theorem Paired.Kr {α β : Type} {F G : α → β → Prop} : ∀ {l₁ : List α} {l₂ : List β}, Paired F l₁ l₂ → (∀ a b, F a b → G a b) → Paired G l₁ l₂
  | _, _, .nil, _ => .nil
  | _, _, .cons r t, f => .cons (f _ _ r) (Paired.Kr t f)
theorem jq.tQ (x : jq P w H h a o) (k : ∀ b u, (b = a ∨ H b = some (.own a)) → h.get? b = some u → h'.get? b = some u)
    (ho : ∀ b, H b = some (.own a) → H' b = some (.own a)) (ht : ∀ b xs, H b = some (.tup xs) → H' b = some (.tup xs)) : jq P w H' h' a o := by
  induction o with
  | lst xs => obtain ⟨z, its, n, r, e⟩ := x; exact ⟨z, its, n, r, k _ _ (.inl rfl) e⟩
  | tup xs => obtain ⟨z, its, r, ob, e, c⟩ := x; exact ⟨z, its, r, ob, k _ _ (.inl rfl) e, c⟩
  | dK kvs => obtain ⟨z, y, vs, r, ob, es, ep, e, c⟩ := x; exact ⟨z, y, vs, r, ob, es, ep, k _ _ (.inl rfl) e, c⟩
  | dT kvs =>
    obtain ⟨z, y, xs, r, ob, es, ep, e, c⟩ := x
    exact ⟨z, y, xs, Paired.Kr r fun p q z => ⟨z.1, ht _ _ z.2.1, z.2.2⟩, ob, es, ep, k _ _ (.inl rfl) e, c⟩
  | set S n => obtain ⟨ob, es, ep, t, e, c⟩ := x; exact ⟨ob, es, ep, t, k _ _ (.inl rfl) e, c⟩
  | ins C dx fs =>
    obtain ⟨d, z, ne, e, mA, ⟨od, es, ep, e2, c⟩, r⟩ := x
    exact ⟨ho _ d, z, ne, k _ _ (.inl rfl) e, mA, ⟨od, es, ep, k _ _ (.inr d) e2, c⟩, r⟩
  | own y => obtain ⟨ob, e⟩ := x; exact ⟨ob, k _ _ (.inl rfl) e⟩
  | xd fs => obtain ⟨mA, ⟨od, es, ep, e, c⟩, r⟩ := x; exact ⟨mA, ⟨od, es, ep, k _ _ (.inl rfl) e, c⟩, r⟩
  | rng lo hi => obtain ⟨t, u, v, e⟩ := x; exact ⟨t, u, v, k _ _ (.inl rfl) e⟩
  | frz ob u ih => obtain ⟨e, q⟩ := x; exact ⟨k _ _ (.inl rfl) e, ih q⟩
  | tbl ps =>
    have e : h.get? a = some { cls := .none, data := .fields ps } := x
    show h'.get? a = some { cls := .none, data := .fields ps }
    exact k a _ (.inl rfl) e
  | met f y =>
    have e : h.get? a = some (PySem.W.methodObj (.ref f) (.ref y)) := x
    show h'.get? a = some (PySem.W.methodObj (.ref f) (.ref y))
    exact k a _ (.inl rfl) e
  | ext φ => obtain ⟨p, ⟨o, e⟩, st⟩ := x; exact ⟨st _ _ p fun o q => k _ _ (.inl rfl) q, ⟨o, k _ _ (.inl rfl) e⟩, st⟩
theorem HOk.lt (x : HOk P w H h) (e : H a = some o) : a < h.objs.size := (x a o e).lt
theorem HOk.fresh (x : HOk P w H h) (e : h.objs.size ≤ a) : H a = none := by
  cases q : H a with
  | none => rfl
  | some u => exact absurd (Nat.lt_of_lt_of_le (x.lt q) e) (Nat.lt_irrefl _)
theorem HOk.kept (x : HOk P w H h) (k : ∀ b u, h.get? b = some u → h'.get? b = some u) : HOk P w H h' := fun a o e =>
  (x a o e).tQ (fun b u _ q => k b u q) (fun _ q => q) fun _ _ q => q
theorem HOk.laid (x : HOk P w H h) (k : ∀ b u, h.get? b = some u → h'.get? b = some u) (hp : h.objs.size ≤ a) (new : jq P w (upd H a o) h' a o) : HOk P w (upd H a o) h' := fun b u e => by
  have hn := x.fresh hp
  by_cases hb : b = a
  · subst hb; rw [dj] at e; cases e; exact new
  · rw [bj hb] at e
    exact (x b u e).tQ (fun c v _ q => k c v q) (fun c q => by rw [bj (aO q hn)]; exact q) fun c xs q => by rw [bj (aO q hn)]; exact q
end
noncomputable def Rd (H : Hp) (a : Addr) (u : HO) : Prop := H a = some u ∨ ∃ o, H a = some (.frz o u)
theorem Rd.ok {P : Program} {w : World} {H : Hp} {h : Heap} {a : Addr} {u : HO} (r : Rd H a u) (x : HOk P w H h) : jq P w H h a u := by
  rcases r with r | ⟨o, r⟩
  · exact x a u r
  · obtain ⟨_, q⟩ := x a _ r
    exact q
def Mut : Option HO → Prop
  | some (.lst _) => True
  | some (.dK _) => True
  | some (.dT _) => True
  | some (.set _ _) => True
  | some (.ins _ _ _) => True
  | some (.ext _) => True
  | _ => False
section
variable {P : Program} {w : World} {H : Hp} {h h' : Heap} {x e : Addr} {o' : HO}
theorem HOk.write (ok : HOk P w H h) (mu : Mut (H x)) (he : e = x ∨ H e = some (.own x)) (k : ∀ b u, b ≠ e → h.get? b = some u → h'.get? b = some u) (heo : ∃ u, h'.get? e = some u)
    (new : jq P w (upd H x o') h' x o') : HOk P w (upd H x o') h' := fun b u q => by
  have nown : ∀ c y, H c = some (.own y) → c ≠ x := fun c y r z => by subst z; rw [r] at mu; exact mu
  have ntup : ∀ c xs, H c = some (.tup xs) → c ≠ x := fun c xs r z => by subst z; rw [r] at mu; exact mu
  by_cases hb : b = x
  · subst hb; rw [dj] at q; cases q; exact new
  · rw [bj hb] at q
    by_cases hbe : b = e
    · have q' : H b = some (.own x) := by
        rcases he with z | z
        · exact absurd (hbe.trans z) hb
        · rw [hbe]; exact z
      rw [q] at q'; cases q'
      obtain ⟨v, hv⟩ := heo
      exact ⟨v, by rw [hbe]; exact hv⟩
    · refine (ok b u q).tQ (fun c v hc r => k c v ?_ r) (fun c r => by rw [bj (nown c b r)]; exact r) fun c xs r => by rw [bj (ntup c xs r)]; exact r
      rcases hc with rfl | hc
      · exact hbe
      · rintro rfl
        rcases he with z | z
        · exact nown c b hc z
        · rw [hc] at z; cases z; exact hb rfl
end
structure Un (fs ex : List Addr) (H H' : Hp) (h h' : Heap) : Prop where
  keep : ∀ b o, h.get? b = some o → H b = none → b ∉ fs → b ∉ ex → h'.get? b = some o
  slot : ∀ b o, h.get? b = some o → H b = none → b ∈ fs → b ∉ ex → ∃ sl, h'.get? b = some { o with slots := sl }
  free : ∀ b o, h.get? b = some o → H b = none → b ∉ ex → H' b = none
  there : ∀ b o, h.get? b = some o → b ∉ ex → ∃ o', h'.get? b = some o'
  nu : ∀ b xs, H b = some (.tup xs) → H' b = some (.tup xs)
  mO : ∀ b o u, H b = some (.frz o u) → H' b = some (.frz o u)
  mK : ∀ b ps, H b = some (.tbl ps) → ∃ more, H' b = some (.tbl (ps ++ more))
section
variable {fs fs' ex ex' : List Addr} {H H1 H2 : Hp} {h h1 h2 h' : Heap} {a x e : Addr} {o : HO}
theorem Un.any (u : Un fs ex H H1 h h1) {b : Addr} {ob : Obj} (q : h.get? b = some ob) (n : H b = none) (hx : b ∉ ex) : ∃ sl, h1.get? b = some { ob with slots := sl } := by
  by_cases hb : b ∈ fs
  · exact u.slot b ob q n hb hx
  · exact ⟨ob.slots, u.keep b ob q n hb hx⟩
theorem Un.trans (a : Un fs ex H H1 h h1) (b : Un fs ex H1 H2 h1 h2) : Un fs ex H H2 h h2 where
  keep := fun c ob q n hc hx => b.keep c ob (a.keep c ob q n hc hx) (a.free c ob q n hx) hc hx
  slot := fun c ob q n hc hx => by
    obtain ⟨sl, e1⟩ := a.slot c ob q n hc hx
    obtain ⟨sl', e2⟩ := b.slot c _ e1 (a.free c ob q n hx) hc hx
    exact ⟨sl', e2⟩
  free := fun c ob q n hx => by
    obtain ⟨o', e1⟩ := a.there c ob q hx
    exact b.free c o' e1 (a.free c ob q n hx) hx
  there := fun c ob q hx => by
    obtain ⟨o', e1⟩ := a.there c ob q hx
    exact b.there c o' e1 hx
  nu := fun c xs q => b.nu c xs (a.nu c xs q)
  mO := fun c ob xs q => b.mO c ob xs (a.mO c ob xs q)
  mK := fun c ps q => by
    obtain ⟨m1, e1⟩ := a.mK c ps q
    obtain ⟨m2, e2⟩ := b.mK c _ e1
    exact ⟨m1 ++ m2, by rw [e2, Array.append_assoc]⟩
theorem Un.kept (k : ∀ b u, h.get? b = some u → h'.get? b = some u) : Un fs ex H H h h' :=
  ⟨fun b ob q _ _ _ => k b ob q, fun b ob q _ _ _ => ⟨ob.slots, k b ob q⟩, fun _ _ _ n _ => n, fun b ob q _ => ⟨ob, k b ob q⟩, fun _ _ q => q, fun _ _ _ q => q, fun _ ps q => ⟨#[], by rw [q]; simp⟩⟩
theorem Un.refl : Un fs ex H H h h := Un.kept fun _ _ q => q
theorem Un.laid (k : ∀ b u, h.get? b = some u → h'.get? b = some u) (hp : h.objs.size ≤ a) (hn : H a = none) : Un fs ex H (upd H a o) h h' where
  keep := fun b u q _ _ _ => k b u q
  slot := fun b u q _ _ _ => ⟨u.slots, k b u q⟩
  free := fun b u q n _ => by rw [bj (Nat.ne_of_lt (Nat.lt_of_lt_of_le (Heap.lt_size q) hp))]; exact n
  there := fun b u q _ => ⟨u, k b u q⟩
  nu := fun b xs q => by rw [bj (aO q hn)]; exact q
  mO := fun b u xs q => by rw [bj (aO q hn)]; exact q
  mK := fun b ps q => ⟨#[], by rw [bj (aO q hn), q]; simp⟩
theorem Un.write (mu : Mut (H x)) (he : e = x ∨ H e = some (.own x)) (k : ∀ b u, b ≠ e → h.get? b = some u → h'.get? b = some u) (heo : ∃ u, h'.get? e = some u) : Un fs ex H (upd H x o) h h' := by
  have hx : ∀ b, H b = none → b ≠ x := fun b n z => by subst z; rw [n] at mu; exact mu
  have hb : ∀ b, H b = none → b ≠ e := fun b n z => by
    subst z
    rcases he with r | r
    · exact hx b n r
    · rw [n] at r; cases r
  have hm : ∀ b u, H b = some u → ¬ Mut (some u) → b ≠ x := fun b u q nm z => by subst z; rw [q] at mu; exact nm mu
  refine ⟨fun b u q n _ _ => k b u (hb b n) q, fun b u q n _ _ => ⟨u.slots, k b u (hb b n) q⟩, fun b u q n _ => by rw [bj (hx b n)]; exact n, fun b u q _ => ?_,
    fun b xs q => by rw [bj (hm b _ q fun z => z)]; exact q, fun b u xs q => by rw [bj (hm b _ q fun z => z)]; exact q, fun b ps q => ⟨#[], by rw [bj (hm b _ q fun z => z), q]; simp⟩⟩
  by_cases hbe : b = e
  · subst hbe; exact heo
  · exact ⟨u, k b u hbe q⟩
end
def trk (h : Heap) (H : Hp) : List Addr := (List.range h.objs.size).filter fun a => (H a).isSome
def vM (h : Heap) (H : Hp) : Heap := PySem.W.hideAll h (trk h H)
theorem Cc (h : Heap) (H : Hp) : (vM h H).objs.size = h.objs.size := PySem.W.hideAll_size _ _
theorem EK {h : Heap} {H : Hp} {b : Addr} {o : Obj} (e : h.get? b = some o) (n : H b = none) : (vM h H).get? b = some o :=
  PySem.W.hideAll_get _ e fun hm => by
    have q : (H b).isSome = true := (List.mem_filter.mp hm).2
    rw [n] at q; simp at q
theorem FR {h : Heap} {H : Hp} {b : Addr} {o : Obj} (e : (vM h H).get? b = some o) : h.get? b = some o ∧ H b = none := by
  have e' : h.get? b = some o := PySem.W.of_hideAll (trk h H) e
  refine ⟨e', ?_⟩
  cases q : H b with
  | none => rfl
  | some x =>
    have hm : b ∈ trk h H := List.mem_filter.mpr ⟨List.mem_range.mpr (Heap.lt_size e'), by simp [q]⟩
    have z : (vM h H).get? b = none := PySem.W.hideAll_none (trk h H) hm
    rw [z] at e; cases e
def FK (g h : Heap) (L : Addr) : List (Addr × Obj) := (List.range h.objs.size).filterMap fun a => if a = L ∨ (g.get? a).isSome = true then none else (h.get? a).map fun o => (a, o)
def rest (g h : Heap) (L d : Addr) : List (Addr × Obj) := (FK g h L).filter fun p => decide (p.1 ≠ d)
end L2
namespace L2
open PySem PySem.Spec PyProof.Rows
structure Mod (K : PySem.W.Frag) (mg : Str → Option Value) (base : Heap) : Prop where
  kin : K.In base
  glob : base.Ns mainGlobals mg
  blt : ∃ mb, base.Ns builtinsNs mb ∧ ∀ x : Str, x ≠ "__name__" → mb x = bootBuiltins x
  nolimit : base.NoLimit
structure Cx where
  prog : Program
  w : World
  K : PySem.W.Frag
  mg : Str → Option Value
  base : Heap
  A : Around
  N : List Str
  s₀ : Shared
  H₀ : Hp
  env : Env
  outer : List Env
  stack : List Env
  ex : List Addr
  fn : Str → Bool
  calm : Bool
  pn : List (Addr × Obj)
  xe : Value → Shared → Prop
def frs (l : List Env) : List Addr := l.filterMap (·.frame)
abbrev Cx.fs (X : Cx) : List Addr := frs X.outer
noncomputable def Vis (sc : Scope) (x : Str) : Prop := sc.names.lookup x = some .local ∨ sc.names.lookup x = some .cell ∨ sc.names.lookup x = some .free
noncomputable def Loc (sc : Scope) (x : Str) : Prop := sc.names.lookup x = some .local ∨ sc.names.lookup x = some .cell
noncomputable def Look (env : Env) (h : Heap) (m : Str → Option Value) (x : Str) (u : Value) : Prop :=
  (env.kindOf x = some .local ∧ m x = some u) ∨ ((env.kindOf x = some .cell ∨ env.kindOf x = some .free) ∧ ∃ c, env.cells.lookup x = some c ∧ h.IsCell c (some u))
structure Cx.Ok (X : Cx) : Prop where
  mod : Mod X.K X.mg X.base
  kind : X.env.scope.kind = .function
  glob : X.env.globals = mainGlobals
  blt : X.env.builtins = builtinsNs
  above : X.s₀.heap.objs.size ≤ X.env.locals
  inj : ∀ x y c, X.env.cells.lookup x = some c → X.env.cells.lookup y = some c → x = y
  has : ∀ x, (X.env.kindOf x = some .cell ∨ X.env.kindOf x = some .free) → ∃ c, X.env.cells.lookup x = some c
  cab : ∀ x c, X.fn x = true → X.env.cells.lookup x = some c → X.s₀.heap.objs.size ≤ c
  hd : X.calm = true → X.A.handled = none
  qt : X.A.handled = none ∨ ∃ (e : Addr) (oe : Obj) (vs : Array Value), X.A.handled = some (.ref e) ∧ (e, oe) ∈ X.pn ∧ oe.data = .fields vs ∧ vs[2]? = some .none
  frames : X.A.frames = some X.stack
  stk : X.stack = X.outer ∨ (X.stack = X.env :: X.outer ∧ X.env.frame = some X.env.locals)
  exf : ∀ b ∈ X.ex, b ≠ X.env.locals ∧ ∀ x c, X.env.cells.lookup x = some c → c ≠ b
  bs : ∀ b o, X.base.get? b = some o → X.s₀.heap.get? b = some o ∧ X.H₀ b = none
  bsz : X.base.objs.size ≤ X.s₀.heap.objs.size
  Ag : ∀ b o, X.base.get? b = some o → b ∉ X.ex
  C7 : ∀ b ∈ X.ex, b ∉ X.fs
  nk : X.s₀.heap.FunFrames X.base X.outer
  frf : ∀ b ∈ X.fs, X.H₀ b = none
structure Inv (X : Cx) (pins : List (Addr × Obj)) (σ : List (Option V)) (H : Hp) (s : Shared) : Prop where
  ok : X.Ok
  os : s.os = X.s₀.os
  bare : AllBare s.gens
  base : Un X.fs X.ex X.H₀ H X.s₀.heap s.heap
  loc : ∃ m, s.heap.Ns X.env.locals m ∧ ∀ (i : Nat) (x : Str) (v : V), X.N[i]? = some x → σ[i]? = some (some v) → Vis X.env.scope x → ∃ u, RelV v u ∧ Look X.env s.heap m x u
  cell : ∀ x c, X.env.cells.lookup x = some c → ∃ v, s.heap.IsCell c v
  free : H X.env.locals = none
  ik : ∀ x c, X.env.cells.lookup x = some c → H c = none
  pin : ∀ p ∈ X.pn ++ pins, s.heap.get? p.1 = some p.2 ∧ H p.1 = none ∧ p.1 ≠ X.env.locals ∧ p.1 ∉ X.fs ∧ ∀ v, p.2.data ≠ .cell v
  hok : HOk X.prog X.w H s.heap
  len : σ.length = X.N.length
section
variable {X : Cx} {pins : List (Addr × Obj)} {σ : List (Option V)} {H H' : Hp} {s : Shared} {h' : Heap}
theorem Inv.AO (I : Inv X pins σ H s) : gJ X.A s.heap := by
  rcases I.ok.qt with q | ⟨e, oe, vs, q, hp, r⟩
  · exact .inl q
  · exact .inr ⟨e, oe, vs, q, (I.pin (e, oe) (List.mem_append_left _ hp)).1, r⟩
theorem Inv.hne (I : Inv X pins σ H s) {b : Addr} (hb : ∀ p ∈ X.pn ++ pins, p.1 ≠ b) : ∀ e, X.A.handled = some (.ref e) → e ≠ b := fun e he => by
  rcases I.ok.qt with q | ⟨e1, oe, vs, q, hp, r⟩
  · rw [q] at he; cases he
  · rw [q] at he; cases he; exact hb (e, oe) (List.mem_append_left _ hp)
theorem Cx.Ok.K9 (ok : X.Ok) {b : Addr} {o : Obj} (e : X.base.get? b = some o) : b ∉ X.fs := fun hb => by
  have := (ok.nk.mem hb).1
  rw [e] at this; cases this
theorem Inv.bs (I : Inv X pins σ H s) : ∀ b o, X.base.get? b = some o → s.heap.get? b = some o ∧ H b = none := fun b o e =>
  ⟨I.base.keep b o (I.ok.bs b o e).1 (I.ok.bs b o e).2 (I.ok.K9 e) (I.ok.Ag b o e), I.base.free b o (I.ok.bs b o e).1 (I.ok.bs b o e).2 (I.ok.Ag b o e)⟩
theorem Inv.bk (I : Inv X pins σ H s) : ∀ b o, X.base.get? b = some o → s.heap.get? b = some o := fun b o e => (I.bs b o e).1
theorem Inv.mod (I : Inv X pins σ H s) : Mod X.K X.mg X.base := I.ok.mod
theorem Inv.kIn (I : Inv X pins σ H s) : X.K.In s.heap := I.ok.mod.kin.keeps I.bk
theorem Inv.lt (I : Inv X pins σ H s) : X.env.locals < s.heap.objs.size := let ⟨_, hn, _⟩ := I.loc; hn.lt
theorem Inv.sz (I : Inv X pins σ H s) : X.s₀.heap.objs.size ≤ s.heap.objs.size := Nat.le_trans I.ok.above (Nat.le_of_lt I.lt)
theorem Inv.Lb (I : Inv X pins σ H s) {a : Addr} (h : s.heap.objs.size ≤ a) : a ∉ X.fs := fun hb => by
  obtain ⟨_, o, ho, _⟩ := I.ok.nk.mem hb
  exact absurd (Nat.lt_of_lt_of_le (Heap.lt_size ho) (Nat.le_trans I.sz h)) (Nat.lt_irrefl _)
theorem Inv.cne (I : Inv X pins σ H s) : ∀ x c, X.env.cells.lookup x = some c → c ≠ X.env.locals := fun x c e z => by
  obtain ⟨v, o, ho, hd⟩ := I.cell x c e
  obtain ⟨m, ⟨o', es, ep, ho', hd', _⟩, _⟩ := I.loc
  rw [z, ho'] at ho; cases ho; rw [hd'] at hd; cases hd
theorem Inv.nk (I : Inv X pins σ H s) : s.heap.FunFrames X.base X.outer := by
  have all : ∀ (l : List Env), (∀ b ∈ frs l, b ∈ X.fs) → X.s₀.heap.FunFrames X.base l → s.heap.FunFrames X.base l := by
    intro l
    induction l with
    | nil => intro _ _; trivial
    | cons env r ih =>
      intro hs hl
      obtain ⟨hk, ⟨L, o, hf, hn, ho, hd⟩, hr⟩ := hl
      have hL : L ∈ X.fs := hs L (by unfold frs; rw [List.filterMap_cons, hf]; exact List.mem_cons_self)
      obtain ⟨sl, e⟩ := I.base.slot L o ho (I.ok.frf L hL) hL fun z => I.ok.C7 L z hL
      exact ⟨hk, ⟨L, _, hf, hn, e, hd⟩, ih (fun b hb => hs b (by unfold frs; rw [List.filterMap_cons, hf]; exact List.mem_cons_of_mem _ hb)) hr⟩
  exact all X.outer (fun _ hb => hb) I.ok.nk
theorem Inv.stack (I : Inv X pins σ H s) : s.heap.FunFrames X.base X.stack := by
  rcases I.ok.stk with e | ⟨e, hf⟩
  · rw [e]; exact I.nk
  · rw [e]
    obtain ⟨m, hn, _⟩ := I.loc
    refine .cons (by rw [I.ok.kind]; decide) hf hn ?_ I.nk
    exact Heap.get?_none_of_le (Nat.le_trans I.ok.bsz I.ok.above)
theorem Inv.pK (I : Inv X pins σ H s) : ∀ b ∈ frs X.stack, b ∈ X.env.locals :: X.fs := fun b hb => by
  rcases I.ok.stk with e | ⟨e, hf⟩
  · rw [e] at hb; exact List.mem_cons_of_mem _ hb
  · rw [e] at hb
    unfold frs at hb
    rw [List.filterMap_cons, hf] at hb
    exact hb
theorem Inv.qV (I : Inv X pins σ H s) : ∀ b ∈ frs X.stack, H b = none := fun b hb => by
  rcases List.mem_cons.mp (I.pK b hb) with e | hb
  · rw [e]; exact I.free
  · obtain ⟨_, o, ho, _⟩ := I.ok.nk.mem hb
    exact I.base.free b o ho (I.ok.frf b hb) fun z => I.ok.C7 b z hb
theorem Inv.step {g' : Array GenState} {t' : Nat} {d' : Drawn} {ch : List Addr} (I : Inv X pins σ H s)
    (hch : ∀ b ∈ ch, (b ∈ X.ex ∨ X.s₀.heap.objs.size ≤ b) ∧ b ≠ X.env.locals ∧ (∀ x c, X.env.cells.lookup x = some c → c ≠ b) ∧ ∀ p ∈ X.pn ++ pins, p.1 ≠ b)
    (keep : ∀ b o, b ≠ X.env.locals → b ∉ X.fs → b ∉ ch → s.heap.get? b = some o → H b = none → h'.get? b = some o)
    (slot : ∀ b o, b ≠ X.env.locals → b ∈ X.fs → b ∉ ch → s.heap.get? b = some o → H b = none → ∃ sl, h'.get? b = some { o with slots := sl }) (free : ∀ b o, b ∉ ch → s.heap.get? b = some o → H b = none → H' b = none)
    (there : ∀ b o, b ∉ ch → s.heap.get? b = some o → ∃ o', h'.get? b = some o')
    (nu : ∀ b xs, H b = some (.tup xs) → H' b = some (.tup xs)) (mO : ∀ b o u, H b = some (.frz o u) → H' b = some (.frz o u)) (mK : ∀ b ps, H b = some (.tbl ps) → ∃ more, H' b = some (.tbl (ps ++ more)))
    (ns : ∀ m, s.heap.Ns X.env.locals m → h'.Ns X.env.locals m) (hok : HOk X.prog X.w H' h') (hg : AllBare g') :
    Inv X pins σ H' { s with heap := h', gens := g', drawn := d', toks := t' } := by
  have neL : ∀ b o, X.s₀.heap.get? b = some o → b ≠ X.env.locals := fun b o e => Nat.ne_of_lt (Nat.lt_of_lt_of_le (Heap.lt_size e) I.ok.above)
  have neC : ∀ b o, X.s₀.heap.get? b = some o → b ∉ X.ex → b ∉ ch := fun b o e hx hb => by
    rcases (hch b hb).1 with z | z
    · exact hx z
    · exact absurd (Nat.lt_of_lt_of_le (Heap.lt_size e) z) (Nat.lt_irrefl _)
  have cellK : ∀ x c, X.env.cells.lookup x = some c → ∀ v, s.heap.IsCell c v → h'.IsCell c v := fun x c e v ⟨o, ho, hd⟩ => by
    have nch : c ∉ ch := fun z => (hch c z).2.2.1 x c e rfl
    by_cases hc : c ∈ X.fs
    · obtain ⟨sl, q⟩ := slot c o (I.cne x c e) hc nch ho (I.ik x c e)
      exact ⟨_, q, hd⟩
    · exact ⟨o, keep c o (I.cne x c e) hc nch ho (I.ik x c e), hd⟩
  refine ⟨I.ok, I.os, hg, ⟨fun b o e n hb hx => ?_, fun b o e n hb hx => ?_, fun b o e n hx => ?_, fun b o e hx => ?_, fun b xs e => nu b xs (I.base.nu b xs e), fun b o xs e => mO b o xs (I.base.mO b o xs e), fun b ps e => ?_⟩, ?_, fun x c e => ?_, ?_, fun x c e => ?_, fun p hp => ?_, hok, I.len⟩
  · exact keep b o (neL b o e) hb (neC b o e hx) (I.base.keep b o e n hb hx) (I.base.free b o e n hx)
  · obtain ⟨sl, e1⟩ := I.base.slot b o e n hb hx
    obtain ⟨sl', e2⟩ := slot b _ (neL b o e) hb (neC b o e hx) e1 (I.base.free b o e n hx)
    exact ⟨sl', e2⟩
  · obtain ⟨o', e1⟩ := I.base.there b o e hx
    exact free b o' (neC b o e hx) e1 (I.base.free b o e n hx)
  · obtain ⟨o', e1⟩ := I.base.there b o e hx
    exact there b o' (neC b o e hx) e1
  · obtain ⟨m1, e1⟩ := I.base.mK b ps e
    obtain ⟨m2, e2⟩ := mK b _ e1
    exact ⟨m1 ++ m2, by rw [e2, Array.append_assoc]⟩
  · obtain ⟨m, hn, hl⟩ := I.loc
    refine ⟨m, ns m hn, fun i x v e1 e2 e3 => ?_⟩
    obtain ⟨u, r, l⟩ := hl i x v e1 e2 e3
    refine ⟨u, r, ?_⟩
    rcases l with l | ⟨k, c, e, z⟩
    · exact .inl l
    · exact .inr ⟨k, c, e, cellK x c e _ z⟩
  · obtain ⟨v, z⟩ := I.cell x c e
    exact ⟨v, cellK x c e v z⟩
  · obtain ⟨m, ⟨o, _, _, ho, _⟩, _⟩ := I.loc
    exact free _ o (fun z => (hch _ z).2.1 rfl) ho I.free
  · obtain ⟨v, o, ho, hd⟩ := I.cell x c e
    exact free c o (fun z => (hch c z).2.2.1 x c e rfl) ho (I.ik x c e)
  · obtain ⟨e, n, ne, nf, d⟩ := I.pin p hp
    have nch : p.1 ∉ ch := fun z => (hch p.1 z).2.2.2 p hp rfl
    exact ⟨keep p.1 p.2 ne nf nch e n, free p.1 p.2 nch e n, ne, nf, d⟩
theorem Inv.un {t' : Nat} (I : Inv X pins σ H s) (u : Un X.fs [] H H' s.heap h') (hok : HOk X.prog X.w H' h') : Inv X pins σ H' { s with heap := h', toks := t' } := by
  obtain ⟨m, ⟨o, es, ep, ho, r⟩, _⟩ := id I.loc
  obtain ⟨sl, hL⟩ := u.any ho I.free (by simp)
  exact I.step (g' := s.gens) (d' := s.drawn) (ch := []) (fun _ z => nomatch z) (fun b o _ hb _ e n => u.keep b o e n hb (by simp)) (fun b o _ hb _ e n => u.slot b o e n hb (by simp)) (fun b o _ e n => u.free b o e n (by simp)) (fun b o _ e => u.there b o e (by simp)) u.nu u.mO u.mK (fun m' hm => by
    obtain ⟨o', es', ep', ho', r'⟩ := hm
    rw [ho] at ho'; cases ho'
    exact ⟨_, es', ep', hL, r'⟩) hok I.bare
theorem Inv.call {g' : Array GenState} {t' : Nat} {d' : Drawn} {ch : List Addr} (I : Inv X pins σ H s) (u : Un (frs X.stack) ch H H' s.heap h') (hok : HOk X.prog X.w H' h') (hg : AllBare g')
    (hch : ∀ b ∈ ch, (b ∈ X.ex ∨ X.s₀.heap.objs.size ≤ b) ∧ b ≠ X.env.locals ∧ (∀ x c, X.env.cells.lookup x = some c → c ≠ b) ∧ ∀ p ∈ X.pn ++ pins, p.1 ≠ b) :
    Inv X pins σ H' { s with heap := h', gens := g', drawn := d', toks := t' } := by
  obtain ⟨m, ⟨o, es, ep, ho, r⟩, _⟩ := id I.loc
  obtain ⟨sl, hL⟩ := u.any ho I.free fun z => (hch _ z).2.1 rfl
  exact I.step (ch := ch) hch (fun b o hL hb hc e n => u.keep b o e n (fun z => (List.mem_cons.mp (I.pK b z)).elim hL hb) hc) (fun b o _ _ hc e n => u.any e n hc) (fun b o hc e n => u.free b o e n hc) (fun b o hc e => u.there b o e hc) u.nu u.mO u.mK (fun m' hm => by
    obtain ⟨o', es', ep', ho', r'⟩ := hm
    rw [ho] at ho'; cases ho'
    exact ⟨_, es', ep', hL, r'⟩) hok hg
theorem Inv.turned {t' : Nat} {it : Addr} (I : Inv X pins σ H s) (k : ∀ b o, b ≠ it → s.heap.get? b = some o → h'.get? b = some o) (hn : H it = none) (hL : it ≠ X.env.locals)
    (h1 : it ∈ X.ex ∨ X.s₀.heap.objs.size ≤ it) (h2 : ∀ x c, X.env.cells.lookup x = some c → c ≠ it) (h3 : ∀ p ∈ X.pn ++ pins, p.1 ≠ it) : Inv X pins σ H { s with heap := h', toks := t' } := by
  have nit : ∀ b u, H b = some u → b ≠ it := fun b u e z => by rw [z, hn] at e; cases e
  refine I.step (g' := s.gens) (d' := s.drawn) (ch := [it]) (fun b hb => ?_) (fun b o _ _ hc e _ => k b o (fun z => hc (by simp [z])) e) (fun b o _ _ hc e _ => ⟨o.slots, k b o (fun z => hc (by simp [z])) e⟩) (fun _ _ _ _ n => n)
    (fun b o hc e => ⟨o, k b o (fun z => hc (by simp [z])) e⟩) (fun _ _ e => e) (fun _ _ _ e => e) (fun b ps e => ⟨#[], by rw [e]; simp⟩) (fun m hm => ?_) (fun b u e => ?_) I.bare
  · have e : b = it := by simpa using hb
    subst e
    exact ⟨h1, hL, h2, h3⟩
  · obtain ⟨o, es, ep, ho, r⟩ := hm
    exact ⟨o, es, ep, k _ o (Ne.symm hL) ho, r⟩
  · refine (I.hok b u e).tQ (fun c v hc q => k c v ?_ q) (fun _ q => q) fun _ _ q => q
    rcases hc with z | z
    · rw [z]; exact nit b u e
    · exact nit c _ z
theorem Inv.tok (I : Inv X pins σ H s) (t : Nat) : Inv X pins σ H { s with toks := t } := I.un (h' := s.heap) (t' := t) Un.refl I.hok
theorem Inv.kept {t' : Nat} (I : Inv X pins σ H s) (k : ∀ b u, s.heap.get? b = some u → h'.get? b = some u) : Inv X pins σ H { s with heap := h', toks := t' } := I.un (Un.kept k) (I.hok.kept k)
theorem Inv.laid {a : Addr} {o : HO} {t' : Nat} (I : Inv X pins σ H s) (k : ∀ b u, s.heap.get? b = some u → h'.get? b = some u) (hp : s.heap.objs.size ≤ a) (new : jq X.prog X.w (upd H a o) h' a o) :
    Inv X pins σ (upd H a o) { s with heap := h', toks := t' } := I.un (Un.laid k hp (I.hok.fresh hp)) (I.hok.laid k hp new)
theorem Inv.write {x e : Addr} {o : HO} {t' : Nat} (I : Inv X pins σ H s) (mu : Mut (H x)) (he : e = x ∨ H e = some (.own x)) (k : ∀ b u, b ≠ e → s.heap.get? b = some u → h'.get? b = some u) (heo : ∃ u, h'.get? e = some u)
    (new : jq X.prog X.w (upd H x o) h' x o) : Inv X pins σ (upd H x o) { s with heap := h', toks := t' } := I.un (Un.write mu he k heo) (I.hok.write mu he k heo new)
theorem Inv.A7 {pins' : List (Addr × Obj)} (I : Inv X pins σ H s) (h : ∀ p ∈ pins', s.heap.get? p.1 = some p.2 ∧ H p.1 = none ∧ p.1 ≠ X.env.locals ∧ p.1 ∉ X.fs ∧ ∀ v, p.2.data ≠ .cell v) : Inv X pins' σ H s :=
  ⟨I.ok, I.os, I.bare, I.base, I.loc, I.cell, I.free, I.ik, fun p hp => (List.mem_append.mp hp).elim (fun z => I.pin p (List.mem_append_left _ z)) (h p), I.hok, I.len⟩
theorem xT {N : List Str} (hN : N.Nodup) {i j : Nat} {x : Str} (a : N[i]? = some x) (b : N[j]? = some x) : i = j := by
  obtain ⟨h1, e1⟩ := List.getElem?_eq_some_iff.mp a
  obtain ⟨h2, e2⟩ := List.getElem?_eq_some_iff.mp b
  exact (List.getElem_inj hN).mp (e1.trans e2.symm)
theorem Cd {M : Model} {A : Around} {E : Value → Shared → Prop} {i : Nat} {x : Str} {v : V} {u : Value} {Q : Unit → Shared → Prop} (I : Inv X pins σ H s) (hN : X.N.Nodup) (hi : X.N[i]? = some x) (hx : Loc X.env.scope x) (r : RelV v u)
    (h : ∀ s', Inv X pins (σ.set i (some v)) H s' → (∃ a, Heap.SameBut a s.heap s'.heap ∧ (a = X.env.locals ∨ X.env.cells.lookup x = some a)) → Q () s') (hf : X.fn x = true ∨ X.env.scope.names.lookup x = some .local := by first | exact .inl rfl | exact .inr rfl | assumption) : wpAny M A (storeName X.env x u) Q E s := by
  obtain ⟨m, hn, hl⟩ := id I.loc
  have hcls : (X.env.scope.kind == .class || (X.env.scope.kind == .module && X.env.locals != X.env.globals)) = false := by rw [I.ok.kind]; rfl
  have hiσ : i < σ.length := by rw [I.len]; exact (List.getElem?_eq_some_iff.mp hi).1
  have cne := I.cne
  have tracked : ∀ {a : Addr} {h' : Heap}, (∃ o, s.heap.get? a = some o ∧ H a = none) → Heap.SameBut a s.heap h' → HOk X.prog X.w H h' := fun {a h'} ha hs b ob e => by
    obtain ⟨_, _, hfree⟩ := ha
    refine (I.hok b ob e).tQ (fun c w' hc q => (hs.2 c ?_).trans q) (fun _ q => q) fun _ _ q => q
    rintro rfl
    rcases hc with rfl | hc
    · rw [hfree] at e; cases e
    · rw [hfree] at hc; cases hc
  rcases hx with hk | hk
  · refine wpAny_storeName_local hk hn (fun h' hn' hs => ?_) hcls
    obtain ⟨oL, _, _, hoL, _⟩ := id hn
    refine h _ ⟨I.ok, I.os, I.bare, ⟨fun b o e n hb hx => ?_, fun b o e n hb hx => ?_, I.base.free, fun b o e hx => ?_, I.base.nu, I.base.mO, I.base.mK⟩, ⟨_, hn', fun j y v' e1 e2 e3 => ?_⟩, fun y c e => ?_, I.free, I.ik, fun p hp => ?_, tracked ⟨oL, hoL, I.free⟩ hs, by simpa using I.len⟩ ⟨_, hs, .inl rfl⟩
    · exact (hs.2 b (Nat.ne_of_lt (Nat.lt_of_lt_of_le (Heap.lt_size e) I.ok.above))).trans (I.base.keep b o e n hb hx)
    · obtain ⟨sl, e1⟩ := I.base.slot b o e n hb hx
      exact ⟨sl, (hs.2 b (Nat.ne_of_lt (Nat.lt_of_lt_of_le (Heap.lt_size e) I.ok.above))).trans e1⟩
    · obtain ⟨o', e1⟩ := I.base.there b o e hx
      exact ⟨o', (hs.2 b (Nat.ne_of_lt (Nat.lt_of_lt_of_le (Heap.lt_size e) I.ok.above))).trans e1⟩
    · by_cases hj : j = i
      · subst hj
        rw [hi] at e1; cases e1
        rw [List.getElem?_set_self hiσ] at e2
        cases e2
        exact ⟨u, r, .inl ⟨hk, by simp⟩⟩
      · rw [List.getElem?_set_ne (Ne.symm hj)] at e2
        obtain ⟨u', r', q⟩ := hl j y v' e1 e2 e3
        refine ⟨u', r', ?_⟩
        rcases q with ⟨k, e⟩ | ⟨k, c, e, z⟩
        · refine .inl ⟨k, ?_⟩
          have : y ≠ x := fun e => hj (xT hN e1 (e ▸ hi))
          simp [this, e]
        · exact .inr ⟨k, c, e, z.sameBut hs (cne y c e)⟩
    · obtain ⟨w', z⟩ := I.cell y c e
      exact ⟨w', z.sameBut hs (cne y c e)⟩
    · obtain ⟨e, n, ne, nf, d⟩ := I.pin p hp
      exact ⟨(hs.2 p.1 ne).trans e, n, ne, nf, d⟩
  · have hfn : X.fn x = true := by
      rcases hf with z | z
      · exact z
      · rw [z] at hk; cases hk
    obtain ⟨c, hc⟩ := I.ok.has x (.inl hk)
    obtain ⟨w', z⟩ := I.cell x c hc
    refine wpAny_storeName_cell I.ok.kind hk hc z (fun h' hc' hs => ?_)
    obtain ⟨oc, hoc, hocd⟩ := id z
    refine h { s with heap := h' } ⟨I.ok, I.os, I.bare, ⟨fun b o e n hb hx => ?_, fun b o e n hb hx => ?_, I.base.free, fun b o e hx => ?_, I.base.nu, I.base.mO, I.base.mK⟩, ⟨m, hn.sameBut hs (Ne.symm (cne x c hc)), fun j y v' e1 e2 e3 => ?_⟩, fun y c' e => ?_, I.free, I.ik, fun p hp => ?_, tracked ⟨oc, hoc, I.ik x c hc⟩ hs, by simpa using I.len⟩ ⟨c, hs, .inr hc⟩
    · exact (hs.2 b (Nat.ne_of_lt (Nat.lt_of_lt_of_le (Heap.lt_size e) (I.ok.cab x c hfn hc)))).trans (I.base.keep b o e n hb hx)
    · obtain ⟨sl, e1⟩ := I.base.slot b o e n hb hx
      exact ⟨sl, (hs.2 b (Nat.ne_of_lt (Nat.lt_of_lt_of_le (Heap.lt_size e) (I.ok.cab x c hfn hc)))).trans e1⟩
    · obtain ⟨o', e1⟩ := I.base.there b o e hx
      exact ⟨o', (hs.2 b (Nat.ne_of_lt (Nat.lt_of_lt_of_le (Heap.lt_size e) (I.ok.cab x c hfn hc)))).trans e1⟩
    · by_cases hj : j = i
      · subst hj
        rw [hi] at e1; cases e1
        rw [List.getElem?_set_self hiσ] at e2
        cases e2
        exact ⟨u, r, .inr ⟨.inl hk, c, hc, hc'⟩⟩
      · rw [List.getElem?_set_ne (Ne.symm hj)] at e2
        obtain ⟨u', r', q⟩ := hl j y v' e1 e2 e3
        refine ⟨u', r', ?_⟩
        rcases q with q | ⟨k, c', e, z'⟩
        · exact .inl q
        · refine .inr ⟨k, c', e, z'.sameBut hs ?_⟩
          rintro rfl
          exact hj (xT hN e1 (I.ok.inj _ _ _ e hc ▸ hi))
    · by_cases hcc : c' = c
      · subst hcc; exact ⟨_, hc'⟩
      · obtain ⟨w2, z2⟩ := I.cell y c' e
        exact ⟨w2, z2.sameBut hs hcc⟩
    · obtain ⟨e, n, ne, nf, d⟩ := I.pin p hp
      refine ⟨(hs.2 p.1 ?_).trans e, n, ne, nf, d⟩
      intro q
      rw [q, hoc] at e
      have q' : oc = p.2 := Option.some.inj e
      exact d w' (by rw [← q']; exact hocd)
theorem j7 {M : Model} {A : Around} {E : Value → Shared → Prop} {i : Nat} {x : Str} {v : V} {u : Value} {Q : Unit → Shared → Prop} (I : Inv X pins σ H s) (hN : X.N.Nodup) (hi : X.N[i]? = some x) (hx : Loc X.env.scope x) (r : RelV v u)
    (h : ∀ s', Inv X pins (σ.set i (some v)) H s' → Q () s') (hf : X.fn x = true ∨ X.env.scope.names.lookup x = some .local := by first | exact .inl rfl | exact .inr rfl | assumption) : wpAny M A (storeName X.env x u) Q E s :=
  Cd I hN hi hx r (fun s' I' _ => h s' I') hf
theorem Inv.yH {s' : Shared} {ch : List Addr} (I : Inv X pins σ H s) (ho : s'.os = s.os) (u : Un (frs X.stack) ch H H' s.heap s'.heap) (hok : HOk X.prog X.w H' s'.heap) (hg : AllBare s'.gens)
    (hch : ∀ b ∈ ch, (b ∈ X.ex ∨ X.s₀.heap.objs.size ≤ b) ∧ b ≠ X.env.locals ∧ (∀ x c, X.env.cells.lookup x = some c → c ≠ b) ∧ ∀ p ∈ X.pn ++ pins, p.1 ≠ b) : Inv X pins σ H' s' := by
  obtain ⟨h', g', d', t', o'⟩ := s'
  have e : o' = s.os := ho
  subst e
  exact I.call (g' := g') (t' := t') (d' := d') u hok hg hch
end
abbrev XK := Value → Option Addr → Hp → Prop
abbrev St := List (Option V)
abbrev VK := V → Hp → Prop
abbrev TE := St → Hp → VK → Prop
abbrev TT := St → Hp → (Bool → Hp → Prop) → Prop
abbrev TA := St → Hp → (List V → Hp → Prop) → Prop
structure Ends where
  nx : St → Hp → Prop
  rt : VK
  bk : St → Hp → Prop := fun _ _ => False
  ct : St → Hp → Prop := fun _ _ => False
abbrev TS := Ends → St → Hp → Prop
noncomputable def EP (X : Cx) (pins : List (Addr × Obj)) (σ : St) (Q : VK) (u : Value) (s' : Shared) : Prop := ∃ v H', Inv X pins σ H' s' ∧ RelV v u ∧ Q v H'
noncomputable def TP (X : Cx) (pins : List (Addr × Obj)) (σ : St) (Q : Bool → Hp → Prop) (b : Bool) (s' : Shared) : Prop := ∃ H', Inv X pins σ H' s' ∧ Q b H'
noncomputable def AP (X : Cx) (pins : List (Addr × Obj)) (σ : St) (Q : List V → Hp → Prop) (us : List Value) (s' : Shared) : Prop := ∃ vs H', Inv X pins σ H' s' ∧ Vals vs us ∧ Q vs H'
noncomputable def SP (X : Cx) (pins : List (Addr × Obj)) (D : Ends) (f : Flow) (s' : Shared) : Prop :=
  match f with
  | .next => ∃ σ' H', Inv X pins σ' H' s' ∧ D.nx σ' H'
  | .brk => ∃ σ' H', Inv X pins σ' H' s' ∧ D.bk σ' H'
  | .cont => ∃ σ' H', Inv X pins σ' H' s' ∧ D.ct σ' H'
  | .ret u => ∃ v σ' H', Inv X pins σ' H' s' ∧ RelV v u ∧ D.rt v H'
noncomputable def PE (X : Cx) (e : Expr) (t : TE) : Prop :=
  ∀ (pins : List (Addr × Obj)) (s : Shared) (σ : St) (H : Hp) (Q : VK), Inv X pins σ H s → t σ H Q → wpAny (model X.prog X.w) X.A (eval e X.env) (EP X pins σ Q) X.xe s
noncomputable def PT (X : Cx) (e : Expr) (t : TT) : Prop :=
  ∀ (pins : List (Addr × Obj)) (s : Shared) (σ : St) (H : Hp) (Q : Bool → Hp → Prop), Inv X pins σ H s → t σ H Q → wpAny (model X.prog X.w) X.A (isTrue e X.env (eval e X.env)) (TP X pins σ Q) X.xe s
noncomputable def PW (X : Cx) (e : Expr) (t : TT) : Prop :=
  ∀ (whole : Sem Value) (pins : List (Addr × Obj)) (s : Shared) (σ : St) (H : Hp) (Q : Bool → Hp → Prop), Inv X pins σ H s → t σ H Q → wpAny (model X.prog X.w) X.A (isTrue e X.env whole) (TP X pins σ Q) X.xe s
theorem PW.pt {X : Cx} {e : Expr} {t : TT} (h : PW X e t) : PT X e t := h _
noncomputable def PA (X : Cx) (es : List Expr) (t : TA) : Prop :=
  ∀ (pos : Pos) (pins : List (Addr × Obj)) (s : Shared) (σ : St) (H : Hp) (Q : List V → Hp → Prop), Inv X pins σ H s → t σ H Q → wpAny (model X.prog X.w) X.A (spliced (backTo pos (starEach es X.env))) (AP X pins σ Q) X.xe s
noncomputable def PS (X : Cx) (st : Stmt) (t : TS) : Prop :=
  ∀ (pins : List (Addr × Obj)) (s : Shared) (σ : St) (H : Hp) (D : Ends), Inv X pins σ H s → t D σ H → wpAny (model X.prog X.w) X.A (exec st X.env) (SP X pins D) X.xe s
noncomputable def PSs (X : Cx) (st : List Stmt) (t : TS) : Prop :=
  ∀ (pins : List (Addr × Obj)) (s : Shared) (σ : St) (H : Hp) (D : Ends), Inv X pins σ H s → t D σ H → wpAny (model X.prog X.w) X.A (execs st X.env) (SP X pins D) X.xe s
theorem thn {α : Type} {t : Sem α} {Q Q' : α → Shared → Prop} {M : Model} {A : Around} {E : Value → Shared → Prop} {s : Shared} (h : wpAny M A t Q E s) (hQ : ∀ a s, Q a s → Q' a s) : wpAny M A t Q' E s := wpAny_mono h hQ fun _ _ x => x
end L2
namespace L2
open PySem PySem.Spec PyProof.Rows
section
variable {X : Cx}
theorem bin {a b : Expr} {ta tb : TE} (ha : PE X a ta) (hb : PE X b tb) {pins : List (Addr × Obj)} {s : Shared} {σ : St} {H : Hp} {R : V → V → Hp → Prop} (I : Inv X pins σ H s) (h : ta σ H fun x H1 => tb σ H1 fun y H2 => R x y H2)
    {α : Type} {Q : α → Shared → Prop} {f : Value → Value → Sem α}
    (hf : ∀ v u s2 x y H2, Inv X pins σ H2 s2 → RelV x v → RelV y u → R x y H2 → wpAny (model X.prog X.w) X.A (f v u) Q X.xe s2) :
    wpAny (model X.prog X.w) X.A (eval a X.env) (fun v s₁ => wpAny (model X.prog X.w) X.A (eval b X.env) (fun u s₂ => wpAny (model X.prog X.w) X.A (f v u) Q X.xe s₂) X.xe s₁) X.xe s := by
  refine thn (ha pins s σ H _ I h) fun v s1 ⟨x, H1, I1, r1, q1⟩ => ?_
  refine thn (hb pins s1 σ H1 _ I1 q1) fun u s2 ⟨y, H2, I2, r2, q2⟩ => ?_
  exact hf v u s2 x y H2 I2 r1 r2 q2
noncomputable def Ku (i : Nat) : TE := fun σ H Q => ∃ v, σ[i]? = some (some v) ∧ Q v H
noncomputable def tC (v : V) : TE := fun _ H Q => Q v H
theorem Ex {i : Nat} {x : Str} {pos : Pos} (hN : X.N[i]? = some x) (hv : Vis X.env.scope x) (hd : (x == ("__debug__" : Str)) = false := by decide) (hcd : (x == ("__classdict__" : Str)) = false := by decide) : PE X (.Name x pos) (Ku i) := by
  intro pins s σ H Q I h
  obtain ⟨v, e, h⟩ := h
  obtain ⟨m, hn, hl⟩ := I.loc
  obtain ⟨u, r, l⟩ := hl i x v hN e hv
  have fin : EP X pins σ Q u s := ⟨v, H, I, r, h⟩
  rcases l with ⟨hk, hm⟩ | ⟨hk, c, hc, hcell⟩
  · exact wpAny_Name (wpAny_loadName_local I.ok.kind hk hn hm fin) hd
  · rcases hk with hk | hk
    · exact wpAny_Name (wpAny_loadName_cell I.ok.kind hk hc hcell fin) hd
    · exact wpAny_Name (wpAny_loadName_free I.ok.kind hk hc hcell fin hcd) hd
theorem Dl {i j pos} : PE X (.Constant (.int i) j pos) (tC (.int i)) := fun _ _ _ H _ I h => wpAny_Constant_int ⟨.int i, H, I.tok _, ⟨_, rfl⟩, h⟩
theorem Kv {b j pos} : PE X (.Constant (.bool b) j pos) (tC (.bl b)) := fun _ _ _ H _ I h => Constant_bool ⟨.bl b, H, I, rfl, h⟩
theorem Io {j pos} : PE X (.Constant .none j pos) (tC .non) := fun _ _ _ H _ I h => Constant_none ⟨.non, H, I, rfl, h⟩
theorem D7 {x j pos} : PE X (.Constant (.str x) j pos) (tC (.str x)) := fun _ _ _ H _ I h => Calls.Constant_str ⟨.str x, H, I.tok _, ⟨_, rfl⟩, h⟩
noncomputable def Gl (X : Cx) (x : Str) : Prop := X.env.kindOf x = some .globalImplicit
theorem mw {E : Value → Shared → Prop} {pins : List (Addr × Obj)} {s : Shared} {σ : St} {H : Hp} {x : Str} {u : Value} {pos : Pos} {Q : Value → Shared → Prop} (I : Inv X pins σ H s) (hg : Gl X x) (hm : X.mg x = some u) (h : Q u s)
    (hd : (x == ("__debug__" : Str)) = false := by decide) : wpAny (model X.prog X.w) X.A (eval (.Name x pos) X.env) Q E s :=
  Calls.Name_function_global I.ok.kind hg (Calls.loadGlobal_global (by rw [I.ok.glob]; exact I.mod.glob.keeps I.bk) hm h) hd
theorem sy {E : Value → Shared → Prop} {pins : List (Addr × Obj)} {s : Shared} {σ : St} {H : Hp} {x : Str} {u : Value} {pos : Pos} {Q : Value → Shared → Prop} (I : Inv X pins σ H s) (hg : Gl X x) (hm : X.mg x = none) (hv : bootBuiltins x = some u) (h : Q u s)
    (hn : x ≠ "__name__" := by decide) (hd : (x == ("__debug__" : Str)) = false := by decide) : wpAny (model X.prog X.w) X.A (eval (.Name x pos) X.env) Q E s := by
  obtain ⟨mb, h1, h2⟩ := I.mod.blt
  exact Calls.Name_function_global I.ok.kind hg (Calls.loadGlobal_builtin (by rw [I.ok.glob]; exact I.mod.glob.keeps I.bk) hm (by rw [I.ok.blt]; exact h1.keeps I.bk) ((h2 x hn).trans hv) h) hd
theorem A9 {x : Str} {v : V} {u : Value} {pos : Pos} (hg : Gl X x) (hm : X.mg x = some u) (r : RelV v u) (hd : (x == ("__debug__" : Str)) = false := by decide) : PE X (.Name x pos) (tC v) :=
  fun _ _ _ H _ I h => mw I hg hm ⟨v, H, I, r, h⟩ hd
theorem Bz {x : Str} {v : V} {u : Value} {pos : Pos} (hg : Gl X x) (hm : X.mg x = none) (hv : bootBuiltins x = some u) (r : RelV v u) (hn : x ≠ "__name__" := by decide) (hd : (x == ("__debug__" : Str)) = false := by decide) : PE X (.Name x pos) (tC v) :=
  fun _ _ _ H _ I h => sy I hg hm hv ⟨v, H, I, r, h⟩ hn hd
variable {a b : Expr} {ta tb : TE} {pos : Pos}
noncomputable def PC (X : Cx) (op : CmpOp) (a b : Expr) (t : TE) : Prop :=
  ∀ (pins : List (Addr × Obj)) (s : Shared) (σ : St) (H : Hp) (Q : VK), Inv X pins σ H s → t σ H Q →
    wpAny (model X.prog X.w) X.A (eval a X.env) (fun v s₁ => wpAny (model X.prog X.w) X.A (eval b X.env) (fun u s₂ => wpAny (model X.prog X.w) X.A (compareOp op v u) (EP X pins σ Q) X.xe s₂) X.xe s₁) X.xe s
theorem CV (b : Expr) {op : CmpOp} (h : op ≠ .In) (h2 : op ≠ .NotIn) : behindInMarks op b = false := by
  have e1 : (op == CmpOp.In) = false := by cases op <;> first | rfl | exact absurd rfl h
  have e2 : (op == CmpOp.NotIn) = false := by cases op <;> first | rfl | exact absurd rfl h2
  cases b <;> simp [behindInMarks, e1, e2]
noncomputable def tB (t : TE) : TT := fun σ H Q => t σ H fun x H1 => ∃ c, x = .bl c ∧ Q c H1
theorem K6 {op : CmpOp} {t : TE} (h : PC X op a b t) (h1 : behindInMarks op b = false := by first | exact CV _ (by decide) (by decide) | rfl) : PT X (.Compare a [op] [b] pos) (tB t) := by
  intro pins s σ H Q I hw
  refine wpAny_isTrue_Compare1 (thn (h pins s σ H _ I hw) fun v s1 h1 => thn h1 fun u s2 h2 => thn h2 fun c s3 ⟨x, H1, I1, r1, q1⟩ => ?_) h1
  obtain ⟨d, rfl, q⟩ := q1
  cases r1
  exact wpAny_truthy_bool ⟨H1, I1, q⟩
theorem IX {e : Expr} {t : TE} (h : PE X e t) (he : ∀ whole, isTrue e X.env whole = (do let v ← whole; standAt e.pos; holding [v] (truthy v)) := by intro _; rfl) : PT X e (tB t) := by
  intro pins s σ H Q I hw
  refine isTrue_plain (thn (h pins s σ H _ I hw) fun v s1 ⟨x, H1, I1, r1, q1⟩ => ?_) (he _)
  obtain ⟨d, rfl, q⟩ := q1
  cases r1
  exact wpAny_truthy_bool ⟨H1, I1, q⟩
variable {tA tB' : TT} {rest : List Expr}
noncomputable def Lf (t u : TT) : TT := fun σ H Q => t σ H fun c H1 => if c = true then u σ H1 Q else Q false H1
noncomputable def tOr (t u : TT) : TT := fun σ H Q => t σ H fun c H1 => if c = true then Q true H1 else u σ H1 Q
noncomputable def K7 (t : TT) : TT := fun σ H Q => t σ H fun c H1 => Q (!c) H1
theorem pw_and1 (ha : PT X a tA) : PW X (.BoolOp .And [a] pos) tA := by
  intro wh pins s σ H Q I h
  refine isTrue_and (thn (ha pins s σ H Q I h) fun c s1 e => ?_)
  cases c with
  | true => exact isTrue_and_nil e
  | false => exact e
theorem pw_or1 (ha : PT X a tA) : PW X (.BoolOp .Or [a] pos) tA := by
  intro wh pins s σ H Q I h
  refine isTrue_or (thn (ha pins s σ H Q I h) fun c s1 e => ?_)
  cases c with
  | false => exact isTrue_or_nil e
  | true => exact e
theorem pw_and (ha : PT X a tA) (hb : PW X (.BoolOp .And (b :: rest) pos) tB') : PW X (.BoolOp .And (a :: b :: rest) pos) (Lf tA tB') := by
  intro wh pins s σ H Q I h
  refine isTrue_and (thn (ha pins s σ H _ I h) fun c s1 ⟨H1, I1, q1⟩ => ?_)
  cases c with
  | true => exact hb wh pins s1 σ H1 Q I1 q1
  | false => exact ⟨H1, I1, q1⟩
theorem pw_or (ha : PT X a tA) (hb : PW X (.BoolOp .Or (b :: rest) pos) tB') : PW X (.BoolOp .Or (a :: b :: rest) pos) (tOr tA tB') := by
  intro wh pins s σ H Q I h
  refine isTrue_or (thn (ha pins s σ H _ I h) fun c s1 ⟨H1, I1, q1⟩ => ?_)
  cases c with
  | true => exact ⟨H1, I1, q1⟩
  | false => exact hb wh pins s1 σ H1 Q I1 q1
theorem IM (ha : PT X a tA) : PT X (.UnaryOp .Not a pos) (K7 tA) := by
  intro pins s σ H Q I h
  exact isTrue_not (ha pins s σ H (fun c H1 => Q (!c) H1) I h)
noncomputable def JT (ta tb : TE) : TE := fun σ H Q => ta σ H fun x H1 => ∃ c, x = .bl c ∧ if c = true then tb σ H1 Q else Q (.bl false) H1
noncomputable def Ka (ta : TE) : TE := fun σ H Q => ta σ H fun x H1 => ∃ c, x = .bl c ∧ Q (.bl (!c)) H1
theorem Hs {op} {t : TE} (h : PE X a t) : PE X (.BoolOp op [a] pos) t := fun pins s σ H Q I hw => BoolOp_one (h pins s σ H Q I hw)
theorem JM (ha : PE X a ta) (hb : PE X (.BoolOp .And (b :: rest) pos) tb) : PE X (.BoolOp .And (a :: b :: rest) pos) (JT ta tb) := by
  intro pins s σ H Q I h
  refine BoolOp_and (thn (ha pins s σ H _ I h) fun v s1 ⟨x, H1, I1, r1, q1⟩ => ?_)
  obtain ⟨c, rfl, q1⟩ := q1
  cases r1
  refine wpAny_truthy_bool ?_
  cases c with
  | true => exact hb pins s1 σ H1 Q I1 q1
  | false => exact ⟨.bl false, H1, I1, rfl, q1⟩
theorem HX (ha : PE X a ta) : PE X (.UnaryOp .Not a pos) (Ka ta) := by
  intro pins s σ H Q I h
  refine UnaryOp_ (thn (ha pins s σ H _ I h) fun v s1 ⟨x, H1, I1, r1, q1⟩ => ?_)
  obtain ⟨c, rfl, q1⟩ := q1
  cases r1
  exact not_of (wpAny_truthy_bool ⟨.bl (!c), H1, I1, rfl, q1⟩)
noncomputable def tIf (t : TT) (ta tb : TE) : TE := fun σ H Q => t σ H fun c H1 => if c = true then ta σ H1 Q else tb σ H1 Q
theorem yR {c : Expr} (hc : PT X c tA) (ha : PE X a ta) (hb : PE X b tb) : PE X (.IfExp c a b pos) (tIf tA ta tb) := by
  intro pins s σ H Q I h
  refine wpAny_IfExp (thn (hc pins s σ H _ I h) fun d s1 ⟨H1, I1, q1⟩ => ?_)
  cases d with
  | true => exact ha pins s1 σ H1 Q I1 q1
  | false => exact hb pins s1 σ H1 Q I1 q1
end
end L2
namespace L2
open PySem PySem.Spec PyProof.Rows
noncomputable def SqL (K : PySem.W.Frag) (H : Hp) (a : Addr) (xs : List V) : Prop :=
  Rd H a (.lst xs) ∨
    ∃ (o : Obj) (its : Array Value) (n : Nat), K.lookup a = some o ∧ o.cls = .type "list" ∧ o.dict = none ∧ o.data = .seq its n ∧ its.size ≤ sizeLine ∧ Vals xs its.toList
noncomputable def SqT (K : PySem.W.Frag) (H : Hp) (a : Addr) (xs : List V) : Prop :=
  Rd H a (.tup xs) ∨
    ∃ (o : Obj) (its : Array Value) (n : Nat), K.lookup a = some o ∧ o.cls = .type "tuple" ∧ o.data = .seq its n ∧ its.size ≤ sizeLine ∧ Vals xs its.toList
def Lg : Value → Option V
  | .none => some .non
  | .bool b => some (.bl b)
  | .int i _ => some (.int i)
  | .str x _ => some (.str x)
  | .bytes b _ => some (.byt b)
  | .float b _ => some (.flt b)
  | .ref a => some (.ref a)
  | .type n => some (.ty n)
  | _ => none
theorem RelV.abs {x : V} {u : Value} (r : RelV x u) : Lg u = some x := by
  cases x with
  | non => cases r; rfl
  | bl _ => cases r; rfl
  | int _ => obtain ⟨t, rfl⟩ := r; rfl
  | str _ => obtain ⟨t, rfl⟩ := r; rfl
  | byt _ => obtain ⟨t, rfl⟩ := r; rfl
  | flt _ => obtain ⟨t, rfl⟩ := r; rfl
  | ref _ => cases r; rfl
  | ty _ => cases r; rfl
theorem RelV.inj {x y : V} {u : Value} (r : RelV x u) (q : RelV y u) : x = y := Option.some.inj (r.abs.symm.trans q.abs)
theorem Vals.inj : ∀ {xs ys : List V} {us : List Value}, Vals xs us → Vals ys us → xs = ys
  | _, _, _, .nil, .nil => rfl
  | _, _, _, .cons r t, .cons r' t' => by rw [r.inj r', Vals.inj t t']
section
variable {X : Cx} {pins : List (Addr × Obj)} {σ : St} {H : Hp} {s : Shared} {a : Addr} {xs ys : List V}
theorem SqL.of {K : PySem.W.Frag} (h : H a = some (.lst xs)) : SqL K H a xs := .inl (.inl h)
theorem SqT.of {K : PySem.W.Frag} (h : H a = some (.tup xs)) : SqT K H a xs := .inl (.inl h)
theorem Inv.list (I : Inv X pins σ H s) (h : SqL X.K H a xs) : ∃ its : List Value, Vals xs its ∧ PlainL s.heap a its.toArray ∧ xs.length ≤ sizeLine := by
  rcases h with h | ⟨o, its, n, hk, hc, hd, hs, hz, r⟩
  · obtain ⟨z, its, n, r, e⟩ := h.ok I.hok
    exact ⟨its, r, ⟨_, n, e, rfl, rfl, rfl⟩, z⟩
  · refine ⟨its.toList, r, ⟨o, n, I.kIn a o hk, hc, hd, by simpa using hs⟩, ?_⟩
    have e := r.length
    simp only [Array.length_toList] at e
    omega
theorem Inv.tuple (I : Inv X pins σ H s) (h : SqT X.K H a xs) : ∃ its : List Value, Vals xs its ∧ IsTup s.heap a its.toArray ∧ xs.length ≤ sizeLine := by
  rcases h with h | ⟨o, its, n, hk, hc, hs, hz, r⟩
  · obtain ⟨z, its, r, p⟩ := h.ok I.hok
    exact ⟨its, r, p, z⟩
  · refine ⟨its.toList, r, ⟨o, I.kIn a o hk, hc, n, by simpa using hs⟩, ?_⟩
    have e := r.length
    simp only [Array.length_toList] at e
    omega
theorem Inv.EH (I : Inv X pins σ H s) (h : SqL X.K H a xs) (h' : SqL X.K H a ys) : xs = ys := by
  obtain ⟨its, r, ⟨o, n, e, _, _, d⟩, _⟩ := I.list h
  obtain ⟨its', r', ⟨o', n', e', _, _, d'⟩, _⟩ := I.list h'
  rw [e] at e'; cases e'
  rw [d] at d'
  injection d' with d1 _
  have : its = its' := by simpa using congrArg Array.toList d1
  subst this
  exact r.inj r'
theorem Inv.Ci (I : Inv X pins σ H s) (h : SqT X.K H a xs) (h' : SqT X.K H a ys) : xs = ys := by
  obtain ⟨its, r, ⟨o, e, _, n, d⟩, _⟩ := I.tuple h
  obtain ⟨its', r', ⟨o', e', _, n', d'⟩, _⟩ := I.tuple h'
  rw [e] at e'; cases e'
  rw [d] at d'
  injection d' with d1 _
  have : its = its' := by simpa using congrArg Array.toList d1
  subst this
  exact r.inj r'
end
abbrev Cx.tJ (X : Cx) (E : Value → Shared → Prop) : Cx := { X with xe := E }
abbrev Cx.nox (X : Cx) : Cx := X.tJ fun _ _ => False
theorem Cx.Ok.tJ {X : Cx} (ok : X.Ok) (E : Value → Shared → Prop) : (X.tJ E).Ok :=
  ⟨ok.mod, ok.kind, ok.glob, ok.blt, ok.above, ok.inj, ok.has, ok.cab, ok.hd, ok.qt, ok.frames, ok.stk, ok.exf, ok.bs, ok.bsz, ok.Ag, ok.C7, ok.nk, ok.frf⟩
theorem Cx.Ok.kG {X : Cx} {E : Value → Shared → Prop} (ok : (X.tJ E).Ok) : X.Ok :=
  ⟨ok.mod, ok.kind, ok.glob, ok.blt, ok.above, ok.inj, ok.has, ok.cab, ok.hd, ok.qt, ok.frames, ok.stk, ok.exf, ok.bs, ok.bsz, ok.Ag, ok.C7, ok.nk, ok.frf⟩
section
variable {X : Cx} {pins : List (Addr × Obj)} {σ : St} {H : Hp} {s : Shared} {E : Value → Shared → Prop}
theorem Inv.tJ (I : Inv X pins σ H s) (E : Value → Shared → Prop) : Inv (X.tJ E) pins σ H s := ⟨I.ok.tJ E, I.os, I.bare, I.base, I.loc, I.cell, I.free, I.ik, I.pin, I.hok, I.len⟩
theorem Inv.kG (I : Inv (X.tJ E) pins σ H s) : Inv X pins σ H s := ⟨I.ok.kG, I.os, I.bare, I.base, I.loc, I.cell, I.free, I.ik, I.pin, I.hok, I.len⟩
theorem SP.kG {D : Ends} {f : Flow} {s' : Shared} (h : SP (X.tJ E) pins D f s') : SP X pins D f s' := by
  cases f with
  | next => obtain ⟨σ', H', I, q⟩ := h; exact ⟨σ', H', I.kG, q⟩
  | brk => obtain ⟨σ', H', I, q⟩ := h; exact ⟨σ', H', I.kG, q⟩
  | cont => obtain ⟨σ', H', I, q⟩ := h; exact ⟨σ', H', I.kG, q⟩
  | ret u => obtain ⟨v, σ', H', I, r, q⟩ := h; exact ⟨v, σ', H', I.kG, r, q⟩
theorem PSs.nox {st : List Stmt} {t : TS} (h : PSs X.nox st t) : PSs X st t := fun pins s σ H D I hw =>
  wpAny_mono (h pins s σ H D (I.tJ _) hw) (fun _ _ q => q.kG) fun _ _ z => False.elim z
end
section
variable {X : Cx} {st : Stmt} {rest : List Stmt} {t u : TS} {e : Expr} {te : TE} {pos : Pos}
noncomputable def JY : TS := fun D σ H => D.nx σ H
noncomputable def Kj (t u : TS) : TS := fun D σ H => t { D with nx := u D } σ H
theorem G1 : PSs X [] JY := fun _ _ σ H _ I h => wpAny_execs_nil ⟨σ, H, I, h⟩
theorem rL (h1 : PS X st t) (h2 : PSs X rest u) : PSs X (st :: rest) (Kj t u) := by
  intro pins s σ H D I h
  refine wpAny_execs_cons (thn (h1 pins s σ H { D with nx := u D } I h) fun f s1 q => ?_)
  cases f with
  | next =>
    obtain ⟨σ', H', I', q⟩ := q
    exact h2 pins s1 σ' H' D I' q
  | ret v => exact q
  | brk => exact q
  | cont => exact q
theorem FV (h1 : PS X st t) : PSs X [st] t := by
  intro pins s σ H D I h
  refine wpAny_execs_cons (thn (h1 pins s σ H D I h) fun f s1 q => ?_)
  cases f with
  | next => exact wpAny_execs_nil q
  | ret v => exact q
  | brk => exact q
  | cont => exact q
theorem Inv.quiet {pins : List (Addr × Obj)} {σ : St} {H : Hp} {s : Shared} (I : Inv X pins σ H s) : interactive X.env = false := by simp [interactive, I.ok.kind]
noncomputable def KD (te : TE) : TS := fun D σ H => te σ H fun _ H1 => D.nx σ H1
theorem Fl (he : PE X e te) (hs : swapsWith e none pos.line X.env = pure false := by rfl) : PS X (.Expr e pos) (KD te) := by
  intro pins s σ H D I h
  exact wpAny_Expr_any (thn (he pins s σ H _ I h) fun v s1 ⟨x, H1, I1, r1, q1⟩ => ⟨σ, H1, I1, q1⟩) I.quiet hs
noncomputable def KY (te : TE) : TS := fun D σ H => te σ H D.rt
theorem Dv (he : PE X e te) : PS X (.Return (some e) pos) (KY te) := by
  intro pins s σ H D I h
  exact wpAny_Return_some (thn (he pins s σ H _ I h) fun v s1 ⟨x, H1, I1, r1, q1⟩ => ⟨x, σ, H1, I1, r1, q1⟩)
noncomputable def Lk (c : TT) (t u : TS) : TS := fun D σ H => c σ H fun b H1 => if b = true then t D σ H1 else u D σ H1
theorem G7 {c : Expr} {a b : List Stmt} {tc : TT} (hc : PT X c tc) (ha : PSs X a t) (hb : PSs X b u) : PS X (.If c a b pos) (Lk tc t u) := by
  intro pins s σ H D I h
  refine wpAny_If (thn (hc pins s σ H _ I h) fun d s1 ⟨H1, I1, q1⟩ => ?_)
  cases d with
  | true => exact ha pins s1 σ H1 D I1 q1
  | false => exact hb pins s1 σ H1 D I1 q1
noncomputable def Hq : TS := fun _ _ _ => False
theorem vc {sts : List Stmt} : PSs X sts Hq := fun _ _ _ _ _ _ h => h.elim
end
abbrev TG := V → St → Hp → (St → Hp → Prop) → Prop
abbrev TGs := List V → St → Hp → (St → Hp → Prop) → Prop
noncomputable def PG (X : Cx) (target : Expr) (t : TG) : Prop :=
  ∀ (pins : List (Addr × Obj)) (s : Shared) (σ : St) (H : Hp) (v : V) (u : Value) (Q : St → Hp → Prop), Inv X pins σ H s → RelV v u → t v σ H Q →
    wpAny (model X.prog X.w) X.A (assign target X.env u) (fun _ s' => ∃ σ' H', Inv X pins σ' H' s' ∧ Q σ' H') X.xe s
noncomputable def PGs (X : Cx) (ts : List Expr) (t : TGs) : Prop :=
  ∀ (pins : List (Addr × Obj)) (s : Shared) (σ : St) (H : Hp) (vs : List V) (us : List Value) (Q : St → Hp → Prop), Inv X pins σ H s → Vals vs us → t vs σ H Q →
    wpAny (model X.prog X.w) X.A (assignInOrder ((assignEach ts X.env).map (·.2)) us) (fun _ s' => ∃ σ' H', Inv X pins σ' H' s' ∧ Q σ' H') X.xe s
abbrev HJ := V → V → V → Hp → (Hp → Prop) → Prop
noncomputable def KP (X : Cx) (t : HJ) : Prop :=
  ∀ (pins : List (Addr × Obj)) (s : Shared) (σ : St) (H : Hp) (o i v : V) (ov iv u : Value) (Q : Hp → Prop), Inv X pins σ H s → RelV o ov → RelV i iv → RelV v u → t o i v H Q →
    wpAny (model X.prog X.w) X.A (setItem ov iv u) (fun _ s' => ∃ H', Inv X pins σ H' s' ∧ Q H') X.xe s
section
variable {X : Cx} {pos : Pos}
noncomputable def DF (i : Nat) : TG := fun v σ H Q => Q (σ.set i (some v)) H
theorem Gu {i : Nat} {x : Str} (hN : X.N.Nodup) (hi : X.N[i]? = some x) (hx : Loc X.env.scope x) (hf : X.fn x = true ∨ X.env.scope.names.lookup x = some .local := by first | exact .inl rfl | exact .inr rfl | assumption) : PG X (.Name x pos) (DF i) := by
  intro pins s σ H v u Q I r h
  exact wpAny_assign_Name (j7 I hN hi hx r (fun s' I' => ⟨_, H, I', h⟩) hf)
def Ll : TGs := fun vs σ H Q => vs = [] ∧ Q σ H
def Ks (t : TG) (u : TGs) : TGs := fun vs σ H Q => ∃ v r, vs = v :: r ∧ t v σ H fun σ' H' => u r σ' H' Q
theorem GA : PGs X [] Ll := by
  intro pins s σ H vs us Q I r h
  obtain ⟨e, h⟩ := h
  subst e
  cases r
  exact assignInOrder_nil ⟨σ, H, I, h⟩
theorem Eu {e : Expr} {es : List Expr} {t : TG} {u : TGs} (h1 : PG X e t) (h2 : PGs X es u)
    (hs : (assignEach (e :: es) X.env).map (·.2) = assign e X.env :: (assignEach es X.env).map (·.2) := by rfl) : PGs X (e :: es) (Ks t u) := by
  intro pins s σ H vs us Q I r h
  obtain ⟨v, vr, e1, h⟩ := h
  subst e1
  cases r with
  | cons r rr =>
    rw [hs]
    refine assignInOrder_cons (thn (h1 pins s σ H _ _ _ I r h) fun _ s1 ⟨σ1, H1, I1, q1⟩ => ?_)
    exact h2 pins s1 σ1 H1 _ _ Q I1 rr q1
noncomputable def Li (K : PySem.W.Frag) (n : Nat) (t : TGs) : TG := fun v σ H Q => ∃ a xs, v = .ref a ∧ SqT K H a xs ∧ xs.length = n ∧ t xs σ H Q
theorem Ia {es : List Expr} {k : Nat} {t : TGs} {n : Nat} (hc : X.calm = X.calm) (h : PGs X es t)
    (hn : (assignEach es X.env).length = n := by rfl) (hst : (assignEach es X.env).findIdx? (·.1) = none := by rfl) : PG X (.Tuple es k pos) (Li X.K n t) := by
  intro pins s σ H v u Q I r hw
  obtain ⟨a, xs, e1, hq, hl, hw⟩ := hw
  subst e1
  cases r
  obtain ⟨its, rv, ht, hz⟩ := I.tuple hq
  refine uR I.AO ht (by simp [hn, ← hl, rv.length]) hst fun h' hx => ?_
  have I1 : Inv X pins σ H { s with heap := h' } := I.kept (t' := s.toks) fun b o e => hx b o (Nat.ne_of_lt (Heap.lt_size e)) e
  exact h pins _ σ H xs _ Q I1 (by simpa using rv) hw
noncomputable def Lc (to ti : TE) (t : HJ) : TG := fun v σ H Q => to σ H fun o H1 => ti σ H1 fun i H2 => t o i v H2 fun H3 => Q σ H3
theorem Jd {o i : Expr} {to ti : TE} {t : HJ} (ho : PE X o to) (hi : PE X i ti) (hs : KP X t)
    (ha : ∀ v, assign (.Subscript o i pos) X.env v = (do
      let ov ← holding [v] (eval o X.env)
      let iv ← holding [v, ov] (eval i X.env)
      standAt pos
      holding [v, ov, iv] (setItem ov iv v)
      release [v, ov, iv] []) := by intro _; rfl) : PG X (.Subscript o i pos) (Lc to ti t) := by
  intro pins s σ H v u Q I r h
  rw [ha]
  refine wpAny_bind (wpAny_holding (thn (ho pins s σ H _ I h) fun ov s1 ⟨x, H1, I1, r1, q1⟩ => ?_))
  refine wpAny_bind (wpAny_holding (thn (hi pins s1 σ H1 _ I1 q1) fun iv s2 ⟨y, H2, I2, r2, q2⟩ => ?_))
  refine wpAny_bind (wpAny_standAt (wpAny_bind (wpAny_holding (thn (hs pins s2 σ H2 x y v ov iv u _ I2 r1 r2 r q2) fun _ s3 ⟨H3, I3, q3⟩ => ?_))))
  exact wpAny_release ⟨σ, H3, I3, q3⟩
noncomputable def Ik (te : TE) (g : TG) : TS := fun D σ H => te σ H fun x H1 => g x σ H1 D.nx
theorem Jq {tg e : Expr} {te : TE} {g : TG} (he : PE X e te) (hg : PG X tg g) (hs : swapsWithSole [tg] e pos.line X.env = pure false := by rfl) (hw : swappedStores [tg] e X.env = pure none := by rfl)
    (h1 : (assignEach [tg] X.env).map (·.2) = [assign tg X.env] := by rfl) : PS X (.Assign [tg] e pos) (Ik te g) := by
  intro pins s σ H D I h
  refine wpAny_Assign_stores (thn (he pins s σ H _ I h) fun v s1 ⟨x, H1, I1, r1, q1⟩ => ?_) hs hw
  rw [h1]
  exact thn (hg pins s1 σ H1 x v _ I1 r1 q1) fun _ s2 q => q
theorem DB {i : Nat} {x : Str} {e : Expr} {te : TE} {pos' : Pos} (hN : X.N.Nodup) (hi : X.N[i]? = some x) (hx : Loc X.env.scope x) (he : PE X e te) (hs : swapsWith e (some (.Name x pos')) pos.line X.env = pure false := by rfl) (hf : X.fn x = true ∨ X.env.scope.names.lookup x = some .local := by first | exact .inl rfl | exact .inr rfl | assumption) :
    PS X (.Assign [.Name x pos'] e pos) (Ik te (DF i)) := by
  intro pins s σ H D I h
  refine wpAny_Assign_Name (thn (he pins s σ H _ I h) fun v s1 ⟨y, H1, I1, r1, q1⟩ => ?_) hs
  exact j7 I1 hN hi hx r1 (fun s2 I2 => ⟨_, H1, I2, q1⟩) hf
noncomputable def La (i j : Nat) (ta : TA) : TS := fun D σ H => ta σ H fun vs H1 => ∃ v w, vs = [v, w] ∧ D.nx ((σ.set i (some v)).set j (some w)) H1
theorem JJ {i j : Nat} {x y : Str} {a b : Expr} {ta : TA} {px py pt : Pos} {kt k2 pt2} (hc : X.calm = true) (hN : X.N.Nodup) (hi : X.N[i]? = some x) (hj : X.N[j]? = some y) (hij : i ≠ j)
    (hx : X.env.scope.names.lookup x = some .local) (hy : X.env.scope.names.lookup y = some .local) (ha : PA X [a, b] ta)
    (hw : swappedStores [.Tuple [.Name x px, .Name y py] kt pt] (.Tuple [a, b] k2 pt2) X.env = pure (some [x, y]))
    (hs : swapsWithSole [.Tuple [.Name x px, .Name y py] kt pt] (.Tuple [a, b] k2 pt2) pos.line X.env = pure false := by rfl) :
    PS X (.Assign [.Tuple [.Name x px, .Name y py] kt pt] (.Tuple [a, b] k2 pt2) pos) (La i j ta) := by
  intro pins s σ H D I h
  rw [exec_Assign_arm]
  refine wpAny_bind (wpAny_standAt ?_)
  rw [hs]
  refine wpAny_bind (wpAny_pure ?_)
  rw [if_neg (by decide)]
  refine wpAny_bind (Tuple_ (thn (ha _ pins s σ H _ I h) fun us s1 ⟨vs, H1, I1, r1, q1⟩ => ?_))
  obtain ⟨v, w, e1, q1⟩ := q1
  subst e1
  obtain ⟨u1, u2, rfl, rv, rw'⟩ : ∃ u1 u2, us = [u1, u2] ∧ RelV v u1 ∧ RelV w u2 := by
    cases r1 with
    | cons p q =>
      cases q with
      | cons p' q' =>
        cases q'
        exact ⟨_, _, rfl, p, p'⟩
  refine wpAny_newObj_type ?_ (by show 2 ≤ sizeLine; decide)
  have I2 : Inv X pins σ H1 { s1 with heap := s1.heap.push { cls := .type "tuple", data := .seq [u1, u2].toArray } } := I1.kept (t' := s1.toks) fun b o e => Heap.get?_push_of_some _ e
  rw [hw]
  refine wpAny_bind (wpAny_pure ?_)
  show wpAny (model X.prog X.w) X.A (do rule "assign.swapped-stores"; let items ← unpackItems (.ref s1.heap.objs.size) 2 none; assignInOrder [fun v => bindName X.env y v, fun v => bindName X.env x v] items.reverse; pure Flow.next) _ _ _
  refine wpAny_bind (wpAny_rule (wpAny_bind (unpackItems_tuple (items := #[u1, u2]) (I.ok.hd hc) (IsTup.new s1.heap _) fun h' hx' => ?_)))
  have I3 := I2.kept (h' := h') (t' := s1.toks) fun b o e => hx' b o (Nat.ne_of_lt (Heap.lt_size e)) e
  show wpAny _ _ (assignInOrder [fun v => bindName X.env y v, fun v => bindName X.env x v] [u2, u1] >>= fun _ => pure Flow.next) _ _ _
  refine wpAny_bind (assignInOrder_cons (wpAny_bindName (j7 I3 hN hj (.inl hy) rw' (fun s2 I4 => ?_) (.inr hy))))
  refine assignInOrder_cons (wpAny_bindName (j7 I4 hN hi (.inl hx) rv (fun s3 I5 => assignInOrder_nil (wpAny_pure ?_)) (.inr hx)))
  rw [List.set_comm _ _ (Ne.symm hij)] at I5
  exact ⟨_, H1, I5, q1⟩
end
section
variable {X : Cx} {pos : Pos}
noncomputable def JF (c : TT) (tb : TS) : TS := fun D σ H => ∃ W : Nat → St → Hp → Prop, (∃ m, W m σ H) ∧ ∀ m σ H, W m σ H →
  c σ H fun b H1 => if b = true then ∃ N : St → Hp → Prop, (∀ σ' H', N σ' H' → ∃ m', m' < m ∧ W m' σ' H') ∧ tb { D with nx := N, ct := N, bk := D.nx } σ H1 else D.nx σ H1
theorem CU {c : Expr} {body : List Stmt} {tc : TT} {tb : TS} (hp : PassesOwn (model X.prog X.w) X.A X.env X.xe) (hc : PT X c tc) (hb : PSs X body tb) : PS X (.While c body [] pos) (JF tc tb) := by
  intro pins s σ H D I h
  obtain ⟨W, ⟨m0, w0⟩, turn⟩ := h
  refine wpAny_While (codeAny_whileLoop (fun n s' => ∃ σ' H', Inv X pins σ' H' s' ∧ W n σ' H') ?_ m0 ⟨σ, H, I, w0⟩)
  rintro n s1 ⟨σ1, H1, I1, w1⟩
  refine wpAny_passesOwn hp (thn (hc pins s1 σ1 H1 _ I1 (turn n σ1 H1 w1)) fun b s2 ⟨H2, I2, q2⟩ => ?_)
  cases b with
  | true =>
    obtain ⟨N, hN, q2⟩ := q2
    rw [if_pos rfl]
    refine wpAny_passesOwn hp (thn (hb pins s2 σ1 H2 _ I2 q2) fun f s3 q3 => ?_)
    cases f with
    | next =>
      obtain ⟨σ3, H3, I3, n3⟩ := q3
      obtain ⟨m', hm, w3⟩ := hN σ3 H3 n3
      exact ⟨m', hm, σ3, H3, I3, w3⟩
    | cont =>
      obtain ⟨σ3, H3, I3, n3⟩ := q3
      obtain ⟨m', hm, w3⟩ := hN σ3 H3 n3
      exact ⟨m', hm, σ3, H3, I3, w3⟩
    | brk => exact q3
    | ret v => exact q3
  | false =>
    rw [if_neg Bool.false_ne_true]
    exact wpAny_execs_nil ⟨σ1, H2, I2, q2⟩
end
structure It where
  go : Nat → Hp → Prop
  yld : Nat → Hp → V → Hp → Prop
  stop : Nat → Hp → Prop
noncomputable def wj (X : Cx) (pins : List (Addr × Obj)) (H : Hp) (b : Addr) : Prop :=
  H b = none ∧ b ≠ X.env.locals ∧ b ∉ X.fs ∧ (b ∈ X.ex ∨ X.s₀.heap.objs.size ≤ b) ∧ (∀ x c, X.env.cells.lookup x = some c → c ≠ b) ∧ ∀ p ∈ X.pn ++ pins, p.1 ≠ b
theorem Inv.E5 {X : Cx} {pins : List (Addr × Obj)} {σ : St} {H H' : Hp} {s : Shared} {b : Addr} (I : Inv X pins σ H s) (hb : s.heap.objs.size ≤ b) (hn : H' b = none) : wj X pins H' b := by
  refine ⟨hn, Nat.ne_of_gt (Nat.lt_of_lt_of_le I.lt hb), I.Lb hb, .inr (Nat.le_trans I.sz hb), fun x c e z => ?_, fun p hp z => ?_⟩
  · obtain ⟨v, q⟩ := I.cell x c e
    exact absurd (Nat.lt_of_lt_of_le q.lt (by rw [z]; exact hb)) (Nat.lt_irrefl _)
  · exact absurd (Nat.lt_of_lt_of_le (Heap.lt_size (I.pin p hp).1) (by rw [z]; exact hb)) (Nat.lt_irrefl _)
structure Turn (c : Bool) (P : Program) (w : World) (K : PySem.W.Frag) (tg : Expr) (J : It) (fp : List Addr) (it : Addr) (tn : Nat → Heap → Prop) : Prop where
  mem : it ∈ fp
  obj : ∀ i h, tn i h → ∀ b ∈ fp, ∃ o, h.get? b = some o ∧ ∀ v, o.data ≠ .cell v
  keep : ∀ i h h', tn i h → (∀ b ∈ fp, ∀ o, h.get? b = some o → h'.get? b = some o) → tn i h'
  item : ∀ (X : Cx), X.prog = P → X.w = w → X.K = K → (c = true → X.calm = true) → ∀ (i : Nat) (pins : List (Addr × Obj)) (s : Shared) (σ : St) (H : Hp) (E : Value → Shared → Prop), Inv X pins σ H s → (∀ b ∈ fp, wj X pins H b) → tn i s.heap → J.go i H →
    wpAny (model P w) X.A (pyNext (.ref it)) (fun r s1 => ∃ u, r = some u ∧
      wpAny (model P w) X.A (letOwnedTupleGo tg (.ref it) u) (fun _ s2 => ∃ x H', Inv X pins σ H' s2 ∧ RelV x u ∧ J.yld i H x H' ∧ tn (i + 1) s2.heap ∧ ∀ b ∈ fp, H' b = none) E s1) E s
  done : ∀ (X : Cx), X.prog = P → X.w = w → X.K = K → (c = true → X.calm = true) → ∀ (i : Nat) (pins : List (Addr × Obj)) (s : Shared) (σ : St) (H : Hp) (E : Value → Shared → Prop), Inv X pins σ H s → (∀ b ∈ fp, wj X pins H b) → tn i s.heap → J.stop i H →
    wpAny (model P w) X.A (pyNext (.ref it)) (fun r s1 => r = none ∧ Inv X pins σ H s1) E s
  self : ∀ (A : Around) (i : Nat) (s : Shared) (Q : Value → Shared → Prop) (E : Value → Shared → Prop), tn i s.heap → Q (.ref it) s → wpAny (model P w) A (pyIter (.ref it)) Q E s
theorem Turn.calm {c : Bool} {P : Program} {w : World} {K : PySem.W.Frag} {tg : Expr} {J : It} {fp : List Addr} {it : Addr} {tn : Nat → Heap → Prop} (T : Turn true P w K tg J fp it tn) (h : c = true) : Turn c P w K tg J fp it tn := by subst h; exact T
abbrev TI := St → Hp → (It → Hp → Prop) → Prop
noncomputable def PIE (X : Cx) (pins : List (Addr × Obj)) (σ : St) (tg : Expr) (R : It → Hp → Prop) (itv : Value) (s2 : Shared) : Prop :=
  ∃ (it : Addr) (fp : List Addr) (tn : Nat → Heap → Prop) (J : It) (H' : Hp), itv = .ref it ∧ Inv X pins σ H' s2 ∧ Turn X.calm X.prog X.w X.K tg J fp it tn ∧ tn 0 s2.heap ∧ (∀ b ∈ fp, wj X pins H' b) ∧ R J H'
noncomputable def PI (X : Cx) (tg iter : Expr) (wi : TI) : Prop :=
  ∀ (pins : List (Addr × Obj)) (s : Shared) (σ : St) (H : Hp) (R : It → Hp → Prop), Inv X pins σ H s → wi σ H R →
    wpAny (model X.prog X.w) X.A (eval iter X.env) (fun v s1 => wpAny (model X.prog X.w) X.A (pyIter v) (PIE X pins σ tg R) X.xe s1) X.xe s
theorem Bu {M : Model} {A : Around} {E : Value → Shared → Prop} {s : Shared} {tg : Expr} {it : Addr} {u : Value} {o : Obj} {n : String} {vs : Array Value} {Q : Unit → Shared → Prop} (ho : s.heap.get? it = some o) (hc : o.cls = .type n) (hd : o.data = .fields vs)
    (hn : ["enumerate", "zip", "dict_itemiterator", "dict_reverseitemiterator", "odict_iterator", "itertools.zip_longest", "itertools.pairwise"].contains n = false) (hQ : Q () s) : wpAny M A (letOwnedTupleGo tg (.ref it) u) Q E s := by
  unfold letOwnedTupleGo
  cases tg <;> first
    | exact wpAny_pure hQ
    | (cases u <;> first
        | exact wpAny_pure hQ
        | (refine wpAny_bind (wpAny_load ho ?_)
           rw [hc, hd]
           show wpAny M A (if (["enumerate", "zip", "dict_itemiterator", "dict_reverseitemiterator", "odict_iterator", "itertools.zip_longest", "itertools.pairwise"].contains n && vs[0]? == some (rawInt _)) = true then _ else _) Q E s
           rw [if_neg (by intro h; rw [hn, Bool.false_and] at h; cases h)]
           exact wpAny_pure hQ))
def Itl (K : PySem.W.Frag) (a : Addr) : It :=
  ⟨fun i H => ∃ xs x, SqL K H a xs ∧ xs[i]? = some x, fun i H x H' => H' = H ∧ ∀ xs, SqL K H a xs → xs[i]? = some x, fun i H => ∃ xs, SqL K H a xs ∧ xs.length ≤ i⟩
def Itt (K : PySem.W.Frag) (a : Addr) : It :=
  ⟨fun i H => ∃ xs x, SqT K H a xs ∧ xs[i]? = some x, fun i H x H' => H' = H ∧ ∀ xs, SqT K H a xs → xs[i]? = some x, fun i H => ∃ xs, SqT K H a xs ∧ xs.length ≤ i⟩
def Itr (lo : Int) (n : Nat) : It := ⟨fun i _ => i < n, fun i H x H' => H' = H ∧ x = .int (lo + i), fun i _ => n ≤ i⟩
theorem CB {c : Bool} {P : Program} {w : World} {K : PySem.W.Frag} {tg : Expr} (a it : Addr) : Turn c P w K tg (Itl K a) [it] it (fun i h => h.IsListIter it a i) where
  mem := by simp
  obj := fun i h st b hb => by
    have e : b = it := by simpa using hb
    subst e
    obtain ⟨o, e, c, d⟩ := st
    exact ⟨o, e, fun v z => by rw [d] at z; cases z⟩
  keep := fun i h h' st k => st.at fun o e => k it (by simp) o e
  item := by
    intro X hP hw hK hc i pins s σ H E I hf st hg
    subst hP hw hK
    obtain ⟨xs, x, hq, hx⟩ := hg
    obtain ⟨its, rv, p, hz⟩ := I.list hq
    obtain ⟨u, hu, ru⟩ := rv.get hx
    obtain ⟨f0, f1, f2, f3, f4, f5⟩ := hf it (by simp)
    refine wpAny_pyNext_list_item st p.isList (x := u) (by simpa using hu) fun h' st' sb => ?_
    have I1 : Inv X pins σ H { s with heap := h' } := I.turned (t' := s.toks) (fun b o hb e => (sb.2 b hb).trans e) f0 f1 f3 f4 f5
    obtain ⟨o, e, c, d⟩ := id st'
    exact ⟨u, rfl, Bu (s := { s with heap := h' }) e c d (by decide) ⟨x, H, I1, ru, ⟨rfl, fun ys hy => by rw [I.EH hy hq]; exact hx⟩, st', fun b hb => (hf b hb).1⟩⟩
  done := by
    intro X hP hw hK hc i pins s σ H E I hf st hg
    subst hP hw hK
    obtain ⟨xs, hq, hx⟩ := hg
    obtain ⟨its, rv, p, hz⟩ := I.list hq
    obtain ⟨f0, f1, f2, f3, f4, f5⟩ := hf it (by simp)
    have hl := rv.length
    exact uG I.AO (I.hne f5) st p.isList (by simp; omega) fun h' eb => ⟨rfl, I.turned (t' := s.toks) (fun b o hb e => eb b o hb e) f0 f1 f3 f4 f5⟩
  self := fun _ _ _ _ _ st h => wpAny_pyIter_listiter st h
theorem AG {c : Bool} {P : Program} {w : World} {K : PySem.W.Frag} {tg : Expr} (a it : Addr) : Turn c P w K tg (Itt K a) [it] it (fun i h => h.IsTupleIter it a i) where
  mem := by simp
  obj := fun i h st b hb => by
    have e : b = it := by simpa using hb
    subst e
    obtain ⟨o, e, c, d⟩ := st
    exact ⟨o, e, fun v z => by rw [d] at z; cases z⟩
  keep := fun i h h' st k => st.at fun o e => k it (by simp) o e
  item := by
    intro X hP hw hK hc i pins s σ H E I hf st hg
    subst hP hw hK
    obtain ⟨xs, x, hq, hx⟩ := hg
    obtain ⟨its, rv, p, hz⟩ := I.tuple hq
    obtain ⟨u, hu, ru⟩ := rv.get hx
    obtain ⟨f0, f1, f2, f3, f4, f5⟩ := hf it (by simp)
    refine wpAny_pyNext_tuple_item st (show s.heap.IsTuple a its.toArray from p) (x := u) (by simpa using hu) fun h' st' sb => ?_
    have I1 : Inv X pins σ H { s with heap := h' } := I.turned (t' := s.toks) (fun b o hb e => (sb.2 b hb).trans e) f0 f1 f3 f4 f5
    obtain ⟨o, e, c, d⟩ := id st'
    exact ⟨u, rfl, Bu (s := { s with heap := h' }) e c d (by decide) ⟨x, H, I1, ru, ⟨rfl, fun ys hy => by rw [I.Ci hy hq]; exact hx⟩, st', fun b hb => (hf b hb).1⟩⟩
  done := by
    intro X hP hw hK hc i pins s σ H E I hf st hg
    subst hP hw hK
    obtain ⟨xs, hq, hx⟩ := hg
    obtain ⟨its, rv, p, hz⟩ := I.tuple hq
    obtain ⟨f0, f1, f2, f3, f4, f5⟩ := hf it (by simp)
    have hl := rv.length
    exact nZ I.AO (I.hne f5) st (show s.heap.IsTuple a its.toArray from p) (by simp; omega) fun h' eb => ⟨rfl, I.turned (t' := s.toks) (fun b o hb e => eb b o hb e) f0 f1 f3 f4 f5⟩
  self := fun _ _ _ _ _ st h => wpAny_pyIter_tupleiter st h
theorem AR {P : Program} {w : World} {K : PySem.W.Frag} {tg : Expr} (it : Addr) (lo : Int) (n : Nat) : Turn true P w K tg (Itr lo n) [it] it (fun i h => IsRangeIter h it (lo + (i : Nat) * 1) ((n : Int) - (i : Nat)) 1) where
  mem := by simp
  obj := fun i h st b hb => by
    have e : b = it := by simpa using hb
    subst e
    exact ⟨_, st, fun v z => by
      have z' : Data.fields _ = Data.cell v := z
      cases z'⟩
  keep := fun i h h' st k => k it (by simp) _ st
  item := by
    intro X hP hw hK hc i pins s σ H E I hf st hg
    subst hP hw hK
    obtain ⟨f0, f1, f2, f3, f4, f5⟩ := hf it (by simp)
    have W := Walks.range (prog := X.prog) (w := X.w) (I.ok.hd (hc rfl)) it lo 1 n
    refine W.item i s _ _ hg st fun v h' tk hv st' kk => ?_
    obtain ⟨t, rfl⟩ := hv
    have I1 : Inv X pins σ H { s with heap := h', toks := tk } := I.turned (fun b o hb e => kk b o (by simpa using hb) e) f0 f1 f3 f4 f5
    refine ⟨_, rfl, Bu (s := { s with heap := h', toks := tk }) (n := "range_iterator") st' rfl rfl (by decide) ⟨.int (lo + i), H, I1, ⟨t, ?_⟩, ⟨rfl, rfl⟩, st', fun b hb => (hf b hb).1⟩⟩
    rw [Int.mul_one]
  done := by
    intro X hP hw hK hc i pins s σ H E I hf st hg
    subst hP hw hK
    obtain ⟨f0, f1, f2, f3, f4, f5⟩ := hf it (by simp)
    exact wpAny_pyNext_range_end (I.ok.hd (hc rfl)) st (by have : n ≤ i := hg; omega) fun h' eb => ⟨rfl, I.turned (t' := s.toks) (fun b o hb e => eb b o hb e) f0 f1 f3 f4 f5⟩
  self := fun _ _ _ _ _ st h => wpAny_pyIter_rangeiter st h
end L2
namespace L2
open PySem PySem.Spec PyProof.Rows
section
variable {X : Cx} {tg : Expr}
noncomputable def Kf (K : PySem.W.Frag) (tl : TE) : TI := fun σ H R => tl σ H fun x H1 => ∃ a, x = .ref a ∧ (∃ xs, SqL K H1 a xs) ∧ R (Itl K a) H1
noncomputable def K4 (K : PySem.W.Frag) (tl : TE) : TI := fun σ H R => tl σ H fun x H1 => ∃ a, x = .ref a ∧ (∃ xs, SqT K H1 a xs) ∧ R (Itt K a) H1
theorem GL {l : Expr} {tl : TE} (hl : PE X l tl) : PI X tg l (Kf X.K tl) := by
  intro pins s σ H R I h
  refine thn (hl pins s σ H _ I h) fun v s1 ⟨x, H1, I1, r1, q1⟩ => ?_
  obtain ⟨a, e, ⟨xs, hq⟩, q⟩ := q1
  subst e
  cases r1
  obtain ⟨its, rv, p, hz⟩ := I1.list hq
  refine wpAny_pyIter_list p.isList ?_
  refine ⟨s1.heap.objs.size, [s1.heap.objs.size], _, _, H1, rfl, I1.kept (t' := s1.toks) fun b o e => Heap.get?_push_of_some _ e, CB a _, ⟨_, Heap.get?_push_size _ rfl, rfl, rfl⟩, fun b hb => ?_, q⟩
  have e : b = s1.heap.objs.size := by simpa using hb
  subst e
  exact I1.E5 (Nat.le_refl _) (I1.hok.fresh (Nat.le_refl _))
theorem HS {l : Expr} {tl : TE} (hl : PE X l tl) : PI X tg l (K4 X.K tl) := by
  intro pins s σ H R I h
  refine thn (hl pins s σ H _ I h) fun v s1 ⟨x, H1, I1, r1, q1⟩ => ?_
  obtain ⟨a, e, ⟨xs, hq⟩, q⟩ := q1
  subst e
  cases r1
  obtain ⟨its, rv, p, hz⟩ := I1.tuple hq
  refine wpAny_pyIter_tuple (show s1.heap.IsTuple a its.toArray from p) ?_
  refine ⟨s1.heap.objs.size, [s1.heap.objs.size], _, _, H1, rfl, I1.kept (t' := s1.toks) fun b o e => Heap.get?_push_of_some _ e, AG a _, ⟨_, Heap.get?_push_size _ rfl, rfl, rfl⟩, fun b hb => ?_, q⟩
  have e : b = s1.heap.objs.size := by simpa using hb
  subst e
  exact I1.E5 (Nat.le_refl _) (I1.hok.fresh (Nat.le_refl _))
theorem yq (hc : X.calm = true) {pins : List (Addr × Obj)} {σ : St} {H : Hp} {s : Shared} {R : It → Hp → Prop} {E : Value → Shared → Prop} {lo hi : Int} {t u v : Tok} {tk : Nat} (I : Inv X pins σ H s) (h1 : -(2 ^ 62) ≤ lo) (h2 : lo < 2 ^ 62) (h3 : -(2 ^ 62) ≤ hi) (h4 : hi < 2 ^ 62)
    (q : R (Itr lo (hi - lo).toNat) H) : wpAny (model X.prog X.w) X.A (pyIter (.ref s.heap.objs.size)) (PIE X pins σ tg R) E { s with heap := s.heap.push { cls := .type "range", data := .fields #[.int lo t, .int hi u, .int 1 v] }, toks := tk } := by
  refine wpAny_pyIter_range (IsRange.new ..) (small_one h1 h2 h3 h4) ?_
  have I1 : Inv X pins σ H { s with heap := s.heap.push { cls := .type "range", data := .fields #[.int lo t, .int hi u, .int 1 v] }, toks := tk } := I.kept fun b o e => Heap.get?_push_of_some _ e
  refine ⟨(s.heap.push { cls := .type "range", data := .fields #[.int lo t, .int hi u, .int 1 v] }).objs.size, [(s.heap.push { cls := .type "range", data := .fields #[.int lo t, .int hi u, .int 1 v] }).objs.size], _, _, H, rfl,
    I1.kept (t' := tk) fun b o e => Heap.get?_push_of_some _ e, (AR _ lo (hi - lo).toNat).calm hc, ?_, fun b hb => ?_, q⟩
  · have e1 : lo + ((0 : Nat) : Int) * 1 = lo := by simp
    have e2 : (((hi - lo).toNat : Nat) : Int) - ((0 : Nat) : Int) = Builtin.Range.rangeSize lo hi 1 := by rw [rangeSize_one]; split <;> omega
    show IsRangeIter _ _ (lo + ((0 : Nat) : Int) * 1) ((((hi - lo).toNat : Nat) : Int) - ((0 : Nat) : Int)) 1
    rw [e1, e2]
    exact Heap.get?_push_size _ rfl
  · have e : b = (s.heap.push { cls := .type "range", data := .fields #[.int lo t, .int hi u, .int 1 v] }).objs.size := by simpa using hb
    subst e
    exact I1.E5 (Nat.le_refl _) (I1.hok.fresh (Nat.le_refl _))
noncomputable def Kz (ta : TA) : TI := fun σ H R => ta σ H fun vs H1 => ∃ j : Int, vs = [.int j] ∧ -(2 ^ 62) ≤ j ∧ j < 2 ^ 62 ∧ R (Itr 0 j.toNat) H1
noncomputable def KI (ta : TA) : TI := fun σ H R => ta σ H fun vs H1 => ∃ i j : Int, vs = [.int i, .int j] ∧ (-(2 ^ 62) ≤ i ∧ i < 2 ^ 62 ∧ -(2 ^ 62) ≤ j ∧ j < 2 ^ 62) ∧ R (Itr i (j - i).toNat) H1
theorem CF {a : Expr} {ta : TA} {p pos : Pos} (hc : X.calm = true) (hg : Gl X "range") (hm : X.mg "range" = none) (ha : PA X [a] ta) (hs : starEach [a] X.env = [(false, eval a X.env)] := by rfl) : PI X tg (.Call (.Name "range" p) [a] [] pos) (Kz ta) := by
  intro pins s σ H R I h
  refine Call_ (sy I hg hm boot_range (PyProof.Rows.callWith_type1 (thn (ha pos pins s σ H _ I h) fun us s1 ⟨vs, H1, I1, r1, q1⟩ => ?_) hs rfl))
  obtain ⟨j, e, q1, q2, q⟩ := q1
  subst e
  cases r1 with
  | cons r rr =>
    cases rr
    obtain ⟨t, rfl⟩ := r
    exact call_range_1 (yq hc I1 (by omega) (by omega) q1 q2 (by simpa using q))
theorem B7 {a b : Expr} {ta : TA} {p pos : Pos} (hc : X.calm = true) (hg : Gl X "range") (hm : X.mg "range" = none) (ha : PA X [a, b] ta) (hs : starEach [a, b] X.env = [(false, eval a X.env), (false, eval b X.env)] := by rfl) (hs2 : starEach [b] X.env = [(false, eval b X.env)] := by rfl) :
    PI X tg (.Call (.Name "range" p) [a, b] [] pos) (KI ta) := by
  intro pins s σ H R I h
  refine Call_ (sy I hg hm boot_range (PyProof.Rows.callWith_type1 (thn (ha pos pins s σ H _ I h) fun us s1 ⟨vs, H1, I1, r1, q1⟩ => ?_) (by rw [hs, hs2]) (by rw [hs2]; rfl)))
  obtain ⟨i, j, e, ⟨q1, q2, q3, q4⟩, q⟩ := q1
  subst e
  cases r1 with
  | cons r rr =>
    cases rr with
    | cons r' rr =>
      cases rr
      obtain ⟨t, rfl⟩ := r
      obtain ⟨t', rfl⟩ := r'
      exact call_range_2 (yq hc I1 q1 q2 q3 q4 q)
noncomputable def Lo (wi : TI) (g : TG) (tb : TS) : TS := fun D σ H => wi σ H fun J H1 => ∃ W : Nat → Nat → St → Hp → Prop, (∃ m, W 0 m σ H1) ∧ ∀ i m σ H, W i m σ H →
  (J.stop i H ∧ D.nx σ H) ∨ (J.go i H ∧ ∃ N : St → Hp → Prop, (∀ σ' H', N σ' H' → ∃ m', m' < m ∧ W (i + 1) m' σ' H') ∧ ∀ x H', J.yld i H x H' → g x σ H' fun σ2 H2 => tb { D with nx := N, ct := N, bk := D.nx } σ2 H2)
def pD (fp : List Addr) (h : Heap) : List (Addr × Obj) := fp.filterMap fun b => (h.get? b).map fun o => (b, o)
theorem eV {fp : List Addr} {h : Heap} {b : Addr} {o : Obj} (hb : b ∈ fp) (e : h.get? b = some o) : (b, o) ∈ pD fp h := List.mem_filterMap.mpr ⟨b, hb, by rw [e]; rfl⟩
theorem CG {fp : List Addr} {h : Heap} {p : Addr × Obj} (hp : p ∈ pD fp h) : p.1 ∈ fp ∧ h.get? p.1 = some p.2 := by
  obtain ⟨b, hb, e⟩ := List.mem_filterMap.mp hp
  cases q : h.get? b with
  | none => rw [q] at e; cases e
  | some o =>
    rw [q] at e
    have e' : (b, o) = p := Option.some.inj e
    subst e'
    exact ⟨hb, q⟩
theorem Inv.pinned {pins : List (Addr × Obj)} {σ : St} {H : Hp} {s : Shared} {fp : List Addr} (I : Inv X pins σ H s) (hf : ∀ b ∈ fp, wj X pins H b) (ho : ∀ b ∈ fp, ∃ o, s.heap.get? b = some o ∧ ∀ v, o.data ≠ .cell v) : Inv X (pins ++ pD fp s.heap) σ H s :=
  I.A7 fun p hp => (List.mem_append.mp hp).elim (fun z => I.pin p (List.mem_append_right _ z)) fun z => by
    obtain ⟨hb, e⟩ := CG z
    obtain ⟨f0, f1, f2, _⟩ := hf p.1 hb
    obtain ⟨o, e', d⟩ := ho p.1 hb
    rw [e] at e'; cases e'
    exact ⟨e, f0, f1, f2, d⟩
theorem Inv.j9 {pins pl : List (Addr × Obj)} {σ : St} {H : Hp} {s : Shared} (I : Inv X (pins ++ pl) σ H s) : Inv X pins σ H s := I.A7 fun p hp => I.pin p (List.mem_append_right _ (List.mem_append_left _ hp))
theorem HR {iter : Expr} {body : List Stmt} {wi : TI} {g : TG} {tb : TS} {pos : Pos} (hp : PassesOwn (model X.prog X.w) X.A X.env X.xe) (hc : X.calm = true) (hi : PI X tg iter wi) (hg : PG X tg g) (hb : PSs X body tb)
    (hs : ∀ x, foldedSetIterable iter X.env x = pure x := by intro _; rfl) : PS X (.For tg iter body [] pos) (Lo wi g tb) := by
  intro pins s σ H D I h
  refine wpAny_For (thn (hi pins s σ H _ I h) fun v s1 h1 => thn h1 fun itv s2 h2 => ?_) hs
  obtain ⟨it, fp, tn, J, H2, e, I2, T, st2, f2, W, ⟨m0, w0⟩, turn⟩ := h2
  subst e
  have stat : ∀ {H' : Hp}, (∀ b ∈ fp, H' b = none) → ∀ b ∈ fp, wj X pins H' b := fun hn b hb => ⟨hn b hb, (f2 b hb).2⟩
  refine codeAny_forLoop_any (fun n s' => ∃ i σ' H', Inv X pins σ' H' s' ∧ tn i s'.heap ∧ (∀ b ∈ fp, H' b = none) ∧ W i n σ' H') ?_ m0 ⟨0, σ, H2, I2, st2, fun b hb => (f2 b hb).1, w0⟩
  rintro n s3 ⟨i, σ3, H3, I3, st3, fr3, w3⟩
  rcases turn i n σ3 H3 w3 with ⟨stop, qn⟩ | ⟨go, N, hN, step⟩
  · refine wpAny_passesOwn hp (thn (T.done X rfl rfl rfl (fun z => z) i pins s3 σ3 H3 X.xe I3 (stat fr3) st3 stop) fun r s4 ⟨hr, I4⟩ => ?_)
    subst hr
    exact wpAny_execs_nil ⟨σ3, H3, I4, qn⟩
  · refine wpAny_passesOwn hp (thn (T.item X rfl rfl rfl (fun z => z) i pins s3 σ3 H3 X.xe I3 (stat fr3) st3 go) fun r s4 ⟨u, hr, h4⟩ => ?_)
    subst hr
    refine wpAny_passesOwn hp (thn h4 fun _ s5 ⟨x, H5, I5, r5, y5, st5, fr5⟩ => ?_)
    have I5' := I5.pinned (stat fr5) (T.obj _ _ st5)
    refine wpAny_passesOwn hp (thn (hg _ s5 σ3 H5 x u _ I5' r5 (step x H5 y5)) fun _ s6 ⟨σ6, H6, I6, q6⟩ => ?_)
    refine wpAny_passesOwn hp (thn (hb _ s6 σ6 H6 _ I6 q6) fun f s7 q7 => ?_)
    have again : ∀ {σ7 : St} {H7 : Hp}, Inv X (pins ++ pD fp s5.heap) σ7 H7 s7 → N σ7 H7 → ∃ m, m < n ∧ ∃ i σ' H', Inv X pins σ' H' s7 ∧ tn i s7.heap ∧ (∀ b ∈ fp, H' b = none) ∧ W i m σ' H' := fun {σ7 H7} I7 n7 => by
      obtain ⟨m', hm, w7⟩ := hN σ7 H7 n7
      refine ⟨m', hm, i + 1, σ7, H7, I7.j9, T.keep _ _ _ st5 fun b hb o e => (I7.pin (b, o) (List.mem_append_right _ (List.mem_append_right _ (eV hb e)))).1, fun b hb => ?_, w7⟩
      obtain ⟨o, e, d⟩ := T.obj _ _ st5 b hb
      exact (I7.pin (b, o) (List.mem_append_right _ (List.mem_append_right _ (eV hb e)))).2.1
    cases f with
    | next => obtain ⟨σ7, H7, I7, n7⟩ := q7; exact again I7 n7
    | cont => obtain ⟨σ7, H7, I7, n7⟩ := q7; exact again I7 n7
    | brk => obtain ⟨σ7, H7, I7, q7⟩ := q7; exact ⟨σ7, H7, I7.j9, q7⟩
    | ret v => obtain ⟨x7, σ7, H7, I7, r7, q7⟩ := q7; exact ⟨x7, σ7, H7, I7.j9, r7, q7⟩
end
end L2
namespace L2
open PySem PySem.Spec PyProof.Rows
abbrev R2 := V → V → Hp → VK → Prop
noncomputable def OpR (X : Cx) (f : Value → Value → Sem Value) (r : R2) : Prop :=
  ∀ (pins : List (Addr × Obj)) (s : Shared) (σ : St) (H : Hp) (x y : V) (v u : Value) (Q : VK), Inv X pins σ H s → RelV x v → RelV y u → r x y H Q →
    wpAny (model X.prog X.w) X.A (f v u) (EP X pins σ Q) X.xe s
noncomputable def UnR (X : Cx) (f : Value → Sem Value) (r : V → Hp → VK → Prop) : Prop :=
  ∀ (pins : List (Addr × Obj)) (s : Shared) (σ : St) (H : Hp) (x : V) (v : Value) (Q : VK), Inv X pins σ H s → RelV x v → r x H Q →
    wpAny (model X.prog X.w) X.A (f v) (EP X pins σ Q) X.xe s
noncomputable def ip (X : Cx) (f : Value) (r : List V → Hp → VK → Prop) : Prop :=
  ∀ (pins : List (Addr × Obj)) (s : Shared) (σ : St) (H : Hp) (xs : List V) (us : List Value) (Q : VK), Inv X pins σ H s → Vals xs us → r xs H Q →
    wpAny (model X.prog X.w) X.A (call f us) (EP X pins σ Q) X.xe s
noncomputable def K0 (X : Cx) (r : V → Hp → (Bool → Hp → Prop) → Prop) : Prop :=
  ∀ (pins : List (Addr × Obj)) (s : Shared) (σ : St) (H : Hp) (x : V) (v : Value) (Q : Bool → Hp → Prop), Inv X pins σ H s → RelV x v → r x H Q →
    wpAny (model X.prog X.w) X.A (truthy v) (TP X pins σ Q) X.xe s
noncomputable def tOp (r : R2) (ta tb : TE) : TE := fun σ H Q => ta σ H fun x H1 => tb σ H1 fun y H2 => r x y H2 Q
noncomputable def tUn (r : V → Hp → VK → Prop) (ta : TE) : TE := fun σ H Q => ta σ H fun x H1 => r x H1 Q
noncomputable def rI (C : Int → Int → Prop) (g : Int → Int → V) : R2 := fun x y H Q => ∃ i j, x = .int i ∧ y = .int j ∧ C i j ∧ Q (g i j) H
noncomputable def rI0 (g : Int → Int → V) : R2 := fun x y H Q => ∃ i j, x = .int i ∧ y = .int j ∧ Q (g i j) H
def rU (g : Int → V) : V → Hp → VK → Prop := fun x H Q => ∃ i, x = .int i ∧ Q (g i) H
section
variable {X : Cx} {a b c : Expr} {ta tb tc : TE} {pos : Pos}
theorem Hw (ha : PE X a ta) (hb : PE X b tb) {pins : List (Addr × Obj)} {s : Shared} {σ : St} {H : Hp} {R : V → V → Hp → Prop} (I : Inv X pins σ H s)
    (h : ta σ H fun x H1 => tb σ H1 fun y H2 => R x y H2) {Q : Value → Shared → Prop} {f : Value → Value → Sem Value}
    (hf : ∀ v u s2 x y H2, Inv X pins σ H2 s2 → RelV x v → RelV y u → R x y H2 → wpAny (model X.prog X.w) X.A (f v u) Q X.xe s2) :
    wpAny (model X.prog X.w) X.A (eval a X.env) (fun v s₁ => wpAny (model X.prog X.w) X.A (eval b X.env) (fun u s₂ => wpAny (model X.prog X.w) X.A (f v u) Q X.xe s₂) X.xe s₁) X.xe s := by
  refine thn (ha pins s σ H _ I h) fun v s1 ⟨x, H1, I1, r1, q1⟩ => ?_
  refine thn (hb pins s1 σ H1 _ I1 q1) fun u s2 ⟨y, H2, I2, r2, q2⟩ => ?_
  exact hf v u s2 x y H2 I2 r1 r2 q2
theorem KG {op : Operator} {r : R2} (ho : OpR X (binaryOp op) r) (ha : PE X a ta) (hb : PE X b tb) : PE X (.BinOp a op b pos) (tOp r ta tb) := by
  intro pins s σ H Q I h
  exact wpAny_BinOp (Hw ha hb I h fun v u s2 x y H2 I2 rx ry q => ho pins s2 σ H2 x y v u Q I2 rx ry q)
theorem EA {op : UnaryOp} {r : V → Hp → VK → Prop} (ho : UnR X (unaryOp op) r) (ha : PE X a ta) : PE X (.UnaryOp op a pos) (tUn r ta) := by
  intro pins s σ H Q I h
  exact UnaryOp_ (thn (ha pins s σ H _ I h) fun v s1 ⟨x, H1, I1, r1, q1⟩ => ho pins s1 σ H1 x v Q I1 r1 q1)
theorem opI {f : Value → Value → Sem Value} {C : Int → Int → Prop} {g : Int → Int → Int}
    (rule : ∀ (i j : Int) (t u : Tok) (s : Shared) (Q : Value → Shared → Prop) (E : Value → Shared → Prop), C i j → Q (.int (g i j) s.toks) { s with toks := s.toks + 1 } → wpAny (model X.prog X.w) X.A (f (.int i t) (.int j u)) Q E s) :
    OpR X f (rI C fun i j => .int (g i j)) := by
  intro pins s σ H x y v u Q I rx ry h
  obtain ⟨i, j, rfl, rfl, hc, q⟩ := h
  obtain ⟨t, rfl⟩ := rx
  obtain ⟨t', rfl⟩ := ry
  exact rule i j t t' s _ _ hc ⟨.int (g i j), H, I.tok _, ⟨_, rfl⟩, q⟩
theorem Ko {f : Value → Value → Sem Value} {g : Int → Int → Int}
    (rule : ∀ (i j : Int) (t u : Tok) (s : Shared) (Q : Value → Shared → Prop) (E : Value → Shared → Prop), Q (.int (g i j) s.toks) { s with toks := s.toks + 1 } → wpAny (model X.prog X.w) X.A (f (.int i t) (.int j u)) Q E s) :
    OpR X f (rI0 fun i j => .int (g i j)) := by
  intro pins s σ H x y v u Q I rx ry h
  obtain ⟨i, j, rfl, rfl, q⟩ := h
  obtain ⟨t, rfl⟩ := rx
  obtain ⟨t', rfl⟩ := ry
  exact rule i j t t' s _ _ ⟨.int (g i j), H, I.tok _, ⟨_, rfl⟩, q⟩
theorem FT {f : Value → Value → Sem Value} {g : Int → Int → Bool}
    (rule : ∀ (i j : Int) (t u : Tok) (s : Shared) (Q : Value → Shared → Prop) (E : Value → Shared → Prop), Q (.bool (g i j)) s → wpAny (model X.prog X.w) X.A (f (.int i t) (.int j u)) Q E s) :
    OpR X f (rI0 fun i j => .bl (g i j)) := by
  intro pins s σ H x y v u Q I rx ry h
  obtain ⟨i, j, rfl, rfl, q⟩ := h
  obtain ⟨t, rfl⟩ := rx
  obtain ⟨t', rfl⟩ := ry
  exact rule i j t t' s _ _ ⟨.bl (g i j), H, I, rfl, q⟩
noncomputable def IA (i j : Int) : Prop := 0 ≤ j ∧ j ≤ 1000000 ∧ i.natAbs < 2 ^ 64
noncomputable def FI (i j : Int) : Prop := (-(2 ^ 64) < i ∧ i < 2 ^ 64) ∨ (-(2 ^ 64) < j ∧ j < 2 ^ 64)
theorem FI.ok {i j : Int} (h : FI i j) : IntMulOk i j := by
  rcases h with ⟨h1, h2⟩ | ⟨h1, h2⟩
  · exact .of_left (intBits_le_64 h1 h2)
  · exact .of_right (intBits_le_64 h1 h2)
theorem Jo : OpR X (binaryOp .Add) (rI0 fun i j => .int (i + j)) := Ko fun _ _ _ _ _ _ _ q => add_int q
theorem IQ : OpR X (binaryOp .Sub) (rI0 fun i j => .int (i - j)) := Ko fun _ _ _ _ _ _ _ q => sub_int q
theorem Fn : OpR X (binaryOp .Mod) (rI (fun _ j => j ≠ 0) fun i j => .int (i.fmod j)) := opI fun _ _ _ _ _ _ _ hc q => mod_int' hc q
theorem IS : OpR X (binaryOp .Pow) (rI IA fun i j => .int (i ^ j.toNat)) := opI fun _ _ _ _ _ _ _ hc q => pow_int_small hc.1 hc.2.1 hc.2.2 q
theorem unI {f : Value → Sem Value} {g : Int → Int}
    (rule : ∀ (i : Int) (t : Tok) (s : Shared) (Q : Value → Shared → Prop) (E : Value → Shared → Prop), Q (.int (g i) s.toks) { s with toks := s.toks + 1 } → wpAny (model X.prog X.w) X.A (f (.int i t)) Q E s) :
    UnR X f (rU fun i => .int (g i)) := by
  intro pins s σ H x v Q I rx h
  obtain ⟨i, rfl, q⟩ := h
  obtain ⟨t, rfl⟩ := rx
  exact rule i t s _ _ ⟨.int (g i), H, I.tok _, ⟨_, rfl⟩, q⟩
theorem zr : UnR X (unaryOp .USub) (rU fun i => .int (-i)) := unI fun _ _ _ _ _ q => neg_int q
end
section
variable {X : Cx} {a b c : Expr} {ta tb tc : TE} {pos : Pos}
theorem Iv {pins : List (Addr × Obj)} {σ : St} {H : Hp} {s : Shared} {Q : VK} {k k' : Bool} (I : Inv X pins σ H s) (q : Q (.bl k) H) (e : k = k') : EP X pins σ Q (.bool k') s := by
  subst e
  exact ⟨.bl k, H, I, rfl, q⟩
theorem A3 : OpR X (compareOp .Lt) (rI0 fun i j => .bl (decide (i < j))) := FT fun _ _ _ _ _ _ _ q => lt_int q
theorem Dk : OpR X (compareOp .LtE) (rI0 fun i j => .bl (decide (i ≤ j))) := FT fun _ _ _ _ _ _ _ q => le_int q
theorem nL : OpR X (compareOp .Gt) (rI0 fun i j => .bl (decide (j < i))) := FT fun _ _ _ _ _ _ _ q => gt_int q
theorem Hk : OpR X (compareOp .GtE) (rI0 fun i j => .bl (decide (j ≤ i))) := FT fun _ _ _ _ _ _ _ q => ge_int q
theorem pR : OpR X (compareOp .In) (fun x y H Q => ∃ i j, x = .str i ∧ y = .str j ∧ Q (.bl (!(Builtin.Str.occurrences j i 0 j.length 1).isEmpty)) H) := by
  intro pins s σ H x y v u Q I rx ry h
  obtain ⟨i, j, rfl, rfl, q⟩ := h
  obtain ⟨t, rfl⟩ := rx
  obtain ⟨t', rfl⟩ := ry
  exact in_str (Iv I q rfl)
theorem az (b : Expr) {op : CmpOp} (h : op ≠ .In := by decide) (h2 : op ≠ .NotIn := by decide) : behindInMarks op b = false := by
  have e1 : (op == CmpOp.In) = false := by cases op <;> first | rfl | exact absurd rfl h
  have e2 : (op == CmpOp.NotIn) = false := by cases op <;> first | rfl | exact absurd rfl h2
  cases b <;> simp [behindInMarks, e1, e2]
theorem Gn {op : CmpOp} {r : R2} (ho : OpR X (compareOp op) r) (ha : PE X a ta) (hb : PE X b tb) (hm : behindInMarks op b = false) : PE X (.Compare a [op] [b] pos) (tOp r ta tb) := by
  intro pins s σ H Q I h
  exact wpAny_Compare1 (Hw ha hb I h fun v u s2 x y H2 I2 rx ry q => ho pins s2 σ H2 x y v u Q I2 rx ry q) hm
noncomputable def E6 (t : TE) : TT := fun σ H Q => t σ H fun x H' => ∃ k, x = .bl k ∧ Q k H'
theorem FW {op : CmpOp} {r : R2} (ho : OpR X (compareOp op) r) (ha : PE X a ta) (hb : PE X b tb) (hm : behindInMarks op b = false) : PT X (.Compare a [op] [b] pos) (E6 (tOp r ta tb)) := by
  intro pins s σ H Q I h
  refine wpAny_isTrue_Compare1 (thn (ha pins s σ H _ I h) fun v s1 ⟨x, H1, I1, r1, q1⟩ => thn (hb pins s1 σ H1 _ I1 q1) fun u s2 ⟨y, H2, I2, r2, q2⟩ =>
    thn (ho pins s2 σ H2 x y v u _ I2 r1 r2 q2) fun c s3 ⟨z, H3, I3, r3, k, e, q3⟩ => ?_) hm
  subst e
  cases r3
  exact wpAny_truthy_bool ⟨H3, I3, q3⟩
noncomputable def Ii (r r' : R2) (ta tb tc : TE) : TE := fun σ H Q => ta σ H fun x H1 => tb σ H1 fun y H2 => r x y H2 fun z H3 => ∃ k, z = .bl k ∧
  (if k = true then tc σ H3 fun w' H4 => r' y w' H4 Q else Q (.bl false) H3)
theorem Ej {op op' : CmpOp} {r r' : R2} (ho : OpR X (compareOp op) r) (ho' : OpR X (compareOp op') r') (ha : PE X a ta) (hb : PE X b tb) (hc : PE X c tc)
    (hm : lastMarks [op, op'] [b, c] = false := by with_unfolding_all rfl) : PT X (.Compare a [op, op'] [b, c] pos) (E6 (Ii r r' ta tb tc)) := by
  intro pins s σ H Q I h
  refine isTrue_chain (thn (ha pins s σ H _ I h) fun v s1 ⟨x, H1, I1, r1, q1⟩ => test_link (thn (hb pins s1 σ H1 _ I1 q1) fun u s2 ⟨y, H2, I2, r2, q2⟩ =>
    thn (ho pins s2 σ H2 x y v u _ I2 r1 r2 q2) fun d s3 ⟨z, H3, I3, r3, k, e, q3⟩ => ?_)) hm
  subst e
  cases r3
  refine wpAny_truthy_bool ?_
  cases k with
  | false =>
    obtain ⟨k', e', q'⟩ := q3
    cases e'
    exact ite_ff ⟨H3, I3, q'⟩
  | true =>
    refine ite_tt (test_last (thn (hc pins s3 σ H3 _ I3 q3) fun w' s4 ⟨z', H4, I4, r4, q4⟩ => thn (ho' pins s4 σ H4 y z' u w' _ I4 r2 r4 q4) fun d' s5 ⟨z2, H5, I5, r5, k2, e2, q5⟩ => ?_))
    subst e2
    cases r5
    exact wpAny_truthy_bool ⟨H5, I5, q5⟩
noncomputable def Km (K : PySem.W.Frag) (x : V) (H : Hp) (k : Bool) : Prop :=
  match x with
  | .non => k = false
  | .bl b => k = b
  | .int i => k = (i != 0)
  | .str y => y.length ≤ sizeLine ∧ k = ((y.length : Int) != 0)
  | .byt y => y.size ≤ sizeLine ∧ k = ((y.size : Int) != 0)
  | .ref p => (∃ xs, SqL K H p xs ∧ k = !xs.isEmpty) ∨ (∃ xs, SqT K H p xs ∧ k = !xs.isEmpty) ∨ ∃ kvs, H p = some (.dK kvs) ∧ k = !kvs.isEmpty
  | _ => False
theorem AK {κ : Type} {kvs : List (κ × V)} {vs : List (κ × Value)} (r : KV kvs vs) : (!vs.isEmpty) = !kvs.isEmpty := by
  cases r <;> rfl
theorem rY {xs : List V} {its : List Value} (r : Vals xs its) : (!its.toArray.isEmpty) = !xs.isEmpty := by
  cases r <;> simp
theorem nj : (sizeLine : Nat) < 2 ^ 63 := by rw [sizeLine_eq]; decide
theorem HC : K0 X (fun x H Q => ∃ k, Km X.K x H k ∧ Q k H) := by
  intro pins s σ H x v Q I rx h
  obtain ⟨k, e, q⟩ := h
  have hl := nj
  have hs : sizeLine = 16777216 := sizeLine_eq
  cases x with
  | non =>
    cases rx
    have e' : k = false := e
    subst e'
    exact truthy_none ⟨H, I, q⟩
  | bl b =>
    cases rx
    have e' : k = b := e
    subst e'
    exact wpAny_truthy_bool ⟨H, I, q⟩
  | int i =>
    obtain ⟨t, rfl⟩ := rx
    have e' : k = (i != 0) := e
    subst e'
    exact PySem.P.truthy_int ⟨H, I, q⟩
  | str y =>
    obtain ⟨t, rfl⟩ := rx
    obtain ⟨hy, e'⟩ : y.length ≤ sizeLine ∧ k = ((y.length : Int) != 0) := e
    subst e'
    exact PySem.P.truthy_str (by omega) ⟨H, I.tok _, q⟩
  | byt y =>
    obtain ⟨t, rfl⟩ := rx
    obtain ⟨hy, e'⟩ : y.size ≤ sizeLine ∧ k = ((y.size : Int) != 0) := e
    subst e'
    exact PySem.W.truthy_bytes (by omega) ⟨H, I.tok _, q⟩
  | ref p =>
    cases rx
    have e' : (∃ xs, SqL X.K H p xs ∧ k = !xs.isEmpty) ∨ (∃ xs, SqT X.K H p xs ∧ k = !xs.isEmpty) ∨ ∃ kvs, H p = some (.dK kvs) ∧ k = !kvs.isEmpty := e
    rcases e' with ⟨xs, hx, e'⟩ | ⟨xs, hx, e'⟩ | ⟨kvs, hx, e'⟩
    · subst e'
      obtain ⟨its, r, pl, hz⟩ := I.list hx
      have hlen := r.length
      exact wpAny_truthy_list pl.isList (by simp only [List.size_toArray]; omega) ⟨H, I.tok _, by rw [rY r]; exact q⟩
    · subst e'
      obtain ⟨its, r, pl, hz⟩ := I.tuple hx
      have hlen := r.length
      exact truthy_tuple pl (by simp only [List.size_toArray]; omega) ⟨H, I.tok _, by rw [rY r]; exact q⟩
    · subst e'
      obtain ⟨hz, hS, vs, r, m⟩ : kvs.length ≤ sizeLine ∧ (p == sysModules) = false ∧ ∃ vs, KV kvs vs ∧ s.heap.DictOf (wM X.prog X.w) p vs := I.hok p _ hx
      have hlen : kvs.length = vs.length := Paired.length r
      exact wpAny_truthy_dict hS m (by omega) ⟨H, I.tok _, by rw [AK r]; exact q⟩
  | _ => exact (show False from e).elim
theorem Dt (ha : PE X a ta) (he : ∀ whole, isTrue a X.env whole = (do let v ← whole; standAt a.pos; holding [v] (truthy v))) :
    PT X a (fun σ H Q => ta σ H fun x H' => ∃ k, Km X.K x H' k ∧ Q k H') := by
  intro pins s σ H Q I h
  exact isTrue_plain (thn (ha pins s σ H _ I h) fun v s1 ⟨x, H1, I1, r1, q1⟩ => HC pins s1 σ H1 x v Q I1 r1 q1) (he _)
theorem zG : OpR X (binaryOp .Add) (fun x y H Q => ∃ i j, x = .str i ∧ y = .str j ∧ i.length + j.length ≤ sizeLine ∧ Q (.str (i ++ j)) H) := by
  intro pins s σ H x y v u Q I rx ry h
  obtain ⟨i, j, rfl, rfl, hz, q⟩ := h
  obtain ⟨t, rfl⟩ := rx
  obtain ⟨t', rfl⟩ := ry
  exact add_str (fun t' tk => ⟨.str (i ++ j), H, I.tok _, ⟨_, rfl⟩, q⟩) hz
theorem vals1 {x : V} {us : List Value} (r : Vals [x] us) : ∃ u, us = [u] ∧ RelV x u := by
  cases r with
  | cons r1 r2 => cases r2; exact ⟨_, rfl, r1⟩
theorem vals2 {x y : V} {us : List Value} (r : Vals [x, y] us) : ∃ u w', us = [u, w'] ∧ RelV x u ∧ RelV y w' := by
  cases r with
  | cons r1 r2 =>
    cases r2 with
    | cons r3 r4 => cases r4; exact ⟨_, _, rfl, r1, r3⟩
theorem Dz : ip X (.builtin "abs") (fun xs H Q => ∃ i, xs = [.int i] ∧ Q (.int (if i < 0 then -i else i)) H) := by
  intro pins s σ H xs us Q I r h
  obtain ⟨i, rfl, q⟩ := h
  obtain ⟨u, rfl, t, rfl⟩ := vals1 r
  exact call_abs_int fun u tk => ⟨.int (if i < 0 then -i else i), H, I.tok _, ⟨_, rfl⟩, q⟩
theorem CK (hc : X.calm = true) : ip X (.builtin "max") (fun xs H Q => ∃ i j, xs = [.int i, .int j] ∧ Q (.int (if j > i then j else i)) H) := by
  intro pins s σ H xs us Q I r h
  obtain ⟨i, j, rfl, q⟩ := h
  obtain ⟨u, w', rfl, ⟨t, rfl⟩, ⟨t', rfl⟩⟩ := vals2 r
  refine max_two_ints (I.ok.hd hc) fun h' tk k => ⟨_, H, I.kept k, ?_, q⟩
  by_cases hj : j > i
  · rw [if_pos hj, if_pos hj]; exact ⟨_, rfl⟩
  · rw [if_neg hj, if_neg hj]; exact ⟨_, rfl⟩
theorem Ca (hc : X.calm = true) : ip X (.builtin "min") (fun xs H Q => ∃ i j, xs = [.int i, .int j] ∧ Q (.int (if j < i then j else i)) H) := by
  intro pins s σ H xs us Q I r h
  obtain ⟨i, j, rfl, q⟩ := h
  obtain ⟨u, w', rfl, ⟨t, rfl⟩, ⟨t', rfl⟩⟩ := vals2 r
  refine min_two_ints (I.ok.hd hc) fun h' tk k => ⟨_, H, I.kept k, ?_, q⟩
  by_cases hj : j < i
  · rw [if_pos hj, if_pos hj]; exact ⟨_, rfl⟩
  · rw [if_neg hj, if_neg hj]; exact ⟨_, rfl⟩
theorem Cf : ip X (.type "int") (fun xs H Q => (∃ i, xs = [.int i] ∧ Q (.int i) H) ∨ ∃ k, xs = [.bl k] ∧ Q (.int (if k then 1 else 0)) H) := by
  intro pins s σ H xs us Q I r h
  rcases h with ⟨i, rfl, q⟩ | ⟨k, rfl, q⟩
  · obtain ⟨u, rfl, t, rfl⟩ := vals1 r
    exact call_int_int ⟨.int i, H, I, ⟨_, rfl⟩, q⟩
  · obtain ⟨u, rfl, r1⟩ := vals1 r
    cases r1
    exact call_int_bool ⟨.int (if k then 1 else 0), H, I.tok _, ⟨_, rfl⟩, q⟩
theorem vI : ip X (.type "str") (fun xs H Q => ∃ i, xs = [.int i] ∧ i.natAbs.log2 < 1920 ∧ Q (.str (toString i)) H) := by
  intro pins s σ H xs us Q I r h
  obtain ⟨i, rfl, hz, q⟩ := h
  obtain ⟨u, rfl, t, rfl⟩ := vals1 r
  exact PySem.P.str_of_int hz ⟨.str _, H, I.tok _, ⟨_, rfl⟩, q⟩
end
end L2
namespace L2
open PySem PySem.Spec PyProof.Rows
section
variable {prog : Program} {w : World} {A : Around} {E : Value → Shared → Prop} {s : Shared} {K : PySem.W.Frag} {x dx C f : Addr} {mA : Str → Option Value} {name : Str} {v : Value}
end
section
variable {P : Program} {w : World} {H H' : Hp} {h h' : Heap} {a C dx : Addr} {fs fs' : List (Str × V)}
end
section
variable {X : Cx} {pins : List (Addr × Obj)} {σ : St} {H : Hp} {s : Shared} {a C dx : Addr} {fs : List (Str × V)} {f : Str} {v : V} {A : Around} {E : Value → Shared → Prop}
end
section
variable {X : Cx} {o e value : Expr} {f : Str} {pos pos' tpos : Pos} {ta tv : TE}
end
section
variable {X : Cx} {pins : List (Addr × Obj)} {σ : St} {H : Hp} {s : Shared} {A : Around} {E : Value → Shared → Prop} {Q : Value → Shared → Prop} {c : Value} {b : Bool}
end
end L2
namespace L2
open PySem PySem.Spec PyProof.Rows
structure eN (k : Nat) (A : Around) : Prop where
  hd : A.handled = none
  dp : A.depth + 3 * k + 5 < recursionLimit
  un : A.units + 16 * k + 200 < cLine
theorem eN.mono {j k : Nat} {A : Around} (r : eN k A) (h : j ≤ k) : eN j A := ⟨r.hd, by have := r.dp; omega, by have := r.un; omega⟩
theorem eN.deeper {k : Nat} {A : Around} (r : eN (k + 1) A) (env : Env) : eN k (A.deeper env) :=
  ⟨r.hd, by have := r.dp; show A.depth + 1 + 3 * k + 5 < _; omega, by have := r.un; show A.units + 3 + 16 * k + 200 < _; omega⟩
theorem eN.depth {k : Nat} {A : Around} (r : eN k A) : A.depth < recursionLimit := by have := r.dp; omega
theorem eN.units {k : Nat} {A : Around} (r : eN k A) : A.units + 64 < cLine := by have := r.un; omega
noncomputable def JX : TA := fun _ H Q => Q [] H
noncomputable def JP (ta : TE) (tr : TA) : TA := fun σ H Q => ta σ H fun x H1 => tr σ H1 fun xs H2 => Q (x :: xs) H2
section
variable {X : Cx} {e : Expr} {es : List Expr} {te : TE} {t : TA} {pos : Pos}
theorem jP : PA X [] JX := fun _ _ _ _ H Q I h => Calls.spliced_nil ⟨[], H, I, .nil, h⟩
theorem cY (ha : PE X e te) (hr : PA X es t) (hs : starEach (e :: es) X.env = (false, eval e X.env) :: starEach es X.env := by rfl) : PA X (e :: es) (JP te t) := by
  intro pos pins s σ H Q I h
  rw [hs]
  show wpAny _ _ (spliced ((false, eval e X.env) :: backTo pos (starEach es X.env))) _ _ s
  refine Calls.spliced_cons (thn (ha pins s σ H _ I h) fun u s1 ⟨x, H1, I1, r1, q1⟩ => ?_)
  exact thn (hr pos pins s1 σ H1 _ I1 q1) fun us s2 ⟨xs, H2, I2, r2, q2⟩ => ⟨x :: xs, H2, I2, .cons r1 r2, q2⟩
noncomputable def Lm (t : TA) : TE := fun σ H Q => t σ H fun xs H1 => xs.length ≤ sizeLine ∧ ∀ p, H1 p = none → Q (.ref p) (upd H1 p (.tup xs))
noncomputable def K2 (t : TA) : TE := fun σ H Q => t σ H fun xs H1 => xs.length ≤ sizeLine ∧ ∀ p, H1 p = none → Q (.ref p) (upd H1 p (.lst xs))
theorem Js {x1} (h : PA X es t) : PE X (.Tuple es x1 pos) (Lm t) := by
  intro pins s σ H Q I hq
  refine wpAny_Tuple_spliced (thn (h pos pins s σ H _ I hq) fun us s1 ⟨xs, H1, I1, r, z, q⟩ => ⟨by rw [← r.length]; exact z, ?_⟩)
  have hf : H1 s1.heap.objs.size = none := I1.hok.fresh (Nat.le_refl _)
  refine ⟨.ref s1.heap.objs.size, upd H1 s1.heap.objs.size (.tup xs), I1.laid (t' := s1.toks) (fun b u e => Heap.get?_push_of_some _ e) (Nat.le_refl _) ?_, rfl, q _ hf⟩
  exact ⟨z, us, r, ⟨_, Heap.get?_push_size _ rfl, rfl, _, rfl⟩⟩
theorem Je (h : PA X es t) : PE X (.List es pos) (K2 t) := by
  intro pins s σ H Q I hq
  refine wpAny_List_spliced (thn (h pos pins s σ H _ I hq) fun us s1 ⟨xs, H1, I1, r, z, q⟩ => ⟨by rw [← r.length]; exact z, ?_⟩)
  have hf : H1 s1.heap.objs.size = none := I1.hok.fresh (Nat.le_refl _)
  refine ⟨.ref s1.heap.objs.size, upd H1 s1.heap.objs.size (.lst xs), I1.laid (t' := s1.toks) (fun b u e => Heap.get?_push_of_some _ e) (Nat.le_refl _) ?_, rfl, q _ hf⟩
  exact ⟨z, us, 0, r, Heap.get?_push_size _ rfl⟩
end
abbrev Sp := List V → Hp → VK → XK → Prop
abbrev CXT := List Env → Hp → Shared → XK → Value → Shared → Prop
structure zp (P : Program) (w : World) (K : PySem.W.Frag) (mg : Str → Option Value) (base : Heap) (A : Around) (outer : List Env) (s : Shared) (H : Hp) : Prop where
  frames : A.frames = some outer
  mod : Mod K mg base
  bs : ∀ b o, base.get? b = some o → s.heap.get? b = some o ∧ H b = none
  bsz : base.objs.size ≤ s.heap.objs.size
  nk : s.heap.FunFrames base outer
  frf : ∀ b ∈ frs outer, H b = none
  hok : HOk P w H s.heap
  bare : AllBare s.gens
noncomputable def CE (outer : List Env) (P : Program) (w : World) (H : Hp) (s : Shared) (Q : VK) (u : Value) (s' : Shared) : Prop :=
  ∃ v H', s'.os = s.os ∧ AllBare s'.gens ∧ Un (frs outer) [] H H' s.heap s'.heap ∧ HOk P w H' s'.heap ∧ RelV v u ∧ Q v H'
noncomputable def CR (CX : CXT) (outer : List Env) (P : Program) (w : World) (H : Hp) (s : Shared) (Q : VK) (E : XK) (r : Result) (s' : Shared) : Prop :=
  match r with
  | .ok (.ret u) => CE outer P w H s Q u s'
  | .ok _ => False
  | .error e => CX outer H s E e s'
structure bS (P : Program) (w : World) (K : PySem.W.Frag) (mg : Str → Option Value) (base : Heap) (CX : CXT) (k : Nat) (f : Addr) (fd : FuncData) (ps : List Str) (sp : Sp) : Prop where
  len : ∀ vs H Q E, sp vs H Q E → vs.length = ps.length
  run : ∀ (A : Around) (outer : List Env) (s : Shared) (H : Hp) (args : Args) (us : List Value) (vs : List V) (Q : VK) (E : XK), eN k A → zp P w K mg base A outer s H → BindsTo s fd args (ps.zip us) → Vals vs us → sp vs H Q E →
    codeAny (model P w) A (.call (.ref f) args) (CR CX outer P w H s Q E) s
section
variable {X : Cx} {pins : List (Addr × Obj)} {σ : St} {H : Hp} {s s' : Shared}
theorem Inv.Jz (I : Inv X pins σ H s) : zp X.prog X.w X.K X.mg X.base X.A X.stack s H :=
  ⟨I.ok.frames, I.ok.mod, I.bs, Nat.le_trans I.ok.bsz I.sz, I.stack, I.qV, I.hok, I.bare⟩
theorem Inv.after {Q : VK} {u : Value} (I : Inv X pins σ H s) (h : CE X.stack X.prog X.w H s Q u s') : EP X pins σ Q u s' := by
  obtain ⟨v, H', os, bare, un, hok, r, q⟩ := h
  obtain ⟨hh, g, d, t, os'⟩ := s'
  obtain rfl : os' = s.os := os
  exact ⟨v, H', I.call (h' := hh) (g' := g) (d' := d) (t' := t) (ch := []) un hok bare (fun b z => absurd z (by simp)), r, q⟩
end
noncomputable def G6 (sp : Sp) (dvs : List V) (E : XK) (t : TA) : TE := fun σ H Q => t σ H fun vs H1 => sp (vs ++ dvs) H1 Q E
noncomputable def Binds (K : PySem.W.Frag) (fd : FuncData) (ps : List Str) (ds : List Value) : Prop :=
  ∀ (s : Shared) (us : List Value), K.In s.heap → (us ++ ds).length = ps.length → BindsTo s fd ⟨us, []⟩ (ps.zip (us ++ ds))
theorem Binds.all {K : PySem.W.Frag} {fd : FuncData} {ps : List Str} (h : ∀ us : List Value, us.length = ps.length → bindArgs fd ⟨us, []⟩ = pure (ps.zip us)) : Binds K fd ps [] := fun s us _ hl => by
  rw [List.append_nil] at hl ⊢
  exact .of_eq (h us hl)
noncomputable def Passes (CX : CXT) (X : Cx) (E : XK) : Prop := ∀ (pins : List (Addr × Obj)) (σ : St) (H : Hp) (s : Shared) (e : Value) (s' : Shared), Inv X pins σ H s → CX X.stack H s E e s' → X.xe e s'
section
variable {X : Cx} {CX : CXT} {k : Nat} {f C : Addr} {fd : FuncData} {ps : List Str} {sp : Sp} {dvs : List V} {ds : List Value} {E : XK} {x m : Str} {p pos apos : Pos} {e o : Expr} {es : List Expr} {ta : TE} {t : TA}
theorem Dy {pins : List (Addr × Obj)} {σ : St} {H : Hp} {s : Shared} {Q : VK} {us : List Value} {vs : List V} (F : bS X.prog X.w X.K X.mg X.base CX k f fd ps sp) (hr : eN k X.A) (hb : Binds X.K fd ps ds) (hd : Vals dvs ds) (hx : Passes CX X E)
    (I : Inv X pins σ H s) (r : Vals vs us) (h : sp (vs ++ dvs) H Q E) : wpAny (model X.prog X.w) X.A (call (.ref f) us) (EP X pins σ Q) X.xe s := by
  have r2 : Vals (vs ++ dvs) (us ++ ds) := r.append hd
  have hl : (us ++ ds).length = ps.length := by rw [← r2.length]; exact F.len _ _ _ _ h
  refine wpAny_call (codeAny_mono (F.run X.A X.stack s H ⟨us, []⟩ (us ++ ds) (vs ++ dvs) Q E hr I.Jz (hb s us I.kIn hl) r2 h) fun r s' hq => ?_)
  cases r with
  | error e => exact hx pins σ H s e s' I hq
  | ok fl =>
    cases fl with
    | ret u => exact I.after hq
    | next => exact False.elim hq
    | brk => exact False.elim hq
    | cont => exact False.elim hq
theorem vV (F : bS X.prog X.w X.K X.mg X.base CX k f fd ps sp) (hr : eN k X.A) (hg : Gl X x) (hm : X.mg x = some (.ref f)) (hk : PySem.W.keepIn X.K (.ref f) = true) (hb : Binds X.K fd ps ds) (hd : Vals dvs ds) (hx : Passes CX X E)
    (ha : PA X (e :: es) t) (hdb : (x == ("__debug__" : Str)) = false := by decide) (he : starEach (e :: es) X.env = (false, eval e X.env) :: starEach es X.env := by rfl) (hpl : (backTo pos (starEach es X.env)).any (·.1) = false := by rfl) :
    PE X (.Call (.Name x p) (e :: es) [] pos) (G6 sp dvs E t) := by
  intro pins s σ H Q I h
  refine wpAny_Call_Name_kw (mw I hg hm ?_ hdb)
  refine PySem.W.callWith_K (h₀ := X.base) I.ok.mod.kin hk (thn (ha pos pins s σ H _ I h) fun us s1 ⟨vs, H1, I1, r, q⟩ => ⟨I1.kIn, ?_⟩) he hpl
  exact Dy F hr hb hd hx I1 r q
theorem CT (F : bS X.prog X.w X.K X.mg X.base CX k f fd ps sp) (hr : eN k X.A) (hg : Gl X x) (hm : X.mg x = some (.ref f)) (hk : PySem.W.keepIn X.K (.ref f) = true) (hb : Binds X.K fd ps ds) (hd : Vals dvs ds) (hx : Passes CX X E)
    (hdb : (x == ("__debug__" : Str)) = false := by decide) : PE X (.Call (.Name x p) [] [] pos) (G6 sp dvs E JX) := by
  intro pins s σ H Q I h
  refine wpAny_Call_Name_kw (mw I hg hm ?_ hdb)
  exact PySem.W.callWith_K0 I.kIn hk (Dy (us := []) F hr hb hd hx I .nil h)
end
section
variable {X : Cx} {CX : CXT} {k : Nat} {f C : Addr} {fd : FuncData} {ps ks : List Str} {sp : Sp} {E : XK} {x m : Str} {p pos apos kpos : Pos} {e o : Expr} {es : List Expr} {kws : List Keyword} {te ta : TE} {t tk : TA} {nm : Option Str}
variable {g : List Value → List Value → List Value} {gV : List V → List V → List V}
end
structure aR (N P : List Str) (sc : Scope) : Prop where
  kind : sc.kind = .function
  co : sc.isCoroutine = false
  gen : sc.isGenerator = false
  nd : N.Nodup
  pre : N.take P.length = P
  par : ∀ x ∈ P, sc.names.lookup x = some .local ∨ sc.names.lookup x = some .cell
  Hz : ∀ y ∈ sc.names, y.2 ≠ .free
theorem uX {kindOf : Str → Option NameKind} {x : Str} : ∀ {binds : List (Str × Value)} {m : Str → Option Value}, (∀ v, (x, v) ∉ binds) → bindL kindOf binds m x = m x
  | [], _, _ => rfl
  | (n, v) :: r, m, h => by
    unfold bindL
    rw [uX fun w hw => h w (List.mem_cons_of_mem _ hw)]
    split
    · have : x ≠ n := by rintro rfl; exact h v List.mem_cons_self
      simp [this]
    · rfl
theorem vk {kindOf : Str → Option NameKind} {x : Str} : ∀ {binds : List (Str × Value)} {m : Str → Option Value}, (∀ v, (x, v) ∉ binds) → bindC kindOf binds m x = m x
  | [], _, _ => rfl
  | (n, v) :: r, m, h => by
    unfold bindC
    rw [vk fun w hw => h w (List.mem_cons_of_mem _ hw)]
    split
    · rfl
    · have : x ≠ n := by rintro rfl; exact h v List.mem_cons_self
      simp [this]
theorem vp {kindOf : Str → Option NameKind} {x : Str} {v : Value} : ∀ {P : List Str} {vs : List Value} {i : Nat} {m : Str → Option Value}, P.Nodup → P[i]? = some x → vs[i]? = some v → kindOf x = some .local →
    bindL kindOf (P.zip vs) m x = some v
  | [], _, _, _, _, h, _, _ => by simp at h
  | _ :: _, [], _, _, _, _, h, _ => by simp at h
  | p :: P, w :: vs, 0, m, nd, h1, h2, hk => by
    simp at h1 h2; subst h1; subst h2
    show bindL kindOf ((p, w) :: P.zip vs) m p = _
    unfold bindL
    rw [uX fun v hv => (List.nodup_cons.mp nd).1 (List.of_mem_zip hv).1, if_pos hk]
    simp
  | p :: P, w :: vs, i + 1, m, nd, h1, h2, hk => by
    show bindL kindOf ((p, w) :: P.zip vs) m x = _
    unfold bindL
    exact vp (i := i) (List.nodup_cons.mp nd).2 (by simpa using h1) (by simpa using h2) hk
theorem vj {kindOf : Str → Option NameKind} {x : Str} {v : Value} : ∀ {P : List Str} {vs : List Value} {i : Nat} {m : Str → Option Value}, P.Nodup → P[i]? = some x → vs[i]? = some v → kindOf x ≠ some .local →
    bindC kindOf (P.zip vs) m x = some v
  | [], _, _, _, _, h, _, _ => by simp at h
  | _ :: _, [], _, _, _, _, h, _ => by simp at h
  | p :: P, w :: vs, 0, m, nd, h1, h2, hk => by
    simp at h1 h2; subst h1; subst h2
    show bindC kindOf ((p, w) :: P.zip vs) m p = _
    unfold bindC
    rw [vk fun v hv => (List.nodup_cons.mp nd).1 (List.of_mem_zip hv).1, if_neg hk]
    simp
  | p :: P, w :: vs, i + 1, m, nd, h1, h2, hk => by
    show bindC kindOf ((p, w) :: P.zip vs) m x = _
    unfold bindC
    exact vj (i := i) (List.nodup_cons.mp nd).2 (by simpa using h1) (by simpa using h2) hk
def start (N : List Str) (vs : List V) : St := vs.map some ++ List.replicate (N.length - vs.length) none
def jN (CX : CXT) (P : Program) (w : World) (K : PySem.W.Frag) (mg : Str → Option Value) (base : Heap) (N : List Str) (qual : Str) (scope : Scope) (f : Addr) (cd : Value) (A : Around) (outer : List Env) (s : Shared) (H : Hp) (E : XK) : Cx where
  prog := P
  w := w
  K := K
  mg := mg
  base := base
  A := A.deeper (envOfC qual scope s.heap.objs.size f cd)
  N := N
  s₀ := s
  H₀ := H
  env := envOfC qual scope s.heap.objs.size f cd
  outer := outer
  stack := envOfC qual scope s.heap.objs.size f cd :: outer
  ex := []
  calm := true
  fn := fun _ => true
  pn := []
  xe := fun e s' => wpAny (model P w) (A.deeper (envOfC qual scope s.heap.objs.size f cd)) (leaving (envOfC qual scope s.heap.objs.size f cd) e) (fun _ s'' => CX outer H s E e s'') (fun e' s'' => CX outer H s E e' s'') s'
theorem zq {sc : Scope} {n : Nat} {x : Str} (h : sc.names.lookup x = some .cell) : ∃ c, (cellsFrom n sc.names []).lookup x = some c := by
  have q := PySem.W.cellsFrom_some sc.names n [] (.inl h)
  exact Option.isSome_iff_exists.mp q
theorem vv {CX : CXT} {P : Program} {w : World} {K : PySem.W.Frag} {mg : Str → Option Value} {base : Heap} {N ps : List Str} {qual : Str} {scope : Scope} {f : Addr} {cd : Value} {A : Around} {outer : List Env} {s s1 : Shared} {H : Hp} {E : XK} {us : List Value} {vs : List V}
    (S : aR N ps scope) (hd : A.handled = none) (e0 : zp P w K mg base A outer s H) (hl : vs.length = ps.length) (r : Vals vs us)
    (x : InCallC s s.heap.objs.size (bindL (envOfC qual scope s.heap.objs.size f cd).kindOf (ps.zip us) fun _ => none) (cellsFrom (s.heap.objs.size + 1) scope.names []) (bindC (envOfC qual scope s.heap.objs.size f cd).kindOf (ps.zip us) fun _ => none) s1) :
    Inv (jN CX P w K mg base N qual scope f cd A outer s H E) [] (start N vs) H s1 := by
  have hpl : ps.length ≤ N.length := by have := congrArg List.length S.pre; rw [List.length_take] at this; omega
  obtain ⟨h1, tk, rfl, hk⟩ := x.done
  have noA : ∀ b : Addr, b ∉ (jN CX P w K mg base N qual scope f cd A outer s H E).ex := fun b z => absurd (show b ∈ ([] : List Addr) from z) (by simp)
  refine ⟨⟨e0.mod, S.kind, rfl, rfl, Nat.le_refl _, fun y z c h1 h2 => ?_, fun y hy => ?_, fun y c _ h => ?_, fun _ => hd, .inl hd, Around.frames_deeper e0.frames, .inr ⟨rfl, rfl⟩, fun b z => absurd z (noA b), e0.bs, e0.bsz, fun b _ _ => noA b, fun b z => absurd z (noA b), e0.nk, e0.frf⟩,
    rfl, e0.bare, Un.kept hk, ⟨_, x.toInCall.ns, fun i y v h1 h2 h3 => ?_⟩, fun y c h => ⟨_, x.cell y c h⟩, e0.hok.fresh (Nat.le_refl _), fun y c h => ?_, fun p hp => absurd (show p ∈ ([] : List (Addr × Obj)) from hp) (by simp), e0.hok.kept hk, ?_⟩
  · exact name_of_addr x.apart (PySem.mem_of_lookup h1) (PySem.mem_of_lookup h2)
  · have hy : scope.names.lookup y = some .cell ∨ scope.names.lookup y = some .free := hy
    rcases hy with hy | hy
    · exact zq hy
    · exact absurd rfl (S.Hz _ (PySem.mem_of_lookup hy))
  · exact Nat.le_of_lt (x.above y c (PySem.mem_of_lookup h))
  · have hi : i < vs.length := by
      unfold start at h2
      by_cases hi : i < vs.length
      · exact hi
      · rw [List.getElem?_append_right (by simpa using hi)] at h2
        rw [List.getElem?_replicate] at h2
        split at h2 <;> cases h2
    have ha : vs[i]? = some v := by
      unfold start at h2
      rw [List.getElem?_append_left (by simpa using hi), List.getElem?_map] at h2
      cases e : vs[i]? with
      | none => rw [e] at h2; cases h2
      | some a => rw [e] at h2; cases h2; rfl
    obtain ⟨u, hu, rv⟩ := r.get ha
    have hp : ps[i]? = some y := by
      rw [← S.pre, List.getElem?_take_of_lt (by omega)]; exact h1
    have ndP : ps.Nodup := by rw [← S.pre]; exact S.nd.sublist (List.take_sublist _ _)
    refine ⟨u, rv, ?_⟩
    rcases S.par y (List.mem_of_getElem? hp) with k | k
    · exact .inl ⟨k, vp ndP hp hu k⟩
    · obtain ⟨c, e⟩ := zq (n := s.heap.objs.size + 1) k
      refine .inr ⟨.inl k, c, e, ?_⟩
      have q := x.cell y c e
      rw [vj ndP hp hu (by show scope.names.lookup y ≠ _; rw [k]; decide)] at q
      exact q
  · exact e0.hok.fresh (Nat.le_of_lt (x.above y c (PySem.mem_of_lookup h)))
  · unfold start
    show _ = N.length
    rw [List.length_append, List.length_map, List.length_replicate]
    omega
theorem Ei {CX : CXT} {P : Program} {w : World} {K : PySem.W.Frag} {mg : Str → Option Value} {base : Heap} {k : Nat} {f : Addr} {name qual : Str} {params : Arguments} {body : List Stmt} {scope : Scope} {dV kV doc pm cdv ct oc : Value} {an od : Option Addr}
    {osl : Array (Option Value)} {N ps : List Str} {sp : Sp} (lk : K.lookup f = some ⟨oc, od, .func (PySem.W.fnOf name qual params body scope dV kV doc pm an cdv ct), osl⟩) (hcd : PySem.W.codeIn K cdv qual = true) (S : aR N ps scope)
    (len : ∀ vs H Q E, sp vs H Q E → vs.length = ps.length)
    (hbody : ∀ (A : Around) (outer : List Env) (s : Shared) (H : Hp) (vs : List V) (Q : VK) (E : XK), eN k (A.deeper (envOfC qual scope s.heap.objs.size f cdv)) → sp vs H Q E →
      ∃ t, PSs (jN CX P w K mg base N qual scope f cdv A outer s H E) body t ∧ t { nx := fun _ H' => Q .non H', rt := Q } (start N vs) H) :
    bS P w K mg base CX (k + 1) f (PySem.W.fnOf name qual params body scope dV kV doc pm an cdv ct) ps sp := by
  refine ⟨len, fun A outer s H args us vs Q E hr e0 hb r hsp => ?_⟩
  have hl := len _ _ _ _ hsp
  have KX : K.In s.heap := e0.mod.kin.keeps fun b o e => (e0.bs b o e).1
  have lim : s.heap.NoLimit := e0.mod.nolimit.keeps fun b o e => (e0.bs b o e).1
  have hkind : ∀ y ∈ ps.zip us, scope.names.lookup y.1 = some .local ∨ (scope.names.lookup y.1 = some .cell ∧ ((cellsFrom (s.heap.objs.size + 1) scope.names []).lookup y.1).isSome = true) := fun ⟨n, v⟩ hy => by
    rcases S.par n (List.of_mem_zip hy).1 with q | q
    · exact .inl q
    · exact .inr ⟨q, PySem.W.cellsFrom_some _ _ _ (.inl q)⟩
  refine codeAny_call_function hr.depth (KX _ _ lk) rfl S.co S.gen rfl (PySem.W.codeRec_of KX hcd) (hb _ _ _ _ ?_)
  refine wpAny_newFunctionEnv_cells S.kind hkind fun env he s1 x => ?_
  subst he
  refine ⟨lim.keeps x.toInCall.keep, codeAny_func ?_⟩
  obtain ⟨t, ht, hq⟩ := hbody A outer s H vs Q E (hr.deeper _) hsp
  have I : Inv (jN CX P w K mg base N qual scope f cdv A outer s H E) [] (start N vs) H s1 := vv S hr.hd e0 hl r x
  refine wpAny_mono (ht [] s1 (start N vs) H _ I hq) (fun fl s' hs => ?_) fun e s' hs => hs
  have fin : ∀ {σ' : St} {H' : Hp} {v : V} {u : Value}, Inv (jN CX P w K mg base N qual scope f cdv A outer s H E) [] σ' H' s' → RelV v u → Q v H' → CE outer P w H s Q u s' :=
    fun {σ' H' v u} J rv q => ⟨v, H', J.os, J.bare, J.base, J.hok, rv, q⟩
  cases fl with
  | ret u =>
    obtain ⟨v, σ', H', J, rv, q⟩ := hs
    exact fin J rv q
  | next =>
    obtain ⟨σ', H', J, q⟩ := hs
    exact fin (v := V.non) (u := Value.none) J rfl q
  | brk =>
    obtain ⟨_, _, _, q⟩ := hs
    exact False.elim q
  | cont =>
    obtain ⟨_, _, _, q⟩ := hs
    exact False.elim q
end L2
namespace L2
open PySem PySem.Spec PyProof.Rows
section
variable {X : Cx} {x : Str} {p pos : Pos} {e : Expr} {es : List Expr} {t : TA} {id T : String} {r : List V → Hp → VK → Prop}
noncomputable def tCB (r : List V → Hp → VK → Prop) (t : TA) : TE := fun σ H Q => t σ H fun vs H1 => r vs H1 Q
theorem n8 (hc : ip X (.builtin id) r) (hg : Gl X x) (hm : X.mg x = none) (hv : bootBuiltins x = some (.builtin id)) (ha : PA X (e :: es) t) (hn : x ≠ "__name__" := by decide) (hdb : (x == ("__debug__" : Str)) = false := by decide)
    (he : starEach (e :: es) X.env = (false, eval e X.env) :: starEach es X.env := by rfl) (hpl : (backTo pos (starEach es X.env)).any (·.1) = false := by rfl) : PE X (.Call (.Name x p) (e :: es) [] pos) (tCB r t) := by
  intro pins s σ H Q I h
  refine wpAny_Call_Name_kw (sy I hg hm hv ?_ hn hdb)
  exact PyProof.Rows.callWith_builtin1 (thn (ha pos pins s σ H _ I h) fun us s1 ⟨vs, H1, I1, r1, q1⟩ => hc pins s1 σ H1 vs us Q I1 r1 q1) he hpl
theorem B6 (hc : ip X (.type T) r) (hg : Gl X x) (hm : X.mg x = none) (hv : bootBuiltins x = some (.type T)) (ha : PA X (e :: es) t) (hn : x ≠ "__name__" := by decide) (hdb : (x == ("__debug__" : Str)) = false := by decide)
    (he : starEach (e :: es) X.env = (false, eval e X.env) :: starEach es X.env := by rfl) (hpl : (backTo pos (starEach es X.env)).any (·.1) = false := by rfl) : PE X (.Call (.Name x p) (e :: es) [] pos) (tCB r t) := by
  intro pins s σ H Q I h
  refine wpAny_Call_Name_kw (sy I hg hm hv ?_ hn hdb)
  exact PyProof.Rows.callWith_type1 (thn (ha pos pins s σ H _ I h) fun us s1 ⟨vs, H1, I1, r1, q1⟩ => hc pins s1 σ H1 vs us Q I1 r1 q1) he hpl
end
end L2
namespace HT
open PySem PyProof.Rows
section
open PySem.SeqAt
open PySem.AutoSeq1 (wpAny_loadPart')
open PySem.MeetsSeq PySem.MeetsSeq2 PySem.MeetsSeq3
end
section
variable {prog : Program} {w : World} {A : Around} {E : Value → Shared → Prop} {s : Shared}
end
end HT
namespace L2
open PySem PySem.Spec PyProof.Rows
abbrev TO := St → Hp → (Option Int → Hp → Prop) → Prop
noncomputable def PO (X : Cx) (e : Option Expr) (t : TO) : Prop :=
  ∀ (pins : List (Addr × Obj)) (s : Shared) (σ : St) (H : Hp) (Q : Option Int → Hp → Prop), Inv X pins σ H s → t σ H Q →
    wpAny (model X.prog X.w) X.A (evalPart e X.env) (fun u s' => ∃ o H', Inv X pins σ H' s' ∧ IsPart u o ∧ Q o H') X.xe s
noncomputable def Gg : TO := fun _ H Q => Q none H
noncomputable def J3 (t : TE) : TO := fun σ H Q => t σ H fun x H1 => ∃ i, x = .int i ∧ Q (some i) H1
section
variable {X : Cx} {e : Expr} {te : TE} {lo hi : Option Expr} {tl th : TO} {pos p2 : Pos}
theorem FA : PO X none Gg := by
  intro pins s σ H Q I h
  rw [evalPart_none]
  exact wpAny_pure ⟨none, H, I, .none, h⟩
theorem GG (h : PE X e te) : PO X (some e) (J3 te) := by
  intro pins s σ H Q I hw
  rw [evalPart_some]
  refine thn (h pins s σ H _ I hw) fun u s1 ⟨x, H1, I1, r1, q1⟩ => ?_
  obtain ⟨i, rfl, q⟩ := q1
  obtain ⟨t, rfl⟩ := r1
  exact ⟨some i, H1, I1, .int i t, q⟩
noncomputable def SlR (X : Cx) (r : V → Option Int → Option Int → Hp → VK → Prop) : Prop :=
  ∀ (pins : List (Addr × Obj)) (s : Shared) (σ : St) (H : Hp) (x : V) (v vl vu : Value) (lo hi : Option Int) (sl : Addr) (Q : VK), Inv X pins σ H s → RelV x v → s.heap.IsSliceOf sl vl vu .none → IsPart vl lo → IsPart vu hi → r x lo hi H Q →
    ∃ T id, typeLookup (.type T) "__getitem__" = pure (some (.builtin id)) ∧ s.TypeIs v T ∧ wpAny (model X.prog X.w) X.A (getItem v (.ref sl)) (EP X pins σ Q) X.xe s
noncomputable def tSl (r : V → Option Int → Option Int → Hp → VK → Prop) (te : TE) (tl th : TO) : TE := fun σ H Q => te σ H fun x H1 => tl σ H1 fun l H2 => th σ H2 fun u H3 => r x l u H3 Q
theorem Dm {r : V → Option Int → Option Int → Hp → VK → Prop} (hr : SlR X r) (he : PE X e te) (hl : PO X lo tl) (hu : PO X hi th) : PE X (.Subscript e (.Slice lo hi none p2) pos) (tSl r te tl th) := by
  intro pins s σ H Q I h
  refine Subscript_ (thn (he pins s σ H _ I h) fun v s1 ⟨x, H1, I1, r1, q1⟩ => ?_)
  refine wpAny_Slice (thn (hl pins s1 σ H1 _ I1 q1) fun vl s2 ⟨l, H2, I2, pl, q2⟩ => thn (hu pins s2 σ H2 _ I2 q2) fun vu s3 ⟨u, H3, I3, pu, q3⟩ => ?_)
  rw [evalPart_none]
  refine wpAny_pure ?_
  have I4 : Inv X pins σ H3 { s3 with heap := s3.heap.push { cls := .type "slice", data := .fields #[vl, vu, .none] } } := I3.kept (t' := s3.toks) fun b ob q => Heap.get?_push_of_some _ q
  obtain ⟨T, id, hT, ht, hg⟩ := hr pins { s3 with heap := s3.heap.push { cls := .type "slice", data := .fields #[vl, vu, .none] } } σ H3 x v vl vu l u s3.heap.objs.size Q I4 r1 (Heap.IsSliceOf.new ..) pl pu q3
  show wpAny (model X.prog X.w) X.A (subscriptTail e (.Slice lo hi none p2) v (.ref s3.heap.objs.size)) (EP X pins σ Q) X.xe { s3 with heap := s3.heap.push { cls := .type "slice", data := .fields #[vl, vu, .none] } }
  exact tail_any (ops := [.ref s3.heap.objs.size, v]) ht hT hg (by with_unfolding_all rfl)
end
end L2
namespace L2
open PySem PySem.Spec PyProof.Rows
def ixN (n : Nat) (i : Int) : Option Nat := if 0 ≤ i then (if i < n then some i.toNat else none) else if -(n : Int) ≤ i then some (i + n).toNat else none
def atI {α : Type} (xs : List α) (i : Int) : Option α := (ixN xs.length i).bind fun j => xs[j]?
theorem Bk {n : Nat} {i : Int} {j : Nat} (h : ixN n i = some j) : seqIndex? i n = some j ∧ j < n ∧ -(n : Int) ≤ i ∧ i < n := by
  unfold ixN at h
  by_cases h0 : 0 ≤ i
  · rw [if_pos h0] at h
    by_cases h1 : i < n
    · rw [if_pos h1] at h
      have e : i.toNat = j := Option.some.inj h
      exact ⟨by rw [seqIndex_of h0 h1, e], by omega, by omega, h1⟩
    · rw [if_neg h1] at h; cases h
  · rw [if_neg h0] at h
    by_cases h1 : -(n : Int) ≤ i
    · rw [if_pos h1] at h
      have e : (i + n).toNat = j := Option.some.inj h
      exact ⟨by rw [seqIndex_neg (by omega) h1, e], by omega, h1, by omega⟩
    · rw [if_neg h1] at h; cases h
theorem wL {α : Type} {xs : List α} {i : Int} {v : α} (h : atI xs i = some v) : ∃ j, seqIndex? i xs.length = some j ∧ xs[j]? = some v ∧ j < xs.length ∧ -(xs.length : Int) ≤ i ∧ i < xs.length := by
  unfold atI at h
  cases e : ixN xs.length i with
  | none => rw [e] at h; cases h
  | some j =>
    rw [e] at h
    obtain ⟨h1, h2, h3, h4⟩ := Bk e
    exact ⟨j, h1, h, h2, h3, h4⟩
theorem kT {α : Type} {xs : List α} {j : Nat} {v : α} (h : xs[j]? = some v) : atI xs (j : Int) = some v := by
  have hj : j < xs.length := (List.getElem?_eq_some_iff.mp h).1
  have e : ixN xs.length (j : Int) = some j := by
    unfold ixN
    rw [if_pos (by omega), if_pos (by omega)]; simp
  unfold atI; rw [e]; exact h
theorem zg {α : Type} (xs : List α) (v : α) : atI (xs ++ [v]) (-1) = some v := by
  have hl : (xs ++ [v]).length = xs.length + 1 := by simp
  have e : ixN (xs ++ [v]).length (-1) = some xs.length := by
    unfold ixN
    rw [hl, if_neg (by decide), if_pos (by omega)]
    congr 1
    omega
  unfold atI
  rw [e]
  show (xs ++ [v])[xs.length]? = some v
  simp
noncomputable def vJ (b : Expr) : Prop := ∀ o i, subscripted b false o i = operate [o, i] (getItem o i)
noncomputable def IxR (X : Cx) (r : R2) : Prop :=
  ∀ (value slice : Expr) (pins : List (Addr × Obj)) (s : Shared) (σ : St) (H : Hp) (x y : V) (v u : Value) (Q : VK), Inv X pins σ H s → RelV x v → RelV y u → r x y H Q →
    subscripted slice false v u = operate [v, u] (getItem v u) → wpAny (model X.prog X.w) X.A (subscriptTail value slice v u) (EP X pins σ Q) X.xe s
noncomputable def MtR (X : Cx) (id : String) (r : V → List V → Hp → VK → Prop) : Prop :=
  ∀ (pins : List (Addr × Obj)) (s : Shared) (σ : St) (H : Hp) (x : V) (xs : List V) (v : Value) (us : List Value) (Q : VK), Inv X pins σ H s → RelV x v → Vals xs us → r x xs H Q →
    wpAny (model X.prog X.w) X.A (call (.builtin id) (v :: us)) (EP X pins σ Q) X.xe s
section
variable {X : Cx} {a b : Expr} {ta tb : TE} {pos : Pos}
theorem IxR.or {r r' : R2} (h : IxR X r) (h' : IxR X r') : IxR X (fun x y H Q => r x y H Q ∨ r' x y H Q) := by
  intro value slice pins s σ H x y v u Q I rx ry q hs
  rcases q with q | q
  · exact h value slice pins s σ H x y v u Q I rx ry q hs
  · exact h' value slice pins s σ H x y v u Q I rx ry q hs
theorem G4 {r : R2} (hr : IxR X r) (ha : PE X a ta) (hb : PE X b tb) (hs : vJ b) : PE X (.Subscript a b pos) (tOp r ta tb) := by
  intro pins s σ H Q I h
  exact Subscript_ (Hw ha hb I h fun v u s2 x y H2 I2 rx ry q => hr a b pins s2 σ H2 x y v u Q I2 rx ry q (hs _ _))
noncomputable def KR (K : PySem.W.Frag) : R2 := fun x y H Q => ∃ p xs i v, x = .ref p ∧ y = .int i ∧ SqL K H p xs ∧ atI xs i = some v ∧ Q v H
noncomputable def JR (K : PySem.W.Frag) : R2 := fun x y H Q => ∃ p xs i v, x = .ref p ∧ y = .int i ∧ SqT K H p xs ∧ atI xs i = some v ∧ Q v H
noncomputable def HD : R2 := fun x y H Q => ∃ z i c, x = .str z ∧ y = .int i ∧ z.length ≤ sizeLine ∧ atI z.cps.toList i = some c ∧ Q (.str ⟨#[c]⟩) H
theorem Gs : IxR X (KR X.K) := by
  intro value slice pins s σ H x y v u Q I rx ry h hs
  obtain ⟨p, xs, i, z, rfl, rfl, hq, he, q⟩ := h
  cases rx
  obtain ⟨t, rfl⟩ := ry
  obtain ⟨its, r, pl, hz⟩ := I.list hq
  obtain ⟨j, h1, h2, h3, h4, h5⟩ := wL he
  obtain ⟨w, ew, rw'⟩ := r.get h2
  have hl := r.length
  have hn := nj
  have fin : EP X pins σ Q w s := ⟨z, H, I, rw', q⟩
  by_cases h0 : 0 ≤ i
  · have hj : i.toNat = j := by
      rw [seqIndex_of h0 h5] at h1
      exact Option.some.inj h1
    exact item_listR pl.isList h0 (by omega) (by rw [hj]; simpa using ew) fin hs
  · have hj : (i + (its.toArray.size : Int)).toNat = j := by
      rw [seqIndex_neg (by omega) h4] at h1
      rw [List.size_toArray, ← hl]
      exact Option.some.inj h1
    exact subscriptTail_builtinR (x := w) pl.isList.typeIs slot_list_getitem.lookup
      (wpAny_getItem_list_neg (Q := fun r s' => r = w ∧ EP X pins σ Q r s') pl.isList (by omega) (by rw [List.size_toArray] <;> omega) (by omega) (by rw [hj]; simpa using ew) ⟨rfl, fin⟩) hs
theorem HQ : IxR X (JR X.K) := by
  intro value slice pins s σ H x y v u Q I rx ry h hs
  obtain ⟨p, xs, i, z, rfl, rfl, hq, he, q⟩ := h
  cases rx
  obtain ⟨t, rfl⟩ := ry
  obtain ⟨its, r, pl, hz⟩ := I.tuple hq
  obtain ⟨j, h1, h2, h3, h4, h5⟩ := wL he
  obtain ⟨w, ew, rw'⟩ := r.get h2
  have hl := r.length
  have hn := nj
  have fin : EP X pins σ Q w s := ⟨z, H, I, rw', q⟩
  exact subscriptTail_builtinR (x := w) pl.typeIs slot_tuple_getitem.lookup
    (getItem_tuple (j := j) (Q := fun r s' => r = w ∧ EP X pins σ Q r s') pl (by omega) (by omega) (by rw [List.size_toArray, ← hl]; exact h1) (by simpa using ew) ⟨rfl, fin⟩) hs
theorem CW : IxR X HD := by
  intro value slice pins s σ H x y v u Q I rx ry h hs
  obtain ⟨z, i, c, rfl, rfl, hz, he, q⟩ := h
  obtain ⟨t, rfl⟩ := rx
  obtain ⟨t', rfl⟩ := ry
  obtain ⟨j, h1, h2, h3, h4, h5⟩ := wL he
  have hl : z.cps.toList.length = z.length := by simp [Str.length]
  rw [hl] at h1 h4 h5
  have hn := nj
  exact tail_any (typeIs_str s z t) slot_str_getitem.lookup (getItem_str (c := c) (by
    have e1 : decide (i < -(2 ^ 63 : Int)) = false := decide_eq_false (by omega)
    have e2 : decide (i ≥ 2 ^ 63) = false := decide_eq_false (by omega)
    rw [e1, e2, Bool.or_false]) (by rw [h1]; simpa using h2) ⟨.str ⟨#[c]⟩, H, I.tok _, ⟨_, rfl⟩, q⟩) hs
noncomputable def rIx (K : PySem.W.Frag) : R2 := fun x y H Q => KR K x y H Q ∨ JR K x y H Q ∨ HD x y H Q
theorem Ht : IxR X (rIx X.K) := Gs.or (HQ.or CW)
theorem zM (its : List Value) (n j : Nat) (u : Value) : Obj.mapSeq (·.setIfInBounds j u) { cls := .type "list", data := .seq its.toArray n } = { cls := .type "list", data := .seq (its.set j u).toArray n } := by
  simp [Obj.mapSeq]
theorem Inv.lst {pins : List (Addr × Obj)} {σ : St} {H : Hp} {s : Shared} {p : Addr} {xs : List V} (I : Inv X pins σ H s) (h : H p = some (.lst xs)) :
    ∃ (its : List Value) (n : Nat), Vals xs its ∧ s.heap.get? p = some { cls := .type "list", data := .seq its.toArray n } ∧ xs.length ≤ sizeLine := by
  obtain ⟨z, its, n, r, e⟩ := I.hok p _ h
  exact ⟨its, n, r, e, z⟩
theorem Inv.HM {pins : List (Addr × Obj)} {σ : St} {H : Hp} {s : Shared} {p : Addr} {xs ys : List V} {its its' : List Value} {n n' : Nat} {f : Obj → Obj} (I : Inv X pins σ H s) (h : H p = some (.lst xs))
    (ho : s.heap.get? p = some { cls := .type "list", data := .seq its.toArray n }) (hf : f { cls := .type "list", data := .seq its.toArray n } = { cls := .type "list", data := .seq its'.toArray n' }) (r : Vals ys its') (hz : ys.length ≤ sizeLine) (t : Nat) :
    Inv X pins σ (upd H p (.lst ys)) { s with heap := s.heap.update p f, toks := t } := by
  have e : (s.heap.update p f).get? p = some { cls := .type "list", data := .seq its'.toArray n' } := by
    rw [Heap.get?_update_self f ho (by rw [hf] <;> rfl), hf]
  refine I.write (x := p) (e := p) (by rw [h]; trivial) (.inl rfl) (fun b u hb q => (Heap.get?_update_other _ _ (Ne.symm hb)).trans q) ⟨_, e⟩ ?_
  exact ⟨hz, its', n', r, e⟩
def Ke : V → V → V → Hp → (Hp → Prop) → Prop := fun o i v H Q => ∃ p xs k j, o = .ref p ∧ i = .int k ∧ H p = some (.lst xs) ∧ ixN xs.length k = some j ∧ Q (upd H p (.lst (xs.set j v)))
theorem set_list : KP X Ke := by
  intro pins s σ H o i v ov iv u Q I ro ri rv h
  obtain ⟨p, xs, k, j, rfl, rfl, hp, hj, q⟩ := h
  cases ro
  obtain ⟨t, rfl⟩ := ri
  obtain ⟨its, n, r, ho, hz⟩ := I.lst hp
  obtain ⟨h1, h2, h3, h4⟩ := Bk hj
  have hl := r.length
  have hn := nj
  have I' : Inv X pins σ (upd H p (.lst (xs.set j v))) { s with heap := s.heap.update p (Obj.mapSeq (·.setIfInBounds j u)) } :=
    I.HM hp ho (zM its n j u) (r.set rv j) (by rw [List.length_set]; exact hz) s.toks
  by_cases h0 : 0 ≤ k
  · have hk : k.toNat = j := by
      rw [seqIndex_of h0 h4] at h1
      exact Option.some.inj h1
    exact PySem.W.ki_setAt ho h0 (by omega) (by rw [List.size_toArray, ← hl]; exact h4) (by rw [hk]; exact ⟨_, I', q⟩)
  · have hk : (k + (its.toArray.size : Int)).toNat = j := by
      rw [seqIndex_neg (by omega) h3] at h1
      rw [List.size_toArray, ← hl]
      exact Option.some.inj h1
    exact PySem.W.ki_setBack ho (by omega) (by rw [List.size_toArray, ← hl]; exact h3) (by omega) (by rw [hk]; exact ⟨_, I', q⟩)
theorem wy : ip X (.builtin "len") (fun xs H Q => ∃ p ys, xs = [.ref p] ∧ (SqL X.K H p ys ∨ SqT X.K H p ys) ∧ Q (.int ys.length) H) := by
  intro pins s σ H xs us Q I r h
  obtain ⟨p, ys, rfl, hq, q⟩ := h
  obtain ⟨u, rfl, rx⟩ := vals1 r
  cases rx
  have hn := nj
  rcases hq with hq | hq
  · obtain ⟨its, r', pl, hz⟩ := I.list hq
    have hlen := r'.length
    exact Calls.call_len_list pl.isList (by simp only [List.size_toArray] <;> omega) ⟨.int ys.length, H, I.tok _, ⟨s.toks + 1, by rw [List.size_toArray, hlen]⟩, q⟩
  · obtain ⟨its, r', pl, hz⟩ := I.tuple hq
    have hlen := r'.length
    exact len_tuple pl (by simp only [List.size_toArray] <;> omega) ⟨.int ys.length, H, I.tok _, ⟨s.toks + 1, by rw [List.size_toArray, hlen]⟩, q⟩
theorem vC : ip X (.builtin "len") (fun xs H Q => ∃ z, xs = [.str z] ∧ z.length ≤ sizeLine ∧ Q (.int z.length) H) := by
  intro pins s σ H xs us Q I r h
  obtain ⟨z, rfl, hz, q⟩ := h
  obtain ⟨u, rfl, t, rfl⟩ := vals1 r
  have hn := nj
  exact len_str (by omega) ⟨.int z.length, H, I.tok _, ⟨_, rfl⟩, q⟩
noncomputable def tyV (K : PySem.W.Frag) (T : String) (x : V) (H : Hp) : Prop := match x with
  | .str _ => T = "str"
  | .int _ => T = "int"
  | .ref p => (T = "list" ∧ ∃ xs, SqL K H p xs) ∨ (T = "tuple" ∧ ∃ o, K.lookup p = some o ∧ o.cls = .type "tuple" ∧ o.dict = none) ∨
      (T = "dict" ∧ ((∃ kvs, H p = some (.dK kvs)) ∨ ∃ kvs, H p = some (.dT kvs))) ∨ (T = "set" ∧ ∃ S n, H p = some (.set S n))
  | _ => False
theorem Fe {pins : List (Addr × Obj)} {σ : St} {H : Hp} {s : Shared} {T : String} {x : V} {v : Value} (I : Inv X pins σ H s) (r : RelV x v) (ty : tyV X.K T x H) :
    s.TypeIs v T ∧ ∀ a, v = .ref a → ∃ ob, s.heap.get? a = some ob ∧ ob.dict = none := by
  cases x with
  | str z =>
    obtain ⟨t, rfl⟩ := r
    cases (show T = "str" from ty)
    exact ⟨typeIs_str s z t, fun _ e => nomatch e⟩
  | int i =>
    obtain ⟨t, rfl⟩ := r
    cases (show T = "int" from ty)
    exact ⟨typeIs_int s i t, fun _ e => nomatch e⟩
  | ref p =>
    cases r
    rcases ty with ⟨rfl, xs, hq⟩ | ⟨rfl, o, hk, hc, hd⟩ | ⟨rfl, hk⟩ | ⟨rfl, S, n, hk⟩
    · obtain ⟨its, _, pl, _⟩ := I.list hq
      refine ⟨pl.isList.typeIs, fun a e => ?_⟩
      cases e
      obtain ⟨o, n, e, c, hd, _⟩ := pl
      exact ⟨o, e, hd⟩
    · refine ⟨⟨o, I.kIn p o hk, hc⟩, fun a e => ?_⟩
      cases e
      exact ⟨o, I.kIn _ o hk, hd⟩
    · have z : ∃ o, s.heap.get? p = some o ∧ o.ExactDict := by
        rcases hk with ⟨kvs, hk⟩ | ⟨kvs, hk⟩
        · obtain ⟨_, _, _, _, o, _, _, e, ex, _⟩ := I.hok p _ hk
          exact ⟨o, e, ex⟩
        · obtain ⟨_, _, _, _, o, _, _, e, ex, _⟩ := I.hok p _ hk
          exact ⟨o, e, ex⟩
      obtain ⟨o, e, ex⟩ := z
      refine ⟨⟨o, e, ex.1⟩, fun a e2 => ?_⟩
      cases e2
      exact ⟨o, e, ex.2.1⟩
    · obtain ⟨o, _, _, _, e, ex, _⟩ := I.hok p _ hk
      refine ⟨⟨o, e, ex.1⟩, fun a e2 => ?_⟩
      cases e2
      exact ⟨o, e, ex.2.1⟩
  | _ => exact False.elim ty
noncomputable def Ln (K : PySem.W.Frag) (T : String) (r : V → List V → Hp → VK → Prop) (to : TE) : TE := fun σ H Q => to σ H fun x H1 => tyV K T x H1 ∧ r x [] H1 Q
noncomputable def tBM (K : PySem.W.Frag) (T : String) (r : V → List V → Hp → VK → Prop) (to : TE) (t : TA) : TE := fun σ H Q => to σ H fun x H1 => tyV K T x H1 ∧ t σ H1 fun xs H2 => r x xs H2 Q
variable {o e : Expr} {es : List Expr} {to : TE} {t : TA} {name : Str} {apos cpos : Pos} {T id : String} {r : V → List V → Hp → VK → Prop}
theorem Im (pa : PlainAttrs T) (slot : Slot T name id) (hty : typeOf (.builtin id) = pure (.type "method_descriptor")) (hm : MtR X id r) (ho : PE X o to)
    (hbase : attributeBase o name X.env (eval o X.env) = eval o X.env := by rfl) (hline : (apos.endLine == cpos.line) = true := by rfl) : PE X (.Call (.Attribute o name apos) [] [] cpos) (Ln X.K T r to) := by
  intro pins s σ H Q I h
  refine wpAny_Call_method0_late hbase hline (thn (ho pins s σ H _ I h) fun v s1 ⟨x, H1, I1, r1, ty, q1⟩ => ?_)
  obtain ⟨h1, h2⟩ := Fe I1 r1 ty
  exact ⟨T, id, pa, slot, hty, h1, h2, Calls.callWith_builtin rfl (PySem.evalArgs_none (hm pins s1 σ H1 x [] v [] Q I1 r1 .nil q1))⟩
theorem yJ (pa : PlainAttrs T) (slot : Slot T name id) (hty : typeOf (.builtin id) = pure (.type "method_descriptor")) (hm : MtR X id r) (ho : PE X o to) (ha : PA X (e :: es) t)
    (hbase : attributeBase o name X.env (eval o X.env) = eval o X.env := by rfl)
    (hfew : ((backTo cpos (starEach (e :: es) X.env)).all (fun x => !x.1) && (backToKw cpos (keywordEach [] X.env)).all (fun x => x.1.isSome)
      && decide ((e :: es).length + ([] : List Keyword).length + (if ([] : List Keyword).isEmpty then 0 else 1) < 30)) = true := by rfl)
    (hline : (apos.endLine == cpos.line) = true := by rfl) (hs : starEach (e :: es) X.env = (false, eval e X.env) :: starEach es X.env := by rfl) (hplain : (backTo cpos (starEach es X.env)).any (·.1) = false := by rfl) :
    PE X (.Call (.Attribute o name apos) (e :: es) [] cpos) (tBM X.K T r to t) := by
  intro pins s σ H Q I h
  refine wpAny_Call_method_late hbase hfew hline rfl (thn (ho pins s σ H _ I h) fun v s1 ⟨x, H1, I1, r1, ty, q1⟩ => ?_)
  obtain ⟨h1, h2⟩ := Fe I1 r1 ty
  refine ⟨T, id, pa, slot, hty, h1, h2, ?_⟩
  have hA := ha cpos pins s1 σ H1 _ I1 q1
  rw [hs] at hA ⊢
  refine Calls.callWith_builtin (by show (false || (backTo cpos (starEach es X.env)).any (·.1)) = false; rw [hplain] <;> rfl) (Calls.evalArgs_plain ?_)
  exact thn hA fun us s2 ⟨vs, H2, I2, r2, q2⟩ => hm pins s2 σ H2 x vs v us Q I2 r1 r2 q2
end
end L2
namespace L2
open PySem PySem.Spec PyProof.Rows
noncomputable def MtM (X : Cx) (id : String) (r : V → List V → Hp → VK → Prop) : Prop :=
  ∀ (pins : List (Addr × Obj)) (s : Shared) (σ : St) (H : Hp) (x : V) (xs : List V) (v : Value) (us : List Value) (Q : VK), Inv X pins σ H s → RelV x v → Vals xs us → r x xs H Q →
    wpAny (model X.prog X.w) X.A (call (.builtin id) (v :: us)) (EP X pins σ Q) X.xe s
theorem Vals.one : ∀ {x : V} {us : List Value}, Vals [x] us → ∃ u, us = [u] ∧ RelV x u
  | _, _, .cons r .nil => ⟨_, rfl, r⟩
theorem Vals.zero : ∀ {us : List Value}, Vals [] us → us = []
  | _, .nil => rfl
theorem Vals.dropLast {xs : List V} {us : List Value} (h : Vals xs us) : Vals xs.dropLast us.dropLast := by
  induction h with
  | nil => exact .nil
  | cons r t ih =>
    cases t with
    | nil => exact .nil
    | cons q t' => exact .cons r ih
theorem Vals.reverse {xs : List V} {us : List Value} (h : Vals xs us) : Vals xs.reverse us.reverse := by
  induction h with
  | nil => exact .nil
  | cons r t ih => rw [List.reverse_cons, List.reverse_cons]; exact Vals.append ih (.cons r .nil)
theorem Aw {α : Type} (l : List α) : l.eraseIdx (l.length - 1) = l.dropLast := by
  induction l with
  | nil => rfl
  | cons a r ih =>
    cases r with
    | nil => rfl
    | cons b r =>
      have e : (a :: b :: r).length - 1 = ((b :: r).length - 1) + 1 := by
        have h1 : (a :: b :: r).length = r.length + 2 := rfl
        have h2 : (b :: r).length = r.length + 1 := rfl
        omega
      rw [e, List.eraseIdx_cons_succ, ih]
      all_goals rfl
section
variable {X : Cx} {pins : List (Addr × Obj)} {σ : St} {H : Hp} {s : Shared} {l b : Addr} {xs ys zs : List V}
theorem Inv.GW {its its' : List Value} {n : Nat} {f : Array Value → Array Value} {t' : Nat} (I : Inv X pins σ H s) (hH : H l = some (.lst xs))
    (e : s.heap.get? l = some { cls := .type "list", data := .seq its.toArray n }) (hf : f its.toArray = its'.toArray) (hv : Vals ys its') (hz : ys.length ≤ sizeLine) :
    Inv X pins σ (upd H l (.lst ys)) { s with heap := s.heap.update l (Obj.mapSeq f), toks := t' } := by
  have q := PySem.IsL.update e f
  rw [hf] at q
  refine I.write (x := l) (e := l) (by rw [hH]; exact trivial) (.inl rfl) (fun b' u hb hu => (Heap.get?_update_other s.heap (Obj.mapSeq f) (Ne.symm hb)).trans hu) ⟨_, q⟩ ?_
  exact ⟨hz, its', _, hv, q⟩
theorem Inv.K3 {its : List Value} {t' : Nat} (I : Inv X pins σ H s) (hv : Vals ys its) (hz : ys.length ≤ sizeLine) :
    Inv X pins σ (upd H s.heap.objs.size (.lst ys)) { s with heap := s.heap.push { cls := .type "list", data := .seq its.toArray }, toks := t' } :=
  I.laid (fun _ _ q => Heap.get?_push_of_some _ q) (Nat.le_refl _) ⟨hz, its, 0, hv, Heap.get?_push_size _ rfl⟩
theorem Inv.fresh (I : Inv X pins σ H s) : H s.heap.objs.size = none := I.hok.fresh (Nat.le_refl _)
theorem Inv.yS (I : Inv X pins σ H s) (hH : H l = some (.lst xs)) : xs.length ≤ sizeLine ∧ ∃ (its : List Value) (n : Nat), Vals xs its ∧ xs.length = its.length ∧ s.heap.get? l = some { cls := .type "list", data := .seq its.toArray n } := by
  obtain ⟨z, its, n, r, e⟩ := I.hok l _ hH
  exact ⟨z, its, n, r, r.length, e⟩
theorem E3 {n : Nat} (h : n ≤ sizeLine) : Builtin.List.listTooLong n = false := by
  unfold Builtin.List.listTooLong
  exact decide_eq_false (by omega)
end
section
variable {X : Cx}
def Fp : V → List V → Hp → VK → Prop := fun x vs H Q => ∃ l xs y, x = .ref l ∧ vs = [y] ∧ H l = some (.lst xs) ∧ xs.length < sizeLine ∧ Q .non (upd H l (.lst (xs ++ [y])))
theorem qf : MtM X "list.append" Fp := by
  intro pins s σ H x vs v us Q I rx rv h
  obtain ⟨l, xs, y, rfl, rfl, hH, hz, q⟩ := h
  cases rx
  obtain ⟨u, rfl, ru⟩ := rv.one
  obtain ⟨z, its, n, r, hl, e⟩ := I.yS hH
  refine call_meets F.slot_list_append ⟨_, e, rfl⟩ F.entry_list_append (F.args_list_append_2 _ _) (PySem.list_append l its.toArray n u (by rw [List.size_toArray]; omega)) ⟨e, ?_⟩
  refine ⟨.non, _, I.GW (its' := its ++ [u]) hH e (by simp) (r.append (.cons ru .nil)) ?_, rfl, q⟩
  rw [List.length_append, List.length_singleton]
  omega
def GY : V → List V → Hp → VK → Prop := fun x vs H Q => ∃ l b xs zs, x = .ref l ∧ vs = [.ref b] ∧ H l = some (.lst xs) ∧ H b = some (.lst zs) ∧ xs.length + zs.length ≤ sizeLine ∧ Q .non (upd H l (.lst (xs ++ zs)))
theorem JO : MtM X "list.extend" GY := by
  intro pins s σ H x vs v us Q I rx rv h
  obtain ⟨l, b, xs, zs, rfl, rfl, hH, hB, hz, q⟩ := h
  cases rx
  obtain ⟨u, rfl, ru⟩ := rv.one
  cases ru
  obtain ⟨z, its, n, r, hl, e⟩ := I.yS hH
  obtain ⟨z2, its2, n2, r2, hl2, e2⟩ := I.yS hB
  have hsz : its.toArray.size + its2.toArray.size ≤ sizeLine := by rw [List.size_toArray, List.size_toArray]; omega
  have hlong : ¬ (!its.toArray.isEmpty && Builtin.List.listTooLong (its.toArray.size + its2.toArray.size)) = true := by
    rw [E3 hsz, Bool.and_false]
    exact Bool.false_ne_true
  refine call_meets F.slot_list_extend ⟨_, e, rfl⟩ F.entry_list_extend (F.args_list_extend_2 _ _)
    (AutoSeq1.list_extend_list_list_0 l its.toArray n b its2.toArray n2 hlong (by rw [List.size_toArray]; omega) (by omega)) ⟨e, e2, ?_⟩
  refine ⟨.non, _, I.GW (its' := its ++ its2) hH e (by simp) (r.append r2) ?_, rfl, q⟩
  rw [List.length_append]
  omega
def K5 : V → List V → Hp → VK → Prop := fun x vs H Q => ∃ l xs y, x = .ref l ∧ vs = [] ∧ H l = some (.lst xs) ∧ xs[xs.length - 1]? = some y ∧ Q y (upd H l (.lst xs.dropLast))
theorem Lp : MtM X "list.pop" K5 := by
  intro pins s σ H x vs v us Q I rx rv h
  obtain ⟨l, xs, y, rfl, rfl, hH, hy, q⟩ := h
  cases rx
  have hus := rv.zero
  subst hus
  obtain ⟨z, its, n, r, hl, e⟩ := I.yS hH
  obtain ⟨u, hu, ru⟩ := r.get hy
  have hy' : its.toArray[its.toArray.size - 1]? = some u := by
    show its.toArray[its.length - 1]? = some u
    rw [← Array.getElem?_toList, ← hl]
    exact hu
  refine call_meets F.slot_list_pop ⟨_, e, rfl⟩ F.entry_list_pop (F.args_list_pop_1 _) (MeetsSeq.list_pop_last l its.toArray n u hy' (by rw [List.size_toArray]; omega)) ⟨e, ?_⟩
  refine ⟨y, _, I.GW (its' := its.dropLast) hH e ?_ r.dropLast ?_, ru, q⟩
  · show its.toArray.eraseIdxIfInBounds (its.toArray.size - 1) = its.dropLast.toArray
    rw [List.size_toArray, List.eraseIdxIfInBounds_toArray, Aw]
  · rw [List.length_dropLast]
    omega
def CP : V → List V → Hp → VK → Prop := fun x vs H Q => ∃ l xs, x = .ref l ∧ vs = [] ∧ H l = some (.lst xs) ∧ Q .non (upd H l (.lst xs.reverse))
theorem zK : MtM X "list.reverse" CP := by
  intro pins s σ H x vs v us Q I rx rv h
  obtain ⟨l, xs, rfl, rfl, hH, q⟩ := h
  cases rx
  have hus := rv.zero
  subst hus
  obtain ⟨z, its, n, r, hl, e⟩ := I.yS hH
  refine call_meets F.slot_list_reverse ⟨_, e, rfl⟩ F.entry_list_reverse (F.args_list_reverse_1 _) (AutoSeq1.list_reverse_list_0 l its.toArray n (by rw [List.size_toArray]; omega)) ⟨e, ?_⟩
  refine ⟨.non, _, I.GW (its' := its.reverse) hH e (by simp) r.reverse ?_, rfl, q⟩
  rw [List.length_reverse]
  omega
noncomputable def J7 : R2 := fun x y H Q => ∃ l b xs zs, x = .ref l ∧ y = .ref b ∧ H l = some (.lst xs) ∧ H b = some (.lst zs) ∧ xs.length + zs.length ≤ sizeLine ∧ ∀ p, H p = none → Q (.ref p) (upd H p (.lst (xs ++ zs)))
theorem IW : OpR X (binaryOp .Add) J7 := by
  intro pins s σ H x y v u Q I rx ry h
  obtain ⟨l, b, xs, zs, rfl, rfl, hH, hB, hz, q⟩ := h
  cases rx
  cases ry
  obtain ⟨z, its, n, r, hl, e⟩ := I.yS hH
  obtain ⟨z2, its2, n2, r2, hl2, e2⟩ := I.yS hB
  refine PySem.P.add_list e e2 ?_ (by rw [List.size_toArray, List.size_toArray]; omega)
  have ea : its.toArray ++ its2.toArray = (its ++ its2).toArray := by simp
  rw [ea]
  exact ⟨.ref _, _, I.K3 (t' := s.toks) (r.append r2) (by rw [List.length_append]; omega), rfl, q _ I.fresh⟩
end
section
variable {prog : Program} {w : World} {A : Around} {E : Value → Shared → Prop} {s : Shared}
end
section
variable {X : Cx}
end
end L2
namespace Att
open PySem PySem.W PySem.Calls PyProof.Rows
theorem qF {P : Params} {h : Heap} : ∀ (ns : List Int) (vs : List Value), WellAll P h vs (ns.map WData.int) → IntsAre vs ns := by
  intro ns
  induction ns with
  | nil =>
    intro vs w
    rw [List.map_nil] at w
    cases w
    exact .nil
  | cons n ns ih =>
    intro vs w
    rw [List.map_cons] at w
    cases w with
    | cons a b =>
      cases a
      exact .cons _ _ (ih _ b)
theorem Cg {l : OpenLaw} {n : Nat} (hn : l.most = some n) {P : Params} {h : Heap} {args : List WData} {vals : List Value}
    (hpre : l.row.toRowW.claim.pre args = true) (hwl : WellAll P h vals args) :
    ∃ a vs ns, vals = [Value.ref a] ∧ args = [WData.list (ns.map WData.int)] ∧ h.get? a = some { cls := .type "list", data := .seq vs.toArray } ∧ IntsAre vs ns ∧ ns.length ≤ n := by
  have hsh : WShape.hasAll [] args [.list .int] = true := (pre_splitW hpre).1
  have hc : l.pre.holds [] { args := args } = true := (pre_splitW hpre).2
  obtain ⟨d, r, rfl, h1, h2⟩ := hasAllW_cons hsh
  obtain rfl := hasAllW_nil h2
  obtain ⟨xs, rfl, h3⟩ := hasW_list h1
  obtain ⟨ns, rfl⟩ := items_int h3
  have hlen : ns.length ≤ n := by
    unfold OpenLaw.pre at hc
    have h4 : (WTm.not (.lt (.lit (.int (n : Int))) (.len (.arg 0)))).holds [] { args := [.list (ns.map .int)] } = true := by
      have h4 := (holds_andW hc).1
      rw [hn] at h4
      exact h4
    have h5 := condW_of h4 (w_not (w_lt w_lit (w_len_list (w_arg rfl))))
    rw [List.length_map] at h5
    refine Nat.le_of_not_lt fun q => ?_
    have q' : (n : Int) < ((ns.length : Nat) : Int) := by omega
    first
      | (rw [decide_eq_true q'] at h5; exact absurd h5 (by decide))
      | (simp at h5; omega)
  cases hwl with
  | cons w1 w2 =>
    cases w2
    cases w1 with
    | list ho hall => exact ⟨_, _, ns, rfl, rfl, ho, qF ns _ hall, hlen⟩
theorem Cp (l : OpenLaw) (args : List WData) : l.row.toRowW.claim.post args (.bool true) args = true :=
  postW_of (r := l.row.toRowW) (X := (true == true))
    (show WShape.has [] (.bool true) .bool = true by first | rfl | decide | simp [WShape.has, WShape.arms, WShape.armsAll])
    (show (WTm.eq .res (.lit (.bool true))).value [] { args := args, res := some (.bool true), after := args } = some (.bool (true == true)) from w_eq_bool (w_res rfl) w_lit) rfl
theorem yI {l : OpenLaw} {n : Nat} {q : Program} {loose : List Str} {XP : (Str → Option Value) → Heap → Prop} {YP : World → Heap → Prop} {d : DefRec}
    (hn : l.most = some n) (hdf : d.params.defaults = [])
    (call : ∀ (w : World) (s₀ s₁ : Shared) (mg mb : Str → Option Value) (fa : Addr) (o : Obj) (pm cd doc : Value) (a : Addr) (vs : List Value) (ns : List Int),
      Ground q loose [] XP w s₀ mg mb s₁.heap → YP w s₁.heap →
      s₁.heap.get? fa = some o → o.data = .func (docDef d.name d.params d.body d.scope pm cd doc) → s₁.heap.CodeRec cd d.name → mg d.name = some (.ref fa) →
      s₁.heap.get? a = some { cls := .type "list", data := .seq vs.toArray } → IntsAre vs ns → ns.length ≤ n → s₁.gens = #[] →
      codeAny (model l.prog w) callerA (.call (.ref fa) ⟨[.ref a], []⟩) (fun r s' => r = .ok (.ret (.bool true)) ∧ OldK s₁.heap s'.heap ∧ s'.os = s₁.os ∧ AllBare s'.gens) s₁) :
    WalkO q loose XP YP l.row.toRowW d [] (fun f vs => PySem.call f vs) := by
  intro w s₀ s₁ mg mb G Y fa o pm cd doc dV kV ho hd hcd hD hmg hg args vals as hpre hlay hrd hwl hlo
  obtain rfl : dV = .none := Dflts.none hD hdf
  obtain rfl : kV = .none := Dflts.noKw hD
  obtain ⟨a, vs, ns, rfl, rfl, hobj, hints, hlen⟩ := Cg hn hpre hwl
  refine enter_call (codeAny_mono (call w s₀ s₁ mg mb fa o pm cd doc a vs ns G Y ho (fd_plain hd) hcd hmg hobj hints hlen hg) fun r s' hq => ?_)
  obtain ⟨rfl, h2, h3, h4⟩ := hq
  exact ⟨.inl ⟨.bool true, .bool true, [], rfl, fun _ => rfl, .bool true, Cp l _, fun _ => ⟨List.Pairwise.nil, fun _ hm => (nomatch hm)⟩⟩, h2, h3, h4⟩
section
variable {prog : Program} {w : World} {A : Around} {E : Value → Shared → Prop} {s : Shared} {K : Frag}
end
end Att
namespace L2
open PySem PySem.Spec PyProof.Rows
theorem ve : ∀ {vs : List Value} {ns : List Int}, IntsAre vs ns → Vals (ns.map V.int) vs
  | _, _, .nil => .nil
  | _, _, .cons n t h => .cons ⟨t, rfl⟩ (ve h)
end L2
namespace L2
open PySem PySem.Spec PyProof.Rows
end L2
namespace L2
open PySem PySem.Spec PyProof.Rows
noncomputable abbrev CX0 : CXT := fun _ _ _ _ _ _ => False
noncomputable abbrev E0 : XK := fun _ _ _ => False
theorem EX {X : Cx} : Passes CX0 X E0 := fun _ _ _ _ _ _ _ h => h.elim
structure Fun (K : PySem.W.Frag) (x qual : Str) (st : Stmt) (f : Addr) (fd : FuncData) : Prop where
  ex : ∃ (oc : Value) (od : Option Addr) (kV doc pm : Value) (an : Option Addr) (cdv ct : Value) (osl : Array (Option Value)),
    fd = PySem.W.fnOf x qual (jF st) (d7 st) (aw st) .none kV doc pm an cdv ct ∧ K.lookup f = some ⟨oc, od, .func fd, osl⟩ ∧ PySem.W.codeIn K cdv qual = true
  kp : PySem.W.keepIn K (.ref f) = true
section
variable {P : Program} {w : World} {K : PySem.W.Frag} {mg : Str → Option Value} {base : Heap}
theorem Fun.ok {x qual : Str} {st : Stmt} {f : Addr} {fd : FuncData} {N ps : List Str} {k : Nat} {sp : Sp} (F : Fun K x qual st f fd) (S : aR N ps (aw st)) (len : ∀ vs H Q E, sp vs H Q E → vs.length = ps.length)
    (hbody : ∀ (cdv : Value) (A : Around) (outer : List Env) (s : Shared) (H : Hp) (vs : List V) (Q : VK) (E : XK), eN k (A.deeper (envOfC qual (aw st) s.heap.objs.size f cdv)) → sp vs H Q E →
      ∃ t, PSs (jN CX0 P w K mg base N qual (aw st) f cdv A outer s H E).nox (d7 st) t ∧ t { nx := fun _ H' => Q .non H', rt := Q } (start N vs) H) : bS P w K mg base CX0 (k + 1) f fd ps sp := by
  obtain ⟨oc, od, kV, doc, pm, an, cdv, ct, osl, rfl, lk, hcd⟩ := F.ex
  refine Ei lk hcd S len fun A outer s H vs Q E hr hsp => ?_
  obtain ⟨t, h, q⟩ := hbody cdv A outer s H vs Q E hr hsp
  exact ⟨t, h.nox, q⟩
theorem Fun.binds {x qual : Str} {st : Stmt} {f : Addr} {fd : FuncData} {ps : List Str} (F : Fun K x qual st f fd)
    (h : ∀ (kV doc pm : Value) (an : Option Addr) (cdv ct : Value) (us : List Value), us.length = ps.length → bindArgs (PySem.W.fnOf x qual (jF st) (d7 st) (aw st) .none kV doc pm an cdv ct) ⟨us, []⟩ = pure (ps.zip us)) : Binds K fd ps [] := by
  obtain ⟨oc, od, kV, doc, pm, an, cdv, ct, osl, rfl, lk, hcd⟩ := F.ex
  exact .all (h kV doc pm an cdv ct)
theorem bF {x qual : Str} {st : Stmt} {f : Addr} {oc : Value} {od an : Option Addr} {osl : Array (Option Value)} {kV doc pm cdv ct : Value} (l : K.lookup f = some ⟨oc, od, .func (PySem.W.fnOf x qual (jF st) (d7 st) (aw st) .none kV doc pm an cdv ct), osl⟩)
    (c : PySem.W.codeIn K cdv qual = true) (k : PySem.W.keepIn K (.ref f) = true) : Fun K x qual st f (PySem.W.fnOf x qual (jF st) (d7 st) (aw st) .none kV doc pm an cdv ct) := ⟨⟨oc, od, kV, doc, pm, an, cdv, ct, osl, rfl, l, c⟩, k⟩
end
theorem gD {n : Nat} (h : n ≤ 1000) : n < sizeLine := Nat.lt_of_le_of_lt h (by decide)
section
variable {X : Cx}
end
theorem rX {A B : Prop} (h : B) : if false = true then A else B := by
  rw [if_neg Bool.false_ne_true]
  exact h
theorem rN {A B : Prop} (h : A) : if true = true then A else B := by
  rw [if_pos rfl]
  exact h
noncomputable def uf (H H' : Hp) : Prop := ∀ b o, H b = some o → H' b = some o
theorem uf.refl (H : Hp) : uf H H := fun _ _ h => h
end L2
set_option linter.all false
set_option maxRecDepth 100000
set_option maxHeartbeats 4000000
namespace NM
@[irreducible] def Sz (n : Nat) (i : Int) : Prop := i.natAbs < 2 ^ n
theorem Sz.mono {n m : Nat} {i : Int} (h : Sz n i) (l : n ≤ m) : Sz m i := by unfold Sz at *; exact Nat.lt_of_lt_of_le h (Nat.pow_le_pow_right (by decide) l)
theorem Sz.neg {n : Nat} {i : Int} (h : Sz n i) : Sz n (-i) := by unfold Sz at *; rw [Int.natAbs_neg]; exact h
theorem Sz.le {n : Nat} {i j : Int} (h : Sz n i) (g : j.natAbs ≤ i.natAbs) : Sz n j := by unfold Sz at *; exact Nat.lt_of_le_of_lt g h
theorem Sz.of {n : Nat} {i : Int} (h : i.natAbs < 2 ^ n) : Sz n i := by unfold Sz; exact h
theorem Sz.lt {n : Nat} {i : Int} (h : Sz n i) : i.natAbs < 2 ^ n := by unfold Sz at h; exact h
def g3 (a b c : Int) : Nat := Int.gcd (Int.gcd a b : Nat) c
theorem GC (a b c : Int) : Int.gcd (Int.gcd c a : Nat) b = g3 a b c := by
  unfold g3
  simp only [Int.gcd, Int.natAbs_natCast]
  rw [Nat.gcd_assoc, Nat.gcd_comm]
theorem DM (a b c : Int) : ((g3 a b c : Nat) : Int) ∣ a ∧ ((g3 a b c : Nat) : Int) ∣ b ∧ ((g3 a b c : Nat) : Int) ∣ c := by
  have h : ((g3 a b c : Nat) : Int) ∣ ((Int.gcd a b : Nat) : Int) := Int.gcd_dvd_left ..
  exact ⟨Int.dvd_trans h (Int.gcd_dvd_left ..), Int.dvd_trans h (Int.gcd_dvd_right ..), Int.gcd_dvd_right ..⟩
theorem ID {a b c : Int} {k : Nat} (h1 : (k : Int) ∣ a) (h2 : (k : Int) ∣ b) (h3 : (k : Int) ∣ c) : k ∣ g3 a b c := by
  unfold g3
  exact Int.dvd_gcd (Int.natCast_dvd_natCast.mpr (Int.dvd_gcd h1 h2)) h3
theorem vT {a b c : Int} (h : c ≠ 0) : 0 < g3 a b c := by
  unfold g3
  exact Int.gcd_pos_of_ne_zero_right _ h
theorem Eh (a b c k : Int) : g3 (a * k) (b * k) (c * k) = g3 a b c * k.natAbs := by
  unfold g3
  simp only [Int.gcd, Int.natAbs_natCast, Int.natAbs_mul, Nat.gcd_mul_right]
structure N3 where
  a : Int
  b : Int
  c : Int
deriving DecidableEq
theorem N3.ext' {x y : N3} (h1 : x.a = y.a) (h2 : x.b = y.b) (h3 : x.c = y.c) : x = y := by cases x; cases y; simp_all
structure Ok (x : N3) : Prop where
  c : 0 < x.c
  g : g3 x.a x.b x.c = 1
def dv (a b c : Int) : Int := if c < 0 then -(g3 a b c : Nat) else (g3 a b c : Nat)
def low (a b c : Int) : N3 := ⟨a.fdiv (dv a b c), b.fdiv (dv a b c), c.fdiv (dv a b c)⟩
theorem wX {a k q : Int} (hk : k ≠ 0) (h : a = k * q) : a.fdiv k = q := by
  subst h
  exact Int.mul_fdiv_cancel_left q hk
theorem Kg {a b c : Int} (h : c ≠ 0) : dv a b c ≠ 0 := by
  have := vT (a := a) (b := b) h
  unfold dv
  split <;> omega
theorem JD (a b c : Int) : dv a b c ∣ a ∧ dv a b c ∣ b ∧ dv a b c ∣ c := by
  obtain ⟨h1, h2, h3⟩ := DM a b c
  unfold dv
  split
  · exact ⟨Int.neg_dvd.mpr h1, Int.neg_dvd.mpr h2, Int.neg_dvd.mpr h3⟩
  · exact ⟨h1, h2, h3⟩
theorem sx (a b : Int) {c : Int} (h : c ≠ 0) : ∃ k : Int, k ≠ 0 ∧ (0 < k ↔ 0 < c) ∧ a = k * (low a b c).a ∧ b = k * (low a b c).b ∧ c = k * (low a b c).c ∧ Ok (low a b c) := by
  have hk := Kg (a := a) (b := b) h
  obtain ⟨⟨p, hp⟩, ⟨q, hq⟩, ⟨r, hr⟩⟩ := JD a b c
  have ep : (low a b c).a = p := wX hk hp
  have eq : (low a b c).b = q := wX hk hq
  have er : (low a b c).c = r := wX hk hr
  have hg := vT (a := a) (b := b) h
  have hs : 0 < dv a b c ↔ 0 < c := by unfold dv; split <;> omega
  have hr0 : 0 < r := by
    have hr' : r ≠ 0 := fun z => h (by rw [hr, z, Int.mul_zero])
    rcases Int.lt_trichotomy 0 (dv a b c) with z | z | z
    · have := hs.mp z
      rw [hr] at this
      rw [Int.mul_comm] at this
      exact Int.pos_of_mul_pos_left this z |> fun t => t
    · exact absurd z.symm hk
    · have : c < 0 := by omega
      rcases Int.lt_trichotomy 0 r with w | w | w
      · exact w
      · exact absurd w.symm hr'
      · have := Int.mul_pos_of_neg_of_neg z w
        rw [← hr] at this
        omega
  refine ⟨dv a b c, hk, hs, by rw [ep]; exact hp, by rw [eq]; exact hq, by rw [er]; exact hr, by rw [er]; exact hr0, ?_⟩
  rw [ep, eq, er]
  have e := Eh p q r (dv a b c)
  rw [Int.mul_comm p, Int.mul_comm q, Int.mul_comm r, ← hp, ← hq, ← hr] at e
  have e2 : (dv a b c).natAbs = g3 a b c := by unfold dv; split <;> simp
  rw [e2] at e
  have : g3 p q r * g3 a b c = 1 * g3 a b c := by omega
  exact Nat.eq_of_mul_eq_mul_right hg this
theorem Df (a b : Int) {c : Int} (h : c ≠ 0) : Ok (low a b c) := (sx a b h).choose_spec.2.2.2.2.2
theorem Ok.same {x y : N3} (hx : Ok x) (hy : Ok y) (h1 : x.a * y.c = y.a * x.c) (h2 : x.b * y.c = y.b * x.c) : x = y := by
  have key : ∀ {u v : N3}, Ok u → Ok v → u.a * v.c = v.a * u.c → u.b * v.c = v.b * u.c → u.c ∣ v.c := fun {u v} hu hv e1 e2 => by
    have hd : u.c.natAbs ∣ g3 (u.a * v.c) (u.b * v.c) (u.c * v.c) := ID
      (by rw [Int.natAbs_of_nonneg (Int.le_of_lt hu.c), e1]; exact Int.dvd_mul_left _ _) (by rw [Int.natAbs_of_nonneg (Int.le_of_lt hu.c), e2]; exact Int.dvd_mul_left _ _) (by rw [Int.natAbs_of_nonneg (Int.le_of_lt hu.c)]; exact Int.dvd_mul_right _ _)
    rw [Eh, hu.g, Nat.one_mul] at hd
    exact Int.natAbs_dvd_natAbs.mp hd
  have hc : x.c = y.c := Int.dvd_antisymm (Int.le_of_lt hx.c) (Int.le_of_lt hy.c) (key hx hy h1 h2) (key hy hx h1.symm h2.symm)
  have hn : y.c ≠ 0 := by have := hy.c; omega
  rw [hc] at h1 h2
  exact N3.ext' (Int.eq_of_mul_eq_mul_right hn h1) (Int.eq_of_mul_eq_mul_right hn h2) hc
theorem Ok.low {x : N3} (h : Ok x) : low x.a x.b x.c = x := by
  have hc : x.c ≠ 0 := by have := h.c; omega
  obtain ⟨k, hk, _, p1, p2, p3, o⟩ := sx x.a x.b hc
  refine o.same h ?_ ?_
  · exact Int.eq_of_mul_eq_mul_left hk (by grind)
  · exact Int.eq_of_mul_eq_mul_left hk (by grind)
theorem Dr (a b : Int) {c : Int} (h : c ≠ 0) : (low a b c).a.natAbs ≤ a.natAbs ∧ (low a b c).b.natAbs ≤ b.natAbs ∧ (low a b c).c.natAbs ≤ c.natAbs := by
  obtain ⟨k, hk, _, p1, p2, p3, _⟩ := sx a b h
  have hk' : 1 ≤ k.natAbs := by omega
  have le : ∀ {u v : Int}, u = k * v → v.natAbs ≤ u.natAbs := fun {u v} e => by
    rw [e, Int.natAbs_mul]
    exact Nat.le_mul_of_pos_left _ hk'
  exact ⟨le p1, le p2, le p3⟩
structure Bd (n : Nat) (x : N3) : Prop where
  a : Sz n x.a
  b : Sz n x.b
  c : Sz n x.c
theorem Ib {a b c : Int} {n : Nat} (h : c ≠ 0) (ha : Sz n a) (hb : Sz n b) (hc : Sz n c) : Bd n (low a b c) := by
  obtain ⟨h1, h2, h3⟩ := Dr a b h
  exact ⟨ha.le h1, hb.le h2, hc.le h3⟩
def plus (x y : N3) : N3 := low (x.a * y.c + y.a * x.c) (x.b * y.c + y.b * x.c) (x.c * y.c)
def times (d : Int) (x y : N3) : N3 := low (x.a * y.a + d * x.b * y.b) (x.a * y.b + x.b * y.a) (x.c * y.c)
def norm (d : Int) (x : N3) : Int := x.a * x.a - d * x.b * x.b
def CZ (d : Int) (x : N3) : N3 := low (x.c * x.a) (-x.c * x.b) (norm d x)
def FD (x : N3) : N3 := ⟨x.a, -x.b, x.c⟩
def one : N3 := ⟨1, 0, 1⟩
noncomputable def P (d a b : Int) : Prop := (0 ≤ a ∧ 0 ≤ b ∧ ¬ (a = 0 ∧ b = 0)) ∨ (0 < a ∧ b < 0 ∧ d * b * b < a * a) ∨ (a < 0 ∧ 0 < b ∧ a * a < d * b * b)
end NM
set_option linter.all false
set_option maxRecDepth 100000
set_option maxHeartbeats 4000000
namespace NM
section
variable {x y : N3} {A B C A' B' C' d : Int}
end
end NM
set_option linter.all false
set_option maxRecDepth 100000
set_option maxHeartbeats 4000000
namespace NM
def A2 (d : Int) (x : N3) : N3 := times d (times d (plus x (FD x)) (plus x (FD x))) (CZ d (times d x (FD x)))
section
variable {d : Int} {x y z : N3}
def W (x y : N3) : Int := x.b * y.a - x.a * y.b
end
end NM
set_option Elab.async false
set_option linter.all false
set_option maxRecDepth 100000
set_option maxHeartbeats 4000000
namespace L2.DL
open PySem PySem.Spec PyProof.Rows
abbrev Mu := Addr → Option (List PyData)
abbrev PQ := PySem.W.Frag → V → Mu → Hp → Prop
inductive D where
  | v (x : PyData)
  | m (a : Addr)
  | s (ns : List Int)
  /-- an object that is handed on -/
  | o (a : Addr)
  /-- a thing of which something is known that stays -/
  | q (P : PQ)
abbrev Rho := List (Option D)
def aE (μ : Mu) (a : Addr) (ds : List PyData) : Mu := fun b => if b = a then some ds else μ b
theorem bC {μ : Mu} {a : Addr} {ds} : aE μ a ds a = some ds := by unfold aE; rw [if_pos rfl]
theorem cN {μ : Mu} {a b : Addr} {ds} (h : b ≠ a) : aE μ a ds b = μ b := by unfold aE; rw [if_neg h]
theorem u6 {μ : Mu} {a : Addr} {ds es} : aE (aE μ a ds) a es = aE μ a es := by
  funext b; unfold aE; split <;> rfl
mutual
inductive Rp (K : PySem.W.Frag) (μ : Mu) (H : Hp) : PyData → V → Prop
  | none : Rp K μ H .none .non
  | bool (b : Bool) : Rp K μ H (.bool b) (.bl b)
  | int (i : Int) : Rp K μ H (.int i) (.int i)
  | str (x : Str) : Rp K μ H (.str x) (.str x)
  | list {a : Addr} {xs : List V} {ds : List PyData} : H a = some (.lst xs) → μ a = Option.none → RpL K μ H ds xs → Rp K μ H (.list ds) (.ref a)
  | tuple {a : Addr} {xs : List V} {ds : List PyData} : SqT K H a xs → RpL K μ H ds xs → Rp K μ H (.tuple ds) (.ref a)
inductive RpL (K : PySem.W.Frag) (μ : Mu) (H : Hp) : List PyData → List V → Prop
  | nil : RpL K μ H [] []
  | cons {d : PyData} {v : V} {ds : List PyData} {vs : List V} : Rp K μ H d v → RpL K μ H ds vs → RpL K μ H (d :: ds) (v :: vs)
end
def NT : HO → Prop
  | .tbl _ => False
  | _ => True
structure Ext (K : PySem.W.Frag) (μ : Mu) (H : Hp) (μ' : Mu) (H' : Hp) : Prop where
  keep : ∀ b o, H b = some o → μ b = none → NT o → H' b = some o
  tb : ∀ b ps, H b = some (.tbl ps) → μ b = none → ∃ ps', H' b = some (.tbl ps')
  dom : ∀ b ds, μ b = some ds → ∃ es, μ' b = some es
  fresh : ∀ b, μ b = none → (H b ≠ none ∨ K.lookup b ≠ none) → μ' b = none
def RpD (K : PySem.W.Frag) (μ : Mu) (H : Hp) : D → V → Prop
  | .v x, u => Rp K μ H x u
  | .m a, u => u = .ref a ∧ ∃ ds, μ a = some ds
  | .s ns, u => ∃ a, u = .ref a ∧ SqL K H a (ns.map V.int) ∧ μ a = none
  | .o a, u => u = .ref a
  | .q P, u => ∀ μ' H', Ext K μ H μ' H' → P K u μ' H'
noncomputable def codeAt (c : Addr) (q : Str) (h : Heap) : Prop := ∃ o vs t, h.get? c = some o ∧ o.data = .fields vs ∧ vs[1]? = some (.str q t)
abbrev bO (q : Str) : Str := (q ++ ".<locals>.") ++ "<lambda>"
noncomputable def KW (H : Hp) (P : Addr) (q : Str) : Prop := ∃ ps : Array Value, H P = some (.tbl ps) ∧ TriplesOk ps.toList ∧ ∀ pos cv, codeAmong pos ps.toList = some cv → ∃ c, cv = .ref c ∧ H c = some (.ext (codeAt c (bO q)))
noncomputable def uI (K : PySem.W.Frag) (H : Hp) : Prop := ∀ c o P q, K.lookup c = some o → bq o = some (P, q) → KW H P q
structure bK (K : PySem.W.Frag) (μ : Mu) (H : Hp) : Prop where
  lst : ∀ a ds, μ a = some ds → ∃ xs, H a = some (.lst xs) ∧ RpL K μ H ds xs
  tab : uI K H
instance {K : PySem.W.Frag} {μ : Mu} {H : Hp} : CoeFun (bK K μ H) fun _ => ∀ a ds, μ a = some ds → ∃ xs, H a = some (.lst xs) ∧ RpL K μ H ds xs := ⟨bK.lst⟩
theorem uI.of {K : PySem.W.Frag} {H H1 : Hp} (t : uI K H) (s : ∀ b o, H b = some o → (∀ xs, o ≠ .lst xs) → H1 b = some o) : uI K H1 := fun c o P q h1 h2 => by
  obtain ⟨ps, a1, a2, a3⟩ := t c o P q h1 h2
  exact ⟨ps, s _ _ a1 (fun _ z => nomatch z), a2, fun pos cv e => let ⟨c, q1, q2⟩ := a3 pos cv e; ⟨c, q1, s _ _ q2 (fun _ z => nomatch z)⟩⟩
noncomputable def iq (K : PySem.W.Frag) (μ : Mu) (H : Hp) (ρ : Rho) (σ : St) : Prop :=
  ρ.length = σ.length ∧ ∀ (i : Nat) (d : D), ρ[i]? = some (some d) → ∃ u, σ[i]? = some (some u) ∧ RpD K μ H d u
structure St0 (K : PySem.W.Frag) (H : Hp) (ρ : Rho) (μ : Mu) (σ : St) : Prop where
  mu : bK K μ H
  rho : iq K μ H ρ σ
section
variable {K : PySem.W.Frag} {μ μ1 μ2 : Mu} {H H1 H2 : Hp}
theorem Ext.refl : Ext K μ H μ H := ⟨fun _ _ h _ _ => h, fun _ ps h _ => ⟨ps, h⟩, fun _ ds h => ⟨ds, h⟩, fun _ h _ => h⟩
theorem Ext.trans (a : Ext K μ H μ1 H1) (b : Ext K μ1 H1 μ2 H2) : Ext K μ H μ2 H2 where
  keep := fun c o h n t => b.keep c o (a.keep c o h n t) (a.fresh c n (.inl (by rw [h]; exact fun z => nomatch z))) t
  tb := fun c ps h n => by
    obtain ⟨ps1, h1⟩ := a.tb c ps h n
    exact b.tb c ps1 h1 (a.fresh c n (.inl (by rw [h]; exact fun z => nomatch z)))
  dom := fun c ds h => let ⟨es, q⟩ := a.dom c ds h; b.dom c es q
  fresh := fun c n h => by
    refine b.fresh c (a.fresh c n h) ?_
    rcases h with h | h
    · cases q : H c with
      | none => exact absurd q h
      | some o =>
        by_cases t : NT o
        · exact .inl (by rw [a.keep c o q n t]; exact fun z => nomatch z)
        · cases o with
          | tbl ps =>
            obtain ⟨ps1, h1⟩ := a.tb c ps q n
            exact .inl (by rw [h1]; exact fun z => nomatch z)
          | _ => exact absurd trivial t
    · exact .inr h
theorem Ext.of_same (s : uf H H1) : Ext K μ H μ H1 := ⟨fun b o h _ _ => s b o h, fun b ps h _ => ⟨ps, s b _ h⟩, fun _ ds h => ⟨ds, h⟩, fun _ h _ => h⟩
theorem bK.not {a : Addr} {o : HO} (ok : bK K μ H) (h : H a = some o) (n : ∀ xs, o ≠ .lst xs) : μ a = none := by
  cases q : μ a with
  | none => rfl
  | some ds =>
    obtain ⟨ys, e, _⟩ := ok a ds q
    rw [h] at e
    exact absurd (Option.some.inj e) (n ys)
theorem bK.free {a : Addr} (ok : bK K μ H) (h : H a = none) : μ a = none := by
  cases q : μ a with
  | none => rfl
  | some ds =>
    obtain ⟨ys, e, _⟩ := ok a ds q
    rw [h] at e; cases e
theorem xx {a : Addr} {xs : List V} (ok : bK K μ H) (e : Ext K μ H μ1 H1) (h : SqT K H a xs) : SqT K H1 a xs := by
  rcases h with (h | ⟨o, h⟩) | h
  · exact .inl (.inl (e.keep _ _ h (ok.not h fun _ z => nomatch z) trivial))
  · exact .inl (.inr ⟨o, e.keep _ _ h (ok.not h fun _ z => nomatch z) trivial⟩)
  · exact .inr h
theorem BD {a : Addr} {xs : List V} (e : Ext K μ H μ1 H1) (h : SqL K H a xs) (n : μ a = none) : SqL K H1 a xs ∧ μ1 a = none := by
  rcases h with (h | ⟨o, h⟩) | h
  · exact ⟨.inl (.inl (e.keep _ _ h n trivial)), e.fresh _ n (.inl (by rw [h]; exact fun z => nomatch z))⟩
  · exact ⟨.inl (.inr ⟨o, e.keep _ _ h n trivial⟩), e.fresh _ n (.inl (by rw [h]; exact fun z => nomatch z))⟩
  · obtain ⟨o, its, k, hk, r⟩ := id h
    exact ⟨.inr h, e.fresh _ n (.inr (by rw [hk]; exact fun z => nomatch z))⟩
mutual
theorem Rp.ext {d : PyData} {u : V} (ok : bK K μ H) (e : Ext K μ H μ1 H1) : Rp K μ H d u → Rp K μ1 H1 d u
  | .none => .none
  | .bool b => .bool b
  | .int i => .int i
  | .str x => .str x
  | .list h n r => .list (e.keep _ _ h n trivial) (e.fresh _ n (.inl (by rw [h]; exact fun z => nomatch z))) (RpL.ext ok e r)
  | .tuple h r => .tuple (xx ok e h) (RpL.ext ok e r)
theorem RpL.ext {ds : List PyData} {us : List V} (ok : bK K μ H) (e : Ext K μ H μ1 H1) : RpL K μ H ds us → RpL K μ1 H1 ds us
  | .nil => .nil
  | .cons h r => .cons (Rp.ext ok e h) (RpL.ext ok e r)
end
theorem RpD.ext {d : D} {u : V} (ok : bK K μ H) (e : Ext K μ H μ1 H1) (r : RpD K μ H d u) : RpD K μ1 H1 d u := by
  cases d with
  | v x => exact Rp.ext ok e r
  | m a => obtain ⟨h, ds, q⟩ := r; exact ⟨h, e.dom a ds q⟩
  | s ns => obtain ⟨a, h, q, n⟩ := r; exact ⟨a, h, (BD e q n).1, (BD e q n).2⟩
  | o a => exact r
  | q P => exact fun μ' H' e' => r μ' H' (e.trans e')
theorem iq.ext {ρ : Rho} {σ : St} (ok : bK K μ H) (e : Ext K μ H μ1 H1) (r : iq K μ H ρ σ) : iq K μ1 H1 ρ σ :=
  ⟨r.1, fun i d h => let ⟨u, h1, h2⟩ := r.2 i d h; ⟨u, h1, h2.ext ok e⟩⟩
theorem RpL.length {ds : List PyData} {us : List V} : RpL K μ H ds us → ds.length = us.length
  | .nil => rfl
  | .cons _ r => congrArg (· + 1) (RpL.length r)
theorem RpL.get {ds : List PyData} {us : List V} : ∀ {i : Nat} {d : PyData}, RpL K μ H ds us → ds[i]? = some d → ∃ u, us[i]? = some u ∧ Rp K μ H d u
  | _, _, .nil, h => by simp at h
  | 0, _, .cons r _, h => by simp at h; subst h; exact ⟨_, rfl, r⟩
  | i + 1, d, .cons _ t, h => by
    obtain ⟨u, h1, h2⟩ := RpL.get (i := i) (d := d) t (by simpa using h)
    exact ⟨u, by simpa using h1, h2⟩
theorem RpL.append {ds es : List PyData} {us ws : List V} : RpL K μ H ds us → RpL K μ H es ws → RpL K μ H (ds ++ es) (us ++ ws)
  | .nil, s => s
  | .cons r t, s => .cons r (RpL.append t s)
theorem RpL.set {ds : List PyData} {us : List V} {d : PyData} {u : V} (q : Rp K μ H d u) : ∀ (i : Nat), RpL K μ H ds us → RpL K μ H (ds.set i d) (us.set i u)
  | _, .nil => .nil
  | 0, .cons _ t => .cons q t
  | i + 1, .cons r t => .cons r (RpL.set q i t)
theorem Ah {ds : List PyData} {us : List V} {i : Int} {d : PyData} (r : RpL K μ H ds us) (h : atI ds i = some d) : ∃ u, atI us i = some u ∧ Rp K μ H d u := by
  unfold atI at h ⊢
  rw [← r.length]
  cases q : ixN ds.length i with
  | none => rw [q] at h; cases h
  | some j =>
    rw [q] at h
    exact r.get h
abbrev DK := D → Mu → Prop
abbrev DTE := Rho → Mu → DK → Prop
abbrev DTT := Rho → Mu → (Bool → Mu → Prop) → Prop
abbrev DTA := Rho → Mu → (List D → Mu → Prop) → Prop
structure qB where
  nx : Rho → Mu → Prop
  rt : DK
  bk : Rho → Mu → Prop := fun _ _ => False
  ct : Rho → Mu → Prop := fun _ _ => False
abbrev DTS := qB → Rho → Mu → Prop
inductive jo (K : PySem.W.Frag) (μ : Mu) (H : Hp) : List D → List V → Prop
  | nil : jo K μ H [] []
  | cons {d : D} {u : V} {ds : List D} {us : List V} : RpD K μ H d u → jo K μ H ds us → jo K μ H (d :: ds) (u :: us)
theorem jo.ext {ds : List D} {us : List V} (ok : bK K μ H) (e : Ext K μ H μ1 H1) : jo K μ H ds us → jo K μ1 H1 ds us
  | .nil => .nil
  | .cons h r => .cons (h.ext ok e) (jo.ext ok e r)
theorem jo.length {ds : List D} {us : List V} : jo K μ H ds us → ds.length = us.length
  | .nil => rfl
  | .cons _ r => congrArg (· + 1) (jo.length r)
end
noncomputable def nI (K : PySem.W.Frag) (t : TE) (td : DTE) : Prop := ∀ (σ : St) (H : Hp) (ρ : Rho) (μ : Mu) (Qd : DK) (Q : VK), St0 K H ρ μ σ → td ρ μ Qd →
  (∀ d u μ' H', Ext K μ H μ' H' → St0 K H' ρ μ' σ → RpD K μ' H' d u → Qd d μ' → Q u H') → t σ H Q
noncomputable def DC (K : PySem.W.Frag) (t : TT) (td : DTT) : Prop := ∀ (σ : St) (H : Hp) (ρ : Rho) (μ : Mu) (Qd : Bool → Mu → Prop) (Q : Bool → Hp → Prop), St0 K H ρ μ σ → td ρ μ Qd →
  (∀ b μ' H', Ext K μ H μ' H' → St0 K H' ρ μ' σ → Qd b μ' → Q b H') → t σ H Q
noncomputable def G5 (K : PySem.W.Frag) (n : Nat) (t : TA) (td : DTA) : Prop := ∀ (σ : St) (H : Hp) (ρ : Rho) (μ : Mu) (Qd : List D → Mu → Prop) (Q : List V → Hp → Prop), St0 K H ρ μ σ → td ρ μ Qd →
  (∀ ds us μ' H', Ext K μ H μ' H' → St0 K H' ρ μ' σ → jo K μ' H' ds us → ds.length = n → Qd ds μ' → Q us H') → t σ H Q
noncomputable def vn (K : PySem.W.Frag) (t : TS) (td : DTS) : Prop := ∀ (σ : St) (H : Hp) (ρ : Rho) (μ : Mu) (Dd : qB) (De : Ends), St0 K H ρ μ σ → td Dd ρ μ →
  (∀ σ' ρ' μ' H', Ext K μ H μ' H' → St0 K H' ρ' μ' σ' → Dd.nx ρ' μ' → De.nx σ' H') →
  (∀ d u μ' H', Ext K μ H μ' H' → bK K μ' H' → RpD K μ' H' d u → Dd.rt d μ' → De.rt u H') →
  (∀ σ' ρ' μ' H', Ext K μ H μ' H' → St0 K H' ρ' μ' σ' → Dd.bk ρ' μ' → De.bk σ' H') →
  (∀ σ' ρ' μ' H', Ext K μ H μ' H' → St0 K H' ρ' μ' σ' → Dd.ct ρ' μ' → De.ct σ' H') → t De σ H
noncomputable def DE (X : Cx) (e : Expr) (td : DTE) : Prop := ∃ t, PE X e t ∧ nI X.K t td
noncomputable def DT (X : Cx) (e : Expr) (td : DTT) : Prop := ∃ t, PT X e t ∧ DC X.K t td
noncomputable def DA (X : Cx) (es : List Expr) (td : DTA) : Prop := ∃ t, PA X es t ∧ G5 X.K es.length t td
noncomputable def DS (X : Cx) (st : Stmt) (td : DTS) : Prop := ∃ t, PS X st t ∧ vn X.K t td
noncomputable def DSs (X : Cx) (st : List Stmt) (td : DTS) : Prop := ∃ t, PSs X st t ∧ vn X.K t td
section
variable {X : Cx} {a b c : Expr} {ta tb tc : DTE} {pos : Pos}
noncomputable def af (i : Nat) : DTE := fun ρ μ Q => match ρ[i]? with
  | some (some d) => Q d μ
  | _ => False
noncomputable def dC (x : PyData) : DTE := fun _ μ Q => Q (.v x) μ
theorem ET {K : PySem.W.Frag} (i : Nat) : nI K (Ku i) (af i) := by
  intro σ H ρ μ Qd Q S h k
  unfold af at h
  split at h
  · rename_i d e
    obtain ⟨u, h1, h2⟩ := S.rho.2 i d e
    exact ⟨u, h1, k d u μ H .refl S h2 h⟩
  · exact h.elim
theorem dv (i : Nat) {x : Str} {pos : Pos} (hN : X.N[i]? = some x := by rfl) (hv : Vis X.env.scope x := by first | exact Or.inl rfl | exact Or.inr (Or.inl rfl) | exact Or.inr (Or.inr rfl)) (hd : (x == ("__debug__" : Str)) = false := by decide)
    (hcd : (x == ("__classdict__" : Str)) = false := by decide) : DE X (.Name x pos) (af i) := ⟨_, Ex hN hv hd hcd, ET i⟩
theorem ub {K : PySem.W.Frag} {x : PyData} {u : V} (h : ∀ μ H, bK K μ H → Rp K μ H x u) : nI K (tC u) (dC x) := fun σ H ρ μ Qd Q S q k => k (.v x) u μ H .refl S (h μ H S.mu) q
theorem ah {i j pos} : DE X (.Constant (.int i) j pos) (dC (.int i)) := ⟨_, Dl, ub fun _ _ _ => .int i⟩
theorem vm {i j pos} : DE X (.Constant (.bool i) j pos) (dC (.bool i)) := ⟨_, Kv, ub fun _ _ _ => .bool i⟩
theorem nq {j pos} : DE X (.Constant .none j pos) (dC .none) := ⟨_, Io, ub fun _ _ _ => .none⟩
theorem ak {x j pos} : DE X (.Constant (.str x) j pos) (dC (.str x)) := ⟨_, D7, ub fun _ _ _ => .str x⟩
theorem rp {x : Str} {d : PyData} {u : V} {w : Value} {pos : Pos} (hg : Gl X x) (hm : X.mg x = some w) (r : RelV u w) (h : ∀ μ H, bK X.K μ H → Rp X.K μ H d u) (hd : (x == ("__debug__" : Str)) = false := by decide) : DE X (.Name x pos) (dC d) :=
  ⟨_, A9 hg hm r hd, ub h⟩
noncomputable def fT (K : PySem.W.Frag) (rr : R2) (r : D → D → Mu → DK → Prop) : Prop := ∀ (x y : D) (ux uy : V) (H : Hp) (μ : Mu) (Qd : DK) (Q : VK), bK K μ H → RpD K μ H x ux → RpD K μ H y uy → r x y μ Qd →
  (∀ d u μ' H', Ext K μ H μ' H' → bK K μ' H' → RpD K μ' H' d u → Qd d μ' → Q u H') → rr ux uy H Q
noncomputable def dOp (r : D → D → Mu → DK → Prop) (ta tb : DTE) : DTE := fun ρ μ Q => ta ρ μ fun x μ1 => tb ρ μ1 fun y μ2 => r x y μ2 Q
theorem nW {K : PySem.W.Frag} {rr : R2} {r} {t1 t2 : TE} (lo : fT K rr r) (la : nI K t1 ta) (lb : nI K t2 tb) : nI K (tOp rr t1 t2) (dOp r ta tb) := by
  intro σ H ρ μ Qd Q S h k
  refine la σ H ρ μ _ _ S h fun x ux μ1 H1 e1 S1 rx h1 => ?_
  refine lb σ H1 ρ μ1 _ _ S1 h1 fun y uy μ2 H2 e2 S2 ry h2 => ?_
  exact lo x y ux uy H2 μ2 _ _ S2.mu (rx.ext S1.mu e2) ry h2 fun d u μ' H' e3 ok r q => k d u μ' H' (e1.trans (e2.trans e3)) ⟨ok, S2.rho.ext S2.mu e3⟩ r q
theorem oM {op : Operator} {rr : R2} {r} (ho : OpR X (binaryOp op) rr) (lo : fT X.K rr r) (ha : DE X a ta) (hb : DE X b tb) : DE X (.BinOp a op b pos) (dOp r ta tb) := by
  obtain ⟨t1, p1, l1⟩ := ha
  obtain ⟨t2, p2, l2⟩ := hb
  exact ⟨_, KG ho p1 p2, nW lo l1 l2⟩
theorem ji {op : CmpOp} {rr : R2} {r} (ho : OpR X (compareOp op) rr) (lo : fT X.K rr r) (ha : DE X a ta) (hb : DE X b tb) (hm : behindInMarks op b = false) : DE X (.Compare a [op] [b] pos) (dOp r ta tb) := by
  obtain ⟨t1, p1, l1⟩ := ha
  obtain ⟨t2, p2, l2⟩ := hb
  exact ⟨_, Gn ho p1 p2 hm, nW lo l1 l2⟩
noncomputable def dB (t : DTE) : DTT := fun ρ μ Q => t ρ μ fun d μ1 => match d with
  | .v (.bool k) => Q k μ1
  | _ => False
theorem pH {K : PySem.W.Frag} {t : TE} {td : DTE} (l : nI K t td) : DC K (E6 t) (dB td) := by
  intro σ H ρ μ Qd Q S h k
  refine l σ H ρ μ _ _ S h fun d u μ1 H1 e1 S1 r q => ?_
  split at q
  · rename_i b
    cases r
    exact ⟨b, rfl, k b μ1 H1 e1 S1 q⟩
  · exact q.elim
theorem aC {op : CmpOp} {rr : R2} {r} (ho : OpR X (compareOp op) rr) (lo : fT X.K rr r) (ha : DE X a ta) (hb : DE X b tb) (hm : behindInMarks op b = false) : DT X (.Compare a [op] [b] pos) (dB (dOp r ta tb)) := by
  obtain ⟨t1, p1, l1⟩ := ha
  obtain ⟨t2, p2, l2⟩ := hb
  exact ⟨_, FW ho p1 p2 hm, pH (nW lo l1 l2)⟩
theorem bL {e : Expr} {td : DTE} (h : DE X e td) (he : ∀ whole, isTrue e X.env whole = (do let v ← whole; standAt e.pos; holding [v] (truthy v)) := by intro _; rfl) : DT X e (dB td) := by
  obtain ⟨t, p, l⟩ := h
  exact ⟨_, IX p he, pH l⟩
def rII (C : Int → Int → Prop) (g : Int → Int → PyData) : D → D → Mu → DK → Prop := fun x y μ Q => match x, y with
  | .v (.int i), .v (.int j) => C i j ∧ Q (.v (g i j)) μ
  | _, _ => False
theorem Gb {K : PySem.W.Frag} {C : Int → Int → Prop} {g : Int → Int → V} {gd : Int → Int → PyData} (hg : ∀ μ H i j, Rp K μ H (gd i j) (g i j)) : fT K (rI C g) (rII C gd) := by
  intro x y ux uy H μ Qd Q ok rx ry h k
  unfold rII at h
  split at h
  · rename_i i j
    cases rx; cases ry
    exact ⟨i, j, rfl, rfl, h.1, k (.v _) _ μ H .refl ok (hg μ H i j) h.2⟩
  · exact h.elim
def uh (g : Int → Int → PyData) : D → D → Mu → DK → Prop := fun x y μ Q => match x, y with
  | .v (.int i), .v (.int j) => Q (.v (g i j)) μ
  | _, _ => False
theorem DR {K : PySem.W.Frag} {g : Int → Int → V} {gd : Int → Int → PyData} (hg : ∀ μ H i j, Rp K μ H (gd i j) (g i j)) : fT K (rI0 g) (uh gd) := by
  intro x y ux uy H μ Qd Q ok rx ry h k
  unfold uh at h
  split at h
  · rename_i i j
    cases rx; cases ry
    exact ⟨i, j, rfl, rfl, k (.v _) _ μ H .refl ok (hg μ H i j) h⟩
  · exact h.elim
noncomputable abbrev mL (ta tb : DTE) : DTE := dOp (uh fun i j => .int (i + j)) ta tb
noncomputable abbrev FJ (ta tb : DTE) : DTE := dOp (uh fun i j => .int (i - j)) ta tb
noncomputable abbrev MulOk (i j : Int) : Prop := IntMulOk i j
noncomputable abbrev wg (ta tb : DTE) : DTE := dOp (rII MulOk fun i j => .int (i * j)) ta tb
noncomputable abbrev um (ta tb : DTE) : DTE := dOp (rII (fun _ j => j ≠ 0) fun i j => .int (i.fmod j)) ta tb
noncomputable abbrev qu (i j : Int) : Prop := j ≠ 0 ∧ Builtin.divisionGoesByPylong i j = false
noncomputable abbrev sC (ta tb : DTE) : DTE := dOp (rII qu fun i j => .int (i.fdiv j)) ta tb
noncomputable abbrev Dj (ta tb : DTE) : DTE := dOp (rII IA fun i j => .int (i ^ j.toNat)) ta tb
theorem FZ : OpR X (binaryOp .Mult) (rI MulOk fun i j => .int (i * j)) := opI fun _ _ _ _ _ _ _ hc q => mul_int q hc
theorem FH : OpR X (binaryOp .FloorDiv) (rI qu fun i j => .int (i.fdiv j)) := opI fun _ _ _ _ _ _ _ hc q => floordiv_int hc.1 q (.inl hc.2)
theorem eU (ha : DE X a ta) (hb : DE X b tb) : DE X (.BinOp a .Add b pos) (mL ta tb) := oM Jo (DR fun _ _ _ _ => .int _) ha hb
theorem AE (ha : DE X a ta) (hb : DE X b tb) : DE X (.BinOp a .Sub b pos) (FJ ta tb) := oM IQ (DR fun _ _ _ _ => .int _) ha hb
theorem l6 (ha : DE X a ta) (hb : DE X b tb) : DE X (.BinOp a .Mult b pos) (wg ta tb) := oM FZ (Gb fun _ _ _ _ => .int _) ha hb
theorem kC (ha : DE X a ta) (hb : DE X b tb) : DE X (.BinOp a .Mod b pos) (um ta tb) := oM Fn (Gb fun _ _ _ _ => .int _) ha hb
theorem jH (ha : DE X a ta) (hb : DE X b tb) : DE X (.BinOp a .FloorDiv b pos) (sC ta tb) := oM FH (Gb fun _ _ _ _ => .int _) ha hb
theorem wm (ha : DE X a ta) (hb : DE X b tb) : DE X (.BinOp a .Pow b pos) (Dj ta tb) := oM IS (Gb fun _ _ _ _ => .int _) ha hb
abbrev rLt := uh fun i j => .bool (decide (i < j))
abbrev rLe := uh fun i j => .bool (decide (i ≤ j))
abbrev rGt := uh fun i j => .bool (decide (j < i))
abbrev rGe := uh fun i j => .bool (decide (j ≤ i))
theorem lz {K : PySem.W.Frag} {p : Int → Int → Bool} : fT K (rI0 fun i j => .bl (p i j)) (uh fun i j => .bool (p i j)) := DR fun _ _ _ _ => .bool _
noncomputable def iA (ta : DTE) : DTE := fun ρ μ Q => ta ρ μ fun x μ1 => match x with
  | .v (.int i) => Q (.v (.int (-i))) μ1
  | _ => False
theorem cR (ha : DE X a ta) : DE X (.UnaryOp .USub a pos) (iA ta) := by
  obtain ⟨t1, p1, l1⟩ := ha
  refine ⟨_, EA zr p1, fun σ H ρ μ Qd Q S h k => ?_⟩
  refine l1 σ H ρ μ _ _ S h fun x ux μ1 H1 e1 S1 rx h1 => ?_
  split at h1
  · rename_i i
    cases rx
    exact ⟨i, rfl, k (.v _) _ μ1 H1 e1 S1 (Rp.int _) h1⟩
  · exact h1.elim
noncomputable def kf (t u : DTT) : DTT := fun ρ μ Q => t ρ μ fun c μ1 => if c = true then u ρ μ1 Q else Q false μ1
noncomputable def mM (t u : DTT) : DTT := fun ρ μ Q => t ρ μ fun c μ1 => if c = true then Q true μ1 else u ρ μ1 Q
noncomputable def fA (t : DTT) : DTT := fun ρ μ Q => t ρ μ fun c μ1 => Q (!c) μ1
noncomputable def DW (X : Cx) (e : Expr) (td : DTT) : Prop := ∃ t, PW X e t ∧ DC X.K t td
theorem DW.dt {e : Expr} {td : DTT} (h : DW X e td) : DT X e td := let ⟨t, p, l⟩ := h; ⟨t, p.pt, l⟩
variable {tA tB' : DTT} {rest : List Expr}
theorem kH (ha : DT X a tA) : DW X (.BoolOp .And [a] pos) tA := let ⟨t, p, l⟩ := ha; ⟨t, pw_and1 p, l⟩
theorem lE (ha : DT X a tA) : DW X (.BoolOp .Or [a] pos) tA := let ⟨t, p, l⟩ := ha; ⟨t, pw_or1 p, l⟩
theorem lW (ha : DT X a tA) (hb : DW X (.BoolOp .And (b :: rest) pos) tB') : DW X (.BoolOp .And (a :: b :: rest) pos) (kf tA tB') := by
  obtain ⟨t1, p1, l1⟩ := ha
  obtain ⟨t2, p2, l2⟩ := hb
  refine ⟨_, pw_and p1 p2, fun σ H ρ μ Qd Q S h k => ?_⟩
  refine l1 σ H ρ μ _ _ S h fun c μ1 H1 e1 S1 h1 => ?_
  cases c with
  | true =>
    refine rN (l2 σ H1 ρ μ1 _ _ S1 (by simpa using h1) fun c μ2 H2 e2 S2 h2 => k c μ2 H2 (e1.trans e2) S2 h2)
  | false => exact rX (k false μ1 H1 e1 S1 (by simpa using h1))
theorem lF (ha : DT X a tA) (hb : DW X (.BoolOp .Or (b :: rest) pos) tB') : DW X (.BoolOp .Or (a :: b :: rest) pos) (mM tA tB') := by
  obtain ⟨t1, p1, l1⟩ := ha
  obtain ⟨t2, p2, l2⟩ := hb
  refine ⟨_, pw_or p1 p2, fun σ H ρ μ Qd Q S h k => ?_⟩
  refine l1 σ H ρ μ _ _ S h fun c μ1 H1 e1 S1 h1 => ?_
  cases c with
  | true => exact rN (k true μ1 H1 e1 S1 (by simpa using h1))
  | false =>
    refine rX (l2 σ H1 ρ μ1 _ _ S1 (by simpa using h1) fun c μ2 H2 e2 S2 h2 => k c μ2 H2 (e1.trans e2) S2 h2)
theorem eW (ha : DT X a tA) : DT X (.UnaryOp .Not a pos) (fA tA) := by
  obtain ⟨t1, p1, l1⟩ := ha
  refine ⟨_, IM p1, fun σ H ρ μ Qd Q S h k => ?_⟩
  exact l1 σ H ρ μ _ _ S h fun c μ1 H1 e1 S1 h1 => k _ μ1 H1 e1 S1 h1
noncomputable def rK (ta tb : DTE) : DTE := fun ρ μ Q => ta ρ μ fun x μ1 => match x with
  | .v (.bool c) => if c = true then tb ρ μ1 Q else Q (.v (.bool false)) μ1
  | _ => False
noncomputable def EZ (ta : DTE) : DTE := fun ρ μ Q => ta ρ μ fun x μ1 => match x with
  | .v (.bool c) => Q (.v (.bool (!c))) μ1
  | _ => False
theorem wb {op} (h : DE X a ta) : DE X (.BoolOp op [a] pos) ta := let ⟨t, p, l⟩ := h; ⟨t, Hs p, l⟩
theorem xm (ha : DE X a ta) (hb : DE X (.BoolOp .And (b :: rest) pos) tb) : DE X (.BoolOp .And (a :: b :: rest) pos) (rK ta tb) := by
  obtain ⟨t1, p1, l1⟩ := ha
  obtain ⟨t2, p2, l2⟩ := hb
  refine ⟨_, JM p1 p2, fun σ H ρ μ Qd Q S h k => ?_⟩
  refine l1 σ H ρ μ _ _ S h fun x ux μ1 H1 e1 S1 rx h1 => ?_
  split at h1
  · rename_i c
    cases rx
    refine ⟨c, rfl, ?_⟩
    cases c with
    | true => exact rN (l2 σ H1 ρ μ1 _ _ S1 (by simpa using h1) fun d u μ2 H2 e2 S2 r2 h2 => k d u μ2 H2 (e1.trans e2) S2 r2 h2)
    | false => exact rX (k (.v _) _ μ1 H1 e1 S1 (Rp.bool false) (by simpa using h1))
  · exact h1.elim
theorem HF (ha : DE X a ta) : DE X (.UnaryOp .Not a pos) (EZ ta) := by
  obtain ⟨t1, p1, l1⟩ := ha
  refine ⟨_, HX p1, fun σ H ρ μ Qd Q S h k => ?_⟩
  refine l1 σ H ρ μ _ _ S h fun x ux μ1 H1 e1 S1 rx h1 => ?_
  split at h1
  · rename_i c
    cases rx
    exact ⟨c, rfl, k (.v _) _ μ1 H1 e1 S1 (Rp.bool _) h1⟩
  · exact h1.elim
noncomputable def dIf (t : DTT) (ta tb : DTE) : DTE := fun ρ μ Q => t ρ μ fun c μ1 => if c = true then ta ρ μ1 Q else tb ρ μ1 Q
theorem fh {c : Expr} (hc : DT X c tA) (ha : DE X a ta) (hb : DE X b tb) : DE X (.IfExp c a b pos) (dIf tA ta tb) := by
  obtain ⟨t0, p0, l0⟩ := hc
  obtain ⟨t1, p1, l1⟩ := ha
  obtain ⟨t2, p2, l2⟩ := hb
  refine ⟨_, yR p0 p1 p2, fun σ H ρ μ Qd Q S h k => ?_⟩
  refine l0 σ H ρ μ _ _ S h fun c μ1 H1 e1 S1 h1 => ?_
  cases c with
  | true => exact rN (l1 σ H1 ρ μ1 _ _ S1 (by simpa using h1) fun d u μ2 H2 e2 S2 r2 h2 => k d u μ2 H2 (e1.trans e2) S2 r2 h2)
  | false => exact rX (l2 σ H1 ρ μ1 _ _ S1 (by simpa using h1) fun d u μ2 H2 e2 S2 r2 h2 => k d u μ2 H2 (e1.trans e2) S2 r2 h2)
end
open PySem PySem.Spec PyProof.Rows
section
variable {K : PySem.W.Frag} {μ μ1 : Mu} {H H1 : Hp} {p : Addr}
theorem iz {o : HO} (h : H p = none) : Ext K μ H μ (upd H p o) :=
  ⟨fun b u e _ _ => by rw [bj (aO e h)]; exact e, fun b ps e _ => ⟨ps, by rw [bj (aO e h)]; exact e⟩, fun _ ds q => ⟨ds, q⟩, fun _ q _ => q⟩
theorem bK.GX (ok : bK K μ H) (e : Ext K μ H μ H1) (s : uf H H1) : bK K μ H1 := ⟨fun a ds q => by
  obtain ⟨xs, h1, h2⟩ := ok a ds q
  exact ⟨xs, s _ _ h1, h2.ext ok e⟩, ok.tab.of fun b o h _ => s b o h⟩
theorem D4 {o : HO} (h : H p = none) : uf H (upd H p o) := fun b u q => by rw [bj (aO q h)]; exact q
theorem bK.new {o : HO} (ok : bK K μ H) (h : H p = none) : bK K μ (upd H p o) := ok.GX (iz h) (D4 h)
theorem St0.new {o : HO} {ρ : Rho} {σ : St} (S : St0 K H ρ μ σ) (h : H p = none) : St0 K (upd H p o) ρ μ σ := ⟨S.mu.new h, S.rho.ext S.mu (iz h)⟩
theorem rE {us : List V} {ds : List PyData} (ok : bK K μ H) (r : RpL K μ H ds us) (h : H p = none) : Rp K μ (upd H p (.tup us)) (.tuple ds) (.ref p) :=
  .tuple (SqT.of dj) (r.ext ok (iz h))
theorem nD {us : List V} {ds : List PyData} (ok : bK K μ H) (r : RpL K μ H ds us) (h : H p = none) : Rp K μ (upd H p (.lst us)) (.list ds) (.ref p) :=
  .list dj (ok.free h) (r.ext ok (iz h))
theorem mG {o : HO} {ds : List PyData} (ok : bK K μ H) (h : H p = none) (hk : K.lookup p = none) : Ext K μ H (aE μ p ds) (upd H p o) where
  keep := fun b u e _ _ => by rw [bj (aO e h)]; exact e
  tb := fun b ps e _ => ⟨ps, by rw [bj (aO e h)]; exact e⟩
  dom := fun b es q => by
    have : b ≠ p := fun z => by rw [z, ok.free h] at q; cases q
    exact ⟨es, by rw [cN this]; exact q⟩
  fresh := fun b n q => by
    have : b ≠ p := fun z => by
      rcases q with q | q
      · exact q (by rw [z]; exact h)
      · exact q (by rw [z]; exact hk)
    rw [cN this]; exact n
theorem bK.mut {us : List V} {ds : List PyData} (ok : bK K μ H) (r : RpL K μ H ds us) (h : H p = none) (hk : K.lookup p = none) : bK K (aE μ p ds) (upd H p (.lst us)) := ⟨fun a es q => by
  have e := mG (o := .lst us) (ds := ds) ok h hk
  by_cases ha : a = p
  · subst ha
    rw [bC] at q
    cases q
    exact ⟨us, dj, r.ext ok e⟩
  · rw [cN ha] at q
    obtain ⟨xs, h1, h2⟩ := ok a es q
    exact ⟨xs, by rw [bj ha]; exact h1, h2.ext ok e⟩, ok.tab.of fun b o e _ => by rw [bj (aO e h)]; exact e⟩
theorem mC {o : HO} {ds es : List PyData} (h : μ p = some ds) : Ext K μ H (aE μ p es) (upd H p o) where
  keep := fun b u e n _ => by
    have : b ≠ p := fun z => by rw [z, h] at n; cases n
    rw [bj this]; exact e
  tb := fun b ps e n => by
    have : b ≠ p := fun z => by rw [z, h] at n; cases n
    exact ⟨ps, by rw [bj this]; exact e⟩
  dom := fun b fs q => by
    by_cases hb : b = p
    · subst hb; exact ⟨es, bC⟩
    · exact ⟨fs, by rw [cN hb]; exact q⟩
  fresh := fun b n q => by
    have : b ≠ p := fun z => by rw [z, h] at n; cases n
    rw [cN this]; exact n
theorem bK.set {us : List V} {ds es : List PyData} (ok : bK K μ H) (h : μ p = some ds) (r : RpL K μ H es us) : bK K (aE μ p es) (upd H p (.lst us)) := ⟨fun a fs q => by
  have e : Ext K μ H (aE μ p es) (upd H p (.lst us)) := mC h
  by_cases ha : a = p
  · subst ha
    rw [bC] at q
    cases q
    exact ⟨us, dj, r.ext ok e⟩
  · rw [cN ha] at q
    obtain ⟨xs, h1, h2⟩ := ok a fs q
    exact ⟨xs, by rw [bj ha]; exact h1, h2.ext ok e⟩, by
  obtain ⟨ys, hy, _⟩ := ok p ds h
  exact ok.tab.of fun b o e n => by
    have : b ≠ p := fun z => by rw [z, hy] at e; exact n ys (Option.some.inj e).symm
    rw [bj this]; exact e⟩
end
def cI : List D → Option (List PyData)
  | [] => some []
  | .v x :: r => (cI r).map (x :: ·)
  | _ :: _ => none
theorem jo.data {K : PySem.W.Frag} {μ : Mu} {H : Hp} : ∀ {ds : List D} {us : List V} {xs : List PyData}, jo K μ H ds us → cI ds = some xs → RpL K μ H xs us
  | _, _, _, .nil, e => by cases e; exact .nil
  | .v x :: r, _, xs, .cons h t, e => by
    simp only [cI] at e
    cases q : cI r with
    | none => rw [q] at e; cases e
    | some ys => rw [q] at e; cases e; exact .cons h (jo.data t q)
  | .m _ :: _, _, _, .cons _ _, e => by simp [cI] at e
  | .s _ :: _, _, _, .cons _ _, e => by simp [cI] at e
  | .o _ :: _, _, _, .cons _ _, e => by simp [cI] at e
section
variable {X : Cx} {e : Expr} {es : List Expr} {te : DTE} {t : DTA} {pos : Pos}
noncomputable def ao : DTA := fun _ μ Q => Q [] μ
noncomputable def ae (ta : DTE) (tr : DTA) : DTA := fun ρ μ Q => ta ρ μ fun x μ1 => tr ρ μ1 fun xs μ2 => Q (x :: xs) μ2
theorem ag : DA X [] ao := ⟨_, jP, fun σ H ρ μ Qd Q S h k => k [] [] μ H .refl S .nil rfl h⟩
theorem aa (ha : DE X e te) (hr : DA X es t) (hs : starEach (e :: es) X.env = (false, eval e X.env) :: starEach es X.env := by rfl) : DA X (e :: es) (ae te t) := by
  obtain ⟨t1, p1, l1⟩ := ha
  obtain ⟨t2, p2, l2⟩ := hr
  refine ⟨_, cY p1 p2 hs, fun σ H ρ μ Qd Q S h k => ?_⟩
  refine l1 σ H ρ μ _ _ S h fun x ux μ1 H1 e1 S1 rx h1 => ?_
  refine l2 σ H1 ρ μ1 _ _ S1 h1 fun xs us μ2 H2 e2 S2 rs len h2 => ?_
  exact k (x :: xs) (ux :: us) μ2 H2 (e1.trans e2) S2 (.cons (rx.ext S1.mu e2) rs) (by rw [List.length_cons, List.length_cons, len]) h2
noncomputable def dO (t : DTA) : DTE := fun ρ μ Q => t ρ μ fun ds μ1 => match cI ds with
  | some xs => Q (.v (.tuple xs)) μ1
  | none => False
noncomputable def je (t : DTA) : DTE := fun ρ μ Q => t ρ μ fun ds μ1 => match cI ds with
  | some xs => Q (.v (.list xs)) μ1
  | none => False
noncomputable def Bi (t : DTA) : DTE := fun ρ μ Q => t ρ μ fun ds μ1 => match cI ds with
  | some xs => ∀ p, μ1 p = none → Q (.m p) (aE μ1 p xs)
  | none => False
theorem bu {x1} (h : DA X es t) (hl : es.length ≤ 1000 := by decide) : DE X (.Tuple es x1 pos) (dO t) := by
  obtain ⟨t1, p1, l1⟩ := h
  refine ⟨_, Js p1, fun σ H ρ μ Qd Q S h k => ?_⟩
  refine l1 σ H ρ μ _ _ S h fun ds us μ1 H1 e1 S1 rs len h1 => ?_
  cases q : cI ds with
  | none => rw [q] at h1; exact h1.elim
  | some xs =>
    rw [q] at h1
    refine ⟨Nat.le_of_lt (gD (by rw [← rs.length, len]; exact hl)), fun p hp => ?_⟩
    exact k (.v (.tuple xs)) _ μ1 _ (e1.trans (iz hp)) (S1.new hp) (rE S1.mu (rs.data q) hp) h1
theorem cL (h : DA X es t) (hl : es.length ≤ 1000 := by decide) : DE X (.List es pos) (je t) := by
  obtain ⟨t1, p1, l1⟩ := h
  refine ⟨_, Je p1, fun σ H ρ μ Qd Q S h k => ?_⟩
  refine l1 σ H ρ μ _ _ S h fun ds us μ1 H1 e1 S1 rs len h1 => ?_
  cases q : cI ds with
  | none => rw [q] at h1; exact h1.elim
  | some xs =>
    rw [q] at h1
    refine ⟨Nat.le_of_lt (gD (by rw [← rs.length, len]; exact hl)), fun p hp => ?_⟩
    exact k (.v (.list xs)) _ μ1 _ (e1.trans (iz hp)) (S1.new hp) (nD S1.mu (rs.data q) hp) h1
noncomputable def J6 (K : PySem.W.Frag) (t : TA) : TE := fun σ H Q => t σ H fun xs H1 => xs.length ≤ sizeLine ∧ ∀ p, H1 p = none → K.lookup p = none → Q (.ref p) (upd H1 p (.lst xs))
theorem Gw {t : TA} (h : PA X es t) : PE X (.List es pos) (J6 X.K t) := by
  intro pins s σ H Q I hq
  refine wpAny_List_spliced (thn (h pos pins s σ H _ I hq) fun us s1 ⟨xs, H1, I1, r, z, q⟩ => ⟨by rw [← r.length]; exact z, ?_⟩)
  have hf : H1 s1.heap.objs.size = none := I1.hok.fresh (Nat.le_refl _)
  have hk : X.K.lookup s1.heap.objs.size = none := by
    cases c : X.K.lookup s1.heap.objs.size with
    | none => rfl
    | some o => exact absurd (Heap.lt_size (I1.kIn _ _ c)) (Nat.lt_irrefl _)
  refine ⟨.ref s1.heap.objs.size, upd H1 s1.heap.objs.size (.lst xs), I1.laid (t' := s1.toks) (fun b u e => Heap.get?_push_of_some _ e) (Nat.le_refl _) ?_, rfl, q _ hf hk⟩
  exact ⟨z, us, 0, r, Heap.get?_push_size _ rfl⟩
theorem BP (h : DA X es t) (hl : es.length ≤ 1000 := by decide) : DE X (.List es pos) (Bi t) := by
  obtain ⟨t1, p1, l1⟩ := h
  refine ⟨_, Gw p1, fun σ H ρ μ Qd Q S h k => ?_⟩
  refine l1 σ H ρ μ _ _ S h fun ds us μ1 H1 e1 S1 rs len h1 => ?_
  cases q : cI ds with
  | none => rw [q] at h1; exact h1.elim
  | some xs =>
    rw [q] at h1
    refine ⟨Nat.le_of_lt (gD (by rw [← rs.length, len]; exact hl)), fun p hp hk => ?_⟩
    have ex := mG (o := .lst us) (ds := xs) S1.mu hp hk
    exact k (.m p) _ (aE μ1 p xs) _ (e1.trans ex) ⟨S1.mu.mut (rs.data q) hp hk, S1.rho.ext S1.mu ex⟩ ⟨rfl, xs, bC⟩ (h1 p (S1.mu.free hp))
end
section
variable {X : Cx} {pins : List (Addr × Obj)} {σ : St} {H : Hp} {s : Shared} {μ : Mu}
mutual
theorem iT (I : Inv X pins σ H s) : ∀ {d : PyData} {x : V} {u : Value}, Rp X.K μ H d x → RelV x u → ∃ as, Reads s.heap u d as
  | _, _, _, .none, r => by cases r; exact ⟨_, .none⟩
  | _, _, _, .bool b, r => by cases r; exact ⟨_, .bool b⟩
  | _, _, _, .int i, r => by obtain ⟨t, rfl⟩ := r; exact ⟨_, .int i t⟩
  | _, _, _, .str y, r => by obtain ⟨t, rfl⟩ := r; exact ⟨_, .str y t⟩
  | _, _, _, .list h _ q, r => by
    cases r
    obtain ⟨its, rv, ⟨o, n, ho, hc, _, hd⟩, _⟩ := I.list (SqL.of h)
    obtain ⟨as, ra⟩ := mj I q rv
    exact ⟨_, .list ho hc hd (by simpa using ra)⟩
  | _, _, _, .tuple h q, r => by
    cases r
    obtain ⟨its, rv, ⟨o, ho, hc, n, hd⟩, _⟩ := I.tuple h
    obtain ⟨as, ra⟩ := mj I q rv
    exact ⟨_, .tuple ho hc hd (by simpa using ra)⟩
theorem mj (I : Inv X pins σ H s) : ∀ {ds : List PyData} {xs : List V} {us : List Value}, RpL X.K μ H ds xs → Vals xs us → ∃ as, ReadsAll s.heap us ds as
  | _, _, _, .nil, .nil => ⟨_, .nil⟩
  | _, _, _, .cons h t, .cons r q => by
    obtain ⟨as, ra⟩ := iT I h r
    obtain ⟨bs, rb⟩ := mj I t q
    exact ⟨_, .cons ra rb⟩
end
end
section
variable {X : Cx}
noncomputable def Ji (K : PySem.W.Frag) (neg : Bool) : R2 := fun x y H Q => ∃ μ a b, Rp K μ H a x ∧ Rp K μ H b y ∧ SeqAt.shaped a = true ∧ SeqAt.shaped b = true ∧ Q (.bl (neg ^^ PyData.eqv a b)) H
theorem aZ (hu : X.A.units + 64 < cLine) : OpR X (compareOp .Eq) (Ji X.K false) := by
  intro pins s σ H x y v u Q I rx ry h
  obtain ⟨μ, a, b, ha, hb, sa, sb, q⟩ := h
  obtain ⟨as, ra⟩ := iT I ha rx
  obtain ⟨bs, rb⟩ := iT I hb ry
  exact eq_dataH ra rb sa sb hu ⟨.bl (PyData.eqv a b), H, I, rfl, by simpa using q⟩
theorem iS (hu : X.A.units + 64 < cLine) : OpR X (compareOp .NotEq) (Ji X.K true) := by
  intro pins s σ H x y v u Q I rx ry h
  obtain ⟨μ, a, b, ha, hb, sa, sb, q⟩ := h
  obtain ⟨as, ra⟩ := iT I ha rx
  obtain ⟨bs, rb⟩ := iT I hb ry
  exact ne_dataH ra rb sa sb hu ⟨.bl (!PyData.eqv a b), H, I, rfl, by simpa using q⟩
def bt (neg : Bool) : D → D → Mu → DK → Prop := fun x y μ Q => match x, y with
  | .v a, .v b => SeqAt.shaped a = true ∧ SeqAt.shaped b = true ∧ Q (.v (.bool (neg ^^ PyData.eqv a b))) μ
  | _, _ => False
theorem aM {K : PySem.W.Frag} {neg : Bool} : fT K (Ji K neg) (bt neg) := by
  intro x y ux uy H μ Qd Q ok rx ry h k
  unfold bt at h
  split at h
  · rename_i a b
    exact ⟨μ, a, b, rx, ry, h.1, h.2.1, k (.v _) _ μ H .refl ok (Rp.bool _) h.2.2⟩
  · exact h.elim
noncomputable def JQ (K : PySem.W.Frag) (neg : Bool) : R2 := fun x y H Q => ∃ μ a bs, Rp K μ H a x ∧ Rp K μ H (.list bs) y ∧ PyData.canLayAll0 bs = true ∧ a.canLay0 = true ∧ PyData.depth a ≤ 60 ∧ Q (.bl (neg ^^ bs.any fun b => PyData.eqv b a)) H
theorem xM (hu : X.A.units + 64 < cLine) : OpR X (compareOp .In) (JQ X.K false) := by
  intro pins s σ H x y v u Q I rx ry h
  obtain ⟨μ, a, b, ha, hb, sb, sa, dp, q⟩ := h
  obtain ⟨as, ra⟩ := iT I ha rx
  obtain ⟨bs, rb⟩ := iT I hb ry
  refine SeqAt.in_list_reads rb ra sb sa (by omega) ⟨.bl (b.any fun z => PyData.eqv z a), H, I, rfl, by simpa using q⟩
def zI (neg : Bool) : D → D → Mu → DK → Prop := fun x y μ Q => match x, y with
  | .v a, .v (.list bs) => PyData.canLayAll0 bs = true ∧ a.canLay0 = true ∧ PyData.depth a ≤ 60 ∧ Q (.v (.bool (neg ^^ bs.any fun b => PyData.eqv b a))) μ
  | _, _ => False
theorem vA {K : PySem.W.Frag} {neg : Bool} : fT K (JQ K neg) (zI neg) := by
  intro x y ux uy H μ Qd Q ok rx ry h k
  unfold zI at h
  split at h
  · rename_i a b
    exact ⟨μ, a, b, rx, ry, h.1, h.2.1, h.2.2.1, k (.v _) _ μ H .refl ok (Rp.bool _) h.2.2.2⟩
  · exact h.elim
end
open PySem PySem.Spec PyProof.Rows
section
variable {X : Cx} {a b e : Expr} {es : List Expr} {ta tb te : DTE} {t : DTA} {p pos : Pos}
def dh : D → D → Mu → DK → Prop := fun x y μ Q => match x, y with
  | .v (.list xs), .v (.int i) => (match atI xs i with | some d => Q (.v d) μ | none => False)
  | .v (.tuple xs), .v (.int i) => (match atI xs i with | some d => Q (.v d) μ | none => False)
  | .m l, .v (.int i) => (match μ l with
    | some xs => (match atI xs i with | some d => Q (.v d) μ | none => False)
    | none => False)
  | .s ns, .v (.int i) => (match atI ns i with | some d => Q (.v (.int d)) μ | none => False)
  | _, _ => False
theorem J2 {K : PySem.W.Frag} : fT K (rIx K) dh := by
  intro x y ux uy H μ Qd Q ok rx ry h k
  unfold dh at h
  split at h
  · rename_i xs i
    cases ry
    cases q : atI xs i with
    | none => rw [q] at h; exact h.elim
    | some d =>
      rw [q] at h
      cases rx with
      | list hs hn r =>
        obtain ⟨u, e1, e2⟩ := Ah r q
        exact .inl ⟨_, _, i, u, rfl, rfl, SqL.of hs, e1, k (.v d) u μ H .refl ok e2 h⟩
  · rename_i xs i
    cases ry
    cases q : atI xs i with
    | none => rw [q] at h; exact h.elim
    | some d =>
      rw [q] at h
      cases rx with
      | tuple hs r =>
        obtain ⟨u, e1, e2⟩ := Ah r q
        exact .inr (.inl ⟨_, _, i, u, rfl, rfl, hs, e1, k (.v d) u μ H .refl ok e2 h⟩)
  · rename_i l i
    cases ry
    obtain ⟨rfl, ds, hm⟩ := rx
    rw [hm] at h
    simp only at h
    cases q : atI ds i with
    | none => rw [q] at h; exact h.elim
    | some d =>
      rw [q] at h
      obtain ⟨us, hl, r⟩ := ok l ds hm
      obtain ⟨u, e1, e2⟩ := Ah r q
      exact .inl ⟨_, _, i, u, rfl, rfl, SqL.of hl, e1, k (.v d) u μ H .refl ok e2 h⟩
  · rename_i ns i
    cases ry
    obtain ⟨a, rfl, hs, hn⟩ := rx
    cases q : atI ns i with
    | none => rw [q] at h; exact h.elim
    | some d =>
      rw [q] at h
      have e1 : atI (ns.map V.int) i = some (.int d) := by
        unfold atI at q ⊢
        rw [List.length_map]
        cases z : ixN ns.length i with
        | none => rw [z] at q; cases q
        | some j =>
          rw [z] at q
          simp only [Option.bind_some, List.getElem?_map] at q ⊢
          rw [q] <;> rfl
      exact .inl ⟨_, _, i, _, rfl, rfl, hs, e1, k (.v (.int d)) _ μ H .refl ok (Rp.int d) h⟩
  · exact h.elim
theorem eO (ha : DE X a ta) (hb : DE X b tb) (hs : vJ b := by exact fun _ _ => rfl) : DE X (.Subscript a b pos) (dOp dh ta tb) := by
  obtain ⟨t1, p1, l1⟩ := ha
  obtain ⟨t2, p2, l2⟩ := hb
  exact ⟨_, G4 Ht p1 p2 hs, nW J2 l1 l2⟩
def mU (μ : Mu) : D → Option (List PyData)
  | .v (.list xs) => some xs
  | .m l => μ l
  | _ => none
theorem xU {K : PySem.W.Frag} {μ : Mu} {H : Hp} {x : D} {u : V} {xs : List PyData} (ok : bK K μ H) (r : RpD K μ H x u) (h : mU μ x = some xs) : ∃ a us, u = .ref a ∧ H a = some (.lst us) ∧ RpL K μ H xs us := by
  cases x with
  | v d =>
    cases d <;> simp only [mU] at h <;> try cases h
    cases r with
    | list hs _ q => exact ⟨_, _, rfl, hs, q⟩
  | m l =>
    obtain ⟨rfl, ds, hm⟩ := r
    obtain ⟨us, hl, q⟩ := ok l xs h
    exact ⟨l, us, rfl, hl, q⟩
  | s ns => cases h
  | o a => cases h
  | q P => cases h
def o3 : D → D → Mu → DK → Prop := fun x y μ Q => match mU μ x, mU μ y with
  | some xs, some ys => xs.length + ys.length ≤ 1000 ∧ Q (.v (.list (xs ++ ys))) μ
  | _, _ => False
theorem G2 {n : Nat} (h : n ≤ 1000) : n ≤ sizeLine := Nat.le_of_lt (gD h)
theorem Jm {K : PySem.W.Frag} : fT K J7 o3 := by
  intro x y ux uy H μ Qd Q ok rx ry h k
  unfold o3 at h
  split at h
  · rename_i xs ys hx hy
    obtain ⟨a, us, rfl, ha, ra⟩ := xU ok rx hx
    obtain ⟨b, ws, rfl, hb, rb⟩ := xU ok ry hy
    refine ⟨a, b, us, ws, rfl, rfl, ha, hb, G2 (by rw [← ra.length, ← rb.length]; exact h.1), fun p hp => ?_⟩
    exact k (.v _) _ μ _ (iz hp) (ok.new hp) (nD ok (ra.append rb) hp) h.2
  · exact h.elim
theorem vQ (ha : DE X a ta) (hb : DE X b tb) : DE X (.BinOp a .Add b pos) (dOp o3 ta tb) := oM IW Jm ha hb
end
end L2.DL
set_option Elab.async false
set_option linter.all false
set_option maxRecDepth 100000
set_option maxHeartbeats 4000000
namespace HT
open PySem PyProof.Rows
section
variable {prog : Program} {w : World} {A : Around} {E : Value → Shared → Prop} {s : Shared}
end
end HT
namespace L2.DL
open PySem PySem.Spec PyProof.Rows
section
variable {X : Cx} {a b e : Expr} {lo hi : Option Expr} {ta tb te : DTE} {pos p2 : Pos}
abbrev DTO := Rho → Mu → (Option Int → Mu → Prop) → Prop
noncomputable def Ki (K : PySem.W.Frag) (t : TO) (td : DTO) : Prop := ∀ (σ : St) (H : Hp) (ρ : Rho) (μ : Mu) (Qd : Option Int → Mu → Prop) (Q : Option Int → Hp → Prop), St0 K H ρ μ σ → td ρ μ Qd →
  (∀ o μ' H', Ext K μ H μ' H' → St0 K H' ρ μ' σ → Qd o μ' → Q o H') → t σ H Q
noncomputable def DO (X : Cx) (e : Option Expr) (td : DTO) : Prop := ∃ t, PO X e t ∧ Ki X.K t td
noncomputable def bE : DTO := fun _ μ Q => Q none μ
noncomputable def bB (t : DTE) : DTO := fun ρ μ Q => t ρ μ fun x μ1 => match x with
  | .v (.int i) => Q (some i) μ1
  | _ => False
theorem bI : DO X none bE := ⟨_, FA, fun σ H ρ μ Qd Q S h k => k none μ H .refl S h⟩
theorem aT (h : DE X e te) : DO X (some e) (bB te) := by
  obtain ⟨t1, p1, l1⟩ := h
  refine ⟨_, GG p1, fun σ H ρ μ Qd Q S h k => ?_⟩
  refine l1 σ H ρ μ _ _ S h fun x ux μ1 H1 e1 S1 rx h1 => ?_
  split at h1
  · cases rx
    exact ⟨_, rfl, k _ μ1 H1 e1 S1 h1⟩
  · exact h1.elim
end
open PySem PySem.Spec PyProof.Rows
section
variable {X : Cx} {a b e : Expr} {es : List Expr} {ta tb te : DTE} {t : DTA} {p pos : Pos} {x : Str} {bid T : String}
noncomputable def lh (K : PySem.W.Frag) (r : List V → Hp → VK → Prop) (rd : List D → Mu → DK → Prop) : Prop := ∀ (xs : List D) (us : List V) (H : Hp) (μ : Mu) (Qd : DK) (Q : VK), bK K μ H → jo K μ H xs us → rd xs μ Qd →
  (∀ d u μ' H', Ext K μ H μ' H' → bK K μ' H' → RpD K μ' H' d u → Qd d μ' → Q u H') → r us H Q
noncomputable def dCB (rd : List D → Mu → DK → Prop) (t : DTA) : DTE := fun ρ μ Q => t ρ μ fun ds μ1 => rd ds μ1 Q
theorem Bc {K : PySem.W.Frag} {n : Nat} {r : List V → Hp → VK → Prop} {rd : List D → Mu → DK → Prop} {t1 : TA} (lc : lh K r rd) (l1 : G5 K n t1 t) : nI K (tCB r t1) (dCB rd t) := by
  intro σ H ρ μ Qd Q S h k
  refine l1 σ H ρ μ _ _ S h fun xs us μ1 H1 e1 S1 rs len h1 => ?_
  exact lc xs us H1 μ1 _ _ S1.mu rs h1 fun d u μ' H' e2 ok r q => k d u μ' H' (e1.trans e2) ⟨ok, S1.rho.ext S1.mu e2⟩ r q
theorem kn {r : List V → Hp → VK → Prop} {rd : List D → Mu → DK → Prop} (hc : ip X (.builtin bid) r) (lc : lh X.K r rd) (hg : Gl X x) (hm : X.mg x = none) (hv : bootBuiltins x = some (.builtin bid)) (ha : DA X (e :: es) t) (hn : x ≠ "__name__" := by decide) (hdb : (x == ("__debug__" : Str)) = false := by decide)
    (he : starEach (e :: es) X.env = (false, eval e X.env) :: starEach es X.env := by rfl) (hpl : (backTo pos (starEach es X.env)).any (·.1) = false := by rfl) : DE X (.Call (.Name x p) (e :: es) [] pos) (dCB rd t) := by
  obtain ⟨t1, p1, l1⟩ := ha
  exact ⟨_, n8 hc hg hm hv p1 hn hdb he hpl, Bc lc l1⟩
theorem mJ {r : List V → Hp → VK → Prop} {rd : List D → Mu → DK → Prop} (hc : ip X (.type T) r) (lc : lh X.K r rd) (hg : Gl X x) (hm : X.mg x = none) (hv : bootBuiltins x = some (.type T)) (ha : DA X (e :: es) t) (hn : x ≠ "__name__" := by decide) (hdb : (x == ("__debug__" : Str)) = false := by decide)
    (he : starEach (e :: es) X.env = (false, eval e X.env) :: starEach es X.env := by rfl) (hpl : (backTo pos (starEach es X.env)).any (·.1) = false := by rfl) : DE X (.Call (.Name x p) (e :: es) [] pos) (dCB rd t) := by
  obtain ⟨t1, p1, l1⟩ := ha
  exact ⟨_, B6 hc hg hm hv p1 hn hdb he hpl, Bc lc l1⟩
def ng : List D → Mu → DK → Prop := fun xs μ Q => match xs with
  | [.v (.list ys)] => Q (.v (.int (ys.length : Nat))) μ
  | [.v (.tuple ys)] => Q (.v (.int (ys.length : Nat))) μ
  | [.m l] => (match μ l with | some ys => Q (.v (.int (ys.length : Nat))) μ | none => False)
  | [.s ns] => Q (.v (.int (ns.length : Nat))) μ
  | _ => False
theorem JN {K : PySem.W.Frag} : lh K (fun xs H Q => ∃ p ys, xs = [.ref p] ∧ (SqL K H p ys ∨ SqT K H p ys) ∧ Q (.int ys.length) H) ng := by
  intro xs us H μ Qd Q ok rs h k
  unfold ng at h
  split at h
  · cases rs with
    | cons r1 r2 =>
      cases r2
      cases r1 with
      | list hs hn r => exact ⟨_, _, rfl, .inl (SqL.of hs), k (.v _) _ μ H .refl ok (by rw [← r.length]; exact Rp.int _) h⟩
  · cases rs with
    | cons r1 r2 =>
      cases r2
      cases r1 with
      | tuple hs r => exact ⟨_, _, rfl, .inr hs, k (.v _) _ μ H .refl ok (by rw [← r.length]; exact Rp.int _) h⟩
  · cases rs with
    | cons r1 r2 =>
      cases r2
      obtain ⟨rfl, ds, hm⟩ := r1
      rw [hm] at h
      obtain ⟨us, hl, r⟩ := ok _ ds hm
      exact ⟨_, _, rfl, .inl (SqL.of hl), k (.v _) _ μ H .refl ok (by rw [← r.length]; exact Rp.int _) h⟩
  · cases rs with
    | cons r1 r2 =>
      cases r2
      obtain ⟨a, rfl, hs, hn⟩ := r1
      exact ⟨_, _, rfl, .inl hs, k (.v _) _ μ H .refl ok (by rw [List.length_map]; exact Rp.int _) h⟩
  · exact h.elim
theorem vF (hg : Gl X "len") (hm : X.mg "len" = none) (ha : DA X (e :: es) t)
    (he : starEach (e :: es) X.env = (false, eval e X.env) :: starEach es X.env := by rfl) (hpl : (backTo pos (starEach es X.env)).any (·.1) = false := by rfl) : DE X (.Call (.Name "len" p) (e :: es) [] pos) (dCB ng t) :=
  kn wy JN hg hm PySem.boot_len ha (by decide) (by decide) he hpl
def mP : List D → Mu → DK → Prop := fun xs μ Q => match xs with
  | [.v (.int i)] => Q (.v (.int (i.natAbs : Nat))) μ
  | _ => False
theorem Hv {K : PySem.W.Frag} : lh K (fun xs H Q => ∃ i, xs = [.int i] ∧ Q (.int (if i < 0 then -i else i)) H) mP := by
  intro xs us H μ Qd Q ok rs h k
  unfold mP at h
  split at h
  · rename_i i
    cases rs with
    | cons r1 r2 =>
      cases r2
      cases r1
      refine ⟨i, rfl, k (.v (.int (i.natAbs : Nat))) _ μ H .refl ok ?_ h⟩
      have : (if i < 0 then -i else i) = ((i.natAbs : Nat) : Int) := by split <;> omega
      rw [this]
      exact Rp.int _
  · exact h.elim
theorem p7 (hg : Gl X "abs") (hm : X.mg "abs" = none) (ha : DA X (e :: es) t)
    (he : starEach (e :: es) X.env = (false, eval e X.env) :: starEach es X.env := by rfl) (hpl : (backTo pos (starEach es X.env)).any (·.1) = false := by rfl) : DE X (.Call (.Name "abs" p) (e :: es) [] pos) (dCB mP t) :=
  kn Dz Hv hg hm PyProof.Rows.Boot.«abs» ha (by decide) (by decide) he hpl
def xD (g : Int → Int → Int) : List D → Mu → DK → Prop := fun xs μ Q => match xs with
  | [.v (.int i), .v (.int j)] => Q (.v (.int (g i j))) μ
  | _ => False
theorem G9 {K : PySem.W.Frag} {g g' : Int → Int → Int} (hg : ∀ i j, g i j = g' i j) : lh K (fun xs H Q => ∃ i j, xs = [.int i, .int j] ∧ Q (.int (g i j)) H) (xD g') := by
  intro xs us H μ Qd Q ok rs h k
  unfold xD at h
  split at h
  · rename_i i j
    cases rs with
    | cons r1 r2 =>
      cases r2 with
      | cons r2 r3 =>
        cases r3
        cases r1
        cases r2
        exact ⟨i, j, rfl, k (.v _) _ μ H .refl ok (by rw [hg]; exact Rp.int _) h⟩
  · exact h.elim
theorem C9 (hc : X.calm = true) (hg : Gl X "max") (hm : X.mg "max" = none) (ha : DA X (e :: es) t)
    (he : starEach (e :: es) X.env = (false, eval e X.env) :: starEach es X.env := by rfl) (hpl : (backTo pos (starEach es X.env)).any (·.1) = false := by rfl) : DE X (.Call (.Name "max" p) (e :: es) [] pos) (dCB (xD max) t) :=
  kn (CK hc) (G9 (fun i j => by show (if j > i then j else i) = max i j; simp only [Int.max_def]; split <;> split <;> omega)) hg hm PyProof.Rows.Boot.«max» ha (by decide) (by decide) he hpl
theorem DP (hc : X.calm = true) (hg : Gl X "min") (hm : X.mg "min" = none) (ha : DA X (e :: es) t)
    (he : starEach (e :: es) X.env = (false, eval e X.env) :: starEach es X.env := by rfl) (hpl : (backTo pos (starEach es X.env)).any (·.1) = false := by rfl) : DE X (.Call (.Name "min" p) (e :: es) [] pos) (dCB (xD min) t) :=
  kn (Ca hc) (G9 (fun i j => by show (if j < i then j else i) = min i j; simp only [Int.min_def]; split <;> split <;> omega)) hg hm PyProof.Rows.Boot.«min» ha (by decide) (by decide) he hpl
def uZ : List D → Mu → DK → Prop := fun xs μ Q => match xs with
  | [.v (.int i)] => Q (.v (.int i)) μ
  | [.v (.bool k)] => Q (.v (.int (if k then 1 else 0))) μ
  | _ => False
theorem Jt {K : PySem.W.Frag} : lh K (fun xs H Q => (∃ i, xs = [.int i] ∧ Q (.int i) H) ∨ ∃ k, xs = [.bl k] ∧ Q (.int (if k then 1 else 0)) H) uZ := by
  intro xs us H μ Qd Q ok rs h k
  unfold uZ at h
  split at h
  · rename_i i
    cases rs with
    | cons r1 r2 => cases r2; cases r1; exact .inl ⟨i, rfl, k (.v _) _ μ H .refl ok (Rp.int _) h⟩
  · rename_i b
    cases rs with
    | cons r1 r2 => cases r2; cases r1; exact .inr ⟨b, rfl, k (.v _) _ μ H .refl ok (Rp.int _) h⟩
  · exact h.elim
theorem yY (hg : Gl X "int") (hm : X.mg "int" = none) (ha : DA X (e :: es) t)
    (he : starEach (e :: es) X.env = (false, eval e X.env) :: starEach es X.env := by rfl) (hpl : (backTo pos (starEach es X.env)).any (·.1) = false := by rfl) : DE X (.Call (.Name "int" p) (e :: es) [] pos) (dCB uZ t) :=
  mJ Cf Jt hg hm PyProof.Rows.Boot.«int» ha (by decide) (by decide) he hpl
theorem xV : ∀ {bs : List Bool} {us : List Value}, Vals (bs.map V.bl) us → us = bs.map Value.bool
  | [], _, .nil => rfl
  | b :: r, _, .cons h t => by cases h; rw [xV t]; rfl
theorem Cq (hc : X.calm = true) : ip X (.builtin "all") (fun xs H Q => ∃ (p : Addr) (bs : List Bool), xs = [.ref p] ∧ H p = some (.lst (bs.map V.bl)) ∧ Q (.bl (bs.all id)) H) := by
  intro pins s σ H xs us Q I r h
  obtain ⟨l, bs, rfl, hl, q⟩ := h
  obtain ⟨u, rfl, rx⟩ := vals1 r
  cases rx
  obtain ⟨its, rv, pl, _⟩ := I.list (SqL.of hl)
  have eb := xV rv
  subst eb
  have hL := pl.isList
  have hlt := pl.lt
  refine call_all_walk (wpAny_pyIter_list hL ?_)
  refine ⟨s.heap.objs.size, [s.heap.objs.size, l], [s.heap.objs.size], (bs.map Value.bool).toArray.size, _, _, fun i => (bs[i]?).getD true, rfl, Walks.list (A := X.A.in1) (by exact I.ok.hd hc) _ l (Nat.ne_of_lt hlt) (bs.map Value.bool).toArray,
    ⟨⟨_, Heap.get?_push_size _ rfl, rfl, rfl⟩, hL.push _⟩, fun i v s' Q' E' hP hQ => ?_, fun h' tk hk => ?_⟩
  · have hP' : (bs.map Value.bool)[i]? = some v := by simpa using hP
    rw [List.getElem?_map] at hP'
    cases z : bs[i]? with
    | none => rw [z] at hP'; cases hP'
    | some b =>
      rw [z] at hP'
      cases hP'
      simp only [z, Option.getD_some] at hQ
      exact wpAny_truthy_bool hQ
  · have e : ((List.range (bs.map Value.bool).toArray.size).all fun i => (bs[i]?).getD true) = bs.all id := by
      rw [List.size_toArray, List.length_map]; exact PyProof.Rows.LSm.range_all bs
    rw [e]
    exact ⟨.bl (bs.all id), H, I.kept (PyProof.Rows.LSm.kept_iter hk), rfl, q⟩
def cM : List PyData → Option (List Bool)
  | [] => some []
  | .bool b :: r => (cM r).map (b :: ·)
  | _ :: _ => none
theorem sO {K : PySem.W.Frag} {μ : Mu} {H : Hp} : ∀ {xs : List PyData} {us : List V} {bs : List Bool}, RpL K μ H xs us → cM xs = some bs → us = bs.map V.bl
  | _, _, _, .nil, e => by cases e; rfl
  | .bool b :: r, _, bs, .cons h t, e => by
    simp only [cM] at e
    cases q : cM r with
    | none => rw [q] at e; cases e
    | some cs => rw [q] at e; cases e; cases h; rw [sO t q]; rfl
  | .none :: r, _, bs, .cons h t, e => by simp [cM] at e
  | .int _ :: r, _, bs, .cons h t, e => by simp [cM] at e
  | .str _ :: r, _, bs, .cons h t, e => by simp [cM] at e
  | .list _ :: r, _, bs, .cons h t, e => by simp [cM] at e
  | .tuple _ :: r, _, bs, .cons h t, e => by simp [cM] at e
  | .dict _ :: r, _, bs, .cons h t, e => by simp [cM] at e
def mY : List D → Mu → DK → Prop := fun xs μ Q => match xs with
  | [.v (.list ys)] => (match cM ys with | some bs => Q (.v (.bool (bs.all id))) μ | none => False)
  | _ => False
theorem Jr {K : PySem.W.Frag} : lh K (fun xs H Q => ∃ (p : Addr) (bs : List Bool), xs = [.ref p] ∧ H p = some (.lst (bs.map V.bl)) ∧ Q (.bl (bs.all id)) H) mY := by
  intro xs us H μ Qd Q ok rs h k
  unfold mY at h
  split at h
  · rename_i ys
    cases q : cM ys with
    | none => rw [q] at h; exact h.elim
    | some bs =>
      rw [q] at h
      cases rs with
      | cons r1 r2 =>
        cases r2
        cases r1 with
        | list hs hn r => exact ⟨_, bs, rfl, by rw [hs, sO r q], k (.v _) _ μ H .refl ok (Rp.bool _) h⟩
  · exact h.elim
theorem rC (hc : X.calm = true) (hg : Gl X "all") (hm : X.mg "all" = none) (ha : DA X (e :: es) t)
    (he : starEach (e :: es) X.env = (false, eval e X.env) :: starEach es X.env := by rfl) (hpl : (backTo pos (starEach es X.env)).any (·.1) = false := by rfl) : DE X (.Call (.Name "all" p) (e :: es) [] pos) (dCB mY t) :=
  kn (Cq hc) Jr hg hm PyProof.Rows.Boot.«all» ha (by decide) (by decide) he hpl
def tyD : PyData → String
  | .none => "NoneType"
  | .bool _ => "bool"
  | .int _ => "int"
  | .str _ => "str"
  | .list _ => "list"
  | .tuple _ => "tuple"
  | .dict _ => "dict"
def isT (T : String) (d : PyData) : Bool := tyD d == T || (T == "int" && tyD d == "bool")
theorem Ck {pins : List (Addr × Obj)} {σ : St} {H : Hp} {s : Shared} {μ : Mu} {d : PyData} {u : V} {v : Value} {k : Bool} {A : Around} {E : Value → Shared → Prop} {Q : Value → Shared → Prop} (I : Inv X pins σ H s) (r : Rp X.K μ H d u) (rx : RelV u v)
    (ek : PySem.W.kitOne X.K (.type (tyD d)) (.type T) = some k) (h : ∀ tk, Q (.bool k) { s with toks := tk }) : wpAny (model X.prog X.w) A (call (.builtin "isinstance") [v, .type T]) Q E s := by
  cases r with
  | none => cases rx; exact PySem.W.kia_one PySem.W.kitx_none I.kIn True.intro ek (fun z => nomatch z) h
  | bool b => cases rx; exact PySem.W.kia_one PySem.W.kitx_bool I.kIn True.intro ek (fun z => nomatch z) h
  | int i => obtain ⟨t, rfl⟩ := rx; exact PySem.W.kia_one PySem.W.kitx_int I.kIn True.intro ek (fun z => nomatch z) h
  | str y => obtain ⟨t, rfl⟩ := rx; exact PySem.W.kia_one PySem.W.kitx_str I.kIn True.intro ek (fun z => nomatch z) h
  | list hs hn q =>
    cases rx
    obtain ⟨its, rv, ⟨o, n, h1, h2, _⟩, _⟩ := I.list (SqL.of hs)
    exact PySem.W.kia_one PySem.W.kitx_list I.kIn ⟨o, h1, h2⟩ ek (fun z => nomatch z) h
  | tuple hs q =>
    cases rx
    obtain ⟨its, rv, ⟨o, h1, h2, _⟩, _⟩ := I.tuple hs
    exact PySem.W.kia_one PySem.W.kitx_tuple I.kIn ⟨o, h1, h2⟩ ek (fun z => nomatch z) h
theorem GB (K : PySem.W.Frag) (d : PyData) : PySem.W.kitOne K (.type (tyD d)) (.type "int") = some (isT "int" d) := by cases d <;> rfl
theorem E1 (K : PySem.W.Frag) (d : PyData) : PySem.W.kitOne K (.type (tyD d)) (.type "bool") = some (isT "bool" d) := by cases d <;> rfl
theorem kit_tuple (K : PySem.W.Frag) (d : PyData) : PySem.W.kitOne K (.type (tyD d)) (.type "tuple") = some (isT "tuple" d) := by cases d <;> rfl
theorem my (K : PySem.W.Frag) (d : PyData) : PySem.W.kitOne K (.type (tyD d)) (.type "str") = some (isT "str" d) := by cases d <;> rfl
theorem yd (kt : ∀ d, PySem.W.kitOne X.K (.type (tyD d)) (.type T) = some (isT T d)) : ip X (.builtin "isinstance") (fun xs H Q => ∃ μ d u, xs = [u, .ty T] ∧ Rp X.K μ H d u ∧ Q (.bl (isT T d)) H) := by
  intro pins s σ H xs us Q I r h
  obtain ⟨μ, d, u, rfl, rd, q⟩ := h
  obtain ⟨v, w', rfl, r1, r2⟩ := vals2 r
  cases r2
  exact Ck I rd r1 (kt d) fun tk => ⟨.bl (isT T d), H, I.tok _, rfl, q⟩
noncomputable def qH (T : String) (te : DTE) : DTE := fun ρ μ Q => te ρ μ fun x μ1 => match x with
  | .v d => Q (.v (.bool (isT T d))) μ1
  | _ => False
theorem kO {y : Str} {py : Pos} (kt : ∀ d, PySem.W.kitOne X.K (.type (tyD d)) (.type T) = some (isT T d)) (hg : Gl X "isinstance") (hm : X.mg "isinstance" = none) (hgy : Gl X y) (hmy : X.mg y = none) (hvy : bootBuiltins y = some (.type T)) (ha : DE X e te)
    (hny : y ≠ "__name__" := by decide) (hdy : (y == ("__debug__" : Str)) = false := by decide)
    (he : starEach [e, .Name y py] X.env = (false, eval e X.env) :: starEach [.Name y py] X.env := by rfl) (he2 : starEach [.Name y py] X.env = [(false, eval (.Name y py) X.env)] := by rfl) (hpl : (backTo pos (starEach [.Name y py] X.env)).any (·.1) = false := by rfl) : DE X (.Call (.Name "isinstance" p) [e, .Name y py] [] pos) (qH T te) := by
  obtain ⟨t1, p1, l1⟩ := ha
  refine ⟨_, n8 (yd kt) hg hm PyProof.Rows.Boot.«isinstance» (cY p1 (cY (Bz (v := .ty T) hgy hmy hvy rfl hny hdy) jP he2) he) (by decide) (by decide) he hpl, fun σ H ρ μ Qd Q S h k => ?_⟩
  refine l1 σ H ρ μ _ _ S h fun x ux μ1 H1 e1 S1 rx h1 => ?_
  split at h1
  · exact ⟨μ1, _, ux, rfl, rx, k (.v _) _ μ1 H1 e1 S1 (Rp.bool _) h1⟩
  · exact h1.elim
end
open PySem PySem.Spec PyProof.Rows
section
variable {X : Cx} {a b e : Expr} {es : List Expr} {ta tb te : DTE} {t : DTA} {p pos : Pos} {st : Stmt} {rest sts : List Stmt} {td ud : DTS} {tc : DTT}
noncomputable def aY : DTS := fun Dd ρ μ => Dd.nx ρ μ
noncomputable def aG (t u : DTS) : DTS := fun Dd ρ μ => t { Dd with nx := u Dd } ρ μ
noncomputable def bJ (te : DTE) : DTS := fun Dd ρ μ => te ρ μ Dd.rt
noncomputable def A6 (te : DTE) : DTS := fun Dd ρ μ => te ρ μ fun _ μ1 => Dd.nx ρ μ1
noncomputable def bH (c : DTT) (t u : DTS) : DTS := fun Dd ρ μ => c ρ μ fun b μ1 => if b = true then t Dd ρ μ1 else u Dd ρ μ1
theorem aH : DSs X [] aY := ⟨_, G1, fun σ H ρ μ Dd De S h k1 k2 k3 k4 => k1 σ ρ μ H .refl S h⟩
theorem aq (h : DS X st td) : DSs X [st] td := let ⟨t, p, l⟩ := h; ⟨t, FV p, l⟩
theorem lift_seq {K : PySem.W.Frag} {t u : TS} (l1 : vn K t td) (l2 : vn K u ud) : vn K (Kj t u) (aG td ud) := by
  intro σ H ρ μ Dd De S h k1 k2 k3 k4
  refine l1 σ H ρ μ _ _ S h (fun σ' ρ' μ' H' e' S' h' => ?_) k2 k3 k4
  exact l2 σ' H' ρ' μ' Dd De S' h' (fun a b c d e2 => k1 a b c d (e'.trans e2)) (fun a b c d e2 => k2 a b c d (e'.trans e2)) (fun a b c d e2 => k3 a b c d (e'.trans e2)) (fun a b c d e2 => k4 a b c d (e'.trans e2))
theorem ai (h1 : DS X st td) (h2 : DSs X rest ud) : DSs X (st :: rest) (aG td ud) := by
  obtain ⟨t1, p1, l1⟩ := h1
  obtain ⟨t2, p2, l2⟩ := h2
  exact ⟨_, rL p1 p2, lift_seq l1 l2⟩
theorem aN (he : DE X e te) : DS X (.Return (some e) pos) (bJ te) := by
  obtain ⟨t1, p1, l1⟩ := he
  exact ⟨_, Dv p1, fun σ H ρ μ Dd De S h k1 k2 k3 k4 => l1 σ H ρ μ _ _ S h fun d u μ' H' e' S' r q => k2 d u μ' H' e' S'.mu r q⟩
theorem Br (he : DE X e te) (hs : swapsWith e none pos.line X.env = pure false := by rfl) : DS X (.Expr e pos) (A6 te) := by
  obtain ⟨t1, p1, l1⟩ := he
  exact ⟨_, Fl p1 hs, fun σ H ρ μ Dd De S h k1 k2 k3 k4 => l1 σ H ρ μ _ _ S h fun d u μ' H' e' S' r q => k1 σ ρ μ' H' e' S' q⟩
theorem bp {c : Expr} {x y : List Stmt} (hc : DT X c tc) (ha : DSs X x td) (hb : DSs X y ud) : DS X (.If c x y pos) (bH tc td ud) := by
  obtain ⟨t0, p0, l0⟩ := hc
  obtain ⟨t1, p1, l1⟩ := ha
  obtain ⟨t2, p2, l2⟩ := hb
  refine ⟨_, G7 p0 p1 p2, fun σ H ρ μ Dd De S h k1 k2 k3 k4 => ?_⟩
  refine l0 σ H ρ μ _ _ S h fun c μ1 H1 e1 S1 h1 => ?_
  cases c with
  | true => exact rN (l1 σ H1 ρ μ1 Dd De S1 (by simpa using h1) (fun a b c d e2 => k1 a b c d (e1.trans e2)) (fun a b c d e2 => k2 a b c d (e1.trans e2)) (fun a b c d e2 => k3 a b c d (e1.trans e2)) (fun a b c d e2 => k4 a b c d (e1.trans e2)))
  | false => exact rX (l2 σ H1 ρ μ1 Dd De S1 (by simpa using h1) (fun a b c d e2 => k1 a b c d (e1.trans e2)) (fun a b c d e2 => k2 a b c d (e1.trans e2)) (fun a b c d e2 => k3 a b c d (e1.trans e2)) (fun a b c d e2 => k4 a b c d (e1.trans e2)))
abbrev DTG := D → Rho → Mu → (Rho → Mu → Prop) → Prop
abbrev rH := List PyData → Rho → Mu → (Rho → Mu → Prop) → Prop
noncomputable def EO (K : PySem.W.Frag) (g : TG) (gd : DTG) : Prop := ∀ (σ : St) (H : Hp) (ρ : Rho) (μ : Mu) (d : D) (u : V) (Qd : Rho → Mu → Prop) (Q : St → Hp → Prop), St0 K H ρ μ σ → RpD K μ H d u → gd d ρ μ Qd →
  (∀ σ' ρ' μ' H', Ext K μ H μ' H' → St0 K H' ρ' μ' σ' → Qd ρ' μ' → Q σ' H') → g u σ H Q
noncomputable def Iu (K : PySem.W.Frag) (g : TGs) (gd : rH) : Prop := ∀ (σ : St) (H : Hp) (ρ : Rho) (μ : Mu) (ds : List PyData) (us : List V) (Qd : Rho → Mu → Prop) (Q : St → Hp → Prop), St0 K H ρ μ σ → RpL K μ H ds us → gd ds ρ μ Qd →
  (∀ σ' ρ' μ' H', Ext K μ H μ' H' → St0 K H' ρ' μ' σ' → Qd ρ' μ' → Q σ' H') → g us σ H Q
noncomputable def DG (X : Cx) (tg : Expr) (gd : DTG) : Prop := ∃ g, PG X tg g ∧ EO X.K g gd
noncomputable def DGs (X : Cx) (tg : List Expr) (gd : rH) : Prop := ∃ g, PGs X tg g ∧ Iu X.K g gd
theorem iq.set {K : PySem.W.Frag} {μ : Mu} {H : Hp} {ρ : Rho} {σ : St} {i : Nat} {d : D} {u : V} (r : iq K μ H ρ σ) (h : RpD K μ H d u) : iq K μ H (ρ.set i (some d)) (σ.set i (some u)) := by
  refine ⟨by rw [List.length_set, List.length_set]; exact r.1, fun j d' e => ?_⟩
  by_cases hj : i = j
  · subst hj
    have hl : i < ρ.length := by
      have := (List.getElem?_eq_some_iff.mp e).1
      rw [List.length_set] at this
      exact this
    rw [List.getElem?_set_self hl] at e
    cases e
    exact ⟨u, List.getElem?_set_self (by rw [← r.1]; exact hl), h⟩
  · rw [List.getElem?_set_ne hj] at e
    obtain ⟨w, e1, e2⟩ := r.2 j d' e
    exact ⟨w, by rw [List.getElem?_set_ne hj]; exact e1, e2⟩
noncomputable def aj (i : Nat) : DTG := fun d ρ μ Q => Q (ρ.set i (some d)) μ
theorem tE {K : PySem.W.Frag} {i : Nat} : EO K (DF i) (aj i) := fun σ H ρ μ d u Qd Q S r h k => k _ _ μ H .refl ⟨S.mu, S.rho.set r⟩ h
theorem aF {i : Nat} {x : Str} (hN : X.N.Nodup) (hi : X.N[i]? = some x) (hx : Loc X.env.scope x) (hf : X.fn x = true ∨ X.env.scope.names.lookup x = some .local := by first | exact .inl rfl | exact .inr rfl | assumption) : DG X (.Name x pos) (aj i) := ⟨_, Gu hN hi hx hf, tE⟩
def fP : rH := fun ds ρ μ Q => match ds with
  | [] => Q ρ μ
  | _ => False
def aU (g : DTG) (gs : rH) : rH := fun ds ρ μ Q => match ds with
  | d :: r => g (.v d) ρ μ fun ρ1 μ1 => gs r ρ1 μ1 Q
  | _ => False
theorem dX : DGs X [] fP := ⟨_, GA, fun σ H ρ μ ds us Qd Q S r h k => by
  cases r with
  | nil => exact ⟨rfl, k σ ρ μ H .refl S h⟩
  | cons _ _ => exact h.elim⟩
theorem aL {g : DTG} {gs : rH} (h1 : DG X e g) (h2 : DGs X es gs) (hs : (assignEach (e :: es) X.env).map (·.2) = assign e X.env :: (assignEach es X.env).map (·.2) := by rfl) : DGs X (e :: es) (aU g gs) := by
  obtain ⟨t1, p1, l1⟩ := h1
  obtain ⟨t2, p2, l2⟩ := h2
  refine ⟨_, Eu p1 p2 hs, fun σ H ρ μ ds us Qd Q S r h k => ?_⟩
  cases r with
  | nil => exact h.elim
  | @cons d u ds us r1 r2 =>
    refine ⟨u, us, rfl, l1 σ H ρ μ (.v d) u _ _ S r1 h fun σ' ρ' μ' H' e1 S' h1 => ?_⟩
    exact l2 σ' H' ρ' μ' ds us _ _ S' (r2.ext S.mu e1) h1 fun a b c d e2 => k a b c d (e1.trans e2)
noncomputable def eR (n : Nat) (gs : rH) : DTG := fun d ρ μ Q => match d with
  | .v (.tuple xs) => xs.length = n ∧ gs xs ρ μ Q
  | _ => False
theorem gG {k n : Nat} {gs : rH} (hc : X.calm = X.calm) (h : DGs X es gs)
    (hn : (assignEach es X.env).length = n := by rfl) (hst : (assignEach es X.env).findIdx? (·.1) = none := by rfl) : DG X (.Tuple es k pos) (eR n gs) := by
  obtain ⟨t1, p1, l1⟩ := h
  refine ⟨_, Ia hc p1 hn hst, fun σ H ρ μ d u Qd Q S r h k => ?_⟩
  unfold eR at h
  split at h
  · cases r with
    | @tuple a us _ ha ra => exact ⟨a, us, rfl, ha, by rw [← ra.length]; exact h.1, l1 σ H ρ μ _ us _ _ S ra h.2 k⟩
  · exact h.elim
noncomputable def AV (to ti : DTE) : DTG := fun d ρ μ Q => to ρ μ fun o μ1 => ti ρ μ1 fun i μ2 => match o, i, d with
  | .m l, .v (.int k), .v x => (match μ2 l with
    | some xs => (match ixN xs.length k with
      | some j => Q ρ (aE μ2 l (xs.set j x))
      | none => False)
    | none => False)
  | _, _, _ => False
theorem Ff {o i : Expr} {to ti : DTE} (ho : DE X o to) (hi : DE X i ti)
    (ha : ∀ v, assign (.Subscript o i pos) X.env v = (do
      let ov ← holding [v] (eval o X.env)
      let iv ← holding [v, ov] (eval i X.env)
      standAt pos
      holding [v, ov, iv] (setItem ov iv v)
      release [v, ov, iv] []) := by intro _; rfl) : DG X (.Subscript o i pos) (AV to ti) := by
  obtain ⟨t1, p1, l1⟩ := ho
  obtain ⟨t2, p2, l2⟩ := hi
  refine ⟨_, Jd p1 p2 set_list ha, fun σ H ρ μ d u Qd Q S r h k => ?_⟩
  refine l1 σ H ρ μ _ _ S h fun x ux μ1 H1 e1 S1 rx h1 => ?_
  refine l2 σ H1 ρ μ1 _ _ S1 h1 fun y uy μ2 H2 e2 S2 ry h2 => ?_
  have r2 := (r.ext S.mu e1).ext S1.mu e2
  have rx2 := rx.ext S1.mu e2
  split at h2
  · rename_i l kk xv
    obtain ⟨rfl, ds, hm⟩ := rx2
    cases ry
    rw [hm] at h2
    obtain ⟨us, hl, rl⟩ := S2.mu l ds hm
    simp only at h2
    cases q : ixN ds.length kk with
    | none => rw [q] at h2; exact h2.elim
    | some j =>
      rw [q] at h2
      refine ⟨l, us, kk, j, rfl, rfl, hl, by rw [← rl.length]; exact q, ?_⟩
      have ex : Ext X.K μ2 H2 (aE μ2 l (ds.set j xv)) (upd H2 l (.lst (us.set j u))) := mC hm
      exact k σ ρ _ _ (e1.trans (e2.trans ex)) ⟨S2.mu.set hm (rl.set r2 j), S2.rho.ext S2.mu ex⟩ h2
  · exact h2.elim
noncomputable def aP (te : DTE) (g : DTG) : DTS := fun Dd ρ μ => te ρ μ fun d μ1 => g d ρ μ1 Dd.nx
theorem yo {K : PySem.W.Frag} {t : TE} {g : TG} {gd : DTG} (l1 : nI K t te) (l2 : EO K g gd) : vn K (Ik t g) (aP te gd) := by
  intro σ H ρ μ Dd De S h k1 k2 k3 k4
  refine l1 σ H ρ μ _ _ S h fun d u μ1 H1 e1 S1 r h1 => ?_
  exact l2 σ H1 ρ μ1 d u _ _ S1 r h1 fun a b c d e2 => k1 a b c d (e1.trans e2)
theorem fG {tg : Expr} {g : DTG} (he : DE X e te) (hg : DG X tg g) (hs : swapsWithSole [tg] e pos.line X.env = pure false := by rfl) (hw : swappedStores [tg] e X.env = pure none := by rfl)
    (h1 : (assignEach [tg] X.env).map (·.2) = [assign tg X.env] := by rfl) : DS X (.Assign [tg] e pos) (aP te g) := by
  obtain ⟨t1, p1, l1⟩ := he
  obtain ⟨t2, p2, l2⟩ := hg
  exact ⟨_, Jq p1 p2 hs hw h1, yo l1 l2⟩
theorem aA {i : Nat} {x : Str} {pos' : Pos} (hN : X.N.Nodup) (hi : X.N[i]? = some x) (hx : Loc X.env.scope x) (he : DE X e te) (hs : swapsWith e (some (.Name x pos')) pos.line X.env = pure false := by rfl) (hf : X.fn x = true ∨ X.env.scope.names.lookup x = some .local := by first | exact .inl rfl | exact .inr rfl | assumption) :
    DS X (.Assign [.Name x pos'] e pos) (aP te (aj i)) := by
  obtain ⟨t1, p1, l1⟩ := he
  exact ⟨_, DB hN hi hx p1 hs hf, yo l1 tE⟩
noncomputable def xj (i j : Nat) (t : DTA) : DTS := fun Dd ρ μ => t ρ μ fun ds μ1 => match ds with
  | [v, w] => Dd.nx ((ρ.set i (some v)).set j (some w)) μ1
  | _ => False
theorem nC {i j : Nat} {x y : Str} {a b : Expr} {t : DTA} {px py pt : Pos} {kt k2 pt2} (hc : X.calm = true) (hN : X.N.Nodup) (hi : X.N[i]? = some x) (hj : X.N[j]? = some y) (hij : i ≠ j)
    (hx : X.env.scope.names.lookup x = some .local) (hy : X.env.scope.names.lookup y = some .local) (ha : DA X [a, b] t)
    (hw : swappedStores [.Tuple [.Name x px, .Name y py] kt pt] (.Tuple [a, b] k2 pt2) X.env = pure (some [x, y]))
    (hs : swapsWithSole [.Tuple [.Name x px, .Name y py] kt pt] (.Tuple [a, b] k2 pt2) pos.line X.env = pure false := by rfl) :
    DS X (.Assign [.Tuple [.Name x px, .Name y py] kt pt] (.Tuple [a, b] k2 pt2) pos) (xj i j t) := by
  obtain ⟨t1, p1, l1⟩ := ha
  refine ⟨_, JJ hc hN hi hj hij hx hy p1 hw hs, fun σ H ρ μ Dd De S h k1 k2 k3 k4 => ?_⟩
  refine l1 σ H ρ μ _ _ S h fun ds us μ1 H1 e1 S1 rs len h1 => ?_
  split at h1
  · cases rs with
    | cons r1 r2 =>
      cases r2 with
      | cons r2 r3 =>
        cases r3
        exact ⟨_, _, rfl, k1 _ _ μ1 H1 e1 ⟨S1.mu, (S1.rho.set r1).set r2⟩ h1⟩
  · exact h1.elim
noncomputable def tD (c : DTT) (tb : DTS) : DTS := fun Dd ρ μ => ∃ W : Nat → Rho → Mu → Prop, (∃ m, W m ρ μ) ∧ ∀ m ρ μ, W m ρ μ →
  c ρ μ fun b μ1 => if b = true then tb { Dd with nx := fun ρ' μ' => ∃ m', m' < m ∧ W m' ρ' μ', ct := fun ρ' μ' => ∃ m', m' < m ∧ W m' ρ' μ', bk := Dd.nx } ρ μ1 else Dd.nx ρ μ1
theorem sk {c : Expr} {body : List Stmt} (hp : PassesOwn (model X.prog X.w) X.A X.env X.xe) (hc : DT X c tc) (hb : DSs X body td) : DS X (.While c body [] pos) (tD tc td) := by
  obtain ⟨t0, p0, l0⟩ := hc
  obtain ⟨t1, p1, l1⟩ := hb
  refine ⟨_, CU hp p0 p1, fun σ H ρ μ Dd De S h k1 k2 k3 k4 => ?_⟩
  obtain ⟨W, ⟨m, w0⟩, turn⟩ := h
  refine ⟨fun m σ' H' => ∃ ρ' μ', Ext X.K μ H μ' H' ∧ St0 X.K H' ρ' μ' σ' ∧ W m ρ' μ', ⟨m, ρ, μ, .refl, S, w0⟩, ?_⟩
  rintro m σ1 H1 ⟨ρ1, μ1, e1, S1, w1⟩
  refine l0 σ1 H1 ρ1 μ1 _ _ S1 (turn m ρ1 μ1 w1) fun b μ2 H2 e2 S2 h2 => ?_
  cases b with
  | true =>
    refine rN ⟨fun σ' H' => ∃ m', m' < m ∧ ∃ ρ' μ', Ext X.K μ H μ' H' ∧ St0 X.K H' ρ' μ' σ' ∧ W m' ρ' μ', fun σ' H' ⟨m', hm, q⟩ => ⟨m', hm, q⟩, ?_⟩
    have nxt : ∀ σ' ρ' μ' H', Ext X.K μ2 H2 μ' H' → St0 X.K H' ρ' μ' σ' → (∃ m', m' < m ∧ W m' ρ' μ') → ∃ m', m' < m ∧ ∃ ρ' μ', Ext X.K μ H μ' H' ∧ St0 X.K H' ρ' μ' σ' ∧ W m' ρ' μ' :=
      fun σ' ρ' μ' H' e3 S3 ⟨m', hm, q⟩ => ⟨m', hm, ρ', μ', e1.trans (e2.trans e3), S3, q⟩
    rw [if_pos rfl] at h2
    exact l1 σ1 H2 ρ1 μ2 _ _ S2 h2 nxt (fun a b c d e3 => k2 a b c d (e1.trans (e2.trans e3))) (fun a b c d e3 => k1 a b c d (e1.trans (e2.trans e3))) nxt
  | false => exact rX (k1 σ1 ρ1 μ2 H2 (e1.trans e2) S2 (by simpa using h2))
abbrev DTI := Rho → Mu → (List PyData → Mu → Prop) → Prop
noncomputable def Gj (K : PySem.W.Frag) (J : It) (xs : List PyData) (μ1 : Mu) (H1 : Hp) : Prop := ∀ μ2 H2, Ext K μ1 H1 μ2 H2 → bK K μ2 H2 → ∀ i, (i < xs.length → J.go i H2 ∧ ∀ x H', J.yld i H2 x H' → ∃ d, xs[i]? = some d ∧ uf H2 H' ∧ Rp K μ2 H' d x) ∧ (i = xs.length → J.stop i H2)
noncomputable def J0 (K : PySem.W.Frag) (wi : TI) (src : DTI) : Prop := ∀ (σ : St) (H : Hp) (ρ : Rho) (μ : Mu) (Qd : List PyData → Mu → Prop) (R : It → Hp → Prop), St0 K H ρ μ σ → src ρ μ Qd →
  (∀ xs μ1 H1 J, Ext K μ H μ1 H1 → St0 K H1 ρ μ1 σ → Gj K J xs μ1 H1 → Qd xs μ1 → R J H1) → wi σ H R
noncomputable def DI (X : Cx) (tg iter : Expr) (src : DTI) : Prop := ∃ wi, PI X tg iter wi ∧ J0 X.K wi src
variable {tg : Expr}
noncomputable def sJ (te : DTE) : DTI := fun ρ μ Q => te ρ μ fun d μ1 => match d with
  | .v (.list xs) => Q xs μ1
  | _ => False
noncomputable def Fg (te : DTE) : DTI := fun ρ μ Q => te ρ μ fun d μ1 => match d with
  | .v (.tuple xs) => Q xs μ1
  | _ => False
theorem BE (h : DE X e te) : DI X tg e (sJ te) := by
  obtain ⟨t1, p1, l1⟩ := h
  refine ⟨_, GL p1, fun σ H ρ μ Qd R S h k => ?_⟩
  refine l1 σ H ρ μ _ _ S h fun d u μ1 H1 e1 S1 r h1 => ?_
  split at h1
  · rename_i xs
    cases r with
    | @list a us _ ha hn ra =>
      refine ⟨a, rfl, ⟨us, SqL.of ha⟩, k xs μ1 H1 _ e1 S1 (fun μ2 H2 e2 ok2 i => ⟨fun hi => ?_, fun hi => ?_⟩) h1⟩
      · have ha2 := e2.keep _ _ ha hn trivial
        have hiu : i < us.length := by rw [← ra.length]; exact hi
        refine ⟨⟨us, us[i], SqL.of ha2, by simp [hiu]⟩, fun x H' ⟨eH, hx⟩ => ?_⟩
        subst eH
        obtain ⟨u', h1', h2'⟩ := ra.get (i := i) (d := xs[i]) (by simp [hi])
        have := hx us (SqL.of ha2)
        rw [h1'] at this
        cases this
        exact ⟨xs[i], by simp [hi], uf.refl _, h2'.ext S1.mu e2⟩
      · exact ⟨us, SqL.of (e2.keep _ _ ha hn trivial), by rw [← ra.length]; omega⟩
  · exact h1.elim
theorem HA (h : DE X e te) : DI X tg e (Fg te) := by
  obtain ⟨t1, p1, l1⟩ := h
  refine ⟨_, HS p1, fun σ H ρ μ Qd R S h k => ?_⟩
  refine l1 σ H ρ μ _ _ S h fun d u μ1 H1 e1 S1 r h1 => ?_
  split at h1
  · rename_i xs
    cases r with
    | @tuple a us _ ha ra =>
      refine ⟨a, rfl, ⟨us, ha⟩, k xs μ1 H1 _ e1 S1 (fun μ2 H2 e2 ok2 i => ⟨fun hi => ?_, fun hi => ?_⟩) h1⟩
      · have ha2 := xx S1.mu e2 ha
        have hiu : i < us.length := by rw [← ra.length]; exact hi
        refine ⟨⟨us, us[i], ha2, by simp [hiu]⟩, fun x H' ⟨eH, hx⟩ => ?_⟩
        subst eH
        obtain ⟨u', h1', h2'⟩ := ra.get (i := i) (d := xs[i]) (by simp [hi])
        have := hx us ha2
        rw [h1'] at this
        cases this
        exact ⟨xs[i], by simp [hi], uf.refl _, h2'.ext S1.mu e2⟩
      · exact ⟨us, xx S1.mu e2 ha, by rw [← ra.length]; omega⟩
  · exact h1.elim
def nQ (lo : Int) (n : Nat) : List PyData := (List.range n).map fun (i : Nat) => PyData.int (lo + (i : Int))
theorem DH {K : PySem.W.Frag} {lo : Int} {n : Nat} {μ : Mu} {H : Hp} : Gj K (Itr lo n) (nQ lo n) μ H := fun μ2 H2 e2 ok2 i => by
  have hl : (nQ lo n).length = n := by unfold nQ; simp
  refine ⟨fun hi => ?_, fun hi => ?_⟩
  · rw [hl] at hi
    refine ⟨hi, fun x H' ⟨eH, hx⟩ => ?_⟩
    subst eH hx
    exact ⟨.int (lo + i), by unfold nQ; simp [hi], uf.refl _, .int _⟩
  · show n ≤ i
    omega
noncomputable def qc (t : DTA) : DTI := fun ρ μ Q => t ρ μ fun ds μ1 => match ds with
  | [.v (.int j)] => (-(2 ^ 62) ≤ j ∧ j < 2 ^ 62) ∧ Q (nQ 0 j.toNat) μ1
  | _ => False
noncomputable def Ap (t : DTA) : DTI := fun ρ μ Q => t ρ μ fun ds μ1 => match ds with
  | [.v (.int i), .v (.int j)] => (-(2 ^ 62) ≤ i ∧ i < 2 ^ 62 ∧ -(2 ^ 62) ≤ j ∧ j < 2 ^ 62) ∧ Q (nQ i (j - i).toNat) μ1
  | _ => False
theorem qS {a : Expr} {t : DTA} {p pos : Pos} (hg : Gl X "range") (hm : X.mg "range" = none) (ha : DA X [a] t) (hs : starEach [a] X.env = [(false, eval a X.env)] := by rfl) (hc : X.calm = true := by rfl) : DI X tg (.Call (.Name "range" p) [a] [] pos) (qc t) := by
  obtain ⟨t1, p1, l1⟩ := ha
  refine ⟨_, CF hc hg hm p1 hs, fun σ H ρ μ Qd R S h k => ?_⟩
  refine l1 σ H ρ μ _ _ S h fun ds us μ1 H1 e1 S1 rs len h1 => ?_
  split at h1
  · rename_i j
    cases rs with
    | cons r1 r2 => cases r2; cases r1; exact ⟨j, rfl, h1.1.1, h1.1.2, k _ μ1 H1 _ e1 S1 DH h1.2⟩
  · exact h1.elim
theorem FP {a b : Expr} {t : DTA} {p pos : Pos} (hg : Gl X "range") (hm : X.mg "range" = none) (ha : DA X [a, b] t) (hs : starEach [a, b] X.env = [(false, eval a X.env), (false, eval b X.env)] := by rfl) (hs2 : starEach [b] X.env = [(false, eval b X.env)] := by rfl) (hc : X.calm = true := by rfl) : DI X tg (.Call (.Name "range" p) [a, b] [] pos) (Ap t) := by
  obtain ⟨t1, p1, l1⟩ := ha
  refine ⟨_, B7 hc hg hm p1 hs hs2, fun σ H ρ μ Qd R S h k => ?_⟩
  refine l1 σ H ρ μ _ _ S h fun ds us μ1 H1 e1 S1 rs len h1 => ?_
  split at h1
  · rename_i i j
    cases rs with
    | cons r1 r2 =>
      cases r2 with
      | cons r2 r3 => cases r3; cases r1; cases r2; exact ⟨i, j, rfl, h1.1, k _ μ1 H1 _ e1 S1 DH h1.2⟩
  · exact h1.elim
noncomputable def Ct (src : DTI) (g : DTG) (tb : DTS) : DTS := fun Dd ρ μ => src ρ μ fun xs μ1 => ∃ Pv : Nat → Rho → Mu → Prop, Pv 0 ρ μ1 ∧
  (∀ i x ρ' μ', xs[i]? = some x → Pv i ρ' μ' → g (.v x) ρ' μ' fun ρ2 μ2 => tb { Dd with nx := Pv (i + 1), ct := Pv (i + 1), bk := Dd.nx } ρ2 μ2) ∧ (∀ ρ' μ', Pv xs.length ρ' μ' → Dd.nx ρ' μ')
theorem vK {iter : Expr} {body : List Stmt} {src : DTI} {g : DTG} (hp : PassesOwn (model X.prog X.w) X.A X.env X.xe) (hc : X.calm = true) (hi : DI X tg iter src) (hg : DG X tg g) (hb : DSs X body td)
    (hs : ∀ x, foldedSetIterable iter X.env x = pure x := by intro _; rfl) : DS X (.For tg iter body [] pos) (Ct src g td) := by
  obtain ⟨t0, p0, l0⟩ := hi
  obtain ⟨t1, p1, l1⟩ := hg
  obtain ⟨t2, p2, l2⟩ := hb
  refine ⟨_, HR hp hc p0 p1 p2 hs, fun σ H ρ μ Dd De S h k1 k2 k3 k4 => ?_⟩
  refine l0 σ H ρ μ _ _ S h fun xs μ1 H1 J e1 S1 it h1 => ?_
  obtain ⟨Pv, pv0, turn, fin⟩ := h1
  refine ⟨fun i m σ' H' => m = xs.length - i ∧ i ≤ xs.length ∧ ∃ ρ' μ', Ext X.K μ1 H1 μ' H' ∧ St0 X.K H' ρ' μ' σ' ∧ Pv i ρ' μ', ⟨xs.length, by simp, Nat.zero_le _, ρ, μ1, .refl, S1, pv0⟩, ?_⟩
  rintro i m σ' H' ⟨rfl, hi, ρ', μ', e2, S2, pv⟩
  obtain ⟨go, stop⟩ := it μ' H' e2 S2.mu i
  by_cases hlt : i < xs.length
  · obtain ⟨g1, y1⟩ := go hlt
    refine .inr ⟨g1, fun σ2 H2 => ∃ ρ2 μ2, Ext X.K μ1 H1 μ2 H2 ∧ St0 X.K H2 ρ2 μ2 σ2 ∧ Pv (i + 1) ρ2 μ2, fun σ2 H2 q => ⟨xs.length - (i + 1), by omega, rfl, hlt, q⟩, fun x H2 yl => ?_⟩
    obtain ⟨d, hd, sm, rd⟩ := y1 x H2 yl
    have e3 : Ext X.K μ' H' μ' H2 := .of_same sm
    have S3 : St0 X.K H2 ρ' μ' σ' := ⟨S2.mu.GX e3 sm, S2.rho.ext S2.mu e3⟩
    refine l1 σ' H2 ρ' μ' (.v d) x _ _ S3 rd (turn i d ρ' μ' hd pv) fun σ4 ρ4 μ4 H4 e4 S4 h4 => ?_
    have nxt : ∀ a b c dd, Ext X.K μ4 H4 c dd → St0 X.K dd b c a → Pv (i + 1) b c → ∃ ρ2 μ2, Ext X.K μ1 H1 μ2 dd ∧ St0 X.K dd ρ2 μ2 a ∧ Pv (i + 1) ρ2 μ2 := fun a b c dd e5 S5 q => ⟨b, c, e2.trans (e3.trans (e4.trans e5)), S5, q⟩
    have ee := e1.trans (e2.trans (e3.trans e4))
    exact l2 σ4 H4 ρ4 μ4 _ _ S4 h4 nxt (fun a b c d e5 => k2 a b c d (ee.trans e5)) (fun a b c d e5 => k1 a b c d (ee.trans e5)) nxt
  · have ei : i = xs.length := by omega
    subst ei
    exact .inl ⟨stop rfl, k1 σ' ρ' μ' H' (e1.trans e2) S2 (fin ρ' μ' pv)⟩
end
abbrev DSp := List D → Mu → DK → Prop
noncomputable def spD (K : PySem.W.Frag) (dsp : DSp) : Sp := fun vs H Q _ => ∃ (ds : List D) (μ : Mu) (Qd : DK), bK K μ H ∧ jo K μ H ds vs ∧ dsp ds μ Qd ∧
  (∀ d u μ' H', Ext K μ H μ' H' → bK K μ' H' → RpD K μ' H' d u → Qd d μ' → Q u H')
def aS (N : List Str) (ds : List D) : Rho := ds.map some ++ List.replicate (N.length - ds.length) none
theorem jo.get {K : PySem.W.Frag} {μ : Mu} {H : Hp} {ds : List D} {us : List V} : ∀ {i : Nat} {d : D}, jo K μ H ds us → ds[i]? = some d → ∃ u, us[i]? = some u ∧ RpD K μ H d u
  | _, _, .nil, h => by simp at h
  | 0, _, .cons r _, h => by simp at h; subst h; exact ⟨_, rfl, r⟩
  | i + 1, d, .cons _ t, h => by
    obtain ⟨u, h1, h2⟩ := jo.get (i := i) (d := d) t (by simpa using h)
    exact ⟨u, by simpa using h1, h2⟩
theorem p6 {K : PySem.W.Frag} {μ : Mu} {H : Hp} {N : List Str} {ds : List D} {vs : List V} (r : jo K μ H ds vs) : iq K μ H (aS N ds) (start N vs) := by
  have hl := r.length
  refine ⟨by unfold aS start; simp [hl], fun i d e => ?_⟩
  unfold aS at e
  by_cases hi : i < ds.length
  · rw [List.getElem?_append_left (by simpa using hi), List.getElem?_map] at e
    unfold start
    rw [List.getElem?_append_left (by simpa [hl] using hi), List.getElem?_map]
    cases q : ds[i]? with
    | none => rw [q] at e; cases e
    | some d' =>
      rw [q] at e
      cases e
      obtain ⟨u, h1, h2⟩ := r.get q
      exact ⟨u, by rw [h1]; rfl, h2⟩
  · rw [List.getElem?_append_right (by simpa using hi), List.getElem?_replicate] at e
    split at e <;> cases e
section
variable {P : Program} {w : World} {K : PySem.W.Frag} {mg : Str → Option Value} {base : Heap}
theorem _root_.L2.Fun.okD {x qual : Str} {st : Stmt} {f : Addr} {fd : FuncData} {N ps : List Str} {k : Nat} {dsp : DSp} (F : Fun K x qual st f fd) (S : aR N ps (aw st)) (len : ∀ ds μ Q, dsp ds μ Q → ds.length = ps.length)
    (hbody : ∀ (cdv : Value) (A : Around) (outer : List Env) (s : Shared) (H : Hp) (E : XK), eN k (A.deeper (envOfC qual (aw st) s.heap.objs.size f cdv)) →
      ∃ td, DSs (jN CX0 P w K mg base N qual (aw st) f cdv A outer s H E).nox (d7 st) td ∧ ∀ ds μ Qd, dsp ds μ Qd → td ‹Qd› (aS N ds) μ) : bS P w K mg base CX0 (k + 1) f fd ps (spD K dsp) := by
  refine F.ok S (fun vs H Q E h => ?_) (fun cdv A outer s H vs Q E hr h => ?_)
  · obtain ⟨ds, μ, Qd, _, r, h, _⟩ := h
    rw [← r.length]
    exact len ds μ Qd h
  · obtain ⟨ds, μ, Qd, ok, r, h, fin⟩ := h
    obtain ⟨td, ⟨t, p, l⟩, rd⟩ := hbody cdv A outer s H E hr
    refine ⟨t, p, ?_⟩
    exact l (start N vs) H (aS N ds) μ _ _ ⟨ok, p6 r⟩ (rd ds μ Qd h) (fun σ' ρ' μ' H' e' S' q => fin (.v .none) .non μ' H' e' S'.mu Rp.none q) (fun d u μ' H' e' ok' r' q => fin d u μ' H' e' ok' r' q) (fun _ _ _ _ _ _ q => q) (fun _ _ _ _ _ _ q => q)
end
section
variable {X : Cx} {e : Expr} {es : List Expr} {t : DTA} {p pos : Pos} {x : Str} {k : Nat} {f : Addr} {fd : FuncData} {ps : List Str} {dsp : DSp}
noncomputable def ay (dsp : DSp) (t : DTA) : DTE := fun ρ μ Q => t ρ μ fun ds μ1 => dsp ds μ1 Q
theorem au (F : bS X.prog X.w X.K X.mg X.base CX0 k f fd ps (spD X.K dsp)) (hr : eN k X.A) (hg : Gl X x) (hm : X.mg x = some (.ref f)) (hk : PySem.W.keepIn X.K (.ref f) = true) (hb : Binds X.K fd ps [])
    (ha : DA X (e :: es) t) (hdb : (x == ("__debug__" : Str)) = false := by decide) (he : starEach (e :: es) X.env = (false, eval e X.env) :: starEach es X.env := by rfl) (hpl : (backTo pos (starEach es X.env)).any (·.1) = false := by rfl) :
    DE X (.Call (.Name x p) (e :: es) [] pos) (ay dsp t) := by
  obtain ⟨t1, p1, l1⟩ := ha
  refine ⟨_, vV F hr hg hm hk hb .nil EX p1 hdb he hpl, fun σ H ρ μ Qd Q S h kk => ?_⟩
  refine l1 σ H ρ μ _ _ S h fun ds us μ1 H1 e1 S1 rs len h1 => ?_
  refine ⟨ds, μ1, Qd, S1.mu, by rw [List.append_nil]; exact rs, h1, fun d u μ' H' e2 ok r q => ?_⟩
  exact kk d u μ' H' (e1.trans e2) ⟨ok, S1.rho.ext S1.mu e2⟩ r q
end
section
variable {X : Cx} {o e : Expr} {to te : DTE} {apos cpos : Pos}
noncomputable def Ja (to te : DTE) : DTE := fun ρ μ Q => to ρ μ fun x μ1 => match x with
  | .m l => te ρ μ1 fun y μ2 => (match y, μ2 l with
    | .v d, some xs => xs.length < 1000 ∧ Q (.v .none) (aE μ2 l (xs ++ [d]))
    | _, _ => False)
  | _ => False
theorem CC (ho : DE X o to) (ha : DE X e te) (hbase : attributeBase o "append" X.env (eval o X.env) = eval o X.env := by rfl)
    (hfew : ((backTo cpos (starEach [e] X.env)).all (fun x => !x.1) && (backToKw cpos (keywordEach [] X.env)).all (fun x => x.1.isSome)
      && decide ([e].length + ([] : List Keyword).length + (if ([] : List Keyword).isEmpty then 0 else 1) < 30)) = true := by rfl)
    (hline : (apos.endLine == cpos.line) = true := by rfl) (hs : starEach [e] X.env = (false, eval e X.env) :: starEach [] X.env := by rfl) (hplain : (backTo cpos (starEach [] X.env)).any (·.1) = false := by rfl) :
    DE X (.Call (.Attribute o "append" apos) [e] [] cpos) (Ja to te) := by
  obtain ⟨t1, p1, l1⟩ := ho
  obtain ⟨t2, p2, l2⟩ := ha
  refine ⟨_, yJ PySem.F.plainAttrs_list PySem.F.slot_list_append PySem.F.type_list_append qf p1 (cY p2 jP hs) hbase hfew hline hs hplain, fun σ H ρ μ Qd Q S h k => ?_⟩
  refine l1 σ H ρ μ _ _ S h fun x ux μ1 H1 e1 S1 rx h1 => ?_
  cases x with
  | m l =>
    obtain ⟨rfl, ds, hm⟩ := id rx
    obtain ⟨us, hl, rl⟩ := S1.mu l ds hm
    refine ⟨.inl ⟨rfl, us, SqL.of hl⟩, ?_⟩
    refine l2 σ H1 ρ μ1 _ _ S1 h1 fun y uy μ2 H2 e2 S2 ry h2 => ?_
    obtain ⟨_, ds2, hm2⟩ := rx.ext S1.mu e2
    obtain ⟨us2, hl2, rl2⟩ := S2.mu l ds2 hm2
    rw [hm2] at h2
    cases y with
    | v d =>
      have h3 : ds2.length < 1000 ∧ Qd (.v .none) (aE μ2 l (ds2 ++ [d])) := h2
      refine ⟨l, us2, uy, rfl, rfl, hl2, by rw [← rl2.length]; exact gD (Nat.le_of_lt h3.1), ?_⟩
      have ex : Ext X.K μ2 H2 (aE μ2 l (ds2 ++ [d])) (upd H2 l (.lst (us2 ++ [uy]))) := mC hm2
      exact k (.v .none) .non _ _ (e1.trans (e2.trans ex)) ⟨S2.mu.set hm2 (rl2.append (.cons ry .nil)), S2.rho.ext S2.mu ex⟩ Rp.none h3.2
    | m _ => exact h2.elim
    | s _ => exact h2.elim
    | o _ => exact h2.elim
    | q _ => exact h2.elim
  | v d => exact h1.elim
  | s ns => exact h1.elim
  | o _ => exact h1.elim
  | q _ => exact h1.elim
noncomputable def KU (to te : DTE) : DTE := fun ρ μ Q => to ρ μ fun x μ1 => match x with
  | .m l => te ρ μ1 fun y μ2 => (match y, μ2 l with
    | .v (.list ys), some xs => xs.length + ys.length ≤ 1000 ∧ Q (.v .none) (aE μ2 l (xs ++ ys))
    | _, _ => False)
  | _ => False
end
open PySem PySem.Spec PyProof.Rows
theorem jt {prog : Program} {w : World} {A : Around} {R : Result → Shared → Prop} {s : Shared} {elt target iter : Expr} {ifs : List Expr} {scope : Scope} {pos : Pos} {it acc : Value} {env : Env} (I : Nat → Shared → Prop)
    (turn : ∀ n s, I n s → wpAny (model prog w) A (pyNext it) (fun r s₁ => match r with
      | none => R (.ok .next) s₁
      | some v => wpAny (model prog w) A (letOwnedTupleGo target it v) (fun _ s' => wpAny (model prog w) A (assign target env v) (fun _ s₂ =>
          wpAny (model prog w) A (forIn ifs true fun c r => if r = true then do let ok ← isTrue c env (eval c env); pure (ForInStep.yield ok) else pure (ForInStep.yield r)) (fun ok s₃ =>
            if ok = true then wpAny (model prog w) A (eval elt env) (fun x s₄ =>
              wpAny (model prog w) A (call (.builtin "list.append") [acc, x]) (fun _ s₅ => ∃ m, m < n ∧ I m s₅) (fun _ _ => False) s₄) (fun _ _ => False) s₃
            else ∃ m, m < n ∧ I m s₃) (fun _ _ => False) s₂) (fun _ _ => False) s') (fun _ _ => False) s₁) (fun _ _ => False) s)
    (n : Nat) (h : I n s) :
    codeAny (model prog w) A (.compLoop (.ListComp elt [⟨target, iter, ifs, 0⟩] scope pos) 0 it acc env) R s := by
  refine codeAny_loop rfl I (fun n s hI => ?_) n h
  show wpAny _ A ((compTurn (.ListComp elt [⟨target, iter, ifs, 0⟩] scope pos) 0 it acc env).onRaise (fun x => do noteFrame x env; theTreesLotGoes x)) _ _ s
  refine wpAny_noted ?_
  rw [compTurn_list]
  refine wpAny_bind (wpAny_standAt (wpAny_bind (wpAny_mono (turn n s hI) (fun r s₁ h₁ => ?_) fun _ _ h' => h'.elim)))
  cases r with
  | none => exact wpAny_pure h₁
  | some v =>
    refine wpAny_bind (wpAny_mono h₁ (fun _ s' h' => ?_) fun _ _ h' => h'.elim)
    refine wpAny_bind (wpAny_mono h' (fun _ s₂ h₂ => wpAny_bind (wpAny_mono h₂ (fun ok s₃ h₃ => ?_) fun _ _ h' => h'.elim)) fun _ _ h' => h'.elim)
    cases ok with
    | false => exact wpAny_pure ⟨rfl, h₃⟩
    | true =>
      exact wpAny_bind (wpAny_bind (wpAny_mono h₃ (fun x s₄ h₄ => wpAny_bind (wpAny_mono h₄ (fun _ s₅ h₅ => wpAny_pure (wpAny_pure ⟨rfl, h₅⟩)) fun _ _ h' => h'.elim)) fun _ _ h' => h'.elim))
section
variable {K : PySem.W.Frag} {μ μ' : Mu} {H : Hp}
mutual
theorem Rp.shrink {d : PyData} {u : V} (sub : ∀ a, μ' a = none → μ a = none) : Rp K μ' H d u → Rp K μ H d u
  | .none => .none
  | .bool b => .bool b
  | .int i => .int i
  | .str x => .str x
  | .list h n r => .list h (sub _ n) (RpL.shrink sub r)
  | .tuple h r => .tuple h (RpL.shrink sub r)
theorem RpL.shrink {ds : List PyData} {us : List V} (sub : ∀ a, μ' a = none → μ a = none) : RpL K μ' H ds us → RpL K μ H ds us
  | .nil => .nil
  | .cons h r => .cons (Rp.shrink sub h) (RpL.shrink sub r)
end
end
theorem DQ {X : Cx} {e : Expr} {td : DTE} (h : ∀ (pins : List (Addr × Obj)) (s : Shared) (σ : St) (H : Hp) (ρ : Rho) (μ : Mu) (Qd : DK) (Q : VK), Inv X pins σ H s → St0 X.K H ρ μ σ → td ρ μ Qd →
    (∀ d u μ' H', Ext X.K μ H μ' H' → St0 X.K H' ρ μ' σ → RpD X.K μ' H' d u → Qd d μ' → Q u H') → wpAny (model X.prog X.w) X.A (eval e X.env) (EP X pins σ Q) X.xe s) : DE X e td :=
  ⟨fun σ H Q => ∃ ρ μ Qd, St0 X.K H ρ μ σ ∧ td ρ μ Qd ∧ (∀ d u μ' H', Ext X.K μ H μ' H' → St0 X.K H' ρ μ' σ → RpD X.K μ' H' d u → Qd d μ' → Q u H'),
    fun pins s σ H Q I ⟨ρ, μ, Qd, S, q, k⟩ => h pins s σ H ρ μ Qd Q I S q k, fun σ H ρ μ Qd Q S q k => ⟨ρ, μ, Qd, S, q, k⟩⟩
def br (X : Cx) (N' : List Str) (scope : Scope) (cl : List (Str × Addr)) (fp : List Addr) (s₃ : Shared) (H₃ : Hp) : Cx :=
  { X with N := N', s₀ := s₃, H₀ := H₃, env := compEnvC scope cl s₃.heap.objs.size X.env, outer := X.stack, stack := X.stack, ex := fp, fn := fun _ => false, pn := X.pn, xe := fun _ _ => False }
def Le : Rho → Rho → Prop
  | [], [] => True
  | none :: r, _ :: r' => Le r r'
  | some d :: r, some d' :: r' => d = d' ∧ Le r r'
  | _, _ => False
theorem Le.get : ∀ {ρ ρ' : Rho}, Le ρ ρ' → ρ.length = ρ'.length ∧ ∀ (i : Nat) d, ρ[i]? = some (some d) → ρ'[i]? = some (some d)
  | [], [], _ => ⟨rfl, fun _ _ h => h⟩
  | none :: r, x :: r', h => by
    obtain ⟨h1, h2⟩ := Le.get (ρ := r) (ρ' := r') h
    refine ⟨congrArg (· + 1) h1, fun i d e => ?_⟩
    cases i with
    | zero => simp at e
    | succ j => exact h2 j d (by simpa using e)
  | some d :: r, some d' :: r', h => by
    obtain ⟨rfl, h⟩ := h
    obtain ⟨h1, h2⟩ := Le.get (ρ := r) (ρ' := r') h
    refine ⟨congrArg (· + 1) h1, fun i d e => ?_⟩
    cases i with
    | zero => simpa using e
    | succ j => exact h2 j d (by simpa using e)
  | some d :: r, none :: r', h => h.elim
  | [], _ :: _, h => h.elim
  | none :: _, [], h => h.elim
  | some _ :: _, [], h => h.elim
def cq {α : Type} (cap : List (Option Nat)) (ρ : List (Option α)) : List (Option α) := cap.map fun o => o.bind fun j => (ρ[j]?).join
noncomputable def sN (cap : List (Option Nat)) (src : DTI) (g : DTG) (c : DTT) (elt : DTE) : DTE := fun ρ μ Q => src ρ μ fun xs μ1 => xs.length ≤ 1000 ∧ ∃ f : PyData → Option PyData,
  (∀ x ∈ xs, ∀ μ' : Mu, (∀ a ds, μ1 a = some ds → μ' a = some ds) → g (.v x) (cq cap ρ) μ' fun ρ2 μ2 => Le (cq cap ρ) ρ2 ∧ c ρ2 μ2 fun b μ3 =>
    if b = true then elt ρ2 μ3 fun d μ4 => μ4 = μ' ∧ (match d with | .v y => f x = some y | _ => False) else μ3 = μ' ∧ f x = none) ∧ Q (.v (.list (xs.filterMap f))) μ1
noncomputable def B5 (X : Cx) (ifs : List Expr) (c : DTT) : Prop := ∀ (pins : List (Addr × Obj)) (s : Shared) (σ : St) (H : Hp) (ρ : Rho) (μ : Mu) (Qd : Bool → Mu → Prop) (Q : Bool → Hp → Prop), Inv X pins σ H s → St0 X.K H ρ μ σ → c ρ μ Qd →
  (∀ b μ' H', Ext X.K μ H μ' H' → St0 X.K H' ρ μ' σ → Qd b μ' → Q b H') →
  wpAny (model X.prog X.w) X.A (forIn ifs true fun c r => if r = true then do let ok ← isTrue c X.env (eval c X.env); pure (ForInStep.yield ok) else pure (ForInStep.yield r)) (TP X pins σ Q) X.xe s
noncomputable def oQ : DTT := fun _ μ Q => Q true μ
theorem kj {X : Cx} : B5 X [] oQ := fun pins s σ H ρ μ Qd Q I S h k => wpAny_tests_nil ⟨H, I, k true μ H .refl S h⟩
theorem Fi {X : Cx} {c : Expr} {tc : DTT} (h : DT X c tc) : B5 X [c] tc := by
  obtain ⟨t, p, l⟩ := h
  exact fun pins s σ H ρ μ Qd Q I S h k => wpAny_tests_one (p pins s σ H _ I (l σ H ρ μ _ _ S h k))
theorem Un.after {fs ex : List Addr} {H H1 : Hp} {h h1 h' : Heap} (u : Un fs ex H H1 h h1) (k : ∀ b o, b < h.objs.size → h1.get? b = some o → h'.get? b = some o) : Un fs ex H H1 h h' :=
  ⟨fun b o e n hb hx => k b o (Heap.lt_size e) (u.keep b o e n hb hx), fun b o e n hb hx => let ⟨sl, q⟩ := u.slot b o e n hb hx; ⟨sl, k b _ (Heap.lt_size e) q⟩, u.free, fun b o e hx => let ⟨o', q⟩ := u.there b o e hx; ⟨o', k b _ (Heap.lt_size e) q⟩, u.nu, u.mO, u.mK⟩
theorem o7 {α : Type} {cap : List (Option Nat)} {ρ : List (Option α)} {i : Nat} {d : α} (h : (cq cap ρ)[i]? = some (some d)) : ∃ j, cap[i]? = some (some j) ∧ ρ[j]? = some (some d) := by
  unfold cq at h
  rw [List.getElem?_map] at h
  cases q : cap[i]? with
  | none => rw [q] at h; cases h
  | some o =>
    rw [q] at h
    cases o with
    | none => cases h
    | some j =>
      refine ⟨j, rfl, ?_⟩
      simp only [Option.map_some, Option.bind_some, Option.some.injEq] at h
      cases z : ρ[j]? with
      | none => rw [z] at h; cases h
      | some y => rw [z] at h; simp only [Option.join_some] at h; rw [h]
theorem Ey {α : Type} {cap : List (Option Nat)} {ρ : List (Option α)} {i j : Nat} {d : α} (h : cap[i]? = some (some j)) (e : ρ[j]? = some (some d)) : (cq cap ρ)[i]? = some (some d) := by
  unfold cq
  rw [List.getElem?_map, h]
  simp [e]
theorem iq.cap {K : PySem.W.Frag} {μ : Mu} {H : Hp} {ρ : Rho} {σ : St} {cap : List (Option Nat)} (r : iq K μ H ρ σ) : iq K μ H (cq cap ρ) (cq cap σ) := by
  refine ⟨by unfold cq; simp, fun i d e => ?_⟩
  obtain ⟨j, h1, h2⟩ := o7 e
  obtain ⟨u, h3, h4⟩ := r.2 j d h2
  exact ⟨u, Ey h1 h3, h4⟩
theorem iq.le {K : PySem.W.Frag} {μ : Mu} {H : Hp} {ρ ρ' : Rho} {σ : St} (r : iq K μ H ρ' σ) (l : Le ρ ρ') : iq K μ H ρ σ :=
  ⟨l.get.1.trans r.1, fun i d e => r.2 i d (l.get.2 i d e)⟩
theorem wo {xs : List PyData} {f : PyData → Option PyData} {i : Nat} {d : PyData} (h : xs[i]? = some d) : (xs.take (i + 1)).filterMap f = (xs.take i).filterMap f ++ (f d).toList := by
  obtain ⟨hi, e⟩ := List.getElem?_eq_some_iff.mp h
  rw [List.take_succ_eq_append_getElem hi, List.filterMap_append, e]
  cases q : f d <;> simp [q]
theorem qQ {X : Cx} {N' : List Str} {scope : Scope} {cl : List (Str × Addr)} {elt iter tg : Expr} {ifs : List Expr} {pos : Pos} {cap : List (Option Nat)} {src : DTI} {g : DTG} {c : DTT} {te : DTE} (hc : X.calm = X.calm)
    (hi : DI X tg iter src) (hg : ∀ fp s₃ H₃, DG (br X N' scope cl fp s₃ H₃) tg g) (hif : ∀ fp s₃ H₃, B5 (br X N' scope cl fp s₃ H₃) ifs c) (he : ∀ fp s₃ H₃, DE (br X N' scope cl fp s₃ H₃) elt te)
    (hclos : closureFor scope X.env = pure cl) (hcell : ∀ y ∈ scope.names, y.2 ≠ .cell) (hkind : scope.kind = .function) (hnames : ∀ y ∈ scope.names, y.2 = .local → scope.names.lookup y.1 = some .local)
    (hcl : ∀ x a, cl.lookup x = some a → X.env.cells.lookup x = some a) (hhas : ∀ x, (relabel scope X.env).names.lookup x = some .cell ∨ (relabel scope X.env).names.lookup x = some .free → ∃ a, cl.lookup x = some a)
    (hlen : cap.length = N'.length) (hcap : ∀ (i j : Nat) (x : Str), cap[i]? = some (some j) → N'[i]? = some x → X.N[j]? = some x ∧ Vis X.env.scope x ∧ X.env.kindOf x ≠ some .local ∧ ((relabel scope X.env).names.lookup x = some .cell ∨ (relabel scope X.env).names.lookup x = some .free))
    (hs : ∀ x, foldedSetIterable iter X.env x = pure x := by intro _; rfl) : DE X (.ListComp elt [⟨tg, iter, ifs, 0⟩] scope pos) (sN cap src g c te) := by
  refine DQ fun pins s σ H ρ μ Qd Q I S h k => ?_
  obtain ⟨wi, pw, li⟩ := hi
  rw [eval_ListComp]
  refine wpAny_comprehension_free (use := none) rfl hs hclos hkind hnames (thn (pw pins s σ H _ I (li σ H ρ μ _ (fun J H1 => ∃ xs μ1, Ext X.K μ H μ1 H1 ∧ St0 X.K H1 ρ μ1 σ ∧ Gj X.K J xs μ1 H1 ∧ xs.length ≤ 1000 ∧ ∃ f : PyData → Option PyData,
      (∀ x ∈ xs, ∀ μ' : Mu, (∀ a ds, μ1 a = some ds → μ' a = some ds) → g (.v x) (cq cap ρ) μ' fun ρ2 μ2 => Le (cq cap ρ) ρ2 ∧ c ρ2 μ2 fun b μ3 =>
        if b = true then te ρ2 μ3 fun d μ4 => μ4 = μ' ∧ (match d with | .v y => f x = some y | _ => False) else μ3 = μ' ∧ f x = none) ∧ Qd (.v (.list (xs.filterMap f))) μ1) S h (fun xs μ1 H1 J e1 S1 it q => ⟨xs, μ1, e1, S1, it, q⟩)))
    fun v s1 h1 => thn h1 fun itv s2 h2 => ?_)
  obtain ⟨it, fp, tn, J, H2, rfl, I2, T, st2, f2, xs, μ1, e1, S1, itok, hxs, f, body, fin⟩ := h2
  refine wpAny_newObj_type (wpAny_newFunctionEnv hcell (by intro y hy; simp at hy) (fun h₁ hns₁ hsb₁ => ?_) hkind)
  dsimp only at hns₁ hsb₁ ⊢
  have hfree2 : H2 s2.heap.objs.size = none := I2.hok.fresh (Nat.le_refl _)
  have hK2 : X.K.lookup s2.heap.objs.size = none := by
    cases z : X.K.lookup s2.heap.objs.size with
    | none => rfl
    | some o => exact absurd (Heap.lt_size (I2.kIn _ _ z)) (Nat.lt_irrefl _)
  have I3 : Inv X pins σ (upd H2 s2.heap.objs.size (.lst [])) { s2 with heap := s2.heap.push { cls := .type "list", dict := none, data := .seq ([] : List Value).toArray } } :=
    I2.laid (t' := s2.toks) (fun b u e => Heap.get?_push_of_some _ e) (Nat.le_refl _) ⟨Nat.zero_le _, [], 0, .nil, Heap.get?_push_size _ rfl⟩
  generalize hH : s2.heap.push { cls := .type "list", dict := none, data := .seq ([] : List Value).toArray } = hp3 at hns₁ hsb₁ I3 ⊢
  have hsz3 : hp3.objs.size = s2.heap.objs.size + 1 := by rw [← hH, Heap.size_push]
  have kept3 : ∀ b o, hp3.get? b = some o → h₁.get? b = some o := fun b o e => hsb₁.extBut b o (Nat.ne_of_lt (Heap.lt_size e)) (Heap.get?_push_of_some _ e)
  have old3 : ∀ b o, s2.heap.get? b = some o → hp3.get? b = some o := fun b o e => by rw [← hH]; exact Heap.get?_push_of_some _ e
  have fplt : ∀ b ∈ fp, b < s2.heap.objs.size := fun b hb => by obtain ⟨o, e, _⟩ := T.obj 0 _ st2 b hb; exact Heap.lt_size e
  have fpst : ∀ b ∈ fp, b ∉ frs X.stack := fun b hb hz => by
    rcases List.mem_cons.mp (I2.pK b hz) with e | e
    · exact (f2 b hb).2.1 e
    · exact (f2 b hb).2.2.1 e
  obtain ⟨s3, hs3⟩ : ∃ s3 : Shared, s3 = { s2 with heap := hp3 } := ⟨_, rfl⟩
  obtain ⟨H3, hH3⟩ : ∃ H3 : Hp, H3 = upd H2 s2.heap.objs.size (.lst []) := ⟨_, rfl⟩
  have heap3 : s3.heap = hp3 := by rw [hs3]
  rw [← hH3] at I3
  have I3' : Inv X pins σ H3 s3 := by rw [hs3]; exact I3
  have hloc : H3 hp3.objs.size = none := by have := I3'.hok.fresh (a := hp3.objs.size) (by rw [heap3]; exact Nat.le_refl _); exact this
  have okc : (br X N' scope cl fp s3 H3).Ok := by
    refine ⟨I3.ok.mod, ?_, I3.ok.glob, I3.ok.blt, Nat.le_refl _, fun x y a h1 h2 => I3.ok.inj x y a (hcl x a h1) (hcl y a h2), fun x hx => hhas x hx, fun x a h => (nomatch h), I3.ok.hd, I3.ok.qt, I3.ok.frames, .inl rfl, fun b hb => ⟨?_, fun x a h => (f2 b hb).2.2.2.2.1 x a (hcl x a h)⟩,
      I3'.bs, Nat.le_trans I3.ok.bsz I3'.sz, fun b o e hb => ?_, fun b hb => fpst b hb, I3'.stack, I3'.qV⟩
    · exact hkind
    · show b ≠ s3.heap.objs.size
      rw [heap3, hsz3]
      exact Nat.ne_of_lt (Nat.lt_succ_of_lt (fplt b hb))
    · rcases (f2 b hb).2.2.2.1 with z | z
      · exact I3.ok.Ag b o e z
      · exact absurd (Nat.lt_of_lt_of_le (Heap.lt_size (I3.ok.bs b o e).1) z) (Nat.lt_irrefl _)
  have I4 : Inv (br X N' scope cl fp s3 H3) [] (cq cap σ) H3 { s2 with heap := h₁, toks := s2.toks + ([] : List (Str × Value)).length } := by
    refine ⟨okc, by show s2.os = s3.os; rw [hs3], I3.bare, Un.kept (by show ∀ b o, s3.heap.get? b = some o → _; rw [heap3]; exact kept3), ⟨_, (by show h₁.Ns s3.heap.objs.size _; rw [heap3]; exact hns₁), fun i x v e1 e2 e3 => ?_⟩, fun x a h => ?_, (by show H3 s3.heap.objs.size = none; rw [heap3]; exact hloc), fun x a h => I3.ik x a (hcl x a h), fun p hp => ?_, I3.hok.kept kept3, ?_⟩
    · obtain ⟨j, h1, h2⟩ := o7 e2
      obtain ⟨hN, hv, hnl, hk⟩ := hcap i j x h1 e1
      obtain ⟨m, _, hl⟩ := I3.loc
      obtain ⟨u, r, lk⟩ := hl j x v hN h2 hv
      refine ⟨u, r, .inr ⟨hk, ?_⟩⟩
      obtain ⟨a, ha⟩ := hhas x hk
      rcases lk with ⟨z, _⟩ | ⟨_, a', z1, z2⟩
      · exact absurd z hnl
      · have : a' = a := by have q := hcl x a ha; rw [z1] at q; exact Option.some.inj q
        subst this
        obtain ⟨o, ho, hd⟩ := z2
        exact ⟨a', ha, o, kept3 _ _ ho, hd⟩
    · obtain ⟨v, o, ho, hd⟩ := I3.cell x a (hcl x a h)
      exact ⟨v, o, kept3 _ _ ho, hd⟩
    · have hp' : p ∈ X.pn ++ pins := List.mem_append_left _ (by simpa using (show p ∈ X.pn ++ [] from hp))
      obtain ⟨z1, z2, z3, z4, z5⟩ := I3'.pin p hp'
      refine ⟨kept3 _ _ (by rw [← heap3]; exact z1), z2, (show p.1 ≠ s3.heap.objs.size from Nat.ne_of_lt (Heap.lt_size z1)), fun z => ?_, z5⟩
      rcases List.mem_cons.mp (I3'.pK p.1 z) with e | e
      · exact z3 e
      · exact z4 e
    · show (cq cap σ).length = N'.length
      unfold cq
      rw [List.length_map]
      exact hlen
  have hμ1 : μ1 s2.heap.objs.size = none := S1.mu.free hfree2
  have sub1 : ∀ ys a ds, μ1 a = some ds → aE μ1 s2.heap.objs.size ys a = some ds := fun ys a ds e => by
    have : a ≠ s2.heap.objs.size := fun z => by rw [z, hμ1] at e; cases e
    rw [cN this]; exact e
  have loop : codeAny (model X.prog X.w) X.A (.compLoop (.ListComp elt [⟨tg, iter, ifs, 0⟩] scope pos) 0 (.ref it) (.ref s2.heap.objs.size) (br X N' scope cl fp s3 H3).env)
      (compPost (model X.prog X.w) X.A X.xe none (EP X pins σ Q) (.ref s2.heap.objs.size) hp3.objs.size) { s2 with heap := h₁, toks := s2.toks + ([] : List (Str × Value)).length } := by
    refine jt (fun n s' => ∃ (i : Nat) (σc : St) (Hc : Hp), n = xs.length - i ∧ i ≤ xs.length ∧ Inv (br X N' scope cl fp s3 H3) [] σc Hc s' ∧ tn i s'.heap ∧ (∀ b ∈ fp, Hc b = none) ∧
      St0 X.K Hc (cq cap ρ) (aE μ1 s2.heap.objs.size ((xs.take i).filterMap f)) σc ∧ Ext X.K μ1 H2 (aE μ1 s2.heap.objs.size ((xs.take i).filterMap f)) Hc) ?_ xs.length
      ⟨0, cq cap σ, H3, by simp, Nat.zero_le _, I4, T.keep 0 _ _ st2 (fun b hb o e => kept3 b o (old3 b o e)), fun b hb => ?_, ?_, ?_⟩
    · rintro n s' ⟨i, σc, Hc, rfl, hi, Ic, tc, frc, Sc, Ec⟩
      have stat : ∀ {Hd : Hp}, (∀ b ∈ fp, Hd b = none) → ∀ b ∈ fp, wj (br X N' scope cl fp s3 H3) [] Hd b := fun hn b hb =>
        ⟨hn b hb, (okc.exf b hb).1, fpst b hb, .inl hb, fun x a h => (okc.exf b hb).2 x a h, fun p hp => (f2 b hb).2.2.2.2.2 p (List.mem_append_left _ (by simpa using (show p ∈ X.pn ++ [] from hp)))⟩
      obtain ⟨go, stop⟩ := itok _ Hc Ec Sc.mu i
      by_cases hlt : i < xs.length
      · obtain ⟨g1, y1⟩ := go hlt
        refine thn (T.item (br X N' scope cl fp s3 H3) rfl rfl rfl (fun z => z) i [] s' σc Hc (fun _ _ => False) Ic (stat frc) tc g1) fun r s4 ⟨u, hr, h4⟩ => ?_
        subst hr
        refine thn h4 fun _ s5 ⟨x, H5, I5, r5, y5, st5, fr5⟩ => ?_
        obtain ⟨d, hd, sm, rd⟩ := y1 x H5 y5
        have I5' := I5.pinned (stat fr5) (T.obj _ _ st5)
        have e5 : Ext X.K _ Hc _ H5 := .of_same (μ := aE μ1 s2.heap.objs.size ((xs.take i).filterMap f)) sm
        have S5 : St0 X.K H5 (cq cap ρ) (aE μ1 s2.heap.objs.size ((xs.take i).filterMap f)) σc := ⟨Sc.mu.GX e5 sm, Sc.rho.ext Sc.mu e5⟩
        obtain ⟨gt, pg, lg⟩ := hg fp s3 H3
        have hmem : d ∈ xs := List.mem_of_getElem? hd
        refine thn (pg _ s5 σc H5 x u (fun σ' H' => ∃ ρ' μ', Ext X.K (aE μ1 s2.heap.objs.size ((xs.take i).filterMap f)) H5 μ' H' ∧ St0 X.K H' ρ' μ' σ' ∧ Le (cq cap ρ) ρ' ∧ c ρ' μ' fun b μ3 =>
            if b = true then te ρ' μ3 fun d' μ4 => μ4 = aE μ1 s2.heap.objs.size ((xs.take i).filterMap f) ∧ (match d' with | .v y => f d = some y | _ => False) else μ3 = aE μ1 s2.heap.objs.size ((xs.take i).filterMap f) ∧ f d = none) I5' r5
          (lg σc H5 (cq cap ρ) _ (.v d) x _ _ S5 rd (body d hmem _ (sub1 _)) fun σ' ρ' μ' H' e' S' q => ⟨ρ', μ', e', S', q⟩)) fun _ s6 ⟨σ6, H6, I6, ρ6, μ6, e6, S6, le6, q6⟩ => ?_
        refine thn (hif fp s3 H3 _ s6 σ6 H6 ρ6 μ6 _ (fun b H' => ∃ μ', Ext X.K μ6 H6 μ' H' ∧ St0 X.K H' ρ6 μ' σ6 ∧ if b = true then te ρ6 μ' fun d' μ4 => μ4 = aE μ1 s2.heap.objs.size ((xs.take i).filterMap f) ∧ (match d' with | .v y => f d = some y | _ => False) else μ' = aE μ1 s2.heap.objs.size ((xs.take i).filterMap f) ∧ f d = none)
          I6 S6 q6 fun b μ' H' e' S' q => ⟨μ', e', S', q⟩) fun b s7 ⟨H7, I7, μ7, e7, S7, q7⟩ => ?_
        have again : ∀ {H9 : Hp} {s9 : Shared}, Inv (br X N' scope cl fp s3 H3) ([] ++ pD fp s5.heap) σ6 H9 s9 → bK X.K (aE μ1 s2.heap.objs.size ((xs.take (i + 1)).filterMap f)) H9 → iq X.K (aE μ1 s2.heap.objs.size ((xs.take (i + 1)).filterMap f)) H9 (cq cap ρ) σ6 →
            Ext X.K μ1 H2 (aE μ1 s2.heap.objs.size ((xs.take (i + 1)).filterMap f)) H9 → ∃ m, m < xs.length - i ∧ ∃ (i : Nat) (σc : St) (Hc : Hp), m = xs.length - i ∧ i ≤ xs.length ∧ Inv (br X N' scope cl fp s3 H3) [] σc Hc s9 ∧ tn i s9.heap ∧ (∀ b ∈ fp, Hc b = none) ∧
              St0 X.K Hc (cq cap ρ) (aE μ1 s2.heap.objs.size ((xs.take i).filterMap f)) σc ∧ Ext X.K μ1 H2 (aE μ1 s2.heap.objs.size ((xs.take i).filterMap f)) Hc := fun {H9 s9} I9 m9 r9 e9 => by
          refine ⟨xs.length - (i + 1), by omega, i + 1, σ6, H9, rfl, hlt, I9.j9, T.keep _ _ _ st5 fun b hb o e => (I9.pin (b, o) (List.mem_append_right _ (List.mem_append_right _ (eV hb e)))).1, fun b hb => ?_, ⟨m9, r9⟩, e9⟩
          obtain ⟨o, e, _⟩ := T.obj _ _ st5 b hb
          exact (I9.pin (b, o) (List.mem_append_right _ (List.mem_append_right _ (eV hb e)))).2.1
        cases b with
        | false =>
          have q8 : μ7 = aE μ1 s2.heap.objs.size ((xs.take i).filterMap f) ∧ f d = none := by simpa using q7
          refine rX ?_
          have et : (xs.take (i + 1)).filterMap f = (xs.take i).filterMap f := by rw [wo hd, q8.2]; simp
          have eμ : aE μ1 s2.heap.objs.size ((xs.take (i + 1)).filterMap f) = μ7 := by rw [et, q8.1]
          refine again I7 (by rw [eμ]; exact S7.mu) (by rw [eμ]; exact S7.rho.le le6) ?_
          rw [eμ]
          exact Ec.trans (e5.trans (e6.trans e7))
        | true =>
          refine rN ?_
          obtain ⟨t8, p8, l8⟩ := he fp s3 H3
          refine thn (p8 _ s7 σ6 H7 (fun v H' => ∃ y, Ext X.K μ7 H7 (aE μ1 s2.heap.objs.size ((xs.take i).filterMap f)) H' ∧ St0 X.K H' ρ6 (aE μ1 s2.heap.objs.size ((xs.take i).filterMap f)) σ6 ∧ Rp X.K (aE μ1 s2.heap.objs.size ((xs.take i).filterMap f)) H' y v ∧ f d = some y) I7
            (l8 σ6 H7 ρ6 μ7 _ _ S7 (by simpa using q7) fun d' v μ8 H8 e8 S8 r8 q8 => ?_)) fun v s8 ⟨v8, H8, I8, r8, y, e8, S8, ry, fy⟩ => ?_
          · obtain ⟨rfl, q8⟩ := q8
            cases d' with
            | v y => exact ⟨y, e8, S8, r8, q8⟩
            | m _ => exact q8.elim
            | s _ => exact q8.elim
            | o _ => exact q8.elim
            | q _ => exact q8.elim
          · obtain ⟨us, hacc, rus⟩ := S8.mu s2.heap.objs.size _ bC
            have hle : ((xs.take i).filterMap f).length ≤ 1000 := Nat.le_trans (List.length_filterMap_le _ _) (Nat.le_trans (by rw [List.length_take]; exact Nat.min_le_right _ _) hxs)
            refine thn (qf (X := br X N' scope cl fp s3 H3) _ s8 σ6 H8 (.ref s2.heap.objs.size) [v8] (.ref s2.heap.objs.size) [v] (fun _ H' => H' = upd H8 s2.heap.objs.size (.lst (us ++ [v8]))) I8 rfl (.cons r8 .nil) ⟨_, us, v8, rfl, rfl, hacc, by rw [← rus.length]; exact gD hle, rfl⟩) fun _ s9 ⟨_, H9, I9, _, e9⟩ => ?_
            subst e9
            have et : (xs.take (i + 1)).filterMap f = (xs.take i).filterMap f ++ [y] := by rw [wo hd, fy]; rfl
            have mset : aE (aE μ1 s2.heap.objs.size ((xs.take i).filterMap f)) s2.heap.objs.size ((xs.take (i + 1)).filterMap f) = aE μ1 s2.heap.objs.size ((xs.take (i + 1)).filterMap f) := u6
            have ex : Ext X.K (aE μ1 s2.heap.objs.size ((xs.take i).filterMap f)) H8 (aE μ1 s2.heap.objs.size ((xs.take (i + 1)).filterMap f)) (upd H8 s2.heap.objs.size (.lst (us ++ [v8]))) := by
              rw [← mset]
              exact mC bC
            refine again I9 ?_ ((S8.rho.le le6).ext S8.mu ex) (Ec.trans (e5.trans (e6.trans (e7.trans (e8.trans ex)))))
            rw [← mset]
            refine S8.mu.set bC ?_
            rw [et]
            exact rus.append (.cons ry .nil)
      · have ei : i = xs.length := by omega
        subst ei
        refine thn (T.done (br X N' scope cl fp s3 H3) rfl rfl rfl (fun z => z) _ [] s' σc Hc (fun _ _ => False) Ic (stat frc) tc (stop rfl)) fun r s4 ⟨hr, I5⟩ => ?_
        subst hr
        rw [List.take_length] at Sc Ec
        obtain ⟨m, hn, _⟩ := I5.loc
        refine ⟨m, (by have z : s4.heap.Ns s3.heap.objs.size m := hn; rw [heap3] at z; exact z), fun h' hs' => ?_⟩
        have kp : ∀ b o, b < s2.heap.objs.size → s4.heap.get? b = some o → h'.get? b = some o := fun b o hb e => hs'.extBut b o (by rw [hsz3]; exact Nat.ne_of_lt (Nat.lt_succ_of_lt hb)) e
        have hcC : Hc hp3.objs.size = none := by have z : Hc s3.heap.objs.size = none := I5.free; rw [heap3] at z; exact z
        have hok' : HOk X.prog X.w Hc h' := fun b ob e => by
          refine (I5.hok b ob e).tQ (fun cc v hcc q => hs'.extBut cc v ?_ q) (fun _ q => q) fun _ _ q => q
          rintro rfl
          rcases hcc with z | z
          · rw [← z, hcC] at e; cases e
          · rw [hcC] at z; cases z
        have u1 : Un (frs X.stack) fp H2 H3 s2.heap s3.heap := by rw [heap3, hH3]; exact Un.laid old3 (Nat.le_refl _) hfree2
        have u2 : Un (frs X.stack) fp H3 Hc s3.heap s4.heap := I5.base
        have If : Inv X pins σ Hc { s4 with heap := h' } := I2.yH (ch := fp) (by show s4.os = s2.os; have z : s4.os = s3.os := I5.os; rw [z, hs3]) (Un.after (u1.trans u2) kp) hok' I5.bare fun b hb => ⟨(f2 b hb).2.2.2.1, (f2 b hb).2.1, (f2 b hb).2.2.2.2.1, (f2 b hb).2.2.2.2.2⟩
        obtain ⟨us, hacc, rus⟩ := Sc.mu s2.heap.objs.size _ bC
        have shr : ∀ a, aE μ1 s2.heap.objs.size (xs.filterMap f) a = none → μ1 a = none := fun a e => by
          by_cases ha : a = s2.heap.objs.size
          · rw [ha]; exact hμ1
          · rw [cN ha] at e; exact e
        have eF : Ext X.K μ1 H2 μ1 Hc := ⟨Ec.keep, Ec.tb, fun _ ds q => ⟨ds, q⟩, fun _ q _ => q⟩
        have mF : bK X.K μ1 Hc := ⟨fun a ds q => by
          obtain ⟨ys, z1, z2⟩ := Sc.mu a ds (sub1 _ a ds q)
          exact ⟨ys, z1, z2.shrink shr⟩, Sc.mu.tab⟩
        exact ⟨.ref s2.heap.objs.size, Hc, If, rfl, k (.v (.list (xs.filterMap f))) _ μ1 Hc (e1.trans eF) ⟨mF, S1.rho.ext S1.mu eF⟩ (Rp.list hacc hμ1 (rus.shrink shr)) fin⟩
    · have z : b ≠ s2.heap.objs.size := Nat.ne_of_lt (fplt b hb)
      rw [hH3, bj z]
      exact (f2 b hb).1
    · have ex := mG (o := .lst []) (ds := []) S1.mu hfree2 hK2
      rw [hH3]
      exact ⟨S1.mu.mut .nil hfree2 hK2, (S1.rho.ext S1.mu ex).cap⟩
    · rw [hH3]
      exact mG (o := .lst []) (ds := []) S1.mu hfree2 hK2
  have envE : (br X N' scope cl fp s3 H3).env = compEnvC scope cl hp3.objs.size X.env := by show compEnvC scope cl s3.heap.objs.size X.env = _; rw [heap3]
  rw [envE] at loop
  exact codeAny_compStart_list loop (T.self X.A 0 _ _ _ (T.keep 0 _ _ st2 (fun b hb o e => kept3 b o (old3 b o e))) loop)
open PySem PySem.Spec PyProof.Rows
section
variable {X : Cx} {a b c : Expr} {ta tb tc : DTE} {pos : Pos}
noncomputable def AL (r r' : D → D → Mu → DK → Prop) (ta tb tc : DTE) : DTE := fun ρ μ Q => ta ρ μ fun x μ1 => tb ρ μ1 fun y μ2 => r x y μ2 fun z μ3 => match z with
  | .v (.bool k) => if k = true then tc ρ μ3 fun w μ4 => r' y w μ4 Q else Q (.v (.bool false)) μ3
  | _ => False
end
open PySem PySem.Spec PyProof.Rows
theorem qA {α : Type} {x : α} {xs : List α} : atI (x :: xs) 0 = some x := by unfold atI ixN; simp
theorem tO {α : Type} {x y : α} {xs : List α} : atI (x :: y :: xs) 1 = some y := by
  have h := kT (xs := x :: y :: xs) (j := 1) (v := y) rfl
  exact h
theorem u7 {α : Type} {x y z : α} {xs : List α} : atI (x :: y :: z :: xs) 2 = some z := by
  have h := kT (xs := x :: y :: z :: xs) (j := 2) (v := z) rfl
  exact h
theorem ya {α : Type} {x y z u : α} {xs : List α} : atI (x :: y :: z :: u :: xs) 3 = some u := by
  have h := kT (xs := x :: y :: z :: u :: xs) (j := 3) (v := u) rfl
  exact h
def Lq : D → D → Mu → DK → Prop := fun x y μ Q => match x, y with
  | .v (.int i), .v (.int j) => Q (.v (.int (i + j))) μ
  | .v (.tuple xs), .v (.tuple ys) => xs.length + ys.length ≤ 1000 ∧ Q (.v (.tuple (xs ++ ys))) μ
  | _, _ => o3 x y μ Q
section
variable {ρ : Rho} {μ : Mu} {Q : DK} {QT : Bool → Mu → Prop} {QA : List D → Mu → Prop} {QG : Rho → Mu → Prop} {QI : List PyData → Mu → Prop} {QO : Option Int → Mu → Prop} {Dd : qB} {ta tb tc : DTE} {t u : DTT} {tA : DTA} {s1 s2 : DTS} {i j : Int} {x y : PyData} {xs ys : List PyData} {d e : D}
noncomputable def cO : DTS := fun _ _ _ => False
theorem dP {X : Cx} {st : Stmt} : DS X st cO := ⟨fun _ _ _ => False, fun _ _ _ _ _ _ h => h.elim, fun _ _ _ _ _ _ _ h => h.elim⟩
theorem wD {o : Rho} : af 0 (some d :: o) μ Q = Q d μ := propext Iff.rfl
theorem wI {a} {o : Rho} : af 1 (a :: some d :: o) μ Q = Q d μ := propext Iff.rfl
theorem xE {a b} {o : Rho} : af 2 (a :: b :: some d :: o) μ Q = Q d μ := propext Iff.rfl
theorem sr {a b c} {o : Rho} : af 3 (a :: b :: c :: some d :: o) μ Q = Q d μ := propext Iff.rfl
theorem wa {a b c f} {o : Rho} : af 4 (a :: b :: c :: f :: some d :: o) μ Q = Q d μ := propext Iff.rfl
theorem wc {a b c f g} {o : Rho} : af 5 (a :: b :: c :: f :: g :: some d :: o) μ Q = Q d μ := propext Iff.rfl
theorem xq {a b c f g h} {o : Rho} : af 6 (a :: b :: c :: f :: g :: h :: some d :: o) μ Q = Q d μ := propext Iff.rfl
theorem wW {a b c f g h k} {o : Rho} : af 7 (a :: b :: c :: f :: g :: h :: k :: some d :: o) μ Q = Q d μ := propext Iff.rfl
theorem xA {a b c f g h k l} {o : Rho} : af 8 (a :: b :: c :: f :: g :: h :: k :: l :: some d :: o) μ Q = Q d μ := propext Iff.rfl
theorem vN {a b c f g h k l m} {o : Rho} : af 9 (a :: b :: c :: f :: g :: h :: k :: l :: m :: some d :: o) μ Q = Q d μ := propext Iff.rfl
theorem rk {a b c f g h k l m n} {o : Rho} : af 10 (a :: b :: c :: f :: g :: h :: k :: l :: m :: n :: some d :: o) μ Q = Q d μ := propext Iff.rfl
theorem q_c : dC x ρ μ Q = Q (.v x) μ := propext Iff.rfl
theorem KQ {r} : dOp r ta tb ρ μ Q = ta ρ μ fun x μ1 => tb ρ μ1 fun y μ2 => r x y μ2 Q := propext Iff.rfl
theorem q_B : dB ta ρ μ QT = ta ρ μ fun d μ1 => match d with | .v (.bool k) => QT k μ1 | _ => False := propext Iff.rfl
theorem Gm {C : Int → Int → Prop} {g : Int → Int → PyData} : rII C g (.v (.int i)) (.v (.int j)) μ Q = (C i j ∧ Q (.v (g i j)) μ) := propext Iff.rfl
theorem Bn {g : Int → Int → PyData} : uh g (.v (.int i)) (.v (.int j)) μ Q = Q (.v (g i j)) μ := propext Iff.rfl
theorem Bo : iA ta ρ μ Q = ta ρ μ fun x μ1 => match x with | .v (.int i) => Q (.v (.int (-i))) μ1 | _ => False := propext Iff.rfl
theorem CQ : kf t u ρ μ QT = t ρ μ fun c μ1 => if c = true then u ρ μ1 QT else QT false μ1 := propext Iff.rfl
theorem Kl : mM t u ρ μ QT = t ρ μ fun c μ1 => if c = true then QT true μ1 else u ρ μ1 QT := propext Iff.rfl
theorem xw : fA t ρ μ QT = t ρ μ fun c μ1 => QT (!c) μ1 := propext Iff.rfl
theorem IT : rK ta tb ρ μ Q = ta ρ μ fun x μ1 => match x with | .v (.bool c) => if c = true then tb ρ μ1 Q else Q (.v (.bool false)) μ1 | _ => False := propext Iff.rfl
theorem xu : EZ ta ρ μ Q = ta ρ μ fun x μ1 => match x with | .v (.bool c) => Q (.v (.bool (!c))) μ1 | _ => False := propext Iff.rfl
theorem vq : ao ρ μ QA = QA [] μ := propext Iff.rfl
theorem pj : ae ta tA ρ μ QA = ta ρ μ fun x μ1 => tA ρ μ1 fun xs μ2 => QA (x :: xs) μ2 := propext Iff.rfl
theorem yQ : dO tA ρ μ Q = tA ρ μ fun ds μ1 => match cI ds with | some xs => Q (.v (.tuple xs)) μ1 | none => False := propext Iff.rfl
theorem zi : je tA ρ μ Q = tA ρ μ fun ds μ1 => match cI ds with | some xs => Q (.v (.list xs)) μ1 | none => False := propext Iff.rfl
theorem wU : Bi tA ρ μ Q = tA ρ μ fun ds μ1 => match cI ds with | some xs => ∀ p, μ1 p = none → Q (.m p) (aE μ1 p xs) | none => False := propext Iff.rfl
theorem yF : cI [] = some [] := by rw [cI]
theorem yM {r : List D} : cI (.v x :: r) = (cI r).map (x :: ·) := by rw [cI]
theorem sP {neg : Bool} : bt neg (.v x) (.v y) μ Q = (SeqAt.shaped x = true ∧ SeqAt.shaped y = true ∧ Q (.v (.bool (neg ^^ PyData.eqv x y))) μ) := propext Iff.rfl
theorem yu {neg : Bool} : bt neg (.v (.int i)) (.v (.int j)) μ Q = Q (.v (.bool (neg ^^ decide (i = j)))) μ := by
  have e : PyData.eqv (.int i) (.int j) = decide (i = j) := by simp [PyData.eqv]; rfl
  rw [sP, e]
  exact propext ⟨fun h => h.2.2, fun h => ⟨rfl, rfl, h⟩⟩
theorem BR {neg : Bool} : bt neg (.v (.tuple xs)) (.v (.tuple ys)) μ Q = (SeqAt.shaped (.tuple xs) = true ∧ SeqAt.shaped (.tuple ys) = true ∧ Q (.v (.bool (neg ^^ PyData.eqv (.tuple xs) (.tuple ys)))) μ) := propext Iff.rfl
theorem Bx {neg : Bool} : zI neg (.v x) (.v (.list ys)) μ Q = (PyData.canLayAll0 ys = true ∧ x.canLay0 = true ∧ PyData.depth x ≤ 60 ∧ Q (.v (.bool (neg ^^ ys.any fun b => PyData.eqv b x))) μ) := propext Iff.rfl
theorem sF : dh (.v (.list xs)) (.v (.int i)) μ Q = (match atI xs i with | some d => Q (.v d) μ | none => False) := propext Iff.rfl
theorem qk : dh (.v (.tuple xs)) (.v (.int i)) μ Q = (match atI xs i with | some d => Q (.v d) μ | none => False) := propext Iff.rfl
theorem Bh {l : Addr} : dh (.m l) (.v (.int i)) μ Q = (match μ l with | some xs => (match atI xs i with | some d => Q (.v d) μ | none => False) | none => False) := propext Iff.rfl
theorem Bj {ns : List Int} : dh (.s ns) (.v (.int i)) μ Q = (match atI ns i with | some d => Q (.v (.int d)) μ | none => False) := propext Iff.rfl
theorem tm : dh (.v (.list (x :: xs))) (.v (.int 0)) μ Q = Q (.v x) μ := by rw [sF, qA]
theorem sg : dh (.v (.tuple (x :: xs))) (.v (.int 0)) μ Q = Q (.v x) μ := by rw [qk, qA]
theorem wZ {z} : dh (.v (.list (z :: x :: xs))) (.v (.int 1)) μ Q = Q (.v x) μ := by rw [sF, tO]
theorem tK {z} : dh (.v (.tuple (z :: x :: xs))) (.v (.int 1)) μ Q = Q (.v x) μ := by rw [qk, tO]
theorem xg {z w} : dh (.v (.list (z :: w :: x :: xs))) (.v (.int 2)) μ Q = Q (.v x) μ := by rw [sF, u7]
theorem tG {z w} : dh (.v (.tuple (z :: w :: x :: xs))) (.v (.int 2)) μ Q = Q (.v x) μ := by rw [qk, u7]
theorem vW {z w v} : dh (.v (.tuple (z :: w :: v :: x :: xs))) (.v (.int 3)) μ Q = Q (.v x) μ := by rw [qk, ya]
theorem AY : o3 d e μ Q = (match mU μ d, mU μ e with | some xs, some ys => xs.length + ys.length ≤ 1000 ∧ Q (.v (.list (xs ++ ys))) μ | _, _ => False) := propext Iff.rfl
theorem n6 : bE ρ μ QO = QO none μ := propext Iff.rfl
theorem xC : bB ta ρ μ QO = ta ρ μ fun x μ1 => match x with | .v (.int i) => QO (some i) μ1 | _ => False := propext Iff.rfl
theorem KC {rd} : dCB rd tA ρ μ Q = tA ρ μ fun ds μ1 => rd ds μ1 Q := propext Iff.rfl
theorem tL : ng [.v (.list ys)] μ Q = Q (.v (.int (ys.length : Nat))) μ := propext Iff.rfl
theorem xk : ng [.v (.tuple ys)] μ Q = Q (.v (.int (ys.length : Nat))) μ := propext Iff.rfl
theorem vB {ns : List Int} : ng [.s ns] μ Q = Q (.v (.int (ns.length : Nat))) μ := propext Iff.rfl
theorem BC : mP [.v (.int i)] μ Q = Q (.v (.int (i.natAbs : Nat))) μ := propext Iff.rfl
theorem Fm {g : Int → Int → Int} : xD g [.v (.int i), .v (.int j)] μ Q = Q (.v (.int (g i j))) μ := propext Iff.rfl
theorem xB {k : Bool} : uZ [.v (.bool k)] μ Q = Q (.v (.int (if k then 1 else 0))) μ := propext Iff.rfl
theorem Bt : mY [.v (.list ys)] μ Q = (match cM ys with | some bs => Q (.v (.bool (bs.all id))) μ | none => False) := propext Iff.rfl
theorem BQ {T : String} : qH T ta ρ μ Q = ta ρ μ fun x μ1 => match x with | .v d => Q (.v (.bool (isT T d))) μ1 | _ => False := propext Iff.rfl
theorem mH {n : Nat} : aj n d ρ μ QG = QG (ρ.set n (some d)) μ := propext Iff.rfl
theorem xr : fP [] ρ μ QG = QG ρ μ := propext Iff.rfl
theorem qO {g : DTG} {gs : rH} : aU g gs (x :: xs) ρ μ QG = g (.v x) ρ μ fun ρ1 μ1 => gs xs ρ1 μ1 QG := propext Iff.rfl
theorem wG {n : Nat} {gs : rH} : eR n gs (.v (.tuple xs)) ρ μ QG = (xs.length = n ∧ gs xs ρ μ QG) := propext Iff.rfl
theorem wK : AV ta tb d ρ μ QG = ta ρ μ fun o μ1 => tb ρ μ1 fun i μ2 => match o, i, d with
  | .m l, .v (.int k), .v x => (match μ2 l with
    | some xs => (match ixN xs.length k with
      | some j => QG ρ (aE μ2 l (xs.set j x))
      | none => False)
    | none => False)
  | _, _, _ => False := propext Iff.rfl
theorem Hi {g : DTG} : aP ta g Dd ρ μ = ta ρ μ fun d μ1 => g d ρ μ1 Dd.nx := propext Iff.rfl
theorem BK {i j : Nat} : xj i j tA Dd ρ μ = tA ρ μ fun ds μ1 => match ds with | [v, w] => Dd.nx ((ρ.set i (some v)).set j (some w)) μ1 | _ => False := propext Iff.rfl
theorem vG : aY Dd ρ μ = Dd.nx ρ μ := propext Iff.rfl
theorem tW : aG s1 s2 Dd ρ μ = s1 { Dd with nx := s2 Dd } ρ μ := propext Iff.rfl
theorem yW : bJ ta Dd ρ μ = ta ρ μ Dd.rt := propext Iff.rfl
theorem xH : A6 ta Dd ρ μ = ta ρ μ fun _ μ1 => Dd.nx ρ μ1 := propext Iff.rfl
theorem Ho : bH t s1 s2 Dd ρ μ = t ρ μ fun b μ1 => if b = true then s1 Dd ρ μ1 else s2 Dd ρ μ1 := propext Iff.rfl
theorem qW : cO Dd ρ μ = False := propext Iff.rfl
theorem JC {dsp : DSp} : ay dsp tA ρ μ Q = tA ρ μ fun ds μ1 => dsp ds μ1 Q := propext Iff.rfl
theorem By : Ja ta tb ρ μ Q = ta ρ μ fun x μ1 => match x with
  | .m l => tb ρ μ1 fun y μ2 => (match y, μ2 l with
    | .v d, some xs => xs.length < 1000 ∧ Q (.v .none) (aE μ2 l (xs ++ [d]))
    | _, _ => False)
  | _ => False := propext Iff.rfl
theorem Bm : KU ta tb ρ μ Q = ta ρ μ fun x μ1 => match x with
  | .m l => tb ρ μ1 fun y μ2 => (match y, μ2 l with
    | .v (.list ys), some xs => xs.length + ys.length ≤ 1000 ∧ Q (.v .none) (aE μ2 l (xs ++ ys))
    | _, _ => False)
  | _ => False := propext Iff.rfl
theorem xo : oQ ρ μ QT = QT true μ := propext Iff.rfl
theorem oG : sJ ta ρ μ QI = ta ρ μ fun d μ1 => match d with | .v (.list xs) => QI xs μ1 | _ => False := propext Iff.rfl
theorem rh : Fg ta ρ μ QI = ta ρ μ fun d μ1 => match d with | .v (.tuple xs) => QI xs μ1 | _ => False := propext Iff.rfl
theorem oH : qc tA ρ μ QI = tA ρ μ fun ds μ1 => match ds with | [.v (.int j)] => (-(2 ^ 62) ≤ j ∧ j < 2 ^ 62) ∧ QI (nQ 0 j.toNat) μ1 | _ => False := propext Iff.rfl
theorem pd : Ap tA ρ μ QI = tA ρ μ fun ds μ1 => match ds with | [.v (.int i), .v (.int j)] => (-(2 ^ 62) ≤ i ∧ i < 2 ^ 62 ∧ -(2 ^ 62) ≤ j ∧ j < 2 ^ 62) ∧ QI (nQ i (j - i).toNat) μ1 | _ => False := propext Iff.rfl
theorem Bp {src : DTI} {g : DTG} : Ct src g s1 Dd ρ μ = src ρ μ fun xs μ1 => ∃ Pv : Nat → Rho → Mu → Prop, Pv 0 ρ μ1 ∧
  (∀ i x ρ' μ', xs[i]? = some x → Pv i ρ' μ' → g (.v x) ρ' μ' fun ρ2 μ2 => s1 { Dd with nx := Pv (i + 1), ct := Pv (i + 1), bk := Dd.nx } ρ2 μ2) ∧ (∀ ρ' μ', Pv xs.length ρ' μ' → Dd.nx ρ' μ') := propext Iff.rfl
theorem Av {cap : List (Option Nat)} {src : DTI} {g : DTG} : sN cap src g t ta ρ μ Q = src ρ μ fun xs μ1 => xs.length ≤ 1000 ∧ ∃ f : PyData → Option PyData,
  (∀ x ∈ xs, ∀ μ' : Mu, (∀ a ds, μ1 a = some ds → μ' a = some ds) → g (.v x) (cq cap ρ) μ' fun ρ2 μ2 => Le (cq cap ρ) ρ2 ∧ t ρ2 μ2 fun b μ3 =>
    if b = true then ta ρ2 μ3 fun d μ4 => μ4 = μ' ∧ (match d with | .v y => f x = some y | _ => False) else μ3 = μ' ∧ f x = none) ∧ Q (.v (.list (xs.filterMap f))) μ1 := propext Iff.rfl
theorem xi {α : Type} {r : List (Option α)} : cq [] r = [] := rfl
theorem vY {α : Type} {o : Option Nat} {c : List (Option Nat)} {r : List (Option α)} : cq (o :: c) r = (o.bind fun j => (r[j]?).join) :: cq c r := rfl
theorem BG : Le [] [] = True := propext ⟨fun _ => trivial, fun h => h⟩
theorem BJ {r r' : Rho} {o : Option D} : Le (none :: r) (o :: r') = Le r r' := propext Iff.rfl
theorem BS {r r' : Rho} {d d' : D} : Le (some d :: r) (some d' :: r') = (d = d' ∧ Le r r') := propext Iff.rfl
theorem ju {α : Type} (p : α → Bool) : ∀ xs : List α, cM (xs.map fun x => PyData.bool (p x)) = some (xs.map p)
  | [] => rfl
  | x :: r => by rw [List.map_cons, cM, ju p r]; rfl
theorem BL {α β : Type} (p : α → β) : ∀ xs : List α, xs.filterMap (fun x => some (p x)) = xs.map p
  | [] => rfl
  | x :: r => by rw [List.filterMap_cons, BL p r]; rfl
theorem G0 : tD t s1 Dd ρ μ = (∃ W : Nat → Rho → Mu → Prop, (∃ m, W m ρ μ) ∧ ∀ m ρ μ, W m ρ μ →
  t ρ μ fun b μ1 => if b = true then s1 { Dd with nx := fun ρ' μ' => ∃ m', m' < m ∧ W m' ρ' μ', ct := fun ρ' μ' => ∃ m', m' < m ∧ W m' ρ' μ', bk := Dd.nx } ρ μ1 else Dd.nx ρ μ1) := propext Iff.rfl
end
theorem Fh {α β : Type} [BEq α] [LawfulBEq α] {x : α} {k : β} : ∀ {l : List (α × β)}, l.lookup x = some k → (x, k) ∈ l
  | [], h => by cases h
  | (y, j) :: r, h => by
    rw [List.lookup_cons] at h
    cases e : x == y with
    | true =>
      rw [e] at h
      simp only [Option.some.injEq] at h
      have : x = y := eq_of_beq e
      subst this h
      exact List.mem_cons_self
    | false =>
      rw [e] at h
      exact List.mem_cons_of_mem _ (Fh h)
def cfK : NameKind → Bool
  | .cell => true
  | .free => true
  | _ => false
theorem jV {names : List (Str × NameKind)} {cl : List (Str × Addr)} (h : (names.all fun y => !(cfK y.2) || (cl.lookup y.1).isSome) = true) (x : Str) (hx : names.lookup x = some .cell ∨ names.lookup x = some .free) : ∃ a, cl.lookup x = some a := by
  rw [List.all_eq_true] at h
  have key : ∀ k, cfK k = true → names.lookup x = some k → ∃ a, cl.lookup x = some a := fun k hk e => by
    have q := h _ (Fh e)
    simp only [hk, Bool.not_true, Bool.false_or] at q
    exact Option.isSome_iff_exists.mp q
  rcases hx with e | e
  · exact key _ rfl e
  · exact key _ rfl e
def ER (X : Cx) (sc : Scope) : List (Option Nat) → List Str → Prop
  | none :: c, _ :: n => ER X sc c n
  | some j :: c, x :: n => (X.N[j]? = some x ∧ Vis X.env.scope x ∧ X.env.kindOf x ≠ some .local ∧ ((relabel sc X.env).names.lookup x = some .cell ∨ (relabel sc X.env).names.lookup x = some .free)) ∧ ER X sc c n
  | _, _ => True
theorem kW {X : Cx} {sc : Scope} : ∀ {c : List (Option Nat)} {n : List Str}, ER X sc c n → ∀ (i j : Nat) (x : Str), c[i]? = some (some j) → n[i]? = some x →
    X.N[j]? = some x ∧ Vis X.env.scope x ∧ X.env.kindOf x ≠ some .local ∧ ((relabel sc X.env).names.lookup x = some .cell ∨ (relabel sc X.env).names.lookup x = some .free)
  | [], _, _, i, j, x, h, _ => by simp at h
  | _ :: _, [], _, i, j, x, _, h => by simp at h
  | none :: c, y :: n, k, 0, j, x, h, _ => by simp at h
  | none :: c, y :: n, k, i + 1, j, x, h, g => kW (c := c) (n := n) k i j x (by simpa using h) (by simpa using g)
  | some l :: c, y :: n, k, 0, j, x, h, g => by
    simp only [List.getElem?_cons_zero, Option.some.injEq] at h g
    subst h g
    exact k.1
  | some l :: c, y :: n, k, i + 1, j, x, h, g => kW (c := c) (n := n) k.2 i j x (by simpa using h) (by simpa using g)
theorem Kh {X : Cx} {sc : Scope} {j : Nat} {x : Str} (h1 : X.N[j]? = some x := by rfl) (h2 : Vis X.env.scope x := by first | exact Or.inl rfl | exact Or.inr (Or.inl rfl) | exact Or.inr (Or.inr rfl)) (h3 : X.env.kindOf x ≠ some .local := by first | (intro z; cases z) | exact (fun z => nomatch z))
    (h4 : (relabel sc X.env).names.lookup x = some .cell ∨ (relabel sc X.env).names.lookup x = some .free := by first | exact Or.inl rfl | exact Or.inr rfl) : X.N[j]? = some x ∧ Vis X.env.scope x ∧ X.env.kindOf x ≠ some .local ∧ ((relabel sc X.env).names.lookup x = some .cell ∨ (relabel sc X.env).names.lookup x = some .free) := ⟨h1, h2, h3, h4⟩
open PySem PySem.Spec PyProof.Rows
def gZ (μ : Mu) (p : Addr) : Mu := fun b => if b = p then none else μ b
theorem C1 {μ : Mu} {p b : Addr} (h : b ≠ p) : gZ μ p b = μ b := by unfold gZ; rw [if_neg h]
noncomputable def kF (cap : List (Option Nat)) (src : DTI) (g : DTG) (c : DTT) (elt : DTE) : DTE := fun ρ μ Q => src ρ μ fun xs μ1 => xs.length ≤ 1000 ∧ ∀ p, μ1 p = none → ∃ Pv : Nat → List PyData → Mu → Prop, Pv 0 [] (aE μ1 p []) ∧
  (∀ i x acc μ', xs[i]? = some x → μ' p = some acc → Pv i acc μ' → g (.v x) (cq cap ρ) μ' fun ρ2 μ2 => Le (cq cap ρ) ρ2 ∧ c ρ2 μ2 fun b μ3 =>
    if b = true then elt ρ2 μ3 fun d μ4 => μ4 p = some acc ∧ (match d with | .v y => Pv (i + 1) (acc ++ [y]) (aE μ4 p (acc ++ [y])) | _ => False) else μ3 p = some acc ∧ Pv (i + 1) acc μ3) ∧
  (∀ acc μ', Pv xs.length acc μ' → μ' p = some acc → Q (.v (.list acc)) (gZ μ' p))
theorem vd {X : Cx} {pos2 : Pos} {use : Option (Value → Sem Unit)} {QQ : Value → Shared → Prop} {pins : List (Addr × Obj)} {s : Shared} {σ : St} {H : Hp} {ρ : Rho} {μ : Mu} {Qd : DK} {N' : List Str} {scope : Scope} {cl : List (Str × Addr)} {elt iter tg : Expr} {ifs : List Expr} {pos : Pos} {cap : List (Option Nat)} {src : DTI} {g : DTG} {c : DTT} {te : DTE} (hc : X.calm = X.calm)
    (hi : DI X tg iter src) (hg : ∀ fp s₃ H₃, DG (br X N' scope cl fp s₃ H₃) tg g) (hif : ∀ fp s₃ H₃, B5 (br X N' scope cl fp s₃ H₃) ifs c) (he : ∀ fp s₃ H₃, DE (br X N' scope cl fp s₃ H₃) elt te)
    (hclos : closureFor scope X.env = pure cl) (hcell : ∀ y ∈ scope.names, y.2 ≠ .cell) (hkind : scope.kind = .function) (hnames : ∀ y ∈ scope.names, y.2 = .local → scope.names.lookup y.1 = some .local)
    (hcl : ∀ x a, cl.lookup x = some a → X.env.cells.lookup x = some a) (hhas : ∀ x, (relabel scope X.env).names.lookup x = some .cell ∨ (relabel scope X.env).names.lookup x = some .free → ∃ a, cl.lookup x = some a)
    (hlen : cap.length = N'.length) (hcap : ∀ (i j : Nat) (x : Str), cap[i]? = some (some j) → N'[i]? = some x → X.N[j]? = some x ∧ Vis X.env.scope x ∧ X.env.kindOf x ≠ some .local ∧ ((relabel scope X.env).names.lookup x = some .cell ∨ (relabel scope X.env).names.lookup x = some .free))
    (hs : ∀ x, foldedSetIterable iter X.env x = pure x )
    (I : Inv X pins σ H s) (S : St0 X.K H ρ μ σ) (h : kF cap src g c te ρ μ Qd)
    (hend : ∀ (s4 : Shared) (Hc : Hp) (C pa : Addr) (m : Str → Option Value) (acc : List PyData) (μF : Mu), s4.heap.Ns C m → wj X pins Hc C → (∀ h', Heap.SameBut C s4.heap h' → Inv X pins σ Hc { s4 with heap := h' }) →
      Ext X.K μ H μF Hc → St0 X.K Hc ρ μF σ → Rp X.K μF Hc (.list acc) (.ref pa) → Qd (.v (.list acc)) μF → compPost (model X.prog X.w) X.A X.xe use QQ (.ref pa) C (.ok .next) s4) :
    wpAny (model X.prog X.w) X.A (comprehension (.ListComp elt [⟨tg, iter, ifs, 0⟩] scope pos) scope X.env pos2 (newList []) false (eval iter X.env) use) QQ X.xe s := by
  obtain ⟨wi, pw, li⟩ := hi
  refine wpAny_comprehension_free rfl hs hclos hkind hnames (thn (pw pins s σ H _ I (li σ H ρ μ _ (fun J H1 => ∃ xs μ1, Ext X.K μ H μ1 H1 ∧ St0 X.K H1 ρ μ1 σ ∧ Gj X.K J xs μ1 H1 ∧ xs.length ≤ 1000 ∧ ∀ p, μ1 p = none → ∃ Pv : Nat → List PyData → Mu → Prop, Pv 0 [] (aE μ1 p []) ∧
      (∀ i x acc μ', xs[i]? = some x → μ' p = some acc → Pv i acc μ' → g (.v x) (cq cap ρ) μ' fun ρ2 μ2 => Le (cq cap ρ) ρ2 ∧ c ρ2 μ2 fun b μ3 =>
        if b = true then te ρ2 μ3 fun d μ4 => μ4 p = some acc ∧ (match d with | .v y => Pv (i + 1) (acc ++ [y]) (aE μ4 p (acc ++ [y])) | _ => False) else μ3 p = some acc ∧ Pv (i + 1) acc μ3) ∧
      (∀ acc μ', Pv xs.length acc μ' → μ' p = some acc → Qd (.v (.list acc)) (gZ μ' p))) S h (fun xs μ1 H1 J e1 S1 it q => ⟨xs, μ1, e1, S1, it, q⟩)))
    fun v s1 h1 => thn h1 fun itv s2 h2 => ?_)
  obtain ⟨it, fp, tn, J, H2, rfl, I2, T, st2, f2, xs, μ1, e1, S1, itok, hxs, allp⟩ := h2
  refine wpAny_newObj_type (wpAny_newFunctionEnv hcell (by intro y hy; simp at hy) (fun h₁ hns₁ hsb₁ => ?_) hkind)
  dsimp only at hns₁ hsb₁ ⊢
  have hfree2 : H2 s2.heap.objs.size = none := I2.hok.fresh (Nat.le_refl _)
  have hK2 : X.K.lookup s2.heap.objs.size = none := by
    cases z : X.K.lookup s2.heap.objs.size with
    | none => rfl
    | some o => exact absurd (Heap.lt_size (I2.kIn _ _ z)) (Nat.lt_irrefl _)
  have I3 : Inv X pins σ (upd H2 s2.heap.objs.size (.lst [])) { s2 with heap := s2.heap.push { cls := .type "list", dict := none, data := .seq ([] : List Value).toArray } } :=
    I2.laid (t' := s2.toks) (fun b u e => Heap.get?_push_of_some _ e) (Nat.le_refl _) ⟨Nat.zero_le _, [], 0, .nil, Heap.get?_push_size _ rfl⟩
  generalize hH : s2.heap.push { cls := .type "list", dict := none, data := .seq ([] : List Value).toArray } = hp3 at hns₁ hsb₁ I3 ⊢
  have hsz3 : hp3.objs.size = s2.heap.objs.size + 1 := by rw [← hH, Heap.size_push]
  have kept3 : ∀ b o, hp3.get? b = some o → h₁.get? b = some o := fun b o e => hsb₁.extBut b o (Nat.ne_of_lt (Heap.lt_size e)) (Heap.get?_push_of_some _ e)
  have old3 : ∀ b o, s2.heap.get? b = some o → hp3.get? b = some o := fun b o e => by rw [← hH]; exact Heap.get?_push_of_some _ e
  have fplt : ∀ b ∈ fp, b < s2.heap.objs.size := fun b hb => by obtain ⟨o, e, _⟩ := T.obj 0 _ st2 b hb; exact Heap.lt_size e
  have fpst : ∀ b ∈ fp, b ∉ frs X.stack := fun b hb hz => by
    rcases List.mem_cons.mp (I2.pK b hz) with e | e
    · exact (f2 b hb).2.1 e
    · exact (f2 b hb).2.2.1 e
  obtain ⟨s3, hs3⟩ : ∃ s3 : Shared, s3 = { s2 with heap := hp3 } := ⟨_, rfl⟩
  obtain ⟨H3, hH3⟩ : ∃ H3 : Hp, H3 = upd H2 s2.heap.objs.size (.lst []) := ⟨_, rfl⟩
  have heap3 : s3.heap = hp3 := by rw [hs3]
  rw [← hH3] at I3
  have I3' : Inv X pins σ H3 s3 := by rw [hs3]; exact I3
  have hloc : H3 hp3.objs.size = none := by have := I3'.hok.fresh (a := hp3.objs.size) (by rw [heap3]; exact Nat.le_refl _); exact this
  have okc : (br X N' scope cl fp s3 H3).Ok := by
    refine ⟨I3.ok.mod, ?_, I3.ok.glob, I3.ok.blt, Nat.le_refl _, fun x y a h1 h2 => I3.ok.inj x y a (hcl x a h1) (hcl y a h2), fun x hx => hhas x hx, fun x a h => (nomatch h), I3.ok.hd, I3.ok.qt, I3.ok.frames, .inl rfl, fun b hb => ⟨?_, fun x a h => (f2 b hb).2.2.2.2.1 x a (hcl x a h)⟩,
      I3'.bs, Nat.le_trans I3.ok.bsz I3'.sz, fun b o e hb => ?_, fun b hb => fpst b hb, I3'.stack, I3'.qV⟩
    · exact hkind
    · show b ≠ s3.heap.objs.size
      rw [heap3, hsz3]
      exact Nat.ne_of_lt (Nat.lt_succ_of_lt (fplt b hb))
    · rcases (f2 b hb).2.2.2.1 with z | z
      · exact I3.ok.Ag b o e z
      · exact absurd (Nat.lt_of_lt_of_le (Heap.lt_size (I3.ok.bs b o e).1) z) (Nat.lt_irrefl _)
  have I4 : Inv (br X N' scope cl fp s3 H3) [] (cq cap σ) H3 { s2 with heap := h₁, toks := s2.toks + ([] : List (Str × Value)).length } := by
    refine ⟨okc, by show s2.os = s3.os; rw [hs3], I3.bare, Un.kept (by show ∀ b o, s3.heap.get? b = some o → _; rw [heap3]; exact kept3), ⟨_, (by show h₁.Ns s3.heap.objs.size _; rw [heap3]; exact hns₁), fun i x v e1 e2 e3 => ?_⟩, fun x a h => ?_, (by show H3 s3.heap.objs.size = none; rw [heap3]; exact hloc), fun x a h => I3.ik x a (hcl x a h), fun p hp => ?_, I3.hok.kept kept3, ?_⟩
    · obtain ⟨j, h1, h2⟩ := o7 e2
      obtain ⟨hN, hv, hnl, hk⟩ := hcap i j x h1 e1
      obtain ⟨m, _, hl⟩ := I3.loc
      obtain ⟨u, r, lk⟩ := hl j x v hN h2 hv
      refine ⟨u, r, .inr ⟨hk, ?_⟩⟩
      obtain ⟨a, ha⟩ := hhas x hk
      rcases lk with ⟨z, _⟩ | ⟨_, a', z1, z2⟩
      · exact absurd z hnl
      · have : a' = a := by have q := hcl x a ha; rw [z1] at q; exact Option.some.inj q
        subst this
        obtain ⟨o, ho, hd⟩ := z2
        exact ⟨a', ha, o, kept3 _ _ ho, hd⟩
    · obtain ⟨v, o, ho, hd⟩ := I3.cell x a (hcl x a h)
      exact ⟨v, o, kept3 _ _ ho, hd⟩
    · have hp' : p ∈ X.pn ++ pins := List.mem_append_left _ (by simpa using (show p ∈ X.pn ++ [] from hp))
      obtain ⟨z1, z2, z3, z4, z5⟩ := I3'.pin p hp'
      refine ⟨kept3 _ _ (by rw [← heap3]; exact z1), z2, (show p.1 ≠ s3.heap.objs.size from Nat.ne_of_lt (Heap.lt_size z1)), fun z => ?_, z5⟩
      rcases List.mem_cons.mp (I3'.pK p.1 z) with e | e
      · exact z3 e
      · exact z4 e
    · show (cq cap σ).length = N'.length
      unfold cq
      rw [List.length_map]
      exact hlen
  have hμ1 : μ1 s2.heap.objs.size = none := S1.mu.free hfree2
  obtain ⟨Pv, pv0, body, fin⟩ := allp s2.heap.objs.size hμ1
  have loop : codeAny (model X.prog X.w) X.A (.compLoop (.ListComp elt [⟨tg, iter, ifs, 0⟩] scope pos) 0 (.ref it) (.ref s2.heap.objs.size) (br X N' scope cl fp s3 H3).env)
      (compPost (model X.prog X.w) X.A X.xe use QQ (.ref s2.heap.objs.size) hp3.objs.size) { s2 with heap := h₁, toks := s2.toks + ([] : List (Str × Value)).length } := by
    refine jt (fun n s' => ∃ (i : Nat) (σc : St) (Hc : Hp) (acc : List PyData) (μc : Mu), n = xs.length - i ∧ i ≤ xs.length ∧ Inv (br X N' scope cl fp s3 H3) [] σc Hc s' ∧ tn i s'.heap ∧ (∀ b ∈ fp, Hc b = none) ∧
      acc.length ≤ i ∧ μc s2.heap.objs.size = some acc ∧ Pv i acc μc ∧ St0 X.K Hc (cq cap ρ) μc σc ∧ Ext X.K μ1 H2 μc Hc) ?_ xs.length
      ⟨0, cq cap σ, H3, [], aE μ1 s2.heap.objs.size [], by simp, Nat.zero_le _, I4, T.keep 0 _ _ st2 (fun b hb o e => kept3 b o (old3 b o e)), fun b hb => ?_, Nat.le_refl _, bC, pv0, ?_, ?_⟩
    · rintro n s' ⟨i, σc, Hc, acc, μc, rfl, hi, Ic, tc, frc, hal, hpa, pvi, Sc, Ec⟩
      have stat : ∀ {Hd : Hp}, (∀ b ∈ fp, Hd b = none) → ∀ b ∈ fp, wj (br X N' scope cl fp s3 H3) [] Hd b := fun hn b hb =>
        ⟨hn b hb, (okc.exf b hb).1, fpst b hb, .inl hb, fun x a h => (okc.exf b hb).2 x a h, fun p hp => (f2 b hb).2.2.2.2.2 p (List.mem_append_left _ (by simpa using (show p ∈ X.pn ++ [] from hp)))⟩
      obtain ⟨go, stop⟩ := itok _ Hc Ec Sc.mu i
      by_cases hlt : i < xs.length
      · obtain ⟨g1, y1⟩ := go hlt
        refine thn (T.item (br X N' scope cl fp s3 H3) rfl rfl rfl (fun z => z) i [] s' σc Hc (fun _ _ => False) Ic (stat frc) tc g1) fun r s4 ⟨u, hr, h4⟩ => ?_
        subst hr
        refine thn h4 fun _ s5 ⟨x, H5, I5, r5, y5, st5, fr5⟩ => ?_
        obtain ⟨d, hd, sm, rd⟩ := y1 x H5 y5
        have I5' := I5.pinned (stat fr5) (T.obj _ _ st5)
        have e5 : Ext X.K _ Hc _ H5 := .of_same (μ := μc) sm
        have S5 : St0 X.K H5 (cq cap ρ) μc σc := ⟨Sc.mu.GX e5 sm, Sc.rho.ext Sc.mu e5⟩
        obtain ⟨gt, pg, lg⟩ := hg fp s3 H3
        refine thn (pg _ s5 σc H5 x u (fun σ' H' => ∃ ρ' μ', Ext X.K μc H5 μ' H' ∧ St0 X.K H' ρ' μ' σ' ∧ Le (cq cap ρ) ρ' ∧ c ρ' μ' fun b μ3 =>
            if b = true then te ρ' μ3 fun d' μ4 => μ4 s2.heap.objs.size = some acc ∧ (match d' with | .v y => Pv (i + 1) (acc ++ [y]) (aE μ4 s2.heap.objs.size (acc ++ [y])) | _ => False) else μ3 s2.heap.objs.size = some acc ∧ Pv (i + 1) acc μ3) I5' r5
          (lg σc H5 (cq cap ρ) _ (.v d) x _ _ S5 rd (body i d acc μc hd hpa pvi) fun σ' ρ' μ' H' e' S' q => ⟨ρ', μ', e', S', q⟩)) fun _ s6 ⟨σ6, H6, I6, ρ6, μ6, e6, S6, le6, q6⟩ => ?_
        refine thn (hif fp s3 H3 _ s6 σ6 H6 ρ6 μ6 _ (fun b H' => ∃ μ', Ext X.K μ6 H6 μ' H' ∧ St0 X.K H' ρ6 μ' σ6 ∧ if b = true then te ρ6 μ' fun d' μ4 => μ4 s2.heap.objs.size = some acc ∧ (match d' with | .v y => Pv (i + 1) (acc ++ [y]) (aE μ4 s2.heap.objs.size (acc ++ [y])) | _ => False) else μ' s2.heap.objs.size = some acc ∧ Pv (i + 1) acc μ')
          I6 S6 q6 fun b μ' H' e' S' q => ⟨μ', e', S', q⟩) fun b s7 ⟨H7, I7, μ7, e7, S7, q7⟩ => ?_
        have again : ∀ {H9 : Hp} {s9 : Shared} {acc' : List PyData} {μ9 : Mu}, Inv (br X N' scope cl fp s3 H3) ([] ++ pD fp s5.heap) σ6 H9 s9 → acc'.length ≤ i + 1 → μ9 s2.heap.objs.size = some acc' → Pv (i + 1) acc' μ9 → bK X.K μ9 H9 → iq X.K μ9 H9 (cq cap ρ) σ6 →
            Ext X.K μ1 H2 μ9 H9 → ∃ m, m < xs.length - i ∧ ∃ (i : Nat) (σc : St) (Hc : Hp) (acc : List PyData) (μc : Mu), m = xs.length - i ∧ i ≤ xs.length ∧ Inv (br X N' scope cl fp s3 H3) [] σc Hc s9 ∧ tn i s9.heap ∧ (∀ b ∈ fp, Hc b = none) ∧
              acc.length ≤ i ∧ μc s2.heap.objs.size = some acc ∧ Pv i acc μc ∧ St0 X.K Hc (cq cap ρ) μc σc ∧ Ext X.K μ1 H2 μc Hc := fun {H9 s9 acc' μ9} I9 l9 p9 v9 m9 r9 e9 => by
          refine ⟨xs.length - (i + 1), by omega, i + 1, σ6, H9, acc', μ9, rfl, hlt, I9.j9, T.keep _ _ _ st5 fun b hb o e => (I9.pin (b, o) (List.mem_append_right _ (List.mem_append_right _ (eV hb e)))).1, fun b hb => ?_, l9, p9, v9, ⟨m9, r9⟩, e9⟩
          obtain ⟨o, e, _⟩ := T.obj _ _ st5 b hb
          exact (I9.pin (b, o) (List.mem_append_right _ (List.mem_append_right _ (eV hb e)))).2.1
        cases b with
        | false =>
          have q8 : μ7 s2.heap.objs.size = some acc ∧ Pv (i + 1) acc μ7 := by simpa using q7
          refine rX ?_
          exact again I7 (by omega) q8.1 q8.2 S7.mu (S7.rho.le le6) (Ec.trans (e5.trans (e6.trans e7)))
        | true =>
          refine rN ?_
          obtain ⟨t8, p8, l8⟩ := he fp s3 H3
          refine thn (p8 _ s7 σ6 H7 (fun v H' => ∃ y μ8, Ext X.K μ7 H7 μ8 H' ∧ St0 X.K H' ρ6 μ8 σ6 ∧ Rp X.K μ8 H' y v ∧ μ8 s2.heap.objs.size = some acc ∧ Pv (i + 1) (acc ++ [y]) (aE μ8 s2.heap.objs.size (acc ++ [y]))) I7
            (l8 σ6 H7 ρ6 μ7 _ _ S7 (by simpa using q7) fun d' v μ8 H8 e8 S8 r8 q8 => ?_)) fun v s8 ⟨v8, H8, I8, r8, y, μ8, e8, S8, ry, pa8, fy⟩ => ?_
          · obtain ⟨q80, q8⟩ := q8
            cases d' with
            | v y => exact ⟨y, μ8, e8, S8, r8, q80, q8⟩
            | m _ => exact q8.elim
            | s _ => exact q8.elim
            | o _ => exact q8.elim
            | q _ => exact q8.elim
          · obtain ⟨us, hacc, rus⟩ := S8.mu s2.heap.objs.size _ pa8
            have hle : acc.length ≤ 1000 := by omega
            refine thn (qf (X := br X N' scope cl fp s3 H3) _ s8 σ6 H8 (.ref s2.heap.objs.size) [v8] (.ref s2.heap.objs.size) [v] (fun _ H' => H' = upd H8 s2.heap.objs.size (.lst (us ++ [v8]))) I8 rfl (.cons r8 .nil) ⟨_, us, v8, rfl, rfl, hacc, by rw [← rus.length]; exact gD hle, rfl⟩) fun _ s9 ⟨_, H9, I9, _, e9⟩ => ?_
            subst e9
            have ex : Ext X.K μ8 H8 (aE μ8 s2.heap.objs.size (acc ++ [y])) (upd H8 s2.heap.objs.size (.lst (us ++ [v8]))) := mC pa8
            exact again I9 (by rw [List.length_append, List.length_singleton]; omega) bC fy (S8.mu.set pa8 (rus.append (.cons ry .nil))) ((S8.rho.le le6).ext S8.mu ex) (Ec.trans (e5.trans (e6.trans (e7.trans (e8.trans ex)))))
      · have ei : i = xs.length := by omega
        subst ei
        refine thn (T.done (br X N' scope cl fp s3 H3) rfl rfl rfl (fun z => z) _ [] s' σc Hc (fun _ _ => False) Ic (stat frc) tc (stop rfl)) fun r s4 ⟨hr, I5⟩ => ?_
        subst hr
        obtain ⟨m, hn, _⟩ := I5.loc
        have hcC : Hc hp3.objs.size = none := by have z : Hc s3.heap.objs.size = none := I5.free; rw [heap3] at z; exact z
        obtain ⟨us, hacc, rus⟩ := Sc.mu s2.heap.objs.size _ hpa
        have shr : ∀ a, μc a = none → gZ μc s2.heap.objs.size a = none := fun a e => by
          unfold gZ
          split
          · rfl
          · exact e
        have dne : ∀ a ds, gZ μc s2.heap.objs.size a = some ds → μc a = some ds := fun a ds e => by
          unfold gZ at e
          split at e
          · cases e
          · exact e
        have eF : Ext X.K μ1 H2 (gZ μc s2.heap.objs.size) Hc := by
          refine ⟨Ec.keep, Ec.tb, fun b ds q => ?_, fun b q z => shr b (Ec.fresh b q z)⟩
          obtain ⟨es, q2⟩ := Ec.dom b ds q
          have : b ≠ s2.heap.objs.size := fun z => by rw [z, hμ1] at q; cases q
          exact ⟨es, by unfold gZ; rw [if_neg this]; exact q2⟩
        have mF : bK X.K (gZ μc s2.heap.objs.size) Hc := ⟨fun a ds q => by
          obtain ⟨ys, z1, z2⟩ := Sc.mu a ds (dne a ds q)
          exact ⟨ys, z1, z2.shrink shr⟩, Sc.mu.tab⟩
        refine hend s4 Hc hp3.objs.size s2.heap.objs.size m acc (gZ μc s2.heap.objs.size) (by have z : s4.heap.Ns s3.heap.objs.size m := hn; rw [heap3] at z; exact z) (I2.E5 (by rw [hsz3]; exact Nat.le_succ _) hcC) (fun h' hs' => ?_) (e1.trans eF) ⟨mF, S1.rho.ext S1.mu eF⟩ (Rp.list hacc (by unfold gZ; rw [if_pos rfl]) (rus.shrink shr)) (fin acc μc pvi hpa)
        have kp : ∀ b o, b < s2.heap.objs.size → s4.heap.get? b = some o → h'.get? b = some o := fun b o hb e => hs'.extBut b o (by rw [hsz3]; exact Nat.ne_of_lt (Nat.lt_succ_of_lt hb)) e
        have hok' : HOk X.prog X.w Hc h' := fun b ob e => by
          refine (I5.hok b ob e).tQ (fun cc v hcc q => hs'.extBut cc v ?_ q) (fun _ q => q) fun _ _ q => q
          rintro rfl
          rcases hcc with z | z
          · rw [← z, hcC] at e; cases e
          · rw [hcC] at z; cases z
        have u1 : Un (frs X.stack) fp H2 H3 s2.heap s3.heap := by rw [heap3, hH3]; exact Un.laid old3 (Nat.le_refl _) hfree2
        have u2 : Un (frs X.stack) fp H3 Hc s3.heap s4.heap := I5.base
        exact I2.yH (ch := fp) (by show s4.os = s2.os; have z : s4.os = s3.os := I5.os; rw [z, hs3]) (Un.after (u1.trans u2) kp) hok' I5.bare fun b hb => ⟨(f2 b hb).2.2.2.1, (f2 b hb).2.1, (f2 b hb).2.2.2.2.1, (f2 b hb).2.2.2.2.2⟩
    · have z : b ≠ s2.heap.objs.size := Nat.ne_of_lt (fplt b hb)
      rw [hH3, bj z]
      exact (f2 b hb).1
    · have ex := mG (o := .lst []) (ds := []) S1.mu hfree2 hK2
      rw [hH3]
      exact ⟨S1.mu.mut .nil hfree2 hK2, (S1.rho.ext S1.mu ex).cap⟩
    · rw [hH3]
      exact mG (o := .lst []) (ds := []) S1.mu hfree2 hK2
  have envE : (br X N' scope cl fp s3 H3).env = compEnvC scope cl hp3.objs.size X.env := by show compEnvC scope cl s3.heap.objs.size X.env = _; rw [heap3]
  rw [envE] at loop
  exact codeAny_compStart_list loop (T.self X.A 0 _ _ _ (T.keep 0 _ _ st2 (fun b hb o e => kept3 b o (old3 b o e))) loop)
theorem yO {X : Cx} {N' : List Str} {scope : Scope} {cl : List (Str × Addr)} {elt iter tg : Expr} {ifs : List Expr} {pos : Pos} {cap : List (Option Nat)} {src : DTI} {g : DTG} {c : DTT} {te : DTE} (hc : X.calm = X.calm)
    (hi : DI X tg iter src) (hg : ∀ fp s₃ H₃, DG (br X N' scope cl fp s₃ H₃) tg g) (hif : ∀ fp s₃ H₃, B5 (br X N' scope cl fp s₃ H₃) ifs c) (he : ∀ fp s₃ H₃, DE (br X N' scope cl fp s₃ H₃) elt te)
    (hclos : closureFor scope X.env = pure cl) (hcell : ∀ y ∈ scope.names, y.2 ≠ .cell) (hkind : scope.kind = .function) (hnames : ∀ y ∈ scope.names, y.2 = .local → scope.names.lookup y.1 = some .local)
    (hcl : ∀ x a, cl.lookup x = some a → X.env.cells.lookup x = some a) (hhas : ∀ x, (relabel scope X.env).names.lookup x = some .cell ∨ (relabel scope X.env).names.lookup x = some .free → ∃ a, cl.lookup x = some a)
    (hlen : cap.length = N'.length) (hcap : ∀ (i j : Nat) (x : Str), cap[i]? = some (some j) → N'[i]? = some x → X.N[j]? = some x ∧ Vis X.env.scope x ∧ X.env.kindOf x ≠ some .local ∧ ((relabel scope X.env).names.lookup x = some .cell ∨ (relabel scope X.env).names.lookup x = some .free))
    (hs : ∀ x, foldedSetIterable iter X.env x = pure x := by intro _; rfl) : DE X (.ListComp elt [⟨tg, iter, ifs, 0⟩] scope pos) (kF cap src g c te) := by
  refine DQ fun pins s σ H ρ μ Qd Q I S h k => ?_
  rw [eval_ListComp]
  refine vd hc hi hg hif he hclos hcell hkind hnames hcl hhas hlen hcap hs I S h fun s4 Hc C pa m acc μF hn _ hI e1 S1 r q => ?_
  exact ⟨m, hn, fun h' hs' => ⟨.ref pa, Hc, hI h' hs', rfl, k (.v (.list acc)) _ μF Hc e1 S1 r q⟩⟩
theorem ns_obj {h : Heap} {C : Addr} {m : Str → Option Value} (hn : h.Ns C m) : ∃ o, h.get? C = some o ∧ ∀ v, o.data ≠ .cell v := let ⟨o, es, ep, ho, hd, _⟩ := hn; ⟨o, ho, fun v z => by rw [hd] at z; cases z⟩
theorem Gx {h h' : Heap} {C : Addr} {m : Str → Option Value} (hn : h.Ns C m) (e : h'.get? C = h.get? C) : h'.Ns C m := let ⟨o, es, ep, ho, r⟩ := hn; ⟨o, es, ep, e.trans ho, r⟩
theorem Ga {X : Cx} {i : Nat} {x : Str} {pos' spos : Pos} {N' : List Str} {scope : Scope} {cl : List (Str × Addr)} {elt iter tg : Expr} {ifs : List Expr} {pos : Pos} {cap : List (Option Nat)} {src : DTI} {g : DTG} {c : DTT} {te : DTE} (hN : X.N.Nodup) (hix : X.N[i]? = some x) (hx : X.env.scope.names.lookup x = some .local) (hc : X.calm = X.calm)
    (hi : DI X tg iter src) (hg : ∀ fp s₃ H₃, DG (br X N' scope cl fp s₃ H₃) tg g) (hif : ∀ fp s₃ H₃, B5 (br X N' scope cl fp s₃ H₃) ifs c) (he : ∀ fp s₃ H₃, DE (br X N' scope cl fp s₃ H₃) elt te)
    (hclos : closureFor scope X.env = pure cl) (hcell : ∀ y ∈ scope.names, y.2 ≠ .cell) (hkind : scope.kind = .function) (hnames : ∀ y ∈ scope.names, y.2 = .local → scope.names.lookup y.1 = some .local)
    (hcl : ∀ x a, cl.lookup x = some a → X.env.cells.lookup x = some a) (hhas : ∀ x, (relabel scope X.env).names.lookup x = some .cell ∨ (relabel scope X.env).names.lookup x = some .free → ∃ a, cl.lookup x = some a)
    (hlen : cap.length = N'.length) (hcap : ∀ (i j : Nat) (x : Str), cap[i]? = some (some j) → N'[i]? = some x → X.N[j]? = some x ∧ Vis X.env.scope x ∧ X.env.kindOf x ≠ some .local ∧ ((relabel scope X.env).names.lookup x = some .cell ∨ (relabel scope X.env).names.lookup x = some .free))
    (hs : ∀ x, foldedSetIterable iter X.env x = pure x := by intro _; rfl)
    (hsw : swapsWith (.ListComp elt [⟨tg, iter, ifs, 0⟩] scope pos) (some (.Name x pos')) spos.line X.env = pure true := by rfl) : DS X (.Assign [.Name x pos'] (.ListComp elt [⟨tg, iter, ifs, 0⟩] scope pos) spos) (aP (kF cap src g c te) (aj i)) := by
  refine ⟨fun D σ H => ∃ ρ μ Dd, St0 X.K H ρ μ σ ∧ aP (kF cap src g c te) (aj i) Dd ρ μ ∧ (∀ σ' ρ' μ' H', Ext X.K μ H μ' H' → St0 X.K H' ρ' μ' σ' → Dd.nx ρ' μ' → D.nx σ' H'), ?_, fun σ H ρ μ Dd De S h k1 k2 k3 k4 => ⟨ρ, μ, Dd, S, h, k1⟩⟩
  rintro pins s σ H D I ⟨ρ, μ, Dd, S, h, k1⟩
  rw [exec_Assign_Name_used _ _ _ _ hsw]
  refine wpAny_bind (wpAny_standAt ?_)
  show wpAny _ _ ((comprehension (.ListComp elt [⟨tg, iter, ifs, 0⟩] scope pos) scope X.env (firstIterPos [⟨tg, iter, ifs, 0⟩] pos) (newList []) false (eval iter X.env) (some (assign (.Name x pos') X.env)) >>= fun _ => pure ()) >>= _) _ _ s
  refine wpAny_bind (wpAny_bind (vd (Qd := fun d μ1 => aj i d ρ μ1 Dd.nx) hc hi hg hif he hclos hcell hkind hnames hcl hhas hlen hcap hs I S h fun s4 Hc C pa m acc μF hn fC hI e1 S1 r q => ?_))
  have I4 : Inv X pins σ Hc s4 := hI s4.heap (Heap.SameBut.refl _ _)
  obtain ⟨oC, hoC, hdC⟩ : ∃ o, s4.heap.get? C = some o ∧ ∀ v, o.data ≠ .cell v := by
    obtain ⟨o, h1, h2⟩ := ns_obj hn
    exact ⟨o, h1, h2⟩
  have I5 := I4.pinned (fp := [C]) (fun b hb => by rw [List.mem_singleton.mp hb]; exact fC) (fun b hb => by rw [List.mem_singleton.mp hb]; exact ⟨oC, hoC, hdC⟩)
  show wpAny _ _ (assign (.Name x pos') X.env (.ref pa)) _ _ s4
  refine wpAny_assign_Name (j7 I5 hN hix (Or.inl hx) (show RelV (.ref pa) (.ref pa) from rfl) (fun s' I' => ?_) (.inr hx))
  have keepC : s'.heap.get? C = some oC := (I'.pin (C, oC) (List.mem_append_right _ (List.mem_append_right _ (eV (List.mem_singleton.mpr rfl) hoC)))).1
  have hn' : s'.heap.Ns C m := Gx hn (by rw [keepC, hoC])
  refine ⟨m, hn', fun h' hs' => wpAny_pure (wpAny_pure ?_)⟩
  refine ⟨σ.set i (some (.ref pa)), Hc, ?_, k1 _ _ _ _ e1 ⟨S1.mu, S1.rho.set (d := .v (.list acc)) r⟩ q⟩
  refine I'.j9.yH (ch := [C]) rfl ⟨fun b o e n hb hx => ?_, fun b o e n hb hx => ?_, fun b o e n hx => n, fun b o e hx => ?_, fun b xs e => e, fun b o u e => e, fun b ps e => ⟨#[], by rw [Array.append_empty]; exact e⟩⟩ ?_ I'.bare fun b hb => ?_
  · exact hs'.extBut b o (fun z => hx (List.mem_singleton.mpr z)) e
  · exact ⟨o.slots, hs'.extBut b o (fun z => hx (List.mem_singleton.mpr z)) e⟩
  · exact ⟨o, hs'.extBut b o (fun z => hx (List.mem_singleton.mpr z)) e⟩
  · exact fun b ob e => by
      refine (I'.hok b ob e).tQ (fun cc v hcc q => hs'.extBut cc v ?_ q) (fun _ q => q) fun _ _ q => q
      rintro rfl
      rcases hcc with z | z
      · rw [← z, fC.1] at e; cases e
      · rw [fC.1] at z; cases z
  · rw [List.mem_singleton.mp hb]
    exact ⟨fC.2.2.2.1, fC.2.1, fC.2.2.2.2.1, fC.2.2.2.2.2⟩
theorem qN {cap : List (Option Nat)} {src : DTI} {g : DTG} {t : DTT} {ta : DTE} {ρ : Rho} {μ : Mu} {Q : DK} : kF cap src g t ta ρ μ Q = src ρ μ fun xs μ1 => xs.length ≤ 1000 ∧ ∀ p, μ1 p = none → ∃ Pv : Nat → List PyData → Mu → Prop, Pv 0 [] (aE μ1 p []) ∧
  (∀ i x acc μ', xs[i]? = some x → μ' p = some acc → Pv i acc μ' → g (.v x) (cq cap ρ) μ' fun ρ2 μ2 => Le (cq cap ρ) ρ2 ∧ t ρ2 μ2 fun b μ3 =>
    if b = true then ta ρ2 μ3 fun d μ4 => μ4 p = some acc ∧ (match d with | .v y => Pv (i + 1) (acc ++ [y]) (aE μ4 p (acc ++ [y])) | _ => False) else μ3 p = some acc ∧ Pv (i + 1) acc μ3) ∧
  (∀ acc μ', Pv xs.length acc μ' → μ' p = some acc → Q (.v (.list acc)) (gZ μ' p)) := propext Iff.rfl
theorem Cm {μ : Mu} {p : Addr} {ds : List PyData} (h : μ p = none) : gZ (aE μ p ds) p = μ := by
  funext b
  unfold gZ aE
  by_cases e : b = p
  · rw [if_pos e, e, h]
  · rw [if_neg e, if_neg e]
open PySem PySem.Spec PyProof.Rows
section
variable {X : Cx} {es : List Expr} {x1 : Nat} {tpos : Pos}
def EM : List PyData → List PyData → List PyData
  | x :: xs, y :: ys => .tuple [x, y] :: EM xs ys
  | _, _ => []
end
open PySem PySem.Spec PyProof.Rows
section
variable {X : Cx} {a b e : Expr} {es : List Expr} {ta tb te : DTE} {t : DTA} {p pos : Pos}
end
open PySem PySem.Spec PyProof.Rows
section
variable {prog : Program} {w : World} {A : Around} {E : Value → Shared → Prop} {s : Shared}
end
open PySem PySem.Spec PyProof.Rows
section
variable {X : Cx} {es : List Expr} {x1 : Nat} {tpos : Pos}
end
section
variable {X : Cx} {es : List Expr} {pos : Pos}
end
theorem cl1 {k : Str} {v : Addr} {r : List (Str × Addr)} {x : Str} {a : Addr} (h : List.lookup x [(k, v)] = some a) : List.lookup x ((k, v) :: r) = some a := by
  simp only [List.lookup_cons] at h ⊢
  cases e : x == k with
  | true => rw [e] at h; exact h
  | false => rw [e] at h; exact absurd h (by simp)
theorem cl2 {k k' : Str} {v v' : Addr} {r : List (Str × Addr)} {x : Str} {a : Addr} (n : (k == k') = false) (h : List.lookup x [(k, v)] = some a) : List.lookup x ((k', v') :: (k, v) :: r) = some a := by
  have g := cl1 (r := r) h
  simp only [List.lookup_cons] at h
  cases e : x == k with
  | true =>
    have e' : x = k := by simpa using e
    subst e'
    rw [List.lookup_cons, n]
    exact g
  | false => rw [e] at h; exact absurd h (by simp)
open PySem PySem.Spec PyProof.Rows
section
variable {X : Cx} {e : Expr} {es : List Expr} {t : DTA} {p pos : Pos}
end
section
variable {X : Cx} {e tg : Expr} {te : DTE} {td : DTS} {pos : Pos}
end
section
variable {X : Cx} {a b c : Expr} {ta tb tc : DTE} {pos : Pos}
theorem El {op op' : CmpOp} {rr rr' : R2} {r r' : D → D → Mu → DK → Prop} (ho : OpR X (compareOp op) rr) (lo : fT X.K rr r) (ho' : OpR X (compareOp op') rr') (lo' : fT X.K rr' r') (ha : DE X a ta) (hb : DE X b tb) (hc : DE X c tc)
    (hm : lastMarks [op, op'] [b, c] = false := by with_unfolding_all rfl) : DT X (.Compare a [op, op'] [b, c] pos) (dB (AL r r' ta tb tc)) := by
  obtain ⟨t1, p1, l1⟩ := ha
  obtain ⟨t2, p2, l2⟩ := hb
  obtain ⟨t3, p3, l3⟩ := hc
  refine ⟨_, Ej ho ho' p1 p2 p3 hm, pH (fun σ H ρ μ Qd Q S h k => ?_)⟩
  refine l1 σ H ρ μ _ _ S h fun x ux μ1 H1 e1 S1 rx h1 => ?_
  refine l2 σ H1 ρ μ1 _ _ S1 h1 fun y uy μ2 H2 e2 S2 ry h2 => ?_
  refine lo x y ux uy H2 μ2 _ _ S2.mu (rx.ext S1.mu e2) ry h2 fun z uz μ3 H3 e3 ok3 rz h3 => ?_
  have S3 : St0 X.K H3 ρ μ3 σ := ⟨ok3, S2.rho.ext S2.mu e3⟩
  split at h3
  · rename_i kk
    cases rz
    refine ⟨kk, rfl, ?_⟩
    cases kk with
    | true =>
      refine rN ?_
      refine l3 σ H3 ρ μ3 _ _ S3 (by simpa using h3) fun w uw μ4 H4 e4 S4 rw' h4 => ?_
      exact lo' y w uy uw H4 μ4 _ _ S4.mu ((ry.ext S2.mu e3).ext S3.mu e4) rw' h4 fun d u μ' H' e5 ok r q => k d u μ' H' (e1.trans (e2.trans (e3.trans (e4.trans e5)))) ⟨ok, S4.rho.ext S4.mu e5⟩ r q
    | false => exact rX (k (.v (.bool false)) _ μ3 H3 (e1.trans (e2.trans e3)) S3 (Rp.bool false) (by simpa using h3))
  · exact h3.elim
theorem cl3 {k k' : Str} {v v' : Addr} {x : Str} {a : Addr} (n : (k == k') = false) (h : List.lookup x [(k, v), (k', v')] = some a) : List.lookup x [(k', v'), (k, v)] = some a := by
  simp only [List.lookup_cons, List.lookup_nil] at h ⊢
  cases e : x == k with
  | true =>
    have e' : x = k := by simpa using e
    subst e'
    rw [e] at h
    rw [n]
    exact h
  | false =>
    rw [e] at h
    cases e2 : x == k' with
    | true => rw [e2] at h; exact h
    | false => rw [e2] at h; exact absurd h (by simp)
end
open PySem PySem.Spec PyProof.Rows
section
variable {X : Cx} {o e : Expr} {to te : DTE} {apos cpos pos : Pos}
end
section
variable {X : Cx} {e : Expr} {es : List Expr} {t : DTA} {p pos : Pos}
end
section
variable {X : Cx} {a b : Expr} {ta tb : DTE} {pos : Pos}
end
open PySem PySem.Spec PyProof.Rows
def Ed (cells : List (Str × Addr)) : List (Str × Addr) → Prop
  | [] => True
  | (k, v) :: r => cells.lookup k = some v ∧ Ed cells r
theorem xW {cells : List (Str × Addr)} : Ed cells [] := trivial
theorem fS {cells r : List (Str × Addr)} {k : Str} {v : Addr} (h : cells.lookup k = some v) (t : Ed cells r) : Ed cells ((k, v) :: r) := ⟨h, t⟩
theorem oz {cells : List (Str × Addr)} : ∀ {cl : List (Str × Addr)}, Ed cells cl → ∀ x a, cl.lookup x = some a → cells.lookup x = some a
  | [], _, _, _, h => by simp at h
  | (k, v) :: r, c, x, a, h => by
    rw [List.lookup_cons] at h
    cases e : x == k with
    | true =>
      have e' : x = k := by simpa using e
      rw [e] at h
      subst e'
      rw [c.1]; exact h
    | false =>
      rw [e] at h
      exact oz c.2 x a h
open PySem PySem.Spec PyProof.Rows
noncomputable def Fly (O : Addr → Prop) (h : Heap) (e : Addr) (cls fl : Value) : Prop := (∀ b, O b → b < h.objs.size) ∧ ∃ oe vs T oT ts, h.get? e = some oe ∧ oe.cls = cls ∧ oe.data = .fields vs ∧ vs[1]? = some (.ref T) ∧ vs[2]? = some .none ∧ ¬ O e ∧ ¬ O T ∧ T ≠ e ∧ h.get? T = some oT ∧ oT.data = .fields ts ∧ ts[3]? = some fl
structure Kp (O : Addr → Prop) (fs : List Addr) (h h' : Heap) : Prop where
  keep : ∀ b o, h.get? b = some o → O b → b ∉ fs → h'.get? b = some o
  slot : ∀ b o, h.get? b = some o → (∀ vs, o.data ≠ .fields vs) → ∃ sl, h'.get? b = some { o with slots := sl }
section
variable {O : Addr → Prop} {fs : List Addr} {h h1 h2 : Heap}
theorem Kp.trans (a : Kp O fs h h1) (b : Kp O fs h1 h2) : Kp O fs h h2 := ⟨fun c o e l f => b.keep c o (a.keep c o e l f) l f, fun c o e d => let ⟨_, e1⟩ := a.slot c o e d; let ⟨sl, e2⟩ := b.slot c _ e1 d; ⟨sl, e2⟩⟩
theorem Kp.of (k : ∀ b o, h.get? b = some o → h1.get? b = some o) : Kp O fs h h1 := ⟨fun b o e _ _ => k b o e, fun b o e _ => ⟨o.slots, k b o e⟩⟩
theorem Kp.frames {base : Heap} {l : List Env} (a : Kp O fs h h1) (k : h.FunFrames base l) : h1.FunFrames base l := k.of_keeps fun b o e d => let ⟨_, e1⟩ := a.slot b o e d; ⟨_, e1, rfl⟩
end
section
variable {M : Model} {A : Around} {E : Value → Shared → Prop} {s : Shared} {O : Addr → Prop} {e L : Addr} {cls fl : Value} {env : Env} {outer : List Env} {base : Heap} {Q : Unit → Shared → Prop}
theorem yU {oe : Obj} {vs : Array Value} {head : Value} {hadNext : Bool} (hfr : A.frames = some (env :: outer)) (hl : s.heap.FunFrames base (env :: outer)) (hf : env.frame = some L)
    (he : s.heap.get? e = some oe) (hc : oe.cls = cls) (hd : oe.data = .fields vs) (hz : 1 < vs.size) (h2 : vs[2]? = some .none) (hO : ∀ b, O b → b < s.heap.objs.size) (hn : ¬ O e)
    (k : ∀ h', Kp O (frs (env :: outer)) s.heap h' → Fly O h' e cls (rawInt L) → Q () { s with heap := h' }) :
    wpAny M A (do let a ← frameOf env; let pl ← entryPlaceOf L hadNext; let b ← EntryCells.newEntry head a .none (rawInt L) .none pl; setField (.ref e) 1 b) Q E s := by
  have ene : e ∉ frs (env :: outer) := fun hm => by
    obtain ⟨_, o, ho, hnf⟩ := hl.mem hm
    rw [he] at ho
    exact hnf vs (by rw [← Option.some.inj ho]; exact hd)
  refine wpAny_bind (wpAny_frameOf_fun hfr hl hf fun g1 s1 => wpAny_bind (wpAny_entryPlaceOf fun pl hpl => ?_))
  unfold EntryCells.newEntry newFields; refine wpAny_bind (wpAny_newObj_type ?_ (hpl.sizeOk5 _ _ _ _ _))
  generalize hob : ({ cls := .type "traceback", dict := none, data := .fields ([head, .ref L, .none, rawInt L, .none] ++ (if pl.isEmpty then List.replicate 6 Value.none else pl)).toArray } : Obj) = ob
  have e1 : g1.get? e = some oe := (s1.2.1 e ene).trans he
  have e2 : (g1.push ob).get? e = some oe := Heap.get?_push_of_some ob e1
  have neT : g1.objs.size ≠ e := Nat.ne_of_gt (Heap.lt_size e1)
  have d3 := Obj.data_mapFields hd (·.setIfInBounds 1 (Value.ref g1.objs.size))
  have szs : ¬ O g1.objs.size := fun z => absurd (hO _ z) (by rw [s1.1]; exact Nat.lt_irrefl _)
  refine wpAny_setField e2 hd hz (k _ ⟨fun b o q l f => ?_, fun b o q d => ?_⟩ ?_)
  · have bne : e ≠ b := fun z => hn (by rw [z]; exact l)
    rw [Heap.get?_update_other _ _ bne]
    exact Heap.get?_push_of_some _ ((s1.2.1 b f).trans q)
  · have bne : e ≠ b := fun z => by rw [← z, he] at q; exact d vs (by rw [← Option.some.inj q]; exact hd)
    obtain ⟨sl, q1⟩ := s1.2.2 b o q
    exact ⟨sl, by rw [Heap.get?_update_other _ _ bne]; exact Heap.get?_push_of_some _ q1⟩
  · refine ⟨fun b z => Nat.lt_of_lt_of_le (hO b z) (by rw [Heap.size_after_update, Heap.size_push, s1.1]; exact Nat.le_succ _), _, _, g1.objs.size, ob, _, Heap.get?_update_self _ e2 (Obj.isFreed_of_fields d3), (Obj.cls_mapFields ..).trans hc, d3, by simp [hz], by rw [Array.getElem?_setIfInBounds_ne (by decide)]; exact h2, hn, szs, neT, ?_, by rw [← hob], ?_⟩
    · rw [Heap.get?_update_other _ _ (Ne.symm neT)]
      exact Heap.get?_push_size g1 (by rw [← hob]; rfl)
    · rcases hpl with z | ⟨_, _, _, _, _, _, _, z⟩ <;> (rw [z]; rfl)
theorem Ar {oe : Obj} {vs : Array Value} (hfr : A.frames = some (env :: outer)) (hl : s.heap.FunFrames base (env :: outer)) (hf : env.frame = some L)
    (he : s.heap.get? e = some oe) (hc : oe.cls = cls) (hd : oe.data = .fields vs) (h1 : vs[1]? = some .none) (h2 : vs[2]? = some .none) (hO : ∀ b, O b → b < s.heap.objs.size) (hn : ¬ O e)
    (k : ∀ h', Kp O (frs (env :: outer)) s.heap h' → Fly O h' e cls (rawInt L) → Q () { s with heap := h' }) : wpAny M A (noteFrame (.ref e) env) Q E s := by
  unfold noteFrame; simp only [hf]
  refine wpAny_bind (wpAny_field he hd h1 ?_)
  rw [if_neg (by decide)]
  exact yU hfr hl hf he hc hd (Array.getElem?_eq_some_iff.mp h1).1 h2 hO hn k
theorem vt (hfr : A.frames = some (env :: outer)) (hl : s.heap.FunFrames base (env :: outer)) (hf : env.frame = some L) (F : Fly O s.heap e cls .none)
    (k : ∀ h', Kp O (frs (env :: outer)) s.heap h' → Fly O h' e cls (rawInt L) → Q () { s with heap := h' }) : wpAny M A (noteFrame (.ref e) env) Q E s := by
  obtain ⟨hO, oe, vs, T, oT, ts, he, hc, hd, h1, h2, hn, hT, nT, gT, dT, h3⟩ := F
  unfold noteFrame; simp only [hf]
  refine wpAny_bind (wpAny_field he hd h1 ?_)
  rw [if_pos (by simp)]
  refine wpAny_bind (wpAny_field gT dT h3 ?_)
  rw [if_neg (by simp [rawInt])]
  have oth : ∀ b, b ≠ T → (s.heap.update T (Obj.mapFields (·.setIfInBounds 3 Value.none))).get? b = s.heap.get? b := fun b hb => Heap.get?_update_other _ _ (Ne.symm hb)
  have kp : Kp O (frs (env :: outer)) s.heap (s.heap.update T (Obj.mapFields (·.setIfInBounds 3 Value.none))) :=
    ⟨fun b o q l _ => (oth b fun z => hT (by rw [← z]; exact l)).trans q, fun b o q d => ⟨o.slots, (oth b fun z => by rw [z, gT] at q; exact d ts (by rw [← Option.some.inj q]; exact dT)).trans q⟩⟩
  refine wpAny_bind (wpAny_setField gT dT (Array.getElem?_eq_some_iff.mp h3).1 ?_)
  exact yU (s := { s with heap := s.heap.update T (Obj.mapFields (·.setIfInBounds 3 Value.none)) }) hfr (kp.frames hl) hf ((oth e (Ne.symm nT)).trans he) hc hd (Array.getElem?_eq_some_iff.mp h1).1 h2 (fun b z => by rw [Heap.size_after_update]; exact hO b z) hn fun h' a b => k h' (kp.trans a) b
theorem jA {fs : List Addr} (F : Fly O s.heap e cls fl) (k : ∀ h', Kp O fs s.heap h' → Fly O h' e cls .none → Q () { s with heap := h' }) : wpAny M A (setFlight (.ref e) none) Q E s := by
  obtain ⟨hO, oe, vs, T, oT, ts, he, hc, hd, h1, h2, hn, hT, nT, gT, dT, h3⟩ := F
  have z3 : 3 < ts.size := (Array.getElem?_eq_some_iff.mp h3).1
  unfold setFlight
  refine wpAny_bind (wpAny_field he hd h1 ?_)
  rw [if_pos (by simp)]
  have oth : ∀ b, b ≠ T → (s.heap.update T (Obj.mapFields (·.setIfInBounds 3 ((none : Option Addr).elim Value.none fun f => rawInt f)))).get? b = s.heap.get? b := fun b hb => Heap.get?_update_other _ _ (Ne.symm hb)
  refine wpAny_setField gT dT z3 (k _ ⟨fun b o q l _ => (oth b fun z => hT (by rw [← z]; exact l)).trans q, fun b o q d => ⟨o.slots, (oth b fun z => by rw [z, gT] at q; exact d ts (by rw [← Option.some.inj q]; exact dT)).trans q⟩⟩ ?_)
  exact ⟨fun b z => by rw [Heap.size_after_update]; exact hO b z, oe, vs, T, _, _, (oth e (Ne.symm nT)).trans he, hc, hd, h1, h2, hn, hT, nT, Heap.get?_update_self _ gT (Obj.isFreed_of_fields (Obj.data_mapFields dT _)), Obj.data_mapFields dT _, by simp [z3]⟩
theorem x9 {oe : Obj} {vs : Array Value} (hfr : A.frames = some (env :: outer)) (hl : s.heap.FunFrames base (env :: outer)) (hf : env.frame = some L)
    (he : s.heap.get? e = some oe) (hc : oe.cls = cls) (hd : oe.data = .fields vs) (h1 : vs[1]? = some .none) (h2 : vs[2]? = some .none) (hO : ∀ b, O b → b < s.heap.objs.size) (hn : ¬ O e)
    (k : ∀ h', Kp O (frs (env :: outer)) s.heap h' → Fly O h' e cls .none → Q () { s with heap := h' }) : wpAny M A (leaving env (.ref e)) Q E s := by
  unfold leaving
  exact wpAny_bind (Ar hfr hl hf he hc hd h1 h2 hO hn fun h' a b => jA (s := { s with heap := h' }) b fun h'' a' b' => k h'' (a.trans a') b')
theorem Aq (hfr : A.frames = some (env :: outer)) (hl : s.heap.FunFrames base (env :: outer)) (hf : env.frame = some L) (F : Fly O s.heap e cls .none)
    (k : ∀ h', Kp O (frs (env :: outer)) s.heap h' → Fly O h' e cls .none → Q () { s with heap := h' }) : wpAny M A (leaving env (.ref e)) Q E s := by
  unfold leaving
  exact wpAny_bind (vt hfr hl hf F fun h' a b => jA (s := { s with heap := h' }) b fun h'' a' b' => k h'' (a.trans a') b')
end
open PySem PySem.Spec PyProof.Rows
noncomputable def CX1 (P : Program) (w : World) : CXT := fun outer H s E e s' => ∃ (O : Addr → Prop) (ea : Addr) (cls : Value) (H' : Hp), e = .ref ea ∧ s'.os = s.os ∧ AllBare s'.gens ∧ Un (frs outer) [] H H' s.heap s'.heap ∧ HOk P w H' s'.heap ∧
  (∀ b o, s.heap.get? b = some o → O b) ∧ (∀ b, H' b ≠ none → O b) ∧ Fly O s'.heap ea cls .none ∧ E cls none H'
theorem Un.fly {fs : List Addr} {L : Addr} {H H' : Hp} {h h1 h2 : Heap} {O : Addr → Prop} (u : Un fs [] H H' h h1) (k : Kp O (L :: fs) h1 h2) (hO : ∀ b o, h.get? b = some o → O b) (hL : ∀ o, h.get? L ≠ some o) (hd : ∀ b ∈ fs, ∀ o, h1.get? b = some o → ∀ vs, o.data ≠ .fields vs) : Un fs [] H H' h h2 where
  keep := fun b o e n f x => k.keep b o (u.keep b o e n f x) (hO b o e) fun z => by
    rcases List.mem_cons.mp z with z | z
    · exact hL o (by rw [← z]; exact e)
    · exact f z
  slot := fun b o e n f x => by
    obtain ⟨sl, e1⟩ := u.slot b o e n f x
    obtain ⟨sl', e2⟩ := k.slot b _ e1 (hd b f _ e1)
    exact ⟨sl', e2⟩
  free := u.free
  there := fun b o e x => by
    obtain ⟨o1, e1⟩ := u.there b o e x
    by_cases f : b ∈ fs
    · obtain ⟨sl, e2⟩ := k.slot b _ e1 (hd b f _ e1)
      exact ⟨_, e2⟩
    · exact ⟨o1, k.keep b o1 e1 (hO b o e) fun z => by
        rcases List.mem_cons.mp z with z | z
        · exact hL o (by rw [← z]; exact e)
        · exact f z⟩
  nu := u.nu
  mO := u.mO
  mK := u.mK
theorem HOk.fly {P : Program} {w : World} {H : Hp} {h h1 : Heap} {O : Addr → Prop} {fs : List Addr} (x : HOk P w H h) (k : Kp O fs h h1) (hO : ∀ b, H b ≠ none → O b) (hf : ∀ b ∈ fs, H b = none) : HOk P w H h1 := fun a o e => by
  refine (x a o e).tQ (fun b u hb q => ?_) (fun _ q => q) fun _ _ q => q
  have hb' : H b ≠ none := by
    rcases hb with rfl | hb
    · rw [e]; exact fun z => nomatch z
    · rw [hb]; exact fun z => nomatch z
  exact k.keep b u q (hO b hb') fun z => hb' (hf b z)
theorem Cb {P : Program} {w : World} {H : Hp} {h : Heap} {a : Addr} {o : HO} (x : jq P w H h a o) : ∃ u, h.get? a = some u := by
  cases o with
  | lst xs => obtain ⟨_, _, _, _, e⟩ := x; exact ⟨_, e⟩
  | tup xs => obtain ⟨_, _, _, _, e, _⟩ := x; exact ⟨_, e⟩
  | dK kvs => obtain ⟨_, _, _, _, _, _, _, e, _⟩ := x; exact ⟨_, e⟩
  | dT kvs => obtain ⟨_, _, _, _, _, _, _, e, _⟩ := x; exact ⟨_, e⟩
  | set S n => obtain ⟨_, _, _, _, e, _⟩ := x; exact ⟨_, e⟩
  | ins C dx fs => obtain ⟨_, _, _, e, _⟩ := x; exact ⟨_, e⟩
  | own y => exact x
  | xd fs => obtain ⟨_, ⟨_, _, _, e, _⟩, _⟩ := x; exact ⟨_, e⟩
  | rng lo hi => obtain ⟨_, _, _, e⟩ := x; exact ⟨_, e⟩
  | frz ob u => obtain ⟨e, _⟩ := x; exact ⟨_, e⟩
  | tbl ps => exact ⟨_, (show h.get? a = some _ from x)⟩
  | met f y => exact ⟨_, (show h.get? a = some _ from x)⟩
  | ext φ => obtain ⟨_, e, _⟩ := x; exact e
section
variable {X : Cx} {pins : List (Addr × Obj)} {σ : St} {H : Hp} {s : Shared} {O : Addr → Prop} {ea : Addr} {cls : Value} {E : XK} {base : Heap}
structure Frm (X : Cx) : Prop where
  stk : X.stack = X.env :: X.outer
  fr : X.env.frame = some X.env.locals
  ex : X.ex = []
theorem oJ (hF : Frm X) : frs (X.env :: X.outer) = X.env.locals :: X.fs := by
  unfold Cx.fs frs
  rw [List.filterMap_cons, hF.fr]
theorem wx (I : Inv X pins σ H s) : ∀ b ∈ X.fs, ∀ o, s.heap.get? b = some o → ∀ vs, o.data ≠ .fields vs := fun b hb o e vs => by
  obtain ⟨_, o', e', d⟩ := I.nk.mem hb
  rw [e] at e'
  rw [Option.some.inj e']
  exact d vs
theorem A4 (I : Inv X pins σ H s) : ∀ o, X.s₀.heap.get? X.env.locals ≠ some o := fun o e => absurd (Heap.lt_size e) (Nat.not_lt.mpr I.ok.above)
theorem yj (hF : Frm X) (I : Inv X pins σ H s) : ∀ b ∈ frs (X.env :: X.outer), H b = none := fun b hb => by
  rw [oJ hF] at hb
  rcases List.mem_cons.mp hb with e | hb
  · rw [e]; exact I.free
  · exact I.qV b (by rw [hF.stk, oJ hF]; exact List.mem_cons_of_mem _ hb)
theorem pF (hF : Frm X) (I : Inv X pins σ H s) : s.heap.FunFrames X.base (X.env :: X.outer) := by
  have := I.stack
  rw [hF.stk] at this
  exact this
theorem D3 (hF : Frm X) (I : Inv X pins σ H s) (hO : ∀ b o, X.s₀.heap.get? b = some o → O b) (ht : ∀ b, H b ≠ none → O b) {h' : Heap} (k : Kp O (frs (X.env :: X.outer)) s.heap h') (F : Fly O h' ea cls .none) (q : E cls none H) :
    CX1 X.prog X.w X.outer X.H₀ X.s₀ E (.ref ea) { s with heap := h' } := by
  refine ⟨O, ea, cls, H, rfl, I.os, I.bare, ?_, HOk.fly I.hok k ht (yj hF I), hO, ht, F, q⟩
  rw [oJ hF] at k
  have u := I.base
  rw [hF.ex] at u
  exact Un.fly u k hO (A4 I) (wx I)
theorem leave_new {vs : List Value} {h1 : Heap} {Qe : Value → Shared → Prop} (hF : Frm X) (I : Inv X pins σ H s) (hx : Heap.MadeExcOf s.heap h1 ea cls vs) (q : E cls none H) :
    wpAny (model X.prog X.w) X.A (leaving X.env (.ref ea)) (fun _ s'' => CX1 X.prog X.w X.outer X.H₀ X.s₀ E (.ref ea) s'') Qe { s with heap := h1 } := by
  obtain ⟨t, he, _, _⟩ := hx.there
  have I1 : Inv X pins σ H { s with heap := h1 } := I.kept (t' := s.toks) hx.keeps
  have fr : X.A.frames = some (X.env :: X.outer) := by rw [← hF.stk]; exact I.ok.frames
  have kp : Kp (fun b => ∃ o, s.heap.get? b = some o) (frs (X.env :: X.outer)) s.heap h1 := .of hx.keeps
  refine x9 (O := fun b => ∃ o, s.heap.get? b = some o) (s := { s with heap := h1 }) fr (pF hF I1) hF.fr he rfl rfl rfl rfl (fun b ⟨o, e⟩ => Heap.lt_size (hx.keeps b o e)) (fun ⟨o, e⟩ => by rw [hx.new] at e; cases e) fun h' k F => ?_
  have e := D3 (s := s) (X := X) hF I (fun b o e => I.base.there b o e (by rw [hF.ex]; exact fun z => nomatch z)) (fun b hb => by
    cases z : H b with
    | none => exact absurd z hb
    | some o => exact Cb (I.hok b o z)) (kp.trans k) F q
  exact e
end
structure XOk (X : Cx) (E : XK) : Prop where
  new : ∀ (pins : List (Addr × Obj)) (σ : St) (H : Hp) (s : Shared) (ea : Addr) (cls : Value) (vs : List Value) (h1 : Heap), Inv X pins σ H s → Heap.MadeExcOf s.heap h1 ea cls vs → E cls none H → X.xe (.ref ea) { s with heap := h1 }
  pas : Passes (CX1 X.prog X.w) X E
theorem vb {X : Cx} {pins : List (Addr × Obj)} {σ : St} {H : Hp} {s s' : Shared} {E : XK} {e : Value} {Qe : Value → Shared → Prop} (hF : Frm X) (I : Inv X pins σ H s) (h : CX1 X.prog X.w X.stack H s E e s') :
    wpAny (model X.prog X.w) X.A (leaving X.env e) (fun _ s'' => CX1 X.prog X.w X.outer X.H₀ X.s₀ E e s'') Qe s' := by
  obtain ⟨O, ea, cls, H', rfl, os, bare, un, hok, hO, ht, F, q⟩ := h
  have I' : Inv X pins σ H' s' := I.yH (ch := []) os un hok bare (fun b z => nomatch z)
  have fr : X.A.frames = some (X.env :: X.outer) := by rw [← hF.stk]; exact I.ok.frames
  refine Aq (s := s') fr (pF hF I') hF.fr F fun h' k F' => ?_
  exact D3 (s := s') hF I' (fun b o e => by
    obtain ⟨o', e'⟩ := I.base.there b o e (by rw [hF.ex]; exact fun z => nomatch z)
    exact hO b o' e') ht k F' q
theorem gS {P : Program} {w : World} {K : PySem.W.Frag} {mg : Str → Option Value} {base : Heap} {N : List Str} {qual : Str} {scope : Scope} {f : Addr} {cd : Value} {A : Around} {outer : List Env} {s : Shared} {H : Hp} {E : XK} :
    XOk (jN (CX1 P w) P w K mg base N qual scope f cd A outer s H E) E where
  new := fun pins σ H1 s1 ea cls vs h1 I hx q => leave_new (X := jN (CX1 P w) P w K mg base N qual scope f cd A outer s H E) ⟨rfl, rfl, rfl⟩ I hx q
  pas := fun pins σ H1 s1 e s' I h => vb (X := jN (CX1 P w) P w K mg base N qual scope f cd A outer s H E) ⟨rfl, rfl, rfl⟩ I h
abbrev DTX := Rho → Mu → (Mu → Prop) → Prop
abbrev XSp := List D → Mu → (Mu → Prop) → Prop
noncomputable def yt (K : PySem.W.Frag) (E : XK) (C : Value) (μ : Mu) (H : Hp) (Xk : Mu → Prop) : Prop := ∀ μ' H', Ext K μ H μ' H' → bK K μ' H' → Xk μ' → E C none H'
theorem yt.on {K : PySem.W.Frag} {E : XK} {C : Value} {μ μ1 : Mu} {H H1 : Hp} {Xk : Mu → Prop} (w : yt K E C μ H Xk) (e : Ext K μ H μ1 H1) : yt K E C μ1 H1 Xk := fun μ' H' e' => w μ' H' (e.trans e')
noncomputable def XE (X : Cx) (E : XK) (C : Value) (e : Expr) (tx : DTX) : Prop := ∃ t : TE, PE X e t ∧ ∀ σ H ρ μ Xk Q, St0 X.K H ρ μ σ → tx ρ μ Xk → yt X.K E C μ H Xk → t σ H Q
noncomputable def XA (X : Cx) (E : XK) (C : Value) (es : List Expr) (tx : DTX) : Prop := ∃ t : TA, PA X es t ∧ ∀ σ H ρ μ Xk Q, St0 X.K H ρ μ σ → tx ρ μ Xk → yt X.K E C μ H Xk → t σ H Q
noncomputable def XS (X : Cx) (E : XK) (C : Value) (st : Stmt) (tx : DTX) : Prop := ∃ t : TS, PS X st t ∧ ∀ σ H ρ μ Xk D, St0 X.K H ρ μ σ → tx ρ μ Xk → yt X.K E C μ H Xk → t D σ H
noncomputable def XSs (X : Cx) (E : XK) (C : Value) (st : List Stmt) (tx : DTX) : Prop := ∃ t : TS, PSs X st t ∧ ∀ σ H ρ μ Xk D, St0 X.K H ρ μ σ → tx ρ μ Xk → yt X.K E C μ H Xk → t D σ H
noncomputable def spX (K : PySem.W.Frag) (C : Value) (dsp : XSp) : Sp := fun vs H _ E => ∃ (ds : List D) (μ : Mu) (Xk : Mu → Prop), bK K μ H ∧ jo K μ H ds vs ∧ dsp ds μ Xk ∧ yt K E C μ H Xk
section
variable {X : Cx} {E : XK} {C : Value} {e : Expr} {es : List Expr} {t : DTA} {te : DTE} {tx ty : DTX} {p pos : Pos} {x : Str} {k : Nat} {f : Addr} {fd : FuncData} {ps : List Str} {dsp : XSp} {st : Stmt} {sts : List Stmt}
noncomputable def lS (dsp : XSp) (t : DTA) : DTX := fun ρ μ Xk => t ρ μ fun ds μ1 => dsp ds μ1 Xk
theorem iy (F : bS X.prog X.w X.K X.mg X.base (CX1 X.prog X.w) k f fd ps (spX X.K C dsp)) (hr : eN k X.A) (hg : Gl X x) (hm : X.mg x = some (.ref f)) (hk : PySem.W.keepIn X.K (.ref f) = true) (hb : Binds X.K fd ps []) (hx : XOk X E)
    (ha : DA X (e :: es) t) (hdb : (x == ("__debug__" : Str)) = false := by decide) (he : starEach (e :: es) X.env = (false, eval e X.env) :: starEach es X.env := by rfl) (hpl : (backTo pos (starEach es X.env)).any (·.1) = false := by rfl) :
    XE X E C (.Call (.Name x p) (e :: es) [] pos) (lS dsp t) := by
  obtain ⟨t1, p1, l1⟩ := ha
  refine ⟨_, vV F hr hg hm hk hb .nil hx.pas p1 hdb he hpl, fun σ H ρ μ Xk Q S h wsh => ?_⟩
  refine l1 σ H ρ μ _ _ S h fun ds us μ1 H1 e1 S1 rs len h1 => ?_
  exact ⟨ds, μ1, Xk, S1.mu, by rw [List.append_nil]; exact rs, h1, wsh.on e1⟩
theorem E2 {P : Program} {w : World} {K : PySem.W.Frag} {mg : Str → Option Value} {base : Heap} {CX : CXT} : bS P w K mg base CX k f fd ps (fun _ _ _ _ => False) := ⟨fun _ _ _ _ h => h.elim, fun _ _ _ _ _ _ _ _ _ _ _ _ _ h => h.elim⟩
theorem yy (hr : eN k X.A) (hg : Gl X x) (hm : X.mg x = some (.ref f)) (hk : PySem.W.keepIn X.K (.ref f) = true) (hb : Binds X.K fd ps []) (ha : XA X E C (e :: es) tx)
    (hdb : (x == ("__debug__" : Str)) = false := by decide) (he : starEach (e :: es) X.env = (false, eval e X.env) :: starEach es X.env := by rfl) (hpl : (backTo pos (starEach es X.env)).any (·.1) = false := by rfl) :
    XE X E C (.Call (.Name x p) (e :: es) [] pos) tx := by
  obtain ⟨t1, p1, l1⟩ := ha
  exact ⟨_, vV (CX := CX0) (k := k) (fd := fd) (ps := ps) E2 hr hg hm hk hb .nil EX p1 hdb he hpl, fun σ H ρ μ Xk Q S h wsh => l1 σ H ρ μ Xk _ S h wsh⟩
theorem Di : PA X es (fun _ _ _ => False) := fun _ _ _ _ _ _ _ h => h.elim
theorem BW (ha : XE X E C e tx) (hs : starEach (e :: es) X.env = (false, eval e X.env) :: starEach es X.env := by rfl) : XA X E C (e :: es) tx := by
  obtain ⟨t1, p1, l1⟩ := ha
  exact ⟨_, cY p1 Di hs, fun σ H ρ μ Xk Q S h wsh => l1 σ H ρ μ Xk _ S h wsh⟩
noncomputable def C4 (te : DTE) (tx : DTX) : DTX := fun ρ μ Xk => te ρ μ fun _ μ1 => tx ρ μ1 Xk
theorem Fv (ha : DE X e te) (hr : XA X E C es tx) (hs : starEach (e :: es) X.env = (false, eval e X.env) :: starEach es X.env := by rfl) : XA X E C (e :: es) (C4 te tx) := by
  obtain ⟨t1, p1, l1⟩ := ha
  obtain ⟨t2, p2, l2⟩ := hr
  refine ⟨_, cY p1 p2 hs, fun σ H ρ μ Xk Q S h wsh => ?_⟩
  exact l1 σ H ρ μ _ _ S h fun d u μ1 H1 e1 S1 r h1 => l2 σ H1 ρ μ1 Xk _ S1 h1 (wsh.on e1)
theorem C0 (h : XE X E C e tx) : XS X E C (.Return (some e) pos) tx := by
  obtain ⟨t1, p1, l1⟩ := h
  exact ⟨_, Dv p1, fun σ H ρ μ Xk D S h wsh => l1 σ H ρ μ Xk _ S h wsh⟩
theorem E8 {i : Nat} {y : Str} {pos' : Pos} (hN : X.N.Nodup) (hi : X.N[i]? = some y) (hx : Loc X.env.scope y) (h : XE X E C e tx) (hs : swapsWith e (some (.Name y pos')) pos.line X.env = pure false := by rfl) (hf : X.fn y = true ∨ X.env.scope.names.lookup y = some .local := by first | exact .inl rfl | exact .inr rfl | assumption) :
    XS X E C (.Assign [.Name y pos'] e pos) tx := by
  obtain ⟨t1, p1, l1⟩ := h
  exact ⟨_, DB hN hi hx p1 hs hf, fun σ H ρ μ Xk D S h wsh => l1 σ H ρ μ Xk _ S h wsh⟩
noncomputable def sq : DTX := fun _ _ _ => False
theorem mz : XSs X E C sts sq := ⟨_, vc, fun _ _ _ _ _ _ _ h _ => h.elim⟩
noncomputable def xIf (tc : DTT) (tx ty : DTX) : DTX := fun ρ μ Xk => tc ρ μ fun b μ1 => if b = true then tx ρ μ1 Xk else ty ρ μ1 Xk
theorem BV {c : Expr} {a b : List Stmt} {tc : DTT} (hc : DT X c tc) (ha : XSs X E C a tx) (hb : XSs X E C b ty) : XS X E C (.If c a b pos) (xIf tc tx ty) := by
  obtain ⟨t0, p0, l0⟩ := hc
  obtain ⟨t1, p1, l1⟩ := ha
  obtain ⟨t2, p2, l2⟩ := hb
  refine ⟨_, G7 p0 p1 p2, fun σ H ρ μ Xk D S h wsh => ?_⟩
  refine l0 σ H ρ μ _ _ S h fun c μ1 H1 e1 S1 h1 => ?_
  cases c with
  | true => exact rN (l1 σ H1 ρ μ1 Xk D S1 (by simpa using h1) (wsh.on e1))
  | false => exact rX (l2 σ H1 ρ μ1 Xk D S1 (by simpa using h1) (wsh.on e1))
theorem de (h : XS X E C st tx) : XSs X E C (st :: sts) tx := by
  obtain ⟨t1, p1, l1⟩ := h
  exact ⟨_, rL p1 vc, fun σ H ρ μ Xk D S h wsh => l1 σ H ρ μ Xk _ S h wsh⟩
noncomputable def dY (td : DTS) (tx : DTX) : DTX := fun ρ μ Xk => td { nx := fun ρ' μ' => tx ρ' μ' Xk, rt := fun _ _ => False } ρ μ
theorem bD {td : DTS} (h : DS X st td) (hr : XSs X E C sts tx) : XSs X E C (st :: sts) (dY td tx) := by
  obtain ⟨t1, p1, l1⟩ := h
  obtain ⟨t2, p2, l2⟩ := hr
  refine ⟨_, rL p1 p2, fun σ H ρ μ Xk D S h wsh => ?_⟩
  refine l1 σ H ρ μ _ _ S h (fun σ' ρ' μ' H' e' S' q => ?_) (fun d u μ' H' e' ok r q => q.elim) (fun σ' ρ' μ' H' e' S' q => q.elim) (fun σ' ρ' μ' H' e' S' q => q.elim)
  exact l2 σ' H' ρ' μ' Xk D S' q (wsh.on e')
end
theorem _root_.L2.Fun.okX {P : Program} {w : World} {K : PySem.W.Frag} {mg : Str → Option Value} {base : Heap} {x qual : Str} {st : Stmt} {f : Addr} {fd : FuncData} {N ps : List Str} {k : Nat} {C : Value} {dsp : XSp} (F : Fun K x qual st f fd) (S : aR N ps (aw st)) (len : ∀ ds μ Xk, dsp ds μ Xk → ds.length = ps.length)
    (hbody : ∀ (cdv : Value) (A : Around) (outer : List Env) (s : Shared) (H : Hp) (E : XK), eN k (A.deeper (envOfC qual (aw st) s.heap.objs.size f cdv)) →
      ∃ tx, XSs (jN (CX1 P w) P w K mg base N qual (aw st) f cdv A outer s H E) E C (d7 st) tx ∧ ∀ ds μ Xk, dsp ds μ Xk → tx (aS N ds) μ Xk) : bS P w K mg base (CX1 P w) (k + 1) f fd ps (spX K C dsp) := by
  obtain ⟨oc, od, kV, doc, pm, an, cdv, ct, osl, rfl, lk, hcd⟩ := F.ex
  refine Ei lk hcd S (fun vs H Q E h => ?_) fun A outer s H vs Q E hr hsp => ?_
  · obtain ⟨ds, μ, Xk, _, r, h, _⟩ := h
    rw [← r.length]; exact len ds μ Xk h
  · obtain ⟨tx, ⟨t, p, l⟩, q⟩ := hbody cdv A outer s H E hr
    obtain ⟨ds, μ, Xk, ok, r, h, wsh⟩ := hsp
    exact ⟨t, p, l (start N vs) H (aS N ds) μ Xk _ ⟨ok, p6 r⟩ (q ds μ Xk h) wsh⟩
open PySem PySem.Spec PyProof.Rows
theorem Gp {K : PySem.W.Frag} {h : Heap} {C : Addr} {bmB : List Value} {newId : String} (X : K.In h) (q : PySem.W.excIn K C bmB newId = true) :
    ∃ bm N nm q bs hdct sn sub ab col dd k0 k1 k2 k3 k5 mN, h.get? C = some (excClassObj nm q C N bs bm hdct sn sub ab col dd k0 k1 k2 k3 k5 newId) ∧ h.Ns N mN ∧ mN "__init__" = none ∧ OwnTail h bmB bm := by
  unfold PySem.W.excIn at q
  split at q; rotate_left; · cases q
  rename_i dd cd sl ho; split at q; rotate_left; · cases q
  rename_i C' bm k0 k1 k2 k3 n k5 hm hs
  simp only [Bool.and_eq_true, beq_iff_eq, Bool.not_eq_true'] at q; obtain ⟨⟨⟨⟨⟨rfl, rfl⟩, hdel⟩, ht⟩, hok⟩, hni⟩ := q
  obtain ⟨nm, bs, mro, ns, qn, hd, sn, sub, ab, col, del⟩ := cd; dsimp only at hm hdel hok hni; subst hm hdel
  obtain rfl : sl = #[k0, k1, k2, k3, some (.builtin n), k5] := by obtain ⟨l⟩ := sl; exact congrArg Array.mk hs
  exact ⟨bm, ns, nm, qn, bs, hd, sn, sub, ab, col, dd, k0, k1, k2, k3, k5, _, X _ _ ho, .of_isNs (PySem.W.isNs_of_in X hok), PySem.W.nsMap_none_of_in X hok hni, PySem.W.tail_of_in X ht⟩
section
variable {X : Cx} {E : XK} {x : Str} {C : Addr}
theorem oO {txt : Str} {j} {np kp cpos pos : Pos} (hx : XOk X E) (hg : Gl X x) (hm : X.mg x = some (.ref C)) (hq : PySem.W.excIn X.K C bmV "ValueError.__new__" = true) (hc : X.calm = true := by rfl) (hdb : (x == ("__debug__" : Str)) = false := by decide)
    (hs : starEach [.Constant (.str txt) j kp] X.env = [(false, eval (.Constant (.str txt) j kp) X.env)] := by rfl) :
    XS X E (.ref C) (.Raise (some (.Call (.Name x np) [.Constant (.str txt) j kp] [] cpos)) none pos) (fun _ μ Xk => Xk μ) := by
  refine ⟨fun D σ H => E (.ref C) none H, fun pins s σ H D I h => ?_, fun σ H ρ μ Xk D S h wsh => wsh μ H .refl S.mu h⟩
  obtain ⟨tl, N, nm, q, bs, hdct, sn, sub, ab, col, dd, k0, k1, k2, k3, k5, mN, hC, hN, hni, T⟩ := Gp I.mod.kin hq
  refine wpAny_Raise_call_subT (C := C) (nm := nm) (q := q) (N := N) (bs := bs) (bm := tl) (hdct := hdct) (sn := sn) (sub := sub) (ab := ab) (col := col) (dd := dd) (k0 := k0) (k1 := k1) (k2 := k2) (k3 := k3) (k5 := k5)
    PySem.F.excBase_ValueError (mN := mN) (T.hasType PySem.F.excBase_ValueError.hasBase) (I.ok.hd hc) (by rw [hs]; rfl) hni (mw I hg hm ⟨rfl, ?_⟩ hdb)
  have pa := cY (X := X) (es := []) (D7 (x := txt) (j := j) (pos := kp)) jP (by rw [hs]; rfl) cpos pins s σ H (fun vs H1 => vs.length = 1 ∧ H1 = H) I ⟨rfl, rfl⟩
  rw [hs] at pa ⊢
  refine Calls.evalArgs_plain (thn pa fun us s2 ⟨vs, H1, I1, r, l, e1⟩ => ?_)
  subst e1
  exact ⟨rfl, by rw [← r.length, l]; decide, I1.bk _ _ hC, hN.keeps I1.bk, T.keeps I1.bk, fun h' e hm' => hx.new pins σ H1 s2 e _ _ h' I1 hm' h⟩
end
open PySem PySem.Spec PyProof.Rows
structure tY (K : PySem.W.Frag) (C : Addr) : Prop where
  ga : PySem.W.findIn K (.ref C) "__getattribute__" = some (some (.builtin "BaseException.__getattribute__"))
  gx : PySem.W.findIn K (.ref C) "__getattr__" = some none
  cl : PySem.W.findIn K (.ref C) "__class__" = some (some (.builtin "object.__class__"))
  ob : PySem.W.mroIn K C (.type "object") = some true
  be : PySem.W.mroIn K C (.type "BaseException") = some true
  ci : (PySem.W.clsIn K C).isSome = true
section
variable {prog : Program} {w : World} {A : Around} {E : Value → Shared → Prop} {h : Heap} {g : Array GenState} {d : Drawn} {t : Nat} {os : OsState} {a C : Addr} {o : Obj} {K : PySem.W.Frag}
theorem Gf {R : Result → Shared → Prop} (X : K.In h) (Z : tY K C) (hx : h.get? a = some o) (hc : o.cls = .ref C) (hq : R (.ok (.ret (.ref C))) ⟨h, g, d, t, os⟩) :
    codeAny (model prog w) A (.call (.builtin "getset_descriptor.__get__") ⟨[.builtin "object.__class__", .ref a, .ref C], []⟩) R ⟨h, g, d, t, os⟩ := by
  have hT5 : (⟨h, g, d, t, os⟩ : Shared).TypeIs (.builtin "object.__class__") "getset_descriptor" := F.typeOf_object_class
  have sub : ∀ {A' : Around} {Q' : Bool → Shared → Prop} {E' : Value → Shared → Prop} {g' d' t' os'}, Q' true ⟨h, g', d', t', os'⟩ → wpAny (model prog w) A' (isSubtype (.ref C) (.type (".".intercalate ("object.__class__".cutAt '.').dropLast))) Q' E' ⟨h, g', d', t', os'⟩ := fun q => by
    rw [F.owner_object_class]; exact (PySem.W.looks_mroIn X Z.ob).here q
  refine codeAny_call_builtin F.slot_gs_get.plain F.entry_gs_get (F.slot_gs_get.check _ _ _ _ _ _ _ _ hT5 (F.args_gs_get _ _ _) ?_)
  repeat (any_goals (first | assumption | (with_reducible refine wpAny_loadPart_at hx ?_; rw [hc]) | with_reducible refine sub ?_ | wp_step))
  refine ⟨Code.quiet_builtin _ (by decide +kernel), codeAny_builtin F.entry_object_class ?_⟩
  repeat (any_goals (first | assumption | (with_reducible refine wpAny_loadPart_at hx ?_; rw [hc]) | wp_step))
theorem B4 {tk : Tok} {Q : Fin → Shared → Prop} (X : K.In h) (Z : tY K C) (hx : h.get? a = some o) (hc : o.cls = .ref C) (hq : Q (.done (.ret (.ref C))) ⟨h, g, d, t, os⟩) :
    wpAny (model prog w) A (Builtin.«object.__getattribute__» ⟨[.ref a, .str "__class__" tk], []⟩) Q E ⟨h, g, d, t, os⟩ := by
  have hT5 : (⟨h, g, d, t, os⟩ : Shared).TypeIs (.builtin "object.__class__") "getset_descriptor" := F.typeOf_object_class
  have f5 := F.typeOf_object_class; have f6 := F.slot_gs_get.lookup; have f7 := F.slot_gs_set.lookup
  have lk : ∀ {A' : Around} {Q' : Option Value → Shared → Prop} {E' : Value → Shared → Prop} {g' d' t' os'}, Q' (some (.builtin "object.__class__")) ⟨h, g', d', t', os'⟩ → wpAny (model prog w) A' (typeLookup (.ref C) "__class__") Q' E' ⟨h, g', d', t', os'⟩ := fun q => (PySem.W.looks_findIn X Z.cl).here q
  repeat (any_goals (first | assumption | (with_reducible refine wpAny_loadPart_at hx ?_; rw [hc]) | with_reducible refine lk ?_ | wp_step))
  refine Gf X Z hx hc ?_
  repeat (any_goals (first | assumption | wp_step))
theorem BZ {nv : Value} {Q : Unit → Shared → Prop} (X : K.In h) (Z : tY K C) (hx : h.get? a = some o) (hc : o.cls = .ref C) (hq : Q () ⟨h, g, d, t, os⟩) : wpAny (model prog w) A (checkBuiltinCall "BaseException.__getattribute__" ⟨[.ref a, nv], []⟩) Q E ⟨h, g, d, t, os⟩ := by
  have hk : builtinKind "BaseException.__getattribute__" = some .slot := by decide +kernel
  have hsp : splitId "BaseException.__getattribute__" = some ("BaseException", "__getattribute__") := by decide +kernel
  have ha := F.args_bexc_ga (.ref a) nv
  have sub : ∀ {A' : Around} {Q' : Bool → Shared → Prop} {E' : Value → Shared → Prop} {g' d' t' os'}, Q' true ⟨h, g', d', t', os'⟩ → wpAny (model prog w) A' (isSubtype (.ref C) (.type "BaseException")) Q' E' ⟨h, g', d', t', os'⟩ := fun q => (PySem.W.looks_mroIn X Z.be).here q
  simp only [checkBuiltinCall, hk, hsp]
  refine wpAny_bind ?_
  unfold isInstance
  repeat (first | (with_reducible refine wpAny_loadPart_at hx ?_; rw [hc]) | with_reducible refine sub ?_ | wp_step)
  exact hq
theorem EL {tk : Tok} {R : Result → Shared → Prop} (X : K.In h) (Z : tY K C) (hx : h.get? a = some o) (hc : o.cls = .ref C) (hq : R (.ok (.ret (.ref C))) ⟨h, g, d, t, os⟩) :
    codeAny (model prog w) A (.call (.builtin "BaseException.__getattribute__") ⟨[.ref a, .str "__class__" tk], []⟩) R ⟨h, g, d, t, os⟩ :=
  codeAny_call_builtin F.attr_ValueError.ga.plain F.entry_bexc_ga (BZ X Z hx hc (B4 X Z hx hc hq))
theorem Iz {tk : Tok} {Q : Value → Shared → Prop} (X : K.In h) (Z : tY K C) (hx : h.get? a = some o) (hc : o.cls = .ref C) (hq : Q (.ref C) ⟨h, g, d, t, os⟩) : wpAny (model prog w) A (getAttrBy (.ref a) (.str "__class__" tk) false) Q E ⟨h, g, d, t, os⟩ := by
  have f3 := F.attr_ValueError.ga.bind (.ref a)
  have hx2 : (Value.builtin "BaseException.__getattribute__" == Value.builtin "object.__getattribute__") = false := by decide +kernel
  have hx1 : (onTheHeap (Value.ref C) && Value.builtin "BaseException.__getattribute__" == Value.builtin "object.__getattribute__") = false := by rw [hx2]; rfl
  have lk : ∀ {A' : Around} {Q' : Option Value → Shared → Prop} {E' : Value → Shared → Prop} {g' d' t' os'}, Q' (some (.builtin "BaseException.__getattribute__")) ⟨h, g', d', t', os'⟩ → wpAny (model prog w) A' (typeLookup (.ref C) "__getattribute__") Q' E' ⟨h, g', d', t', os'⟩ := fun q => (PySem.W.looks_findIn X Z.ga).here q
  have lx : ∀ {A' : Around} {Q' : Option Value → Shared → Prop} {E' : Value → Shared → Prop} {g' d' t' os'}, Q' none ⟨h, g', d', t', os'⟩ → wpAny (model prog w) A' (typeLookup (.ref C) "__getattr__") Q' E' ⟨h, g', d', t', os'⟩ := fun q => (PySem.W.looks_findIn X Z.gx).here q
  repeat (any_goals (first | assumption | (with_reducible refine wpAny_loadPart_at hx ?_; rw [hc]) | with_reducible refine lk ?_ | with_reducible refine lx ?_ | wp_step))
  refine EL X Z hx hc ?_
  repeat (any_goals (first | assumption | wp_step))
theorem Dw {Q : Option Value → Shared → Prop} (X : K.In h) (Z : tY K C) (hx : h.get? a = some o) (hc : o.cls = .ref C) (hq : Q (some (.ref C)) ⟨h, g, d, t + 1, os⟩) : wpAny (model prog w) A (getAttr? (.ref a) "__class__") Q E ⟨h, g, d, t, os⟩ := by
  unfold getAttr? getAttrBy?
  repeat (any_goals (first | assumption | with_reducible apply Iz X Z hx hc | wp_step))
theorem Et (Z : tY K C) : PySem.W.KitX K (.ref a) (.ref C) (fun h => ∃ o, h.get? a = some o ∧ o.cls = .ref C) where
  ty := fun M h X ⟨o, e, c⟩ => by
    intro A' Q' E' s' k q
    unfold typeOf
    refine wpAny_bind (wpAny_loadPart (k _ _ e) ?_)
    rw [c]
    exact wpAny_pure q
  it := fun M h X _ => by
    have z := Z.ci
    unfold PySem.W.clsIn at z
    split at z
    · rename_i ho
      intro A' Q' E' s' k q
      unfold isType loadHead
      exact wpAny_bind (wpAny_loadPart (k _ _ (X _ _ ho)) (wpAny_pure q))
    · cases z
  ne := fun h tp dd its n sl X htp => by
    refine Bool.eq_false_iff.mpr fun q => ?_
    obtain rfl : C = tp := Value.ref.inj (beq_iff_eq.mp q)
    have z := Z.ci
    unfold PySem.W.clsIn at z
    split at z
    · rename_i ho; have z' := (X _ _ ho).symm.trans htp; cases z'
    · cases z
  ca := fun {_ _ _ _ _ s} X ⟨o, e, c⟩ k => by obtain ⟨h, g, d, t, os⟩ := s; exact Dw X Z e c k
end
open PySem PySem.Spec PyProof.Rows
theorem GU {K : PySem.W.Frag} {h : Heap} {c P : Addr} {o : Obj} {q : Str} (X : K.In h) (l : K.lookup c = some o) (e : bq o = some (P, q)) (ne : c ≠ P) : PySem.W.CodeHd h c P := by
  have ho := X _ _ l
  unfold bq at e
  split at e
  · rename_i cn vs hcls hd
    split at e
    · rename_i hcn
      subst hcn
      split at e
      · rename_i q' t' f1 f2 f3 f4 f5 f6 P' f7 f8 e1 e7 e9 e10 e11 e18
        split at e
        · cases e
          refine ⟨o, vs, f7, f8, f2, f3, f4, f5, f6, ho, hcls, hd, e11, ?_, ?_, ?_, ?_, ?_, ne⟩
          · rw [Array.getD_eq_getD_getElem?, e11]; rfl
          · rw [Array.getD_eq_getD_getElem?, e18]; rfl
          · rw [Array.getD_eq_getD_getElem?, e7]; rfl
          · rw [Array.getD_eq_getD_getElem?, e9]; rfl
          · rw [Array.getD_eq_getD_getElem?, e10]; rfl
        · cases e
      · cases e
    · cases e
  · cases e
noncomputable def JB (K : PySem.W.Frag) (mg : Str → Option Value) : Prop := ∃ bm ob, mg "__builtins__" = some (.ref bm) ∧ bm ≠ builtinsNs ∧ K.lookup bm = some ob ∧ ob.cls = .type "module" ∧ ob.dict = some builtinsNs ∧ ob.data = .plain
theorem B1 {pos : Pos} {w : Value} {l3 : List Value} : ∀ {l : List Value}, TriplesOk l → codeAmong pos l = some w → codeAmong pos (l ++ l3) = some w := by
  intro l
  fun_induction TriplesOk l with
  | case1 => intro _ e; simp [codeAmong] at e
  | case2 a t b u x rest ih =>
    intro h e
    simp only [List.cons_append, codeAmong] at e ⊢
    split at e
    · rename_i hc; rw [if_pos hc]; exact e
    · rename_i hc; rw [if_neg hc]; exact ih h e
  | case3 l h1 h2 => intro h; exact h.elim
theorem CJ {pos lpos : Pos} {cv : Value} {c : Value} : ∀ {l : List Value}, TriplesOk l → codeAmong pos l = none → codeAmong pos (l ++ [rawInt lpos.line, rawInt lpos.col, c]) = some cv → cv = c := by
  intro l
  fun_induction TriplesOk l with
  | case1 =>
    intro _ _ e
    simp only [List.nil_append, codeAmong, rawInt] at e
    split at e
    · exact (Option.some.inj e).symm
    · cases e
  | case2 a t b u x rest ih =>
    intro h n e
    simp only [List.cons_append, codeAmong] at n e
    split at n
    · cases n
    · rename_i hc; rw [if_neg hc] at e; exact ih h n e
  | case3 l h1 h2 => intro h; exact h.elim
section
variable {X : Cx} {pins : List (Addr × Obj)} {σ : St} {H : Hp} {s : Shared}
theorem Cy {P c' : Addr} {ps : Array Value} {l3 : List Value} {h' : Heap} {tk : Nat} {φ : Heap → Prop} (I : Inv X pins σ H s) (hP : H P = some (.tbl ps)) (hx : Heap.ExtBut P s.heap h') (ht : h'.get? P = some (PySem.W.tabObj (ps ++ l3.toArray))) (hc : s.heap.objs.size ≤ c') (hφ : φ h') (hc' : ∃ o, h'.get? c' = some o) (hst : ∀ h1 h2 : Heap, φ h1 → (∀ o, h1.get? c' = some o → h2.get? c' = some o) → φ h2) :
    Inv X pins σ (upd (upd H P (.tbl (ps ++ l3.toArray))) c' (.ext φ)) { s with heap := h', toks := tk } := by
  have fc : H c' = none := I.hok.fresh hc
  have nPc : P ≠ c' := aO hP fc
  have low : ∀ b o, s.heap.get? b = some o → b ≠ c' := fun b o e z => absurd (Heap.lt_size e) (by rw [z]; exact Nat.not_lt.mpr hc)
  have old : ∀ b, b ≠ P → b ≠ c' → upd (upd H P (.tbl (ps ++ l3.toArray))) c' (.ext φ) b = H b := fun b h1 h2 => by rw [bj h2, bj h1]
  have atP : upd (upd H P (.tbl (ps ++ l3.toArray))) c' (.ext φ) P = some (.tbl (ps ++ l3.toArray)) := by rw [bj nPc]; exact dj
  refine I.un (t' := tk) ⟨fun b o e n _ _ => hx b o (fun z => by rw [z, hP] at n; cases n) e, fun b o e n _ _ => ⟨o.slots, hx b o (fun z => by rw [z, hP] at n; cases n) e⟩, fun b o e n _ => ?_, fun b o e _ => ?_, fun b xs e => ?_, fun b o u e => ?_, fun b qs e => ?_⟩ fun b o e => ?_
  · rw [old b (fun z => by rw [z, hP] at n; cases n) (low b o e)]; exact n
  · by_cases z : b = P
    · exact ⟨_, by rw [z]; exact ht⟩
    · exact ⟨o, hx b o z e⟩
  · rw [old b (fun z => by rw [z, hP] at e; cases e) (aO e fc)]; exact e
  · rw [old b (fun z => by rw [z, hP] at e; cases e) (aO e fc)]; exact e
  · by_cases z : b = P
    · rw [z] at e; rw [hP] at e; cases e
      exact ⟨l3.toArray, by rw [z]; exact atP⟩
    · exact ⟨#[], by rw [old b z (aO e fc)]; simpa using e⟩
  · by_cases zc : b = c'
    · subst zc
      rw [dj] at e; cases e
      exact ⟨hφ, hc', hst⟩
    · by_cases z : b = P
      · subst z
        rw [atP] at e; cases e
        exact ht
      · rw [old b z zc] at e
        refine (I.hok b o e).tQ (fun d u hd q => hx d u ?_ q) (fun d q => ?_) fun d xs q => ?_
        · rcases hd with rfl | hd
          · exact z
          · exact fun y => by rw [y, hP] at hd; cases hd
        · rw [old d (fun y => by rw [y, hP] at q; cases q) (aO q fc)]; exact q
        · rw [old d (fun y => by rw [y, hP] at q; cases q) (aO q fc)]; exact q
theorem D9 {K : PySem.W.Frag} {P c' : Addr} {ps : Array Value} {q : Str} {lpos : Pos} (t : uI K H) (hP : H P = some (.tbl ps)) (htr : TriplesOk ps.toList) (hcs : ∀ pos cv, codeAmong pos ps.toList = some cv → ∃ c, cv = .ref c ∧ H c = some (.ext (codeAt c (bO q)))) (hf : codeAmong lpos ps.toList = none) (fc : H c' = none)
    (hu : ∀ c2 o2 q2, K.lookup c2 = some o2 → bq o2 = some (P, q2) → q2 = q) :
    uI K (upd (upd H P (.tbl (ps ++ [rawInt lpos.line, rawInt lpos.col, .ref c'].toArray))) c' (.ext (codeAt c' (bO q)))) := fun c2 o2 P2 q2 l2 e2 => by
  have nPc : P ≠ c' := aO hP fc
  have old : ∀ b, b ≠ P → b ≠ c' → upd (upd H P (.tbl (ps ++ [rawInt lpos.line, rawInt lpos.col, .ref c'].toArray))) c' (.ext (codeAt c' (bO q))) b = H b := fun b h1 h2 => by rw [bj h2, bj h1]
  have cold : ∀ c qq, H c = some (.ext (codeAt c qq)) → upd (upd H P (.tbl (ps ++ [rawInt lpos.line, rawInt lpos.col, .ref c'].toArray))) c' (.ext (codeAt c' (bO q))) c = some (.ext (codeAt c qq)) := fun c qq h => by rw [old c (fun z => by rw [z, hP] at h; cases h) (aO h fc)]; exact h
  by_cases z : P2 = P
  · subst z
    obtain rfl := hu c2 o2 q2 l2 e2
    refine ⟨_, by rw [bj nPc]; exact dj, by rw [Array.toList_append]; exact TriplesOk_snoc _ _ _ _ htr, fun pos cv e => ?_⟩
    rw [Array.toList_append] at e
    cases hp : codeAmong pos ps.toList with
    | some w =>
      obtain ⟨c, hw, hc⟩ := hcs pos w hp
      have : codeAmong pos (ps.toList ++ [rawInt lpos.line, rawInt lpos.col, .ref c']) = some w := B1 htr hp
      have e' : some w = some cv := this.symm.trans e
      cases e'
      exact ⟨c, hw, cold c _ hc⟩
    | none =>
      have := CJ htr hp (show codeAmong pos (ps.toList ++ [rawInt lpos.line, rawInt lpos.col, .ref c']) = some cv from e)
      exact ⟨c', this, dj⟩
  · obtain ⟨qs, a1, a2, a3⟩ := t c2 o2 P2 q2 l2 e2
    exact ⟨qs, by rw [old P2 z (aO a1 fc)]; exact a1, a2, fun pos cv e => let ⟨c, w1, w2⟩ := a3 pos cv e; ⟨c, w1, cold c _ w2⟩⟩
theorem Jw {μ : Mu} {params : Arguments} {body : Expr} {lsc : Scope} {lpos : Pos} {cl : List (Str × Addr)} {c P : Addr} {o : Obj} {q : Str} {Qd : Value → Shared → Prop} (I : Inv X pins σ H s) (ok : bK X.K μ H) (hcode : X.env.code = .ref c) (hl : X.K.lookup c = some o)
    (hlc : bq o = some (P, q)) (hu : ∀ c2 o2 q2, X.K.lookup c2 = some o2 → bq o2 = some (P, q2) → q2 = q) (hq : X.env.qual = q ++ ".<locals>.") (hB : JB X.K X.mg) (hcl : closureFor lsc X.env = pure cl) (hdef : defaultsOf params X.env = ([], []))
    (k : ∀ (fa c1 : Addr) (ctv pm : Value) (H1 : Hp) (s1 : Shared), Inv X pins σ H1 s1 → Ext X.K μ H μ H1 → bK X.K μ H1 → s1.heap.get? fa = some { cls := .type "function", data := .func (PySem.W.kla_fn "<lambda>" (bO q) params body lsc cl pm (.ref c1) ctv) } → H1 fa = none → fa ∉ frs X.stack → H1 c1 = some (.ext (codeAt c1 (bO q))) → Qd (.ref fa) s1) :
    wpAny (model X.prog X.w) X.A (eval (.Lambda params body lsc lpos) X.env) Qd X.xe s := by
  refine PySem.W.kla_eval hdef ?_
  rw [hq]
  obtain ⟨ps, hP, htr, hcs⟩ := ok.tab c o P q hl hlc
  have getP : s.heap.get? P = some (PySem.W.tabObj ps) := I.hok P _ hP
  have nK : ∀ b ob, X.K.lookup b = some ob → b ≠ P := fun b ob e z => by
    have := (I.bs b ob (I.mod.kin b ob e)).2
    rw [z, hP] at this; cases this
  have C := GU I.kIn hl hlc (nK c o hl)
  have hg : s.heap.Ns mainGlobals X.mg := I.mod.glob.keeps I.bk
  have hgP : mainGlobals ≠ P := fun z => by
    obtain ⟨og, es, ep, e, d, _⟩ := hg
    rw [z, getP] at e; cases e; cases d
  have hb : s.heap.BuiltinsAt X.mg P := by
    obtain ⟨bm, ob, b1, b2, b3, b4, b5, b6⟩ := hB
    refine ⟨bm, ob, b1, b2, fun z => ?_, nK bm ob b3, I.kIn _ _ b3, b4, b5, b6⟩
    obtain ⟨og, es, ep, e, d, _⟩ := hg
    rw [← z, I.kIn _ _ b3] at e; cases e; rw [b6] at d; cases d
  have stk : ∀ b, s.heap.objs.size ≤ b → b ∉ frs X.stack := fun b hb hm => by
    obtain ⟨_, ob, e, _⟩ := I.stack.mem hm
    exact absurd (Heap.lt_size e) (Nat.not_lt.mpr hb)
  cases hf : codeAmong lpos ps.toList with
  | some cv =>
    obtain ⟨c1, rfl, hc1⟩ := hcs lpos cv hf
    refine PySem.W.kla_makeFunctionHit hcl I.ok.glob hg hcode C getP htr hf hb fun ctv h' tk hk hsz => ?_
    have I2 : Inv X pins σ H { s with heap := h'.push { cls := .type "function", data := .func (PySem.W.kla_fn "<lambda>" (bO q) params body lsc cl ((X.mg "__name__").getD .none) (.ref c1) ctv) }, toks := tk } := I.kept (t' := tk) fun b u e => Heap.get?_push_of_some _ (hk b u e)
    exact k h'.objs.size c1 ctv _ H _ I2 .refl ok (Heap.get?_push_size _ rfl) (I.hok.fresh hsz) (stk _ hsz) hc1
  | none =>
    refine PySem.W.kla_makeFunction hcl I.ok.glob hg hcode C getP htr hf hgP hb fun c' ctv h' tk hx hge hlt hrec htb => ?_
    have hca : codeAt c' (bO q) h' := by
      obtain ⟨c2, oc, vs, t, e2, g2, d2, v2⟩ := hrec
      cases e2
      exact ⟨oc, vs, t, g2, d2, v2⟩
    have fc : H c' = none := I.hok.fresh hge
    have I1 : Inv X pins σ (upd (upd H P (.tbl (ps ++ [rawInt lpos.line, rawInt lpos.col, .ref c'].toArray))) c' (.ext (codeAt c' (bO q)))) { s with heap := h', toks := tk } := Cy (φ := codeAt c' (bO q)) I hP hx htb hge hca (let ⟨oc, _, _, g2, _⟩ := hca; ⟨oc, g2⟩) (fun h1 h2 ⟨oc, vs, t, g2, d2, v2⟩ kk => ⟨oc, vs, t, kk _ g2, d2, v2⟩)
    have I2 : Inv X pins σ (upd (upd H P (.tbl (ps ++ [rawInt lpos.line, rawInt lpos.col, .ref c'].toArray))) c' (.ext (codeAt c' (bO q)))) { s with heap := h'.push { cls := .type "function", data := .func (PySem.W.kla_fn "<lambda>" (bO q) params body lsc cl ((X.mg "__name__").getD .none) (.ref c') ctv) }, toks := tk } := I1.kept (t' := tk) fun b u e => Heap.get?_push_of_some _ e
    have old : ∀ b, b ≠ P → b ≠ c' → upd (upd H P (.tbl (ps ++ [rawInt lpos.line, rawInt lpos.col, .ref c'].toArray))) c' (.ext (codeAt c' (bO q))) b = H b := fun b h1 h2 => by rw [bj h2, bj h1]
    have nPc : P ≠ c' := aO hP fc
    have ex : Ext X.K μ H μ (upd (upd H P (.tbl (ps ++ [rawInt lpos.line, rawInt lpos.col, .ref c'].toArray))) c' (.ext (codeAt c' (bO q)))) := ⟨fun b u e n nt => by rw [old b (fun z => by rw [z, hP] at e; cases e; exact nt) (aO e fc)]; exact e, fun b qs e n => by
      by_cases z : b = P
      · exact ⟨_, by rw [z, bj nPc]; exact dj⟩
      · exact ⟨qs, by rw [old b z (aO e fc)]; exact e⟩, fun _ ds e => ⟨ds, e⟩, fun _ e _ => e⟩
    have mu : bK X.K μ (upd (upd H P (.tbl (ps ++ [rawInt lpos.line, rawInt lpos.col, .ref c'].toArray))) c' (.ext (codeAt c' (bO q)))) := ⟨fun a ds e => by
      obtain ⟨xs, h1, h2⟩ := ok a ds e
      exact ⟨xs, by rw [old a (fun z => by rw [z, hP] at h1; cases h1) (aO h1 fc)]; exact h1, h2.ext ok ex⟩, D9 ok.tab hP htr hcs hf fc hu⟩
    have hfr : s.heap.objs.size ≤ h'.objs.size := Nat.le_trans hge (Nat.le_of_lt hlt)
    refine k h'.objs.size c' ctv _ _ _ I2 ex mu (Heap.get?_push_size _ rfl) ?_ (stk _ hfr) dj
    have : h'.objs.size ≠ c' := Nat.ne_of_gt hlt
    by_cases z : h'.objs.size = P
    · exact absurd (Heap.lt_size getP) (by rw [← z]; exact Nat.not_lt.mpr hfr)
    · rw [old _ z this]; exact I.hok.fresh hfr
end
open PySem PySem.Spec PyProof.Rows
def pG (lsc : Scope) (cl : List (Str × Addr)) (q : Str) (fa c1 L : Addr) : Env := { scope := lsc, locals := L, globals := mainGlobals, cells := cl, qual := q ++ ".<locals>.", func := some fa, code := .ref c1, frame := some L, builtins := builtinsNs }
def qo (P : Program) (w : World) (K : PySem.W.Frag) (mg : Str → Option Value) (base : Heap) (N : List Str) (lsc : Scope) (cl : List (Str × Addr)) (q : Str) (fa c1 : Addr) (A : Around) (outer : List Env) (s : Shared) (H : Hp) (E : XK) : Cx where
  prog := P
  w := w
  K := K
  mg := mg
  base := base
  A := A.deeper (pG lsc cl q fa c1 s.heap.objs.size)
  N := N
  s₀ := s
  H₀ := H
  env := pG lsc cl q fa c1 s.heap.objs.size
  outer := outer
  stack := pG lsc cl q fa c1 s.heap.objs.size :: outer
  ex := []
  calm := true
  fn := fun _ => false
  pn := []
  xe := fun e s' => wpAny (model P w) (A.deeper (pG lsc cl q fa c1 s.heap.objs.size)) (leaving (pG lsc cl q fa c1 s.heap.objs.size) e) (fun _ s'' => CX1 P w outer H s E e s'') (fun e' s'' => CX1 P w outer H s E e' s'') s'
section
variable {P : Program} {w : World} {K : PySem.W.Frag} {mg : Str → Option Value} {base : Heap} {N : List Str} {lsc : Scope} {cl : List (Str × Addr)} {q : Str} {fa c1 : Addr} {A : Around} {outer : List Env} {s : Shared} {H : Hp} {E : XK} {σ : St} {k : Nat} {params : Arguments} {body : Expr} {pm ctv : Value} {t : TE}
theorem wk : XOk (qo P w K mg base N lsc cl q fa c1 A outer s H E) E where
  new := fun pins σ H1 s1 ea cls vs h1 I hx qq => leave_new (X := qo P w K mg base N lsc cl q fa c1 A outer s H E) ⟨rfl, rfl, rfl⟩ I hx qq
  pas := fun pins σ H1 s1 e s' I h => vb (X := qo P w K mg base N lsc cl q fa c1 A outer s H E) ⟨rfl, rfl, rfl⟩ I h
structure Clo (lsc : Scope) (cl : List (Str × Addr)) (N : List Str) (σ : St) (h : Heap) (H : Hp) : Prop where
  cell : ∀ x c, cl.lookup x = some c → ∃ v, h.IsCell c v
  free : ∀ x c, cl.lookup x = some c → H c = none
  inj : ∀ x y c, cl.lookup x = some c → cl.lookup y = some c → x = y
  has : ∀ x, lsc.names.lookup x = some .cell ∨ lsc.names.lookup x = some .free → ∃ a, cl.lookup x = some a
  vals : ∀ (i : Nat) (x : Str) (v : V), N[i]? = some x → σ[i]? = some (some v) → Vis lsc x → ∃ u c, RelV v u ∧ lsc.names.lookup x = some .free ∧ cl.lookup x = some c ∧ h.IsCell c (some u)
  len : σ.length = N.length
theorem EC {Q : VK} (hk : lsc.kind = .function) (hco : lsc.isCoroutine = false) (hgen : lsc.isGenerator = false) (hcell : ∀ y ∈ lsc.names, y.2 ≠ .cell) (hr : eN (k + 1) A) (e0 : zp P w K mg base A outer s H)
    (ho : s.heap.get? fa = some { cls := .type "function", data := .func (PySem.W.kla_fn "<lambda>" q params body lsc cl pm (.ref c1) ctv) }) (hcd : H c1 = some (.ext (codeAt c1 q))) (hbind : bindArgs (PySem.W.kla_fn "<lambda>" q params body lsc cl pm (.ref c1) ctv) ⟨[], []⟩ = pure [])
    (C : Clo lsc cl N σ s.heap H) (pe : PE (qo P w K mg base N lsc cl q fa c1 A outer s H E) body t) (ht : t σ H Q) :
    codeAny (model P w) A (.call (.ref fa) ⟨[], []⟩) (CR (CX1 P w) outer P w H s Q E) s := by
  have crec : s.heap.CodeRec (.ref c1) q := by
    obtain ⟨⟨o, vs, t, g, d, v⟩, _, _⟩ := e0.hok c1 _ hcd
    exact ⟨c1, o, vs, t, rfl, g, d, v⟩
  refine PySem.W.kla_callFunE hr.depth ho rfl hco hgen rfl crec ?_
  rw [hbind]
  refine wpAny_pure (wpAny_newFunctionEnv hcell (fun y hy => nomatch hy) (fun h₁ hns hsb => ?_) hk)
  have hk₁ : ∀ b o, s.heap.get? b = some o → h₁.get? b = some o := fun b o e => hsb.extBut b o (Nat.ne_of_lt (Heap.lt_size e)) (Heap.get?_push_of_some _ e)
  have lim : h₁.NoLimit := e0.mod.nolimit.keeps fun b o e => hk₁ b o (e0.bs b o e).1
  refine ⟨lim, ?_⟩
  have noA : ∀ b : Addr, b ∉ (qo P w K mg base N lsc cl q fa c1 A outer s H E).ex := fun b z => nomatch z
  have I : Inv (qo P w K mg base N lsc cl q fa c1 A outer s H E) [] σ H { s with heap := h₁, toks := s.toks + ([] : List (Str × Value)).length } := by
    refine ⟨⟨e0.mod, hk, rfl, rfl, Nat.le_refl _, C.inj, C.has, fun _ _ z => (nomatch z), fun _ => hr.hd, .inl hr.hd, Around.frames_deeper e0.frames, .inr ⟨rfl, rfl⟩, fun b z => absurd z (noA b), e0.bs, e0.bsz, fun b _ _ => noA b, fun b z => absurd z (noA b), e0.nk, e0.frf⟩,
      rfl, e0.bare, Un.kept hk₁, ⟨_, hns, fun i x v h1 h2 h3 => ?_⟩, fun x c h => ?_, e0.hok.fresh (Nat.le_refl _), C.free, fun p hp => (nomatch hp), e0.hok.kept hk₁, C.len⟩
    · obtain ⟨u, c, r, f1, f2, o, f3, f4⟩ := C.vals i x v h1 h2 h3
      exact ⟨u, r, .inr ⟨.inr f1, c, f2, o, hk₁ _ _ f3, f4⟩⟩
    · obtain ⟨v, o, f3, f4⟩ := C.cell x c h
      exact ⟨v, o, hk₁ _ _ f3, f4⟩
  show codeAny _ _ (.expr body (pG lsc cl q fa c1 s.heap.objs.size)) _ _
  refine PySem.W.kla_codeExpr (wpAny_mono (pe [] _ σ H Q I ht) (fun v s' hv => ?_) fun e s' hs => hs)
  obtain ⟨x, H', J, r, qq⟩ := hv
  exact ⟨x, H', J.os, J.bare, J.base, J.hok, r, qq⟩
end
open PySem PySem.Spec PyProof.Rows
def cxH (X : Cx) (ea : Addr) (oe : Obj) : Cx := { X with A := X.A.mark (some (.ref ea)), calm := false, pn := (ea, oe) :: X.pn, xe := fun _ _ => False }
section
variable {X : Cx} {pins : List (Addr × Obj)} {σ : St} {H : Hp} {s : Shared} {O : Addr → Prop} {ea : Addr} {oe : Obj} {vs : Array Value}
theorem we {h' : Heap} (hF : Frm X) (I : Inv X pins σ H s) (k : Kp O (frs (X.env :: X.outer)) s.heap h') (hO : ∀ b o, X.s₀.heap.get? b = some o → O b) (ht : ∀ b, H b ≠ none → O b) (hp : ∀ p ∈ X.pn ++ pins, O p.1) : Inv X pins σ H { s with heap := h' } := by
  have cellK : ∀ c v, s.heap.IsCell c v → h'.IsCell c v := fun c v ⟨o, e, d⟩ => by
    obtain ⟨sl, e'⟩ := k.slot c o e fun vs z => by rw [d] at z; cases z
    exact ⟨_, e', d⟩
  refine ⟨I.ok, I.os, I.bare, ?_, ?_, fun x c e => let ⟨v, q⟩ := I.cell x c e; ⟨v, cellK c v q⟩, I.free, I.ik, fun p hp' => ?_, HOk.fly I.hok k ht (yj hF I), I.len⟩
  · have k' := k
    rw [oJ hF] at k'
    have u := I.base
    rw [hF.ex] at u ⊢
    exact Un.fly u k' hO (A4 I) (wx I)
  · obtain ⟨m, ⟨o, es, ep, e, d, r⟩, hl⟩ := I.loc
    obtain ⟨sl, e'⟩ := k.slot _ o e fun vs z => by rw [d] at z; cases z
    refine ⟨m, ⟨_, es, ep, e', d, r⟩, fun i x v h1 h2 h3 => ?_⟩
    obtain ⟨u, ru, lk⟩ := hl i x v h1 h2 h3
    refine ⟨u, ru, ?_⟩
    rcases lk with z | ⟨z, c, z1, z2⟩
    · exact .inl z
    · exact .inr ⟨z, c, z1, cellK _ _ z2⟩
  · obtain ⟨a1, a2, a3, a4, a5⟩ := I.pin p hp'
    exact ⟨k.keep _ _ a1 (hp p hp') fun z => by
      rw [oJ hF] at z
      rcases List.mem_cons.mp z with z | z
      · exact a3 z
      · exact a4 z, a2, a3, a4, a5⟩
theorem Kk (I : Inv X pins σ H s) (he : s.heap.get? ea = some oe) (hH : H ea = none) (hL : ea ≠ X.env.locals) (hfs : ea ∉ X.fs) (hd : oe.data = .fields vs) (h2 : vs[2]? = some .none) : Inv (cxH X ea oe) pins σ H s :=
  ⟨⟨I.ok.mod, I.ok.kind, I.ok.glob, I.ok.blt, I.ok.above, I.ok.inj, I.ok.has, I.ok.cab, fun z => (nomatch z), .inr ⟨ea, oe, vs, rfl, List.mem_cons_self, hd, h2⟩, I.ok.frames, I.ok.stk, I.ok.exf, I.ok.bs, I.ok.bsz, I.ok.Ag, I.ok.C7, I.ok.nk, I.ok.frf⟩,
    I.os, I.bare, I.base, I.loc, I.cell, I.free, I.ik, fun p hp => by
      rcases List.mem_cons.mp (show p ∈ (ea, oe) :: (X.pn ++ pins) from hp) with z | z
      · rw [z]; exact ⟨he, hH, hL, hfs, fun v y => by rw [hd] at y; cases y⟩
      · exact I.pin p z, I.hok, I.len⟩
theorem Ep {h' : Heap} {m' : Str → Option Value} {tk : Nat} (ok : X.Ok) (I : Inv (cxH X ea oe) pins σ H s) (hn : h'.Ns X.env.locals m') (hs : Heap.SameBut X.env.locals s.heap h') (hx : X.ex = []) : Inv X pins (List.replicate X.N.length none) H { s with heap := h', toks := tk } := by
  have kp : ∀ b o, b ≠ X.env.locals → s.heap.get? b = some o → h'.get? b = some o := fun b o hb e => (hs.2 b hb).trans e
  have low : ∀ b o, X.s₀.heap.get? b = some o → b ≠ X.env.locals := fun b o e => Nat.ne_of_lt (Nat.lt_of_lt_of_le (Heap.lt_size e) ok.above)
  have cne : ∀ x c, X.env.cells.lookup x = some c → c ≠ X.env.locals := I.cne
  have u : Un X.fs X.ex X.H₀ H X.s₀.heap s.heap := I.base
  have hneL : ∀ b ∈ X.fs, b ≠ X.env.locals := fun b hb z => by
    obtain ⟨_, o, e, _⟩ := ok.nk.mem hb
    exact low b o e z
  refine ⟨ok, I.os, I.bare, ⟨fun b o e n f x => kp b o (low b o e) (u.keep b o e n f x), fun b o e n f x => ?_, u.free, fun b o e x => ?_, u.nu, u.mO, u.mK⟩, ⟨m', hn, fun i x v h1 h2 h3 => ?_⟩, fun x c e => ?_, I.free, I.ik, fun p hp => ?_, fun b o e => ?_, by simp⟩
  · obtain ⟨sl, e1⟩ := u.slot b o e n f x
    exact ⟨sl, kp b _ (low b o e) e1⟩
  · obtain ⟨o1, e1⟩ := u.there b o e x
    exact ⟨o1, kp b o1 (low b o e) e1⟩
  · rw [List.getElem?_replicate] at h2
    split at h2 <;> cases h2
  · obtain ⟨v, o, e1, d⟩ := I.cell x c e
    exact ⟨v, o, kp c o (cne x c e) e1, d⟩
  · obtain ⟨a1, a2, a3, a4, a5⟩ := I.pin p (List.mem_cons_of_mem _ hp)
    exact ⟨kp _ _ a3 a1, a2, a3, a4, a5⟩
  · refine (I.hok b o e).tQ (fun d v hd q => kp d v ?_ q) (fun _ q => q) fun _ _ q => q
    have fr : H X.env.locals = none := I.free
    rintro rfl
    rcases hd with z | z
    · rw [← z, fr] at e; cases e
    · rw [fr] at z; cases z
noncomputable def Ld (X : Cx) (di ni : Nat) (C : Value) (tS : Addr → Obj → TS) : TS := fun D σ H => ∃ (fa : Addr) (Good : Hp → Prop), σ[di]? = some (some (.ref fa)) ∧
  (∀ s1, Inv X [] σ H s1 → PySem.W.FnAt fa s1.heap ∧ codeAny (model X.prog X.w) X.A (.call (.ref fa) ⟨[], []⟩) (CR (CX1 X.prog X.w) X.stack X.prog X.w H s1 (fun _ _ => False) (fun cls _ H' => cls = C ∧ Good H')) s1) ∧
  ∀ H' ea oe, Good H' → oe.cls = C → H' ea = none → tS ea oe { nx := fun _ _ => False, rt := D.rt } (σ.set ni (some (.ref ea))) H'
theorem Iw {dn x n : Str} {dp cp ep np hp pos : Pos} {di ni : Nat} {b₀ : Stmt} {suite : List Stmt} {C FE : Addr} {tS : Addr → Obj → TS} (hF : Frm X) (hpn : X.pn = []) (hNd : X.N.Nodup) (hd : X.N[di]? = some dn) (hv : Vis X.env.scope dn) (hn : X.N[ni]? = some n) (hl : X.env.kindOf n = some .local) (hg : Gl X x) (hm : X.mg x = some (.ref FE))
    (hex : PySem.W.exmOne X.K (.ref C) (.ref FE) = some true) (hs : ∀ ea oe, PSs (cxH X ea oe) (b₀ :: suite) (tS ea oe)) (hdb : (dn == ("__debug__" : Str)) = false := by decide) (hdc : (dn == ("__classdict__" : Str)) = false := by decide) (hxb : (x == ("__debug__" : Str)) = false := by decide)
    (hsw : swapsWith (.Call (.Name dn dp) [] [] cp) none ep.line X.env = pure false := by rfl) (pins0 : List (Addr × Obj)) (s : Shared) (σ : St) (H : Hp) (D : Ends) (hp0 : pins0 = []) (I0 : Inv X pins0 σ H s) (h : Ld X di ni (.ref C) tS D σ H) :
    wpAny (model X.prog X.w) X.A (exec (.Try [.Expr (.Call (.Name dn dp) [] [] cp) ep] [.ExceptHandler (some (.Name x np)) (some n) (b₀ :: suite) hp] [] [] pos) X.env) (SP X pins0 D) X.xe s := by
  subst hp0
  obtain ⟨fa, Good, hσ, deed, good⟩ := h
  refine wpAny_Try_except (wpAny_execs_cons (wpAny_Expr_any (wpAny_Call_Name_kw (wpAny_mono (Ex (X := X.nox) hd hv hdb hdc [] s σ H (fun v H1 => v = .ref fa ∧ H1 = H) (I0.tJ _) ⟨.ref fa, hσ, rfl, rfl⟩) (fun v s1 hv1 => ?_) fun _ _ z => z.elim)) I0.quiet hsw))
  obtain ⟨y, H1, I1, r, e1, e2⟩ := hv1
  subst e1 e2
  cases r
  have I1 := I1.kG
  obtain ⟨fn, code⟩ := deed s1 I1
  refine PySem.W.callWith_F0 fn (wpAny_call (codeAny_mono code fun r s' hr => ?_))
  cases r with
  | ok fl =>
    cases fl with
    | ret u => obtain ⟨_, _, _, _, _, _, _, z⟩ := hr; exact z.elim
    | next => exact hr.elim
    | brk => exact hr.elim
    | cont => exact hr.elim
  | error e =>
    obtain ⟨O, ea, cls, H', rfl, os, bare, un, hok, hO, ht, F, rfl, gd⟩ := hr
    have I' : Inv X [] σ H' s' := I1.yH (ch := []) os un hok bare (fun b z => nomatch z)
    have fr : X.A.frames = some (X.env :: X.outer) := by rw [← hF.stk]; exact I0.ok.frames
    have hO0 : ∀ b o, X.s₀.heap.get? b = some o → O b := fun b o e => by
      obtain ⟨o', e'⟩ := I1.base.there b o e (by rw [hF.ex]; exact fun z => nomatch z)
      exact hO b o' e'
    have hpp : ∀ p ∈ X.pn ++ ([] : List (Addr × Obj)), O p.1 := fun p hp => by rw [hpn] at hp; exact nomatch hp
    have hLO : O X.env.locals := by
      obtain ⟨m, ⟨o, es, ep, e, _⟩, _⟩ := I1.loc
      exact hO _ o e
    refine vt (s := s') fr (pF hF I') hF.fr F fun h2 k2 F2 => ?_
    have I2 := we hF I' k2 hO0 ht hpp
    refine jA (s := { s' with heap := h2 }) (fs := frs (X.env :: X.outer)) F2 fun h3 k3 F3 => ?_
    have I3 := we hF I2 k3 hO0 ht hpp
    have keyE : ∀ {h : Heap} {fl : Value}, Fly O h ea (.ref C) fl → ∀ {s4 : Shared}, s4.heap = h → Inv X [] σ H' s4 → ∃ oe, oe.cls = .ref C ∧ s4.heap.get? ea = some oe ∧ H' ea = none ∧ Inv (cxH X ea oe) [] σ H' s4 := fun {h fl} G {s4} e4 I4 => by
      obtain ⟨_, oe, vs, T, oT, ts, g1, g2, g3, g4, g5, g6, _⟩ := G
      have hH : H' ea = none := by
        cases z : H' ea with
        | none => rfl
        | some o => exact absurd (ht ea (by rw [z]; exact fun y => nomatch y)) g6
      refine ⟨oe, g2, by rw [e4]; exact g1, hH, Kk I4 (by rw [e4]; exact g1) hH (fun z => g6 (by rw [z]; exact hLO)) (fun z => ?_) g3 g5⟩
      exact wx I4 ea z oe (by rw [e4]; exact g1) vs g3
    obtain ⟨oe3, c3, g3, n3, H3⟩ := keyE F3 rfl I3
    refine wpAny_handleBy_cons (codeAny_handlers_test (mw (X := cxH X ea oe3) H3 hg hm ?_ hxb)) (by intro z; cases z)
    refine (PySem.W.exm_one (M := model X.prog X.w) (K := X.K) (h := h3) I3.kIn (fun A' Q' E' s4 kk q => ?_) hex).here ?_
    · have e3 := kk _ _ g3
      unfold typeOf
      refine wpAny_bind (wpAny_loadPart e3 ?_)
      rw [c3]
      exact wpAny_pure q
    · refine codeAny_handlers_suite_as (jA (s := { s' with heap := h3 }) (fs := frs (X.env :: X.outer)) F3 fun h4 k4 F4 => ?_)
      have I4 := we hF I3 k4 hO0 ht hpp
      obtain ⟨oe, c4, g4, n4, H4⟩ := keyE F4 rfl I4
      refine j7 (X := cxH X ea oe) (v := .ref ea) H4 hNd hn (Or.inl hl) rfl (fun s5 I5 => ?_) (Or.inr hl)
      refine wpAny_mono (hs ea oe [] s5 _ H' { nx := fun _ _ => False, rt := D.rt } I5 (good H' ea oe gd c4 n4)) (fun f s6 h6 => ?_) fun e s6 z => z.elim
      cases f with
      | next => obtain ⟨_, _, _, z⟩ := h6; exact z.elim
      | brk => obtain ⟨_, _, _, z⟩ := h6; exact z.elim
      | cont => obtain ⟨_, _, _, z⟩ := h6; exact z.elim
      | ret u =>
        obtain ⟨v, σ', H6, I6, r6, q6⟩ := h6
        obtain ⟨m6, hn6, _⟩ := I6.loc
        refine wpAny_nameGoes (env := X.env) hl hn6 (by rw [I0.ok.kind]; rfl) fun h7 m7 hn7 hs7 => ?_
        exact ⟨v, _, H6, Ep I0.ok I6 hn7 hs7 hF.ex, r6, q6⟩
end
open PySem PySem.Spec PyProof.Rows
theorem JW {CX : CXT} {P : Program} {w : World} {K : PySem.W.Frag} {mg : Str → Option Value} {base : Heap} {k : Nat} {f : Addr} {name qual : Str} {params : Arguments} {body : List Stmt} {scope : Scope} {dV kV doc pm cdv ct oc : Value} {an od : Option Addr} {osl : Array (Option Value)} {N ps : List Str}
    {A : Around} {outer : List Env} {s : Shared} {H : Hp} {args : Args} {us : List Value} {vs : List V} {Q : VK} {E : XK} (lk : K.lookup f = some ⟨oc, od, .func (PySem.W.fnOf name qual params body scope dV kV doc pm an cdv ct), osl⟩) (hcd : PySem.W.codeIn K cdv qual = true) (S : aR N ps scope)
    (hl : vs.length = ps.length) (hr : eN (k + 1) A) (e0 : zp P w K mg base A outer s H) (hb : BindsTo s (PySem.W.fnOf name qual params body scope dV kV doc pm an cdv ct) args (ps.zip us)) (r : Vals vs us)
    (hq : ∀ s1, Inv (jN CX P w K mg base N qual scope f cdv A outer s H E) [] (start N vs) H s1 → wpAny (model P w) (A.deeper (envOfC qual scope s.heap.objs.size f cdv)) (execs body (envOfC qual scope s.heap.objs.size f cdv)) (SP (jN CX P w K mg base N qual scope f cdv A outer s H E) [] { nx := fun _ H' => Q .non H', rt := Q }) (jN CX P w K mg base N qual scope f cdv A outer s H E).xe s1) :
    codeAny (model P w) A (.call (.ref f) args) (CR CX outer P w H s Q E) s := by
  have KX : K.In s.heap := e0.mod.kin.keeps fun b o e => (e0.bs b o e).1
  have lim : s.heap.NoLimit := e0.mod.nolimit.keeps fun b o e => (e0.bs b o e).1
  have hkind : ∀ y ∈ ps.zip us, scope.names.lookup y.1 = some .local ∨ (scope.names.lookup y.1 = some .cell ∧ ((cellsFrom (s.heap.objs.size + 1) scope.names []).lookup y.1).isSome = true) := fun ⟨n, v⟩ hy => by
    rcases S.par n (List.of_mem_zip hy).1 with q | q
    · exact .inl q
    · exact .inr ⟨q, PySem.W.cellsFrom_some _ _ _ (.inl q)⟩
  refine codeAny_call_function hr.depth (KX _ _ lk) rfl S.co S.gen rfl (PySem.W.codeRec_of KX hcd) (hb _ _ _ _ ?_)
  refine wpAny_newFunctionEnv_cells S.kind hkind fun env he s1 x => ?_
  subst he
  refine ⟨lim.keeps x.toInCall.keep, codeAny_func ?_⟩
  have I : Inv (jN CX P w K mg base N qual scope f cdv A outer s H E) [] (start N vs) H s1 := vv S hr.hd e0 hl r x
  refine wpAny_mono (hq s1 I) (fun fl s' hs => ?_) fun e s' hs => hs
  have fin : ∀ {σ' : St} {H' : Hp} {v : V} {u : Value}, Inv (jN CX P w K mg base N qual scope f cdv A outer s H E) [] σ' H' s' → RelV v u → Q v H' → CE outer P w H s Q u s' :=
    fun {σ' H' v u} J rv q => ⟨v, H', J.os, J.bare, J.base, J.hok, rv, q⟩
  cases fl with
  | ret u => obtain ⟨v, σ', H', J, rv, q⟩ := hs; exact fin J rv q
  | next => obtain ⟨σ', H', J, q⟩ := hs; exact fin (v := V.non) (u := Value.none) J rfl q
  | brk => obtain ⟨_, _, _, q⟩ := hs; exact False.elim q
  | cont => obtain ⟨_, _, _, q⟩ := hs; exact False.elim q
structure DZ (P : Program) (w : World) (K : PySem.W.Frag) (mg : Str → Option Value) (base : Heap) (k : Nat) (f : Addr) (fd : FuncData) (dn : Str) (C : Value) (nm : Str) : Prop where
  run : ∀ (A : Around) (outer : List Env) (s : Shared) (H : Hp) (fa : Addr) (Good : Hp → Prop) (Q : VK), eN (k + 1) A → zp P w K mg base A outer s H → BindsTo s fd ⟨[.ref fa], []⟩ ([dn].zip [.ref fa]) →
    (∀ (A' : Around) (outer' : List Env) (s' : Shared), eN k A' → zp P w K mg base A' outer' s' H → Un (frs outer) [] H H s.heap s'.heap → PySem.W.FnAt fa s'.heap ∧ codeAny (model P w) A' (.call (.ref fa) ⟨[], []⟩) (CR (CX1 P w) outer' P w H s' (fun _ _ => False) (fun cls _ H' => cls = C ∧ Good H')) s') →
    (∀ H', Good H' → ∃ μ, bK K μ H' ∧ ∀ H'', Ext K μ H' μ H'' → bK K μ H'' → Q (.str nm) H'') →
    codeAny (model P w) A (.call (.ref f) ⟨[.ref fa], []⟩) (CR CX0 outer P w H s Q E0) s
theorem HV {P : Program} {w : World} {K : PySem.W.Frag} {mg : Str → Option Value} {base : Heap} {k : Nat} {f : Addr} {fd : FuncData} {fx qual : Str} {st : Stmt} {dn n y1 y2 x : Str} {dp cp ep np hp pos : Pos} {b₀ : Stmt} {suite rest : List Stmt} {C FE : Addr} {nm : Str} {td : Addr → DTS}
    (F : Fun K fx qual st f fd) (S : aR [dn, n, y1, y2] [dn] (aw st))
    (hbody : d7 st = .Try [.Expr (.Call (.Name dn dp) [] [] cp) ep] [.ExceptHandler (some (.Name x np)) (some n) (b₀ :: suite) hp] [] [] pos :: rest)
    (hv : (aw st).names.lookup dn = some .local) (hl : (aw st).names.lookup n = some .local) (hg : (aw st).names.lookup x = some .globalImplicit) (hm : mg x = some (.ref FE)) (hex : PySem.W.exmOne K (.ref C) (.ref FE) = some true)
    (hdb : (dn == ("__debug__" : Str)) = false) (hdc : (dn == ("__classdict__" : Str)) = false) (hxb : (x == ("__debug__" : Str)) = false)
    (hsw : ∀ env : Env, swapsWith (.Call (.Name dn dp) [] [] cp) none ep.line env = pure false)
    (hs : ∀ (cdv : Value) (A : Around) (outer : List Env) (s : Shared) (H : Hp) (ea : Addr) (oe : Obj), oe.cls = .ref C → eN k (jN CX0 P w K mg base [dn, n, y1, y2] qual (aw st) f cdv A outer s H E0).A → DSs (cxH (jN CX0 P w K mg base [dn, n, y1, y2] qual (aw st) f cdv A outer s H E0) ea oe) (b₀ :: suite) (td ea))
    (hrd : ∀ (ea fa : Addr) (μ : Mu) (Qd : DK), Qd (.v (.str nm)) μ → td ea { nx := fun _ _ => False, rt := Qd } [some (.o fa), some (.o ea), none, none] μ) : DZ P w K mg base (k + 1) f fd dn (.ref C) nm where
  run := fun A outer s H fa Good Q hr e0 hb deed fin => by
    obtain ⟨oc, od, kV, doc, pm, an, cdv, ct, osl, rfl, lk, hcd⟩ := F.ex
    refine JW (k := k + 1) (vs := [.ref fa]) (us := [.ref fa]) lk hcd S rfl hr e0 hb (.cons rfl .nil) fun s1 I => ?_
    show wpAny _ _ (execs (d7 st) _) _ _ _
    rw [hbody]
    have hX : ∀ ea oe, PSs (cxH (jN CX0 P w K mg base [dn, n, y1, y2] qual (aw st) f cdv A outer s H E0) ea oe) (b₀ :: suite) (fun D σ' H' => oe.cls = .ref C ∧ H' ea = none ∧ σ' = (start [dn, n, y1, y2] [V.ref fa]).set 1 (some (.ref ea)) ∧ ∃ μ, bK K μ H' ∧ ∀ H'', Ext K μ H' μ H'' → bK K μ H'' → D.rt (.str nm) H'') := fun ea oe pins' s' σ' H' D I' h => by
      obtain ⟨hc, hH, rfl, μ, ok, q⟩ := h
      obtain ⟨t, p, l⟩ := hs cdv A outer s H ea oe hc ((hr.deeper _).mono (Nat.le_succ _))
      refine p pins' s' _ H' D I' (l _ H' [some (.o fa), some (.o ea), none, none] μ { nx := fun _ _ => False, rt := fun d μ' => d = .v (.str nm) ∧ μ' = μ } D ⟨ok, rfl, fun i d e => ?_⟩ (hrd ea fa μ _ ⟨rfl, rfl⟩) (fun _ _ _ _ _ _ z => z.elim) (fun d u μ' H'' e' ok' r ⟨z1, z2⟩ => ?_) (fun _ _ _ _ _ _ z => z.elim) (fun _ _ _ _ _ _ z => z.elim))
      · match i, e with
        | 0, e => cases e; exact ⟨.ref fa, rfl, rfl⟩
        | 1, e => cases e; exact ⟨.ref ea, rfl, rfl⟩
        | 2, e => cases e
        | 3, e => cases e
      · subst z1 z2
        cases r
        exact q H'' e' ok'
    refine wpAny_execs_cons (wpAny_mono (Iw (X := jN CX0 P w K mg base [dn, n, y1, y2] qual (aw st) f cdv A outer s H E0) (C := C) (FE := FE) (di := 0) (ni := 1) ⟨rfl, rfl, rfl⟩ rfl S.nd rfl (Or.inl hv) rfl hl hg hm hex hX hdb hdc hxb (hsw _) [] s1 _ H { nx := fun _ _ => False, rt := Q } rfl I
      ⟨fa, Good, rfl, fun s2 I2 => deed _ _ s2 (hr.deeper _) I2.Jz I2.base, fun H' ea oe gd c hn => ⟨c, hn, rfl, fin H' gd⟩⟩) (fun fl s' hs' => ?_) fun _ _ z => z)
    cases fl with
    | ret u => exact hs'
    | next => obtain ⟨_, _, _, z⟩ := hs'; exact z.elim
    | brk => obtain ⟨_, _, _, z⟩ := hs'; exact z.elim
    | cont => obtain ⟨_, _, _, z⟩ := hs'; exact z.elim
open PySem PySem.Spec PyProof.Rows
section
variable {X : Cx} {e : Expr} {te : DTE} {p py pos : Pos} {y : Str} {C : Addr} {b : Bool} {ea : Addr} {oe : Obj}
noncomputable def kZ (ea : Addr) (b : Bool) (te : DTE) : DTE := fun ρ μ Q => te ρ μ fun x μ1 => match x with
  | .o a => a = ea ∧ Q (.v (.bool b)) μ1
  | _ => False
theorem x8 {cv : V} {w : Value} (Z : tY X.K C) (hp : (ea, oe) ∈ X.pn) (hc : oe.cls = .ref C) (r : RelV cv w) (hw : ∀ u, RelV cv u → u = w) (ek : PySem.W.kitOne X.K (.ref C) w = some b) : ip X (.builtin "isinstance") (fun xs H Q => xs = [.ref ea, cv] ∧ Q (.bl b) H) := by
  intro pins s σ H xs us Q I rr h
  obtain ⟨rfl, q⟩ := h
  obtain ⟨v, w', rfl, r1, r2⟩ := vals2 rr
  cases r1
  obtain rfl := hw w' r2
  exact PySem.W.kia_one (Et Z) I.kIn ⟨oe, (I.pin (ea, oe) (List.mem_append_left _ hp)).1, hc⟩ ek (fun z => nomatch z) fun tk => ⟨.bl b, H, I.tok _, rfl, q⟩
theorem gy {C' : Addr} (Z : tY X.K C) (hp : (ea, oe) ∈ X.pn) (hc : oe.cls = .ref C) (ek : PySem.W.kitOne X.K (.ref C) (.ref C') = some b) (hg : Gl X "isinstance") (hm : X.mg "isinstance" = none) (hgy : Gl X y) (hmy : X.mg y = some (.ref C')) (ha : DE X e te) (hdy : (y == ("__debug__" : Str)) = false := by decide)
    (he : starEach [e, .Name y py] X.env = (false, eval e X.env) :: starEach [.Name y py] X.env := by rfl) (he2 : starEach [.Name y py] X.env = [(false, eval (.Name y py) X.env)] := by rfl) (hpl : (backTo pos (starEach [.Name y py] X.env)).any (·.1) = false := by rfl) : DE X (.Call (.Name "isinstance" p) [e, .Name y py] [] pos) (kZ ea b te) := by
  obtain ⟨t1, p1, l1⟩ := ha
  refine ⟨_, n8 (x8 (cv := .ref C') Z hp hc rfl (fun u h => h) ek) hg hm PyProof.Rows.Boot.«isinstance» (cY p1 (cY (A9 (v := .ref C') hgy hmy rfl hdy) jP he2) he) (by decide) (by decide) he hpl, fun σ H ρ μ Qd Q S h k => ?_⟩
  refine l1 σ H ρ μ _ _ S h fun x ux μ1 H1 e1 S1 rx h1 => ?_
  split at h1
  · obtain ⟨rfl, h1⟩ := h1
    obtain rfl : ux = .ref _ := rx
    exact ⟨rfl, k (.v _) _ μ1 H1 e1 S1 (Rp.bool _) h1⟩
  · exact h1.elim
theorem Fu {T : String} (Z : tY X.K C) (hp : (ea, oe) ∈ X.pn) (hc : oe.cls = .ref C) (ek : PySem.W.kitOne X.K (.ref C) (.type T) = some b) (hg : Gl X "isinstance") (hm : X.mg "isinstance" = none) (hgy : Gl X y) (hmy : X.mg y = none) (hvy : bootBuiltins y = some (.type T)) (ha : DE X e te) (hny : y ≠ "__name__" := by decide) (hdy : (y == ("__debug__" : Str)) = false := by decide)
    (he : starEach [e, .Name y py] X.env = (false, eval e X.env) :: starEach [.Name y py] X.env := by rfl) (he2 : starEach [.Name y py] X.env = [(false, eval (.Name y py) X.env)] := by rfl) (hpl : (backTo pos (starEach [.Name y py] X.env)).any (·.1) = false := by rfl) : DE X (.Call (.Name "isinstance" p) [e, .Name y py] [] pos) (kZ ea b te) := by
  obtain ⟨t1, p1, l1⟩ := ha
  refine ⟨_, n8 (x8 (cv := .ty T) Z hp hc rfl (fun u h => h) ek) hg hm PyProof.Rows.Boot.«isinstance» (cY p1 (cY (Bz (v := .ty T) hgy hmy hvy rfl hny hdy) jP he2) he) (by decide) (by decide) he hpl, fun σ H ρ μ Qd Q S h k => ?_⟩
  refine l1 σ H ρ μ _ _ S h fun x ux μ1 H1 e1 S1 rx h1 => ?_
  split at h1
  · obtain ⟨rfl, h1⟩ := h1
    obtain rfl : ux = .ref _ := rx
    exact ⟨rfl, k (.v _) _ μ1 H1 e1 S1 (Rp.bool _) h1⟩
  · exact h1.elim
end
structure Jv (K : PySem.W.Frag) (mg : Str → Option Value) (c P : Addr) (q : Str) : Prop where
  obj : ∃ o, K.lookup c = some o ∧ bq o = some (P, q)
  one : ∀ c2 o2 q2, K.lookup c2 = some o2 → bq o2 = some (P, q2) → q2 = q
  blt : JB K mg
noncomputable def nU (cap : List (Option Nat)) (tx : DTX) (nm : Str) : DTE := fun ρ μ Qd => tx (cq cap ρ) μ fun μ' => Qd (.v (.str nm)) μ'
theorem qg {X : Cx} {k : Nat} {f c P : Addr} {fd : FuncData} {dn rn q nm : Str} {C : Value} {params : Arguments} {body : Expr} {lsc : Scope} {lpos p pos : Pos} {cl : List (Str × Addr)} {N' : List Str} {cap : List (Option Nat)} {tx : DTX}
    (R : DZ X.prog X.w X.K X.mg X.base k f fd dn C nm) (hr : eN (k + 1) X.A) (hg : Gl X rn) (hm : X.mg rn = some (.ref f)) (hk : PySem.W.keepIn X.K (.ref f) = true) (hb : Binds X.K fd [dn] []) (L : Jv X.K X.mg c P q) (hcode : X.env.code = .ref c) (hq : X.env.qual = q ++ ".<locals>.")
    (hk0 : 0 < k) (he : ∀ (A' : Around) (outer' : List Env) (s' : Shared) (H' : Hp) (fa c1 : Addr) (E : XK), eN (k - 1) (qo X.prog X.w X.K X.mg X.base N' lsc cl (bO q) fa c1 A' outer' s' H' E).A → XE (qo X.prog X.w X.K X.mg X.base N' lsc cl (bO q) fa c1 A' outer' s' H' E) E C body tx)
    (hdef : defaultsOf params X.env = ([], [])) (hclos : closureFor lsc X.env = pure cl) (hbind : ∀ (pm ctv : Value) (c1 : Addr), bindArgs (PySem.W.kla_fn "<lambda>" (bO q) params body lsc cl pm (.ref c1) ctv) ⟨[], []⟩ = pure [])
    (hkind : lsc.kind = .function) (hco : lsc.isCoroutine = false) (hgen : lsc.isGenerator = false) (hcell : ∀ y ∈ lsc.names, y.2 ≠ .cell) (hcl : ∀ x a, cl.lookup x = some a → X.env.cells.lookup x = some a) (hhas : ∀ x, lsc.names.lookup x = some .cell ∨ lsc.names.lookup x = some .free → ∃ a, cl.lookup x = some a)
    (hlen : cap.length = N'.length) (hcap : ∀ (i j : Nat) (x : Str), cap[i]? = some (some j) → N'[i]? = some x → X.N[j]? = some x ∧ Vis X.env.scope x ∧ X.env.kindOf x ≠ some .local ∧ lsc.names.lookup x = some .free)
    (hdb : (rn == ("__debug__" : Str)) = false := by decide) (hst : starEach [.Lambda params body lsc lpos] X.env = [(false, eval (.Lambda params body lsc lpos) X.env)] := by rfl) :
    DE X (.Call (.Name rn p) [.Lambda params body lsc lpos] [] pos) (nU cap tx nm) := by
  refine DQ fun pins s σ H ρ μ Qd Q I S h kk => ?_
  obtain ⟨o, hl, hlc⟩ := L.obj
  refine wpAny_Call_Name_kw (mw I hg hm ?_ hdb)
  refine PySem.W.callWith_K (h₀ := X.base) I.ok.mod.kin hk (spliced_more (Jw I S.mu hcode hl hlc L.one hq L.blt hclos hdef fun fa c1 ctv pm H1 s1 I1 ex mu ho hfa hfr hc1 => spliced_none ⟨I1.kIn, ?_⟩) (by rw [hst]; rfl)) (by rw [hst]; rfl) rfl
  have S1 : St0 X.K H1 ρ μ σ := ⟨mu, S.rho.ext S.mu ex⟩
  refine wpAny_call (codeAny_mono (R.run X.A X.stack s1 H1 fa (fun H' => ∃ μ', Ext X.K μ H1 μ' H' ∧ bK X.K μ' H' ∧ Qd (.v (.str nm)) μ') Q hr I1.Jz (hb s1 [.ref fa] I1.kIn rfl) (fun A' outer' s' hr' e0' un => ?_) fun H' ⟨μ', e', ok', q'⟩ => ?_) fun r s' hq' => ?_)
  · have ho' := un.keep fa _ ho hfa hfr (fun z => nomatch z)
    refine ⟨⟨_, _, _, _, ho'⟩, ?_⟩
    obtain ⟨k', rfl⟩ : ∃ k', k = k' + 1 := ⟨k - 1, by omega⟩
    obtain ⟨t, pe, l⟩ := he A' outer' s' H1 fa c1 (fun cls _ H' => cls = C ∧ ∃ μ', Ext X.K μ H1 μ' H' ∧ bK X.K μ' H' ∧ Qd (.v (.str nm)) μ') (hr'.deeper _)
    have cellK : ∀ x cc v, X.env.cells.lookup x = some cc → s1.heap.IsCell cc v → s'.heap.IsCell cc v := fun x cc v hx ⟨oc, ec, dc⟩ => by
      obtain ⟨sl, e2⟩ := un.any ec (I1.ik x cc hx) (fun z => nomatch z)
      exact ⟨_, e2, dc⟩
    refine EC (σ := cq cap σ) (N := N') hkind hco hgen hcell hr' e0' ho' hc1 (hbind pm ctv c1) ⟨fun x cc hx => ?_, fun x cc hx => I1.ik x cc (hcl x cc hx), fun x y cc h1 h2 => I1.ok.inj x y cc (hcl x cc h1) (hcl y cc h2), hhas, fun i x v h1 h2 h3 => ?_, ?_⟩ pe (l _ H1 (cq cap ρ) μ (fun μ' => Qd (.v (.str nm)) μ') _ ⟨mu, S1.rho.cap⟩ h fun μ' H' e' ok' q' => ⟨rfl, μ', e', ok', q'⟩)
    · obtain ⟨v, hv⟩ := I1.cell x cc (hcl x cc hx)
      exact ⟨v, cellK x cc v (hcl x cc hx) hv⟩
    · obtain ⟨j, j1, j2⟩ := o7 h2
      obtain ⟨hN, hv, hnl, hfree⟩ := hcap i j x j1 h1
      obtain ⟨m, _, hll⟩ := I1.loc
      obtain ⟨u, ru, lk⟩ := hll j x v hN j2 hv
      obtain ⟨a, ha⟩ := hhas x (.inr hfree)
      rcases lk with ⟨z, _⟩ | ⟨_, a', z1, z2⟩
      · exact absurd z hnl
      · obtain rfl : a' = a := by have qq := hcl x a ha; rw [z1] at qq; exact Option.some.inj qq
        exact ⟨u, a', ru, hfree, ha, cellK x a' _ z1 z2⟩
    · unfold cq; rw [List.length_map]; exact hlen
  · exact ⟨μ', ok', fun H'' e'' ok'' => kk (.v (.str nm)) (.str nm) μ' H'' (ex.trans (e'.trans e'')) ⟨ok'', S1.rho.ext mu (e'.trans e'')⟩ (Rp.str nm) q'⟩
  · cases r with
    | error e => exact hq'.elim
    | ok fl =>
      cases fl with
      | ret u => exact I1.after hq'
      | next => exact hq'.elim
      | brk => exact hq'.elim
      | cont => exact hq'.elim
end L2.DL
set_option Elab.async false
set_option linter.all false
set_option maxRecDepth 100000
set_option maxHeartbeats 4000000
namespace L2
open PySem PySem.Spec PyProof.Rows DL
noncomputable def Kt (tabs : List Addr) (H : Hp) : Prop := ∀ b, H b = none ∨ (∃ o xs, H b = some (.frz o (.lst xs))) ∨ (b ∈ tabs ∧ H b = some (.tbl #[]))
theorem CI {P : Program} {w : World} {K : PySem.W.Frag} {mg mb : Str → Option Value} {CX : CXT} {k : Nat} {fa a : Addr} {fd : FuncData} {x : Str} {sp : Sp} {s₁ : Shared} {vs : List Value} {ns : List Int} (tabs : List Addr)
    (hT : ∀ p ∈ tabs, s₁.heap.get? p = some (PySem.W.tabObj #[]) ∧ K.lookup p = none) (hA2 : ∀ c o p q, K.lookup c = some o → bq o = some (p, q) → p ∈ tabs) (hC : ∀ p ∈ tabs, isCodeTable s₁.heap p)
    (KX : K.In s₁.heap) (hns : s₁.heap.Ns mainGlobals mg) (hb : s₁.heap.Ns builtinsNs mb) (hbb : ∀ x : Str, x ≠ "__name__" → mb x = bootBuiltins x) (hlim : s₁.heap.NoLimit) (hg : s₁.gens = #[])
    (ha : s₁.heap.get? a = some { cls := .type "list", data := .seq vs.toArray }) (hi : IntsAre vs ns) (hl : ns.length ≤ sizeLine) (hr : eN k callerA)
    (F : ∀ base : Heap, K.In base → base.Ns mainGlobals mg → bS P w K mg base CX k fa fd [x] sp) (hbind : ∀ (s : Shared) (u : Value), BindsTo s fd ⟨[u], []⟩ [(x, u)])
    (hsp : ∀ H : Hp, uI K H → SqL K H a (ns.map V.int) → sp [.ref a] H (fun v _ => v = .bl true) fun _ _ _ => False)
    (hCX : ∀ H e s', CX [] H s₁ (fun _ _ _ => False) e s' → False) :
    codeAny (model P w) callerA (.call (.ref fa) ⟨[.ref a], []⟩) (fun r s' => r = .ok (.ret (.bool true)) ∧ OldK s₁.heap s'.heap ∧ s'.os = s₁.os ∧ AllBare s'.gens) s₁ := by
  have rv := ve hi
  have lenV := hi.length
  have ant : a ∉ tabs := fun z => by have := (hT a z).1; rw [ha] at this; cases this
  have core : ∀ H : Hp, Kt tabs H → SqL K H a (ns.map V.int) → HOk P w H s₁.heap → (∀ b, H b ≠ none → b = a ∨ b ∈ tabs) → (H a ≠ none → K.lookup a = none) → (∀ p ∈ tabs, H p = some (.tbl #[])) →
      codeAny (model P w) callerA (.call (.ref fa) ⟨[.ref a], []⟩) (fun r s' => r = .ok (.ret (.bool true)) ∧ OldK s₁.heap s'.heap ∧ s'.os = s₁.os ∧ AllBare s'.gens) s₁ := by
    intro H hO hS hok hA hK hP
    have base_of : ∀ {b : Addr} {o : Obj}, s₁.heap.get? b = some o → H b = none → (vM s₁.heap H).get? b = some o := fun e n => EK e n
    have noA : ∀ {b : Addr} {o : Obj} {es : Array DictEntry} {ep : Nat}, s₁.heap.get? b = some o → o.data = .dict es ep → H b = none := fun {b o es ep} e d => by
      cases q : H b with
      | none => rfl
      | some u =>
        rcases hA b (by rw [q]; simp) with e' | e'
        · subst e'
          rw [ha] at e; cases e
          have d' : Data.seq vs.toArray _ = Data.dict es ep := d
          cases d'
        · rw [(hT b e').1] at e; cases e
          have d' : Data.fields #[] = Data.dict es ep := d
          cases d'
    have nsK : ∀ {b : Addr} {m : Str → Option Value}, s₁.heap.Ns b m → (vM s₁.heap H).Ns b m := fun {b m} ⟨o, es, ep, e, d, r⟩ => ⟨o, es, ep, base_of e (noA e d), d, r⟩
    have hKb : K.In (vM s₁.heap H) := fun b o e => base_of (KX b o e) (by
      cases q : H b with
      | none => rfl
      | some u =>
        rcases hA b (by rw [q]; simp) with e' | e'
        · subst e'
          rw [hK (by rw [q]; simp)] at e; cases e
        · have e2 := e; rw [show K.lookup b = none from (hT b e').2] at e2; cases e2)
    have hM : Mod K mg (vM s₁.heap H) := ⟨hKb, nsK hns, ⟨mb, nsK hb, hbb⟩, let ⟨mc, h1, h2⟩ := hlim; ⟨mc, nsK h1, h2⟩⟩
    have e0 : zp P w K mg (vM s₁.heap H) callerA [] s₁ H := ⟨rfl, hM, fun b o e => FR e, Nat.le_of_eq (Cc _ _), trivial, fun b hb => absurd (show b ∈ ([] : List Addr) from hb) (by simp), hok, .of_eq hg⟩
    have tb : uI K H := fun c o p q h1 h2 => ⟨#[], hP p (hA2 c o p q h1 h2), trivial, fun pos cv e => by simp [codeAmong] at e⟩
    refine codeAny_mono ((F _ hKb (nsK hns)).run callerA [] s₁ H ⟨[.ref a], []⟩ [.ref a] [.ref a] _ _ hr e0 (hbind s₁ (.ref a)) (.cons rfl .nil) (hsp H tb hS)) fun r s' h => ?_
    cases r with
    | error e => exact (hCX H e s' h).elim
    | ok fl =>
      cases fl with
      | next => exact False.elim h
      | brk => exact False.elim h
      | cont => exact False.elim h
      | ret u =>
        obtain ⟨v, H', os, bare, un, hok', r', q⟩ := h
        have q' : v = .bl true := q
        subst q'
        obtain rfl : u = Value.bool true := r'
        refine ⟨rfl, ⟨fun b o e => ?_, fun b o e => un.there b o e (by simp)⟩, os, bare⟩
        cases q : H b with
        | none => exact .inl (un.keep b o e q (by intro z; exact absurd (show b ∈ ([] : List Addr) from z) (by simp)) (by simp))
        | some u =>
          rcases hO b with z | ⟨ob, xs, z⟩ | ⟨zt, z⟩
          · rw [q] at z; cases z
          · have z2 := un.mO b ob _ z
            obtain ⟨e1, _⟩ := hok b _ z
            obtain ⟨e2, _⟩ := hok' b _ z2
            rw [e] at e1; cases e1
            exact .inl e2
          · obtain ⟨more, z2⟩ := un.mK b _ z
            have e2 : s'.heap.get? b = some { cls := .none, data := .fields (#[] ++ more) } := hok' b _ z2
            have e1 := (hT b zt).1
            rw [e] at e1; cases e1
            exact .inr (.inl ⟨hC b zt, rfl, #[], more, rfl, e2⟩)
  have okT : ∀ p ∈ tabs, s₁.heap.get? p = some { cls := .none, data := .fields #[] } := fun p hp => (hT p hp).1
  cases hk : K.lookup a with
  | some o =>
    have e := KX a o hk
    rw [ha] at e
    cases e
    refine core (fun b => if b ∈ tabs then some (.tbl #[]) else none) (fun b => ?_) (.inr ⟨_, vs.toArray, _, hk, rfl, rfl, rfl, by rw [List.size_toArray, lenV]; exact hl, by simpa using rv⟩) (fun b u z => ?_) (fun b z => ?_) (fun z => absurd (if_neg ant) z) (fun p hp => if_pos hp)
    · by_cases hb : b ∈ tabs
      · exact .inr (.inr ⟨hb, if_pos hb⟩)
      · exact .inl (if_neg hb)
    · by_cases hb : b ∈ tabs
      · have z' := (if_pos hb).symm.trans z; cases z'; exact okT b hb
      · have z' := (if_neg hb).symm.trans z; cases z'
    · by_cases hb : b ∈ tabs
      · exact .inr hb
      · exact absurd (if_neg hb) z
  | none =>
    refine core (fun b => if b = a then some (.frz { cls := .type "list", data := .seq vs.toArray } (.lst (ns.map V.int))) else if b ∈ tabs then some (.tbl #[]) else none) (fun b => ?_) (.inl (.inr ⟨{ cls := .type "list", data := .seq vs.toArray }, if_pos rfl⟩)) (fun b u z => ?_) (fun b z => ?_) (fun _ => hk) (fun p hp => by
      have : p ≠ a := fun y => ant (by rw [← y]; exact hp)
      exact (if_neg this).trans (if_pos hp))
    · by_cases hb : b = a
      · exact .inr (.inl ⟨_, _, if_pos hb⟩)
      · by_cases hb2 : b ∈ tabs
        · exact .inr (.inr ⟨hb2, (if_neg hb).trans (if_pos hb2)⟩)
        · exact .inl ((if_neg hb).trans (if_neg hb2))
    · by_cases hb : b = a
      · have z' := (if_pos hb).symm.trans z
        cases z'
        subst hb
        exact ⟨ha, by rw [List.length_map]; exact hl, vs, _, rv, ha⟩
      · by_cases hb2 : b ∈ tabs
        · have z' := ((if_neg hb).trans (if_pos hb2)).symm.trans z; cases z'; exact okT b hb2
        · have z' := ((if_neg hb).trans (if_neg hb2)).symm.trans z; cases z'
    · by_cases hb : b = a
      · exact .inl hb
      · by_cases hb2 : b ∈ tabs
        · exact .inr hb2
        · exact absurd ((if_neg hb).trans (if_neg hb2)) z
theorem Em {l : PySem.W.OpenLaw} {n k : Nat} {q : Program} {loose : List Str} {XP : (Str → Option Value) → Heap → Prop} {YP : World → Heap → Prop} {d : DefRec} {K : Params → PySem.W.Frag} {CX : World → CXT} {sp : World → Sp} {x : Str} (tabs : List Addr)
    (hn : l.most = some n) (hn2 : n ≤ sizeLine) (hdf : d.params.defaults = []) (hr : eN k callerA)
    (hY : ∀ (w : World) (h : Heap), YP w h → (K w.params).In h ∧ (∀ p ∈ tabs, h.get? p = some (PySem.W.tabObj #[]) ∧ (K w.params).lookup p = none) ∧ (∀ p ∈ tabs, isCodeTable h p))
    (hA2 : ∀ (w : World) c o p q, (K w.params).lookup c = some o → bq o = some (p, q) → p ∈ tabs)
    (F : ∀ (w : World) (mg : Str → Option Value) (fa : Addr) (h : Heap), (K w.params).In h → h.Ns mainGlobals mg → mg d.name = some (.ref fa) →
      ∃ fd : FuncData, (∀ (s : Shared) (u : Value), BindsTo s fd ⟨[u], []⟩ [(x, u)]) ∧
        ∀ base : Heap, (K w.params).In base → base.Ns mainGlobals mg → bS l.prog w (K w.params) mg base (CX w) k fa fd [x] (sp w))
    (hsp : ∀ (w : World) (H : Hp) (a : Addr) (ns : List Int), ns.length ≤ n → uI (K w.params) H → SqL (K w.params) H a (ns.map V.int) → sp w [.ref a] H (fun v _ => v = .bl true) fun _ _ _ => False)
    (hCX : ∀ (w : World) (H : Hp) (s : Shared) (e : Value) (s' : Shared), CX w [] H s (fun _ _ _ => False) e s' → False) :
    PySem.W.WalkO q loose XP YP l.row.toRowW d [] (fun f vs => PySem.call f vs) := by
  refine Att.yI hn hdf fun w s₀ s₁ mg mb fa o pm cd doc a vs ns G Y ho hd hcd hmg hobj hints hlen hg => ?_
  obtain ⟨KX, hT, hC⟩ := hY w _ Y
  obtain ⟨fd, hb, hF⟩ := F w mg fa _ KX G.T.g hmg
  exact CI tabs hT (hA2 w) hC KX G.T.g G.T.b G.T.builtins G.T.nolimit hg hobj hints (Nat.le_trans hlen hn2) hr hF hb (fun H hO hS => hsp w H a ns hlen hO hS) fun H e s' => hCX w H s₁ e s'
end L2
namespace L2.DL
open PySem PySem.Spec PyProof.Rows
theorem _root_.L2.Fun.JS {P : Program} {w : World} {K : PySem.W.Frag} {mg : Str → Option Value} {base : Heap} {x qual : Str} {st : Stmt} {f : Addr} {fd : FuncData} {N ps : List Str} {k : Nat} {dsp : DSp} (F : Fun K x qual st f fd) (S : aR N ps (aw st)) (len : ∀ ds μ Q, dsp ds μ Q → ds.length = ps.length)
    (hbody : ∀ (cdv : Value), fd.code = cdv → ∀ (A : Around) (outer : List Env) (s : Shared) (H : Hp) (E : XK), eN k (A.deeper (envOfC qual (aw st) s.heap.objs.size f cdv)) →
      ∃ td, DSs (jN CX0 P w K mg base N qual (aw st) f cdv A outer s H E).nox (d7 st) td ∧ ∀ ds μ Qd, dsp ds μ Qd → td ‹Qd› (aS N ds) μ) : bS P w K mg base CX0 (k + 1) f fd ps (spD K dsp) := by
  obtain ⟨oc, od, kV, doc, pm, an, cdv, ct, osl, rfl, lk, hcd⟩ := F.ex
  refine Ei lk hcd S (fun vs H Q E h => ?_) fun A outer s H vs Q E hr h => ?_
  · obtain ⟨ds, μ, Qd, _, r, h, _⟩ := h
    rw [← r.length]; exact len ds μ Qd h
  · obtain ⟨ds, μ, Qd, ok, r, h, fin⟩ := h
    obtain ⟨td, ⟨t, p, l⟩, rd⟩ := hbody cdv rfl A outer s H E hr
    exact ⟨t, p.nox, l (start N vs) H (aS N ds) μ _ _ ⟨ok, p6 r⟩ (rd ds μ Qd h) (fun σ' ρ' μ' H' e' S' q => fin (.v .none) .non μ' H' e' S'.mu Rp.none q) (fun d u μ' H' e' ok' r' q => fin d u μ' H' e' ok' r' q) (fun _ _ _ _ _ _ q => q) (fun _ _ _ _ _ _ q => q)⟩
def Hl (X : Cx) (lsc : Scope) : Option Nat → Str → Prop
  | some j, x => X.N[j]? = some x ∧ Vis X.env.scope x ∧ X.env.kindOf x ≠ some .local ∧ lsc.names.lookup x = some .free
  | none, _ => True
def Kx (X : Cx) (lsc : Scope) : List (Option Nat) → List Str → Prop
  | c :: r, x :: r' => Hl X lsc c x ∧ Kx X lsc r r'
  | _, _ => True
theorem qZ {X : Cx} {lsc : Scope} : ∀ {cap : List (Option Nat)} {N' : List Str}, Kx X lsc cap N' → ∀ (i j : Nat) (x : Str), cap[i]? = some (some j) → N'[i]? = some x → X.N[j]? = some x ∧ Vis X.env.scope x ∧ X.env.kindOf x ≠ some .local ∧ lsc.names.lookup x = some .free
  | [], _, _, i, j, x, h, _ => by simp at h
  | _ :: _, [], _, i, j, x, _, h => by simp at h
  | c :: r, y :: r', h, 0, j, x, h1, h2 => by
    simp at h1 h2; subst h1 h2; exact h.1
  | c :: r, y :: r', h, i + 1, j, x, h1, h2 => qZ h.2 i j x (by simpa using h1) (by simpa using h2)
theorem Hh {X : Cx} {lsc : Scope} {j : Nat} {x : Str} (h1 : X.N[j]? = some x := by rfl) (h2 : X.env.kindOf x = some .cell := by rfl) (h3 : lsc.names.lookup x = some .free := by rfl) : Hl X lsc (some j) x :=
  ⟨h1, .inr (.inl h2), (by rw [h2]; decide), h3⟩
theorem wz {K : PySem.W.Frag} {l : List (Addr × Str)} (h : (K.filterMap fun p => bq p.2) = l) {c : Addr} {o : Obj} {P : Addr} {q : Str} (e : K.lookup c = some o) (e2 : bq o = some (P, q)) : (P, q) ∈ l := by
  rw [← h]
  have mem : ∀ (L : List (Addr × Obj)), List.lookup c L = some o → (c, o) ∈ L := fun L => by
    induction L with
    | nil => intro z; cases z
    | cons a r ih =>
      intro z
      rw [List.lookup_cons] at z
      by_cases y : c = a.1
      · rw [y] at z ⊢; simp at z; rw [← z]; exact List.mem_cons_self
      · rw [show (c == a.1) = false from by simpa using y] at z
        exact List.mem_cons_of_mem _ (ih z)
  exact List.mem_filterMap.mpr ⟨(c, o), mem K e, e2⟩
theorem vh {K : PySem.W.Frag} {h : Heap} {c P : Addr} {o : Obj} {q : Str} (X : K.In h) (l : K.lookup c = some o) (e : bq o = some (P, q)) : isCodeTable h P := by
  have ho := X _ _ l
  unfold bq at e
  split at e
  · rename_i cn vs hcls hd
    split at e
    · rename_i hcn
      subst hcn
      split at e
      · rename_i e11 e18
        split at e
        · cases e
          exact ⟨c, o, vs, ho, hcls, hd, by assumption⟩
        · cases e
      · cases e
    · cases e
  · cases e
theorem rf {K : PySem.W.Frag} {c P : Addr} {q : Str} (h : (K.lookup c).bind bq = some (P, q)) : ∃ o, K.lookup c = some o ∧ bq o = some (P, q) := Option.bind_eq_some_iff.mp h
theorem wq {K T : PySem.W.Frag} {h : Heap} (X : PySem.W.Frag.In (K ++ T) h) : K.In h := fun b o e => X b o (by
  show List.lookup b (K ++ T) = some o
  rw [List.lookup_append, show List.lookup b K = some o from e]; rfl)
theorem Ea {K : PySem.W.Frag} {mg : Str → Option Value} {bm : Addr} {sl : Array (Option Value)} (h1 : mg "__builtins__" = some (.ref bm)) (h2 : bm ≠ builtinsNs) (h3 : K.lookup bm = some ⟨.type "module", some builtinsNs, .plain, sl⟩) : JB K mg := ⟨bm, _, h1, h2, h3, rfl, rfl, rfl⟩
theorem tI {cap : List (Option Nat)} {tx : DTX} {nm : Str} {ρ : Rho} {μ : Mu} {Q : DK} : nU cap tx nm ρ μ Q = tx (cq cap ρ) μ (fun μ' => Q (.v (.str nm)) μ') := propext Iff.rfl
theorem iE {dsp : XSp} {t : DTA} {ρ : Rho} {μ : Mu} {Xk : Mu → Prop} : lS dsp t ρ μ Xk = t ρ μ (fun ds μ1 => dsp ds μ1 Xk) := propext Iff.rfl
theorem vx {tc : DTT} {tx ty : DTX} {ρ : Rho} {μ : Mu} {Xk : Mu → Prop} : xIf tc tx ty ρ μ Xk = tc ρ μ (fun b μ1 => if b = true then tx ρ μ1 Xk else ty ρ μ1 Xk) := propext Iff.rfl
theorem Gq {te : DTE} {tx : DTX} {ρ : Rho} {μ : Mu} {Xk : Mu → Prop} : C4 te tx ρ μ Xk = te ρ μ (fun _ μ1 => tx ρ μ1 Xk) := propext Iff.rfl
theorem kB {td : DTS} {tx : DTX} {ρ : Rho} {μ : Mu} {Xk : Mu → Prop} : dY td tx ρ μ Xk = td { nx := fun ρ' μ' => tx ρ' μ' Xk, rt := fun _ _ => False } ρ μ := propext Iff.rfl
theorem Kn {ea : Addr} {b : Bool} {i : Nat} {ρ : Rho} {μ : Mu} {Q : DK} (h : ρ[i]? = some (some (.o ea))) : kZ ea b (af i) ρ μ Q = Q (.v (.bool b)) μ := by
  unfold kZ af
  rw [h]
  exact propext ⟨fun z => z.2, fun z => ⟨rfl, z⟩⟩
theorem Ef {ea : Addr} {b : Bool} {x : Option D} {r : Rho} {μ : Mu} {Q : DK} : kZ ea b (af 1) (x :: some (.o ea) :: r) μ Q = Q (.v (.bool b)) μ := Kn rfl
def CS : PyData → Option PyData
  | .tuple [.str n, .bool b] => if b = true then some (.str n) else none
  | _ => none
theorem CO {r : Rho} {μ : Mu} {Q : DK} {ns : List (Str × Bool)} {i : Nat} (hi : r[i]? = some (some (.v (.list (ns.map fun n => .tuple [.str n.1, .bool n.2]))))) (hl : ns.length ≤ 1000) (q : Q (.v (.list ((ns.map fun n => (.tuple [.str n.1, .bool n.2] : PyData)).filterMap CS))) μ) :
    kF [none, none] (sJ (af i)) (eR 2 (aU (aj 0) (aU (aj 1) fP))) (dB (af 1)) (af 0) r μ Q := by
  rw [qN]
  show (match r[i]? with | some (some d) => _ | _ => False)
  rw [hi]
  refine ⟨by rw [List.length_map]; exact hl, fun p hp => ⟨fun i acc μ' => acc = ((ns.map fun n => (.tuple [.str n.1, .bool n.2] : PyData)).take i).filterMap CS ∧ μ' = aE μ p acc, ⟨rfl, rfl⟩, ?_, ?_⟩⟩
  · rintro i x acc μ' hx hpa ⟨e0, e1⟩
    obtain ⟨n, hn, rfl⟩ := List.mem_map.mp (List.mem_of_getElem? hx)
    have st := wo (f := CS) hx
    obtain ⟨n, b⟩ := n
    refine ⟨rfl, ⟨trivial, ?_⟩⟩
    show if b = true then _ else _
    cases b with
    | true =>
      rw [if_pos rfl]
      refine ⟨hpa, ?_, ?_⟩
      · rw [st, ← e0]; rfl
      · rw [e1, u6]
    | false =>
      rw [if_neg (by decide)]
      refine ⟨hpa, ?_, e1⟩
      rw [st, ← e0]; simp [CS]
  · rintro acc μ' ⟨e0, e1⟩ hpa
    rw [List.take_length] at e0
    rw [e1, e0, Cm hp]
    exact q
open PySem PySem.Spec PyProof.Rows
section
end
open PySem PySem.Spec PyProof.Rows
section
variable {X : Cx} {a b e : Expr} {es : List Expr} {ta tb te : DTE} {t : DTA} {p pos : Pos} {x : Str} {bid T : String}
end
open PySem PySem.Spec PyProof.Rows
section
variable {X : Cx} {es : List Expr} {x1 : Nat} {tpos : Pos}
end
open PySem PySem.Spec PyProof.Rows
section
variable {X : Cx} {e : Expr} {te : DTE} {p p2 pos pos2 : Pos}
end
open PySem PySem.Spec PyProof.Rows
noncomputable def QT (ds : List D) : PQ := fun K u μ H => ∃ a us, u = .ref a ∧ H a = some (.tup us) ∧ jo K μ H ds us
section
variable {X : Cx} {pins : List (Addr × Obj)} {σ : St} {H : Hp} {s : Shared}
end
section
variable {K : PySem.W.Frag} {μ : Mu} {H : Hp} {a : Addr} {us : List V} {ds : List D}
end
section
variable {X : Cx} {es : List Expr} {t : DTA} {pos : Pos}
end
open PySem PySem.Spec PyProof.Rows
open PySem PySem.Spec PyProof.Rows
noncomputable def xOr (tx ty : DTX) : DTX := fun ρ μ Xk => tx ρ μ Xk ∨ ty ρ μ Xk
theorem vL {X : Cx} {E : XK} {C : Value} {sts : List Stmt} {tx ty : DTX} (h1 : XSs X E C sts tx) (h2 : XSs X E C sts ty) : XSs X E C sts (xOr tx ty) := by
  obtain ⟨t1, p1, l1⟩ := h1
  obtain ⟨t2, p2, l2⟩ := h2
  refine ⟨fun D σ H => t1 D σ H ∨ t2 D σ H, fun pins s σ H D I h => h.elim (p1 pins s σ H D I) (p2 pins s σ H D I), fun σ H ρ μ Xk D S h wsh => ?_⟩
  rcases h with h | h
  · exact .inl (l1 σ H ρ μ Xk D S h wsh)
  · exact .inr (l2 σ H ρ μ Xk D S h wsh)
theorem sf {tx ty : DTX} {ρ : Rho} {μ : Mu} {Xk : Mu → Prop} : xOr tx ty ρ μ Xk = (tx ρ μ Xk ∨ ty ρ μ Xk) := propext Iff.rfl
open PySem PySem.Spec PyProof.Rows
section
variable {X : Cx} {o e : Expr} {to te : DTE} {apos cpos : Pos}
end
section
variable {X : Cx} {E : XK} {C : Value} {a b : Expr} {tx : DTX} {pos : Pos}
end
section
variable {X : Cx}
end
open PySem PySem.Spec PyProof.Rows
section
variable {X : Cx}
end
open PySem PySem.Spec PyProof.Rows
open PySem PySem.Spec PyProof.Rows
noncomputable def Kd : R2 := fun x y H Q => y = .non ∧ ((x = .non ∧ Q (.bl true) H) ∨ (∃ a, x = .ref a ∧ Q (.bl false) H))
theorem FC {X : Cx} : OpR X (compareOp .Is) Kd := by
  intro pins s σ H x y v u Q I rx ry h
  obtain ⟨rfl, ⟨rfl, q⟩ | ⟨i, rfl, q⟩⟩ := h
  · cases rx; cases ry
    exact wpAny_is_plain rfl ⟨.bl true, H, I, rfl, q⟩
  · cases rx
    cases ry
    exact wpAny_is_plain rfl ⟨.bl false, H, I, rfl, q⟩
open PySem PySem.Spec PyProof.Rows
section
variable {K : PySem.W.Frag} {μ : Mu} {H : Hp}
def Lv (neg : Bool) : D → D → Mu → DK → Prop := fun x y μ Q => match x, y with
  | .m a, .v b => ∃ es, μ a = some es ∧ SeqAt.shaped (.list es) = true ∧ SeqAt.shaped b = true ∧ Q (.v (.bool (neg ^^ PyData.eqv (.list es) b))) μ
  | x, y => bt neg x y μ Q
end
section
variable {X : Cx} {a b e : Expr} {ta tb te : DTE} {pos p : Pos} {T : String}
noncomputable def D8 (to : DTE) : DTE := fun ρ μ Q => to ρ μ fun x μ1 => match x with
  | .m l => (match μ1 l with
    | some xs => Q (.v .none) (aE μ1 l xs.reverse)
    | none => False)
  | _ => False
theorem RpL.snoc {K : PySem.W.Frag} {μ : Mu} {H : Hp} : ∀ {ds : List PyData} {us : List V} {d : PyData} {u : V}, RpL K μ H ds us → Rp K μ H d u → RpL K μ H (ds ++ [d]) (us ++ [u])
  | _, _, _, _, .nil, r => .cons r .nil
  | _, _, _, _, .cons a b, r => .cons a (RpL.snoc b r)
theorem RpL.rev {K : PySem.W.Frag} {μ : Mu} {H : Hp} : ∀ {ds : List PyData} {us : List V}, RpL K μ H ds us → RpL K μ H ds.reverse us.reverse
  | _, _, .nil => .nil
  | _, _, .cons a b => by rw [List.reverse_cons, List.reverse_cons]; exact RpL.snoc (RpL.rev b) a
theorem FG {o : Expr} {to : DTE} {apos cpos : Pos} (ho : DE X o to) (hbase : attributeBase o "reverse" X.env (eval o X.env) = eval o X.env := by rfl) (hline : (apos.endLine == cpos.line) = true := by rfl) :
    DE X (.Call (.Attribute o "reverse" apos) [] [] cpos) (D8 to) := by
  obtain ⟨t1, p1, l1⟩ := ho
  refine ⟨_, Im PySem.F.plainAttrs_list PySem.F.slot_list_reverse PySem.F.type_list_reverse zK p1 hbase hline, fun σ H ρ μ Qd Q S h k => ?_⟩
  refine l1 σ H ρ μ _ _ S h fun x ux μ1 H1 e1 S1 rx h1 => ?_
  cases x with
  | m l =>
    obtain ⟨rfl, ds, hm⟩ := id rx
    obtain ⟨us, hl, rl⟩ := S1.mu l ds hm
    refine ⟨.inl ⟨rfl, us, SqL.of hl⟩, ?_⟩
    dsimp only at h1
    rw [hm] at h1
    have ex : Ext X.K μ1 H1 (aE μ1 l ds.reverse) (upd H1 l (.lst us.reverse)) := mC hm
    exact ⟨l, us, rfl, rfl, hl, k (.v .none) .non _ _ (e1.trans ex) ⟨S1.mu.set hm rl.rev, S1.rho.ext S1.mu ex⟩ Rp.none h1⟩
  | v d => exact h1.elim
  | s ns => exact h1.elim
  | o _ => exact h1.elim
  | q _ => exact h1.elim
end
theorem zX {to : DTE} {ρ : Rho} {μ : Mu} {Q : DK} : D8 to ρ μ Q = to ρ μ (fun x μ1 => match x with
  | .m l => (match μ1 l with
    | some xs => Q (.v .none) (aE μ1 l xs.reverse)
    | none => False)
  | _ => False) := propext Iff.rfl
end L2.DL
set_option Elab.async false
set_option linter.all false
set_option maxRecDepth 100000
set_option maxHeartbeats 4000000
namespace L2
open PySem PySem.W PyProof.Rows
section
variable {X : Cx} {a b c d : Expr} {ta tb tc td : TE} {pos : Pos}
end
end L2
namespace L2.DL
open PySem PySem.Spec PyProof.Rows
section
variable {X : Cx} {a b c d : Expr} {ta tb tc td : DTE} {pos : Pos}
end
end L2.DL
namespace L2
open PySem PySem.W PyProof.Rows
section
variable {X : Cx}
end
end L2
namespace L2.DL
open PySem PySem.Spec PyProof.Rows
open PySem PySem.Spec PyProof.Rows
section
variable {X : Cx} {a b : Expr} {ta tb : DTE} {pos : Pos}
end
open PySem PySem.Spec PyProof.Rows
end L2.DL
set_option Elab.async false
set_option linter.all false
set_option maxRecDepth 100000
set_option maxHeartbeats 4000000
namespace L2
open PySem PySem.Spec PyProof.Rows
section
variable {X : Cx} {pos : Pos}
end
end L2
namespace L2.DL
open PySem PySem.W PyProof.Rows
section
variable {X : Cx} {pos : Pos}
end
open PySem PySem.Spec PyProof.Rows
section
variable {X : Cx} {e : Expr} {te : DTE} {pos p : Pos}
end
open PySem PySem.Spec PyProof.Rows
end L2.DL
set_option Elab.async false
set_option linter.all false
set_option maxRecDepth 100000
set_option maxHeartbeats 4000000
namespace L2
open PySem PySem.Spec PyProof.Rows
end L2
namespace L2.DL
open PySem PySem.Spec PyProof.Rows
section
variable {X : Cx} {a b e : Expr} {ta tb te : DTE} {pos p2 : Pos}
end
end L2.DL
set_option Elab.async false
set_option linter.all false
set_option maxRecDepth 100000
set_option maxHeartbeats 4000000
namespace L2
open PySem PySem.Spec PyProof.Rows
section
variable {X : Cx}
end
end L2
namespace L2.DL
open PySem PySem.Spec PyProof.Rows
section
variable {X : Cx} {o i e : Expr} {to ti te : DTE} {apos cpos : Pos}
end
end L2.DL
set_option Elab.async false
set_option linter.all false
set_option maxRecDepth 100000
set_option maxHeartbeats 4000000
namespace L2
open PySem PySem.Spec PyProof.Rows
section
variable {X : Cx}
theorem uJ : ip X (.type "int") (fun xs H Q => ∃ z n, xs = [.str z] ∧ intText? z = some n ∧ z.length ≤ 640 ∧ Q (.int n) H) := by
  intro pins s σ H xs us Q I r h
  obtain ⟨z, n, rfl, hn, hz, q⟩ := h
  obtain ⟨u, rfl, t, rfl⟩ := vals1 r
  exact PySem.W.KIN.call_text hn hz ⟨.int n, H, I.tok _, ⟨_, rfl⟩, q⟩
def KZ : V → Option Int → Option Int → Hp → VK → Prop := fun x lo hi H Q => ∃ z, x = .str z ∧ z.length ≤ sizeLine ∧ Q (.str (Txt.slice z lo hi)) H
theorem xP {vl : Value} {lo : Option Int} (h : IsPart vl lo) : ∃ o : Option (Int × Tok), o.map (·.1) = lo ∧ (vl = match o with | some p => .int p.1 p.2 | none => .none) := by
  cases h with
  | none => exact ⟨none, rfl, rfl⟩
  | int i t => exact ⟨some (i, t), rfl, rfl⟩
theorem Jx : SlR X KZ := by
  intro pins s σ H x v vl vu lo hi sl Q I rx hs pl pu h
  obtain ⟨z, rfl, hz, q⟩ := h
  obtain ⟨t, rfl⟩ := rx
  obtain ⟨ol, rfl, el⟩ := xP pl
  obtain ⟨ou, rfl, eu⟩ := xP pu
  refine ⟨"str", _, slot_str_getitem.lookup, typeIs_str s z t, wpAny_getItem_str_slice (l := ol) (u := ou) (st := none) ?_ rfl ?_⟩
  · obtain ⟨o, h1, h2, h3⟩ := hs
    refine ⟨o, h1, h2, ?_⟩
    rw [h3, el, eu]
    cases ol <;> cases ou <;> rfl
  · have e : Txt.slice z (ol.map (·.1)) (ou.map (·.1)) = if ((1 : Int) == 1 && (slicePicked z ol ou none).length == z.length) = true then z else ⟨((slicePicked z ol ou none).filterMap fun i => z.cps[i]?).toArray⟩ := rfl
    have hl := Txt.slice_le z (ol.map (·.1)) (ou.map (·.1))
    rw [e] at q hl
    unfold sliceMade
    show Made.post (if ((1 : Int) == 1 && (slicePicked z ol ou none).length == z.length) = true then _ else _) _ s
    split at q
    · rename_i c
      rw [if_pos c]
      exact ⟨.str z, H, I, ⟨_, rfl⟩, q⟩
    · rename_i c
      rw [if_neg c] at hl ⊢
      exact ⟨Nat.le_trans hl hz, .str _, H, I.tok _, ⟨_, rfl⟩, q⟩
def rSM (g : Str → Str → V) : V → List V → Hp → VK → Prop := fun x vs H Q => ∃ a b, x = .str a ∧ vs = [.str b] ∧ Q (g a b) H
theorem Co : MtM X "str.startswith" (rSM fun x y => .bl (decide (0 + y.length ≤ x.length) && Builtin.Str.subAt x y 0)) := by
  intro pins s σ H x vs v us Q I rx rv h
  obtain ⟨a, b, rfl, rfl, q⟩ := h
  obtain ⟨t, rfl⟩ := rx
  obtain ⟨u, rfl, t', rfl⟩ := vals1 rv
  exact call_gives F.slot_str_startswith (typeIs_str s a t) F.entry_str_startswith (F.args_str_startswith_2 _ _) (gives_str_startswith a b t t') ⟨.bl _, H, I, rfl, q⟩
theorem Ge : MtM X "str.endswith" (rSM fun x y => .bl (decide (0 + y.length ≤ x.length) && Builtin.Str.subAt x y (x.length - y.length))) := by
  intro pins s σ H x vs v us Q I rx rv h
  obtain ⟨a, b, rfl, rfl, q⟩ := h
  obtain ⟨t, rfl⟩ := rx
  obtain ⟨u, rfl, t', rfl⟩ := vals1 rv
  exact call_gives F.slot_str_endswith (typeIs_str s a t) F.entry_str_endswith (F.args_str_endswith_2 _ _) (gives_str_endswith a b t t') ⟨.bl _, H, I, rfl, q⟩
def cH (x y : Str) : Int := match Builtin.Str.lastOccurrence x y 0 x.length with | some i => (i : Nat) | none => -1
theorem Dq : MtM X "str.rfind" (rSM fun x y => .int (cH x y)) := by
  intro pins s σ H x vs v us Q I rx rv h
  obtain ⟨a, b, rfl, rfl, q⟩ := h
  obtain ⟨t, rfl⟩ := rx
  obtain ⟨u, rfl, t', rfl⟩ := vals1 rv
  exact call_gives F.slot_str_rfind (typeIs_str s a t) F.entry_str_rfind (F.args_str_rfind_2 _ _) (gives_str_rfind a b t t') ⟨.int _, H, I.tok _, ⟨_, rfl⟩, q⟩
def Bl (x y : Str) : List V := match Builtin.Str.occurrences x y 0 x.length 1 with
  | i :: _ => [.str (Builtin.Str.strSub x 0 i), .str y, .str (Builtin.Str.strSub x (i + y.length) x.length)]
  | [] => [.str x, .str Str.empty, .str Str.empty]
def Iy : V → List V → Hp → VK → Prop := fun x vs H Q => ∃ a b, x = .str a ∧ vs = [.str b] ∧ (b.length == 0) = false ∧ a.length ≤ sizeLine ∧ ∀ p, H p = none → Q (.ref p) (upd H p (.tup (Bl a b)))
theorem wQ : MtM X "str.partition" Iy := by
  intro pins s σ H x vs v us Q I rx rv h
  obtain ⟨a, b, rfl, rfl, hb, ha, q⟩ := h
  obtain ⟨t, rfl⟩ := rx
  obtain ⟨u, rfl, t', rfl⟩ := vals1 rv
  refine call_meets F.slot_str_partition (typeIs_str s a t) F.entry_str_partition (F.args_str_partition_2 _ _) (meets_str_partition a b t t' hb ha) ?_
  unfold Bl at q
  split
  · rename_i i tl e
    rw [e] at q
    refine ⟨.ref s.heap.objs.size, _, I.laid (o := .tup _) (fun b ob q => Heap.get?_push_of_some _ q) (Nat.le_refl _) ?_, rfl, q _ (I.hok.fresh (Nat.le_refl _))⟩
    exact ⟨by show 3 ≤ sizeLine; decide, _, .cons ⟨_, rfl⟩ (.cons ⟨_, rfl⟩ (.cons ⟨_, rfl⟩ .nil)), IsTup.new _ _⟩
  · rename_i e
    rw [e] at q
    refine ⟨.ref s.heap.objs.size, _, I.laid (o := .tup _) (fun b ob q => Heap.get?_push_of_some _ q) (Nat.le_refl _) ?_, rfl, q _ (I.hok.fresh (Nat.le_refl _))⟩
    exact ⟨by show 3 ≤ sizeLine; decide, _, .cons ⟨_, rfl⟩ (.cons ⟨_, rfl⟩ (.cons ⟨_, rfl⟩ .nil)), IsTup.new _ _⟩
end
end L2
set_option Elab.async false
set_option linter.all false
set_option maxRecDepth 100000
set_option maxHeartbeats 4000000
namespace L2
open PySem PySem.Spec PyProof.Rows
section
variable {X : Cx} {tg : Expr}
def zT (x : Str) : List V := x.cps.toList.map fun c => .str ⟨#[c]⟩
def Its (x : Str) : It := { go := fun i _ => i < x.cps.size, yld := fun i H v H' => H' = H ∧ (zT x)[i]? = some v, stop := fun i _ => x.cps.size ≤ i }
theorem Dg {P : Program} {w : World} {K : PySem.W.Frag} {tg : Expr} (it : Addr) (x : Str) (t : Tok) : Turn true P w K tg (Its x) [it] it (fun i h => i ≤ x.cps.size ∧ h.IsStrIter it (strIterType x) x t i) where
  mem := by simp
  obj := fun i h st b hb => by
    have e : b = it := by simpa using hb
    subst e
    obtain ⟨o, e, c, d⟩ := st.2
    exact ⟨o, e, fun v z => by rw [d] at z; cases z⟩
  keep := fun i h h' st k => ⟨st.1, by obtain ⟨o, e, c, d⟩ := st.2; exact ⟨o, k it (by simp) o e, c, d⟩⟩
  item := by
    intro X hP hw hK hc i pins s σ H E I hf st hg
    subst hP hw hK
    obtain ⟨f0, f1, f2, f3, f4, f5⟩ := hf it (by simp)
    have W : Walks X.prog X.w X.A it [it] [it] x.cps.size (SignAt x) (fun i h => h.IsStrIter it (strIterType x) x t i) := by
      have e : strIterType x = "str_ascii_iterator" ∨ strIterType x = "str_iterator" := by
        unfold strIterType; split
        · exact .inl rfl
        · exact .inr rfl
      rcases e with e | e <;> rw [e]
      · exact Walks.strAscii (I.ok.hd (hc rfl)) it x t
      · exact Walks.strWide (I.ok.hd (hc rfl)) it x t
    refine W.item i s _ _ hg st.2 fun v h' tk hv st' kk => ?_
    obtain ⟨c, u, hcu, rfl⟩ := hv
    have I1 : Inv X pins σ H { s with heap := h', toks := tk } := I.turned (fun b o hb e => kk b o (by simpa using hb) e) f0 f1 f3 f4 f5
    obtain ⟨o, e1, e2, e3⟩ := id st'
    refine ⟨_, rfl, Bu (s := { s with heap := h', toks := tk }) e1 e2 e3 (by unfold strIterType; split <;> decide) ⟨.str ⟨#[c]⟩, H, I1, ⟨_, rfl⟩, ⟨rfl, ?_⟩, ⟨hg, st'⟩, fun b hb => (hf b hb).1⟩⟩
    unfold zT
    rw [List.getElem?_map, Array.getElem?_toList, hcu]
    rfl
  done := by
    intro X hP hw hK hc i pins s σ H E I hf st hg
    subst hP hw hK
    obtain ⟨f0, f1, f2, f3, f4, f5⟩ := hf it (by simp)
    have W : Walks X.prog X.w X.A it [it] [it] x.cps.size (SignAt x) (fun i h => h.IsStrIter it (strIterType x) x t i) := by
      have e : strIterType x = "str_ascii_iterator" ∨ strIterType x = "str_iterator" := by
        unfold strIterType; split
        · exact .inl rfl
        · exact .inr rfl
      rcases e with e | e <;> rw [e]
      · exact Walks.strAscii (I.ok.hd (hc rfl)) it x t
      · exact Walks.strWide (I.ok.hd (hc rfl)) it x t
    have hi : i = x.cps.size := Nat.le_antisymm st.1 hg
    subst hi
    exact W.done s _ _ st.2 fun h' tk kk => ⟨rfl, I.turned (fun b o hb e => kk b o (by simpa using hb) e) f0 f1 f3 f4 f5⟩
  self := fun A i s Q E st h => by
    have e : strIterType x = "str_ascii_iterator" ∨ strIterType x = "str_iterator" := by
      unfold strIterType; split
      · exact .inl rfl
      · exact .inr rfl
    rcases e with e | e <;> rw [e] at st
    · exact wpAny_pyIter_striter_ascii st.2 h
    · exact wpAny_pyIter_striter_wide st.2 h
noncomputable def K1 (tl : TE) : TI := fun σ H R => tl σ H fun x H1 => ∃ z, x = .str z ∧ R (Its z) H1
theorem Jf {l : Expr} {tl : TE} (hc : X.calm = true) (hl : PE X l tl) : PI X tg l (K1 tl) := by
  intro pins s σ H R I h
  refine thn (hl pins s σ H _ I h) fun v s1 ⟨x, H1, I1, r1, q1⟩ => ?_
  obtain ⟨z, rfl, q⟩ := q1
  obtain ⟨t, rfl⟩ := r1
  refine wpAny_pyIter_strU ?_
  refine ⟨s1.heap.objs.size, [s1.heap.objs.size], _, _, H1, rfl, I1.kept (t' := s1.toks) fun b o e => Heap.get?_push_of_some _ e, (Dg _ z t).calm hc, ⟨Nat.zero_le _, _, Heap.get?_push_size _ rfl, rfl, rfl⟩, fun b hb => ?_, q⟩
  have e : b = s1.heap.objs.size := by simpa using hb
  subst e
  exact I1.E5 (Nat.le_refl _) (I1.hok.fresh (Nat.le_refl _))
def lP (sep : Str) (ws : List Str) : Str := match ws with
  | [p] => p
  | l => Builtin.Str.glued sep l
def rJoin : V → List V → Hp → VK → Prop := fun x vs H Q => ∃ (z : Str) (a : Addr) (ws : List Str), x = .str z ∧ vs = [.ref a] ∧ H a = some (.lst (ws.map .str)) ∧ Builtin.Str.tooLong (Array.foldl (fun n w => n + w.length + z.length) 0 ws.toArray) = false ∧ (lP z ws).length ≤ sizeLine ∧ Q (.str (lP z ws)) H
theorem u5 : ∀ {ws : List Str} {us : List Value}, Vals (ws.map .str) us → ∃ l : List (Str × Tok), us = strValues l ∧ l.map (·.1) = ws
  | [], _, .nil => ⟨[], rfl, rfl⟩
  | w :: r, _, .cons ⟨t, e⟩ h => by
    obtain ⟨l, rfl, rfl⟩ := u5 h
    exact ⟨(w, t) :: l, by rw [e]; rfl, rfl⟩
theorem Gi : MtM X "str.join" rJoin := by
  intro pins s σ H x vs v us Q I rx rv h
  obtain ⟨z, a, ws, rfl, rfl, hH, hz, hs, q⟩ := h
  obtain ⟨t, rfl⟩ := rx
  obtain ⟨u, rfl, ru⟩ := vals1 rv
  cases ru
  obtain ⟨_, its, n, r, hl, e⟩ := I.yS hH
  obtain ⟨l, rfl, rfl⟩ := u5 r
  refine call_meets F.slot_str_join (typeIs_str s z t) F.entry_str_join (F.args_str_join_2 _ _) (meets_str_join_list z t a l hz) ⟨⟨_, e, rfl, n, rfl⟩, ?_⟩
  match l, hs, q with
  | [], hs, q => exact ⟨hs, .str _, H, I.tok _, ⟨_, rfl⟩, q⟩
  | [p], hs, q => exact ⟨.str p.1, H, I, ⟨_, rfl⟩, q⟩
  | p :: p' :: l, hs, q => exact ⟨hs, .str _, H, I.tok _, ⟨_, rfl⟩, q⟩
end
end L2
set_option Elab.async false
set_option linter.all false
set_option maxRecDepth 100000
set_option maxHeartbeats 4000000
namespace L2
open PySem PySem.Spec PyProof.Rows
section
variable {X : Cx} {e e1 e2 : Expr} {es : List Expr} {te : TE} {pos : Pos}
abbrev TJ := Str → St → Hp → (Str → Hp → Prop) → Prop
noncomputable def PJ (X : Cx) (es : List Expr) (t : TJ) : Prop := ∀ (pins : List (Addr × Obj)) (s : Shared) (σ : St) (H : Hp) (acc : Str) (Q : Str → Hp → Prop), Inv X pins σ H s → t acc σ H Q →
  Joins (model X.prog X.w) X.A X.xe (evalEach es X.env) acc (fun out s1 => out.length ≤ sizeLine ∧ ∃ H1, Inv X pins σ H1 s1 ∧ Q out H1) s
def tjN : TJ := fun acc _ H Q => acc.length ≤ sizeLine ∧ Q acc H
def tjC (te : TE) (tj : TJ) : TJ := fun acc σ H Q => te σ H fun x H1 => ∃ y, x = .str y ∧ (acc ++ y).length ≤ sizeLine ∧ tj (acc ++ y) σ H1 Q
theorem Jg : PJ X [] tjN := by
  intro pins s σ H acc Q I h
  exact ⟨h.1, H, I, h.2⟩
theorem GJ {tj : TJ} (he : PE X e te) (hr : PJ X es tj) : PJ X (e :: es) (tjC te tj) := by
  intro pins s σ H acc Q I h
  show Joins _ _ _ (eval e X.env :: evalEach es X.env) acc _ s
  rw [Joins.eq_2]
  refine thn (he pins s σ H _ I h) fun v s1 ⟨x, H1, I1, r1, q1⟩ => ?_
  obtain ⟨y, rfl, hl, q⟩ := q1
  obtain ⟨t, rfl⟩ := r1
  exact ⟨y, t, rfl, hl, hr pins s1 σ H1 _ Q I1 q⟩
noncomputable def tJS (tj : TJ) : TE := fun σ H Q => tj Str.empty σ H fun z H1 => Q (.str z) H1
theorem Cw {tj : TJ} (h : PJ X (e1 :: e2 :: es) tj) : PE X (.JoinedStr (e1 :: e2 :: es) pos) (tJS tj) := by
  intro pins s σ H Q I hq
  refine wpAny_JoinedStr ?_
  have := h pins s σ H Str.empty (fun z H1 => Q (.str z) H1) I hq
  clear I hq h
  revert this
  generalize evalEach (e1 :: e2 :: es) X.env = ts
  generalize Str.empty = acc
  induction ts generalizing acc s with
  | nil => exact fun ⟨a, H1, b, c⟩ => ⟨a, .str acc, H1, b.tok _, ⟨_, rfl⟩, c⟩
  | cons t r ih =>
    intro g
    rw [Joins.eq_2] at g ⊢
    exact thn g fun v s1 ⟨y, tk, e, hl, g'⟩ => ⟨y, tk, e, hl, ih s1 _ g'⟩
noncomputable def tFv (te : TE) : TE := fun σ H Q => te σ H fun x H1 => ∃ z, x = .str z ∧ z.length ≤ sizeLine ∧ Q (.str z) H1
theorem KH (he : PE X e te) : PE X (.FormattedValue e (-1) none pos) (tFv te) := by
  intro pins s σ H Q I h
  refine wpAny_FormattedValue_plain (thn (he pins s σ H _ I h) fun v s1 ⟨x, H1, I1, r1, q1⟩ => ?_)
  obtain ⟨z, rfl, hz, q⟩ := q1
  obtain ⟨t, rfl⟩ := r1
  exact wpAny_formatField_str ⟨.str z, H1, I1, ⟨_, rfl⟩, q⟩ ⟨.str z, H1, I1.tok _, ⟨_, rfl⟩, q⟩ hz
end
end L2
namespace L2.DL
open PySem PySem.Spec PyProof.Rows
section
variable {X : Cx} {a b e e1 e2 o : Expr} {es : List Expr} {ta tb te to : DTE} {t : DTA} {pos p p2 apos cpos : Pos} {lo hi : Option Expr}
def aI : D → D → Mu → DK → Prop := fun x y μ Q => match x, y with
  | .v (.str i), .v (.str j) => i.length + j.length ≤ 10000 ∧ Q (.v (.str (i ++ j))) μ
  | _, _ => False
theorem df {n : Nat} (h : n ≤ 10000) : n ≤ sizeLine := Nat.le_trans h (by decide)
theorem Fs {K : PySem.W.Frag} : fT K (fun x y H Q => ∃ i j, x = .str i ∧ y = .str j ∧ i.length + j.length ≤ sizeLine ∧ Q (.str (i ++ j)) H) aI := by
  intro x y ux uy H μ Qd Q ok rx ry h k
  unfold aI at h
  split at h
  · cases rx; cases ry
    exact ⟨_, _, rfl, rfl, df h.1, k (.v _) _ μ H .refl ok (.str _) h.2⟩
  · exact h.elim
theorem aJ (ha : DE X a ta) (hb : DE X b tb) : DE X (.BinOp a .Add b pos) (dOp aI ta tb) := oM zG Fs ha hb
def inS (i j : Str) : Bool := !(Builtin.Str.occurrences j i 0 j.length 1).isEmpty
def rD (neg : Bool) : D → D → Mu → DK → Prop := fun x y μ Q => match x, y with
  | .v (.str i), .v (.str j) => Q (.v (.bool (neg ^^ inS i j))) μ
  | _, _ => False
theorem AB {K : PySem.W.Frag} : fT K (fun x y H Q => ∃ i j, x = .str i ∧ y = .str j ∧ Q (.bl (!(Builtin.Str.occurrences j i 0 j.length 1).isEmpty)) H) (rD false) := by
  intro x y ux uy H μ Qd Q ok rx ry h k
  unfold rD at h
  split at h
  · cases rx; cases ry
    rw [Bool.false_xor] at h
    exact ⟨_, _, rfl, rfl, k (.v _) _ μ H .refl ok (.bool _) h⟩
  · exact h.elim
def g0 : List D → Mu → DK → Prop := fun xs μ Q => match xs with
  | [.v (.int i)] => i.natAbs.log2 < 1920 ∧ Q (.v (.str (toString i))) μ
  | _ => False
theorem JG {K : PySem.W.Frag} : lh K (fun xs H Q => ∃ i, xs = [.int i] ∧ i.natAbs.log2 < 1920 ∧ Q (.str (toString i)) H) g0 := by
  intro xs us H μ Qd Q ok rs h k
  unfold g0 at h
  split at h
  · rename_i i
    cases rs with
    | cons r1 r2 => cases r2; cases r1; exact ⟨i, rfl, h.1, k (.v _) _ μ H .refl ok (Rp.str _) h.2⟩
  · exact h.elim
theorem dQ (hg : Gl X "str") (hm : X.mg "str" = none) (ha : DA X (e :: es) t)
    (he : starEach (e :: es) X.env = (false, eval e X.env) :: starEach es X.env := by rfl) (hpl : (backTo pos (starEach es X.env)).any (·.1) = false := by rfl) : DE X (.Call (.Name "str" p) (e :: es) [] pos) (dCB g0 t) :=
  mJ vI JG hg hm PyProof.Rows.Boot.«str» ha (by decide) (by decide) he hpl
def sZ : List D → Mu → DK → Prop := fun xs μ Q => match xs with
  | [.v (.str z)] => ∃ n, intText? z = some n ∧ z.length ≤ 640 ∧ Q (.v (.int n)) μ
  | _ => False
theorem Gz {K : PySem.W.Frag} : lh K (fun xs H Q => ∃ z n, xs = [.str z] ∧ intText? z = some n ∧ z.length ≤ 640 ∧ Q (.int n) H) sZ := by
  intro xs us H μ Qd Q ok rs h k
  unfold sZ at h
  split at h
  · rename_i z
    obtain ⟨n, h1, h2, h3⟩ := h
    cases rs with
    | cons r1 r2 => cases r2; cases r1; exact ⟨z, n, rfl, h1, h2, k (.v _) _ μ H .refl ok (Rp.int _) h3⟩
  · exact h.elim
theorem wB (hg : Gl X "int") (hm : X.mg "int" = none) (ha : DA X (e :: es) t)
    (he : starEach (e :: es) X.env = (false, eval e X.env) :: starEach es X.env := by rfl) (hpl : (backTo pos (starEach es X.env)).any (·.1) = false := by rfl) : DE X (.Call (.Name "int" p) (e :: es) [] pos) (dCB sZ t) :=
  mJ uJ Gz hg hm PyProof.Rows.Boot.«int» ha (by decide) (by decide) he hpl
def jf : List D → Mu → DK → Prop := fun xs μ Q => match xs with
  | [.v (.str z)] => z.length ≤ 10000 ∧ Q (.v (.int (z.length : Nat))) μ
  | _ => False
theorem GN {K : PySem.W.Frag} : lh K (fun xs H Q => ∃ z, xs = [.str z] ∧ z.length ≤ sizeLine ∧ Q (.int z.length) H) jf := by
  intro xs us H μ Qd Q ok rs h k
  unfold jf at h
  split at h
  · rename_i z
    cases rs with
    | cons r1 r2 => cases r2; cases r1; exact ⟨z, rfl, df h.1, k (.v _) _ μ H .refl ok (Rp.int _) h.2⟩
  · exact h.elim
theorem gO (hg : Gl X "len") (hm : X.mg "len" = none) (ha : DA X (e :: es) t)
    (he : starEach (e :: es) X.env = (false, eval e X.env) :: starEach es X.env := by rfl) (hpl : (backTo pos (starEach es X.env)).any (·.1) = false := by rfl) : DE X (.Call (.Name "len" p) (e :: es) [] pos) (dCB jf t) :=
  kn vC GN hg hm PySem.boot_len ha (by decide) (by decide) he hpl
noncomputable def eB (te : DTE) (tl th : DTO) : DTE := fun ρ μ Q => te ρ μ fun x μ1 => tl ρ μ1 fun l μ2 => th ρ μ2 fun u μ3 => match x with
  | .v (.str z) => z.length ≤ 10000 ∧ Q (.v (.str (Txt.slice z l u))) μ3
  | _ => False
theorem aK {tl th : DTO} (he : DE X e te) (hl : DO X lo tl) (hu : DO X hi th) : DE X (.Subscript e (.Slice lo hi none p2) pos) (eB te tl th) := by
  obtain ⟨t1, p1, l1⟩ := he
  obtain ⟨t2, p2, l2⟩ := hl
  obtain ⟨t3, p3, l3⟩ := hu
  refine ⟨_, Dm Jx p1 p2 p3, fun σ H ρ μ Qd Q S h k => ?_⟩
  refine l1 σ H ρ μ _ _ S h fun x ux μ1 H1 e1 S1 rx h1 => ?_
  refine l2 σ H1 ρ μ1 _ _ S1 h1 fun l μ2 H2 e2 S2 h2 => ?_
  refine l3 σ H2 ρ μ2 _ _ S2 h2 fun u μ3 H3 e3 S3 h3 => ?_
  split at h3
  · cases rx
    exact ⟨_, rfl, df h3.1, k (.v _) _ μ3 H3 (e1.trans (e2.trans e3)) S3 (Rp.str _) h3.2⟩
  · exact h3.elim
def qY (x y : Str) : Bool := decide (0 + y.length ≤ x.length) && Builtin.Str.subAt x y 0
def BF (x y : Str) : Bool := decide (0 + y.length ≤ x.length) && Builtin.Str.subAt x y (x.length - y.length)
noncomputable def dSM (g : Str → Str → PyData) (to te : DTE) : DTE := fun ρ μ Q => to ρ μ fun x μ1 => match x with
  | .v (.str i) => te ρ μ1 fun y μ2 => (match y with
    | .v (.str j) => Q (.v (g i j)) μ2
    | _ => False)
  | _ => False
theorem DX {name : Str} {id : String} {g : Str → Str → PyData} {gv : Str → Str → V} (slot : Slot "str" name id) (hty : typeOf (.builtin id) = pure (.type "method_descriptor")) (hmt : MtM X id (rSM gv)) (hg : ∀ (K : PySem.W.Frag) (μ : Mu) (H : Hp) x y, Rp K μ H (g x y) (gv x y))
    (ho : DE X o to) (ha : DE X e te) (hbase : attributeBase o name X.env (eval o X.env) = eval o X.env)
    (hfew : ((backTo cpos (starEach [e] X.env)).all (fun x => !x.1) && (backToKw cpos (keywordEach [] X.env)).all (fun x => x.1.isSome)
      && decide ([e].length + ([] : List Keyword).length + (if ([] : List Keyword).isEmpty then 0 else 1) < 30)) = true)
    (hline : (apos.endLine == cpos.line) = true) (hs : starEach [e] X.env = (false, eval e X.env) :: starEach [] X.env) (hplain : (backTo cpos (starEach [] X.env)).any (·.1) = false) :
    DE X (.Call (.Attribute o name apos) [e] [] cpos) (dSM g to te) := by
  obtain ⟨t1, p1, l1⟩ := ho
  obtain ⟨t2, p2, l2⟩ := ha
  refine ⟨_, yJ PySem.F.plainAttrs_str slot hty hmt p1 (cY p2 jP hs) hbase hfew hline hs hplain, fun σ H ρ μ Qd Q S h k => ?_⟩
  refine l1 σ H ρ μ _ _ S h fun x ux μ1 H1 e1 S1 rx h1 => ?_
  split at h1
  · cases rx
    refine ⟨rfl, ?_⟩
    refine l2 σ H1 ρ μ1 _ _ S1 h1 fun y uy μ2 H2 e2 S2 ry h2 => ?_
    split at h2
    · cases ry
      exact ⟨_, _, rfl, rfl, k (.v _) _ μ2 H2 (e1.trans e2) S2 (hg _ _ _ _ _) h2⟩
    · exact h2.elim
  · exact h1.elim
end
open PySem PySem.Spec PyProof.Rows
section
variable {X : Cx} {a b e e1 e2 o tg : Expr} {es : List Expr} {ta tb te to : DTE} {t : DTA} {pos p p2 apos cpos : Pos} {lo hi : Option Expr}
def lX (x y : Str) : List PyData := match Builtin.Str.occurrences x y 0 x.length 1 with
  | i :: _ => [.str (Builtin.Str.strSub x 0 i), .str y, .str (Builtin.Str.strSub x (i + y.length) x.length)]
  | [] => [.str x, .str Str.empty, .str Str.empty]
theorem Fz {K : PySem.W.Frag} {μ : Mu} {H : Hp} (x y : Str) : RpL K μ H (lX x y) (Bl x y) := by
  unfold lX Bl
  cases Builtin.Str.occurrences x y 0 x.length 1 with
  | nil => exact .cons (.str _) (.cons (.str _) (.cons (.str _) .nil))
  | cons i r => exact .cons (.str _) (.cons (.str _) (.cons (.str _) .nil))
noncomputable def l5 (to te : DTE) : DTE := fun ρ μ Q => to ρ μ fun x μ1 => match x with
  | .v (.str i) => te ρ μ1 fun y μ2 => (match y with
    | .v (.str j) => (j.length == 0) = false ∧ i.length ≤ 10000 ∧ Q (.v (.tuple (lX i j))) μ2
    | _ => False)
  | _ => False
theorem mh (ho : DE X o to) (ha : DE X e te) (hbase : attributeBase o "partition" X.env (eval o X.env) = eval o X.env := by rfl)
    (hfew : ((backTo cpos (starEach [e] X.env)).all (fun x => !x.1) && (backToKw cpos (keywordEach [] X.env)).all (fun x => x.1.isSome)
      && decide ([e].length + ([] : List Keyword).length + (if ([] : List Keyword).isEmpty then 0 else 1) < 30)) = true := by rfl)
    (hline : (apos.endLine == cpos.line) = true := by rfl) (hs : starEach [e] X.env = (false, eval e X.env) :: starEach [] X.env := by rfl) (hplain : (backTo cpos (starEach [] X.env)).any (·.1) = false := by rfl) :
    DE X (.Call (.Attribute o "partition" apos) [e] [] cpos) (l5 to te) := by
  obtain ⟨t1, p1, l1⟩ := ho
  obtain ⟨t2, p2, l2⟩ := ha
  refine ⟨_, yJ PySem.F.plainAttrs_str PySem.F.slot_str_partition PySem.F.type_str_partition wQ p1 (cY p2 jP hs) hbase hfew hline hs hplain, fun σ H ρ μ Qd Q S h k => ?_⟩
  refine l1 σ H ρ μ _ _ S h fun x ux μ1 H1 e1 S1 rx h1 => ?_
  split at h1
  · cases rx
    refine ⟨rfl, ?_⟩
    refine l2 σ H1 ρ μ1 _ _ S1 h1 fun y uy μ2 H2 e2 S2 ry h2 => ?_
    split at h2
    · cases ry
      exact ⟨_, _, rfl, rfl, h2.1, df h2.2.1, fun p hp => k (.v _) _ μ2 _ ((e1.trans e2).trans (iz hp)) (S2.new hp) (rE S2.mu (Fz _ _) hp) h2.2.2⟩
    · exact h2.elim
  · exact h1.elim
def jR : List PyData → Option (List Str)
  | [] => some []
  | .str z :: r => (jR r).map (z :: ·)
  | _ :: _ => none
theorem xK {K : PySem.W.Frag} {μ : Mu} {H : Hp} : ∀ {xs : List PyData} {us : List V} {ws : List Str}, RpL K μ H xs us → jR xs = some ws → us = ws.map .str
  | [], _, ws, .nil, h => by cases (show some [] = some ws from h); rfl
  | x :: r, _, ws, .cons q t, h => by
    cases q <;> first | (rename_i z; cases er : jR r with
      | none => simp [jR, er] at h
      | some ws' => simp [jR, er] at h; rw [← h, xK t er]; rfl) | cases h
def pZ (n : Nat) (ws : List Str) : Nat := Array.foldl (fun k w => k + w.length + n) 0 ws.toArray
def Fo (μ : Mu) : D → Option (List PyData)
  | .v (.list xs) => some xs
  | .m l => μ l
  | _ => none
noncomputable def wu (to te : DTE) : DTE := fun ρ μ Q => to ρ μ fun x μ1 => match x with
  | .v (.str z) => te ρ μ1 fun y μ2 => ∃ xs ws, Fo μ2 y = some xs ∧ jR xs = some ws ∧ pZ z.length ws ≤ 10000 ∧ (lP z ws).length ≤ 10000 ∧ Q (.v (.str (lP z ws))) μ2
  | _ => False
theorem yk (ho : DE X o to) (ha : DE X e te) (hbase : attributeBase o "join" X.env (eval o X.env) = eval o X.env := by rfl)
    (hfew : ((backTo cpos (starEach [e] X.env)).all (fun x => !x.1) && (backToKw cpos (keywordEach [] X.env)).all (fun x => x.1.isSome)
      && decide ([e].length + ([] : List Keyword).length + (if ([] : List Keyword).isEmpty then 0 else 1) < 30)) = true := by rfl)
    (hline : (apos.endLine == cpos.line) = true := by rfl) (hs : starEach [e] X.env = (false, eval e X.env) :: starEach [] X.env := by rfl) (hplain : (backTo cpos (starEach [] X.env)).any (·.1) = false := by rfl) :
    DE X (.Call (.Attribute o "join" apos) [e] [] cpos) (wu to te) := by
  obtain ⟨t1, p1, l1⟩ := ho
  obtain ⟨t2, p2, l2⟩ := ha
  refine ⟨_, yJ PySem.F.plainAttrs_str PySem.F.slot_str_join PySem.F.type_str_join Gi p1 (cY p2 jP hs) hbase hfew hline hs hplain, fun σ H ρ μ Qd Q S h k => ?_⟩
  refine l1 σ H ρ μ _ _ S h fun x ux μ1 H1 e1 S1 rx h1 => ?_
  split at h1
  · cases rx
    refine ⟨rfl, ?_⟩
    refine l2 σ H1 ρ μ1 _ _ S1 h1 fun y uy μ2 H2 e2 S2 ry h2 => ?_
    obtain ⟨xs, ws, hl, hw, hz, hj, q⟩ := h2
    have tl : ∀ n, n ≤ 10000 → Builtin.Str.tooLong n = false := fun n h => by
      unfold Builtin.Str.tooLong
      exact decide_eq_false (Nat.not_lt.mpr (df h))
    cases y with
    | v d =>
      cases d <;> first | cases hl | skip
      cases ry with
      | @list l us _ ha hn ra =>
        have eu := xK ra hw
        subst eu
        exact ⟨_, l, ws, rfl, rfl, ha, tl _ hz, df hj, k (.v _) _ μ2 H2 (e1.trans e2) S2 (Rp.str _) q⟩
    | m l =>
      obtain ⟨rfl, ds, hm⟩ := id ry
      obtain ⟨us, ha, ra⟩ := S2.mu l ds hm
      have : ds = xs := by rw [show Fo μ2 (.m l) = μ2 l from rfl, hm] at hl; cases hl; rfl
      subst this
      have eu := xK ra hw
      subst eu
      exact ⟨_, l, ws, rfl, rfl, ha, tl _ hz, df hj, k (.v _) _ μ2 H2 (e1.trans e2) S2 (Rp.str _) q⟩
    | s ns => cases hl
    | o a => cases hl
    | q P => cases hl
  · exact h1.elim
abbrev DTJ := Str → Rho → Mu → (Str → Mu → Prop) → Prop
noncomputable def JV (K : PySem.W.Frag) (t : TJ) (td : DTJ) : Prop := ∀ (acc : Str) (σ : St) (H : Hp) (ρ : Rho) (μ : Mu) (Qd : Str → Mu → Prop) (Q : Str → Hp → Prop), St0 K H ρ μ σ → td acc ρ μ Qd →
  (∀ z μ' H', Ext K μ H μ' H' → St0 K H' ρ μ' σ → Qd z μ' → Q z H') → t acc σ H Q
noncomputable def DJ (X : Cx) (es : List Expr) (td : DTJ) : Prop := ∃ t, PJ X es t ∧ JV X.K t td
def djN : DTJ := fun acc _ μ Q => acc.length ≤ 10000 ∧ Q acc μ
def djC (te : DTE) (tj : DTJ) : DTJ := fun acc ρ μ Q => te ρ μ fun x μ1 => match x with
  | .v (.str y) => (acc ++ y).length ≤ 10000 ∧ tj (acc ++ y) ρ μ1 Q
  | _ => False
theorem En : DJ X [] djN := ⟨_, Jg, fun acc σ H ρ μ Qd Q S h k => ⟨df h.1, k acc μ H .refl S h.2⟩⟩
theorem mv {tj : DTJ} (he : DE X e te) (hr : DJ X es tj) : DJ X (e :: es) (djC te tj) := by
  obtain ⟨t1, p1, l1⟩ := he
  obtain ⟨t2, p2, l2⟩ := hr
  refine ⟨_, GJ p1 p2, fun acc σ H ρ μ Qd Q S h k => ?_⟩
  refine l1 σ H ρ μ _ _ S h fun x ux μ1 H1 e1 S1 rx h1 => ?_
  split at h1
  · cases rx
    exact ⟨_, rfl, df h1.1, l2 _ σ H1 ρ μ1 _ _ S1 h1.2 fun z μ2 H2 e2 S2 q => k z μ2 H2 (e1.trans e2) S2 q⟩
  · exact h1.elim
noncomputable def dJS (tj : DTJ) : DTE := fun ρ μ Q => tj Str.empty ρ μ fun z μ1 => Q (.v (.str z)) μ1
theorem vf {tj : DTJ} (h : DJ X (e1 :: e2 :: es) tj) : DE X (.JoinedStr (e1 :: e2 :: es) pos) (dJS tj) := by
  obtain ⟨t1, p1, l1⟩ := h
  exact ⟨_, Cw p1, fun σ H ρ μ Qd Q S h k => l1 _ σ H ρ μ _ _ S h fun z μ1 H1 e1 S1 q => k (.v _) _ μ1 H1 e1 S1 (Rp.str _) q⟩
noncomputable def dFv (te : DTE) : DTE := fun ρ μ Q => te ρ μ fun x μ1 => match x with
  | .v (.str z) => z.length ≤ 10000 ∧ Q (.v (.str z)) μ1
  | _ => False
theorem Fc (he : DE X e te) : DE X (.FormattedValue e (-1) none pos) (dFv te) := by
  obtain ⟨t1, p1, l1⟩ := he
  refine ⟨_, KH p1, fun σ H ρ μ Qd Q S h k => ?_⟩
  refine l1 σ H ρ μ _ _ S h fun x ux μ1 H1 e1 S1 rx h1 => ?_
  split at h1
  · cases rx
    exact ⟨_, rfl, df h1.1, k (.v _) _ μ1 H1 e1 S1 (Rp.str _) h1.2⟩
  · exact h1.elim
def eG (z : Str) : List PyData := z.cps.toList.map fun c => .str ⟨#[c]⟩
noncomputable def u3 (te : DTE) : DTI := fun ρ μ Q => te ρ μ fun x μ1 => match x with
  | .v (.str z) => Q (eG z) μ1
  | _ => False
theorem Ao (h : DE X e te) (hc : X.calm = true := by rfl) : DI X tg e (u3 te) := by
  obtain ⟨t1, p1, l1⟩ := h
  refine ⟨_, Jf hc p1, fun σ H ρ μ Qd R S h k => ?_⟩
  refine l1 σ H ρ μ _ _ S h fun d u μ1 H1 e1 S1 r h1 => ?_
  split at h1
  · rename_i z
    cases r
    refine ⟨z, rfl, k (eG z) μ1 H1 _ e1 S1 (fun μ2 H2 e2 ok2 i => ?_) h1⟩
    have hl : (eG z).length = z.cps.size := by unfold eG; simp
    refine ⟨fun hi => ?_, fun hi => ?_⟩
    · rw [hl] at hi
      refine ⟨hi, fun x H' ⟨eH, hx⟩ => ?_⟩
      subst eH
      unfold zT at hx
      rw [List.getElem?_map, Array.getElem?_toList, Array.getElem?_eq_getElem hi] at hx
      cases hx
      exact ⟨.str ⟨#[z.cps[i]]⟩, by unfold eG; rw [List.getElem?_map, Array.getElem?_toList, Array.getElem?_eq_getElem hi]; rfl, uf.refl _, .str _⟩
    · show z.cps.size ≤ i
      omega
  · exact h1.elim
end
open PySem PySem.Spec PyProof.Rows
section
variable {X : Cx} {e o : Expr} {te to : DTE} {apos cpos : Pos}
noncomputable def qy (to : DTE) : DTT := fun ρ μ Q => to ρ μ fun x μ1 => match x with
  | .v (.str z) => z.length ≤ 10000 ∧ Q (((z.length : Nat) : Int) != 0) μ1
  | _ => False
theorem oU (ho : DE X o to) (he : ∀ whole, isTrue o X.env whole = (do let v ← whole; standAt o.pos; holding [v] (truthy v)) := by intro _; rfl) : DT X o (qy to) := by
  obtain ⟨t1, p1, l1⟩ := ho
  refine ⟨_, Dt p1 he, fun σ H ρ μ Qd Q S h k => ?_⟩
  refine l1 σ H ρ μ _ _ S h fun x ux μ1 H1 e1 S1 rx h1 => ?_
  split at h1
  · cases rx
    exact ⟨_, ⟨df h1.1, rfl⟩, k _ μ1 H1 e1 S1 h1.2⟩
  · exact h1.elim
theorem Cn {ss : List Stmt} : DSs X ss cO := ⟨fun _ _ _ => False, fun _ _ _ _ _ _ h => h.elim, fun _ _ _ _ _ _ _ h => h.elim⟩
def dU (x y : Str) : PyData := .bool (qY x y)
def mZ (x y : Str) : PyData := .bool (BF x y)
def pq (x y : Str) : PyData := .int (cH x y)
theorem gm (ho : DE X o to) (ha : DE X e te) (hbase : attributeBase o "startswith" X.env (eval o X.env) = eval o X.env := by rfl)
    (hfew : ((backTo cpos (starEach [e] X.env)).all (fun x => !x.1) && (backToKw cpos (keywordEach [] X.env)).all (fun x => x.1.isSome)
      && decide ([e].length + ([] : List Keyword).length + (if ([] : List Keyword).isEmpty then 0 else 1) < 30)) = true := by rfl)
    (hline : (apos.endLine == cpos.line) = true := by rfl) (hs : starEach [e] X.env = (false, eval e X.env) :: starEach [] X.env := by rfl) (hplain : (backTo cpos (starEach [] X.env)).any (·.1) = false := by rfl) :
    DE X (.Call (.Attribute o "startswith" apos) [e] [] cpos) (dSM dU to te) := DX PySem.F.slot_str_startswith PySem.F.type_str_startswith Co (fun _ _ _ _ _ => Rp.bool _) ho ha hbase hfew hline hs hplain
theorem qT (ho : DE X o to) (ha : DE X e te) (hbase : attributeBase o "endswith" X.env (eval o X.env) = eval o X.env := by rfl)
    (hfew : ((backTo cpos (starEach [e] X.env)).all (fun x => !x.1) && (backToKw cpos (keywordEach [] X.env)).all (fun x => x.1.isSome)
      && decide ([e].length + ([] : List Keyword).length + (if ([] : List Keyword).isEmpty then 0 else 1) < 30)) = true := by rfl)
    (hline : (apos.endLine == cpos.line) = true := by rfl) (hs : starEach [e] X.env = (false, eval e X.env) :: starEach [] X.env := by rfl) (hplain : (backTo cpos (starEach [] X.env)).any (·.1) = false := by rfl) :
    DE X (.Call (.Attribute o "endswith" apos) [e] [] cpos) (dSM mZ to te) := DX PySem.F.slot_str_endswith PySem.F.type_str_endswith Ge (fun _ _ _ _ _ => Rp.bool _) ho ha hbase hfew hline hs hplain
theorem yC (ho : DE X o to) (ha : DE X e te) (hbase : attributeBase o "rfind" X.env (eval o X.env) = eval o X.env := by rfl)
    (hfew : ((backTo cpos (starEach [e] X.env)).all (fun x => !x.1) && (backToKw cpos (keywordEach [] X.env)).all (fun x => x.1.isSome)
      && decide ([e].length + ([] : List Keyword).length + (if ([] : List Keyword).isEmpty then 0 else 1) < 30)) = true := by rfl)
    (hline : (apos.endLine == cpos.line) = true := by rfl) (hs : starEach [e] X.env = (false, eval e X.env) :: starEach [] X.env := by rfl) (hplain : (backTo cpos (starEach [] X.env)).any (·.1) = false := by rfl) :
    DE X (.Call (.Attribute o "rfind" apos) [e] [] cpos) (dSM pq to te) := DX PySem.F.slot_str_rfind PySem.F.type_str_rfind Dq (fun _ _ _ _ _ => Rp.int _) ho ha hbase hfew hline hs hplain
end
section
variable {ρ : Rho} {μ : Mu} {Q : DK} {QT : Bool → Mu → Prop} {QI : List PyData → Mu → Prop} {QS : Str → Mu → Prop} {ta tb te to : DTE} {i j z acc : Str} {n : Int} {tj : DTJ} {tl th : DTO} {xs : List PyData} {l : Addr}
theorem rO : aI (.v (.str i)) (.v (.str j)) μ Q = (i.length + j.length ≤ 10000 ∧ Q (.v (.str (i ++ j))) μ) := propext Iff.rfl
theorem EE {neg : Bool} : rD neg (.v (.str i)) (.v (.str j)) μ Q = Q (.v (.bool (neg ^^ inS i j))) μ := propext Iff.rfl
theorem xb : g0 [.v (.int n)] μ Q = (n.natAbs.log2 < 1920 ∧ Q (.v (.str (toString n))) μ) := propext Iff.rfl
theorem zZ : sZ [.v (.str z)] μ Q = (∃ n, intText? z = some n ∧ z.length ≤ 640 ∧ Q (.v (.int n)) μ) := propext Iff.rfl
theorem wR : jf [.v (.str z)] μ Q = (z.length ≤ 10000 ∧ Q (.v (.int (z.length : Nat))) μ) := propext Iff.rfl
theorem EF : eB te tl th ρ μ Q = te ρ μ fun x μ1 => tl ρ μ1 fun l μ2 => th ρ μ2 fun u μ3 => match x with | .v (.str z) => z.length ≤ 10000 ∧ Q (.v (.str (Txt.slice z l u))) μ3 | _ => False := propext Iff.rfl
theorem Jh {g : Str → Str → PyData} : dSM g to te ρ μ Q = to ρ μ fun x μ1 => match x with | .v (.str i) => te ρ μ1 (fun y μ2 => match y with | .v (.str j) => Q (.v (g i j)) μ2 | _ => False) | _ => False := propext Iff.rfl
theorem xF : l5 to te ρ μ Q = to ρ μ fun x μ1 => match x with | .v (.str i) => te ρ μ1 (fun y μ2 => match y with | .v (.str j) => (j.length == 0) = false ∧ i.length ≤ 10000 ∧ Q (.v (.tuple (lX i j))) μ2 | _ => False) | _ => False := propext Iff.rfl
theorem xl : wu to te ρ μ Q = to ρ μ fun x μ1 => match x with | .v (.str z) => te ρ μ1 (fun y μ2 => ∃ xs ws, Fo μ2 y = some xs ∧ jR xs = some ws ∧ pZ z.length ws ≤ 10000 ∧ (lP z ws).length ≤ 10000 ∧ Q (.v (.str (lP z ws))) μ2) | _ => False := propext Iff.rfl
theorem Jc : dJS tj ρ μ Q = tj Str.empty ρ μ fun z μ1 => Q (.v (.str z)) μ1 := propext Iff.rfl
theorem H0 : djN acc ρ μ QS = (acc.length ≤ 10000 ∧ QS acc μ) := propext Iff.rfl
theorem HH : djC te tj acc ρ μ QS = te ρ μ fun x μ1 => match x with | .v (.str y) => (acc ++ y).length ≤ 10000 ∧ tj (acc ++ y) ρ μ1 QS | _ => False := propext Iff.rfl
theorem II : dFv te ρ μ Q = te ρ μ fun x μ1 => match x with | .v (.str z) => z.length ≤ 10000 ∧ Q (.v (.str z)) μ1 | _ => False := propext Iff.rfl
theorem vU : u3 te ρ μ QI = te ρ μ fun x μ1 => match x with | .v (.str z) => QI (eG z) μ1 | _ => False := propext Iff.rfl
theorem zD : qy to ρ μ QT = to ρ μ fun x μ1 => match x with | .v (.str z) => z.length ≤ 10000 ∧ QT (((z.length : Nat) : Int) != 0) μ1 | _ => False := propext Iff.rfl
end
end L2.DL
set_option linter.all false
set_option maxRecDepth 100000
set_option maxHeartbeats 1000000
namespace NM
section
variable {d : Int} {x y z k s o : N3} {A B C A' B' C' P Q R E F G : Int}
end
end NM
set_option linter.all false
set_option maxRecDepth 100000
set_option maxHeartbeats 4000000
namespace NM
section
variable {d : Int} {x y z : N3}
section
variable {f : N3}
end
end
end NM
set_option linter.all false
set_option maxRecDepth 100000
set_option maxHeartbeats 4000000
namespace NM
section
variable {d : Int} {n m : Nat} {x y : N3}
end
end NM
set_option linter.all false
set_option maxRecDepth 100000
set_option maxHeartbeats 4000000
namespace NM
section
variable {d : Int} {x y z : N3}
noncomputable def gtL (d : Int) (k o : N3) : Prop := ((A2 d o).a.natAbs : Int) * (A2 d k).c < ((A2 d k).a.natAbs : Int) * (A2 d o).c
instance : Decidable (gtL d x y) := by unfold gtL; infer_instance
end
end NM
set_option linter.all false
set_option maxRecDepth 100000
set_option maxHeartbeats 400000
namespace NM
section
variable {d : Int} {x y z k s o f : N3}
end
end NM
set_option linter.all false
set_option maxRecDepth 100000
set_option maxHeartbeats 400000
namespace NM
section
variable {d : Int} {x y z k s o f : N3}
end
end NM
set_option Elab.async false
set_option linter.all false
set_option maxHeartbeats 4000000
namespace NM
section
variable {d : Int} {x y z u p q s t w h p' q' s' t' w' h' : N3}
def hf (d : Int) (p q h : N3) : N3 := plus (times d p h) (times d q (FD h))
end
end NM
set_option linter.all false
set_option maxRecDepth 100000
set_option maxHeartbeats 400000
namespace NM
section
variable {d : Int} {x y z k s o f u v : N3}
end
end NM
set_option Elab.async false
set_option linter.all false
set_option maxRecDepth 100000
set_option maxHeartbeats 4000000
namespace L2.DL
open PySem PySem.Spec PyProof.Rows NM
theorem Bw {n : Nat} {i j : Int} (h0 : j ≠ 0) (h : Sz n j) (l : n ≤ 8900) : qu i j := by
  refine ⟨h0, PyProof.noPylong_of_log2 ?_⟩
  have hz' : j.natAbs ≠ 0 := by omega
  have := (Nat.log2_lt hz').mpr h.lt
  omega
theorem divC {i j : Int} (h0 : j ≠ 0) (h1 : j.natAbs < 1073741824) : qu i j := ⟨h0, PyProof.noPylong_small h1⟩
theorem mulL {i j : Int} (h : i.natAbs < 2 ^ 64) : IntMulOk i j := FI.ok (.inl (by omega))
theorem mulR {i j : Int} (h : j.natAbs < 2 ^ 64) : IntMulOk i j := FI.ok (.inr (by omega))
def dN (x : N3) : PyData := .tuple [.int x.a, .int x.b, .int x.c]
def isWhole (d : PyData) : Bool := isT "int" d && !isT "bool" d
def isNum : PyData → Bool
  | .tuple [.int a, .int b, .int c] => decide (1 ≤ c) && (g3 a b c == 1)
  | _ => false
noncomputable def oS : DSp := fun ds μ Q => ∃ d, ds = [.v d] ∧ Q (.v (.bool (isWhole d))) μ
noncomputable def lQ : DSp := fun ds μ Q => ∃ a b : Int, ds = [.v (.int a), .v (.int b)] ∧ Q (.v (.int (Int.gcd a b : Nat))) μ
noncomputable def wC : DSp := fun ds μ Q => ∃ a b c : Int, ds = [.v (.int a), .v (.int b), .v (.int c)] ∧ Q (.v (.int (g3 a b c : Nat))) μ
def Few : PyData → Prop
  | .tuple xs => xs.length ≤ 1000
  | _ => True
noncomputable def sQ : DSp := fun ds μ Q => ∃ d, ds = [.v d] ∧ Few d ∧ Q (.v (.bool (isNum d))) μ
noncomputable def fo : DSp := fun ds μ Q => ∃ a b c : Int, ds = [.v (.int a), .v (.int b), .v (.int c)] ∧ c ≠ 0 ∧ Sz 8800 c ∧ Q (.v (dN (low a b c))) μ
noncomputable def Bag (μ : Mu) (a : Addr) : Prop := ∃ g m : Int, μ a = some [.int g, .int m] ∧ 0 ≤ g ∧ 0 ≤ m ∧ m < 2147483648
noncomputable def Step (a : Addr) (μ μ' : Mu) : Prop := Bag μ' a ∧ ∀ b, b ≠ a → μ' b = μ b
noncomputable def BB : DSp := fun ds μ Q => ∃ (ns : List Int) (k : Int), ds = [.s ns, .v (.int k)] ∧ 0 ≤ k ∧ k ≤ 1000 ∧ ∀ p μ', μ p = none → Step p μ μ' → Q (.m p) μ'
noncomputable def cK : DSp := fun ds μ Q => ∃ (a : Addr) (n : Int), ds = [.m a, .v (.int n)] ∧ 1 ≤ n ∧ n ≤ 1000000000 ∧ Bag μ a ∧ ∀ r μ', 0 ≤ r → r < n → Step a μ μ' → Q (.v (.int r)) μ'
noncomputable def mx : DSp := fun ds μ Q => ∃ a : Addr, ds = [.m a] ∧ Bag μ a ∧ ∀ x μ', Ok x → Bd 20 x → Step a μ μ' → Q (.v (dN x)) μ'
theorem Step.trans {a : Addr} {μ μ1 μ2 : Mu} (h : Step a μ μ1) (g : Step a μ1 μ2) : Step a μ μ2 := ⟨g.1, fun b n => (g.2 b n).trans (h.2 b n)⟩
theorem Step.set {a : Addr} {μ : Mu} {g m : Int} (h1 : 0 ≤ g) (h2 : 0 ≤ m) (h3 : m < 2147483648) : Step a μ (aE μ a [.int g, .int m]) := ⟨⟨g, m, bC, h1, h2, h3⟩, fun b n => cN n⟩
def mkW(s:String):Lean.MacroM (Lean.TSyntax `tactic):=do let a<-(s.splitOn " ").toArray.mapM fun t=>if t.front=='↓' then `(Lean.Parser.Tactic.simpLemma|↓$(Lean.mkIdent (t.drop 1).toName):term) else `(Lean.Parser.Tactic.simpLemma|$(Lean.mkIdent t.toName):term);`(tactic|simp only[$a,*])
local macro_rules|`(tactic| walk_at "rd")=>mkW "↓wD ↓wI ↓xE ↓sr ↓wa ↓wc ↓xq ↓wW ↓xA ↓vN ↓rk ↓q_c ↓KQ ↓q_B ↓Gm ↓Bn ↓Bo ↓CQ ↓Kl ↓xw ↓IT ↓xu ↓vq ↓pj ↓yQ ↓zi ↓wU ↓yF ↓yM ↓yu ↓BR ↓Bx ↓tm ↓wZ ↓xg ↓sg ↓tK ↓tG ↓vW ↓sF ↓qk ↓Bh ↓Bj ↓AY ↓n6 ↓xC ↓KC ↓tL ↓xk ↓vB ↓BC ↓Fm ↓xB ↓Bt ↓BQ ↓mH ↓xr ↓qO ↓wG ↓wK ↓Hi ↓BK ↓vG ↓tW ↓yW ↓xH ↓Ho ↓qW ↓JC ↓By ↓Bm ↓xo ↓oG ↓rh ↓oH ↓pd EM ↓Av ↓qN xi vY BG BJ BS Option.bind_none Option.bind_some Option.join_some List.getElem?_cons_zero List.getElem?_cons_succ aS dN mU qA tO u7 ya List.map List.append List.replicate List.length_cons List.length_nil Nat.reduceAdd Nat.reduceSub List.nil_append List.cons_append List.set_cons_zero List.set_cons_succ Option.map_some ↓reduceIte Bool.not_true Bool.not_false Bool.false_eq_true Bool.true_eq_false Bool.xor_false Bool.false_xor"
noncomputable def ma : DTS :=
  (bJ (rK (qH "int" (af 0)) (EZ (qH "bool" (af 0)))))
noncomputable def ft : DTS :=
  (aG (tD (dB (dOp (bt true) (af 1) (dC (.int 0)))) (xj 0 1 (ae (af 1) (ae (um (af 0) (af 1)) ao))))
  (bJ (dCB mP (ae (af 0) ao))))
noncomputable def fF : DTS :=
  (bJ (ay lQ (ae (ay lQ (ae (af 2) (ae (af 0) ao))) (ae (af 1) ao))))
noncomputable def iX : DTS :=
  (aG (xj 0 1 (ae (dCB mP (ae (af 0) ao)) (ae (dCB mP (ae (af 1) ao)) ao)))
  (aG (tD (dB (dOp rGt (af 1) (dC (.int 0)))) (xj 0 1 (ae (af 1) (ae (um (af 0) (af 1)) ao))))
  (bJ (af 0))))
section
theorem BH (x : Int) {y : Int} (h : y ≠ 0) : (x.fmod y).natAbs < y.natAbs := by
  have e := Int.mul_fdiv_add_fmod x y
  have := Int.fmod_def x y
  rcases Int.lt_or_gt_of_ne h with h | h
  · have k := Int.neg_fmod_neg (a := x) (b := y)
    have h1 := Int.fmod_nonneg_of_pos (-x) (show 0 < -y by omega)
    have h2 := Int.fmod_lt_of_pos (-x) (show 0 < -y by omega)
    omega
  · have h1 := Int.fmod_nonneg_of_pos x h
    have h2 := Int.fmod_lt_of_pos x h
    omega
theorem zo (x y : Int) : Int.gcd y (x.fmod y) = Int.gcd x y := by
  have e := Int.mul_fdiv_add_fmod x y
  have e' : x.fmod y = x + y * (-(x.fdiv y)) := by rw [Int.mul_neg]; omega
  rw [e', Int.gcd_add_mul_left_right, Int.gcd_comm]
theorem yf {μ Qd ds} (h : oS ds μ Qd) : ma ‹Qd› (aS ["thing"] ds) μ := by
  obtain ⟨d, rfl, q⟩ := h
  unfold ma
  walk_at "rd"
  unfold isWhole at q
  cases hb : isT "int" d <;> simp_all
theorem n9 {μ Qd ds} (h : lQ ds μ Qd) : ft ‹Qd› (aS ["a", "b"] ds) μ := by
  obtain ⟨a, b, rfl, q⟩ := h
  unfold ft
  walk_at "rd"
  refine ⟨fun m ρ μ' => ∃ x y : Int, ρ = [some (.v (.int x)), some (.v (.int y))] ∧ m = y.natAbs ∧ Int.gcd x y = Int.gcd a b ∧ μ' = μ, ⟨_, a, b, rfl, rfl, rfl, rfl⟩, ?_⟩
  rintro m ρ μ' ⟨x, y, rfl, rfl, hg, rfl⟩
  walk_at "rd"
  by_cases hy : y = 0
  · subst hy
    have e : Int.gcd x 0 = x.natAbs := Int.gcd_zero_right x
    rw [← hg, e] at q
    simpa using q
  · have z : (true ^^ decide (y = 0)) = true := by simp [hy]
    rw [if_pos z]
    exact ⟨hy, _, BH x hy, y, x.fmod y, rfl, rfl, (zo x y).trans hg, trivial⟩
theorem rV {μ Qd ds} (h : lQ ds μ Qd) : iX ‹Qd› (aS ["_law_one", "_law_other"] ds) μ := by
  obtain ⟨a, b, rfl, q⟩ := h
  unfold iX
  walk_at "rd"
  refine ⟨fun m ρ μ' => ∃ x y : Int, ρ = [some (.v (.int x)), some (.v (.int y))] ∧ m = y.natAbs ∧ 0 ≤ x ∧ 0 ≤ y ∧ Int.gcd x y = Int.gcd a b ∧ μ' = μ, ⟨_, _, _, rfl, rfl, by omega, by omega, by simp [Int.gcd], rfl⟩, ?_⟩
  rintro m ρ μ' ⟨x, y, rfl, rfl, hx, hy, hg, rfl⟩
  walk_at "rd"
  by_cases h0 : 0 < y
  · rw [if_pos (by simpa using h0)]
    have hy' : y ≠ 0 := by omega
    exact ⟨hy', _, BH x hy', y, x.fmod y, rfl, rfl, by omega, Int.fmod_nonneg_of_pos x h0, (zo x y).trans hg, trivial⟩
  · rw [if_neg (by simpa using h0)]
    have e : y = 0 := by omega
    subst e
    rw [Int.gcd_zero_right] at hg
    have : x = ((Int.gcd a b : Nat) : Int) := by omega
    rw [this]
    exact q
theorem ow {μ Qd ds} (h : wC ds μ Qd) : fF ‹Qd› (aS ["a", "b", "c"] ds) μ := by
  obtain ⟨a, b, c, rfl, q⟩ := h
  unfold fF
  walk_at "rd"
  rw [← GC] at q
  exact ⟨c, a, rfl, _, b, rfl, q⟩
end
open PySem PySem.Spec PyProof.Rows NM
noncomputable def pW : DTS :=
  (aG (bH (dB (dOp (bt false) (af 2) (dC (.int 0)))) cO aY)
  (aG (aP (ay wC (ae (af 0) (ae (af 1) (ae (af 2) ao)))) (aj 3))
  (aG (bH (dB (dOp rLt (af 2) (dC (.int 0)))) (aP (iA (af 3)) (aj 3)) aY)
  (bJ (dO (ae (sC (af 0) (af 3)) (ae (sC (af 1) (af 3)) (ae (sC (af 2) (af 3)) ao))))))))
noncomputable def mn : DTS :=
  (aG (aP (wg (ay lQ (ae (ay lQ (ae (af 0) (ae (af 1) ao))) (ae (af 2) ao))) (dOp dh (je (ae (dC (.int 1)) (ae (iA (dC (.int 1))) ao))) (dCB uZ (ae (dOp rLt (af 2) (dC (.int 0))) ao)))) (aj 3))
  (bJ (dO (ae (sC (af 0) (af 3)) (ae (sC (af 1) (af 3)) (ae (sC (af 2) (af 3)) ao))))))
section
variable {μ : Mu} {Qd : DK} {ds : List D}
theorem gdv {a b c : Int} (h : Sz 8800 c) (hc : c ≠ 0) : Sz 8800 ((g3 a b c : Nat) : Int) := by
  have h1 := (DM a b c).2.2
  have h2 := Int.natAbs_dvd_natAbs.mpr h1
  exact h.le (Nat.le_of_dvd (by omega) h2)
theorem B9 (h : fo ds μ Qd) : pW ‹Qd› (aS ["a", "b", "c", "divisor"] ds) μ := by
  obtain ⟨a, b, c, rfl, hc, hz, q⟩ := h
  unfold pW
  walk_at "rd"
  rw [decide_eq_false hc]
  simp only [Bool.xor_false, Bool.false_eq_true, ↓reduceIte]
  refine ⟨a, b, c, rfl, ?_⟩
  walk_at "rd"
  have hp := vT (a := a) (b := b) hc
  have hg := gdv (a := a) (b := b) hz hc
  unfold low NM.dv dN at q
  simp only at q
  by_cases hn : c < 0
  · rw [if_pos (by simpa using hn)]
    rw [if_pos hn] at q
    have o : ∀ i : Int, qu i (-((g3 a b c : Nat) : Int)) := fun i => Bw (by omega) hg.neg (by decide)
    exact ⟨o _, o _, o _, q⟩
  · rw [if_neg (by simpa using hn)]
    rw [if_neg hn] at q
    have o : ∀ i : Int, qu i ((g3 a b c : Nat) : Int) := fun i => Bw (by omega) hg (by decide)
    exact ⟨o _, o _, o _, q⟩
theorem x5 (h : fo ds μ Qd) : mn ‹Qd› (aS ["_law_a", "_law_b", "_law_c", "_law_common"] ds) μ := by
  obtain ⟨a, b, c, rfl, hc, hz, q⟩ := h
  unfold mn
  walk_at "rd"
  refine ⟨a, b, rfl, _, c, rfl, ?_⟩
  walk_at "rd"
  have hp := vT (a := a) (b := b) hc
  have hg := gdv (a := a) (b := b) hz hc
  unfold low NM.dv dN at q
  simp only at q
  by_cases hn : c < 0
  · simp only [hn, decide_true, ↓reduceIte, tO]
    rw [if_pos hn] at q
    have e : ((Int.gcd (Int.gcd a b : Nat) c : Nat) : Int) * -1 = -((g3 a b c : Nat) : Int) := by unfold g3; omega
    walk_at "rd"
    rw [e]
    have o : ∀ i : Int, qu i (-((g3 a b c : Nat) : Int)) := fun i => Bw (by omega) hg.neg (by decide)
    exact ⟨mulR (by decide), o _, o _, o _, q⟩
  · simp only [hn, decide_false, Bool.false_eq_true, ↓reduceIte, qA]
    rw [if_neg hn] at q
    have e : ((Int.gcd (Int.gcd a b : Nat) c : Nat) : Int) * 1 = ((g3 a b c : Nat) : Int) := by unfold g3; omega
    walk_at "rd"
    rw [e]
    have o : ∀ i : Int, qu i ((g3 a b c : Nat) : Int) := fun i => Bw (by omega) hg (by decide)
    exact ⟨mulR (by decide), o _, o _, o _, q⟩
theorem K8 (a b c a' b' c' : Int) : PyData.eqv (.tuple [.int a, .int b, .int c]) (.tuple [.int a', .int b', .int c']) = decide (a = a' ∧ b = b' ∧ c = c') := by
  simp [PyData.eqv, PyData.eqvAll]
  rfl
end
open PySem PySem.Spec PyProof.Rows NM
section
variable {μ : Mu} {Qd : DK} {ds : List D}
end
open PySem PySem.Spec PyProof.Rows NM
noncomputable def lH : DTS :=
  (aG (aP (dC (.int 0)) (aj 2))
  (aG (bH (dB (dOp rLt (af 1) (dCB ng (ae (af 0) ao)))) (aP (dOp dh (af 0) (af 1)) (aj 2)) aY)
  (aG (aP (dC (.int 0)) (aj 3))
  (aG (bH (dB (dOp rGe (dCB mP (ae (af 2) ao)) (Dj (dC (.int 10)) (dC (.int 18))))) (aP (dCB mP (ae (af 2) ao)) (aj 3)) aY)
  (aG (aP (je (ae (dC (.int 2147483647)) (ae (dC (.int 2147483629)) (ae (dC (.int 2147483587)) (ae (dC (.int 2147483579)) (ae (dC (.int 2147483563)) (ae (dC (.int 2147483549)) (ae (dC (.int 2147483543)) (ae (dC (.int 2147483497)) ao))))))))) (aj 4))
  (aG (aP (mL (mL (mL (wg (um (af 2) (dC (.int 2147483647))) (dC (.int 69623))) (wg (wg (dC (.int 104729)) (af 1)) (af 1))) (wg (dC (.int 7919)) (af 1))) (dC (.int 12345))) (aj 5))
  (bJ (Bi (ae (af 3) (ae (um (af 5) (dOp dh (af 4) (um (af 1) (dC (.int 8))))) ao))))))))))
noncomputable def kX : DTS :=
  (aG (bH (dB (dOp rGt (dOp dh (af 0) (dC (.int 0))) (dC (.int 0)))) (aG (aP (um (dOp dh (af 0) (dC (.int 0))) (af 1)) (aj 2))
  (aG (aP (sC (dOp dh (af 0) (dC (.int 0))) (af 1)) (AV (af 0) (dC (.int 0))))
  (bJ (af 2)))) aY)
  (aG (aP (um (mL (wg (dOp dh (af 0) (dC (.int 1))) (dC (.int 48271))) (dC (.int 2531011))) (dC (.int 2147483647))) (AV (af 0) (dC (.int 1))))
  (bJ (um (sC (um (Dj (dOp dh (af 0) (dC (.int 1))) (dC (.int 3))) (dC (.int 2147483629))) (dC (.int 64))) (af 1)))))
section
variable {μ : Mu} {Qd : DK} {ds : List D}
theorem kS {α : Type} {xs : List α} {i : Int} (h0 : 0 ≤ i) (h : i < (xs.length : Nat)) : ∃ d, atI xs i = some d ∧ d ∈ xs := by
  have hj : i.toNat < xs.length := by omega
  have e := kT (xs := xs) (j := i.toNat) (v := xs[i.toNat]) (by simp [hj])
  rw [show ((i.toNat : Nat) : Int) = i by omega] at e
  exact ⟨_, e, List.getElem_mem _⟩
theorem mm (x : Int) {y : Int} (h : 0 < y) : 0 ≤ x.fmod y ∧ x.fmod y < y := ⟨Int.fmod_nonneg_of_pos x h, Int.fmod_lt_of_pos x h⟩
theorem GI {x y : Int} (hx : 0 ≤ x) (hy : 0 < y) : 0 ≤ x.fdiv y := by rw [Int.fdiv_eq_ediv_of_nonneg _ (by omega)]; exact Int.ediv_nonneg hx (by omega)
def mE : List PyData := [.int 2147483647, .int 2147483629, .int 2147483587, .int 2147483579, .int 2147483563, .int 2147483549, .int 2147483543, .int 2147483497]
theorem yw (h : BB ds μ Qd) : lH ‹Qd› (aS ["_law_script", "_law_at", "_law_cell", "_law_great", "_law_primes", "_law_mixed"] ds) μ := by
  obtain ⟨ns, k, rfl, h0, h1, q⟩ := h
  unfold lH
  have hp : ∃ pr : Int, atI mE (k.fmod 8) = some (.int pr) ∧ 0 < pr ∧ pr < 2147483648 := by
    obtain ⟨h2, h3⟩ := mm k (show (0 : Int) < 8 by decide)
    obtain ⟨p, e, hm⟩ := kS (xs := mE) h2 (by exact h3)
    simp only [mE, List.mem_cons, List.not_mem_nil, or_false] at hm
    rcases hm with rfl | rfl | rfl | rfl | rfl | rfl | rfl | rfl <;> exact ⟨_, e, by decide, by decide⟩
  obtain ⟨pr, hpe, hp0, hp1⟩ := hp
  unfold mE at hpe
  walk_at "rd"
  rw [hpe]
  walk_at "rd"
  have c1 : IA 10 18 := ⟨by decide, by decide, by decide⟩
  have z1 : (2147483647 : Int) ≠ 0 := by decide
  have z2 : (8 : Int) ≠ 0 := by decide
  have m1 : ∀ i : Int, MulOk i 69623 := fun i => mulR (by decide)
  have m2 : MulOk 104729 k := mulL (by decide)
  have m3 : MulOk (104729 * k) k := mulR (by omega)
  have m4 : MulOk 7919 k := mulL (by decide)
  have z3 : pr ≠ 0 := by omega
  have fin : ∀ G x : Int, 0 ≤ G → ∀ p, μ p = none → Qd (.m p) (aE μ p [.int G, .int (x.fmod pr)]) := fun G x hG p hp => by
    obtain ⟨h2, h3⟩ := mm x hp0
    exact q p _ hp (Step.set hG h2 (by omega))
  by_cases hk : k < (ns.length : Nat)
  · rw [if_pos (by simpa using hk)]
    obtain ⟨c, hc, _⟩ := kS h0 hk
    rw [hc]
    walk_at "rd"
    refine ⟨c1, ?_⟩
    split
    · exact ⟨z1, m1 _, m2, m3, m4, z2, z3, fin _ _ (by omega)⟩
    · exact ⟨z1, m1 _, m2, m3, m4, z2, z3, fin _ _ (by omega)⟩
  · rw [if_neg (by simpa using hk)]
    refine ⟨c1, ?_⟩
    split
    · exact ⟨z1, m1 _, m2, m3, m4, z2, z3, fin _ _ (by omega)⟩
    · exact ⟨z1, m1 _, m2, m3, m4, z2, z3, fin _ _ (by omega)⟩
theorem wY (h : cK ds μ Qd) : kX ‹Qd› (aS ["_law_bag_here", "_law_many", "_law_digit"] ds) μ := by
  obtain ⟨a, n, rfl, h0, h1, ⟨g, m, hb, hg, hm, hm'⟩, q⟩ := h
  unfold kX
  walk_at "rd"
  rw [hb]
  walk_at "rd"
  rw [hb]
  walk_at "rd"
  have n0 : n ≠ 0 := by omega
  have i0 : ixN 2 0 = some 0 := by rfl
  have i1 : ixN 2 1 = some 1 := by rfl
  by_cases hg0 : 0 < g
  · rw [if_pos (by simpa using hg0)]
    simp only [hb]
    walk_at "rd"
    obtain ⟨r0, r1⟩ := mm g (show 0 < n by omega)
    refine ⟨n0, ?_⟩
    simp only [hb]
    walk_at "rd"
    refine ⟨divC n0 (by omega), ?_⟩
    simp only [hb, List.length_cons, List.length_nil, Nat.reduceAdd, i0, List.set_cons_zero]
    exact q _ _ r0 r1 (Step.set (GI hg (by omega)) hm hm')
  · rw [if_neg (by simpa using hg0)]
    simp only [hb, i1, bC]
    walk_at "rd"
    obtain ⟨s0, s1⟩ := mm (m * 48271 + 2531011) (show (0 : Int) < 2147483647 by decide)
    generalize (m * 48271 + 2531011).fmod 2147483647 = w at s0 s1 ⊢
    obtain ⟨r0, r1⟩ := mm ((((w ^ Int.toNat 3).fmod 2147483629).fdiv 64)) (show 0 < n by omega)
    refine ⟨mulL (by omega), by decide, ?_⟩
    refine ⟨⟨by decide, by decide, by omega⟩, (by show (2147483629 : Int) ≠ 0; decide), divC (by decide) (by decide), n0, ?_⟩
    exact q _ _ r0 r1 (Step.set hg s0 (by omega))
end
open PySem PySem.Spec PyProof.Rows NM
section
variable {μ : Mu} {Qd : DK} {ds : List D}
end
open PySem PySem.Spec PyProof.Rows NM
section
variable {μ : Mu} {Qd : DK} {ds : List D}
theorem jY (d : PyData) : (∃ i, d = .int i ∧ isWhole d = true) ∨ ((∀ i, d ≠ .int i) ∧ isWhole d = false) := by
  cases d <;> first | exact .inl ⟨_, rfl, rfl⟩ | exact .inr ⟨fun _ z => (by cases z), rfl⟩
theorem FX (d : PyData) : (∃ xs, d = .tuple xs ∧ isT "tuple" d = true) ∨ ((∀ xs, d ≠ .tuple xs) ∧ isT "tuple" d = false) := by
  cases d <;> first | exact .inl ⟨_, rfl, rfl⟩ | exact .inr ⟨fun _ z => (by cases z), rfl⟩
theorem CH {d : PyData} (h : ∀ xs, d ≠ .tuple xs) : isNum d = false := by cases d <;> first | rfl | exact absurd rfl (h _)
theorem Cr {xs : List PyData} (h : xs.length ≠ 3) : isNum (.tuple xs) = false := by
  unfold isNum
  split
  · rename_i e; cases e; exact absurd rfl h
  · rfl
theorem three {α : Type} {xs : List α} (h : xs.length = 3) : ∃ a b c, xs = [a, b, c] := by
  match xs, h with
  | [a, b, c], _ => exact ⟨a, b, c, rfl⟩
end
open PySem PySem.Spec PyProof.Rows NM
noncomputable def fu : DTS :=
  (aG (bH (mM (fA (dB (qH "tuple" (af 0)))) (mM (dB (dOp (bt true) (dCB ng (ae (af 0) ao)) (dC (.int 3)))) (fA (dB (dCB mY (ae (sN [none] (Fg (af 0)) (aj 0) oQ (ay oS (ae (af 0) ao))) ao)))))) (bJ (dC (.bool false))) aY)
  (bJ (rK (dOp rGt (dOp dh (af 0) (dC (.int 2))) (dC (.int 0))) (dOp (bt false) (ay lQ (ae (ay lQ (ae (dOp dh (af 0) (dC (.int 0))) (ae (dOp dh (af 0) (dC (.int 1))) ao))) (ae (dOp dh (af 0) (dC (.int 2))) ao))) (dC (.int 1))))))
noncomputable def jh : DTS :=
  (aG (aP (dOp dh (je (ae (dC (.int 4)) (ae (dC (.int 10)) (ae (dC (.int 100)) (ae (dC (.int 1000000)) ao))))) (ay cK (ae (af 0) (ae (dC (.int 4)) ao)))) (aj 1))
  (aG (xj 2 3 (ae (FJ (ay cK (ae (af 0) (ae (af 1) ao))) (sC (af 1) (dC (.int 2)))) (ae (FJ (ay cK (ae (af 0) (ae (af 1) ao))) (sC (af 1) (dC (.int 2)))) ao)))
  (aG (aP (mL (dC (.int 1)) (ay cK (ae (af 0) (ae (FJ (af 1) (dC (.int 1))) ao)))) (aj 4))
  (aG (aP (ay cK (ae (af 0) (ae (dC (.int 8)) ao))) (aj 5))
  (bJ (ay fo (ae (dOp dh (je (ae (af 2) (ae (af 2) (ae (af 2) (ae (af 2) (ae (af 2) (ae (af 2) (ae (af 2) (ae (dC (.int 0)) ao))))))))) (af 5)) (ae (dOp dh (je (ae (af 3) (ae (af 3) (ae (af 3) (ae (af 3) (ae (af 3) (ae (dC (.int 0)) (ae (dC (.int 0)) (ae (af 3) ao))))))))) (af 5)) (ae (dOp dh (je (ae (af 4) (ae (af 4) (ae (dC (.int 1)) (ae (af 4) (ae (dC (.int 1)) (ae (af 4) (ae (dC (.int 1)) (ae (af 4) ao))))))))) (af 5)) ao)))))))))
section
variable {μ : Mu} {Qd : DK} {ds : List D}
theorem oi (h : sQ ds μ Qd) : fu ‹Qd› (aS ["_law_thing"] ds) μ := by
  obtain ⟨d, rfl, few, q⟩ := h
  unfold fu
  walk_at "rd"
  rcases FX d with ⟨xs, rfl, e⟩ | ⟨hn, e⟩
  · rw [e]
    walk_at "rd"
    by_cases hl : xs.length = 3
    · obtain ⟨a, b, c, rfl⟩ := three hl
      have e3 : decide ((([a, b, c].length : Nat) : Int) = 3) = true := rfl
      simp only [e3, Bool.xor_self, Bool.false_eq_true, ↓reduceIte]
      refine ⟨by simp, fun x => some (.bool (isWhole x)), fun x hx μ' hs => ⟨trivial, x, rfl, rfl, rfl⟩, ?_⟩
      rw [BL (fun x => PyData.bool (isWhole x)), ju]
      simp only [List.map_cons, List.map_nil, List.all_cons, List.all_nil, id, Bool.and_true]
      rcases jY a with ⟨i, rfl, ea⟩ | ⟨hn, ea⟩
      · rcases jY b with ⟨j, rfl, e1⟩ | ⟨hn, e1⟩
        · rcases jY c with ⟨k, rfl, e2⟩ | ⟨hn, e2⟩
          · rw [ea, e1, e2]
            simp only [Bool.and_self]
            walk_at "rd"
            have q' : Qd (.v (.bool (decide (1 ≤ k) && (g3 i j k == 1)))) μ := q
            by_cases hk : 1 ≤ k
            · rw [if_pos (by simp; omega)]
              refine ⟨i, j, rfl, _, k, rfl, ?_⟩
              walk_at "rd"
              have ee : decide (((Int.gcd (Int.gcd i j : Nat) k : Nat) : Int) = 1) = (decide (1 ≤ k) && (g3 i j k == 1)) := by
                unfold g3
                rw [decide_eq_true hk, Bool.true_and, Bool.eq_iff_iff]; simp; omega
              rw [ee]
              exact q'
            · rw [if_neg (by simp; omega)]
              rw [decide_eq_false hk] at q'
              exact q'
          · rw [ea, e1, e2]
            simp only [Bool.and_false]
            walk_at "rd"
            have : isNum (.tuple [.int i, .int j, c]) = false := by cases c <;> first | rfl | exact absurd rfl (hn _)
            rw [this] at q
            exact q
        · rw [ea, e1]
          simp only [Bool.and_false, Bool.false_and]
          walk_at "rd"
          have : isNum (.tuple [.int i, b, c]) = false := by cases b <;> first | rfl | exact absurd rfl (hn _)
          rw [this] at q
          exact q
      · rw [ea]
        simp only [Bool.and_false, Bool.false_and]
        walk_at "rd"
        have : isNum (.tuple [a, b, c]) = false := by cases a <;> first | rfl | exact absurd rfl (hn _)
        rw [this] at q
        exact q
    · rw [Cr hl] at q
      have : decide (((xs.length : Nat) : Int) = 3) = false := by simp; omega
      rw [this]
      simp only [Bool.xor_false, ↓reduceIte]
      exact q
  · rw [e]
    rw [CH hn] at q
    walk_at "rd"
    exact q
theorem pick {P : PyData → Prop} {xs : List PyData} {i : Int} (h0 : 0 ≤ i) (h1 : i < (xs.length : Nat)) (h : ∀ x ∈ xs, P x) : ∃ d, atI xs i = some d ∧ P d := let ⟨d, e, m⟩ := kS h0 h1; ⟨d, e, h d m⟩
theorem C8 {i : Int} (h1 : -1048576 < i) (h2 : i < 1048576) : Sz 20 i := Sz.of (by show i.natAbs < 1048576; omega)
theorem rF (h : mx ds μ Qd) : jh ‹Qd› (aS ["_law_bag_here", "_law_wide", "_law_a", "_law_b", "_law_c", "_law_way"] ds) μ := by
  obtain ⟨a, rfl, hb, q⟩ := h
  unfold jh
  walk_at "rd"
  refine ⟨a, 4, rfl, by decide, by decide, hb, fun r0 μ1 h0 h1 s1 => ?_⟩
  walk_at "rd"
  obtain ⟨w, e, i, rfl, w0, w1⟩ := pick (P := fun d => ∃ i : Int, d = .int i ∧ 4 ≤ i ∧ i ≤ 1000000) (xs := [PyData.int 4, PyData.int 10, PyData.int 100, PyData.int 1000000]) h0 (by exact h1) (by
    intro x hx
    simp only [List.mem_cons, List.not_mem_nil, or_false] at hx
    rcases hx with rfl | rfl | rfl | rfl <;> exact ⟨_, rfl, by decide, by decide⟩)
  rw [e]
  walk_at "rd"
  refine ⟨a, i, rfl, by omega, by omega, s1.1, fun r1 μ2 h2 h3 s2 => ?_⟩
  walk_at "rd"
  refine ⟨divC (by decide) (by decide), a, i, rfl, by omega, by omega, s2.1, fun r2 μ3 h4 h5 s3 => ?_⟩
  walk_at "rd"
  refine ⟨divC (by decide) (by decide), a, i - 1, rfl, by omega, by omega, s3.1, fun r3 μ4 h6 h7 s4 => ?_⟩
  walk_at "rd"
  refine ⟨a, 8, rfl, by decide, by decide, s4.1, fun r4 μ5 h8 h9 s5 => ?_⟩
  walk_at "rd"
  have ef : i.fdiv 2 = i / 2 := Int.fdiv_eq_ediv_of_nonneg _ (by omega)
  rw [ef]
  have za : Sz 20 (r1 - i / 2) := C8 (by omega) (by omega)
  have zb : Sz 20 (r2 - i / 2) := C8 (by omega) (by omega)
  have zc : Sz 20 (1 + r3) := C8 (by omega) (by omega)
  have z0 : Sz 20 0 := C8 (by omega) (by omega)
  have z1 : Sz 20 1 := C8 (by omega) (by omega)
  obtain ⟨d1, e1, i1, rfl, b1⟩ := pick (P := fun d => ∃ i : Int, d = .int i ∧ Sz 20 i) (xs := [PyData.int (r1 - i / 2), PyData.int (r1 - i / 2), PyData.int (r1 - i / 2), PyData.int (r1 - i / 2), PyData.int (r1 - i / 2), PyData.int (r1 - i / 2), PyData.int (r1 - i / 2), PyData.int 0]) h8 (by exact h9) (by
    intro x hx
    simp only [List.mem_cons, List.not_mem_nil, or_false] at hx
    rcases hx with rfl | rfl | rfl | rfl | rfl | rfl | rfl | rfl <;> exact ⟨_, rfl, by assumption⟩)
  rw [e1]
  walk_at "rd"
  obtain ⟨d2, e2, i2, rfl, b2⟩ := pick (P := fun d => ∃ i : Int, d = .int i ∧ Sz 20 i) (xs := [PyData.int (r2 - i / 2), PyData.int (r2 - i / 2), PyData.int (r2 - i / 2), PyData.int (r2 - i / 2), PyData.int (r2 - i / 2), PyData.int 0, PyData.int 0, PyData.int (r2 - i / 2)]) h8 (by exact h9) (by
    intro x hx
    simp only [List.mem_cons, List.not_mem_nil, or_false] at hx
    rcases hx with rfl | rfl | rfl | rfl | rfl | rfl | rfl | rfl <;> exact ⟨_, rfl, by assumption⟩)
  rw [e2]
  walk_at "rd"
  obtain ⟨d3, e3, i3, rfl, b3, p3⟩ := pick (P := fun d => ∃ i : Int, d = .int i ∧ Sz 20 i ∧ 0 < i) (xs := [PyData.int (1 + r3), PyData.int (1 + r3), PyData.int 1, PyData.int (1 + r3), PyData.int 1, PyData.int (1 + r3), PyData.int 1, PyData.int (1 + r3)]) h8 (by exact h9) (by
    intro x hx
    simp only [List.mem_cons, List.not_mem_nil, or_false] at hx
    rcases hx with rfl | rfl | rfl | rfl | rfl | rfl | rfl | rfl <;> exact ⟨_, rfl, by assumption, by omega⟩)
  rw [e3]
  walk_at "rd"
  have n3 : i3 ≠ 0 := by omega
  exact ⟨i1, i2, i3, rfl, n3, b3.mono (by decide), q _ _ (Df _ _ n3) (Ib n3 b1 b2 b3) (s1.trans (s2.trans (s3.trans (s4.trans s5))))⟩
end
open PySem PySem.Spec PyProof.Rows NM
noncomputable def lI : DTS :=
  (aG (aP (je (ae (dC .none) (ae (dC (.bool true)) (ae (dC (.bool false)) (ae (dC (.str "1")) (ae (dC (.str "")) (ae (iA (dC (.int 1))) (ae (dC (.int 0)) (ae (dC (.int 1)) (ae (Dj (dC (.int 10)) (dC (.int 59))) (ae (dO ao) (ae (je ao) (ae (je (ae (dC (.int 0)) ao)) (ae (dO (ae (dC (.int 0)) (ae (dC (.int 0)) ao))) (ae (dO (ae (dC (.int 1)) (ae (dC (.int 0)) (ae (dC (.int 0)) ao)))) (ae (dO (ae (dC (.int 2)) (ae (dC (.int 0)) (ae (dC (.int 2)) ao)))) (ae (dO (ae (dC (.int 1)) (ae (dC (.bool true)) (ae (dC (.int 1)) ao)))) (ae (dO (ae (dC (.int 1)) (ae (dC (.int 1)) (ae (iA (dC (.int 1))) ao)))) (ae (je (ae (dC (.int 1)) (ae (dC (.int 0)) (ae (dC (.int 1)) ao)))) (ae (dO (ae (dC (.int 1)) (ae (dC (.int 0)) ao))) (ae (dC (.str "a")) ao))))))))))))))))))))) (aj 1))
  (bJ (dOp dh (af 1) (ay cK (ae (af 0) (ae (dC (.int 20)) ao))))))
section
variable {μ : Mu} {Qd : DK} {ds : List D}
def rj : List PyData := [.none, .bool true, .bool false, .str "1", .str "", .int (-1), .int 0, .int 1, .int (10 ^ Int.toNat 59), .tuple [], .list [], .list [.int 0], .tuple [.int 0, .int 0], .tuple [.int 1, .int 0, .int 0], .tuple [.int 2, .int 0, .int 2], .tuple [.int 1, .bool true, .int 1], .tuple [.int 1, .int 1, .int (-1)], .list [.int 1, .int 0, .int 1], .tuple [.int 1, .int 0], .str "a"]
noncomputable def AX : DSp := fun ds μ Q => ∃ a : Addr, ds = [.m a] ∧ Bag μ a ∧ ∀ d μ', d ∈ rj → Step a μ μ' → Q (.v d) μ'
theorem yr (h : AX ds μ Qd) : lI ‹Qd› (aS ["_law_bag_here", "_law_some"] ds) μ := by
  obtain ⟨a, rfl, hb, q⟩ := h
  unfold lI
  walk_at "rd"
  refine ⟨⟨by decide, by decide, by decide⟩, a, 20, rfl, by decide, by decide, hb, fun r0 μ1 h0 h1 s1 => ?_⟩
  walk_at "rd"
  obtain ⟨d, e, m⟩ := kS (xs := rj) h0 (by exact h1)
  unfold rj at e
  rw [e]
  exact q d _ m s1
end
open PySem PySem.Spec PyProof.Rows NM
section
variable {μ : Mu} {Q : DK} {ds : List D}
noncomputable def sA : DSp := fun ds μ Q => ∃ ns : List Int, ds = [.s ns] ∧ ns.length ≤ 63 ∧ ∀ μ', Q (.v (.bool true)) μ'
theorem yL (h : oS ds μ Q) : ds.length = 1 := by obtain ⟨_, rfl, _⟩ := h; rfl
theorem vo (h : lQ ds μ Q) : ds.length = 2 := by obtain ⟨_, _, rfl, _⟩ := h; rfl
theorem zY (h : wC ds μ Q) : ds.length = 3 := by obtain ⟨_, _, _, rfl, _⟩ := h; rfl
theorem AM (h : sQ ds μ Q) : ds.length = 1 := by obtain ⟨_, rfl, _⟩ := h; rfl
theorem nM (h : fo ds μ Q) : ds.length = 3 := by obtain ⟨_, _, _, rfl, _⟩ := h; rfl
theorem CA (h : BB ds μ Q) : ds.length = 2 := by obtain ⟨_, _, rfl, _⟩ := h; rfl
theorem Ay (h : cK ds μ Q) : ds.length = 2 := by obtain ⟨_, _, rfl, _⟩ := h; rfl
theorem ue (h : mx ds μ Q) : ds.length = 1 := by obtain ⟨_, rfl, _⟩ := h; rfl
theorem Cs (h : AX ds μ Q) : ds.length = 1 := by obtain ⟨_, rfl, _⟩ := h; rfl
theorem Cv (h : sA ds μ Q) : ds.length = 1 := by obtain ⟨_, rfl, _⟩ := h; rfl
end
noncomputable def j6 : DTS := ma
theorem pE {μ Qd ds} (h : oS ds μ Qd) : j6 ‹Qd› (aS ["_law_thing"] ds) μ := yf h
theorem Cz {K : PySem.W.Frag} {H : Hp} {a : Addr} {ns : List Int} (hl : ns.length ≤ 63) (hT : uI K H) (hS : SqL K H a (ns.map V.int)) : spD K sA [.ref a] H (fun v _ => v = .bl true) fun _ _ _ => False := by
  refine ⟨[.s ns], fun _ => none, fun d _ => d = .v (.bool true), ⟨fun a ds h => (by cases h), hT⟩, .cons ⟨a, rfl, hS, rfl⟩ .nil, ⟨ns, rfl, hl, fun _ => rfl⟩, fun d u μ' H' _ _ r q => ?_⟩
  subst q
  cases r
  rfl
open PySem PySem.Spec PyProof.Rows NM
section
variable {μ : Mu} {Q : DK} {ds : List D} {x y : N3}
theorem EI (a b c : Int) : PyData.tuple [.int a, .int b, .int c] = dN ⟨a, b, c⟩ := rfl
theorem Ae : dh (.v (dN x)) (.v (.int 0)) μ Q = Q (.v (.int x.a)) μ := by unfold dN; rw [sg]
theorem zz : dh (.v (dN x)) (.v (.int 1)) μ Q = Q (.v (.int x.b)) μ := by unfold dN; rw [tK]
theorem zW : dh (.v (dN x)) (.v (.int 2)) μ Q = Q (.v (.int x.c)) μ := by unfold dN; rw [tG]
theorem eqN : PyData.eqv (dN x) (dN y) = decide (x = y) := by
  unfold dN
  rw [K8, Bool.eq_iff_iff]
  simp only [decide_eq_true_eq]
  exact ⟨fun h => N3.ext' h.1 h.2.1 h.2.2, fun h => by subst h; exact ⟨rfl, rfl, rfl⟩⟩
theorem Ee {neg : Bool} : bt neg (.v (dN x)) (.v (dN y)) μ Q = Q (.v (.bool (neg ^^ decide (x = y)))) μ := by
  rw [sP, eqN]
  exact propext ⟨fun h => h.2.2, fun h => ⟨rfl, rfl, h⟩⟩
theorem C5 {lo : Int} {n i : Nat} {x : PyData} (h : (nQ lo n)[i]? = some x) : x = .int (lo + i) ∧ i < n := by
  unfold nQ at h
  rw [List.getElem?_map] at h
  by_cases hi : i < n
  · rw [List.getElem?_range hi] at h
    cases h
    exact ⟨rfl, hi⟩
  · rw [List.getElem?_eq_none (by simpa using hi)] at h
    cases h
theorem Du {lo : Int} {n : Nat} : (nQ lo n).length = n := by unfold nQ; simp
end
end L2.DL
set_option Elab.async false
set_option linter.all false
set_option maxRecDepth 100000
set_option maxHeartbeats 4000000
namespace L2
open PySem PySem.Spec PyProof.Rows
section
variable {X : Cx}
end
end L2
namespace L2.DL
open PySem PySem.Spec PyProof.Rows
section
variable {X : Cx} {a b e i o : Expr} {ta tb te ti to : DTE} {pos apos cpos : Pos}
end
section
variable {ρ : Rho} {μ : Mu} {Q : DK} {te ti to : DTE} {d : PyData} {xs : List PyData}
end
end L2.DL
set_option Elab.async false
set_option linter.all false
set_option maxRecDepth 100000
set_option maxHeartbeats 4000000
namespace L2
open PySem PySem.Spec PyProof.Rows
section
variable {X : Cx}
end
end L2
namespace L2.DL
open PySem PySem.Spec PyProof.Rows
section
variable {X : Cx} {e : Expr} {te : DTE} {p apos cpos : Pos}
end
open PySem PySem.Spec PyProof.Rows
section
variable {X : Cx} {a b : Expr} {ta tb : DTE} {pos : Pos}
def lY : D → D → Mu → DK → Prop := fun x y μ Q => match x, y with
  | .v (.str z), .v (.int i) => ∃ c, z.length ≤ 10000 ∧ atI z.cps.toList i = some c ∧ Q (.v (.str ⟨#[c]⟩)) μ
  | _, _ => False
theorem Hy {K : PySem.W.Frag} : fT K HD lY := by
  intro x y ux uy H μ Qd Q ok rx ry h k
  unfold lY at h
  split at h
  · cases rx; cases ry
    obtain ⟨c, h1, h2, h3⟩ := h
    exact ⟨_, _, c, rfl, rfl, df h1, h2, k (.v _) _ μ H .refl ok (.str _) h3⟩
  · exact h.elim
theorem nF (ha : DE X a ta) (hb : DE X b tb) (hs : vJ b := by exact fun _ _ => rfl) : DE X (.Subscript a b pos) (dOp lY ta tb) := by
  obtain ⟨t1, p1, l1⟩ := ha
  obtain ⟨t2, p2, l2⟩ := hb
  exact ⟨_, G4 CW p1 p2 hs, nW Hy l1 l2⟩
end
theorem EG {z : Str} {i : Int} {μ : Mu} {Q : DK} : lY (.v (.str z)) (.v (.int i)) μ Q = (∃ c, z.length ≤ 10000 ∧ atI z.cps.toList i = some c ∧ Q (.v (.str ⟨#[c]⟩)) μ) := propext Iff.rfl
open PySem PySem.Spec PyProof.Rows
open PySem PySem.Spec PyProof.Rows
end L2.DL
set_option Elab.async false
set_option linter.all false
set_option maxRecDepth 100000
set_option maxHeartbeats 4000000
namespace L2
open PySem PySem.Spec PyProof.Rows
section
variable {X : Cx}
def AU (n : Int) (x : Str) : Str := ⟨(List.replicate n.toNat x.cps).foldl (· ++ ·) #[]⟩
noncomputable def He : R2 := fun x y H Q => ∃ z n, x = .str z ∧ y = .int n ∧ 2 ≤ n ∧ n ≤ 1000 ∧ 1 ≤ z.length ∧ z.length ≤ 10 ∧ Q (.str (AU n z)) H
theorem vw (x : Array Nat) : ∀ (k : Nat) (a : Array Nat), ((List.replicate k x).foldl (· ++ ·) a).size = a.size + k * x.size
  | 0, a => by simp
  | k + 1, a => by
    rw [List.replicate_succ, List.foldl_cons, vw x k, Array.size_append, Nat.succ_mul]; omega
theorem xS {n : Int} {x : Str} : (AU n x).length = n.toNat * x.length := by
  show ((List.replicate n.toNat x.cps).foldl (· ++ ·) #[]).size = _
  rw [vw]; simp [Str.length]
theorem Gk : OpR X (binaryOp .Mult) He := by
  intro pins s σ H x y v u Q I rx ry h
  obtain ⟨z, n, rfl, rfl, h1, h2, h3, h4, q⟩ := h
  obtain ⟨t, rfl⟩ := rx
  obtain ⟨t', rfl⟩ := ry
  have e : ((n == 1 || z.length == 0) = true) = False := by
    rw [eq_iff_iff, Bool.or_eq_true, beq_iff_eq, beq_iff_eq]
    constructor
    · rintro (h | h) <;> omega
    · exact False.elim
  have hm : z.length * n.toNat ≤ 10 * 1000 := Nat.mul_le_mul h4 (by omega)
  refine PySem.P.mul_str ?_ (fun _ _ => ?_) (fun _ _ => ?_) ?_
  · rw [decide_eq_false (by omega), decide_eq_false (by omega)]; rfl
  · intro hh
    have h5 : (2 ^ 63 - 1 : Int) / 1000 ≤ (2 ^ 63 - 1) / n := by
      refine Int.le_ediv_of_mul_le (by omega) ?_
      have : (2 ^ 63 - 1 : Int) / 1000 * n ≤ (2 ^ 63 - 1 : Int) / 1000 * 1000 := Int.mul_le_mul_of_nonneg_left h2 (by decide)
      exact Int.le_trans this (by decide)
    have h6 : (10 : Int) < (2 ^ 63 - 1) / 1000 := by decide
    omega
  · have hz : (10 * 1000 : Nat) ≤ sizeLine := by decide
    unfold Builtin.Str.tooLong
    exact decide_eq_false (by omega)
  · rw [if_neg (by omega : ¬ n < 1), if_neg (by rw [e]; exact fun h => h)]
    have hs : (AU n z).length ≤ sizeLine := by
      rw [xS, Nat.mul_comm]
      exact Nat.le_trans hm (by decide)
    exact ⟨hs, .str _, H, I.tok _, ⟨_, rfl⟩, q⟩
theorem Az (hc : X.calm = true) : ip X (.type "list") (fun xs H Q => ∃ z, xs = [.str z] ∧ z.length ≤ 10000 ∧ ∀ l, H l = none → Q (.ref l) (upd H l (.lst ((signs z).map V.str)))) := by
  intro pins s σ H xs us Q I r h
  obtain ⟨z, rfl, hz, q⟩ := h
  obtain ⟨u, rfl, t, rfl⟩ := vals1 r
  have hl : z.length ≤ sizeLine := Nat.le_trans hz (by decide)
  refine call_list_str (I.ok.hd hc) z t (fun h' tk acc c kp e it => ?_) hl
  refine ⟨.ref s.heap.objs.size, _, I.laid (t' := tk) kp (Nat.le_refl _) (show jq X.prog X.w _ h' _ (.lst ((signs z).map V.str)) from ⟨by rw [List.length_map, signs_length]; exact hl, acc.toList, c, ?_, by rw [Array.toArray_toList]; exact e⟩), rfl, q _ (I.hok.fresh (Nat.le_refl _))⟩
  have ar := areOf_signs (y := z) (vs := acc.toList) (by rw [Array.length_toList]; exact it.1) (fun j v hv => it.2 j v (by rw [← Array.getElem?_toList]; exact hv))
  clear e it
  generalize acc.toList = vs at ar
  generalize signs z = ws at ar
  induction ar with
  | nil => exact .nil
  | cons hk _ ih => obtain ⟨t, rfl⟩ := hk; exact .cons ⟨t, rfl⟩ ih
def KO : V → List V → Hp → VK → Prop := fun x vs H Q => ∃ a b i rest, x = .str a ∧ vs = [.str b] ∧ Builtin.Str.occurrences a b 0 a.length 1 = i :: rest ∧ Q (.int (i : Nat)) H
theorem GR : MtM X "str.index" KO := by
  intro pins s σ H x vs v us Q I rx rv h
  obtain ⟨a, b, i, rest, rfl, rfl, ho, q⟩ := h
  obtain ⟨t, rfl⟩ := rx
  obtain ⟨u, rfl, t', rfl⟩ := vals1 rv
  exact call_gives F.slot_str_index (typeIs_str s a t) F.entry_str_index (F.args_str_index_2 _ _) (gives_str_index a b t t' i rest ho) ⟨.int _, H, I.tok _, ⟨_, rfl⟩, q⟩
end
section
variable {X : Cx} {e : Expr} {pos p2 : Pos}
def xZ (z : Str) : Str := ⟨((Builtin.Str.strSliceIndices none none (-1) z.length).filterMap (z.cps[·]?)).toArray⟩
theorem A5 (z : Str) : (xZ z).length ≤ z.length := by
  show (List.filterMap _ _).toArray.size ≤ _
  rw [List.size_toArray]
  exact Nat.le_trans (List.length_filterMap_le _ _) (sliceIndicesBy_le _ _ _ (by decide) z.length)
noncomputable def JU (te : TE) : TE := fun σ H Q => te σ H fun x H1 => ∃ z, x = .str z ∧ z.length ≤ 10000 ∧ Q (.str (xZ z)) H1
theorem FU {te : TE} {j : Nat} {pz q2 : Pos} (he : PE X e te) : PE X (.Subscript e (.Slice none none (some (.UnaryOp .USub (.Constant (.int 1) j pz) q2)) p2) pos) (JU te) := by
  intro pins s σ H Q I h
  refine Subscript_ (thn (he pins s σ H _ I h) fun v s1 ⟨x, H1, I1, r1, q1⟩ => ?_)
  refine wpAny_Slice ?_
  rw [evalPart_none, evalPart_some]
  refine wpAny_pure (wpAny_pure ?_)
  refine thn ((EA zr (Dl (X := X) (i := 1) (j := j) (pos := pz))) pins s1 σ H1 (fun u H2 => u = .int (-1) ∧ H2 = H1) I1 ⟨1, rfl, rfl, rfl⟩) fun st s2 ⟨z, H2, I2, r2, e2, e3⟩ => ?_
  subst e2 e3
  obtain ⟨tk, rfl⟩ := r2
  have I4 : Inv X pins σ H2 { s2 with heap := s2.heap.push { cls := .type "slice", data := .fields #[.none, .none, .int (-1) tk] } } := I2.kept (t' := s2.toks) fun b ob q => Heap.get?_push_of_some _ q
  obtain ⟨z, rfl, hz, q⟩ := q1
  obtain ⟨t, rfl⟩ := r1
  have hl : z.length ≤ sizeLine := Nat.le_trans hz (by decide)
  refine tail_any (ops := [.str z t, .ref s2.heap.objs.size]) (typeIs_str _ z t) slot_str_getitem.lookup ?_ (by with_unfolding_all rfl)
  refine wpAny_getItem_str_slice (l := none) (u := none) (st := some (-1, tk)) ⟨_, Heap.get?_push_size _ rfl, rfl, rfl⟩ rfl ?_
  have em : sliceMade z t none none (some (-1, tk)) = Made.str (xZ z) := rfl
  rw [em]
  exact ⟨Nat.le_trans (A5 z) hl, .str _, H2, I4.tok _, ⟨_, rfl⟩, q⟩
end
end L2
namespace L2.DL
open PySem PySem.Spec PyProof.Rows
section
variable {X : Cx} {a b e o : Expr} {es : List Expr} {ta tb te to : DTE} {t : DTA} {pos p p2 apos cpos : Pos}
def sH : D → D → Mu → DK → Prop := fun x y μ Q => match x, y with
  | .v (.str z), .v (.int n) => 2 ≤ n ∧ n ≤ 1000 ∧ 1 ≤ z.length ∧ z.length ≤ 10 ∧ Q (.v (.str (AU n z))) μ
  | _, _ => False
theorem GO {K : PySem.W.Frag} : fT K He sH := by
  intro x y ux uy H μ Qd Q ok rx ry h k
  unfold sH at h
  split at h
  · cases rx; cases ry
    exact ⟨_, _, rfl, rfl, h.1, h.2.1, h.2.2.1, h.2.2.2.1, k (.v _) _ μ H .refl ok (.str _) h.2.2.2.2⟩
  · exact h.elim
theorem GZ (ha : DE X a ta) (hb : DE X b tb) : DE X (.BinOp a .Mult b pos) (dOp sH ta tb) := oM Gk GO ha hb
theorem Dp {z : Str} {n : Int} {μ : Mu} {Q : DK} : sH (.v (.str z)) (.v (.int n)) μ Q = (2 ≤ n ∧ n ≤ 1000 ∧ 1 ≤ z.length ∧ z.length ≤ 10 ∧ Q (.v (.str (AU n z))) μ) := propext Iff.rfl
def pO : List D → Mu → DK → Prop := fun xs μ Q => match xs with
  | [.v (.str z)] => z.length ≤ 10000 ∧ Q (.v (.list ((signs z).map PyData.str))) μ
  | _ => False
theorem Be {K : PySem.W.Frag} {μ : Mu} {H : Hp} : ∀ l : List Str, RpL K μ H (l.map PyData.str) (l.map V.str)
  | [] => .nil
  | x :: l => .cons (.str x) (Be l)
theorem Es {K : PySem.W.Frag} : lh K (fun xs H Q => ∃ z, xs = [.str z] ∧ z.length ≤ 10000 ∧ ∀ l, H l = none → Q (.ref l) (upd H l (.lst ((signs z).map V.str)))) pO := by
  intro xs us H μ Qd Q ok rs h k
  unfold pO at h
  split at h
  · rename_i z
    cases rs with
    | cons r1 r2 =>
      cases r2
      cases r1
      exact ⟨z, rfl, h.1, fun p hp => k (.v _) _ μ _ (iz hp) (ok.new hp) (nD ok (Be _) hp) h.2⟩
  · exact h.elim
theorem yZ (hc : X.calm = true) (hg : Gl X "list") (hm : X.mg "list" = none) (ha : DA X (e :: es) t)
    (he : starEach (e :: es) X.env = (false, eval e X.env) :: starEach es X.env := by rfl) (hpl : (backTo pos (starEach es X.env)).any (·.1) = false := by rfl) : DE X (.Call (.Name "list" p) (e :: es) [] pos) (dCB pO t) :=
  mJ (Az hc) Es hg hm PyProof.Rows.Boot.«list» ha (by decide) (by decide) he hpl
theorem Ba {z : Str} {μ : Mu} {Q : DK} : pO [.v (.str z)] μ Q = (z.length ≤ 10000 ∧ Q (.v (.list ((signs z).map PyData.str))) μ) := propext Iff.rfl
noncomputable def Dc (to te : DTE) : DTE := fun ρ μ Q => to ρ μ fun x μ1 => match x with
  | .v (.str z) => te ρ μ1 fun y μ2 => (match y with
    | .v (.str w) => ∃ i rest, Builtin.Str.occurrences z w 0 z.length 1 = i :: rest ∧ Q (.v (.int (i : Nat))) μ2
    | _ => False)
  | _ => False
theorem Fw (ho : DE X o to) (ha : DE X e te) (hbase : attributeBase o "index" X.env (eval o X.env) = eval o X.env := by rfl)
    (hfew : ((backTo cpos (starEach [e] X.env)).all (fun x => !x.1) && (backToKw cpos (keywordEach [] X.env)).all (fun x => x.1.isSome)
      && decide ([e].length + ([] : List Keyword).length + (if ([] : List Keyword).isEmpty then 0 else 1) < 30)) = true := by rfl)
    (hline : (apos.endLine == cpos.line) = true := by rfl) (hs : starEach [e] X.env = (false, eval e X.env) :: starEach [] X.env := by rfl) (hplain : (backTo cpos (starEach [] X.env)).any (·.1) = false := by rfl) :
    DE X (.Call (.Attribute o "index" apos) [e] [] cpos) (Dc to te) := by
  obtain ⟨t1, p1, l1⟩ := ho
  obtain ⟨t2, p2, l2⟩ := ha
  refine ⟨_, yJ PySem.F.plainAttrs_str PySem.F.slot_str_index PySem.F.type_str_index GR p1 (cY p2 jP hs) hbase hfew hline hs hplain, fun σ H ρ μ Qd Q S h k => ?_⟩
  refine l1 σ H ρ μ _ _ S h fun x ux μ1 H1 e1 S1 rx h1 => ?_
  split at h1
  · cases rx
    refine ⟨rfl, ?_⟩
    refine l2 σ H1 ρ μ1 _ _ S1 h1 fun y uy μ2 H2 e2 S2 ry h2 => ?_
    split at h2
    · cases ry
      obtain ⟨i, rest, ho, hq⟩ := h2
      exact ⟨_, _, i, rest, rfl, rfl, ho, k (.v _) _ μ2 H2 (e1.trans e2) S2 (.int _) hq⟩
    · exact h2.elim
  · exact h1.elim
theorem Eg {ρ : Rho} {μ : Mu} {Q : DK} : Dc to te ρ μ Q = to ρ μ fun x μ1 => match x with
  | .v (.str z) => te ρ μ1 (fun y μ2 => (match y with
    | .v (.str w) => ∃ i rest, Builtin.Str.occurrences z w 0 z.length 1 = i :: rest ∧ Q (.v (.int (i : Nat))) μ2
    | _ => False))
  | _ => False := propext Iff.rfl
noncomputable def D6 (te : DTE) : DTE := fun ρ μ Q => te ρ μ fun x μ1 => match x with
  | .v (.str z) => z.length ≤ 10000 ∧ Q (.v (.str (xZ z))) μ1
  | _ => False
theorem GD {j : Nat} {pz q2 : Pos} (he : DE X e te) : DE X (.Subscript e (.Slice none none (some (.UnaryOp .USub (.Constant (.int 1) j pz) q2)) p2) pos) (D6 te) := by
  obtain ⟨t1, p1, l1⟩ := he
  refine ⟨_, FU p1, fun σ H ρ μ Qd Q S h k => ?_⟩
  refine l1 σ H ρ μ _ _ S h fun x ux μ1 H1 e1 S1 rx h1 => ?_
  split at h1
  · cases rx
    exact ⟨_, rfl, h1.1, k (.v _) _ μ1 H1 e1 S1 (.str _) h1.2⟩
  · exact h1.elim
theorem CN {ρ : Rho} {μ : Mu} {Q : DK} : D6 te ρ μ Q = te ρ μ fun x μ1 => match x with
  | .v (.str z) => z.length ≤ 10000 ∧ Q (.v (.str (xZ z))) μ1
  | _ => False := propext Iff.rfl
end
section
variable {X : Cx} {E : XK} {C : Value} {a b c e : Expr} {tc : DTT} {tx ty : DTX} {pos : Pos}
noncomputable def xNo : DTX := fun _ _ _ => False
theorem Ew : XE X E C e xNo := ⟨fun _ _ _ => False, fun _ _ _ _ _ _ h => h.elim, fun _ _ _ _ _ _ _ h _ => h⟩
theorem Hb (hc : DT X c tc) (ha : XE X E C a tx) (hb : XE X E C b ty) : XE X E C (.IfExp c a b pos) (xIf tc tx ty) := by
  obtain ⟨t0, p0, l0⟩ := hc
  obtain ⟨t1, p1, l1⟩ := ha
  obtain ⟨t2, p2, l2⟩ := hb
  refine ⟨_, yR p0 p1 p2, fun σ H ρ μ Xk Q S h wsh => ?_⟩
  refine l0 σ H ρ μ _ _ S h fun c μ1 H1 e1 S1 h1 => ?_
  cases c with
  | true => exact rN (l1 σ H1 ρ μ1 Xk Q S1 (by simpa using h1) (wsh.on e1))
  | false => exact rX (l2 σ H1 ρ μ1 Xk Q S1 (by simpa using h1) (wsh.on e1))
theorem IH (ha : XE X E C a tx) : XE X E C (.UnaryOp .USub a pos) tx := by
  obtain ⟨t1, p1, l1⟩ := ha
  exact ⟨_, EA zr p1, fun σ H ρ μ Xk Q S h wsh => l1 σ H ρ μ Xk _ S h wsh⟩
theorem Ju (h1 : XE X E C e tx) (h2 : XE X E C e ty) : XE X E C e (xOr tx ty) := by
  obtain ⟨t1, p1, l1⟩ := h1
  obtain ⟨t2, p2, l2⟩ := h2
  refine ⟨fun σ H Q => t1 σ H Q ∨ t2 σ H Q, fun pins s σ H Q I h => h.elim (p1 pins s σ H Q I) (p2 pins s σ H Q I), fun σ H ρ μ Xk Q S h wsh => ?_⟩
  rcases h with h | h
  · exact .inl (l1 σ H ρ μ Xk Q S h wsh)
  · exact .inr (l2 σ H ρ μ Xk Q S h wsh)
def BU : D → D → Mu → DK → Prop := fun x y μ Q => match x, y with
  | .v .none, .v .none => Q (.v (.bool true)) μ
  | .v (.tuple _), .v .none => Q (.v (.bool false)) μ
  | _, _ => False
theorem IZ {K : PySem.W.Frag} : fT K Kd BU := by
  intro x y ux uy H μ Qd Q ok rx ry h k
  unfold BU at h
  split at h
  · cases rx; cases ry; exact ⟨rfl, .inl ⟨rfl, k (.v _) _ μ H .refl ok (Rp.bool _) h⟩⟩
  · cases rx; cases ry; exact ⟨rfl, .inr ⟨_, rfl, k (.v _) _ μ H .refl ok (Rp.bool _) h⟩⟩
  · exact h.elim
theorem DD {μ : Mu} {Q : DK} : BU (.v .none) (.v .none) μ Q = Q (.v (.bool true)) μ := propext Iff.rfl
theorem yT {x : Str} {k : Nat} {f : Addr} {fd : FuncData} {ps : List Str} {dsp : DSp} {p : Pos} (F : bS X.prog X.w X.K X.mg X.base CX0 k f fd ps (spD X.K dsp)) (hr : eN k X.A) (hg : Gl X x) (hm : X.mg x = some (.ref f)) (hk : PySem.W.keepIn X.K (.ref f) = true) (hb : Binds X.K fd ps [])
    (hdb : (x == ("__debug__" : Str)) = false := by decide) : DE X (.Call (.Name x p) [] [] pos) (ay dsp ao) := by
  refine ⟨_, CT F hr hg hm hk hb .nil EX hdb, fun σ H ρ μ Qd Q S h kk => ?_⟩
  exact ⟨[], μ, Qd, S.mu, .nil, h, fun d u μ' H' e2 ok r q => kk d u μ' H' e2 ⟨ok, S.rho.ext S.mu e2⟩ r q⟩
end
open PySem PySem.Spec PyProof.Rows NM
structure Tg {α : Sort u} (x : α) : Type where
def hd {α : Sort u} (x : α) (_ : Tg x) : α := x
section
variable {ρ : Rho} {μ : Mu} {Q : DK} {QT : Bool → Mu → Prop} {Dd : qB} {ta tb tc : DTE} {t u : DTT} {tA : DTA} {s1 s2 : DTS} {d : D} {A B : Prop} {p : Tg A} {q : Tg B}
theorem Au {w : Tg Q} : hd Q w d μ = Q d μ := propext Iff.rfl
theorem l_T {i : Decidable True} : (if True then hd A p else hd B q) = A := if_pos trivial
theorem l_F {i : Decidable False} : (if False then hd A p else hd B q) = B := if_neg id
theorem l_t {i : Decidable (true = true)} : (if true = true then hd A p else hd B q) = A := if_pos rfl
theorem l_f {i : Decidable (false = true)} : (if false = true then hd A p else hd B q) = B := if_neg Bool.false_ne_true
theorem ez {c : Prop} {i : Decidable c} (h : c) : (if c then hd A p else hd B q) = A := if_pos h
theorem dI {c : Prop} {i : Decidable c} (h : ¬ c) : (if c then hd A p else hd B q) = B := if_neg h
theorem J8 {c : Prop} {i : Decidable c} (h : c → A) (g : ¬ c → B) : if c then hd A p else hd B q := by split <;> rename_i z <;> first | exact h z | exact g z
theorem Jl {i j : Int} {k : Decidable True} : (if True then i else j) = i := if_pos trivial
theorem Il {i j : Int} {k : Decidable False} : (if False then i else j) = j := if_neg id
theorem JL {r} : dOp r ta tb ρ μ Q = ta ρ μ fun x μ1 => tb ρ μ1 fun y μ2 => r x y μ2 (hd Q .mk) := propext Iff.rfl
theorem EW {g : DTG} : aP ta g Dd ρ μ = ta ρ μ (hd (fun d μ1 => g d ρ μ1 Dd.nx) .mk) := propext Iff.rfl
theorem HI {rd} : dCB rd tA ρ μ Q = tA ρ μ fun ds μ1 => rd ds μ1 (hd Q .mk) := propext Iff.rfl
theorem AN {dsp : DSp} : ay dsp tA ρ μ Q = tA ρ μ fun ds μ1 => dsp ds μ1 (hd Q .mk) := propext Iff.rfl
theorem zQ : kf t u ρ μ QT = t ρ μ fun c μ1 => if c = true then hd (u ρ μ1 QT) .mk else hd (QT false μ1) .mk := propext Iff.rfl
theorem ES : mM t u ρ μ QT = t ρ μ fun c μ1 => if c = true then hd (QT true μ1) .mk else hd (u ρ μ1 QT) .mk := propext Iff.rfl
theorem zR : rK ta tb ρ μ Q = ta ρ μ fun x μ1 => match x with | .v (.bool c) => if c = true then hd (tb ρ μ1 Q) .mk else hd (Q (.v (.bool false)) μ1) .mk | _ => False := propext Iff.rfl
theorem Jk : dIf t ta tb ρ μ Q = t ρ μ fun c μ1 => if c = true then hd (ta ρ μ1 Q) .mk else hd (tb ρ μ1 Q) .mk := propext Iff.rfl
theorem Ez : bH t s1 s2 Dd ρ μ = t ρ μ fun b μ1 => if b = true then hd (s1 Dd ρ μ1) .mk else hd (s2 Dd ρ μ1) .mk := propext Iff.rfl
theorem xn {r r'} : AL r r' ta tb tc ρ μ Q = ta ρ μ fun x μ1 => tb ρ μ1 fun y μ2 => r x y μ2 fun z μ3 => match z with
  | .v (.bool k) => if k = true then hd (tc ρ μ3 fun w μ4 => r' y w μ4 Q) .mk else hd (Q (.v (.bool false)) μ3) .mk
  | _ => False := propext Iff.rfl
end
open PySem PySem.Spec PyProof.Rows NM
def txt (l : List Nat) : Str := ⟨l.toArray⟩
theorem ax (l : List Nat) : (txt l).length = l.length := List.size_toArray
theorem bN (l : List Nat) : (txt l).cps.toList = l := rfl
theorem cE (l r : List Nat) : txt l ++ txt r = txt (l ++ r) := by
  show (⟨l.toArray ++ r.toArray⟩ : Str) = _
  unfold txt
  rw [List.append_toArray]
theorem AI {x : Str} {l : List Nat} (h : x.cps.toList = l) : x = txt l := StrLaws.mk_of_toList h
theorem GS {l r : List Nat} (h : txt l = txt r) : l = r := by
  have := congrArg (fun z : Str => z.cps.toList) h
  exact this
def dg (n : Nat) : List Nat := (Nat.toDigits 10 n).map Char.toNat
def whl (i : Int) : List Nat := if i < 0 then 45 :: dg i.natAbs else dg i.natAbs
theorem zv (n : Nat) : NumText.digitsVal (dg n) = n := PySem.W.KIN.val_back n
theorem yx : ∀ (f n : Nat) (r : List Char), (∀ c ∈ r, 48 ≤ c.toNat ∧ c.toNat ≤ 57) → ∀ c ∈ Nat.toDigitsCore 10 f n r, 48 ≤ c.toNat ∧ c.toNat ≤ 57
  | 0, n, r, h => by simpa [Nat.toDigitsCore] using h
  | f + 1, n, r, h => by
    have hd : 48 ≤ (Nat.digitChar (n % 10)).toNat ∧ (Nat.digitChar (n % 10)).toNat ≤ 57 := by
      have : n % 10 < 10 := Nat.mod_lt _ (by decide)
      generalize n % 10 = k at this
      match k, this with
      | 0, _ => decide
      | 1, _ => decide
      | 2, _ => decide
      | 3, _ => decide
      | 4, _ => decide
      | 5, _ => decide
      | 6, _ => decide
      | 7, _ => decide
      | 8, _ => decide
      | 9, _ => decide
    have h' : ∀ c ∈ Nat.digitChar (n % 10) :: r, 48 ≤ c.toNat ∧ c.toNat ≤ 57 := fun c hc => by
      rcases List.mem_cons.mp hc with z | z
      · rw [z]; exact hd
      · exact h c z
    intro c hc
    simp only [Nat.toDigitsCore] at hc
    split at hc
    · exact h' c hc
    · exact yx f _ _ h' c hc
theorem fk (n : Nat) : NumText.AllDigits (dg n) := fun c hc => by
  obtain ⟨k, hk, rfl⟩ := List.mem_map.mp hc
  exact yx _ _ [] (fun _ z => nomatch z) k hk
theorem BY : ∀ (f n : Nat) (r : List Char), r ≠ [] → Nat.toDigitsCore 10 f n r ≠ []
  | 0, n, r, h => by simpa [Nat.toDigitsCore] using h
  | f + 1, n, r, h => by
    simp only [Nat.toDigitsCore]
    split
    · exact List.cons_ne_nil _ _
    · exact BY f _ _ (List.cons_ne_nil _ _)
theorem Bv (n : Nat) : dg n ≠ [] := fun h => by
  have h2 : Nat.toDigits 10 n = [] := List.map_eq_nil_iff.mp h
  unfold Nat.toDigits at h2
  simp only [Nat.toDigitsCore] at h2
  split at h2
  · cases h2
  · exact BY _ _ _ (List.cons_ne_nil _ _) h2
theorem yD : ∀ (f n k : Nat) (r : List Char), n < 10 ^ (k + 1) → (Nat.toDigitsCore 10 f n r).length ≤ k + 1 + r.length
  | 0, n, k, r, h => by simp [Nat.toDigitsCore]
  | f + 1, n, k, r, h => by
    simp only [Nat.toDigitsCore]
    split
    · rw [List.length_cons]; omega
    · rename_i hz
      cases k with
      | zero => exact absurd (Nat.div_eq_of_lt (by simpa using h)) hz
      | succ k =>
        have := yD f (n / 10) k (Nat.digitChar (n % 10) :: r) (by rw [Nat.div_lt_iff_lt_mul (by decide)]; rw [Nat.pow_succ] at h; exact h)
        rw [List.length_cons] at this
        omega
theorem zO {n k : Nat} (h : n < 10 ^ (k + 1)) : (dg n).length ≤ k + 1 := by
  unfold dg
  rw [List.length_map]
  exact yD _ _ k [] h
theorem FL (n : Nat) : Str.ofString (toString ((n : Nat) : Int)) = txt (dg n) := text_ofNat n
theorem tos (i : Int) : Str.ofString (toString i) = txt (whl i) := by
  unfold whl
  cases i with
  | ofNat n => rw [if_neg (by show ¬ ((n : Nat) : Int) < 0; omega)]; exact text_ofNat n
  | negSucc n =>
    rw [if_pos (by omega)]
    rw [PySem.Str.ofString_eq_toList]
    unfold txt
    have e : (toString (Int.negSucc n)).toList = '-' :: (Nat.toDigits 10 (n + 1)) := by
      show ("-" ++ Nat.repr (n + 1)).toList = _
      rw [String.toList_append]
      unfold Nat.repr
      show '-' :: (String.ofList (Nat.toDigits 10 (n + 1))).toList = _
      rw [show (String.ofList (Nat.toDigits 10 (n + 1))).toList = Nat.toDigits 10 (n + 1) from String.toList_ofList ..]
    rw [e]
    rfl
theorem lit (s : String) : Str.ofString s = txt (s.toList.map Char.toNat) := PySem.Str.ofString_eq_toList s
theorem E7 {l : List Nat} {i j : Int} (h : 0 ≤ i ∧ i ≤ j ∧ j ≤ (l.length : Nat)) : Txt.slice (txt l) (some i) (some j) = txt ((l.drop i.toNat).take (j - i).toNat) := by
  have := slice_closes (x := txt l) h
  exact eq_of_beq this
theorem mr {l : List Nat} {i : Int} (h : 0 ≤ i ∧ i ≤ (l.length : Nat)) : Txt.slice (txt l) (some i) none = txt (l.drop i.toNat) := by
  have := slice_closes_from (x := txt l) h
  have e := eq_of_beq this
  rw [e]
  unfold txt
  congr 1
  congr 1
  show List.take ((l.length : Nat) - i : Int).toNat (l.drop i.toNat) = _
  rw [List.take_of_length_le (by rw [List.length_drop]; omega)]
theorem AW {l : List Nat} {j : Int} (h : 0 ≤ j ∧ j ≤ (l.length : Nat)) : Txt.slice (txt l) none (some j) = txt (l.take j.toNat) := by
  have := slice_closes_to (x := txt l) h
  have e := eq_of_beq this
  rw [e]
  unfold txt
  congr 1
  congr 1
  simp
theorem zJ {x : Str} {lo : Option Int} {j : Int} (h : j < 0) (h' : -(x.length : Nat) ≤ j) : Txt.slice x lo (some j) = Txt.slice x lo (some (j + (x.length : Nat))) := by
  unfold Txt.slice
  have e : Builtin.Str.strSliceIndices lo (some j) 1 x.length = Builtin.Str.strSliceIndices lo (some (j + (x.length : Nat))) 1 x.length := StrLaws.sliceIdx_neg_hi _ _ h h'
  rw [e]
theorem gw (l : List Nat) (c : Nat) : qY (txt l) (txt [c]) = decide (l.head? = some c) := by
  have h := StrLaws.subAt_one (txt l) c 0
  rw [bN] at h
  have e : qY (txt l) (txt [c]) = true ↔ l[0]? = some c := by
    rw [← h]
    unfold qY
    rw [Bool.and_eq_true, decide_eq_true_eq]
    exact Iff.rfl
  rw [Bool.eq_iff_iff, e, decide_eq_true_eq, List.head?_eq_getElem?]
theorem rJ (l : List Nat) (c : Nat) : BF (txt l) (txt [c]) = decide (l.getLast? = some c) := by
  have h := StrLaws.subAt_one (txt l) c (l.length - 1)
  rw [bN] at h
  have e : BF (txt l) (txt [c]) = true ↔ l[l.length - 1]? = some c := by
    rw [← h]
    unfold BF
    rw [Bool.and_eq_true, decide_eq_true_eq]
    have e1 : (txt l).length = l.length := ax l
    have e2 : (txt [c]).length = 1 := rfl
    have e3 : (⟨#[c]⟩ : Str).length = 1 := rfl
    show 0 + (txt [c]).length ≤ (txt l).length ∧ Builtin.Str.subAt (txt l) (txt [c]) ((txt l).length - (txt [c]).length) = true ↔ _
    rw [e1, e2, e3]
    constructor
    · rintro ⟨a, b⟩; exact ⟨by omega, b⟩
    · rintro ⟨a, b⟩; exact ⟨by omega, b⟩
  rw [Bool.eq_iff_iff, e, decide_eq_true_eq, List.getLast?_eq_getElem?]
theorem ED (l : List Nat) (c : Nat) : inS (txt [c]) (txt l) = decide (c ∈ l) := StrLaws.found_one (txt l) c
theorem vg {l : List Nat} {c : Nat} (h : c ∉ l) : lX (txt l) (txt [c]) = [.str (txt l), .str Str.empty, .str Str.empty] := by
  unfold lX
  have := StrLaws.found_one (txt l) c
  rw [bN, decide_eq_false h] at this
  cases e : Builtin.Str.occurrences (txt l) (txt [c]) 0 (txt l).length 1 with
  | nil => rfl
  | cons a r => rw [show (⟨#[c]⟩ : Str) = txt [c] from rfl, e] at this; cases this
theorem u4 {u v : List Nat} {c : Nat} (h : c ∉ u) : lX (txt (u ++ c :: v)) (txt [c]) = [.str (txt u), .str (txt [c]), .str (txt v)] := by
  unfold lX
  have sub : ∀ i, StrLaws.At (txt (u ++ c :: v)) (txt [c]) (txt (u ++ c :: v)).length i ↔ (u ++ c :: v)[i]? = some c := fun i => StrLaws.subAt_one _ c i
  rcases StrLaws.occ_head (txt (u ++ c :: v)) (txt [c]) 1 (by decide) with ⟨e, g⟩ | ⟨i, r, e, g, g'⟩
  · exact absurd ((sub u.length).mpr (by simp)) (g u.length)
  · have hi : i = u.length := by
      rcases Nat.lt_trichotomy i u.length with z | z | z
      · exfalso
        have := (sub i).mp g
        rw [List.getElem?_append_left z] at this
        exact h (List.mem_of_getElem? this)
      · exact z
      · exact absurd ((sub u.length).mpr (by simp)) (g' _ z)
    subst hi
    rw [e]
    dsimp only
    have e1 : Builtin.Str.strSub (txt (u ++ c :: v)) 0 u.length = txt u := AI (by rw [StrLaws.strSub_toList, bN]; simp)
    have e2 : Builtin.Str.strSub (txt (u ++ c :: v)) (u.length + (txt [c]).length) (txt (u ++ c :: v)).length = txt v := AI (by
      rw [StrLaws.strSub_toList, bN, ax, ax]
      have : (u ++ c :: v).drop (u.length + [c].length) = v := by
        rw [show u ++ c :: v = (u ++ [c]) ++ v by simp, show u.length + [c].length = (u ++ [c]).length by simp, List.drop_left]
      rw [this, List.take_of_length_le (by simp; omega)])
    rw [e1, e2]
theorem i8 {l : List Nat} {c : Nat} (h : c ∉ l) : cH (txt l) (txt [c]) = -1 := by
  unfold cH
  have sub : ∀ i, StrLaws.At (txt l) (txt [c]) (txt l).length i ↔ l[i]? = some c := fun i => StrLaws.subAt_one _ c i
  rcases StrLaws.last_spec (txt l) (txt [c]) with ⟨e, g⟩ | ⟨i, e, g, g'⟩
  · rw [e]
  · exact absurd (List.mem_of_getElem? ((sub i).mp g)) h
theorem iV {u v : List Nat} {c : Nat} (h : c ∉ v) : cH (txt (u ++ c :: v)) (txt [c]) = (u.length : Nat) := by
  unfold cH
  have sub : ∀ i, StrLaws.At (txt (u ++ c :: v)) (txt [c]) (txt (u ++ c :: v)).length i ↔ (u ++ c :: v)[i]? = some c := fun i => StrLaws.subAt_one _ c i
  rcases StrLaws.last_spec (txt (u ++ c :: v)) (txt [c]) with ⟨e, g⟩ | ⟨i, e, g, g'⟩
  · exact absurd ((sub u.length).mpr (by simp)) (g u.length)
  · have hi : i = u.length := by
      rcases Nat.lt_trichotomy i u.length with z | z | z
      · exact absurd ((sub u.length).mpr (by simp)) (g' _ z)
      · exact z
      · exfalso
        have := (sub i).mp g
        obtain ⟨k, rfl⟩ : ∃ k, i = u.length + 1 + k := ⟨i - (u.length + 1), by omega⟩
        rw [List.getElem?_append_right (by omega), show u.length + 1 + k - u.length = k + 1 by omega, List.getElem?_cons_succ] at this
        exact h (List.mem_of_getElem? this)
    subst hi
    rw [e]
theorem Er {l : List Nat} (h : NumText.AllDigits l) (hn : l ≠ []) (hl : l.length ≤ 640) : intText? (txt l) = some ((NumText.digitsVal l : Nat) : Int) := intText_digits (x := txt l) h hn (by rw [ax]; omega)
theorem mI (l r : List Nat) : PyData.eqv (.str (txt l)) (.str (txt r)) = decide (l = r) := by
  have : PyData.eqv (.str (txt l)) (.str (txt r)) = (txt l == txt r) := by simp [PyData.eqv]
  rw [this]
  by_cases h : l = r
  · rw [h, decide_eq_true rfl]; exact beq_self_eq_true _
  · rw [decide_eq_false h]
    exact beq_eq_false_iff_ne.mpr fun z => h (GS z)
noncomputable def Asc (l : List Nat) : Prop := ∀ c ∈ l, c < 128
theorem nB {l : List Nat} (h : Asc l) : SeqAt.shaped (.str (txt l)) = true := by
  unfold SeqAt.shaped
  simp only [PyData.canLay0, PyData.depth]
  have : PyData.strOk (txt l) = true := by
    unfold PyData.strOk
    rw [Array.all_eq_true']
    intro c hc
    have := h c (by simpa [txt] using hc)
    exact decide_eq_true (by omega)
  rw [this]
  rfl
theorem zE (n : Nat) : Asc (dg n) := fun c hc => by have := fk n c hc; omega
theorem oW (i : Int) : Asc (whl i) := fun c hc => by
  unfold whl at hc
  split at hc
  · rcases List.mem_cons.mp hc with z | z
    · omega
    · exact zE _ c z
  · exact zE _ c hc
open PySem PySem.Spec PyProof.Rows NM
noncomputable def cf (i : Int) : Prop := i.natAbs < 10 ^ 40
def rt (b : Int) : List Nat := if b = 1 then [114] else if b = -1 then [45, 114] else whl b ++ [114]
def eD (a b : Int) : List Nat := whl a ++ (if 0 < b then [43] else []) ++ rt b
def bf (x : N3) : List Nat := if x.b = 0 then whl x.a else if x.a = 0 then rt x.b else if x.c = 1 then eD x.a x.b else 40 :: eD x.a x.b ++ [41]
def bM (x : N3) : List Nat := if x.c = 1 then bf x else bf x ++ 47 :: whl x.c
noncomputable def lK (x : N3) : Prop := cf x.a ∧ cf x.b ∧ cf x.c
noncomputable def gK : DSp := fun ds μ Q => ∃ k : Int, ds = [.v (.int k)] ∧ cf k ∧ ∀ μ', (∀ b ds, μ b = some ds → μ' b = some ds) → Q (.v (.str (txt (whl k)))) μ'
noncomputable def eT : DSp := fun ds μ Q => ∃ b : Int, ds = [.v (.int b)] ∧ cf b ∧ ∀ μ', (∀ b ds, μ b = some ds → μ' b = some ds) → Q (.v (.str (txt (rt b)))) μ'
noncomputable def gN : DSp := fun ds μ Q => ∃ x : N3, ds = [.v (dN x)] ∧ lK x ∧ ∀ μ', (∀ b ds, μ b = some ds → μ' b = some ds) → Q (.v (.str (txt (bM x)))) μ'
theorem xJ {gs : rH} {x : N3} {ρ : Rho} {μ : Mu} {QG : Rho → Mu → Prop} : eR 3 gs (.v (dN x)) ρ μ QG = gs [.int x.a, .int x.b, .int x.c] ρ μ QG := propext ⟨fun h => h.2, fun h => ⟨rfl, h⟩⟩
theorem xR {μ : Mu} {Q : DK} {ds : List D} (h : gK ds μ Q) : ds.length = 1 := by obtain ⟨_, rfl, _⟩ := h; rfl
theorem qr {μ : Mu} {Q : DK} {ds : List D} (h : eT ds μ Q) : ds.length = 1 := by obtain ⟨_, rfl, _⟩ := h; rfl
theorem qm {μ : Mu} {Q : DK} {ds : List D} (h : gN ds μ Q) : ds.length = 1 := by obtain ⟨_, rfl, _⟩ := h; rfl
local macro_rules|`(tactic| walk_at "rl")=>mkW "↓xJ ↓zX ↓Au ↓l_t ↓l_f l_T l_F Jl Il ↓rO ↓EE ↓xb ↓zZ ↓wR ↓EF ↓Jh ↓xF ↓xl ↓Jc ↓H0 ↓HH ↓II ↓vU ↓zD dU mZ pq decide_true decide_false Bool.true_xor Bool.xor_true ↓wD ↓wI ↓xE ↓sr ↓wa ↓wc ↓xq ↓wW ↓xA ↓vN ↓rk ↓q_c ↓JL ↓q_B ↓Gm ↓Bn ↓Bo ↓zQ ↓ES ↓xw ↓zR ↓xu ↓Jk ↓vq ↓pj ↓yQ ↓zi ↓wU ↓yF ↓yM ↓yu ↓BR ↓Bx ↓tm ↓wZ ↓xg ↓sg ↓tK ↓tG ↓vW ↓sF ↓qk ↓Bh ↓Bj ↓AY ↓n6 ↓xC ↓HI ↓tL ↓xk ↓vB ↓BC ↓Fm ↓xB ↓Bt ↓BQ ↓mH ↓xr ↓qO ↓wG ↓wK ↓EW ↓BK ↓vG ↓tW ↓yW ↓xH ↓Ez ↓qW ↓AN ↓By ↓Bm ↓xn ↓xo ↓oG ↓rh ↓oH ↓pd EM xi vY BG BJ BS Option.bind_none Option.bind_some Option.join_some List.getElem?_cons_zero List.getElem?_cons_succ aS EI Ae zz zW Ee mU qA tO u7 ya List.map List.append List.replicate List.length_cons List.length_nil Nat.reduceAdd Nat.reduceSub List.nil_append List.cons_append List.set_cons_zero List.set_cons_succ Option.map_some Bool.not_true Bool.not_false Bool.false_eq_true Bool.true_eq_false Bool.xor_false Bool.false_xor"
noncomputable def jW : DTS :=
  (aG (aP (Dj (dC (.int 10)) (dC (.int 64))) (aj 1))
  (aG (aP (Bi ao) (aj 2))
  (aG (aP (dCB mP (ae (af 0) ao)) (aj 3))
  (aG (tD (dB (dOp rGe (af 3) (af 1))) cO)
  (aG (A6 (Ja (af 2) (dCB g0 (ae (af 3) ao))))
  (aG (A6 (D8 (af 2)))
  (bJ (dOp aI (dIf (dB (dOp rLt (af 0) (dC (.int 0)))) (dC (.str "-")) (dC (.str ""))) (wu (dC (.str "")) (af 2))))))))))
noncomputable def fI : DTS :=
  (aG (bH (dB (dOp (bt false) (af 0) (dC (.int 1)))) (bJ (dC (.str "r"))) aY)
  (aG (bH (dB (dOp (bt false) (af 0) (iA (dC (.int 1))))) (bJ (dC (.str "-r"))) aY)
  (bJ (dOp aI (ay gK (ae (af 0) ao)) (dC (.str "r"))))))
noncomputable def jg : DTS :=
  (aG (aP (af 0) (eR 3 (aU (aj 1) (aU (aj 2) (aU (aj 3) fP)))))
  (aG (bH (dB (dOp (bt false) (af 2) (dC (.int 0)))) (aP (ay gK (ae (af 1) ao)) (aj 4)) (bH (dB (dOp (bt false) (af 1) (dC (.int 0)))) (aP (ay eT (ae (af 2) ao)) (aj 4)) (aG (aP (dOp aI (dOp aI (ay gK (ae (af 1) ao)) (dIf (dB (dOp rGt (af 2) (dC (.int 0)))) (dC (.str "+")) (dC (.str "")))) (ay eT (ae (af 2) ao))) (aj 4))
  (aP (dIf (dB (dOp (bt false) (af 3) (dC (.int 1)))) (af 4) (dJS (djC (dC (.str "(")) (djC (dFv (af 4)) (djC (dC (.str ")")) djN))))) (aj 4)))))
  (bJ (dIf (dB (dOp (bt false) (af 3) (dC (.int 1)))) (af 4) (dJS (djC (dFv (af 4)) (djC (dC (.str "/")) (djC (dFv (ay gK (ae (af 3) ao))) djN))))))))
noncomputable def jT : DTS :=
  (aG (bH (dB (dOp (bt false) (af 0) (dC (.int 1)))) (bJ (dC (.str "r"))) aY)
  (aG (bH (dB (dOp (bt false) (af 0) (iA (dC (.int 1))))) (bJ (dC (.str "-r"))) aY)
  (bJ (dOp aI (dCB g0 (ae (af 0) ao)) (dC (.str "r"))))))
noncomputable def kN : DTS :=
  (aG (aP (af 0) (eR 3 (aU (aj 1) (aU (aj 2) (aU (aj 3) fP)))))
  (aG (aP (dCB g0 (ae (af 1) ao)) (aj 4))
  (aG (bH (kf (dB (dOp (bt true) (af 2) (dC (.int 0)))) (dB (dOp (bt false) (af 1) (dC (.int 0))))) (aP (ay eT (ae (af 2) ao)) (aj 4)) (bH (dB (dOp (bt true) (af 2) (dC (.int 0)))) (aG (aP (dIf (dB (dOp rGt (af 2) (dC (.int 0)))) (dOp aI (dOp aI (dCB g0 (ae (af 1) ao)) (dC (.str "+"))) (ay eT (ae (af 2) ao))) (dOp aI (dCB g0 (ae (af 1) ao)) (ay eT (ae (af 2) ao)))) (aj 4))
  (bH (dB (dOp (bt true) (af 3) (dC (.int 1)))) (aP (dOp aI (dOp aI (dC (.str "(")) (af 4)) (dC (.str ")"))) (aj 4)) aY)) aY))
  (bJ (dIf (dB (dOp (bt false) (af 3) (dC (.int 1)))) (af 4) (dOp aI (dOp aI (af 4) (dC (.str "/"))) (dCB g0 (ae (af 3) ao))))))))
section
variable {μ : Mu} {Qd : DK} {ds : List D}
theorem d5 {i : Int} (h : cf i) : (whl i).length ≤ 41 := by
  have := zO (n := i.natAbs) (k := 39) h
  unfold whl
  split
  · rw [List.length_cons]; omega
  · omega
theorem sW {i : Int} (h : cf i) : (rt i).length ≤ 42 := by
  have := d5 h
  unfold rt
  split
  · decide
  · split
    · decide
    · rw [List.length_append]; simp; omega
theorem mD {i : Int} (h : cf i) : i.natAbs.log2 < 1920 := by
  rcases Nat.eq_zero_or_pos i.natAbs with z | z
  · rw [z]; decide
  · rw [Nat.log2_lt (by omega)]
    exact Nat.lt_trans h (by decide +kernel)
theorem Gy {i : Int} (h : cf i) : ((i.natAbs : Nat) : Int).natAbs.log2 < 1920 := by
  rw [Int.natAbs_natCast]; exact mD h
theorem uE (h : gK ds μ Qd) : jW ‹Qd› (aS ["k", "block", "blocks", "rest"] ds) μ := by
  obtain ⟨k, rfl, hk, q⟩ := h
  unfold jW
  walk_at "rl"
  refine ⟨⟨by decide, by decide, by decide⟩, fun p hp => ?_⟩
  rw [G0]
  refine ⟨fun _ ρ μ' => ρ = [some (.v (.int k)), some (.v (.int (10 ^ Int.toNat 64))), some (.m p), some (.v (.int (k.natAbs : Nat)))] ∧ μ' = aE μ p [], ⟨0, rfl, rfl⟩, fun m ρ μ' ⟨e1, e2⟩ => ?_⟩
  subst e1 e2
  walk_at "rl"
  have hb : ¬ (10 : Int) ^ Int.toNat 64 ≤ (k.natAbs : Nat) := by
    have h1 : k.natAbs < 10 ^ 40 := hk
    have e : (10 : Int) ^ Int.toNat 64 = ((10 ^ 64 : Nat) : Int) := by decide +kernel
    rw [e]
    have : (10 : Nat) ^ 40 < 10 ^ 64 := by decide +kernel
    omega
  rw [decide_eq_false hb, if_neg Bool.false_ne_true]
  refine ⟨Gy hk, ?_⟩
  simp only [bC]
  refine ⟨by decide, ?_⟩
  simp only [bC, List.nil_append]
  have fin : ∀ (u : List Nat) (z : Str) (M : Mu), z = txt u → u ++ dg k.natAbs = whl k → M p = some [.str (txt (dg k.natAbs))] → (∀ b ds, μ b = some ds → M b = some ds) →
      ∃ xs ws, Fo M (.m p) = some xs ∧ jR xs = some ws ∧ pZ (Str.ofString "").length ws ≤ 10000 ∧ (lP (Str.ofString "") ws).length ≤ 10000 ∧ z.length + (lP (Str.ofString "") ws).length ≤ 10000 ∧ Qd (.v (.str (z ++ lP (Str.ofString "") ws))) M := fun u z M hz hu hM hk' => by
    have hl := d5 hk
    rw [← hu, List.length_append] at hl
    refine ⟨_, [txt (dg k.natAbs)], hM, rfl, ?_, ?_, ?_, ?_⟩
    · show 0 + (txt (dg k.natAbs)).length + 0 ≤ 10000
      rw [ax]; omega
    · show (txt (dg k.natAbs)).length ≤ 10000
      rw [ax]; omega
    · show z.length + (txt (dg k.natAbs)).length ≤ 10000
      rw [hz, ax, ax]; omega
    · show Qd (.v (.str (z ++ txt (dg k.natAbs)))) _
      rw [hz, cE, hu]
      exact q _ hk'
  have hM : aE (aE (aE μ p []) p [.str (Str.ofString (toString ((k.natAbs : Nat) : Int)))]) p [PyData.str (Str.ofString (toString ((k.natAbs : Nat) : Int)))].reverse p = some [.str (txt (dg k.natAbs))] := by
    rw [bC, FL]; rfl
  have hk' : ∀ b ds, μ b = some ds → aE (aE (aE μ p []) p [.str (Str.ofString (toString ((k.natAbs : Nat) : Int)))]) p [PyData.str (Str.ofString (toString ((k.natAbs : Nat) : Int)))].reverse b = some ds := fun b ds e => by
    have hb : b ≠ p := fun z => by rw [z, hp] at e; cases e
    rw [cN hb, cN hb, cN hb]; exact e
  by_cases c : k < 0
  · rw [ez (decide_eq_true c)]
    walk_at "rl"
    exact fin [45] _ _ (lit _) (by unfold whl; rw [if_pos c]; rfl) hM hk'
  · rw [dI (by rw [decide_eq_true_eq]; exact c)]
    walk_at "rl"
    exact fin [] _ _ (lit _) (by unfold whl; rw [if_neg c]; rfl) hM hk'
theorem pb (h : eT ds μ Qd) : fI ‹Qd› (aS ["b"] ds) μ := by
  obtain ⟨b, rfl, hb, q⟩ := h
  unfold fI
  walk_at "rl"
  by_cases c1 : b = 1
  · rw [ez (decide_eq_true c1)]
    walk_at "rl"
    have := q μ fun _ _ e => e
    unfold rt at this
    rw [if_pos c1] at this
    exact this
  · rw [dI (by rw [decide_eq_true_eq]; exact c1)]
    walk_at "rl"
    by_cases c2 : b = -1
    · rw [ez (decide_eq_true c2)]
      walk_at "rl"
      have := q μ fun _ _ e => e
      unfold rt at this
      rw [if_neg c1, if_pos c2] at this
      exact this
    · rw [dI (by rw [decide_eq_true_eq]; exact c2)]
      walk_at "rl"
      refine ⟨b, rfl, hb, fun μ' h => ?_⟩
      walk_at "rl"
      have := d5 hb
      refine ⟨by rw [ax]; show _ + 1 ≤ 10000; omega, ?_⟩
      have := q μ' h
      unfold rt at this
      rw [if_neg c1, if_neg c2, ← cE] at this
      exact this
theorem uv (h : eT ds μ Qd) : jT ‹Qd› (aS ["_law_b"] ds) μ := by
  obtain ⟨b, rfl, hb, q⟩ := h
  unfold jT
  walk_at "rl"
  by_cases c1 : b = 1
  · rw [ez (decide_eq_true c1)]
    walk_at "rl"
    have := q μ fun _ _ e => e
    unfold rt at this
    rw [if_pos c1] at this
    exact this
  · rw [dI (by rw [decide_eq_true_eq]; exact c1)]
    walk_at "rl"
    by_cases c2 : b = -1
    · rw [ez (decide_eq_true c2)]
      walk_at "rl"
      have := q μ fun _ _ e => e
      unfold rt at this
      rw [if_neg c1, if_pos c2] at this
      exact this
    · rw [dI (by rw [decide_eq_true_eq]; exact c2)]
      walk_at "rl"
      refine ⟨mD hb, ?_⟩
      have := d5 hb
      rw [tos]
      refine ⟨by rw [ax]; show _ + 1 ≤ 10000; omega, ?_⟩
      have := q μ fun _ _ e => e
      unfold rt at this
      rw [if_neg c1, if_neg c2, ← cE] at this
      exact this
end
open PySem PySem.Spec PyProof.Rows NM
section
variable {μ : Mu} {Qd : DK} {ds : List D}
theorem gY {x : N3} (h : lK x) : (bf x).length ≤ 100 := by
  have h1 := d5 h.1
  have h2 := sW h.2.1
  have hm : (eD x.a x.b).length ≤ 84 := by
    unfold eD
    rw [List.length_append, List.length_append]
    split
    · show _ + 1 + _ ≤ 84; omega
    · show _ + 0 + _ ≤ 84; omega
  unfold bf
  split
  · omega
  · split
    · omega
    · split
      · omega
      · rw [List.length_append, List.length_cons]; show _ + 1 ≤ 100; omega
theorem su {x : N3} (h : lK x) : (bM x).length ≤ 200 := by
  have h1 := gY h
  have h2 := d5 h.2.2
  unfold bM
  split
  · omega
  · rw [List.length_append, List.length_cons]; omega
theorem A1 (z : Str) : Str.empty ++ z = z := by
  show (⟨#[] ++ z.cps⟩ : Str) = z
  rw [Array.empty_append]
theorem aQ {l : List Nat} {n : Nat} (h : l.length ≤ n) : (txt l).length ≤ n := by rw [ax]; exact h
theorem xp {x : N3} {r0 r1 r2 : Option D} (hx : lK x) (q : ∀ μ', (∀ b ds, μ b = some ds → μ' b = some ds) → Qd (.v (.str (txt (bM x)))) μ') {μ1 : Mu} (h1 : ∀ b ds, μ b = some ds → μ1 b = some ds) :
    if decide (x.c = 1) = true then hd (af 4 [r0, r1, r2, some (.v (.int x.c)), some (.v (.str (txt (bf x))))] μ1 Qd) .mk else hd (dJS (djC (dFv (af 4)) (djC (dC (.str "/")) (djC (dFv (ay gK (ae (af 3) ao))) djN))) [r0, r1, r2, some (.v (.int x.c)), some (.v (.str (txt (bf x))))] μ1 Qd) .mk := by
  have l1 := gY hx
  have l2 := d5 hx.2.2
  by_cases c : x.c = 1
  · rw [ez (decide_eq_true c)]
    walk_at "rl"
    have := q μ1 h1
    unfold bM at this
    rw [if_pos c] at this
    exact this
  · rw [dI (by rw [decide_eq_true_eq]; exact c)]
    walk_at "rl"
    rw [A1, lit "/"]
    refine ⟨aQ (by omega), aQ (by omega), by rw [cE]; exact aQ (by rw [List.length_append]; show _ + 1 ≤ 10000; omega), x.c, rfl, hx.2.2, fun μ2 h2 => ?_⟩
    walk_at "rl"
    rw [cE, cE]
    have l3 : (bf x ++ "/".toList.map Char.toNat ++ whl x.c).length ≤ 10000 := by
      rw [List.length_append, List.length_append]; show _ + 1 + _ ≤ 10000; omega
    refine ⟨aQ (by omega), aQ l3, aQ l3, ?_⟩
    have := q μ2 fun b ds e => h2 b ds (h1 b ds e)
    unfold bM at this
    rw [if_neg c] at this
    rw [List.append_assoc]
    exact this
theorem yb {x : N3} {r0 r1 r2 : Option D} (hx : lK x) (q : ∀ μ', (∀ b ds, μ b = some ds → μ' b = some ds) → Qd (.v (.str (txt (bM x)))) μ') {μ1 : Mu} (h1 : ∀ b ds, μ b = some ds → μ1 b = some ds) :
    bJ (dIf (dB (dOp (bt false) (af 3) (dC (.int 1)))) (af 4) (dJS (djC (dFv (af 4)) (djC (dC (.str "/")) (djC (dFv (ay gK (ae (af 3) ao))) djN))))) ‹Qd› [r0, r1, r2, some (.v (.int x.c)), some (.v (.str (txt (bf x))))] μ1 := by
  walk_at "rl"
  exact xp hx q h1
theorem rP (h : gN ds μ Qd) : jg ‹Qd› (aS ["x", "a", "b", "c", "body"] ds) μ := by
  obtain ⟨x, rfl, hx, q⟩ := h
  obtain ⟨ha, hb, hc⟩ := id hx
  have l1 := d5 ha
  have l2 := sW hb
  unfold jg
  walk_at "rl"
  by_cases cb : x.b = 0
  · rw [ez (decide_eq_true cb)]
    walk_at "rl"
    refine ⟨x.a, rfl, ha, fun μ1 h1 => ?_⟩
    have eb : bf x = whl x.a := by unfold bf; rw [if_pos cb]
    rw [← eb]
    have := yb (r0 := some (.v (dN x))) (r1 := some (.v (.int x.a))) (r2 := some (.v (.int x.b))) hx q h1
    exact this
  · rw [dI (by rw [decide_eq_true_eq]; exact cb)]
    walk_at "rl"
    by_cases ca : x.a = 0
    · rw [ez (decide_eq_true ca)]
      walk_at "rl"
      refine ⟨x.b, rfl, hb, fun μ1 h1 => ?_⟩
      have eb : bf x = rt x.b := by unfold bf; rw [if_neg cb, if_pos ca]
      rw [← eb]
      exact yb (r0 := some (.v (dN x))) (r1 := some (.v (.int x.a))) (r2 := some (.v (.int x.b))) hx q h1
    · rw [dI (by rw [decide_eq_true_eq]; exact ca)]
      walk_at "rl"
      refine ⟨x.a, rfl, ha, fun μ1 h1 => ?_⟩
      walk_at "rl"
      have fin : ∀ u : List Nat, (whl x.a ++ u ++ rt x.b) = eD x.a x.b → u.length ≤ 1 → ∀ z : Str, z = txt u → aI (.v (.str (txt (whl x.a)))) (.v (.str z)) μ1 (fun w μ2 => ay eT (ae (af 2) ao) [some (.v (dN x)), some (.v (.int x.a)), some (.v (.int x.b)), some (.v (.int x.c)), none] μ2 fun y μ3 => aI w y μ3 (hd (fun d μ4 => aj 4 d [some (.v (dN x)), some (.v (.int x.a)), some (.v (.int x.b)), some (.v (.int x.c)), none] μ4 fun ρ μ5 => aP (dIf (dB (dOp (bt false) (af 3) (dC (.int 1)))) (af 4) (dJS (djC (dC (.str "(")) (djC (dFv (af 4)) (djC (dC (.str ")")) djN))))) (aj 4) { nx := bJ (dIf (dB (dOp (bt false) (af 3) (dC (.int 1)))) (af 4) (dJS (djC (dFv (af 4)) (djC (dC (.str "/")) (djC (dFv (ay gK (ae (af 3) ao))) djN))))) ‹Qd›, rt := Qd } ρ μ5) .mk)) := fun u hu hl z hz => by
        subst hz
        walk_at "rl"
        refine ⟨by rw [ax, ax]; omega, x.b, rfl, hb, fun μ2 h2 => ?_⟩
        walk_at "rl"
        rw [cE, cE, hu]
        have lm : (eD x.a x.b).length ≤ 84 := by rw [← hu, List.length_append, List.length_append]; omega
        refine ⟨by rw [ax, ax, List.length_append]; omega, ?_⟩
        have h02 : ∀ b ds, μ b = some ds → μ2 b = some ds := fun b ds e => h2 b ds (h1 b ds e)
        by_cases cc : x.c = 1
        · rw [ez (decide_eq_true cc)]
          walk_at "rl"
          have eb : bf x = eD x.a x.b := by unfold bf; rw [if_neg cb, if_neg ca, if_pos cc]
          rw [← eb]
          exact xp (r0 := some (.v (dN x))) (r1 := some (.v (.int x.a))) (r2 := some (.v (.int x.b))) hx q h02
        · rw [dI (by rw [decide_eq_true_eq]; exact cc)]
          walk_at "rl"
          rw [A1, lit "(", lit ")", cE, cE]
          have eb : bf x = "(".toList.map Char.toNat ++ eD x.a x.b ++ ")".toList.map Char.toNat := by unfold bf; rw [if_neg cb, if_neg ca, if_neg cc]; rfl
          rw [← eb]
          have l3 := gY hx
          refine ⟨aQ (by decide), aQ (by omega), aQ (by rw [List.length_append]; show 1 + _ ≤ 10000; omega), aQ (by omega), aQ (by omega), ?_⟩
          exact xp (r0 := some (.v (dN x))) (r1 := some (.v (.int x.a))) (r2 := some (.v (.int x.b))) hx q h02
      by_cases cp : 0 < x.b
      · rw [ez (decide_eq_true cp)]
        exact fin [43] (by unfold eD; rw [if_pos cp]) (by decide) (Str.ofString "+") (lit "+")
      · rw [dI (by rw [decide_eq_true_eq]; exact cp)]
        exact fin [] (by unfold eD; rw [if_neg cp]) (by decide) (Str.ofString "") (lit "")
end
open PySem PySem.Spec PyProof.Rows NM
section
variable {μ : Mu} {Qd : DK} {ds : List D}
theorem Bs {x : N3} (h : lK x) : (eD x.a x.b).length ≤ 84 := by
  have h1 := d5 h.1
  have h2 := sW h.2.1
  unfold eD
  rw [List.length_append, List.length_append]
  split
  · show _ + 1 + _ ≤ 84; omega
  · show _ + 0 + _ ≤ 84; omega
theorem oB {x : N3} {r0 r1 r2 : Option D} (hx : lK x) {μ1 : Mu} (q : Qd (.v (.str (txt (bM x)))) μ1) :
    if decide (x.c = 1) = true then hd (af 4 [r0, r1, r2, some (.v (.int x.c)), some (.v (.str (txt (bf x))))] μ1 Qd) .mk else hd (dOp aI (dOp aI (af 4) (dC (.str "/"))) (dCB g0 (ae (af 3) ao)) [r0, r1, r2, some (.v (.int x.c)), some (.v (.str (txt (bf x))))] μ1 Qd) .mk := by
  have l1 := gY hx
  have l2 := d5 hx.2.2
  by_cases c : x.c = 1
  · rw [ez (decide_eq_true c)]
    walk_at "rl"
    unfold bM at q
    rw [if_pos c] at q
    exact q
  · rw [dI (by rw [decide_eq_true_eq]; exact c)]
    walk_at "rl"
    rw [lit "/", cE, tos, cE]
    refine ⟨by rw [ax, ax]; show _ + 1 ≤ 10000; omega, mD hx.2.2, by rw [ax, ax, List.length_append]; show _ + 1 + _ ≤ 10000; omega, ?_⟩
    unfold bM at q
    rw [if_neg c] at q
    rw [List.append_assoc]
    exact q
theorem vZ (h : gN ds μ Qd) : kN ‹Qd› (aS ["_law_x", "_law_a", "_law_b", "_law_c", "_law_text_here"] ds) μ := by
  obtain ⟨x, rfl, hx, q⟩ := h
  obtain ⟨ha, hb, hc⟩ := id hx
  have l1 := d5 ha
  have l2 := sW hb
  unfold kN
  walk_at "rl"
  rw [tos]
  refine ⟨mD ha, ?_⟩
  have keep : ∀ b ds, μ b = some ds → μ b = some ds := fun _ _ e => e
  by_cases cb : x.b = 0
  · have e1 : (!decide (x.b = 0)) = false := by rw [decide_eq_true cb]; rfl
    rw [e1]
    walk_at "rl"
    rw [e1]
    walk_at "rl"
    have eb : bf x = whl x.a := by unfold bf; rw [if_pos cb]
    rw [← eb]
    exact oB hx (q _ keep)
  · have e1 : (!decide (x.b = 0)) = true := by rw [decide_eq_false cb]; rfl
    rw [e1]
    walk_at "rl"
    by_cases ca : x.a = 0
    · rw [ez (decide_eq_true ca)]
      walk_at "rl"
      refine ⟨x.b, rfl, hb, fun μ1 h1 => ?_⟩
      walk_at "rl"
      have eb : bf x = rt x.b := by unfold bf; rw [if_neg cb, if_pos ca]
      rw [← eb]
      exact oB hx (q _ h1)
    · rw [dI (by rw [decide_eq_true_eq]; exact ca)]
      walk_at "rl"
      rw [e1]
      walk_at "rl"
      have fin : ∀ μ1, (∀ b ds, μ b = some ds → μ1 b = some ds) → aG (bH (dB (dOp (bt true) (af 3) (dC (.int 1)))) (aP (dOp aI (dOp aI (dC (.str "(")) (af 4)) (dC (.str ")"))) (aj 4)) aY) (bJ (dIf (dB (dOp (bt false) (af 3) (dC (.int 1)))) (af 4) (dOp aI (dOp aI (af 4) (dC (.str "/"))) (dCB g0 (ae (af 3) ao))))) ‹Qd›
          [some (.v (dN x)), some (.v (.int x.a)), some (.v (.int x.b)), some (.v (.int x.c)), some (.v (.str (txt (eD x.a x.b))))] μ1 := fun μ1 h1 => by
        have l3 : (eD x.a x.b).length ≤ 84 := Bs hx
        walk_at "rl"
        by_cases cc : x.c = 1
        · rw [dI (by rw [decide_eq_true cc]; decide)]
          walk_at "rl"
          have eb : bf x = eD x.a x.b := by unfold bf; rw [if_neg cb, if_neg ca, if_pos cc]
          rw [← eb]
          exact oB hx (q _ h1)
        · rw [ez (by rw [decide_eq_false cc]; rfl)]
          walk_at "rl"
          rw [lit "(", lit ")", cE, cE]
          have eb : bf x = "(".toList.map Char.toNat ++ eD x.a x.b ++ ")".toList.map Char.toNat := by unfold bf; rw [if_neg cb, if_neg ca, if_neg cc]; rfl
          rw [← eb]
          refine ⟨by rw [ax, ax]; show 1 + _ ≤ 10000; omega, by rw [ax, ax, List.length_append]; show 1 + _ + 1 ≤ 10000; omega, ?_⟩
          exact oB hx (q _ h1)
      have l3 : (eD x.a x.b).length ≤ 84 := Bs hx
      by_cases cp : 0 < x.b
      · rw [ez (decide_eq_true cp)]
        walk_at "rl"
        rw [tos, lit "+", cE]
        have em : whl x.a ++ "+".toList.map Char.toNat ++ rt x.b = eD x.a x.b := by unfold eD; rw [if_pos cp]; rfl
        have l4 := congrArg List.length em
        rw [List.length_append] at l4
        refine ⟨mD ha, by rw [ax, ax]; show _ + 1 ≤ 10000; omega, x.b, rfl, hb, fun μ1 h1 => ?_⟩
        rw [Au, rO, cE, em]
        refine ⟨by rw [ax, ax]; omega, ?_⟩
        exact fin μ1 h1
      · rw [dI (by rw [decide_eq_true_eq]; exact cp)]
        walk_at "rl"
        rw [tos]
        have em : whl x.a ++ rt x.b = eD x.a x.b := by unfold eD; rw [if_neg cp, List.append_nil]
        have l4 := congrArg List.length em
        rw [List.length_append] at l4
        refine ⟨mD ha, x.b, rfl, hb, fun μ1 h1 => ?_⟩
        rw [Au, rO, cE, em]
        refine ⟨by rw [ax, ax]; omega, ?_⟩
        exact fin μ1 h1
end
open PySem PySem.Spec PyProof.Rows NM
local macro_rules|`(tactic| walk_at "rl")=>mkW "↓EG ↓Eg ↓CN ↓Ba ↓Dp ↓DD ↓xJ ↓zX ↓Au ↓l_t ↓l_f l_T l_F Jl Il ↓rO ↓EE ↓xb ↓zZ ↓wR ↓EF ↓Jh ↓xF ↓xl ↓Jc ↓H0 ↓HH ↓II ↓vU ↓zD dU mZ pq decide_true decide_false Bool.true_xor Bool.xor_true ↓wD ↓wI ↓xE ↓sr ↓wa ↓wc ↓xq ↓wW ↓xA ↓vN ↓rk ↓q_c ↓JL ↓q_B ↓Gm ↓Bn ↓Bo ↓zQ ↓ES ↓xw ↓zR ↓xu ↓Jk ↓vq ↓pj ↓yQ ↓zi ↓wU ↓yF ↓yM ↓yu ↓BR ↓Bx ↓tm ↓wZ ↓xg ↓sg ↓tK ↓tG ↓vW ↓sF ↓qk ↓Bh ↓Bj ↓AY ↓n6 ↓xC ↓HI ↓tL ↓xk ↓vB ↓BC ↓Fm ↓xB ↓Bt ↓BQ ↓mH ↓xr ↓qO ↓wG ↓wK ↓EW ↓BK ↓vG ↓tW ↓yW ↓xH ↓Ez ↓qW ↓AN ↓By ↓Bm ↓xn ↓xo ↓oG ↓rh ↓oH ↓pd EM xi vY BG BJ BS Option.bind_none Option.bind_some Option.join_some List.getElem?_cons_zero List.getElem?_cons_succ aS EI Ae zz zW Ee mU qA tO u7 ya List.map List.append List.replicate List.length_cons List.length_nil Nat.reduceAdd Nat.reduceSub List.nil_append List.cons_append List.set_cons_zero List.set_cons_succ Option.map_some Bool.not_true Bool.not_false Bool.false_eq_true Bool.true_eq_false Bool.xor_false Bool.false_xor"
noncomputable def RP (t : List Nat) (b : Int) : Prop := (t = [] ∧ b = 1) ∨ (t = [43] ∧ b = 1) ∨ (t = [45] ∧ b = -1) ∨ t = whl b ∨ (0 ≤ b ∧ t = 43 :: dg b.natAbs)
def cX (a b : Int) : List Nat := if b = 0 then whl a else if a = 0 then rt b else eD a b
section
variable {μ : Mu} {Qd : DK} {ds : List D}
theorem yV : Str.ofString "" = txt [] := lit _
theorem JA : Str.ofString "+" = txt [43] := lit _
theorem vP : Str.ofString "-" = txt [45] := lit _
theorem Iq : Str.ofString "r" = txt [114] := lit _
theorem IC : Str.ofString "(" = txt [40] := lit _
theorem HW : Str.ofString ")" = txt [41] := lit _
theorem JE : Str.ofString "/" = txt [47] := lit _
theorem lt_0 : Str.ofString "0" = txt [48] := lit _
theorem g7 {l r : List Nat} {neg : Bool} {μ : Mu} {Q : DK} (hl : Asc l) (hr : Asc r) : bt neg (.v (.str (txt l))) (.v (.str (txt r))) μ Q = Q (.v (.bool (neg ^^ decide (l = r)))) μ := by
  rw [sP, mI]
  exact propext ⟨fun h => h.2.2, fun h => ⟨nB hl, nB hr, h⟩⟩
theorem bw {l : List Nat} (h : l.all (fun c => decide (c < 128)) = true) : Asc l := fun c hc => of_decide_eq_true (List.all_eq_true.mp h c hc)
theorem qa (i : Int) : whl i ≠ [] := by
  unfold whl; split
  · exact List.cons_ne_nil _ _
  · exact Bv _
theorem BO (i : Int) : whl i ≠ [45] := by
  unfold whl; split
  · intro z; exact Bv _ (List.cons.inj z).2
  · intro z
    have := fk i.natAbs 45 (by rw [z]; exact List.mem_singleton.mpr rfl)
    omega
theorem wH (i : Int) : 43 ∉ whl i := by
  unfold whl; split
  · intro z
    rcases List.mem_cons.mp z with w | w
    · cases w
    · have := fk i.natAbs 43 w; omega
  · intro z; have := fk i.natAbs 43 z; omega
theorem o8 (i : Int) : ∀ c ∈ whl i, c = 45 ∨ (48 ≤ c ∧ c ≤ 57) := fun c hc => by
  unfold whl at hc
  split at hc
  · rcases List.mem_cons.mp hc with z | z
    · exact .inl z
    · exact .inr (fk _ c z)
  · exact .inr (fk _ c hc)
theorem rM {c : Nat} {l : List Nat} (hc : c < 128) (h : Asc l) : Asc (c :: l) := fun d hd => by
  rcases List.mem_cons.mp hd with z | z
  · rw [z]; exact hc
  · exact h d z
theorem rg {l r : List Nat} (h : Asc l) (h' : Asc r) : Asc (l ++ r) := fun d hd => by
  rcases List.mem_append.mp hd with z | z
  · exact h d z
  · exact h' d z
def rtm (b : Int) : List Nat := if b = 1 then [] else if b = -1 then [45] else whl b
theorem lr (b : Int) : rt b = rtm b ++ [114] := by
  unfold rt rtm
  split
  · rfl
  · split
    · rfl
    · rfl
theorem EV (b : Int) : RP (rtm b) b := by
  unfold rtm
  split
  · rename_i h1; exact .inl ⟨rfl, h1⟩
  · split
    · rename_i h2; exact .inr (.inr (.inl ⟨rfl, h2⟩))
    · exact .inr (.inr (.inr (.inl rfl)))
theorem Fj {b : Int} (h : 0 < b) : RP (43 :: rtm b) b := by
  unfold rtm
  split
  · rename_i h1; exact .inr (.inl ⟨rfl, h1⟩)
  · split
    · omega
    · refine .inr (.inr (.inr (.inr ⟨by omega, ?_⟩)))
      unfold whl; rw [if_neg (by omega)]
theorem pf (b : Int) : 43 ∉ rtm b := by
  unfold rtm
  split
  · exact List.not_mem_nil
  · split
    · decide
    · exact wH b
theorem rq {b : Int} (h : 0 < b) : 45 ∉ rtm b := by
  unfold rtm
  split
  · exact List.not_mem_nil
  · split
    · omega
    · unfold whl; rw [if_neg (by omega)]
      intro z; have := fk b.natAbs 45 z; omega
theorem qR {b : Int} (h : b < 0) : ∃ r, rtm b = 45 :: r ∧ 45 ∉ r ∧ 43 ∉ r := by
  unfold rtm
  rw [if_neg (by omega)]
  split
  · exact ⟨[], rfl, List.not_mem_nil, List.not_mem_nil⟩
  · unfold whl; rw [if_pos h]
    exact ⟨_, rfl, fun z => by have := fk b.natAbs 45 z; omega, fun z => by have := fk b.natAbs 43 z; omega⟩
theorem pB (l : List Nat) : (l ++ [114]).getLast? = some 114 := by simp
theorem wd {c : Nat} {l : List Nat} (h : c ∉ l) (hc : c ≠ 114) : c ∉ l ++ [114] := fun z => by
  rcases List.mem_append.mp z with w | w
  · exact h w
  · exact hc (List.mem_singleton.mp w)
theorem C3 {i : Int} (h : cf i) : Sz 8800 i := (Sz.of (n := 133) (Nat.lt_trans h (by decide +kernel))).mono (by decide)
theorem gc {a b : Int} : ∀ c ∈ cX a b, c = 43 ∨ c = 45 ∨ (48 ≤ c ∧ c ≤ 57) ∨ c = 114 := by
  have hw : ∀ i : Int, ∀ c ∈ whl i, c = 43 ∨ c = 45 ∨ (48 ≤ c ∧ c ≤ 57) ∨ c = 114 := fun i c hc => by
    rcases o8 i c hc with z | z
    · exact .inr (.inl z)
    · exact .inr (.inr (.inl z))
  have hr : ∀ c ∈ rt b, c = 43 ∨ c = 45 ∨ (48 ≤ c ∧ c ≤ 57) ∨ c = 114 := fun c hc => by
    rw [lr] at hc
    rcases List.mem_append.mp hc with z | z
    · unfold rtm at z
      split at z
      · cases z
      · split at z
        · exact .inr (.inl (List.mem_singleton.mp z))
        · exact hw b c z
    · exact .inr (.inr (.inr (List.mem_singleton.mp z)))
  intro c hc
  unfold cX at hc
  split at hc
  · exact hw a c hc
  · split at hc
    · exact hr c hc
    · unfold eD at hc
      rcases List.mem_append.mp hc with z | z
      · rcases List.mem_append.mp z with z | z
        · exact hw a c z
        · split at z
          · exact .inl (List.mem_singleton.mp z)
          · cases z
      · exact hr c z
theorem eX (x : N3) : bf x = cX x.a x.b ∨ bf x = 40 :: cX x.a x.b ++ [41] := by
  unfold bf cX
  split
  · exact .inl rfl
  · split
    · exact .inl rfl
    · split
      · exact .inl rfl
      · exact .inr rfl
theorem qU (x : N3) : 47 ∉ bf x := by
  rcases eX x with e | e <;> rw [e]
  · intro z; have := gc 47 z; omega
  · intro z
    rcases List.mem_append.mp z with z | z
    · rcases List.mem_cons.mp z with z | z
      · cases z
      · have := gc 47 z; omega
    · cases List.mem_singleton.mp z
theorem wt (a b : Int) : Asc (cX a b) := fun c hc => by have := gc c hc; omega
theorem se (x : N3) : Asc (bf x) := by
  rcases eX x with e | e <;> rw [e]
  · exact wt _ _
  · exact rg (rM (by decide) (wt _ _)) (bw rfl)
theorem lM (x : N3) : Asc (bM x) := by
  unfold bM
  split
  · exact se x
  · exact rg (se x) (rM (by decide) (oW _))
end
open PySem PySem.Spec PyProof.Rows NM
noncomputable def Fig (l : List Nat) : Prop := l ≠ [] ∧ l.length ≤ 40 ∧ NumText.AllDigits l
open Classical in
noncomputable def rW (l : List Nat) : Option Nat := if Fig l then some (NumText.digitsVal l) else none
noncomputable def rS (l : List Nat) : Option Int := if l.head? = some 45 then (rW (l.drop 1)).map (fun n => -((n : Nat) : Int)) else (rW l).map (fun n => ((n : Nat) : Int))
noncomputable def rR (l : List Nat) : Option Int := if l = [] then some 1 else if l = [43] then some 1 else if l = [45] then some (-1) else rS (if l.head? = some 43 then l.drop 1 else l)
def ij (l : List Nat) : Int := max (cH (txt l) (txt [43])) (cH (txt l) (txt [45]))
def uN (l : List Nat) : List Nat := if l.getLast? = some 114 then (if ij l ≤ 0 then [48] else l.take (ij l).toNat) else l
def uS (l : List Nat) : List Nat := if l.getLast? = some 114 then (if ij l ≤ 0 then l.dropLast else l.dropLast.drop (ij l).toNat) else [48]
noncomputable def Tx (l : List Nat) : Prop := Asc l ∧ l.length ≤ 3000
noncomputable def IsS (l : List Nat) (x : N3) : Prop := l = bM x ∧ Ok x ∧ lK x
noncomputable def ur : DSp := fun ds μ Q => ∃ (l : List Nat) (n : Nat), ds = [.v (.str (txt l))] ∧ Tx l ∧ rW l = some n ∧ Q (.v (.int (n : Nat))) μ
noncomputable def yA : DSp := fun ds μ Q => ∃ (l : List Nat) (i : Int), ds = [.v (.str (txt l))] ∧ Tx l ∧ rS l = some i ∧ Q (.v (.int i)) μ
noncomputable def B8 : DSp := fun ds μ Q => ∃ (l : List Nat) (i : Int), ds = [.v (.str (txt l))] ∧ Tx l ∧ rR l = some i ∧ Q (.v (.int i)) μ
noncomputable def qp : DSp := fun ds μ Q => ∃ l : List Nat, ds = [.v (.str (txt l))] ∧ Tx l ∧ Q (.v (.tuple [.str (txt (uN l)), .str (txt (uS l))])) μ
noncomputable def lJ : DSp := fun ds μ Q => ∃ (l : List Nat) (x : N3), ds = [.v (.str (txt l))] ∧ IsS l x ∧ ∀ μ', (∀ b ds, μ b = some ds → μ' b = some ds) → Q (.v (dN x)) μ'
noncomputable def uY : XSp := fun ds μ Xk => ∃ l : List Nat, ds = [.v (.str (txt l))] ∧ Tx l ∧ rW l = none ∧ Xk μ
noncomputable def ym : XSp := fun ds μ Xk => ∃ l : List Nat, ds = [.v (.str (txt l))] ∧ Tx l ∧ rS l = none ∧ Xk μ
noncomputable def BN : XSp := fun ds μ Xk => ∃ l : List Nat, ds = [.v (.str (txt l))] ∧ Tx l ∧ rR l = none ∧ Xk μ
noncomputable def j8 : XSp := fun ds μ Xk => ((∃ d : PyData, ds = [.v d] ∧ isT "str" d = false) ∨ (∃ l : List Nat, ds = [.v (.str (txt l))] ∧ Tx l ∧ ∀ x, ¬ IsS l x)) ∧ ∀ μ', (∀ b ds, μ b = some ds → μ' b = some ds) → Xk μ'
theorem D0 {μ : Mu} {Q : DK} {ds : List D} (h : ur ds μ Q) : ds.length = 1 := by obtain ⟨_, _, rfl, _⟩ := h; rfl
theorem DN {μ : Mu} {Q : DK} {ds : List D} (h : yA ds μ Q) : ds.length = 1 := by obtain ⟨_, _, rfl, _⟩ := h; rfl
theorem E9 {μ : Mu} {Q : DK} {ds : List D} (h : B8 ds μ Q) : ds.length = 1 := by obtain ⟨_, _, rfl, _⟩ := h; rfl
theorem Cj {μ : Mu} {Q : DK} {ds : List D} (h : qp ds μ Q) : ds.length = 1 := by obtain ⟨_, rfl, _⟩ := h; rfl
theorem xa {μ : Mu} {Q : DK} {ds : List D} (h : lJ ds μ Q) : ds.length = 1 := by obtain ⟨_, _, rfl, _⟩ := h; rfl
noncomputable def jK : DTS :=
  (aG (bH (mM (dB (dOp (bt false) (af 0) (dC (.str "")))) (mM (dB (dOp rGt (dCB jf (ae (af 0) ao)) (dC (.int 40)))) (fA (dB (dCB mY (ae (sN [none] (u3 (af 0)) (aj 0) oQ (dOp (rD false) (af 0) (dC (.str "0123456789")))) ao)))))) cO aY)
  (bJ (dCB sZ (ae (af 0) ao))))
noncomputable def iW : DTS :=
  (bJ (dIf (dB (dSM dU (af 0) (dC (.str "-")))) (iA (ay ur (ae (eB (af 0) (bB (dC (.int 1))) bE) ao))) (ay ur (ae (af 0) ao))))
noncomputable def fQ : DTS :=
  (aG (bH (mM (dB (dOp (bt false) (af 0) (dC (.str "")))) (dB (dOp (bt false) (af 0) (dC (.str "+"))))) (bJ (dC (.int 1))) aY)
  (aG (bH (dB (dOp (bt false) (af 0) (dC (.str "-")))) (bJ (iA (dC (.int 1)))) aY)
  (bJ (ay yA (ae (dIf (dB (dSM dU (af 0) (dC (.str "+")))) (eB (af 0) (bB (dC (.int 1))) bE) (af 0)) ao)))))
noncomputable def dG : DTX :=
  (xIf (mM (dB (dOp (bt false) (af 0) (dC (.str "")))) (mM (dB (dOp rGt (dCB jf (ae (af 0) ao)) (dC (.int 40)))) (fA (dB (dCB mY (ae (sN [none] (u3 (af 0)) (aj 0) oQ (dOp (rD false) (af 0) (dC (.str "0123456789")))) ao)))))) (fun _ μ Xk => Xk μ) sq)
noncomputable def cZ : DTX :=
  (xIf (dB (dSM dU (af 0) (dC (.str "-")))) (lS uY (ae (eB (af 0) (bB (dC (.int 1))) bE) ao)) (lS uY (ae (af 0) ao)))
noncomputable def cx : DTX :=
  (dY (bH (mM (dB (dOp (bt false) (af 0) (dC (.str "")))) (dB (dOp (bt false) (af 0) (dC (.str "+"))))) (bJ (dC (.int 1))) aY)
  (dY (bH (dB (dOp (bt false) (af 0) (dC (.str "-")))) (bJ (iA (dC (.int 1)))) aY)
  (lS ym (ae (dIf (dB (dSM dU (af 0) (dC (.str "+")))) (eB (af 0) (bB (dC (.int 1))) bE) (af 0)) ao))))
noncomputable def kD : DTS :=
  (aG (bH (fA (dB (dSM mZ (af 0) (dC (.str "r"))))) (bJ (dO (ae (af 0) (ae (dC (.str "0")) ao)))) aY)
  (aG (aP (dCB (xD max) (ae (dSM pq (af 0) (dC (.str "+"))) (ae (dSM pq (af 0) (dC (.str "-"))) ao))) (aj 1))
  (aG (bH (dB (dOp rLe (af 1) (dC (.int 0)))) (bJ (dO (ae (dC (.str "0")) (ae (eB (af 0) bE (bB (iA (dC (.int 1))))) ao)))) aY)
  (bJ (dO (ae (eB (af 0) bE (bB (af 1))) (ae (eB (af 0) (bB (af 1)) (bB (iA (dC (.int 1))))) ao)))))))
section
variable {μ : Mu} {Qd : DK} {Xk : Mu → Prop} {ds : List D}
theorem Bb (c : Nat) : inS ⟨#[c]⟩ (Str.ofString "0123456789") = decide (48 ≤ c ∧ c ≤ 57) := by
  rw [lit, show (⟨#[c]⟩ : Str) = txt [c] from rfl, ED]
  by_cases h : 48 ≤ c ∧ c ≤ 57
  · rw [decide_eq_true h]
    have : c = 48 ∨ c = 49 ∨ c = 50 ∨ c = 51 ∨ c = 52 ∨ c = 53 ∨ c = 54 ∨ c = 55 ∨ c = 56 ∨ c = 57 := by omega
    rcases this with rfl | rfl | rfl | rfl | rfl | rfl | rfl | rfl | rfl | rfl <;> decide
  · rw [decide_eq_false h]
    refine decide_eq_false fun z => h ?_
    have e : ("0123456789".toList.map Char.toNat) = [48, 49, 50, 51, 52, 53, 54, 55, 56, 57] := by decide +kernel
    rw [e] at z
    simp only [List.mem_cons, List.not_mem_nil, or_false] at z
    omega
def Ce (d : PyData) : Bool := match d with | .str z => inS z (Str.ofString "0123456789") | _ => false
theorem zh (l : List Nat) : ((eG (txt l)).map Ce).all id = true ↔ NumText.AllDigits l := by
  unfold eG
  rw [bN, List.map_map, List.all_map, List.all_eq_true]
  constructor
  · intro h c hc
    have := h c hc
    simp only [Function.comp_apply, id_eq, Ce, Bb, decide_eq_true_eq] at this
    exact this
  · intro h c hc
    simp only [Function.comp_apply, id_eq, Ce, Bb, decide_eq_true_eq]
    exact h c hc
theorem BM (g : PyData → Bool) (xs : List PyData) : (xs.filterMap fun x => some (PyData.bool (g x))) = xs.map fun x => PyData.bool (g x) := by
  induction xs with
  | nil => rfl
  | cons a r ih => rw [List.filterMap_cons, ih]; rfl
noncomputable def yE : DTT := mM (dB (dOp (bt false) (af 0) (dC (.str "")))) (mM (dB (dOp rGt (dCB jf (ae (af 0) ao)) (dC (.int 40)))) (fA (dB (dCB mY (ae (sN [none] (u3 (af 0)) (aj 0) oQ (dOp (rD false) (af 0) (dC (.str "0123456789")))) ao)))))
theorem cW {l : List Nat} {K : Bool → Mu → Prop} (h : Tx l) (k1 : Fig l → K false μ) (k2 : ¬ Fig l → K true μ) : yE [some (.v (.str (txt l)))] μ K := by
  have h2 := h.2
  unfold yE
  walk_at "rl"
  rw [yV, g7 h.1 (bw rfl)]
  by_cases c0 : l = []
  · rw [decide_eq_true c0]
    walk_at "rl"
    exact k2 fun f => f.1 c0
  · rw [decide_eq_false c0]
    walk_at "rl"
    refine ⟨aQ (by omega), ?_⟩
    rw [ax]
    by_cases c1 : 40 < l.length
    · rw [ez (decide_eq_true (by omega))]
      exact k2 fun f => by have := f.2.1; omega
    · rw [dI (by rw [decide_eq_true_eq]; omega)]
      walk_at "rl"
      rw [Av]
      walk_at "rl"
      have el : (eG (txt l)).length = l.length := by unfold eG; rw [List.length_map, bN]
      refine ⟨by rw [el]; omega, fun d => some (.bool (Ce d)), fun x hx μ' _ => ⟨trivial, ?_⟩, ?_⟩
      · obtain ⟨c, hc, rfl⟩ := List.mem_map.mp hx
        walk_at "rl"
        exact ⟨trivial, rfl⟩
      · rw [BM, ju Ce]
        dsimp only
        by_cases c2 : NumText.AllDigits l
        · rw [(zh l).mpr c2]
          exact k1 ⟨c0, by omega, c2⟩
        · rw [show (((eG (txt l)).map Ce).all id) = false from Bool.eq_false_iff.mpr fun z => c2 ((zh l).mp z)]
          exact k2 fun f => c2 f.2.2
theorem A8 {l : List Nat} {n : Nat} (h : rW l = some n) : Fig l ∧ n = NumText.digitsVal l := by
  unfold rW at h
  split at h
  · rename_i f; exact ⟨f, (Option.some.inj h).symm⟩
  · cases h
theorem GQ {l : List Nat} (h : rW l = none) : ¬ Fig l := fun f => by unfold rW at h; rw [if_pos f] at h; cases h
theorem uO (h : ur ds μ Qd) : jK ‹Qd› (aS ["text"] ds) μ := by
  obtain ⟨l, n, rfl, ht, hn, q⟩ := h
  obtain ⟨f, rfl⟩ := A8 hn
  unfold jK
  show aG (bH yE cO aY) _ _ [some (.v (.str (txt l)))] μ
  rw [tW]
  show yE _ _ _
  refine cW ht (fun _ => ?_) fun g => absurd f g
  rw [if_neg (by decide)]
  walk_at "rl"
  have := f.2.1
  exact ⟨_, Er f.2.2 f.1 (by omega), aQ (by omega), q⟩
theorem lu (h : uY ds μ Xk) : dG (aS ["text"] ds) μ Xk := by
  obtain ⟨l, rfl, ht, hn, q⟩ := h
  unfold dG
  rw [vx]
  show yE [some (.v (.str (txt l)))] _ _
  refine cW ht (fun f => absurd f (GQ hn)) fun _ => ?_
  rw [if_pos rfl]
  exact q
theorem Tx.drop {l : List Nat} (h : Tx l) (k : Nat) : Tx (l.drop k) := ⟨fun c hc => h.1 c (List.mem_of_mem_drop hc), by rw [List.length_drop]; have := h.2; omega⟩
theorem Tx.take {l : List Nat} (h : Tx l) (k : Nat) : Tx (l.take k) := ⟨fun c hc => h.1 c (List.mem_of_mem_take hc), by rw [List.length_take]; have := h.2; omega⟩
theorem Tx.init {l : List Nat} (h : Tx l) : Tx l.dropLast := by rw [List.dropLast_eq_take]; exact h.take _
theorem len_pos {l : List Nat} {c : Nat} (h : l.head? = some c) : 1 ≤ l.length := by cases l with | nil => cases h | cons _ _ => rw [List.length_cons]; omega
theorem rG (h : yA ds μ Qd) : iW ‹Qd› (aS ["text"] ds) μ := by
  obtain ⟨l, i, rfl, ht, hi, q⟩ := h
  have h2 := ht.2
  unfold rS at hi
  unfold iW
  walk_at "rl"
  rw [vP, gw]
  by_cases c : l.head? = some 45
  · rw [if_pos c] at hi
    rw [ez (decide_eq_true c)]
    obtain ⟨n, hn, rfl⟩ := Option.map_eq_some_iff.mp hi
    walk_at "rl"
    refine ⟨aQ (by omega), l.drop 1, n, ?_, ht.drop 1, hn, ?_⟩
    · rw [mr ⟨by decide, by have := len_pos c; omega⟩]; rfl
    · walk_at "rl"
      exact q
  · rw [if_neg c] at hi
    rw [dI (by rw [decide_eq_true_eq]; exact c)]
    obtain ⟨n, hn, rfl⟩ := Option.map_eq_some_iff.mp hi
    walk_at "rl"
    exact ⟨l, n, rfl, ht, hn, q⟩
theorem kY (h : ym ds μ Xk) : cZ (aS ["text"] ds) μ Xk := by
  obtain ⟨l, rfl, ht, hi, q⟩ := h
  have h2 := ht.2
  unfold rS at hi
  unfold cZ
  rw [vx]
  walk_at "rl"
  rw [vP, gw]
  by_cases c : l.head? = some 45
  · rw [if_pos c] at hi
    rw [if_pos (decide_eq_true c), iE]
    walk_at "rl"
    refine ⟨aQ (by omega), l.drop 1, ?_, ht.drop 1, Option.map_eq_none_iff.mp hi, q⟩
    rw [mr ⟨by decide, by have := len_pos c; omega⟩]; rfl
  · rw [if_neg c] at hi
    rw [if_neg (by rw [decide_eq_true_eq]; exact c), iE]
    walk_at "rl"
    exact ⟨l, rfl, ht, Option.map_eq_none_iff.mp hi, q⟩
theorem oZ (h : B8 ds μ Qd) : fQ ‹Qd› (aS ["text"] ds) μ := by
  obtain ⟨l, i, rfl, ht, hi, q⟩ := h
  have h2 := ht.2
  unfold rR at hi
  unfold fQ
  walk_at "rl"
  rw [yV, g7 ht.1 (bw rfl)]
  by_cases c0 : l = []
  · rw [if_pos c0] at hi
    rw [decide_eq_true c0]
    walk_at "rl"
    rw [Option.some.inj hi]
    exact q
  · rw [if_neg c0] at hi
    rw [decide_eq_false c0]
    walk_at "rl"
    rw [JA, g7 ht.1 (bw rfl)]
    by_cases c1 : l = [43]
    · rw [if_pos c1] at hi
      rw [decide_eq_true c1]
      walk_at "rl"
      rw [Option.some.inj hi]
      exact q
    · rw [if_neg c1] at hi
      rw [decide_eq_false c1]
      walk_at "rl"
      rw [vP, g7 ht.1 (bw rfl)]
      by_cases c2 : l = [45]
      · rw [if_pos c2] at hi
        rw [decide_eq_true c2]
        walk_at "rl"
        rw [Option.some.inj hi]
        exact q
      · rw [if_neg c2] at hi
        rw [decide_eq_false c2]
        walk_at "rl"
        rw [gw]
        by_cases c3 : l.head? = some 43
        · rw [if_pos c3] at hi
          rw [ez (decide_eq_true c3)]
          walk_at "rl"
          refine ⟨aQ (by omega), l.drop 1, i, ?_, ht.drop 1, hi, q⟩
          rw [mr ⟨by decide, by have := len_pos c3; omega⟩]; rfl
        · rw [if_neg c3] at hi
          rw [dI (by rw [decide_eq_true_eq]; exact c3)]
          walk_at "rl"
          exact ⟨l, i, rfl, ht, hi, q⟩
theorem jm (h : BN ds μ Xk) : cx (aS ["text"] ds) μ Xk := by
  obtain ⟨l, rfl, ht, hi, q⟩ := h
  have h2 := ht.2
  unfold rR at hi
  by_cases c0 : l = []
  · rw [if_pos c0] at hi; cases hi
  rw [if_neg c0] at hi
  by_cases c1 : l = [43]
  · rw [if_pos c1] at hi; cases hi
  rw [if_neg c1] at hi
  by_cases c2 : l = [45]
  · rw [if_pos c2] at hi; cases hi
  rw [if_neg c2] at hi
  unfold cx
  rw [kB]
  walk_at "rl"
  rw [yV, g7 ht.1 (bw rfl), decide_eq_false c0]
  walk_at "rl"
  rw [JA, g7 ht.1 (bw rfl), decide_eq_false c1]
  walk_at "rl"
  rw [kB]
  walk_at "rl"
  rw [vP, g7 ht.1 (bw rfl), decide_eq_false c2]
  walk_at "rl"
  rw [iE]
  walk_at "rl"
  rw [gw]
  by_cases c3 : l.head? = some 43
  · rw [if_pos c3] at hi
    rw [ez (decide_eq_true c3)]
    walk_at "rl"
    refine ⟨aQ (by omega), l.drop 1, ?_, ht.drop 1, hi, q⟩
    rw [mr ⟨by decide, by have := len_pos c3; omega⟩]; rfl
  · rw [if_neg c3] at hi
    rw [dI (by rw [decide_eq_true_eq]; exact c3)]
    walk_at "rl"
    exact ⟨l, rfl, ht, hi, q⟩
end
open PySem PySem.Spec PyProof.Rows NM
section
variable {μ : Mu} {Qd : DK} {Xk : Mu → Prop} {ds : List D}
theorem yK {c : Nat} : ∀ {l : List Nat}, c ∈ l → ∃ u v, l = u ++ c :: v ∧ c ∉ v
  | [], h => nomatch h
  | a :: r, h => by
    by_cases hr : c ∈ r
    · obtain ⟨u, v, e, n⟩ := yK hr
      exact ⟨a :: u, v, by rw [e]; rfl, n⟩
    · rcases List.mem_cons.mp h with z | z
      · exact ⟨[], r, by rw [z]; rfl, hr⟩
      · exact absurd z hr
theorem qd {c : Nat} : ∀ {l : List Nat}, c ∈ l → ∃ u v, l = u ++ c :: v ∧ c ∉ u
  | [], h => nomatch h
  | a :: r, h => by
    by_cases ha : c = a
    · exact ⟨[], r, by rw [ha]; rfl, List.not_mem_nil⟩
    · rcases List.mem_cons.mp h with z | z
      · exact absurd z ha
      · obtain ⟨u, v, e, n⟩ := qd z
        refine ⟨a :: u, v, by rw [e]; rfl, fun w => ?_⟩
        rcases List.mem_cons.mp w with w | w
        · exact ha w
        · exact n w
theorem C6 (l : List Nat) (c : Nat) : (c ∉ l ∧ cH (txt l) (txt [c]) = -1) ∨ ∃ u v, l = u ++ c :: v ∧ c ∉ v ∧ cH (txt l) (txt [c]) = (u.length : Nat) := by
  by_cases h : c ∈ l
  · obtain ⟨u, v, e, n⟩ := yK h
    exact .inr ⟨u, v, e, n, by rw [e]; exact iV n⟩
  · exact .inl ⟨h, i8 h⟩
theorem Ha {l : List Nat} {c : Nat} (h : l.getLast? = some 114) (hc : c ≠ 114) : cH (txt l) (txt [c]) + 1 < (l.length : Nat) := by
  rcases C6 l c with ⟨_, e⟩ | ⟨u, v, e, n, e2⟩
  · rw [e]
    have : 0 < l.length := by cases l with | nil => cases h | cons _ _ => rw [List.length_cons]; omega
    omega
  · rw [e2]
    cases v with
    | nil => rw [e] at h; simp at h; exact absurd h hc
    | cons b v => rw [e]; simp; omega
theorem D5 {l : List Nat} (h : l.getLast? = some 114) : ij l + 1 < (l.length : Nat) := by
  have h1 := Ha h (show (43 : Nat) ≠ 114 by decide)
  have h2 := Ha h (show (45 : Nat) ≠ 114 by decide)
  unfold ij
  omega
theorem Gd {l : List Nat} (h : 1 ≤ l.length) : Txt.slice (txt l) none (some (-1)) = txt l.dropLast := by
  rw [zJ (by decide) (by rw [ax]; omega), ax, AW (by omega), List.dropLast_eq_take]
  congr 2
  omega
theorem mB {l : List Nat} {i : Int} (h : 0 ≤ i) (h' : i + 1 ≤ (l.length : Nat)) : Txt.slice (txt l) (some i) (some (-1)) = txt (l.dropLast.drop i.toNat) := by
  rw [zJ (by decide) (by rw [ax]; omega), ax, E7 (by omega), List.dropLast_eq_take, List.drop_take]
  congr 2
  omega
theorem xy (h : qp ds μ Qd) : kD ‹Qd› (aS ["body", "at"] ds) μ := by
  obtain ⟨l, rfl, ht, q⟩ := h
  have h2 := ht.2
  unfold kD
  walk_at "rl"
  rw [Iq, rJ]
  unfold uN uS at q
  by_cases c : l.getLast? = some 114
  · have hl := D5 c
    rw [if_pos c, if_pos c] at q
    rw [decide_eq_true c]
    walk_at "rl"
    rw [JA, vP]
    change ij l + 1 < _ at hl
    by_cases c1 : ij l ≤ 0
    · rw [if_pos c1, if_pos c1] at q
      have c1' : max (cH (txt l) (txt [43])) (cH (txt l) (txt [45])) ≤ 0 := c1
      rw [ez (decide_eq_true c1')]
      have l1 : 1 ≤ l.length := by cases l with | nil => cases c | cons _ _ => rw [List.length_cons]; omega
      walk_at "rl"
      refine ⟨aQ (by omega), ?_⟩
      rw [Gd l1, lt_0]
      exact q
    · rw [if_neg c1, if_neg c1] at q
      have c1' : ¬ max (cH (txt l) (txt [43])) (cH (txt l) (txt [45])) ≤ 0 := c1
      rw [dI (by rw [decide_eq_true_eq]; exact c1')]
      walk_at "rl"
      refine ⟨aQ (by omega), aQ (by omega), ?_⟩
      have e1 : Txt.slice (txt l) none (some (max (cH (txt l) (txt [43])) (cH (txt l) (txt [45])))) = txt (l.take (ij l).toNat) := AW (j := ij l) (by omega)
      have e2 : Txt.slice (txt l) (some (max (cH (txt l) (txt [43])) (cH (txt l) (txt [45])))) (some (-1)) = txt (l.dropLast.drop (ij l).toNat) := mB (i := ij l) (by omega) (by omega)
      rw [e1, e2]
      exact q
  · rw [if_neg c, if_neg c] at q
    rw [decide_eq_false c]
    walk_at "rl"
    rw [lt_0]
    exact q
theorem zB {n : Nat} (h : n < 10 ^ 40) : Fig (dg n) := ⟨Bv n, zO (k := 39) h, fk n⟩
theorem Dh {n : Nat} (h : n < 10 ^ 40) : rW (dg n) = some n := by unfold rW; rw [if_pos (zB h), zv]
theorem Ax {i : Int} (h : cf i) : rS (whl i) = some i := by
  unfold rS
  by_cases c : i < 0
  · have ew : whl i = 45 :: dg i.natAbs := by unfold whl; rw [if_pos c]
    rw [ew, if_pos (show (45 :: dg i.natAbs).head? = some 45 from rfl)]
    show (rW (dg i.natAbs)).map _ = _
    rw [Dh h]
    show some (-((i.natAbs : Nat) : Int)) = some i
    congr 1
    omega
  · have ew : whl i = dg i.natAbs := by unfold whl; rw [if_neg c]
    have hh : (whl i).head? ≠ some 45 := fun z => by
      rw [ew] at z
      have := fk i.natAbs 45 (List.mem_of_mem_head? (by rw [z]; rfl))
      omega
    rw [if_neg hh, ew, Dh h]
    show some ((i.natAbs : Nat) : Int) = some i
    congr 1
    omega
theorem J1 {t : List Nat} {b : Int} (h : RP t b) (hb : cf b) : rR t = some b := by
  unfold rR
  rcases h with ⟨rfl, rfl⟩ | ⟨rfl, rfl⟩ | ⟨rfl, rfl⟩ | rfl | ⟨h0, rfl⟩
  · rfl
  · rfl
  · rfl
  · have hp := wH b
    rw [if_neg (qa b), if_neg (fun z => hp (by rw [z]; exact List.mem_singleton.mpr rfl)), if_neg (BO b), if_neg (fun z => hp (List.mem_of_mem_head? (by rw [z]; rfl)))]
    exact Ax hb
  · have ew : whl b = dg b.natAbs := by unfold whl; rw [if_neg (by omega)]
    rw [if_neg (List.cons_ne_nil _ _), if_neg (fun z => Bv _ (List.cons.inj z).2), if_neg (fun z => by cases z), if_pos (show (43 :: dg b.natAbs).head? = some 43 from rfl)]
    show rS (dg b.natAbs) = _
    rw [← ew]
    exact Ax hb
theorem JZ : whl 0 = [48] := by decide +kernel
theorem GH (a b : Int) : uN (cX a b) = whl a ∧ RP (uS (cX a b)) b := by
  by_cases cb : b = 0
  · have es : cX a b = whl a := by unfold cX; rw [if_pos cb]
    rw [es]
    have hl : (whl a).getLast? ≠ some 114 := fun z => by
      have := o8 a 114 (List.mem_of_mem_getLast? (by rw [z]; rfl))
      omega
    unfold uN uS
    rw [if_neg hl, if_neg hl, cb]
    exact ⟨rfl, .inr (.inr (.inr (.inl JZ.symm)))⟩
  · by_cases ca : a = 0
    · have es : cX a b = rtm b ++ [114] := by unfold cX; rw [if_neg cb, if_pos ca, lr]
      rw [es]
      have hm : ij (rtm b ++ [114]) ≤ 0 := by
        unfold ij
        rw [i8 (wd (pf b) (by decide))]
        rcases Int.lt_or_lt_of_ne cb with z | z
        · obtain ⟨r, e, n1, n2⟩ := qR z
          rw [e]
          have := iV (u := []) (wd n1 (by decide))
          rw [show 45 :: r ++ [114] = [] ++ 45 :: (r ++ [114]) from rfl, this]
          decide
        · rw [i8 (wd (rq z) (by decide))]; decide
      unfold uN uS
      rw [if_pos (pB _), if_pos (pB _), if_pos hm, if_pos hm, ca, List.dropLast_concat]
      exact ⟨JZ.symm, EV b⟩
    · obtain ⟨s, es, hs, hm⟩ : ∃ s, eD a b = whl a ++ s ++ [114] ∧ RP s b ∧ ij (whl a ++ s ++ [114]) = ((whl a).length : Nat) := by
        have la : 1 ≤ (whl a).length := List.length_pos_iff.mpr (qa a)
        unfold ij
        rcases Int.lt_or_lt_of_ne cb with z | z
        · obtain ⟨r, e, n1, n2⟩ := qR z
          refine ⟨rtm b, by unfold eD; rw [if_neg (by omega), lr, List.append_nil, List.append_assoc], EV b, ?_⟩
          rw [i8 (c := 43) (wd (fun w => by
            rcases List.mem_append.mp w with w | w
            · exact wH a w
            · exact pf b w) (by decide))]
          rw [e, List.append_assoc, show 45 :: r ++ [114] = 45 :: (r ++ [114]) from rfl, iV (wd n1 (by decide))]
          omega
        · refine ⟨43 :: rtm b, by unfold eD; rw [if_pos z, lr]; simp, Fj z, ?_⟩
          have e1 : cH (txt (whl a ++ 43 :: rtm b ++ [114])) (txt [43]) = ((whl a).length : Nat) := by
            rw [List.append_assoc, show 43 :: rtm b ++ [114] = 43 :: (rtm b ++ [114]) from rfl, iV (wd (pf b) (by decide))]
          have n45 : 45 ∉ 43 :: rtm b ++ [114] := wd (fun w => by
            rcases List.mem_cons.mp w with w | w
            · cases w
            · exact rq z w) (by decide)
          have e2 : cH (txt (whl a ++ 43 :: rtm b ++ [114])) (txt [45]) ≤ 0 := by
            rw [List.append_assoc]
            by_cases an : a < 0
            · have ew : whl a = 45 :: dg a.natAbs := by unfold whl; rw [if_pos an]
              rw [ew]
              have := iV (u := []) (v := dg a.natAbs ++ (43 :: rtm b ++ [114])) (c := 45) (fun w => by
                rcases List.mem_append.mp w with w | w
                · have := fk a.natAbs 45 w; omega
                · exact n45 w)
              rw [show 45 :: dg a.natAbs ++ (43 :: rtm b ++ [114]) = [] ++ 45 :: (dg a.natAbs ++ (43 :: rtm b ++ [114])) from rfl, this]
              decide
            · have ew : whl a = dg a.natAbs := by unfold whl; rw [if_neg an]
              rw [i8 (fun w => by
                rcases List.mem_append.mp w with w | w
                · rw [ew] at w; have := fk a.natAbs 45 w; omega
                · exact n45 w)]
              decide
          rw [e1]
          omega
      have es' : cX a b = whl a ++ s ++ [114] := by unfold cX; rw [if_neg cb, if_neg ca]; exact es
      have la : 1 ≤ (whl a).length := List.length_pos_iff.mpr (qa a)
      rw [es']
      unfold uN uS
      rw [if_pos (pB _), if_pos (pB _), hm, if_neg (by omega), if_neg (by omega), List.dropLast_concat, Int.toNat_natCast, List.append_assoc, List.take_left' rfl, List.drop_left' rfl]
      exact ⟨rfl, hs⟩
end
open PySem PySem.Spec PyProof.Rows NM
noncomputable def i7 : DTS :=
  (aG (bH (fA (dB (qH "str" (af 0)))) cO aY)
  (aG (aP (l5 (af 0) (dC (.str "/"))) (eR 3 (aU (aj 1) (aU (aj 2) (aU (aj 3) fP)))))
  (aG (aP (dIf (qy (af 2)) (ay ur (ae (af 3) ao)) (dC (.int 1))) (aj 4))
  (aG (bH (dB (dOp (bt false) (af 4) (dC (.int 0)))) cO aY)
  (aG (bH (kf (dB (dSM dU (af 1) (dC (.str "(")))) (dB (dSM mZ (af 1) (dC (.str ")"))))) (aP (eB (af 1) (bB (dC (.int 1))) (bB (iA (dC (.int 1))))) (aj 1)) aY)
  (aG (aP (ay qp (ae (af 1) ao)) (eR 2 (aU (aj 5) (aU (aj 6) fP))))
  (aG (aP (ay fo (ae (ay yA (ae (af 5) ao)) (ae (ay B8 (ae (af 6) ao)) (ae (af 4) ao)))) (aj 7))
  (aG (bH (dB (dOp (bt true) (ay gN (ae (af 7) ao)) (af 0))) cO aY)
  (bJ (af 7))))))))))
noncomputable def cU : DTX :=
  (xOr (xIf (fA (dB (qH "str" (af 0)))) (fun _ μ Xk => Xk μ) sq)
  (xOr (dY (bH (fA (dB (qH "str" (af 0)))) cO aY)
  (dY (aP (l5 (af 0) (dC (.str "/"))) (eR 3 (aU (aj 1) (aU (aj 2) (aU (aj 3) fP)))))
  (xIf (qy (af 2)) (lS uY (ae (af 3) ao)) xNo)))
  (xOr (dY (bH (fA (dB (qH "str" (af 0)))) cO aY)
  (dY (aP (l5 (af 0) (dC (.str "/"))) (eR 3 (aU (aj 1) (aU (aj 2) (aU (aj 3) fP)))))
  (dY (aP (dIf (qy (af 2)) (ay ur (ae (af 3) ao)) (dC (.int 1))) (aj 4))
  (xIf (dB (dOp (bt false) (af 4) (dC (.int 0)))) (fun _ μ Xk => Xk μ) sq))))
  (xOr (dY (bH (fA (dB (qH "str" (af 0)))) cO aY)
  (dY (aP (l5 (af 0) (dC (.str "/"))) (eR 3 (aU (aj 1) (aU (aj 2) (aU (aj 3) fP)))))
  (dY (aP (dIf (qy (af 2)) (ay ur (ae (af 3) ao)) (dC (.int 1))) (aj 4))
  (dY (bH (dB (dOp (bt false) (af 4) (dC (.int 0)))) cO aY)
  (dY (bH (kf (dB (dSM dU (af 1) (dC (.str "(")))) (dB (dSM mZ (af 1) (dC (.str ")"))))) (aP (eB (af 1) (bB (dC (.int 1))) (bB (iA (dC (.int 1))))) (aj 1)) aY)
  (dY (aP (ay qp (ae (af 1) ao)) (eR 2 (aU (aj 5) (aU (aj 6) fP))))
  (xOr (lS ym (ae (af 5) ao)) (C4 (ay yA (ae (af 5) ao)) (lS BN (ae (af 6) ao))))))))))
  (dY (bH (fA (dB (qH "str" (af 0)))) cO aY)
  (dY (aP (l5 (af 0) (dC (.str "/"))) (eR 3 (aU (aj 1) (aU (aj 2) (aU (aj 3) fP)))))
  (dY (aP (dIf (qy (af 2)) (ay ur (ae (af 3) ao)) (dC (.int 1))) (aj 4))
  (dY (bH (dB (dOp (bt false) (af 4) (dC (.int 0)))) cO aY)
  (dY (bH (kf (dB (dSM dU (af 1) (dC (.str "(")))) (dB (dSM mZ (af 1) (dC (.str ")"))))) (aP (eB (af 1) (bB (dC (.int 1))) (bB (iA (dC (.int 1))))) (aj 1)) aY)
  (dY (aP (ay qp (ae (af 1) ao)) (eR 2 (aU (aj 5) (aU (aj 6) fP))))
  (dY (aP (ay fo (ae (ay yA (ae (af 5) ao)) (ae (ay B8 (ae (af 6) ao)) (ae (af 4) ao)))) (aj 7))
  (xIf (dB (dOp (bt true) (ay gN (ae (af 7) ao)) (af 0))) (fun _ μ Xk => Xk μ) sq))))))))))))
section
variable {μ : Mu} {Qd : DK} {Xk : Mu → Prop} {ds : List D}
theorem FF {x : N3} (h : lK x) : Tx (bM x) := ⟨lM x, by have := su h; omega⟩
theorem Ac {i : Int} (h : cf i) : Tx (whl i) := ⟨oW i, by have := d5 h; omega⟩
theorem KS {x : N3} (h : lK x) : Tx (bf x) := ⟨se x, by have := gY h; omega⟩
theorem Jy {x : N3} (h : lK x) : Tx (cX x.a x.b) := ⟨wt _ _, by
  have hb := gY h
  rcases eX x with e | e
  · rw [← e]; omega
  · rw [e] at hb; simp at hb; omega⟩
theorem Kc {t : List Nat} {b : Int} (h : RP t b) (hb : cf b) : Tx t := by
  rcases h with ⟨rfl, _⟩ | ⟨rfl, _⟩ | ⟨rfl, _⟩ | rfl | ⟨_, rfl⟩
  · exact ⟨bw rfl, by decide⟩
  · exact ⟨bw rfl, by decide⟩
  · exact ⟨bw rfl, by decide⟩
  · exact Ac hb
  · have := zO (n := b.natAbs) (k := 39) hb
    exact ⟨rM (by decide) (zE _), by rw [List.length_cons]; omega⟩
noncomputable def Jj : DTS := (aG (aP (ay qp (ae (af 1) ao)) (eR 2 (aU (aj 5) (aU (aj 6) fP))))
    (aG (aP (ay fo (ae (ay yA (ae (af 5) ao)) (ae (ay B8 (ae (af 6) ao)) (ae (af 4) ao)))) (aj 7))
    (aG (bH (dB (dOp (bt true) (ay gN (ae (af 7) ao)) (af 0))) cO aY)
    (bJ (af 7)))))
theorem u0 {x : N3} {r1 r2 r3 r5 r6 r7 : Option D} (ox : Ok x) (hx : lK x) (q : ∀ μ', (∀ b ds, μ b = some ds → μ' b = some ds) → Qd (.v (dN x)) μ') :
    Jj ‹Qd› [some (.v (.str (txt (bM x)))), some (.v (.str (txt (cX x.a x.b)))), r2, r3, some (.v (.int x.c)), r5, r6, r7] μ := by
  have hc := ox.c
  obtain ⟨s1, s2⟩ := GH x.a x.b
  unfold Jj
  walk_at "rl"
  refine ⟨cX x.a x.b, rfl, Jy hx, ?_⟩
  rw [s1]
  walk_at "rl"
  refine ⟨trivial, whl x.a, x.a, rfl, Ac hx.1, Ax hx.1, ?_⟩
  walk_at "rl"
  refine ⟨_, x.b, rfl, Kc s2 hx.2.1, J1 s2 hx.2.1, ?_⟩
  walk_at "rl"
  refine ⟨x.a, x.b, x.c, rfl, by omega, C3 hx.2.2, ?_⟩
  rw [ox.low]
  walk_at "rl"
  refine ⟨x, rfl, hx, fun μ1 h1 => ?_⟩
  walk_at "rl"
  rw [g7 (lM x) (lM x), decide_eq_true rfl]
  walk_at "rl"
  exact q μ1 h1
theorem yB {x : N3} {r2 r3 r5 r6 r7 : Option D} (ox : Ok x) (hx : lK x) (q : ∀ μ', (∀ b ds, μ b = some ds → μ' b = some ds) → Qd (.v (dN x)) μ') :
    aG (bH (dB (dOp (bt false) (af 4) (dC (.int 0)))) cO aY) (aG (bH (kf (dB (dSM dU (af 1) (dC (.str "(")))) (dB (dSM mZ (af 1) (dC (.str ")"))))) (aP (eB (af 1) (bB (dC (.int 1))) (bB (iA (dC (.int 1))))) (aj 1)) aY) Jj) ‹Qd› [some (.v (.str (txt (bM x)))), some (.v (.str (txt (bf x)))), r2, r3, some (.v (.int x.c)), r5, r6, r7] μ := by
  have hc := ox.c
  have lb := gY hx
  walk_at "rl"
  rw [dI (by rw [decide_eq_true_eq]; omega)]
  walk_at "rl"
  rw [IC, gw]
  rcases eX x with e | e
  · rw [e]
    have hh : (cX x.a x.b).head? ≠ some 40 := fun z => by
      have := gc 40 (List.mem_of_mem_head? (by rw [z]; rfl)); omega
    rw [decide_eq_false hh]
    walk_at "rl"
    exact u0 (r1 := none) ox hx q
  · have h1 : (bf x).head? = some 40 := by rw [e]; rfl
    have h2 : (bf x).getLast? = some 41 := by rw [e, List.getLast?_append]; rfl
    rw [decide_eq_true h1]
    walk_at "rl"
    rw [HW, rJ, decide_eq_true h2]
    walk_at "rl"
    refine ⟨aQ (by omega), ?_⟩
    have el : (bf x).length = (cX x.a x.b).length + 2 := by rw [e]; simp
    have es : Txt.slice (txt (bf x)) (some 1) (some (-1)) = txt (cX x.a x.b) := by
      rw [zJ (by decide) (by rw [ax]; omega), ax, E7 (by omega)]
      congr 1
      have en : (-1 + (((bf x).length : Nat) : Int) - 1).toNat = (cX x.a x.b).length := by omega
      rw [en, e]
      show List.take _ (cX x.a x.b ++ [41]) = _
      rw [List.take_left' rfl]
    rw [es]
    exact u0 (r1 := none) ox hx q
theorem isStr (z : Str) : isT "str" (.str z) = true := rfl
theorem tN (h : lJ ds μ Qd) : i7 ‹Qd› (aS ["text", "body", "slash", "below", "c", "plain", "beside_root", "found"] ds) μ := by
  obtain ⟨l, x, rfl, ⟨rfl, ox, hx⟩, q⟩ := h
  have hc := ox.c
  have ls := su hx
  have lb := gY hx
  unfold i7
  walk_at "rl"
  rw [isStr]
  walk_at "rl"
  rw [JE]
  refine ⟨rfl, aQ (by omega), ?_⟩
  by_cases c1 : x.c = 1
  · have es : bM x = bf x := by unfold bM; rw [if_pos c1]
    have ep : lX (txt (bM x)) (txt [47]) = [.str (txt (bf x)), .str Str.empty, .str Str.empty] := by rw [es, vg (qU x)]
    rw [ep]
    refine ⟨rfl, ?_⟩
    walk_at "rl"
    refine ⟨by decide, ?_⟩
    rw [show (((Str.empty.length : Nat) : Int) != 0) = false from rfl, l_f]
    have := yB (r2 := some (.v (.str Str.empty))) (r3 := some (.v (.str Str.empty))) (r5 := none) (r6 := none) (r7 := none) ox hx q
    rw [c1] at this
    exact this
  · have es : bM x = bf x ++ 47 :: whl x.c := by unfold bM; rw [if_neg c1]
    have ep : lX (txt (bM x)) (txt [47]) = [.str (txt (bf x)), .str (txt [47]), .str (txt (whl x.c))] := by rw [es, u4 (qU x)]
    rw [ep]
    refine ⟨rfl, ?_⟩
    walk_at "rl"
    refine ⟨by decide, ?_⟩
    rw [show ((((txt [47]).length : Nat) : Int) != 0) = true from rfl]
    walk_at "rl"
    have ew : whl x.c = dg x.c.natAbs := by unfold whl; rw [if_neg (by omega)]
    refine ⟨whl x.c, x.c.natAbs, rfl, Ac hx.2.2, by rw [ew]; exact Dh hx.2.2, ?_⟩
    rw [show ((x.c.natAbs : Nat) : Int) = x.c by omega]
    have := yB (r2 := some (.v (.str (txt [47])))) (r3 := some (.v (.str (txt (whl x.c))))) (r5 := none) (r6 := none) (r7 := none) ox hx q
    exact this
theorem E4 : ∀ (l : List Nat) (k : Nat), NumText.AllDigits l → l.foldl (fun acc c => acc * 10 + (c - 48)) k < (k + 1) * 10 ^ l.length
  | [], k, _ => by simp
  | c :: r, k, h => by
    have h1 := h c List.mem_cons_self
    have ih := E4 r (k * 10 + (c - 48)) fun x hx => h x (List.mem_cons_of_mem _ hx)
    rw [List.foldl_cons, List.length_cons, Nat.pow_succ]
    refine Nat.lt_of_lt_of_le ih ?_
    rw [Nat.mul_comm (10 ^ r.length) 10, ← Nat.mul_assoc]
    exact Nat.mul_le_mul_right _ (by omega)
theorem xN {l : List Nat} (h : Fig l) : NumText.digitsVal l < 10 ^ 40 := by
  have h1 := E4 l 0 h.2.2
  rw [Nat.zero_add, Nat.one_mul] at h1
  exact Nat.lt_of_lt_of_le h1 (Nat.pow_le_pow_right (by decide) h.2.1)
theorem EU {l : List Nat} {n : Nat} (h : rW l = some n) : n < 10 ^ 40 := by
  obtain ⟨f, rfl⟩ := A8 h
  exact xN f
theorem EB {l : List Nat} {i : Int} (h : rS l = some i) : cf i := by
  unfold rS at h
  split at h
  · obtain ⟨n, hn, rfl⟩ := Option.map_eq_some_iff.mp h
    have := EU hn
    unfold cf; omega
  · obtain ⟨n, hn, rfl⟩ := Option.map_eq_some_iff.mp h
    have := EU hn
    unfold cf; omega
theorem HL {l : List Nat} {i : Int} (h : rR l = some i) : cf i := by
  unfold rR at h
  split at h
  · cases h; unfold cf; decide +kernel
  · split at h
    · cases h; unfold cf; decide +kernel
    · split at h
      · cases h; unfold cf; decide +kernel
      · exact EB h
def strip (b : List Nat) : List Nat := if b.head? = some 40 ∧ b.getLast? = some 41 then b.dropLast.drop 1 else b
theorem Tx.strip {b : List Nat} (h : Tx b) : Tx (strip b) := by
  unfold DL.strip
  split
  · exact h.init.drop 1
  · exact h
theorem Tx.spl {b : List Nat} (h : Tx b) : Tx (uN b) ∧ Tx (uS b) := by
  unfold uN uS
  constructor
  · split
    · split
      · exact ⟨bw rfl, by decide⟩
      · exact h.take _
    · exact h
  · split
    · split
      · exact h.init
      · exact h.init.drop _
    · exact ⟨bw rfl, by decide⟩
noncomputable def S0 : DTS := bH (fA (dB (qH "str" (af 0)))) cO aY
noncomputable def S1 : DTS := aP (l5 (af 0) (dC (.str "/"))) (eR 3 (aU (aj 1) (aU (aj 2) (aU (aj 3) fP))))
noncomputable def S2 : DTS := aP (dIf (qy (af 2)) (ay ur (ae (af 3) ao)) (dC (.int 1))) (aj 4)
noncomputable def S3 : DTS := bH (dB (dOp (bt false) (af 4) (dC (.int 0)))) cO aY
noncomputable def S4 : DTS := bH (kf (dB (dSM dU (af 1) (dC (.str "(")))) (dB (dSM mZ (af 1) (dC (.str ")"))))) (aP (eB (af 1) (bB (dC (.int 1))) (bB (iA (dC (.int 1))))) (aj 1)) aY
noncomputable def S5 : DTS := aP (ay qp (ae (af 1) ao)) (eR 2 (aU (aj 5) (aU (aj 6) fP)))
inductive Cut (l : List Nat) : List Nat → List Nat → List Nat → Prop
  | no : 47 ∉ l → Cut l l [] []
  | at (u v : List Nat) : l = u ++ 47 :: v → 47 ∉ u → Cut l u [47] v
theorem HE (l : List Nat) : ∃ u s v, Cut l u s v := by
  by_cases h : 47 ∈ l
  · obtain ⟨u, v, e, n⟩ := qd h
    exact ⟨u, _, v, .at u v e n⟩
  · exact ⟨l, _, _, .no h⟩
theorem Cut.tx {l u s v : List Nat} (h : Cut l u s v) (t : Tx l) : Tx u ∧ Tx v := by
  cases h with
  | no n => exact ⟨t, bw rfl, by decide⟩
  | «at» _ _ e n =>
    have t2 := t.2
    rw [e] at t2
    simp at t2
    exact ⟨⟨fun c hc => t.1 c (by rw [e]; exact List.mem_append_left _ hc), by omega⟩, ⟨fun c hc => t.1 c (by rw [e]; exact List.mem_append_right _ (List.mem_cons_of_mem _ hc)), by omega⟩⟩
theorem x01 {l u s v : List Nat} {tx : DTX} (t : Tx l) (h : Cut l u s v) (k : tx [some (.v (.str (txt l))), some (.v (.str (txt u))), some (.v (.str (txt s))), some (.v (.str (txt v))), none, none, none, none] μ Xk) :
    dY S0 (dY S1 tx) [some (.v (.str (txt l))), none, none, none, none, none, none, none] μ Xk := by
  have t2 := t.2
  unfold S0 S1
  rw [kB]
  walk_at "rl"
  rw [isStr]
  walk_at "rl"
  rw [kB]
  walk_at "rl"
  rw [JE]
  refine ⟨rfl, aQ (by omega), ?_⟩
  have ep : lX (txt l) (txt [47]) = [.str (txt u), .str (txt s), .str (txt v)] := by
    cases h with
    | no n => rw [vg n]; rfl
    | «at» _ _ e n => rw [e, u4 n]
  rw [ep]
  refine ⟨rfl, ?_⟩
  walk_at "rl"
  exact k
noncomputable def Und (s v : List Nat) (c : Nat) : Prop := (s = [] ∧ c = 1) ∨ (s = [47] ∧ rW v = some c)
theorem x02 {l u s v : List Nat} {c : Nat} {tx : DTX} (t : Tx l) (h : Cut l u s v) (hc : Und s v c) (k : tx [some (.v (.str (txt l))), some (.v (.str (txt u))), some (.v (.str (txt s))), some (.v (.str (txt v))), some (.v (.int (c : Nat))), none, none, none] μ Xk) :
    dY S0 (dY S1 (dY S2 tx)) [some (.v (.str (txt l))), none, none, none, none, none, none, none] μ Xk := by
  refine x01 t h ?_
  unfold S2
  rw [kB]
  walk_at "rl"
  rcases hc with ⟨rfl, rfl⟩ | ⟨rfl, hw⟩
  · refine ⟨by decide, ?_⟩
    rw [show ((((txt []).length : Nat) : Int) != 0) = false from rfl, l_f]
    exact k
  · refine ⟨by decide, ?_⟩
    rw [show ((((txt [47]).length : Nat) : Int) != 0) = true from rfl]
    walk_at "rl"
    exact ⟨v, c, rfl, (h.tx t).2, hw, k⟩
theorem x05 {l u s v : List Nat} {c : Nat} {tx : DTX} (t : Tx l) (h : Cut l u s v) (hc : Und s v c) (h0 : c ≠ 0)
    (k : tx [some (.v (.str (txt l))), some (.v (.str (txt (strip u)))), some (.v (.str (txt s))), some (.v (.str (txt v))), some (.v (.int (c : Nat))), some (.v (.str (txt (uN (strip u))))), some (.v (.str (txt (uS (strip u))))), none] μ Xk) :
    dY S0 (dY S1 (dY S2 (dY S3 (dY S4 (dY S5 tx))))) [some (.v (.str (txt l))), none, none, none, none, none, none, none] μ Xk := by
  refine x02 t h hc ?_
  have tu := (h.tx t).1
  have tu2 := tu.2
  have fin : dY S5 tx [some (.v (.str (txt l))), some (.v (.str (txt (strip u)))), some (.v (.str (txt s))), some (.v (.str (txt v))), some (.v (.int (c : Nat))), none, none, none] μ Xk := by
    unfold S5
    rw [kB]
    walk_at "rl"
    refine ⟨strip u, rfl, tu.strip, ?_⟩
    walk_at "rl"
    exact ⟨trivial, k⟩
  unfold S3 S4
  rw [kB]
  walk_at "rl"
  rw [dI (by rw [decide_eq_true_eq]; omega)]
  walk_at "rl"
  rw [kB]
  walk_at "rl"
  rw [IC, gw]
  by_cases c1 : u.head? = some 40
  · rw [decide_eq_true c1]
    walk_at "rl"
    rw [HW, rJ]
    by_cases c2 : u.getLast? = some 41
    · have es : strip u = u.dropLast.drop 1 := by unfold DL.strip; rw [if_pos ⟨c1, c2⟩]
      rw [es] at fin
      rw [decide_eq_true c2]
      walk_at "rl"
      refine ⟨aQ (by omega), ?_⟩
      have l2 : 2 ≤ u.length := by
        match u, c1, c2 with
        | [], c1, _ => cases c1
        | [a], c1, c2 => cases c1; cases c2
        | a :: b :: r, _, _ => simp
      rw [mB (i := 1) (by decide) (by omega)]
      exact fin
    · have es : strip u = u := by unfold DL.strip; rw [if_neg (fun z => c2 z.2)]
      rw [es] at fin
      rw [decide_eq_false c2]
      walk_at "rl"
      exact fin
  · have es : strip u = u := by unfold DL.strip; rw [if_neg (fun z => c1 z.1)]
    rw [es] at fin
    rw [decide_eq_false c1]
    walk_at "rl"
    exact fin
theorem kz (h : j8 ds μ Xk) : cU (aS ["text", "body", "slash", "below", "c", "plain", "beside_root", "found"] ds) μ Xk := by
  obtain ⟨h, q⟩ := h
  have q0 := q μ fun _ _ e => e
  unfold cU
  rcases h with ⟨d, rfl, hd⟩ | ⟨l, rfl, t, hx⟩
  · rw [sf]
    refine .inl ?_
    rw [vx]
    walk_at "rl"
    rw [hd, Bool.not_false, if_pos rfl]
    exact q0
  · rw [sf]
    refine .inr ?_
    rw [sf, sf, sf]
    show _ ∨ _ ∨ _ ∨ _
    obtain ⟨u, s, v, hcut⟩ := HE l
    have hU : (rW v = none ∧ s = [47]) ∨ ∃ c, Und s v c ∧ (c < 10 ^ 40) := by
      cases hcut with
      | no n => exact .inr ⟨1, .inl ⟨rfl, rfl⟩, by decide +kernel⟩
      | «at» _ _ e n =>
        cases hw : rW v with
        | none => exact .inl ⟨rfl, rfl⟩
        | some c => exact .inr ⟨c, .inr ⟨rfl, hw⟩, EU hw⟩
    rcases hU with ⟨hw, rfl⟩ | ⟨c, hc, hlt⟩
    · refine .inl (x01 t hcut ?_)
      rw [vx]
      walk_at "rl"
      refine ⟨by decide, ?_⟩
      rw [show ((((txt [47]).length : Nat) : Int) != 0) = true from rfl, if_pos rfl, iE]
      walk_at "rl"
      exact ⟨v, rfl, (hcut.tx t).2, hw, q0⟩
    by_cases h0 : c = 0
    · refine .inr (.inl (x02 t hcut hc ?_))
      rw [vx]
      walk_at "rl"
      rw [if_pos (decide_eq_true (by omega))]
      exact q0
    have tu := (hcut.tx t).1.strip
    cases ha : rS (uN (strip u)) with
    | none =>
      refine .inr (.inr (.inl (x05 t hcut hc h0 ?_)))
      rw [sf]
      refine .inl ?_
      rw [iE]
      walk_at "rl"
      exact ⟨_, rfl, tu.spl.1, ha, q0⟩
    | some a =>
      cases hb : rR (uS (strip u)) with
      | none =>
        refine .inr (.inr (.inl (x05 t hcut hc h0 ?_)))
        rw [sf]
        refine .inr ?_
        rw [Gq]
        walk_at "rl"
        refine ⟨_, a, rfl, tu.spl.1, ha, ?_⟩
        rw [Au, iE]
        walk_at "rl"
        exact ⟨_, rfl, tu.spl.2, hb, q0⟩
      | some b =>
        refine .inr (.inr (.inr (x05 t hcut hc h0 ?_)))
        have c0 : ((c : Nat) : Int) ≠ 0 := by omega
        have ha2 := EB ha
        have hb2 := HL hb
        have hc2 : cf ((c : Nat) : Int) := by unfold cf; omega
        obtain ⟨n1, n2, n3⟩ := Dr a b c0
        have bx : lK (low a b c) := ⟨Nat.lt_of_le_of_lt n1 ha2, Nat.lt_of_le_of_lt n2 hb2, Nat.lt_of_le_of_lt n3 hc2⟩
        have ok := Df a b c0
        rw [kB]
        walk_at "rl"
        refine ⟨_, a, rfl, tu.spl.1, ha, ?_⟩
        walk_at "rl"
        refine ⟨_, b, rfl, tu.spl.2, hb, ?_⟩
        walk_at "rl"
        refine ⟨a, b, (c : Nat), rfl, c0, C3 hc2, ?_⟩
        walk_at "rl"
        rw [vx]
        walk_at "rl"
        refine ⟨low a b c, rfl, bx, fun μ1 h1 => ?_⟩
        walk_at "rl"
        rw [g7 (lM _) t.1, decide_eq_false (fun e => hx _ ⟨e.symm, ok, bx⟩)]
        rw [Au]
        dsimp only
        rw [if_pos (show (true ^^ false) = true from rfl)]
        exact q μ1 h1
end
open PySem PySem.Spec PyProof.Rows NM
def oI (o : Option Int) : PyData := match o with | some i => .int i | none => .none
def oN (o : Option N3) : PyData := match o with | some x => dN x | none => .none
noncomputable def WT (l : List Nat) (v : Int) : Prop := l = whl v ∧ cf v
noncomputable def Al : DSp := fun ds μ Q => ∃ l : List Nat, ds = [.v (.str (txt l))] ∧ Tx l ∧ ∀ o : Option Int, (∀ v, o = some v ↔ WT l v) → Q (.v (oI o)) μ
noncomputable def xc : DSp := fun ds μ Q => ∃ l : List Nat, ds = [.v (.str (txt l))] ∧ Tx l ∧ ∀ oa ob : Option Int, (∀ a, oa = some a → cf a) → (∀ b, ob = some b → cf b) → (∀ a b, cf a → cf b → l = cX a b → oa = some a ∧ ob = some b) → Q (.v (.tuple [oI oa, oI ob])) μ
noncomputable def qX : DSp := fun ds μ Q => ∃ l : List Nat, ds = [.v (.str (txt l))] ∧ Tx l ∧ ∀ (o : Option N3) (μ' : Mu), (∀ x, o = some x ↔ IsS l x) → (∀ b ds, μ b = some ds → μ' b = some ds) → Q (.v (oN o)) μ'
noncomputable def nS : DSp := fun ds μ Q => ∃ l : List Nat, ds = [.v (.str (txt l))] ∧ Tx l ∧ ∀ μ', (∀ b ds, μ b = some ds → μ' b = some ds) → Q (.v (.bool true)) μ'
noncomputable def o9 : DSp := fun ds μ Q => ds = [] ∧ Q (.v (.str " !#$&'()*+,-./0123456789:;<=>?@ABCDEFGHIJKLMNOPQRSTUVWXYZ[]^_`abcdefghijklmnopqrstuvwxyz{|}~\"\\")) μ
noncomputable def rm : DSp := fun ds μ Q => ∃ (a : Addr) (l f : List Nat), ds = [.m a, .v (.str (txt l)), .v (.str (txt f))] ∧ Bag μ a ∧ Asc f ∧ 1 ≤ f.length ∧ f.length ≤ 1000 ∧ Asc l ∧ l.length ≤ 1400 ∧ ∀ l' μ', Asc l' → l'.length ≤ 2 * l.length + 1 → Step a μ μ' → Q (.v (.str (txt l'))) μ'
noncomputable def lp (a : Addr) (μ μ' : Mu) : Prop := Bag μ' a ∧ ∀ b, b ≠ a → ∀ ds, μ b = some ds → μ' b = some ds
theorem lp.trans {a : Addr} {μ μ1 μ2 : Mu} (h : lp a μ μ1) (g : lp a μ1 μ2) : lp a μ μ2 := ⟨g.1, fun b n ds e => g.2 b n ds (h.2 b n ds e)⟩
theorem Step.w {a : Addr} {μ μ' : Mu} (h : Step a μ μ') : lp a μ μ' := ⟨h.1, fun b n ds e => by rw [h.2 b n]; exact e⟩
theorem lp.of {a : Addr} {μ μ' : Mu} (hb : Bag μ a) (h : ∀ b ds, μ b = some ds → μ' b = some ds) : lp a μ μ' := ⟨by obtain ⟨g, m, e, z⟩ := hb; exact ⟨g, m, h _ _ e, z⟩, fun b _ ds e => h b ds e⟩
noncomputable def oA : DSp := fun ds μ Q => ∃ (a : Addr) (x : N3), ds = [.m a, .v (dN x)] ∧ Bag μ a ∧ Bd 20 x ∧ ∀ l' μ', Tx l' → lp a μ μ' → Q (.v (.str (txt l'))) μ'
theorem Dx {μ : Mu} {Q : DK} {ds : List D} (h : Al ds μ Q) : ds.length = 1 := by obtain ⟨_, rfl, _⟩ := h; rfl
theorem zF {μ : Mu} {Q : DK} {ds : List D} (h : xc ds μ Q) : ds.length = 1 := by obtain ⟨_, rfl, _⟩ := h; rfl
theorem xO {μ : Mu} {Q : DK} {ds : List D} (h : qX ds μ Q) : ds.length = 1 := by obtain ⟨_, rfl, _⟩ := h; rfl
theorem vH {μ : Mu} {Q : DK} {ds : List D} (h : nS ds μ Q) : ds.length = 1 := by obtain ⟨_, rfl, _⟩ := h; rfl
theorem ze {μ : Mu} {Q : DK} {ds : List D} (h : o9 ds μ Q) : ds.length = 0 := by obtain ⟨rfl, _⟩ := h; rfl
theorem yv {μ : Mu} {Q : DK} {ds : List D} (h : rm ds μ Q) : ds.length = 3 := by obtain ⟨_, _, _, rfl, _⟩ := h; rfl
theorem vE {μ : Mu} {Q : DK} {ds : List D} (h : oA ds μ Q) : ds.length = 2 := by obtain ⟨_, _, rfl, _⟩ := h; rfl
noncomputable def ib : DTS :=
  (aG (bH (mM (fA (dB (AL rLe rLe (dC (.int 1)) (dCB jf (ae (af 1) ao)) (dC (.int 40))))) (fA (dB (dCB mY (ae (sN [none] (u3 (af 1)) (aj 0) oQ (dOp (zI false) (af 0) (dCB pO (ae (dC (.str "0123456789")) ao)))) ao))))) (bJ (dC .none)) aY)
  (bJ (dIf (dB (dOp (bt false) (dCB g0 (ae (dCB sZ (ae (af 0) ao)) ao)) (af 0))) (dCB sZ (ae (af 0) ao)) (dC .none))))
noncomputable def jJ : DTS :=
  (aG (aP (dIf (dB (dOp (bt false) (eB (af 0) bE (bB (dC (.int 1)))) (dC (.str "-")))) (eB (af 0) (bB (dC (.int 1))) bE) (af 0)) (aj 1))
  (ib))
noncomputable def ja : DTS :=
  (aG (bH (dB (dOp (zI false) (af 4) (je (ae (dC (.str "")) (ae (dC (.str "-")) ao))))) (bJ (dO (ae (af 3) (ae (dOp dh (je (ae (dC (.int 1)) (ae (iA (dC (.int 1))) ao))) (dCB uZ (ae (dOp (bt false) (af 4) (dC (.str "-"))) ao))) ao)))) aY)
  (bJ (dO (ae (af 3) (ae (ay Al (ae (af 4) ao)) ao)))))
noncomputable def i5 : DTS :=
  (aG (aP (dIf (mM (dB (dOp (bt false) (af 1) (dC (.int 0)))) (dB (dOp (bt false) (dOp lY (af 0) (af 1)) (dC (.str "-"))))) (eB (af 0) (bB (af 1)) (bB (iA (dC (.int 1))))) (eB (af 0) (bB (mL (af 1) (dC (.int 1)))) (bB (iA (dC (.int 1)))))) (aj 4))
  (ja))
noncomputable def kE : DTS :=
  (aG (bH (dB (dOp (bt true) (eB (af 0) (bB (iA (dC (.int 1)))) bE) (dC (.str "r")))) (bJ (dO (ae (ay Al (ae (af 0) ao)) (ae (dC (.int 0)) ao)))) aY)
  (aG (aP (dC (.int 0)) (aj 1))
  (aG (Ct (Ap (ae (dC (.int 1)) (ae (dCB jf (ae (af 0) ao)) ao))) (aj 2) (bH (dB (dOp (zI false) (dOp lY (af 0) (af 2)) (dCB pO (ae (dC (.str "+-")) ao)))) (aP (af 2) (aj 1)) aY))
  (aG (aP (dIf (dB (dOp (bt false) (af 1) (dC (.int 0)))) (dC (.int 0)) (ay Al (ae (eB (af 0) bE (bB (af 1))) ao))) (aj 3))
  (i5)))))
noncomputable def eE : DTS :=
  (aG (aP (ay xc (ae (af 1) ao)) (eR 2 (aU (aj 4) (aU (aj 5) fP))))
  (aG (bH (mM (dB (dOp (zI false) (dC .none) (je (ae (af 4) (ae (af 5) (ae (af 2) ao)))))) (fA (dB (ay sQ (ae (dO (ae (af 4) (ae (af 5) (ae (af 2) ao)))) ao))))) (bJ (dC .none)) aY)
  (bJ (dIf (dB (dOp (bt false) (ay gN (ae (dO (ae (af 4) (ae (af 5) (ae (af 2) ao)))) ao)) (af 0))) (dO (ae (af 4) (ae (af 5) (ae (af 2) ao)))) (dC .none)))))
noncomputable def eI : DTS :=
  (aG (bH (kf (dB (dOp rGt (dCB jf (ae (af 1) ao)) (dC (.int 1)))) (kf (dB (dOp (bt false) (dOp lY (af 1) (dC (.int 0))) (dC (.str "(")))) (dB (dOp (bt false) (dOp lY (af 1) (iA (dC (.int 1)))) (dC (.str ")")))))) (aP (eB (af 1) (bB (dC (.int 1))) (bB (iA (dC (.int 1))))) (aj 1)) aY)
  (eE))
noncomputable def fq : DTS :=
  (aG (xj 1 2 (ae (af 0) (ae (dC (.int 1)) ao)))
  (aG (bH (dB (dOp (rD false) (dC (.str "/")) (af 0))) (aG (aP (Dc (af 0) (dC (.str "/"))) (aj 3))
  (xj 1 2 (ae (eB (af 0) bE (bB (af 3))) (ae (ay Al (ae (eB (af 0) (bB (mL (af 3) (dC (.int 1)))) bE) ao)) ao)))) aY)
  (eI)))
noncomputable def jU : DTS :=
  (bJ (dC (.str " !#$&'()*+,-./0123456789:;<=>?@ABCDEFGHIJKLMNOPQRSTUVWXYZ[]^_`abcdefghijklmnopqrstuvwxyz{|}~\"\\")))
noncomputable def eJ : DTS :=
  (aG (aP (je (ae (dOp aI (dOp aI (eB (af 1) bE (bB (af 3))) (af 4)) (eB (af 1) (bB (af 3)) bE)) (ae (dOp aI (eB (af 1) bE (bB (af 3))) (eB (af 1) (bB (mL (af 3) (dC (.int 1)))) bE)) (ae (dOp aI (dOp aI (eB (af 1) bE (bB (af 3))) (af 4)) (eB (af 1) (bB (mL (af 3) (dC (.int 1)))) bE)) ao)))) (aj 6))
  (aG (aP (dOp o3 (af 6) (je (ae (dOp aI (eB (af 1) bE (bB (af 5))) (eB (af 1) (bB (af 3)) bE)) (ae (D6 (af 1)) (ae (dOp aI (eB (af 1) (bB (af 3)) bE) (eB (af 1) bE (bB (af 3)))) ao))))) (aj 6))
  (bJ (dOp dh (af 6) (ay cK (ae (af 0) (ae (dC (.int 6)) ao)))))))
noncomputable def eC : DTS :=
  (aG (aP (dCB (xD min) (ae (dCB jf (ae (af 1) ao)) (ae (mL (mL (af 3) (dC (.int 1))) (ay cK (ae (af 0) (ae (dC (.int 6)) ao)))) ao))) (aj 5))
  (eJ))
noncomputable def fE : DTS :=
  (aG (aP (ay cK (ae (af 0) (ae (mL (dCB jf (ae (af 1) ao)) (dC (.int 1))) ao))) (aj 3))
  (aG (aP (dOp lY (af 2) (ay cK (ae (af 0) (ae (dCB jf (ae (af 2) ao)) ao)))) (aj 4))
  (aG (bH (dB (dOp (bt false) (ay cK (ae (af 0) (ae (dC (.int 4)) ao))) (dC (.int 0)))) (aP (dOp lY (ay o9 ao) (ay cK (ae (af 0) (ae (dCB jf (ae (ay o9 ao) ao)) ao)))) (aj 4)) aY)
  (eC))))
noncomputable def gC : DTS :=
  (aG (aP (je (ae (dOp aI (dOp aI (dCB g0 (ae (wg (af 2) (af 9)) ao)) (dC (.str "/"))) (dCB g0 (ae (wg (af 4) (af 9)) ao))) (ae (dOp aI (dC (.str "0")) (af 5)) (ae (dOp aI (dOp aI (dC (.str "(")) (af 5)) (dC (.str ")"))) (ae (dOp aI (dOp aI (dOp aI (dC (.str "(")) (af 7)) (dC (.str ")/"))) (af 6)) ao))))) (aj 12))
  (aG (aP (dOp o3 (af 12) (je (ae (dOp aI (af 5) (dC (.str "/1"))) (ae (dOp aI (dC (.str "+")) (af 5)) (ae (dOp aI (dOp aI (af 11) (dC (.str "/"))) (af 6)) (ae (dOp aI (dOp aI (dC (.str "(")) (af 11)) (dC (.str ")"))) (ae (dOp aI (dOp aI (af 7) (dC (.str "+"))) (af 5)) ao))))))) (aj 12))
  (aG (aP (dOp o3 (af 12) (je (ae (af 10) (ae (dOp aI (dC (.str "1/")) (af 10)) (ae (dOp aI (af 10) (dC (.str "r"))) (ae (dC (.str "-0")) (ae (dC (.str "0r")) (ae (dC (.str "1r")) (ae (dC (.str "-1r")) (ae (dC (.str "0+r")) (ae (dC (.str "r/0")) (ae (dC (.str "1/-2")) ao)))))))))))) (aj 12))
  (bJ (dOp dh (dOp o3 (af 12) (je (ae (dOp aI (dOp aI (af 5) (dC (.str "+"))) (af 7)) ao))) (ay cK (ae (af 0) (ae (dC (.int 20)) ao))))))))
noncomputable def fZ : DTS :=
  (aG (aP (mL (dC (.int 1)) (ay cK (ae (af 0) (ae (dC (.int 9)) ao)))) (aj 9))
  (aG (aP (dOp aI (dC (.str "1")) (dOp sH (dC (.str "0")) (mL (dC (.int 38)) (ay cK (ae (af 0) (ae (dC (.int 4)) ao)))))) (aj 10))
  (aG (aP (dOp aI (dOp aI (af 5) (af 8)) (af 7)) (aj 11))
  (gC))))
noncomputable def gq : DTS :=
  (aG (aP (dIf (dB (dOp rGt (af 3) (dC (.int 0)))) (dC (.str "+")) (dC (.str ""))) (aj 8))
  (fZ))
noncomputable def jk : DTS :=
  (aG (aP (af 1) (eR 3 (aU (aj 2) (aU (aj 3) (aU (aj 4) fP)))))
  (aG (xj 5 6 (ae (dCB g0 (ae (af 2) ao)) (ae (dCB g0 (ae (af 4) ao)) ao)))
  (aG (aP (dIf (dB (dOp (bt true) (af 3) (dC (.int 0)))) (ay eT (ae (af 3) ao)) (dC (.str "0r"))) (aj 7))
  (gq))))
noncomputable def ig : DTS :=
  (aG (aP (ay qX (ae (af 0) ao)) (aj 1))
  (aG (bH (dB (dOp BU (af 1) (dC .none))) (bJ (dOp (bt false) (nU [some 0] (lS j8 (ae (af 0) ao)) "NoText") (dC (.str "NoText")))) aY)
  (aG (aP (ay lJ (ae (af 0) ao)) (aj 2))
  (bJ (rK (ay sQ (ae (af 2) ao)) (dOp (bt false) (af 2) (af 1)))))))
section
variable {μ : Mu} {Qd : DK} {Xk : Mu → Prop} {ds : List D}
theorem Ft {x : Str} {lo : Option Int} {j : Int} (h : (x.length : Nat) ≤ j) : Txt.slice x lo (some j) = Txt.slice x lo (some ((x.length : Nat) : Int)) := by
  have e : Builtin.Str.strSliceIndices lo (some j) 1 x.length = Builtin.Str.strSliceIndices lo (some ((x.length : Nat) : Int)) 1 x.length := by
    unfold Builtin.Str.strSliceIndices
    have h1 : ¬ j < 0 := by omega
    have h2 : ¬ ((x.length : Nat) : Int) < 0 := by omega
    have hp : (1 : Int) > 0 := by decide
    simp only [hp, h1, h2, if_true, if_false]
    rw [show min j ((x.length : Nat) : Int) = min ((x.length : Nat) : Int) ((x.length : Nat) : Int) by omega]
  unfold Txt.slice
  rw [e]
theorem EJ {x : Str} {hi : Option Int} {j : Int} (h : (x.length : Nat) ≤ j) : Txt.slice x (some j) hi = Txt.slice x (some ((x.length : Nat) : Int)) hi := by
  have e : Builtin.Str.strSliceIndices (some j) hi 1 x.length = Builtin.Str.strSliceIndices (some ((x.length : Nat) : Int)) hi 1 x.length := by
    unfold Builtin.Str.strSliceIndices
    have h1 : ¬ j < 0 := by omega
    have h2 : ¬ ((x.length : Nat) : Int) < 0 := by omega
    have hp : (1 : Int) > 0 := by decide
    simp only [hp, h1, h2, if_true, if_false]
    rw [show min j ((x.length : Nat) : Int) = min ((x.length : Nat) : Int) ((x.length : Nat) : Int) by omega]
  unfold Txt.slice
  rw [e]
theorem GK {x : Str} {hi : Option Int} {j : Int} (h : j < 0) (h' : -(x.length : Nat) ≤ j) : Txt.slice x (some j) hi = Txt.slice x (some (j + (x.length : Nat))) hi := by
  unfold Txt.slice
  have e : Builtin.Str.strSliceIndices (some j) hi 1 x.length = Builtin.Str.strSliceIndices (some (j + (x.length : Nat))) hi 1 x.length := StrLaws.sliceIdx_neg_lo _ _ h h'
  rw [e]
theorem AQ (l : List Nat) (k : Nat) : Txt.slice (txt l) none (some ((k : Nat) : Int)) = txt (l.take k) := by
  by_cases h : k ≤ l.length
  · rw [AW (by omega), Int.toNat_natCast]
  · rw [Ft (by rw [ax]; omega), ax, AW (by omega), Int.toNat_natCast, List.take_of_length_le (Nat.le_refl _), List.take_of_length_le (by omega)]
theorem sE (l : List Nat) (k : Nat) : Txt.slice (txt l) (some ((k : Nat) : Int)) none = txt (l.drop k) := by
  by_cases h : k ≤ l.length
  · rw [mr (by omega), Int.toNat_natCast]
  · rw [EJ (by rw [ax]; omega), ax, mr (by omega), Int.toNat_natCast, List.drop_eq_nil_of_le (Nat.le_refl _), List.drop_eq_nil_of_le (by omega)]
theorem IL (l : List Nat) : Txt.slice (txt l) (some (-1)) none = txt (l.drop (l.length - 1)) := by
  cases l with
  | nil => decide +kernel
  | cons a r =>
    rw [GK (by decide) (by rw [ax, List.length_cons]; omega), ax]
    have : (-1 + (((a :: r).length : Nat) : Int)) = (((a :: r).length - 1 : Nat) : Int) := by rw [List.length_cons]; omega
    rw [this]
    exact sE _ _
theorem Hm (l : List Nat) : l.drop (l.length - 1) = [114] ↔ l.getLast? = some 114 := by
  constructor
  · intro h
    rw [List.getLast?_eq_getElem?]
    have := congrArg (fun z : List Nat => z[0]?) h
    simp only [List.getElem?_drop, List.getElem?_cons_zero, Nat.add_zero] at this
    exact this
  · intro h
    obtain ⟨u, rfl⟩ := List.getLast?_eq_some_iff.mp h
    simp
def cP (l : List Nat) : List Nat := if l.take 1 = [45] then l.drop 1 else l
def pM (l : List Nat) : Int := if l.take 1 = [45] then -((NumText.digitsVal (l.drop 1) : Nat) : Int) else ((NumText.digitsVal l : Nat) : Int)
theorem head_take (l : List Nat) (c : Nat) : l.take 1 = [c] ↔ l.head? = some c := by
  cases l with
  | nil => simp
  | cons a r => simp
theorem zU (l : List Nat) (v : Int) : WT l v ↔ (Fig (cP l) ∧ whl (pM l) = l ∧ v = pM l) := by
  constructor
  · rintro ⟨rfl, hb⟩
    by_cases c : v < 0
    · have ew : whl v = 45 :: dg v.natAbs := by unfold whl; rw [if_pos c]
      have e1 : cP (whl v) = dg v.natAbs := by rw [ew]; unfold cP; rw [if_pos (show (45 :: dg v.natAbs).take 1 = [45] from rfl)]; rfl
      have e2 : pM (whl v) = v := by
        rw [ew]; unfold pM; rw [if_pos (show (45 :: dg v.natAbs).take 1 = [45] from rfl)]
        show -((NumText.digitsVal (dg v.natAbs) : Nat) : Int) = v
        rw [zv]; omega
      rw [e1, e2]
      exact ⟨zB hb, rfl, rfl⟩
    · have ew : whl v = dg v.natAbs := by unfold whl; rw [if_neg c]
      have hh : ¬ (dg v.natAbs).take 1 = [45] := fun z => by
        have := fk v.natAbs 45 (List.mem_of_mem_head? (by rw [(head_take _ _).mp z]; rfl))
        omega
      have e1 : cP (whl v) = dg v.natAbs := by rw [ew]; unfold cP; rw [if_neg hh]
      have e2 : pM (whl v) = v := by
        rw [ew]; unfold pM; rw [if_neg hh, zv]; omega
      rw [e1, e2]
      exact ⟨zB hb, rfl, rfl⟩
  · rintro ⟨f, e, rfl⟩
    refine ⟨e.symm, ?_⟩
    unfold cP at f
    unfold pM cf
    split at f
    · rename_i c
      rw [if_pos c]
      have := xN f
      omega
    · rename_i c
      rw [if_neg c]
      have := xN f
      omega
theorem BI {l : List Nat} (f : Fig (cP l)) : intText? (txt l) = some (pM l) := by
  unfold cP at f
  unfold pM
  split at f
  · rename_i c
    rw [if_pos c]
    have hx : (txt l).cps.toList = 45 :: l.drop 1 := by
      rw [bN]
      conv => lhs; rw [← List.take_append_drop 1 l, c]
      rfl
    have hl : (txt l).length = (l.drop 1).length + 1 := by
      rw [ax]; rw [bN] at hx; conv => lhs; rw [hx]
      rfl
    exact intText_neg hx f.2.2 f.1 (by have := f.2.1; omega)
  · rename_i c
    rw [if_neg c]
    exact Er f.2.2 f.1 (by have := f.2.1; omega)
theorem Fq {l : List Nat} (h : Tx l) : Tx (cP l) := by
  unfold cP
  split
  · exact h.drop 1
  · exact h
def CL (d : PyData) : Bool := ((signs (Str.ofString "0123456789")).map PyData.str).any fun b => PyData.eqv b d
theorem AZ {c : Nat} (hc : c < 128) : CL (.str ⟨#[c]⟩) = decide (48 ≤ c ∧ c ≤ 57) := by
  have e : (signs (Str.ofString "0123456789")).map PyData.str = [48, 49, 50, 51, 52, 53, 54, 55, 56, 57].map fun n : Nat => PyData.str (txt [n]) := by
    rw [lit, show ("0123456789".toList.map Char.toNat) = [48, 49, 50, 51, 52, 53, 54, 55, 56, 57] by decide +kernel]
    rfl
  unfold CL
  rw [e, List.any_map, show (⟨#[c]⟩ : Str) = txt [c] from rfl]
  have g : ((fun b => PyData.eqv b (PyData.str (txt [c]))) ∘ fun n : Nat => PyData.str (txt [n])) = fun n : Nat => decide (n = c) := by
    funext n
    show PyData.eqv (.str (txt [n])) (.str (txt [c])) = _
    rw [mI]
    congr 1
    simp
  rw [g]
  by_cases h : 48 ≤ c ∧ c ≤ 57
  · rw [decide_eq_true h]
    have : c = 48 ∨ c = 49 ∨ c = 50 ∨ c = 51 ∨ c = 52 ∨ c = 53 ∨ c = 54 ∨ c = 55 ∨ c = 56 ∨ c = 57 := by omega
    rcases this with rfl | rfl | rfl | rfl | rfl | rfl | rfl | rfl | rfl | rfl <;> rfl
  · rw [decide_eq_false h]
    rw [Bool.eq_false_iff]
    intro z
    obtain ⟨n, hn, he⟩ := List.any_eq_true.mp z
    have he := of_decide_eq_true he
    simp only [List.mem_cons, List.not_mem_nil, or_false] at hn
    omega
theorem yG {l : List Nat} (h : Asc l) : ((eG (txt l)).map CL).all id = true ↔ NumText.AllDigits l := by
  unfold eG
  rw [bN, List.map_map, List.all_map, List.all_eq_true]
  constructor
  · intro g c hc
    have := g c hc
    simp only [Function.comp_apply, id_eq, AZ (h c hc), decide_eq_true_eq] at this
    exact this
  · intro g c hc
    simp only [Function.comp_apply, id_eq, AZ (h c hc), decide_eq_true_eq]
    exact g c hc
theorem wJ {l : List Nat} (h : Asc l) : PyData.canLay0 (.str (txt l)) = true ∧ PyData.depth (.str (txt l)) ≤ 60 := by
  have := nB h
  refine ⟨?_, by simp only [PyData.depth]; decide⟩
  simp only [SeqAt.shaped, Bool.and_eq_true] at this
  first | exact this | exact this.1 | exact this.1.1 | exact this.1.1.1
theorem tZ {i : Int} (h : cf i) : i.natAbs.log2 < 1920 := by
  by_cases z : i.natAbs = 0
  · rw [z]; decide
  · refine (Nat.log2_lt z).mpr (Nat.lt_trans h ?_)
    exact Nat.lt_of_lt_of_le (show (10 : Nat) ^ 40 < 2 ^ 140 by decide +kernel) (Nat.pow_le_pow_right (by decide) (by decide))
theorem uA (h : Al ds μ Qd) : jJ ‹Qd› (aS ["_law_text_here", "_law_figures"] ds) μ := by
  obtain ⟨l, rfl, ht, q⟩ := h
  have h2 := ht.2
  have key : ib
    ‹Qd› [some (.v (.str (txt l))), some (.v (.str (txt (cP l))))] μ := by
    have tf := Fq ht
    have tf2 := tf.2
    have no : ¬ Fig (cP l) → Qd (.v .none) μ := fun nf => q none fun v => ⟨(fun z => nomatch z), fun z => absurd ((zU l v).mp z).1 nf⟩
    unfold ib
    walk_at "rl"
    refine ⟨aQ (by omega), ?_⟩
    rw [ax]
    by_cases c1 : 1 ≤ (cP l).length
    · rw [ez (decide_eq_true (by omega))]
      walk_at "rl"
      by_cases c2 : (cP l).length ≤ 40
      · rw [decide_eq_true (by omega : ((cP l).length : Int) ≤ 40)]
        walk_at "rl"
        rw [Av]
        walk_at "rl"
        have el : (eG (txt (cP l))).length = (cP l).length := by unfold eG; rw [List.length_map, bN]
        refine ⟨by rw [el]; omega, fun d => some (.bool (CL d)), fun x hx μ' _ => ⟨trivial, ?_⟩, ?_⟩
        · obtain ⟨c, hc, rfl⟩ := List.mem_map.mp hx
          rw [bN] at hc
          have ly := wJ (l := [c]) (fun x hx => by rw [List.mem_singleton.mp hx]; exact tf.1 c hc)
          walk_at "rl"
          exact ⟨by decide +kernel, by decide +kernel, ly.1, ly.2, trivial, rfl⟩
        · rw [BM, ju CL]
          dsimp only
          by_cases c3 : NumText.AllDigits (cP l)
          · have f : Fig (cP l) := ⟨fun z => by rw [z] at c1; exact absurd c1 (by decide), c2, c3⟩
            have ll : l.length ≤ 41 := by
              unfold cP at c2
              split at c2
              · rw [List.length_drop] at c2; omega
              · omega
            have bg : cf (pM l) := by
              have := xN f
              unfold cP at this
              unfold pM cf
              split at this
              · rename_i c; rw [if_pos c]; omega
              · rename_i c; rw [if_neg c]; omega
            rw [(yG tf.1).mpr c3]
            walk_at "rl"
            refine ⟨_, BI f, aQ (by omega), tZ bg, ?_⟩
            rw [tos, g7 (oW _) ht.1]
            by_cases c4 : whl (pM l) = l
            · rw [decide_eq_true c4]
              walk_at "rl"
              refine ⟨_, BI f, aQ (by omega), ?_⟩
              exact q (some (pM l)) fun v => by
                rw [zU]
                exact ⟨fun z => ⟨f, c4, (Option.some.inj z).symm⟩, fun z => by rw [z.2.2]⟩
            · rw [decide_eq_false c4]
              walk_at "rl"
              exact q none fun v => by
                rw [zU]
                exact ⟨(fun z => nomatch z), fun z => absurd z.2.1 c4⟩
          · rw [show (((eG (txt (cP l))).map CL).all id) = false from Bool.eq_false_iff.mpr fun z => c3 ((yG tf.1).mp z)]
            walk_at "rl"
            exact no fun f => c3 f.2.2
      · rw [decide_eq_false (by omega : ¬ ((cP l).length : Int) ≤ 40)]
        walk_at "rl"
        exact no fun f => c2 f.2.1
    · rw [dI (by rw [decide_eq_true_eq]; omega)]
      walk_at "rl"
      exact no fun f => f.1 (List.eq_nil_of_length_eq_zero (by omega))
  unfold jJ
  walk_at "rl"
  refine ⟨aQ (by omega), ?_⟩
  rw [show (1 : Int) = ((1 : Nat) : Int) from rfl, AQ, vP, g7 (ht.take 1).1 (bw rfl)]
  by_cases c : l.take 1 = [45]
  · have es : cP l = l.drop 1 := by unfold cP; rw [if_pos c]
    rw [es] at key
    rw [decide_eq_true c]
    walk_at "rl"
    refine ⟨aQ (by omega), ?_⟩
    rw [sE]
    exact key
  · have es : cP l = l := by unfold cP; rw [if_neg c]
    rw [es] at key
    rw [decide_eq_false c]
    walk_at "rl"
    exact key
end
open PySem PySem.Spec PyProof.Rows NM
section
variable {μ : Mu} {Qd : DK} {Xk : Mu → Prop} {ds : List D}
noncomputable def Sgn (c : Nat) : Prop := c = 43 ∨ c = 45
instance (c : Nat) : Decidable (Sgn c) := inferInstanceAs (Decidable (c = 43 ∨ c = 45))
noncomputable def Cu (l : List Nat) (k : Nat) : Prop := (k = 0 ∨ ∃ c, l[k]? = some c ∧ Sgn c) ∧ ∀ j c, k < j → l[j]? = some c → ¬ Sgn c
theorem Eb {a b : Int} (h : b ≠ 0) : (cX a b).getLast? = some 114 := by
  unfold cX
  rw [if_neg h]
  split
  · rw [lr]; exact pB _
  · unfold eD; rw [lr, ← List.append_assoc]; exact pB _
theorem vD {r : List Nat} (h1 : 43 ∉ r) (h2 : 45 ∉ r) {j c : Nat} (h : (r ++ [114])[j]? = some c) : ¬ Sgn c := fun z => by
  have := List.mem_of_getElem? h
  rcases z with rfl | rfl
  · exact wd h1 (by decide) this
  · exact wd h2 (by decide) this
def fJ (l : List Nat) (k : Nat) : List Nat := if k = 0 ∨ l[k]? = some 45 then l.dropLast.drop k else l.dropLast.drop (k + 1)
theorem Fd {l : List Nat} {k m : Nat} (h : Cu l k) (h1 : 1 ≤ m) (h2 : ∃ c, l[m]? = some c ∧ Sgn c) (h3 : ∀ j c, m < j → l[j]? = some c → ¬ Sgn c) : k = m := by
  rcases Nat.lt_trichotomy k m with z | z | z
  · obtain ⟨c, e, s⟩ := h2
    exact absurd s (h.2 m c z e)
  · exact z
  · rcases h.1 with w | ⟨c, e, s⟩
    · omega
    · exact absurd s (h3 k c z e)
theorem Ih {a b : Int} {k : Nat} (hb : b ≠ 0) (h : Cu (cX a b) k) : (k = 0 → a = 0) ∧ (k ≠ 0 → (cX a b).take k = whl a) ∧ fJ (cX a b) k = rtm b := by
  by_cases ca : a = 0
  · have es : cX a b = rtm b ++ [114] := by unfold cX; rw [if_neg hb, if_pos ca, lr]
    rw [es] at h ⊢
    have k0 : k = 0 := by
      rcases h.1 with z | ⟨c, e, s⟩
      · exact z
      · by_cases z : k = 0
        · exact z
        exfalso
        rcases Int.lt_or_lt_of_ne hb with w | w
        · obtain ⟨r, er, n1, n2⟩ := qR w
          obtain ⟨j, rfl⟩ : ∃ j, k = j + 1 := ⟨k - 1, by omega⟩
          rw [er, List.cons_append, List.getElem?_cons_succ] at e
          exact vD n2 n1 e s
        · exact vD (pf b) (rq w) e s
    refine ⟨fun _ => ca, fun z => absurd k0 z, ?_⟩
    unfold fJ
    rw [if_pos (.inl k0), k0, List.dropLast_concat]
    rfl
  · have es : cX a b = eD a b := by unfold cX; rw [if_neg hb, if_neg ca]
    rw [es] at h ⊢
    have la : 1 ≤ (whl a).length := List.length_pos_iff.mpr (qa a)
    rcases Int.lt_or_lt_of_ne hb with w | w
    · obtain ⟨r, er, n1, n2⟩ := qR w
      have em : eD a b = whl a ++ 45 :: (r ++ [114]) := by unfold eD; rw [if_neg (by omega), lr, er]; simp
      rw [em] at h ⊢
      have hk : k = (whl a).length := Fd h la ⟨45, by simp, .inr rfl⟩ fun j c hj e => by
        obtain ⟨i, rfl⟩ : ∃ i, j = (whl a).length + 1 + i := ⟨j - ((whl a).length + 1), by omega⟩
        rw [List.getElem?_append_right (by omega), show (whl a).length + 1 + i - (whl a).length = i + 1 by omega, List.getElem?_cons_succ] at e
        exact vD n2 n1 e
      subst hk
      refine ⟨fun z => by omega, fun _ => List.take_left' rfl, ?_⟩
      unfold fJ
      rw [if_pos (.inr (by simp)), show whl a ++ 45 :: (r ++ [114]) = (whl a ++ 45 :: r) ++ [114] by simp, List.dropLast_concat, List.drop_left' rfl, er]
    · have em : eD a b = whl a ++ 43 :: (rtm b ++ [114]) := by unfold eD; rw [if_pos w, lr]; simp
      rw [em] at h ⊢
      have hk : k = (whl a).length := Fd h la ⟨43, by simp, .inl rfl⟩ fun j c hj e => by
        obtain ⟨i, rfl⟩ : ∃ i, j = (whl a).length + 1 + i := ⟨j - ((whl a).length + 1), by omega⟩
        rw [List.getElem?_append_right (by omega), show (whl a).length + 1 + i - (whl a).length = i + 1 by omega, List.getElem?_cons_succ] at e
        exact vD (pf b) (rq w) e
      subst hk
      refine ⟨fun z => by omega, fun _ => List.take_left' rfl, ?_⟩
      unfold fJ
      have e45 : ¬ ((whl a).length = 0 ∨ (whl a ++ 43 :: (rtm b ++ [114]))[(whl a).length]? = some 45) := by
        rintro (z | z)
        · omega
        · simp at z
      rw [if_neg e45, show whl a ++ 43 :: (rtm b ++ [114]) = (whl a ++ 43 :: rtm b) ++ [114] by simp, List.dropLast_concat, show (whl a).length + 1 = (whl a ++ [43]).length by simp, show whl a ++ 43 :: rtm b = (whl a ++ [43]) ++ rtm b by simp, List.drop_left' rfl]
theorem FO (c : Nat) : (((signs (Str.ofString "+-")).map PyData.str).any fun b => PyData.eqv b (.str ⟨#[c]⟩)) = decide (Sgn c) := by
  have e : (signs (Str.ofString "+-")).map PyData.str = [PyData.str (txt [43]), PyData.str (txt [45])] := by
    rw [lit, show ("+-".toList.map Char.toNat) = [43, 45] by decide +kernel]
    rfl
  rw [e, show (⟨#[c]⟩ : Str) = txt [c] from rfl]
  simp only [List.any_cons, List.any_nil, Bool.or_false]
  rw [mI, mI, Bool.eq_iff_iff, Bool.or_eq_true, decide_eq_true_eq, decide_eq_true_eq, decide_eq_true_eq]
  constructor
  · rintro (z | z)
    · exact .inl (List.cons.inj z).1.symm
    · exact .inr (List.cons.inj z).1.symm
  · rintro (rfl | rfl)
    · exact .inl rfl
    · exact .inr rfl
theorem Hu (R : List Nat) : ([PyData.str (Str.ofString ""), PyData.str (Str.ofString "-")].any fun b => PyData.eqv b (.str (txt R))) = decide (R = [] ∨ R = [45]) := by
  simp only [List.any_cons, List.any_nil, Bool.or_false]
  rw [yV, vP, mI, mI, Bool.eq_iff_iff]
  simp only [Bool.or_eq_true, decide_eq_true_eq]
  constructor
  · rintro (z | z)
    · exact .inl z.symm
    · exact .inr z.symm
  · rintro (z | z)
    · exact .inl z.symm
    · exact .inr z.symm
noncomputable def OB (R : List Nat) (ob : Option Int) : Prop := (R = [] → ob = some 1) ∧ (R = [45] → ob = some (-1)) ∧ (R ≠ [] → R ≠ [45] → ∀ b, ob = some b ↔ WT R b)
theorem OB.big {R : List Nat} {ob : Option Int} (h : OB R ob) : ∀ b, ob = some b → cf b := fun b e => by
  by_cases c1 : R = []
  · have := (h.1 c1).symm.trans e; cases this; unfold cf; decide +kernel
  · by_cases c2 : R = [45]
    · have := (h.2.1 c2).symm.trans e; cases this; unfold cf; decide +kernel
    · exact ((h.2.2 c1 c2 b).mp e).2
theorem OB.rtm {b : Int} {ob : Option Int} (hb : cf b) (h : OB (rtm b) ob) : ob = some b := by
  by_cases c1 : b = 1
  · rw [c1]; exact h.1 (by unfold DL.rtm; rw [if_pos c1])
  · by_cases c2 : b = -1
    · rw [c2]; exact h.2.1 (by unfold DL.rtm; rw [if_neg c1, if_pos c2])
    · have er : DL.rtm b = whl b := by unfold DL.rtm; rw [if_neg c1, if_neg c2]
      rw [er] at h
      exact (h.2.2 (qa b) (BO b) b).mpr ⟨rfl, hb⟩
theorem tF {l R : List Nat} {k : Int} {r2 : Option D} {oa : Option Int} (tR : Tx R) (q : ∀ ob, OB R ob → Qd (.v (.tuple [oI oa, oI ob])) μ) :
    ja ‹Qd› [some (.v (.str (txt l))), some (.v (.int k)), r2, some (.v (oI oa)), some (.v (.str (txt R)))] μ := by
  have ly := wJ tR.1
  unfold ja
  walk_at "rl"
  refine ⟨by decide +kernel, ly.1, ly.2, ?_⟩
  rw [Hu]
  by_cases c : R = [] ∨ R = [45]
  · rw [decide_eq_true c]
    walk_at "rl"
    rw [vP, g7 tR.1 (bw rfl)]
    by_cases c2 : R = [45]
    · rw [decide_eq_true c2]
      walk_at "rl"
      exact q (some (-1)) ⟨(fun z => by rw [c2] at z; cases z), fun _ => rfl, fun _ z => absurd c2 z⟩
    · rw [decide_eq_false c2]
      walk_at "rl"
      have c1 : R = [] := c.resolve_right c2
      exact q (some 1) ⟨fun _ => rfl, fun z => absurd z c2, fun z => absurd c1 z⟩
  · rw [decide_eq_false c]
    walk_at "rl"
    refine ⟨R, rfl, tR, fun ob hob => ?_⟩
    walk_at "rl"
    exact q ob ⟨fun z => absurd (.inl z) c, fun z => absurd (.inr z) c, fun _ _ => hob⟩
theorem kT {l : List Nat} {k : Nat} (h : k < l.length) : atI l ((k : Nat) : Int) = l[k]? := by
  unfold atI ixN
  rw [if_pos (by omega), if_pos (by omega), Int.toNat_natCast]
  rfl
theorem Tx.one {l : List Nat} (h : Tx l) {c : Nat} (hc : c ∈ l) : Asc [c] := fun x hx => by rw [List.mem_singleton.mp hx]; exact h.1 c hc
theorem wN (h : xc ds μ Qd) : kE ‹Qd› (aS ["_law_text_here", "_law_cut", "_law_at", "_law_ahead", "_law_roots_here"] ds) μ := by
  obtain ⟨l, rfl, ht, q⟩ := h
  have h2 := ht.2
  unfold kE
  walk_at "rl"
  refine ⟨aQ (by omega), ?_⟩
  rw [IL, Iq, g7 (ht.drop _).1 (bw rfl)]
  by_cases c : l.drop (l.length - 1) = [114]
  · rw [decide_eq_true c]
    have cl := (Hm l).mp c
    have l1 : 1 ≤ l.length := by cases l with | nil => cases cl | cons _ _ => rw [List.length_cons]; omega
    walk_at "rl"
    rw [Bp]
    walk_at "rl"
    rw [ax]
    refine ⟨by omega, by omega, fun i ρ μ' => μ' = μ ∧ ∃ (k : Nat) (r2 : Option D), ρ = [some (.v (.str (txt l))), some (.v (.int (k : Nat))), r2, none, none] ∧ k ≤ i ∧ (k = 0 ∨ ∃ c, l[k]? = some c ∧ Sgn c) ∧ ∀ j c, k < j → j ≤ i → l[j]? = some c → ¬ Sgn c, ⟨rfl, 0, none, rfl, Nat.le_refl _, .inl rfl, fun j c h h' => by omega⟩, ?_, ?_⟩
    · rintro i x ρ μ1 hx ⟨rfl, k, r2, rfl, hk, hs, hn⟩
      obtain ⟨rfl, hi⟩ := C5 hx
      have il : i + 1 < l.length := by omega
      have ei : l[i + 1]? = some l[i + 1] := List.getElem?_eq_getElem il
      have hm : l[i + 1] ∈ l := List.getElem_mem il
      have ly := wJ (ht.one hm)
      have hat : atI (txt l).cps.toList (1 + (i : Int)) = some l[i + 1] := by
        rw [bN]
        rw [show (1 + (i : Int)) = ((i + 1 : Nat) : Int) by omega, kT il, ei]
      walk_at "rl"
      refine ⟨_, aQ (by omega), hat, ?_⟩
      refine ⟨by decide +kernel, by decide +kernel, ly.1, ly.2, ?_⟩
      rw [FO]
      by_cases cs : Sgn l[i + 1]
      · rw [decide_eq_true cs]
        walk_at "rl"
        refine ⟨trivial, i + 1, _, by rw [show (1 + (i : Int)) = ((i + 1 : Nat) : Int) by omega], Nat.le_refl _, .inr ⟨_, ei, cs⟩, fun j c h h' => by omega⟩
      · rw [decide_eq_false cs]
        walk_at "rl"
        refine ⟨trivial, k, _, rfl, by omega, hs, fun j c h h' e => ?_⟩
        by_cases z : j = i + 1
        · subst z; rw [ei] at e; cases e; exact cs
        · exact hn j c h (by omega) e
    · rintro ρ μ1 ⟨rfl, k, r2, rfl, hk, hs, hn⟩
      have hk2 : (((l.length : Nat) : Int) - 1).toNat = l.length - 1 := by omega
      have cu : Cu l k := ⟨hs, fun j c h e => hn j c h (by
        have : j < l.length := by
          rcases Nat.lt_or_ge j l.length with z | z
          · exact z
          · rw [List.getElem?_eq_none z] at e; cases e
        first
        | omega
        | (rw [show (nQ 1 (((l.length : Nat) : Int) - 1).toNat).length = (((l.length : Nat) : Int) - 1).toNat by simp [nQ]]; omega)) e⟩
      have kl : k < l.length := by
        rcases hs with z | ⟨c, e, _⟩
        · omega
        · rcases Nat.lt_or_ge k l.length with z | z
          · exact z
          · rw [List.getElem?_eq_none z] at e; cases e
      clear hk hs hn
      have tR : Tx (fJ l k) := by
        unfold fJ
        split
        · exact ht.init.drop _
        · exact ht.init.drop _
      have k1 : k + 1 < l.length ∨ k = 0 := by
        rcases cu.1 with z | ⟨c, e, s⟩
        · exact .inr z
        · left
          rcases Nat.lt_or_ge (k + 1) l.length with z | z
          · exact z
          · exfalso
            have e2 : l[l.length - 1]? = some 114 := by rw [← List.getLast?_eq_getElem?]; exact cl
            rw [show l.length - 1 = k by omega, e] at e2
            cases e2
            rcases s with s | s <;> cases s
      have fin : ∀ oa : Option Int, (∀ a, oa = some a → cf a) → (k = 0 → oa = some 0) → (k ≠ 0 → ∀ a, oa = some a ↔ WT (l.take k) a) → ∀ ob, OB (fJ l k) ob → Qd (.v (.tuple [oI oa, oI ob])) μ1 := fun oa h1 h3 h4 ob hob => by
        refine q oa ob h1 hob.big fun a b ha hb e => ?_
        have b0 : b ≠ 0 := fun z => by
          subst z
          have : l = whl a := by rw [e]; unfold cX; rw [if_pos rfl]
          have := o8 a 114 (by rw [← this]; exact List.mem_of_mem_getLast? (by rw [cl]; rfl))
          omega
        subst e
        obtain ⟨g1, g2, g3⟩ := Ih b0 cu
        rw [g3] at hob
        refine ⟨?_, hob.rtm hb⟩
        by_cases z : k = 0
        · rw [h3 z, g1 z]
        · exact (h4 z a).mpr ⟨g2 z, ha⟩
      have tail : ∀ oa : Option Int, (∀ ob, OB (fJ l k) ob → Qd (.v (.tuple [oI oa, oI ob])) μ1) → i5 ‹Qd› [some (.v (.str (txt l))), some (.v (.int (k : Nat))), r2, some (.v (oI oa)), none] μ1 := fun oa g => by
        unfold i5
        walk_at "rl"
        by_cases z : k = 0
        · rw [decide_eq_true (by omega : ((k : Nat) : Int) = 0)]
          walk_at "rl"
          refine ⟨aQ (by omega), ?_⟩
          have er : fJ l k = l.dropLast.drop k := by unfold fJ; rw [if_pos (.inl z)]
          rw [mB (by omega) (by omega), Int.toNat_natCast, ← er]
          exact tF tR g
        · rw [decide_eq_false (by omega : ¬ ((k : Nat) : Int) = 0)]
          have ek : l[k]? = some l[k] := List.getElem?_eq_getElem kl
          have hat : atI (txt l).cps.toList ((k : Nat) : Int) = some l[k] := by
            rw [bN]
            rw [kT kl, ek]
          walk_at "rl"
          refine ⟨_, aQ (by omega), hat, ?_⟩
          rw [show (⟨#[l[k]]⟩ : Str) = txt [l[k]] from rfl, vP, g7 (ht.one (List.getElem_mem kl)) (bw rfl)]
          by_cases c45 : l[k] = 45
          · rw [decide_eq_true (by rw [c45] : [l[k]] = [45])]
            have er : fJ l k = l.dropLast.drop k := by unfold fJ; rw [if_pos (.inr (by rw [ek, c45]))]
            walk_at "rl"
            refine ⟨aQ (by omega), ?_⟩
            rw [mB (by omega) (by omega), Int.toNat_natCast, ← er]
            exact tF tR g
          · rw [decide_eq_false (fun w => c45 (List.cons.inj w).1 : ¬ [l[k]] = [45])]
            have er : fJ l k = l.dropLast.drop (k + 1) := by unfold fJ; rw [if_neg (by rintro (w | w); exact z w; rw [ek] at w; exact c45 (Option.some.inj w))]
            walk_at "rl"
            refine ⟨aQ (by omega), ?_⟩
            rw [mB (by omega) (by omega), show (((k : Nat) : Int) + 1).toNat = k + 1 by omega, ← er]
            exact tF tR g
      walk_at "rl"
      by_cases z : k = 0
      · rw [decide_eq_true (by omega : ((k : Nat) : Int) = 0)]
        walk_at "rl"
        exact tail (some 0) (fin (some 0) (fun a e => by cases e; unfold cf; decide +kernel) (fun _ => rfl) fun w => absurd z w)
      · rw [decide_eq_false (by omega : ¬ ((k : Nat) : Int) = 0)]
        walk_at "rl"
        refine ⟨aQ (by omega), l.take k, by rw [AQ], ht.take k, fun o ho => ?_⟩
        exact tail o (fin o (fun a e => ((ho a).mp e).2) (fun w => absurd w z) fun _ => ho)
  · rw [decide_eq_false c]
    walk_at "rl"
    refine ⟨l, rfl, ht, fun o ho => ?_⟩
    walk_at "rl"
    refine q o (some 0) (fun a e => ((ho a).mp e).2) (fun b e => by cases e; unfold cf; decide +kernel) fun a b ha hb e => ?_
    have b0 : b = 0 := by
      by_cases z : b = 0
      · exact z
      · exact absurd ((Hm l).mpr (by rw [e]; exact Eb z)) c
    subst b0
    exact ⟨(ho a).mpr ⟨by rw [e]; unfold cX; rw [if_pos rfl], ha⟩, rfl⟩
end
open PySem PySem.Spec PyProof.Rows NM
section
variable {μ : Mu} {Qd : DK} {Xk : Mu → Prop} {ds : List D}
theorem yc {c : Nat} : ∀ {u u' v v' : List Nat}, u ++ c :: v = u' ++ c :: v' → c ∉ u → c ∉ u' → u = u' ∧ v = v'
  | [], [], v, v', h, _, _ => ⟨rfl, (List.cons.inj h).2⟩
  | [], a :: u', v, v', h, _, n' => by
    have := (List.cons.inj h).1
    exact absurd (by rw [this]; exact List.mem_cons_self) n'
  | a :: u, [], v, v', h, n, _ => by
    have := (List.cons.inj h).1
    exact absurd (by rw [← this]; exact List.mem_cons_self) n
  | a :: u, b :: u', v, v', h, n, n' => by
    obtain ⟨e1, e2⟩ := List.cons.inj h
    obtain ⟨g1, g2⟩ := yc e2 (fun z => n (List.mem_cons_of_mem _ z)) (fun z => n' (List.mem_cons_of_mem _ z))
    exact ⟨by rw [e1, g1], g2⟩
theorem IF {u v : List Nat} {c : Nat} (h : c ∉ u) : ∃ rest, Builtin.Str.occurrences (txt (u ++ c :: v)) (txt [c]) 0 (txt (u ++ c :: v)).length 1 = u.length :: rest := by
  have sub : ∀ i, StrLaws.At (txt (u ++ c :: v)) (txt [c]) (txt (u ++ c :: v)).length i ↔ (u ++ c :: v)[i]? = some c := fun i => StrLaws.subAt_one _ c i
  rcases StrLaws.occ_head (txt (u ++ c :: v)) (txt [c]) 1 (by decide) with ⟨e, g⟩ | ⟨i, r, e, g, g'⟩
  · exact absurd ((sub u.length).mpr (by simp)) (g u.length)
  · have hi : i = u.length := by
      rcases Nat.lt_trichotomy i u.length with z | z | z
      · exfalso
        have := (sub i).mp g
        rw [List.getElem?_append_left z] at this
        exact h (List.mem_of_getElem? this)
      · exact z
      · exact absurd ((sub u.length).mpr (by simp)) (g' _ z)
    subst hi
    exact ⟨r, e⟩
theorem Ak (x : N3) : strip (bf x) = cX x.a x.b := by
  unfold DL.strip
  rcases eX x with e | e
  · rw [e]
    have hh : (cX x.a x.b).head? ≠ some 40 := fun z => by
      have := gc 40 (List.mem_of_mem_head? (by rw [z]; rfl)); omega
    rw [if_neg (fun z => hh z.1)]
  · have h1 : (bf x).head? = some 40 := by rw [e]; rfl
    have h2 : (bf x).getLast? = some 41 := by rw [e, List.getLast?_append]; rfl
    rw [if_pos ⟨h1, h2⟩, e, List.dropLast_concat]
    rfl
theorem AS (o : Option Int) : PyData.eqv (oI o) .none = decide (o = none) := by
  cases o with
  | none => rfl
  | some i => rfl
theorem Ir (o : Option Int) : PyData.canLay0 (oI o) = true := by
  cases o with
  | none => rfl
  | some i => rfl
theorem sR (x : N3) : isNum (.tuple [.int x.a, .int x.b, .int x.c]) = true ↔ Ok x := by
  show (decide (1 ≤ x.c) && (g3 x.a x.b x.c == 1)) = true ↔ _
  rw [Bool.and_eq_true, decide_eq_true_eq, beq_iff_eq]
  exact ⟨fun h => ⟨by omega, h.2⟩, fun h => ⟨by have := h.c; omega, h.g⟩⟩
theorem Gh {l b : List Nat} {oc : Option Int} {r3 r4 r5 : Option D} (ht : Tx l) (tb : Tx b) (hc : ∀ c, oc = some c → cf c) (hS : ∀ x, IsS l x → b = cX x.a x.b ∧ oc = some x.c)
    (q : ∀ (o : Option N3) (μ' : Mu), (∀ x, o = some x ↔ IsS l x) → (∀ b ds, μ b = some ds → μ' b = some ds) → Qd (.v (oN o)) μ') :
    eE ‹Qd› [some (.v (.str (txt l))), some (.v (.str (txt b))), some (.v (oI oc)), r3, r4, r5] μ := by
  unfold eE
  walk_at "rl"
  refine ⟨b, rfl, tb, fun oa ob ha hb hab => ?_⟩
  have sS : ∀ x, IsS l x → oa = some x.a ∧ ob = some x.b ∧ oc = some x.c := fun x hx => by
    obtain ⟨e1, e2⟩ := hS x hx
    obtain ⟨g1, g2⟩ := hab x.a x.b hx.2.2.1 hx.2.2.2.1 e1
    exact ⟨g1, g2, e2⟩
  walk_at "rl"
  have any : ([oI oa, oI ob, oI oc].any fun d => PyData.eqv d .none) = (decide (oa = none) || (decide (ob = none) || decide (oc = none))) := by
    simp only [List.any_cons, List.any_nil, Bool.or_false, AS]
  refine ⟨trivial, by simp only [PyData.canLayAll0, Ir, Bool.and_self], by decide, by decide, ?_⟩
  rw [any]
  cases oa with
  | none =>
    rw [show (decide ((none : Option Int) = none) || (decide (ob = none) || decide (oc = none))) = true from rfl]
    walk_at "rl"
    exact q none μ (fun x => ⟨(fun z => nomatch z), fun z => nomatch (sS x z).1⟩) fun _ _ e => e
  | some a =>
    cases ob with
    | none =>
      rw [show (decide (some a = none) || (decide ((none : Option Int) = none) || decide (oc = none))) = true from rfl]
      walk_at "rl"
      exact q none μ (fun x => ⟨(fun z => nomatch z), fun z => nomatch (sS x z).2.1⟩) fun _ _ e => e
    | some b' =>
      cases oc with
      | none =>
        rw [show (decide (some a = none) || (decide (some b' = none) || decide ((none : Option Int) = none))) = true from rfl]
        walk_at "rl"
        exact q none μ (fun x => ⟨(fun z => nomatch z), fun z => nomatch (sS x z).2.2⟩) fun _ _ e => e
      | some c =>
        rw [show (decide (some a = none) || (decide (some b' = none) || decide (some c = none))) = false from rfl]
        have same : ∀ x, IsS l x → x = ⟨a, b', c⟩ := fun x z => by
          obtain ⟨g1, g2, g3⟩ := sS x z
          cases x
          cases g1; cases g2; cases g3
          rfl
        walk_at "rl"
        refine ⟨.tuple [.int a, .int b', .int c], rfl, by show 3 ≤ 1000; decide, ?_⟩
        have io := sR ⟨a, b', c⟩
        by_cases ok : Ok (⟨a, b', c⟩ : N3)
        · rw [io.mpr ok]
          have bx : lK (⟨a, b', c⟩ : N3) := ⟨ha a rfl, hb b' rfl, hc c rfl⟩
          walk_at "rl"
          refine ⟨⟨a, b', c⟩, rfl, bx, fun μ1 h1 => ?_⟩
          walk_at "rl"
          rw [g7 (lM _) ht.1]
          by_cases e : bM ⟨a, b', c⟩ = l
          · rw [decide_eq_true e]
            walk_at "rl"
            exact q (some ⟨a, b', c⟩) μ1 (fun x => ⟨fun z => by cases z; exact ⟨e.symm, ok, bx⟩, fun z => by rw [same x z]⟩) h1
          · rw [decide_eq_false e]
            walk_at "rl"
            exact q none μ1 (fun x => ⟨(fun z => nomatch z), fun z => absurd (by rw [← same x z]; exact z.1.symm) e⟩) h1
        · rw [Bool.eq_false_iff.mpr fun z => ok (io.mp z)]
          walk_at "rl"
          exact q none μ (fun x => ⟨(fun z => nomatch z), fun z => absurd (by rw [← same x z]; exact z.2.1) ok⟩) fun _ _ e => e
theorem zg {l : List Nat} (h : 1 ≤ l.length) : atI l (-1) = l.getLast? := by
  unfold atI ixN
  rw [if_neg (by decide), if_pos (by omega), List.getLast?_eq_getElem?]
  show l[(-1 + (l.length : Int)).toNat]? = _
  congr 1
  omega
theorem G3 {l u : List Nat} {oc : Option Int} {r3 r4 r5 : Option D} (ht : Tx l) (tu : Tx u) (hc : ∀ c, oc = some c → cf c) (hS : ∀ x, IsS l x → u = bf x ∧ oc = some x.c)
    (q : ∀ (o : Option N3) (μ' : Mu), (∀ x, o = some x ↔ IsS l x) → (∀ b ds, μ b = some ds → μ' b = some ds) → Qd (.v (oN o)) μ') :
    eI ‹Qd› [some (.v (.str (txt l))), some (.v (.str (txt u))), some (.v (oI oc)), r3, r4, r5] μ := by
  have fin := Gh (r3 := r3) (r4 := r4) (r5 := r5) ht tu.strip hc (fun x hx => ⟨by rw [(hS x hx).1, Ak], (hS x hx).2⟩) q
  have u2 := tu.2
  unfold eI
  walk_at "rl"
  refine ⟨aQ (by omega), ?_⟩
  rw [ax]
  have no : (¬ (u.head? = some 40 ∧ u.getLast? = some 41)) → strip u = u := fun z => by unfold DL.strip; rw [if_neg z]
  by_cases c0 : 1 < u.length
  · rw [ez (decide_eq_true (by omega))]
    obtain ⟨a, r, rfl⟩ : ∃ a r, u = a :: r := by cases u with | nil => cases c0 | cons a r => exact ⟨a, r, rfl⟩
    have am : Asc [a] := tu.one List.mem_cons_self
    walk_at "rl"
    refine ⟨a, aQ (by omega), by rw [bN]; exact qA, ?_⟩
    rw [show (⟨#[a]⟩ : Str) = txt [a] from rfl, IC, g7 am (bw rfl)]
    by_cases c1 : a = 40
    · rw [decide_eq_true (by rw [c1] : [a] = [40])]
      obtain ⟨z, hz⟩ : ∃ z, (a :: r).getLast? = some z := by
        rw [List.getLast?_eq_getElem?]
        exact ⟨_, List.getElem?_eq_getElem (by omega)⟩
      have zm : Asc [z] := tu.one (List.mem_of_mem_getLast? (by rw [hz]; rfl))
      walk_at "rl"
      refine ⟨z, aQ (by omega), by rw [bN, zg (by omega)]; exact hz, ?_⟩
      rw [show (⟨#[z]⟩ : Str) = txt [z] from rfl, HW, g7 zm (bw rfl)]
      by_cases c2 : z = 41
      · rw [decide_eq_true (by rw [c2] : [z] = [41])]
        have es : strip (a :: r) = (a :: r).dropLast.drop 1 := by unfold DL.strip; rw [if_pos ⟨by rw [c1]; rfl, by rw [hz, c2]⟩]
        rw [es] at fin
        walk_at "rl"
        refine ⟨aQ (by omega), ?_⟩
        rw [mB (i := 1) (by decide) (by omega)]
        exact fin
      · rw [decide_eq_false (fun w => c2 (List.cons.inj w).1 : ¬ [z] = [41])]
        rw [no (fun w => c2 (by have := w.2; rw [hz] at this; exact Option.some.inj this))] at fin
        walk_at "rl"
        exact fin
    · rw [decide_eq_false (fun w => c1 (List.cons.inj w).1 : ¬ [a] = [40])]
      rw [no (fun w => c1 (Option.some.inj w.1))] at fin
      walk_at "rl"
      exact fin
  · rw [dI (by rw [decide_eq_true_eq]; omega)]
    rw [no (fun w => by
      match u, w.1, w.2, c0 with
      | [], w1, _, _ => cases w1
      | [a], w1, w2, _ => cases w1; cases w2
      | a :: b :: r, _, _, c0 => simp at c0)] at fin
    walk_at "rl"
    exact fin
theorem o4 (h : qX ds μ Qd) : fq ‹Qd› (aS ["_law_text_here", "_law_body", "_law_under", "_law_cut", "_law_a", "_law_b"] ds) μ := by
  obtain ⟨l, rfl, ht, q⟩ := h
  have h2 := ht.2
  unfold fq
  walk_at "rl"
  rw [JE, ED]
  by_cases c : 47 ∈ l
  · obtain ⟨u, v, e, n⟩ := qd c
    have hcut : Cut l u [47] v := .at u v e n
    obtain ⟨tu, tv⟩ := hcut.tx ht
    rw [decide_eq_true c]
    obtain ⟨rest, ho⟩ := IF (v := v) n
    rw [← e] at ho
    walk_at "rl"
    refine ⟨u.length, rest, ho, aQ (by omega), aQ (by omega), ?_⟩
    rw [AQ, show ((u.length : Nat) : Int) + 1 = ((u.length + 1 : Nat) : Int) by omega, sE]
    have e1 : l.take u.length = u := by rw [e, List.take_left' rfl]
    have e2 : l.drop (u.length + 1) = v := by rw [e, show u ++ 47 :: v = (u ++ [47]) ++ v by simp, show u.length + 1 = (u ++ [47]).length by simp, List.drop_left' rfl]
    rw [e1, e2]
    refine ⟨v, rfl, tv, fun oc hoc => ?_⟩
    walk_at "rl"
    refine G3 ht tu (fun c' z => ((hoc c').mp z).2) (fun x hx => ?_) q
    have c1 : x.c ≠ 1 := fun z => by
      have : l = bf x := by rw [hx.1]; unfold bM; rw [if_pos z]
      exact qU x (by rw [← this]; exact c)
    have es : l = bf x ++ 47 :: whl x.c := by rw [hx.1]; unfold bM; rw [if_neg c1]
    obtain ⟨g1, g2⟩ := yc (e.symm.trans es) n (qU x)
    exact ⟨g1, (hoc x.c).mpr ⟨g2, hx.2.2.2.2⟩⟩
  · rw [decide_eq_false c]
    walk_at "rl"
    refine G3 (oc := some 1) ht ht (fun c' z => by cases z; unfold cf; decide +kernel) (fun x hx => ?_) q
    have c1 : x.c = 1 := by
      by_cases z : x.c = 1
      · exact z
      · exact absurd (by rw [hx.1]; unfold bM; rw [if_neg z]; exact List.mem_append_right _ List.mem_cons_self) c
    exact ⟨by rw [hx.1]; unfold bM; rw [if_pos c1], by rw [c1]⟩
theorem qI (h : nS ds μ Qd) : ig ‹Qd› (aS ["_law_text_here", "_law_due", "_law_told"] ds) μ := by
  obtain ⟨l, rfl, ht, q⟩ := h
  unfold ig
  walk_at "rl"
  refine ⟨l, rfl, ht, fun o μ1 ho h1 => ?_⟩
  cases o with
  | none =>
    rw [show oN none = .none from rfl]
    walk_at "rl"
    rw [tI, iE]
    walk_at "rl"
    refine ⟨.inr ⟨l, rfl, ht, fun x z => nomatch (ho x).mpr z⟩, fun μ2 h2 => ?_⟩
    walk_at "rl"
    rw [sP]
    refine ⟨by decide +kernel, by decide +kernel, ?_⟩
    rw [show PyData.eqv (.str "NoText") (.str "NoText") = true by decide +kernel]
    exact q μ2 fun b ds e => h2 b ds (h1 b ds e)
  | some x =>
    have hx := (ho x).mp rfl
    rw [show oN (some x) = PyData.tuple [.int x.a, .int x.b, .int x.c] from rfl]
    walk_at "rl"
    refine ⟨l, x, rfl, hx, fun μ2 h2 => ?_⟩
    walk_at "rl"
    refine ⟨dN x, rfl, by show 3 ≤ 1000; decide, ?_⟩
    rw [show isNum (dN x) = true from (sR x).mpr hx.2.1]
    walk_at "rl"
    exact q μ2 fun b ds e => h2 b ds (h1 b ds e)
end
open PySem PySem.Spec PyProof.Rows NM
theorem Fx {μ : Mu} {a b c f g h k l m n p} {d : D} {o : Rho} {Q : DK} : af 11 (a :: b :: c :: f :: g :: h :: k :: l :: m :: n :: p :: some d :: o) μ Q = Q d μ := propext Iff.rfl
theorem GF {μ : Mu} {a b c f g h k l m n p q} {d : D} {o : Rho} {Q : DK} : af 12 (a :: b :: c :: f :: g :: h :: k :: l :: m :: n :: p :: q :: some d :: o) μ Q = Q d μ := propext Iff.rfl
local macro_rules|`(tactic| walk_at "rl")=>mkW "↓Fx ↓GF ↓EG ↓Eg ↓CN ↓Ba ↓Dp ↓DD ↓xJ ↓zX ↓Au ↓l_t ↓l_f l_T l_F Jl Il ↓rO ↓EE ↓xb ↓zZ ↓wR ↓EF ↓Jh ↓xF ↓xl ↓Jc ↓H0 ↓HH ↓II ↓vU ↓zD dU mZ pq decide_true decide_false Bool.true_xor Bool.xor_true ↓wD ↓wI ↓xE ↓sr ↓wa ↓wc ↓xq ↓wW ↓xA ↓vN ↓rk ↓q_c ↓JL ↓q_B ↓Gm ↓Bn ↓Bo ↓zQ ↓ES ↓xw ↓zR ↓xu ↓Jk ↓vq ↓pj ↓yQ ↓zi ↓wU ↓yF ↓yM ↓yu ↓BR ↓Bx ↓tm ↓wZ ↓xg ↓sg ↓tK ↓tG ↓vW ↓sF ↓qk ↓Bh ↓Bj ↓AY ↓n6 ↓xC ↓HI ↓tL ↓xk ↓vB ↓BC ↓Fm ↓xB ↓Bt ↓BQ ↓mH ↓xr ↓qO ↓wG ↓wK ↓EW ↓BK ↓vG ↓tW ↓yW ↓xH ↓Ez ↓qW ↓AN ↓By ↓Bm ↓xn ↓xo ↓oG ↓rh ↓oH ↓pd EM xi vY BG BJ BS Option.bind_none Option.bind_some Option.join_some List.getElem?_cons_zero List.getElem?_cons_succ aS EI Ae zz zW Ee mU qA tO u7 ya List.map List.append List.replicate List.length_cons List.length_nil Nat.reduceAdd Nat.reduceSub List.nil_append List.cons_append List.set_cons_zero List.set_cons_succ Option.map_some Bool.not_true Bool.not_false Bool.false_eq_true Bool.true_eq_false Bool.xor_false Bool.false_xor"
section
variable {μ : Mu} {Qd : DK} {Xk : Mu → Prop} {ds : List D}
noncomputable def TA (n : Nat) (z : Str) : Prop := Asc z.cps.toList ∧ z.length ≤ n
theorem TA.mono {n m : Nat} {z : Str} (h : TA n z) (k : n ≤ m) : TA m z := ⟨h.1, Nat.le_trans h.2 k⟩
theorem TA.cat {n m : Nat} {z w : Str} (h : TA n z) (h' : TA m w) : TA (n + m) (z ++ w) := by
  refine ⟨fun c hc => ?_, by rw [PySem.Str.length_append]; have := h.2; have := h'.2; omega⟩
  rw [show (z ++ w).cps = z.cps ++ w.cps from rfl, Array.toList_append] at hc
  rcases List.mem_append.mp hc with g | g
  · exact h.1 c g
  · exact h'.1 c g
theorem TA.txt {n : Nat} {l : List Nat} (h : Asc l) (k : l.length ≤ n) : TA n (txt l) := ⟨h, by rw [ax]; exact k⟩
theorem TA.is {n : Nat} {z : Str} (h : TA n z) : ∃ l, z = DL.txt l ∧ Asc l ∧ l.length ≤ n := ⟨z.cps.toList, AI rfl, h.1, by rw [Array.length_toList]; exact h.2⟩
theorem cw {s : String} {n : Nat} (h : ((s.toList.map Char.toNat).all (fun c => decide (c < 128)) && decide ((s.toList.map Char.toNat).length ≤ n)) = true) : TA n (Str.ofString s) := by
  rw [lit]
  rw [Bool.and_eq_true] at h
  exact TA.txt (bw h.1) (of_decide_eq_true h.2)
theorem yX {z : Str} {idx : List Nat} {c : Nat} (h : c ∈ idx.filterMap (z.cps[·]?)) : c ∈ z.cps.toList := by
  obtain ⟨i, _, e⟩ := List.mem_filterMap.mp h
  rw [← Array.getElem?_toList] at e
  exact List.mem_of_getElem? e
theorem TA.slice {n : Nat} {z : Str} (h : TA n z) (lo hi : Option Int) : TA n (Txt.slice z lo hi) := by
  refine ⟨?_, Nat.le_trans (Txt.slice_le z lo hi) h.2⟩
  unfold Txt.slice
  split
  · exact h.1
  · intro c hc
    exact h.1 c (yX hc)
theorem TA.rev {n : Nat} {z : Str} (h : TA n z) : TA n (xZ z) := by
  refine ⟨fun c hc => h.1 c ?_, Nat.le_trans (A5 z) h.2⟩
  unfold xZ at hc
  exact yX hc
theorem TA.one {c : Nat} (h : c < 128) : TA 1 ⟨#[c]⟩ := TA.txt (l := [c]) (fun x hx => by rw [List.mem_singleton.mp hx]; exact h) (Nat.le_refl _)
theorem TA.at {n : Nat} {z : Str} (h : TA n z) {i : Int} (h0 : 0 ≤ i) (h1 : i < (z.length : Nat)) : ∃ c, atI z.cps.toList i = some c ∧ c < 128 := by
  obtain ⟨c, e, m⟩ := kS (xs := z.cps.toList) h0 (by rw [Array.length_toList]; exact h1)
  exact ⟨c, e, h.1 c m⟩
theorem ui (h : o9 ds μ Qd) : jU ‹Qd› (aS [] ds) μ := by
  obtain ⟨rfl, q⟩ := h
  unfold jU
  walk_at "rl"
  exact q
theorem IB {a : Addr} {l : List Nat} {x2 : Option D} {r e : Int} {z : Str} (hl : Asc l) (h2 : l.length ≤ 1400) (hz : TA 1 z) (hb : Bag μ a)
    (q : ∀ l' μ', Asc l' → l'.length ≤ 2 * l.length + 1 → Step a μ μ' → Qd (.v (.str (txt l'))) μ') :
    eJ ‹Qd› [some (.m a), some (.v (.str (txt l))), x2, some (.v (.int r)), some (.v (.str z)), some (.v (.int e)), none] μ := by
  have t : TA l.length (txt l) := TA.txt hl (Nat.le_refl _)
  have s1 := t.slice none (some r)
  have s2 := t.slice (some r) none
  have s3 := t.slice (some (r + 1)) none
  have s4 := t.slice none (some e)
  have s5 := t.rev
  have tl := ax l
  unfold eJ
  walk_at "rl"
  generalize Txt.slice (txt l) none (some r) = z1 at *
  generalize Txt.slice (txt l) (some r) none = z2 at *
  generalize Txt.slice (txt l) (some (r + 1)) none = z3 at *
  generalize Txt.slice (txt l) none (some e) = z4 at *
  generalize xZ (txt l) = z5 at *
  have b1 := s1.2
  have b2 := s2.2
  have b3 := s3.2
  have b4 := s4.2
  have b0 := hz.2
  simp only [PySem.Str.length_append, tl]
  iterate 19 (refine ⟨by omega, ?_⟩)
  refine ⟨a, 6, rfl, by decide, by decide, hb, fun r2 μ2 r0 r1 st => ?_⟩
  have all : ∀ d ∈ [PyData.str (z1 ++ z ++ z2), PyData.str (z1 ++ z3), PyData.str (z1 ++ z ++ z3), PyData.str (z4 ++ z2), PyData.str z5, PyData.str (z2 ++ z1)], ∃ w, d = .str w ∧ TA (2 * l.length + 1) w := fun d hd => by
    simp only [List.mem_cons, List.not_mem_nil, or_false] at hd
    rcases hd with rfl | rfl | rfl | rfl | rfl | rfl
    · exact ⟨_, rfl, ((s1.cat hz).cat s2).mono (by omega)⟩
    · exact ⟨_, rfl, (s1.cat s3).mono (by omega)⟩
    · exact ⟨_, rfl, ((s1.cat hz).cat s3).mono (by omega)⟩
    · exact ⟨_, rfl, (s4.cat s2).mono (by omega)⟩
    · exact ⟨_, rfl, s5.mono (by omega)⟩
    · exact ⟨_, rfl, (s2.cat s1).mono (by omega)⟩
  walk_at "rl"
  obtain ⟨d, e1, m⟩ := kS (xs := [PyData.str (z1 ++ z ++ z2), PyData.str (z1 ++ z3), PyData.str (z1 ++ z ++ z3), PyData.str (z4 ++ z2), PyData.str z5, PyData.str (z2 ++ z1)]) r0 (by exact r1)
  rw [e1]
  obtain ⟨w, rfl, tw⟩ := all d m
  obtain ⟨l', rfl, h3, h4⟩ := tw.is
  exact q l' μ2 h3 h4 st
theorem C2 {a : Addr} {l : List Nat} {x2 : Option D} {r : Int} {z : Str} (hl : Asc l) (h2 : l.length ≤ 1400) (hz : TA 1 z) (hb : Bag μ a)
    (q : ∀ l' μ', Asc l' → l'.length ≤ 2 * l.length + 1 → Step a μ μ' → Qd (.v (.str (txt l'))) μ') :
    eC ‹Qd› [some (.m a), some (.v (.str (txt l))), x2, some (.v (.int r)), some (.v (.str z)), none, none] μ := by
  unfold eC
  walk_at "rl"
  refine ⟨aQ (by omega), a, 6, rfl, by decide, by decide, hb, fun r2 μ2 r0 r1 s1 => ?_⟩
  walk_at "rl"
  exact IB hl h2 hz s1.1 fun l' μ' g1 g2 s2 => q l' μ' g1 g2 (s1.trans s2)
theorem FY : TA 100 (Str.ofString " !#$&'()*+,-./0123456789:;<=>?@ABCDEFGHIJKLMNOPQRSTUVWXYZ[]^_`abcdefghijklmnopqrstuvwxyz{|}~\"\\") := cw (by decide +kernel)
theorem GV : 1 ≤ (Str.ofString " !#$&'()*+,-./0123456789:;<=>?@ABCDEFGHIJKLMNOPQRSTUVWXYZ[]^_`abcdefghijklmnopqrstuvwxyz{|}~\"\\").length := by decide +kernel
theorem oK (h : rm ds μ Qd) : fE ‹Qd› (aS ["_law_bag_here", "_law_text_here", "_law_few", "_law_at", "_law_sign", "_law_end", "_law_some"] ds) μ := by
  obtain ⟨a, l, f, rfl, hb, hf, f1, f2, hl, h2, q⟩ := h
  have tf : TA f.length (txt f) := TA.txt hf (Nat.le_refl _)
  unfold fE
  walk_at "rl"
  refine ⟨aQ (by omega), a, _, rfl, by omega, by rw [ax]; omega, hb, fun r μ1 r0 r1 s1 => ?_⟩
  walk_at "rl"
  refine ⟨aQ (by omega), a, _, rfl, by rw [ax]; omega, by rw [ax]; omega, s1.1, fun i μ2 i0 i1 s2 => ?_⟩
  obtain ⟨c, ec, hc⟩ := tf.at i0 i1
  walk_at "rl"
  refine ⟨c, aQ (by omega), ec, a, 4, rfl, by decide, by decide, s2.1, fun k μ3 k0 k1 s3 => ?_⟩
  have s13 := s1.trans (s2.trans s3)
  walk_at "rl"
  by_cases k4 : k = 0
  · rw [ez (decide_eq_true k4)]
    have sl := FY
    have sp := GV
    walk_at "rl"
    refine ⟨rfl, ?_⟩
    walk_at "rl"
    refine ⟨rfl, ?_⟩
    walk_at "rl"
    have sl2 := sl.2
    refine ⟨by omega, a, _, rfl, by omega, by omega, s3.1, fun j μ4 j0 j1 s4 => ?_⟩
    obtain ⟨c', ec', hc'⟩ := sl.at j0 j1
    walk_at "rl"
    refine ⟨c', by omega, ec', ?_⟩
    exact C2 hl h2 (TA.one hc') s4.1 fun l' μ' g1 g2 s5 => q l' μ' g1 g2 (s13.trans (s4.trans s5))
  · rw [dI (by rw [decide_eq_true_eq]; exact k4)]
    walk_at "rl"
    exact C2 hl h2 (TA.one hc) s3.1 fun l' μ' g1 g2 s5 => q l' μ' g1 g2 (s13.trans s5)
end
open PySem PySem.Spec PyProof.Rows NM
section
variable {μ : Mu} {Qd : DK} {Xk : Mu → Prop} {ds : List D}
theorem zf (x : Array Nat) {c : Nat} : ∀ (k : Nat) (a : Array Nat), c ∈ ((List.replicate k x).foldl (· ++ ·) a).toList → c ∈ a.toList ∨ c ∈ x.toList
  | 0, a, h => .inl (by simpa using h)
  | k + 1, a, h => by
    rw [List.replicate_succ, List.foldl_cons] at h
    rcases zf x k _ h with g | g
    · rw [Array.toList_append] at g
      rcases List.mem_append.mp g with g | g
      · exact .inl g
      · exact .inr g
    · exact .inr g
theorem TA.rep {n m : Nat} {z : Str} {i : Int} (h : TA n z) (hm : i.toNat * n ≤ m) : TA m (AU i z) := by
  refine ⟨fun c hc => ?_, by rw [xS]; exact Nat.le_trans (Nat.mul_le_mul_left _ h.2) hm⟩
  rcases zf z.cps _ _ hc with g | g
  · cases g
  · exact h.1 c g
theorem pU {i : Int} (h : cf i) : TA 41 (Str.ofString (toString i)) := by
  rw [tos]
  exact TA.txt (oW i) (d5 h)
theorem J9 {b : Int} (h : cf b) : TA 42 (txt (rt b)) := by
  refine TA.txt ?_ (sW h)
  rw [lr]
  refine rg ?_ (bw rfl)
  unfold rtm
  split
  · exact bw rfl
  · split
    · exact bw rfl
    · exact oW b
theorem pV {i : Int} (h : Sz 20 i) : cf i := by
  unfold Sz at h
  exact Nat.lt_trans h (by decide +kernel)
theorem Bf {i m : Int} (h : Sz 20 i) (h1 : 1 ≤ m) (h2 : m ≤ 9) : cf (i * m) := by
  unfold Sz at h
  unfold cf
  rw [Int.natAbs_mul]
  have : i.natAbs * m.natAbs ≤ 2 ^ 20 * 9 := Nat.mul_le_mul (Nat.le_of_lt h) (by omega)
  exact Nat.lt_of_le_of_lt this (by decide +kernel)
theorem Hx {a : Addr} {x : N3} {x1 : Option D} {T U R S W H : Str} {m : Int} (bx : Bd 20 x) (hT : TA 41 T) (hU : TA 41 U) (hR : TA 42 R) (hS : TA 1 S) (m1 : 1 ≤ m) (m2 : m ≤ 9) (hW : TA 60 W) (hH : TA 90 H) (hb : Bag μ a)
    (q : ∀ l' μ', Tx l' → lp a μ μ' → Qd (.v (.str (txt l'))) μ') :
    gC ‹Qd› [some (.m a), x1, some (.v (.int x.a)), some (.v (.int x.b)), some (.v (.int x.c)), some (.v (.str T)), some (.v (.str U)), some (.v (.str R)), some (.v (.str S)), some (.v (.int m)), some (.v (.str W)), some (.v (.str H)), none] μ := by
  obtain ⟨ba, bb, bc⟩ := bx
  have am := Bf ba m1 m2
  have cm := Bf bc m1 m2
  have tA := pU am
  have tC := pU cm
  unfold gC
  walk_at "rl"
  have a1 := tA.2
  have c1 := tC.2
  have a2 := hT.2
  have a3 := hU.2
  have a4 := hR.2
  have a5 := hW.2
  have a6 := hH.2
  have q1 : TA 1 (Str.ofString "/") := cw (by decide +kernel)
  have q2 : TA 1 (Str.ofString "0") := cw (by decide +kernel)
  have q3 : TA 1 (Str.ofString "(") := cw (by decide +kernel)
  have q4 : TA 1 (Str.ofString ")") := cw (by decide +kernel)
  have q5 : TA 2 (Str.ofString ")/") := cw (by decide +kernel)
  have q6 : TA 2 (Str.ofString "/1") := cw (by decide +kernel)
  have q7 : TA 1 (Str.ofString "+") := cw (by decide +kernel)
  have q8 : TA 2 (Str.ofString "1/") := cw (by decide +kernel)
  have q9 : TA 1 (Str.ofString "r") := cw (by decide +kernel)
  have k1 : TA 4 (Str.ofString "-0") := cw (by decide +kernel)
  have k2 : TA 4 (Str.ofString "0r") := cw (by decide +kernel)
  have k3 : TA 4 (Str.ofString "1r") := cw (by decide +kernel)
  have k4 : TA 4 (Str.ofString "-1r") := cw (by decide +kernel)
  have k5 : TA 4 (Str.ofString "0+r") := cw (by decide +kernel)
  have k6 : TA 4 (Str.ofString "r/0") := cw (by decide +kernel)
  have k7 : TA 4 (Str.ofString "1/-2") := cw (by decide +kernel)
  have lA := tZ am
  have lC := tZ cm
  generalize Str.ofString (toString (x.a * m)) = zA at *
  generalize Str.ofString (toString (x.c * m)) = zC at *
  generalize Str.ofString "/" = w1 at *
  generalize Str.ofString "0" = w2 at *
  generalize Str.ofString "(" = w3 at *
  generalize Str.ofString ")" = w4 at *
  generalize Str.ofString ")/" = w5 at *
  generalize Str.ofString "/1" = w6 at *
  generalize Str.ofString "+" = w7 at *
  generalize Str.ofString "1/" = w8 at *
  generalize Str.ofString "r" = w9 at *
  generalize Str.ofString "-0" = v1 at *
  generalize Str.ofString "0r" = v2 at *
  generalize Str.ofString "1r" = v3 at *
  generalize Str.ofString "-1r" = v4 at *
  generalize Str.ofString "0+r" = v5 at *
  generalize Str.ofString "r/0" = v6 at *
  generalize Str.ofString "1/-2" = v7 at *
  have b1 := q1.2
  have b2 := q2.2
  have b3 := q3.2
  have b4 := q4.2
  have b5 := q5.2
  have b6 := q6.2
  have b7 := q7.2
  have b8 := q8.2
  have b9 := q9.2
  simp only [PySem.Str.length_append]
  refine ⟨mulR (by omega), lA, by omega, mulR (by omega), lC, ?_⟩
  iterate 22 (refine ⟨by omega, ?_⟩)
  refine ⟨a, 20, rfl, by decide, by decide, hb, fun r2 μ2 r0 r1 st => ?_⟩
  walk_at "rl"
  have all : ∀ d ∈ [PyData.str (zA ++ w1 ++ zC), .str (w2 ++ T), .str (w3 ++ T ++ w4), .str (w3 ++ R ++ w5 ++ U), .str (T ++ w6), .str (w7 ++ T), .str (H ++ w1 ++ U), .str (w3 ++ H ++ w4), .str (R ++ w7 ++ T), .str W, .str (w8 ++ W), .str (W ++ w9), .str v1, .str v2, .str v3, .str v4, .str v5, .str v6, .str v7, .str (T ++ w7 ++ R)], ∃ w, d = .str w ∧ TA 3000 w := fun d hd => by
    simp only [List.mem_cons, List.not_mem_nil, or_false] at hd
    rcases hd with rfl | rfl | rfl | rfl | rfl | rfl | rfl | rfl | rfl | rfl | rfl | rfl | rfl | rfl | rfl | rfl | rfl | rfl | rfl | rfl
    · exact ⟨_, rfl, ((tA.cat q1).cat tC).mono (by omega)⟩
    · exact ⟨_, rfl, (q2.cat hT).mono (by omega)⟩
    · exact ⟨_, rfl, ((q3.cat hT).cat q4).mono (by omega)⟩
    · exact ⟨_, rfl, (((q3.cat hR).cat q5).cat hU).mono (by omega)⟩
    · exact ⟨_, rfl, (hT.cat q6).mono (by omega)⟩
    · exact ⟨_, rfl, (q7.cat hT).mono (by omega)⟩
    · exact ⟨_, rfl, ((hH.cat q1).cat hU).mono (by omega)⟩
    · exact ⟨_, rfl, ((q3.cat hH).cat q4).mono (by omega)⟩
    · exact ⟨_, rfl, ((hR.cat q7).cat hT).mono (by omega)⟩
    · exact ⟨_, rfl, hW.mono (by omega)⟩
    · exact ⟨_, rfl, (q8.cat hW).mono (by omega)⟩
    · exact ⟨_, rfl, (hW.cat q9).mono (by omega)⟩
    · exact ⟨_, rfl, k1.mono (by omega)⟩
    · exact ⟨_, rfl, k2.mono (by omega)⟩
    · exact ⟨_, rfl, k3.mono (by omega)⟩
    · exact ⟨_, rfl, k4.mono (by omega)⟩
    · exact ⟨_, rfl, k5.mono (by omega)⟩
    · exact ⟨_, rfl, k6.mono (by omega)⟩
    · exact ⟨_, rfl, k7.mono (by omega)⟩
    · exact ⟨_, rfl, ((hT.cat q7).cat hR).mono (by omega)⟩
  obtain ⟨d, e1, hm⟩ := kS (xs := [PyData.str (zA ++ w1 ++ zC), .str (w2 ++ T), .str (w3 ++ T ++ w4), .str (w3 ++ R ++ w5 ++ U), .str (T ++ w6), .str (w7 ++ T), .str (H ++ w1 ++ U), .str (w3 ++ H ++ w4), .str (R ++ w7 ++ T), .str W, .str (w8 ++ W), .str (W ++ w9), .str v1, .str v2, .str v3, .str v4, .str v5, .str v6, .str v7, .str (T ++ w7 ++ R)]) r0 (by exact r1)
  rw [e1]
  obtain ⟨w, rfl, tw⟩ := all d hm
  obtain ⟨l', rfl, h3, h4⟩ := tw.is
  exact q l' μ2 ⟨h3, h4⟩ st.w
theorem Dn {a : Addr} {x : N3} {x1 : Option D} {T U R S : Str} (bx : Bd 20 x) (hT : TA 41 T) (hU : TA 41 U) (hR : TA 42 R) (hS : TA 1 S) (hb : Bag μ a)
    (q : ∀ l' μ', Tx l' → lp a μ μ' → Qd (.v (.str (txt l'))) μ') :
    fZ ‹Qd› [some (.m a), x1, some (.v (.int x.a)), some (.v (.int x.b)), some (.v (.int x.c)), some (.v (.str T)), some (.v (.str U)), some (.v (.str R)), some (.v (.str S)), none, none, none, none] μ := by
  have a2 := hT.2
  have a3 := hS.2
  have a4 := hR.2
  have q1 : TA 1 (Str.ofString "1") := cw (by decide +kernel)
  have q2 : TA 1 (Str.ofString "0") := cw (by decide +kernel)
  have z1 : 1 ≤ (Str.ofString "0").length := by decide +kernel
  unfold fZ
  walk_at "rl"
  refine ⟨a, 9, rfl, by decide, by decide, hb, fun r μ1 r0 r1 s1 => ?_⟩
  walk_at "rl"
  refine ⟨a, 4, rfl, by decide, by decide, s1.1, fun k μ2 k0 k1 s2 => ?_⟩
  walk_at "rl"
  have tr : TA 50 (AU (38 + k) (Str.ofString "0")) := q2.rep (by omega)
  have tr2 := tr.2
  have q12 := q1.2
  have q22 := q2.2
  refine ⟨by omega, by omega, z1, by omega, by omega, by omega, by rw [PySem.Str.length_append]; omega, ?_⟩
  exact Hx bx hT hU hR hS (by omega) (by omega) ((q1.cat tr).mono (by omega)) (((hT.cat hS).cat hR).mono (by omega)) s2.1 fun l' μ' g s3 => q l' μ' g ((s1.trans s2).w.trans s3)
theorem EY {a : Addr} {x : N3} {x1 : Option D} {T U R : Str} (bx : Bd 20 x) (hT : TA 41 T) (hU : TA 41 U) (hR : TA 42 R) (hb : Bag μ a)
    (q : ∀ l' μ', Tx l' → lp a μ μ' → Qd (.v (.str (txt l'))) μ') :
    gq ‹Qd› [some (.m a), x1, some (.v (.int x.a)), some (.v (.int x.b)), some (.v (.int x.c)), some (.v (.str T)), some (.v (.str U)), some (.v (.str R)), none, none, none, none, none] μ := by
  unfold gq
  walk_at "rl"
  refine J8 (fun _ => ?_) fun _ => ?_
  · walk_at "rl"
    exact Dn bx hT hU hR (cw (by decide +kernel)) hb q
  · walk_at "rl"
    exact Dn bx hT hU hR (cw (by decide +kernel)) hb q
theorem rT (h : oA ds μ Qd) : jk ‹Qd› (aS ["_law_bag_here", "_law_x", "_law_a", "_law_b", "_law_c", "_law_top", "_law_under", "_law_roots_here", "_law_sign", "_law_many", "_law_wide", "_law_whole_here", "_law_some"] ds) μ := by
  obtain ⟨a, x, rfl, hb, bx, q⟩ := h
  have ba := pV bx.a
  have bb := pV bx.b
  have bc := pV bx.c
  unfold jk
  walk_at "rl"
  refine ⟨tZ ba, tZ bc, ?_⟩
  by_cases c : x.b = 0
  · rw [decide_eq_true c]
    walk_at "rl"
    exact EY bx (pU ba) (pU bc) (cw (by decide +kernel)) hb q
  · rw [decide_eq_false c]
    walk_at "rl"
    refine ⟨x.b, rfl, bb, fun μ1 h1 => ?_⟩
    have s1 : lp a μ μ1 := .of hb h1
    exact EY bx (pU ba) (pU bc) (J9 bb) s1.1 fun l' μ' g s2 => q l' μ' g (s1.trans s2)
end
open PySem PySem.Spec PyProof.Rows NM
noncomputable def tH : DTS :=
  (bH (fA (dB (dCB mY (ae (kF [none] (sJ (je (ae (af 7) (ae (af 9) (ae (ay oA (ae (af 3) (ae (af 4) ao))) (ae (af 5) ao)))))) (aj 0) oQ (ay nS (ae (af 0) ao))) ao)))) (bJ (dC (.bool false))) aY)
noncomputable def tV : DTS :=
  (aG (aP (wu (dC (.str "")) (kF [none, some 1, some 3] (qc (ae (ay cK (ae (af 3) (ae (dC (.int 8)) ao))) ao)) (aj 0) oQ (dOp lY (af 1) (ay cK (ae (af 2) (ae (dCB jf (ae (af 1) ao)) ao)))))) (aj 9))
  (tH))
noncomputable def tq : DTS :=
  (aG (aP (ay AX (ae (af 3) ao)) (aj 10))
  (bH (kf (dB (dOp (bt true) (af 10) (dC (.str "1")))) (dB (dOp (bt true) (nU [some 10] (lS j8 (ae (af 0) ao)) "NoText") (dC (.str "NoText"))))) (bJ (dC (.bool false))) aY))
noncomputable def sh : DTS :=
  (bJ (rK (dOp (bt false) (ay lJ (ae (dC (.str "r")) ao)) (dO (ae (dC (.int 0)) (ae (dC (.int 1)) (ae (dC (.int 1)) ao))))) (dOp (bt false) (nU [] (lS j8 (ae (dO (ae (dC (.str "r")) ao)) ao)) "NoText") (dC (.str "NoText")))))
noncomputable def Aa : DTS :=
  (aG (aP (dC (.str "0123456789rr+-/() ")) (aj 1))
  (aG (Ct (qc (ae (dCB (xD max) (ae (dC (.int 2)) (ae (dCB (xD min) (ae (dC (.int 6)) (ae (dCB ng (ae (af 0) ao)) ao))) ao))) ao)) (aj 2) (aG (aP (ay BB (ae (af 0) (ae (af 2) ao))) (aj 3))
  (aG (aP (ay mx (ae (af 3) ao)) (aj 4))
  (aG (aP (ay gN (ae (af 4) ao)) (aj 5))
  (aG (Ct (qc (ae (dC (.int 6)) ao)) (aj 6) (aG (aP (af 5) (aj 7))
  (aG (Ct (qc (ae (mL (dC (.int 1)) (ay cK (ae (af 3) (ae (dC (.int 3)) ao)))) ao)) (aj 8) (aP (ay rm (ae (af 3) (ae (af 7) (ae (af 1) ao)))) (aj 7)))
  (tV))))
  (tq))))))
  (sh)))
section
variable {μ : Mu} {Qd : DK} {Xk : Mu → Prop} {ds : List D}
theorem zd : ∀ (cs : List Nat) (l : List Nat), List.foldl (fun (acc : Array Nat) (p : Str) => acc ++ (txt []).cps ++ p.cps) l.toArray (cs.map fun c => txt [c]) = (l ++ cs).toArray
  | [], l => by simp
  | c :: r, l => by
    rw [List.map_cons, List.foldl_cons]
    have e : l.toArray ++ (txt []).cps ++ (txt [c]).cps = (l ++ [c]).toArray := by unfold txt; simp
    rw [e, zd r (l ++ [c])]
    simp
theorem join_ones (cs : List Nat) : lP (txt []) (cs.map fun c => txt [c]) = txt cs := by
  unfold lP
  split
  · rename_i p hp
    cases cs with
    | nil => cases hp
    | cons l r =>
      cases r with
      | nil => cases hp; rfl
      | cons _ _ => cases hp
  · cases cs with
    | nil => rfl
    | cons l r =>
      show (⟨_⟩ : Str) = _
      unfold txt
      congr 1
      exact zd r [l]
theorem yz (cs : List Nat) : jR (cs.map fun c => PyData.str ⟨#[c]⟩) = some (cs.map fun c => txt [c]) := by
  induction cs with
  | nil => rfl
  | cons l r ih => rw [List.map_cons, jR, ih]; rfl
theorem yP (cs : List Nat) : pZ 0 (cs.map fun c => txt [c]) = cs.length := by
  unfold pZ
  rw [List.foldl_toArray]
  have : ∀ (cs : List Nat) (k : Nat), List.foldl (fun k (w : Str) => k + w.length + 0) k (cs.map fun c => txt [c]) = k + cs.length := by
    intro cs
    induction cs with
    | nil => intro k; rfl
    | cons c r ih => intro k; rw [List.map_cons, List.foldl_cons, ih, ax, List.length_cons]; simp; omega
  rw [this]; omega
theorem Bag.up {a : Addr} {μ μ' : Mu} (hb : Bag μ a) (h : ∀ b ds, μ b = some ds → μ' b = some ds) : Bag μ' a := by obtain ⟨g, m, e, z⟩ := hb; exact ⟨g, m, h _ _ e, z⟩
theorem Bag.set {a p : Addr} {μ : Mu} {xs : List PyData} (hb : Bag μ a) (n : p ≠ a) : Bag (aE μ p xs) a := by obtain ⟨g, m, e, z⟩ := hb; exact ⟨g, m, by rw [cN (fun z => n z.symm)]; exact e, z⟩
theorem Bag.del {a p : Addr} {μ : Mu} (hb : Bag μ a) (n : p ≠ a) : Bag (gZ μ p) a := by obtain ⟨g, m, e, z⟩ := hb; exact ⟨g, m, by rw [C1 (fun z => n z.symm)]; exact e, z⟩
theorem Bag.new {a p : Addr} {μ : Mu} (hb : Bag μ a) (hp : μ p = none) : p ≠ a := fun z => by obtain ⟨g, k, e, _⟩ := hb; rw [z, e] at hp; cases hp
theorem J5 {ρ : Rho} {Dd : qB} (q : ∀ μ', Dd.rt (.v (.bool true)) μ') : sh Dd ρ μ := by
  unfold sh
  walk_at "rl"
  refine ⟨[114], ⟨0, 1, 1⟩, by rw [Iq], ⟨by decide +kernel, ⟨by decide, by decide +kernel⟩, by unfold lK cf; decide +kernel⟩, fun μ1 h1 => ?_⟩
  rw [show dN ⟨0, 1, 1⟩ = PyData.tuple [.int 0, .int 1, .int 1] from rfl]
  walk_at "rl"
  refine ⟨by decide +kernel, by decide +kernel, ?_⟩
  rw [show PyData.eqv (dN ⟨0, 1, 1⟩) (dN ⟨0, 1, 1⟩) = true by decide +kernel]
  walk_at "rl"
  rw [tI, iE]
  walk_at "rl"
  refine ⟨.inl ⟨_, rfl, rfl⟩, fun μ2 h2 => ?_⟩
  walk_at "rl"
  rw [sP]
  refine ⟨by decide +kernel, by decide +kernel, ?_⟩
  rw [show PyData.eqv (.str "NoText") (.str "NoText") = true by decide +kernel]
  exact q μ2
theorem J4 {ns : List Int} {a : Addr} {x : N3} {R l7 l9 : List Nat} {r1 r2 r6 r8 r10 : Option D} {Dd : qB} (hb : Bag μ a) (bx : Bd 20 x) (tR : Tx R) (t7 : Tx l7) (t9 : Tx l9)
    (q : ∀ μ', Bag μ' a → Dd.nx [some (.s ns), r1, r2, some (.m a), some (.v (dN x)), some (.v (.str (txt R))), r6, some (.v (.str (txt l7))), r8, some (.v (.str (txt l9))), r10] μ') :
    tH Dd [some (.s ns), r1, r2, some (.m a), some (.v (dN x)), some (.v (.str (txt R))), r6, some (.v (.str (txt l7))), r8, some (.v (.str (txt l9))), r10] μ := by
  unfold tH
  walk_at "rl"
  rw [qN]
  walk_at "rl"
  refine ⟨a, x, rfl, hb, bx, fun l3 μ1 t3 s1 => ?_⟩
  walk_at "rl"
  refine ⟨by decide, fun p hp => ?_⟩
  have pa := s1.1.new hp
  refine ⟨fun i acc μ' => acc = (List.replicate i ()).map (fun _ => PyData.bool true) ∧ Bag μ' a, ⟨rfl, s1.1.set pa⟩, ?_, ?_⟩
  · rintro i d acc μ' hx hacc ⟨rfl, hb'⟩
    have hd : ∃ l, d = .str (txt l) ∧ Tx l := by
      have := List.mem_of_getElem? hx
      simp only [List.mem_cons, List.not_mem_nil, or_false] at this
      rcases this with rfl | rfl | rfl | rfl
      · exact ⟨_, rfl, t7⟩
      · exact ⟨_, rfl, t9⟩
      · exact ⟨_, rfl, t3⟩
      · exact ⟨_, rfl, tR⟩
    obtain ⟨l, rfl, tl⟩ := hd
    walk_at "rl"
    refine ⟨trivial, ?_⟩
    refine ⟨l, rfl, tl, fun μ2 h2 => ?_⟩
    walk_at "rl"
    refine ⟨h2 _ _ hacc, ?_, (hb'.up h2).set pa⟩
    rw [List.map_replicate, ← List.replicate_succ', List.replicate_succ]
  · rintro acc μ' ⟨rfl, hb'⟩ hacc
    walk_at "rl"
    rw [show cM [PyData.bool true, .bool true, .bool true, .bool true] = some [true, true, true, true] from rfl]
    dsimp only
    rw [show ([true, true, true, true].all id) = true from rfl]
    walk_at "rl"
    exact q _ (hb'.del pa)
theorem Kq {ns : List Int} {a : Addr} {x : N3} {R l7 f : List Nat} {r2 r6 r8 r9 r10 : Option D} {Dd : qB} (hb : Bag μ a) (bx : Bd 20 x) (tR : Tx R) (t7 : Tx l7) (tf : Tx f) (f1 : 1 ≤ f.length)
    (q : ∀ l9 μ', Bag μ' a → Dd.nx [some (.s ns), some (.v (.str (txt f))), r2, some (.m a), some (.v (dN x)), some (.v (.str (txt R))), r6, some (.v (.str (txt l7))), r8, some (.v (.str (txt l9))), r10] μ') :
    tV Dd [some (.s ns), some (.v (.str (txt f))), r2, some (.m a), some (.v (dN x)), some (.v (.str (txt R))), r6, some (.v (.str (txt l7))), r8, r9, r10] μ := by
  have f2 := tf.2
  have ta : TA f.length (txt f) := TA.txt tf.1 (Nat.le_refl _)
  unfold tV
  walk_at "rl"
  rw [qN]
  walk_at "rl"
  refine ⟨a, 8, rfl, by decide, by decide, hb, fun n μ1 n0 n1 s1 => ?_⟩
  walk_at "rl"
  rw [Du]
  refine ⟨by omega, by omega, fun p hp => ?_⟩
  have pa := s1.1.new hp
  refine ⟨fun i acc μ' => ∃ cs : List Nat, acc = cs.map (fun c => PyData.str ⟨#[c]⟩) ∧ cs.length = i ∧ Asc cs ∧ Bag μ' a, ⟨[], rfl, rfl, (fun _ z => nomatch z), s1.1.set pa⟩, ?_, ?_⟩
  · rintro i d acc μ' hx hacc ⟨cs, rfl, hl, hA, hb'⟩
    walk_at "rl"
    refine ⟨⟨trivial, trivial, trivial⟩, ?_⟩
    rw [if_pos trivial]
    refine ⟨aQ (by omega), a, _, rfl, by rw [ax]; omega, by rw [ax]; omega, hb', fun k μ2 k0 k1 s2 => ?_⟩
    obtain ⟨c, ec, hc⟩ := ta.at k0 k1
    walk_at "rl"
    refine ⟨c, aQ (by omega), ec, by rw [s2.2 p pa]; exact hacc, cs ++ [c], by simp, by simp [hl], rg hA (fun y hy => by rw [List.mem_singleton.mp hy]; exact hc), s2.1.set pa⟩
  · rintro acc μ' ⟨cs, rfl, hl, hA, hb'⟩ hacc
    have hl' : cs.length ≤ 7 := by rw [hl]; omega
    refine ⟨_, _, rfl, yz cs, ?_, ?_, ?_⟩
    · rw [yV, ax]
      show pZ 0 _ ≤ _
      rw [yP]; omega
    · rw [yV, join_ones, ax]; omega
    · rw [yV, join_ones]
      exact J4 (hb'.del pa) bx tR t7 ⟨hA, by omega⟩ fun μ2 hb2 => q cs μ2 hb2
theorem rZ {x : N3} {c : Nat} (h : c ∈ bf x) : c ≤ 57 ∨ c = 114 := by
  rcases eX x with e | e
  · rw [e] at h; have := gc c h; omega
  · rw [e] at h
    rcases List.mem_append.mp h with z | z
    · rcases List.mem_cons.mp z with z | z
      · omega
      · have := gc c z; omega
    · have := List.mem_singleton.mp z; omega
theorem zw {x : N3} {c : Nat} (h : c ∈ bM x) : c ≤ 57 ∨ c = 114 := by
  unfold bM at h
  split at h
  · exact rZ h
  · rcases List.mem_append.mp h with z | z
    · exact rZ z
    · rcases List.mem_cons.mp z with z | z
      · omega
      · have := o8 x.c c z; omega
theorem IJ (a b : Int) : cX a b ≠ [] := by
  unfold cX
  split
  · exact qa a
  · split
    · rw [lr]; simp
    · unfold eD; rw [lr]; simp
theorem Gr (x : N3) : bM x ≠ [] := by
  have hb : bf x ≠ [] := by
    rcases eX x with e | e
    · rw [e]; exact IJ _ _
    · rw [e]; simp
  unfold bM
  split
  · exact hb
  · simp
def Hn (d : PyData) : Bool := SeqAt.shaped d && (PyData.eqv d (.str "1") || (!(isT "str" d)) || PyData.eqv d (.str "") || PyData.eqv d (.str "a"))
theorem GP : ∀ d ∈ rj, Hn d = true := by decide +kernel
theorem Bq {d : PyData} {z : Str} (hz : SeqAt.shaped (.str z) = true) (h : isT "str" d = true) (e : PyData.eqv d (.str z) = true) : d = .str z := by
  cases d with
  | str w => rw [show PyData.eqv (.str w) (.str z) = (w == z) from rfl] at e; rw [eq_of_beq e]
  | _ => cases h
theorem Ky {ns : List Int} {a : Addr} {r1 r2 r4 r5 r6 r7 r8 r9 r10 : Option D} {Dd : qB} (hb : Bag μ a)
    (q : ∀ d μ', Dd.nx [some (.s ns), r1, r2, some (.m a), r4, r5, r6, r7, r8, r9, some d] μ') :
    tq Dd [some (.s ns), r1, r2, some (.m a), r4, r5, r6, r7, r8, r9, r10] μ := by
  unfold tq
  walk_at "rl"
  refine ⟨a, rfl, hb, fun d μ1 hd s1 => ?_⟩
  have ho := GP d hd
  unfold Hn at ho
  rw [Bool.and_eq_true] at ho
  walk_at "rl"
  rw [sP]
  refine ⟨ho.1, by decide +kernel, ?_⟩
  cases e1 : PyData.eqv d (.str "1") with
  | true =>
    walk_at "rl"
    exact q _ μ1
  | false =>
    have hx : (isT "str" d = false) ∨ ∃ l : List Nat, d = .str (txt l) ∧ Tx l ∧ ∀ x, ¬ IsS l x := by
      have h2 := ho.2
      rw [e1, Bool.false_or, Bool.or_eq_true, Bool.or_eq_true] at h2
      cases es : isT "str" d with
      | false => exact .inl rfl
      | true =>
        rcases h2 with (h2 | h2) | h2
        · rw [es] at h2; cases h2
        · refine .inr ⟨[], by rw [Bq (by decide +kernel) es h2, yV], ⟨bw rfl, by decide⟩, fun x z => Gr x z.1.symm⟩
        · refine .inr ⟨[97], by rw [Bq (by decide +kernel) es h2, lit]; rfl, ⟨bw rfl, by decide⟩, fun x z => ?_⟩
          have := zw (x := x) (c := 97) (by rw [← z.1]; exact List.mem_singleton.mpr rfl)
          omega
    walk_at "rl"
    rw [tI, iE]
    walk_at "rl"
    refine ⟨hx.elim (fun h => .inl ⟨d, rfl, h⟩) (fun ⟨l, e, t, h⟩ => .inr ⟨l, by rw [e], t, h⟩), fun μ2 h2 => ?_⟩
    walk_at "rl"
    rw [sP]
    refine ⟨by decide +kernel, by decide +kernel, ?_⟩
    rw [show PyData.eqv (.str "NoText") (.str "NoText") = true by decide +kernel]
    walk_at "rl"
    exact q _ μ2
theorem Ip (h : sA ds μ Qd) : Aa ‹Qd› (aS ["_law_script", "_law_few", "_law_k", "_law_bag_here", "_law_x", "_law_right", "_law_turn", "_law_text_here", "_law_again", "_law_row", "_law_odd_here"] ds) μ := by
  obtain ⟨ns, rfl, h63, q⟩ := h
  have tf : TA 18 (Str.ofString "0123456789rr+-/() ") := cw (by decide +kernel)
  have tf1 : 1 ≤ (Str.ofString "0123456789rr+-/() ").length := by decide +kernel
  obtain ⟨f, ef, hf, f18⟩ := tf.is
  unfold Aa
  rw [ef] at tf1 ⊢
  rw [ax] at tf1
  walk_at "rl"
  rw [Bp]
  walk_at "rl"
  have hm : (-(2 ^ 62) ≤ max 2 (min 6 ((ns.length : Nat) : Int)) ∧ max 2 (min 6 ((ns.length : Nat) : Int)) < 2 ^ 62) := by omega
  refine ⟨hm, fun i ρ μ' => ∃ (r2 r3 r4 r5 r6 r7 r8 r9 r10 : Option D), ρ = [some (.s ns), some (.v (.str (txt f))), r2, r3, r4, r5, r6, r7, r8, r9, r10], ⟨_, _, _, _, _, _, _, _, _, rfl⟩, ?_, ?_⟩
  · rintro i y ρ μ1 hx ⟨r2, r3, r4, r5, r6, r7, r8, r9, r10, rfl⟩
    obtain ⟨rfl, hi⟩ := C5 hx
    have i6 : i < 6 := by omega
    walk_at "rl"
    refine ⟨ns, _, rfl, by omega, by omega, fun a μ2 ha s2 => ?_⟩
    walk_at "rl"
    refine ⟨a, rfl, s2.1, fun x μ3 ox bx s3 => ?_⟩
    have B3 : lK x := ⟨pV bx.a, pV bx.b, pV bx.c⟩
    have tR := FF B3
    have lR := su B3
    walk_at "rl"
    refine ⟨x, rfl, B3, fun μ4 h4 => ?_⟩
    have b4 := s3.1.up h4
    walk_at "rl"
    rw [Bp]
    walk_at "rl"
    refine ⟨by decide, fun j ρ μ' => ∃ (r6 r7 r8 r9 r10 : Option D), ρ = [some (.s ns), some (.v (.str (txt f))), some (.v (.int (0 + (i : Int)))), some (.m a), some (.v (dN x)), some (.v (.str (txt (bM x)))), r6, r7, r8, r9, r10] ∧ Bag μ' a, ⟨_, _, _, _, _, rfl, b4⟩, ?_, ?_⟩
    · rintro j y ρ μ5 hy ⟨r6, r7, r8, r9, r10, rfl, b5⟩
      walk_at "rl"
      rw [Bp]
      walk_at "rl"
      refine ⟨a, 3, rfl, by decide, by decide, b5, fun m μ6 m0 m1 s6 => ?_⟩
      walk_at "rl"
      refine ⟨by omega, fun k ρ μ' => ∃ (r8 : Option D) (l : List Nat), ρ = [some (.s ns), some (.v (.str (txt f))), some (.v (.int (0 + (i : Int)))), some (.m a), some (.v (dN x)), some (.v (.str (txt (bM x)))), some (.v y), some (.v (.str (txt l))), r8, r9, r10] ∧ Asc l ∧ l.length + 1 ≤ 201 * 2 ^ k ∧ Bag μ' a, ⟨_, bM x, rfl, tR.1, by omega, s6.1⟩, ?_, ?_⟩
      · rintro k z ρ μ7 hz ⟨r8, l, rfl, hl, ll, b7⟩
        obtain ⟨rfl, hk⟩ := C5 hz
        have k3 : k ≤ 2 := by omega
        have pk : 2 ^ k ≤ 2 ^ 2 := Nat.pow_le_pow_right (by decide) k3
        walk_at "rl"
        refine ⟨a, l, f, rfl, b7, hf, tf1, by omega, hl, by omega, fun l' μ8 hl' ll' s8 => ?_⟩
        walk_at "rl"
        refine ⟨_, l', rfl, hl', ?_, s8.1⟩
        rw [Nat.pow_succ]
        omega
      · rintro ρ μ7 ⟨r8, l, rfl, hl, ll, b7⟩
        rw [Du] at ll
        have pk : 2 ^ (1 + m).toNat ≤ 2 ^ 3 := Nat.pow_le_pow_right (by decide) (by omega)
        refine Kq b7 bx tR ⟨hl, by omega⟩ ⟨hf, by omega⟩ tf1 fun l9 μ8 b8 => ?_
        exact ⟨_, _, _, _, _, rfl, b8⟩
    · rintro ρ μ5 ⟨r6, r7, r8, r9, r10, rfl, b5⟩
      exact Ky b5 fun d μ6 => ⟨_, _, _, _, _, _, _, _, _, rfl⟩
  · rintro ρ μ1 ⟨r2, r3, r4, r5, r6, r7, r8, r9, r10, rfl⟩
    exact J5 q
end
open PySem PySem.Spec PyProof.Rows NM
noncomputable def fm (ea : Addr) : DTS :=
  (aG (aP (je (ae (dO (ae (dC (.str "NoRoot")) (ae (kZ ea false (af 1)) ao))) (ae (dO (ae (dC (.str "NoNumber")) (ae (kZ ea false (af 1)) ao))) (ae (dO (ae (dC (.str "NoLaying")) (ae (kZ ea false (af 1)) ao))) (ae (dO (ae (dC (.str "NoTile")) (ae (kZ ea false (af 1)) ao))) (ae (dO (ae (dC (.str "NoFit")) (ae (kZ ea false (af 1)) ao))) (ae (dO (ae (dC (.str "NoKinds")) (ae (kZ ea false (af 1)) ao))) (ae (dO (ae (dC (.str "NoPlan")) (ae (kZ ea false (af 1)) ao))) (ae (dO (ae (dC (.str "NoSpot")) (ae (kZ ea false (af 1)) ao))) (ae (dO (ae (dC (.str "NoNet")) (ae (kZ ea false (af 1)) ao))) (ae (dO (ae (dC (.str "NoText")) (ae (kZ ea true (af 1)) ao))) (ae (dO (ae (dC (.str "NoSaying")) (ae (kZ ea false (af 1)) ao))) (ae (dO (ae (dC (.str "NoName")) (ae (kZ ea false (af 1)) ao))) (ae (dO (ae (dC (.str "TooMany")) (ae (kZ ea false (af 1)) ao))) ao)))))))))))))) (aj 2))
  (aG (aP (kF [none, none] (sJ (af 2)) (eR 2 (aU (aj 0) (aU (aj 1) fP))) (dB (af 1)) (af 0)) (aj 3))
  (aG (bH (kf (dB (dOp (bt false) (dCB ng (ae (af 3) ao)) (dC (.int 1)))) (dB (kZ ea true (af 1)))) (bJ (dOp dh (af 3) (dC (.int 0)))) aY)
  (bJ (dC (.str "several"))))))
section
theorem kK {μ : Mu} {Qd : DK} {ea fa : Addr} (q : Qd (.v (.str "NoText")) μ) : fm ea { nx := fun _ _ => False, rt := Qd } [some (.o fa), some (.o ea), none, none] μ := by
  unfold fm
  simp only [↓tW, ↓Hi, ↓zi, ↓yQ, ↓pj, ↓vq, ↓q_c, ↓Ef, ↓yF, ↓yM, ↓mH, Option.map_some, List.set_cons_zero, List.set_cons_succ]
  refine CO (ns := [("NoRoot", false), ("NoNumber", false), ("NoLaying", false), ("NoTile", false), ("NoFit", false), ("NoKinds", false), ("NoPlan", false), ("NoSpot", false), ("NoNet", false), ("NoText", true), ("NoSaying", false), ("NoName", false), ("TooMany", false)]) rfl (by decide) ?_
  simp only [↓mH, ↓tW, List.set_cons_zero, List.set_cons_succ, List.map_cons, List.map_nil, List.filterMap_cons, List.filterMap_nil, CS, Bool.false_eq_true, ↓reduceIte]
  simp only [↓Ho, ↓CQ, ↓q_B, ↓KQ, ↓KC, ↓pj, ↓vq, ↓sr, ↓tL, ↓q_c, ↓yu, ↓Ef, ↓yW, ↓tm, List.getElem?_cons_zero, List.getElem?_cons_succ, List.length_cons, List.length_nil]
  exact q
theorem Ai {μ : Mu} {Xk : Mu → Prop} {ds : List D} (h : uY ds μ Xk) : ds.length = 1 := by obtain ⟨_, rfl, _⟩ := h; rfl
theorem zN {μ : Mu} {Xk : Mu → Prop} {ds : List D} (h : ym ds μ Xk) : ds.length = 1 := by obtain ⟨_, rfl, _⟩ := h; rfl
theorem AF {μ : Mu} {Xk : Mu → Prop} {ds : List D} (h : BN ds μ Xk) : ds.length = 1 := by obtain ⟨_, rfl, _⟩ := h; rfl
theorem uj {μ : Mu} {Xk : Mu → Prop} {ds : List D} (h : j8 ds μ Xk) : ds.length = 1 := by obtain ⟨⟨_, rfl, _⟩ | ⟨_, rfl, _⟩, _⟩ := h <;> rfl
end
end L2.DL
set_option Elab.async false
set_option linter.all false
set_option maxRecDepth 100000
set_option maxHeartbeats 4000000
namespace K48
open PySem L2 L2.DL
local macro_rules | `(tactic| walk_at "cl") => `(tactic| (intro _ _ h; first | exact h | exact cl1 h | exact cl2 (by decide +kernel) h | exact cl3 (by decide +kernel) h | exact oz (fS rfl xW) _ _ h | exact oz (fS rfl (fS rfl xW)) _ _ h | exact oz (fS rfl (fS rfl (fS rfl xW))) _ _ h | exact oz (fS rfl (fS rfl (fS rfl (fS rfl xW)))) _ _ h | exact oz (fS rfl (fS rfl (fS rfl (fS rfl (fS rfl xW))))) _ _ h | exact oz (fS rfl (fS rfl (fS rfl (fS rfl (fS rfl (fS rfl xW)))))) _ _ h | exact oz (fS rfl (fS rfl (fS rfl (fS rfl (fS rfl (fS rfl (fS rfl xW))))))) _ _ h | exact oz xW _ _ h | cases h))
set_option genInjectivity false in
structure Adr where
  ej : Addr
  gb : FuncData
  eg : Addr
  gA : FuncData
  ot : Addr
  sU : FuncData
  iL : Addr
  kJ : FuncData
  gQ : Addr
  jL : FuncData
  d4 : Addr
  gE : FuncData
  eQ : Addr
  gP : FuncData
  jE : Addr
  lT : FuncData
  cS : Addr
  d8 : FuncData
  eM : Addr
  gX : FuncData
  fK : Addr
  iG : FuncData
  kM : Addr
  nA : FuncData
  jv : Addr
  mf : FuncData
  eS : Addr
  ia : FuncData
  gU : Addr
  jQ : FuncData
  kQ : Addr
  ny : FuncData
  d9 : Addr
  gg : FuncData
  gI : Addr
  jS : FuncData
  k8 : Addr
  nG : FuncData
  fH : Addr
  i9 : FuncData
  ix : Addr
  kP : FuncData
  jD : Addr
  mq : FuncData
  iJ : Addr
  kL : FuncData
  ed : Addr
  gk : FuncData
  iw : Addr
  kR : FuncData
  jB : Addr
  ml : FuncData
  ey : Addr
  fW : FuncData
  gR : Addr
  jO : FuncData
  fM : Addr
  fR : FuncData
  A0 : Addr
  BA : FuncData
  qC : Tok
  AD : Tok
  dD : Addr
  iO : Addr
  eZ : Addr
  fe : Addr
  iQ : Addr
  kd : Addr
  gh : Addr
  iN : Addr
  iR : Addr
  kr : Addr
  av : Addr
  fg : Addr
  iP : Addr
  gn : Addr
  cy : Addr
  dJ : Addr
  ph : Addr
  yi : Addr
structure Txt (K : PySem.W.Frag) (mg : Str → Option Value) (t : Adr) : Prop where
  p5 : Fun K "common_divisor" "common_divisor" bV t.ej t.gb
  j4 : mg "common_divisor" = some (.ref t.ej)
  ka : PySem.W.keepIn K (.ref t.ej) = true
  kc : Binds K t.gb ["a", "b"] []
  pP : Fun K "divisor_of_all" "divisor_of_all" bW t.eg t.gA
  pQ : mg "divisor_of_all" = some (.ref t.eg)
  pY : PySem.W.keepIn K (.ref t.eg) = true
  qb : Binds K t.gA ["a", "b", "c"] []
  Ek : Fun K "number" "number" km t.ot t.sU
  nY : mg "number" = some (.ref t.ot)
  n5 : PySem.W.keepIn K (.ref t.ot) = true
  nR : Binds K t.sU ["a", "b", "c"] []
  xh : Fun K "show_whole" "show_whole" dZ t.iL t.kJ
  iK : mg "show_whole" = some (.ref t.iL)
  iI : PySem.W.keepIn K (.ref t.iL) = true
  iu : Binds K t.kJ ["k"] []
  uq : Fun K "show_number" "show_number" dE t.gQ t.jL
  mW : mg "show_number" = some (.ref t.gQ)
  mQ : PySem.W.keepIn K (.ref t.gQ) = true
  mV : Binds K t.jL ["x"] []
  qh : Fun K "show_root_part" "show_root_part" bZ t.d4 t.gE
  ky : mg "show_root_part" = some (.ref t.d4)
  kx : PySem.W.keepIn K (.ref t.d4) = true
  ke : Binds K t.gE ["b"] []
  mR : Fun K "read_number" "read_number" dy t.eQ t.gP
  eL : mg "read_number" = some (.ref t.eQ)
  eP : PySem.W.keepIn K (.ref t.eQ) = true
  eK : Binds K t.gP ["text"] []
  yg : Fun K "split_sum" "split_sum" fb t.jE t.lT
  lL : mg "split_sum" = some (.ref t.jE)
  lZ : PySem.W.keepIn K (.ref t.jE) = true
  lG : Binds K t.lT ["body"] []
  ku : Fun K "read_root_part" "read_root_part" cj t.cS t.d8
  gr : mg "read_root_part" = some (.ref t.cS)
  gj : PySem.W.keepIn K (.ref t.cS) = true
  gB : Binds K t.d8 ["text"] []
  nc : Fun K "read_signed" "read_signed" dr t.eM t.gX
  dq : mg "read_signed" = some (.ref t.eM)
  dF : PySem.W.keepIn K (.ref t.eM) = true
  dz : Binds K t.gX ["text"] []
  oj : Fun K "read_whole" "read_whole" eo t.fK t.iG
  bP : mg "read_whole" = some (.ref t.fK)
  bR : PySem.W.keepIn K (.ref t.fK) = true
  bQ : Binds K t.iG ["text"] []
  AJ : Fun K "_law_bag" "_law_bag" fV t.kM t.nA
  AA : mg "_law_bag" = some (.ref t.kM)
  zx : PySem.W.keepIn K (.ref t.kM) = true
  AH : Binds K t.nA ["_law_script", "_law_at"] []
  xX : Fun K "_law_take" "_law_take" eY t.jv t.mf
  aW : mg "_law_take" = some (.ref t.jv)
  aX : PySem.W.keepIn K (.ref t.jv) = true
  aV : Binds K t.mf ["_law_bag_here", "_law_many"] []
  qG : Fun K "_law_is_whole" "_law_is_whole" cz t.eS t.ia
  qM : mg "_law_is_whole" = some (.ref t.eS)
  qL : PySem.W.keepIn K (.ref t.eS) = true
  qD : Binds K t.ia ["_law_thing"] []
  uT : Fun K "_law_shared" "_law_shared" dA t.gU t.jQ
  gH : mg "_law_shared" = some (.ref t.gU)
  gW : PySem.W.keepIn K (.ref t.gU) = true
  gL : Binds K t.jQ ["_law_one", "_law_other"] []
  Ab : Fun K "_law_low" "_law_low" gp t.kQ t.ny
  As : mg "_law_low" = some (.ref t.kQ)
  zS : PySem.W.keepIn K (.ref t.kQ) = true
  zP : Binds K t.ny ["_law_a", "_law_b", "_law_c"] []
  pS : Fun K "_law_is_number" "_law_is_number" bX t.d9 t.gg
  ki : mg "_law_is_number" = some (.ref t.d9)
  kb : PySem.W.keepIn K (.ref t.d9) = true
  kh : Binds K t.gg ["_law_thing"] []
  uL : Fun K "_law_number" "_law_number" dm t.gI t.jS
  uU : mg "_law_number" = some (.ref t.gI)
  uM : PySem.W.keepIn K (.ref t.gI) = true
  uk : Binds K t.jS ["_law_bag_here"] []
  zu : Fun K "_law_odd" "_law_odd" gz t.k8 t.nG
  Am : mg "_law_odd" = some (.ref t.k8)
  zL : PySem.W.keepIn K (.ref t.k8) = true
  Aj : Binds K t.nG ["_law_bag_here"] []
  sd : Fun K "_law_refusal" "_law_refusal" cT t.fH t.i9
  iY : mg "_law_refusal" = some (.ref t.fH)
  jj : PySem.W.keepIn K (.ref t.fH) = true
  iZ : Binds K t.i9 ["_law_deed"] []
  xI : Fun K "_law_roots" "_law_roots" eh t.ix t.kP
  iH : mg "_law_roots" = some (.ref t.ix)
  iB : PySem.W.keepIn K (.ref t.ix) = true
  iF : Binds K t.kP ["_law_b"] []
  x6 : Fun K "_law_text" "_law_text" fj t.jD t.mq
  qw : mg "_law_text" = some (.ref t.jD)
  qx : PySem.W.keepIn K (.ref t.jD) = true
  qv : Binds K t.mq ["_law_x"] []
  wV : Fun K "_law_signs" "_law_signs" dW t.iJ t.kL
  oR : mg "_law_signs" = some (.ref t.iJ)
  nP : PySem.W.keepIn K (.ref t.iJ) = true
  oV : Binds K t.kL [] []
  p4 : Fun K "_law_bent_text" "_law_bent_text" bY t.ed t.gk
  pT : mg "_law_bent_text" = some (.ref t.ed)
  pL : PySem.W.keepIn K (.ref t.ed) = true
  pC : Binds K t.gk ["_law_bag_here", "_law_text_here", "_law_few"] []
  vR : Fun K "_law_whole" "_law_whole" dR t.iw t.kR
  iD : mg "_law_whole" = some (.ref t.iw)
  ir : PySem.W.keepIn K (.ref t.iw) = true
  iM : Binds K t.kR ["_law_text_here"] []
  zl : Fun K "_law_tops" "_law_tops" ff t.jB t.ml
  x3 : mg "_law_tops" = some (.ref t.jB)
  xQ : PySem.W.keepIn K (.ref t.jB) = true
  zj : Binds K t.ml ["_law_text_here"] []
  pN : Fun K "_law_number_in" "_law_number_in" bU t.ey t.fW
  pI : mg "_law_number_in" = some (.ref t.ey)
  pJ : PySem.W.keepIn K (.ref t.ey) = true
  qe : Binds K t.fW ["_law_text_here"] []
  uD : Fun K "_law_nearly" "_law_nearly" dw t.gR t.jO
  uu : mg "_law_nearly" = some (.ref t.gR)
  uo : PySem.W.keepIn K (.ref t.gR) = true
  uW : Binds K t.jO ["_law_bag_here", "_law_x"] []
  tP : Fun K "_law_is_told" "_law_is_told" cQ t.fM t.fR
  sI : mg "_law_is_told" = some (.ref t.fM)
  rQ : PySem.W.keepIn K (.ref t.fM) = true
  sG : Binds K t.fR ["_law_text_here"] []
  KL : Fun K "law" "law" mT t.A0 t.BA
  Ls : mg "law" = some (.ref t.A0)
  Lr : PySem.W.keepIn K (.ref t.A0) = true
  Lu : Binds K t.BA ["_law_script"] []
  u9 : mg "abs" = none
  g8 : mg "str" = none
  aD : mg "isinstance" = none
  Hj : mg "max" = none
  vi : mg "int" = none
  jz : mg "len" = none
  yp : mg "all" = none
  Ig : mg "bool" = none
  FN : mg "tuple" = none
  wF : mg "ValueError" = none
  Hf : mg "min" = none
  CY : mg "list" = none
  oy : mg "range" = none
  lN : mg "MOST_FIGURES" = some (.int 40 t.qC)
  va : mg "FIGURES" = some (.str "0123456789" t.AD)
  vz : mg "FloorError" = some (.ref t.dD)
  DV : mg "NoRoot" = some (.ref t.iO)
  Af : mg "NoNumber" = some (.ref t.eZ)
  zH : mg "NoLaying" = some (.ref t.fe)
  DY : mg "NoTile" = some (.ref t.iQ)
  Fy : mg "NoFit" = some (.ref t.kd)
  CD : mg "NoKinds" = some (.ref t.gh)
  D2 : mg "NoPlan" = some (.ref t.iN)
  EN : mg "NoSpot" = some (.ref t.iR)
  Gv : mg "NoNet" = some (.ref t.kr)
  lV : mg "NoText" = some (.ref t.av)
  Ad : mg "NoSaying" = some (.ref t.fg)
  D1 : mg "NoName" = some (.ref t.iP)
  CM : mg "TooMany" = some (.ref t.gn)
  kq : PySem.W.excIn K (t.av) bmV "ValueError.__new__" = true
  rB : PySem.W.exmOne K (.ref t.av) (.ref t.dD) = some true
  g9 : PySem.W.kitOne K (.ref t.av) (.ref t.iO) = some false
  fO : PySem.W.kitOne K (.ref t.av) (.ref t.eZ) = some false
  fN : PySem.W.kitOne K (.ref t.av) (.ref t.fe) = some false
  hV : PySem.W.kitOne K (.ref t.av) (.ref t.iQ) = some false
  jb : PySem.W.kitOne K (.ref t.av) (.ref t.kd) = some false
  fX : PySem.W.kitOne K (.ref t.av) (.ref t.gh) = some false
  ic : PySem.W.kitOne K (.ref t.av) (.ref t.iN) = some false
  hJ : PySem.W.kitOne K (.ref t.av) (.ref t.iR) = some false
  i4 : PySem.W.kitOne K (.ref t.av) (.ref t.kr) = some false
  ie : PySem.W.kitOne K (.ref t.av) (.ref t.av) = some true
  fz : PySem.W.kitOne K (.ref t.av) (.ref t.fg) = some false
  hZ : PySem.W.kitOne K (.ref t.av) (.ref t.iP) = some false
  fU : PySem.W.kitOne K (.ref t.av) (.ref t.gn) = some false
  nE : PySem.W.kitOne K (.ref t.av) (.type "ValueError") = some true
  cA : tY K t.av
  tX : Jv K mg t.cy t.dJ "_law_is_told"
  qJ : t.fR.code = .ref t.cy
  Hg : Jv K mg t.ph t.yi "law"
  Fb : t.BA.code = .ref t.ph
structure EQ where
  P : Program
  w : World
  K : PySem.W.Frag
  mg : Str → Option Value
  base : Heap
  t : Adr
noncomputable abbrev TX (e : EQ) : Prop := Txt e.K e.mg e.t
noncomputable abbrev js (e : EQ) : Prop := bS e.P e.w e.K e.mg e.base CX0 1 e.t.ej e.t.gb ["a", "b"] (spD e.K lQ)
noncomputable abbrev jC (e : EQ) : Prop := bS e.P e.w e.K e.mg e.base CX0 2 e.t.eg e.t.gA ["a", "b", "c"] (spD e.K wC)
noncomputable abbrev pX (e : EQ) : Prop := bS e.P e.w e.K e.mg e.base CX0 3 e.t.ot e.t.sU ["a", "b", "c"] (spD e.K fo)
noncomputable abbrev jI (e : EQ) : Prop := bS e.P e.w e.K e.mg e.base CX0 1 e.t.iL e.t.kJ ["k"] (spD e.K gK)
noncomputable abbrev jd (e : EQ) : Prop := bS e.P e.w e.K e.mg e.base CX0 3 e.t.gQ e.t.jL ["x"] (spD e.K gN)
noncomputable abbrev jx (e : EQ) : Prop := bS e.P e.w e.K e.mg e.base CX0 2 e.t.d4 e.t.gE ["b"] (spD e.K eT)
noncomputable abbrev jc (e : EQ) : Prop := bS e.P e.w e.K e.mg e.base CX0 4 e.t.eQ e.t.gP ["text"] (spD e.K lJ)
noncomputable abbrev kI (e : EQ) : Prop := bS e.P e.w e.K e.mg e.base CX0 1 e.t.jE e.t.lT ["body"] (spD e.K qp)
noncomputable abbrev fD (e : EQ) : Prop := bS e.P e.w e.K e.mg e.base CX0 3 e.t.cS e.t.d8 ["text"] (spD e.K B8)
noncomputable abbrev fw (e : EQ) : Prop := bS e.P e.w e.K e.mg e.base CX0 2 e.t.eM e.t.gX ["text"] (spD e.K yA)
noncomputable abbrev gM (e : EQ) : Prop := bS e.P e.w e.K e.mg e.base CX0 1 e.t.fK e.t.iG ["text"] (spD e.K ur)
noncomputable abbrev qj (e : EQ) : Prop := bS e.P e.w e.K e.mg e.base CX0 1 e.t.kM e.t.nA ["_law_script", "_law_at"] (spD e.K BB)
noncomputable abbrev d0 (e : EQ) : Prop := bS e.P e.w e.K e.mg e.base CX0 1 e.t.jv e.t.mf ["_law_bag_here", "_law_many"] (spD e.K cK)
noncomputable abbrev ko (e : EQ) : Prop := bS e.P e.w e.K e.mg e.base CX0 1 e.t.eS e.t.ia ["_law_thing"] (spD e.K oS)
noncomputable abbrev jl (e : EQ) : Prop := bS e.P e.w e.K e.mg e.base CX0 1 e.t.gU e.t.jQ ["_law_one", "_law_other"] (spD e.K lQ)
noncomputable abbrev qz (e : EQ) : Prop := bS e.P e.w e.K e.mg e.base CX0 2 e.t.kQ e.t.ny ["_law_a", "_law_b", "_law_c"] (spD e.K fo)
noncomputable abbrev fv (e : EQ) : Prop := bS e.P e.w e.K e.mg e.base CX0 2 e.t.d9 e.t.gg ["_law_thing"] (spD e.K sQ)
noncomputable abbrev md (e : EQ) : Prop := bS e.P e.w e.K e.mg e.base CX0 3 e.t.gI e.t.jS ["_law_bag_here"] (spD e.K mx)
noncomputable abbrev ql (e : EQ) : Prop := bS e.P e.w e.K e.mg e.base CX0 2 e.t.k8 e.t.nG ["_law_bag_here"] (spD e.K AX)
noncomputable abbrev j3 (e : EQ) : Prop := bS e.P e.w e.K e.mg e.base CX0 1 e.t.ix e.t.kP ["_law_b"] (spD e.K eT)
noncomputable abbrev kA (e : EQ) : Prop := bS e.P e.w e.K e.mg e.base CX0 2 e.t.jD e.t.mq ["_law_x"] (spD e.K gN)
noncomputable abbrev mS (e : EQ) : Prop := bS e.P e.w e.K e.mg e.base CX0 1 e.t.iJ e.t.kL [] (spD e.K o9)
noncomputable abbrev jG (e : EQ) : Prop := bS e.P e.w e.K e.mg e.base CX0 2 e.t.ed e.t.gk ["_law_bag_here", "_law_text_here", "_law_few"] (spD e.K rm)
noncomputable abbrev jX (e : EQ) : Prop := bS e.P e.w e.K e.mg e.base CX0 1 e.t.iw e.t.kR ["_law_text_here"] (spD e.K Al)
noncomputable abbrev oE (e : EQ) : Prop := bS e.P e.w e.K e.mg e.base CX0 2 e.t.jB e.t.ml ["_law_text_here"] (spD e.K xc)
noncomputable abbrev jy (e : EQ) : Prop := bS e.P e.w e.K e.mg e.base CX0 3 e.t.ey e.t.fW ["_law_text_here"] (spD e.K qX)
noncomputable abbrev mi (e : EQ) : Prop := bS e.P e.w e.K e.mg e.base CX0 2 e.t.gR e.t.jO ["_law_bag_here", "_law_x"] (spD e.K oA)
noncomputable abbrev lq (e : EQ) : Prop := bS e.P e.w e.K e.mg e.base CX0 7 e.t.fM e.t.fR ["_law_text_here"] (spD e.K nS)
noncomputable abbrev Eo (e : EQ) : Prop := bS e.P e.w e.K e.mg e.base CX0 8 e.t.A0 e.t.BA ["_law_script"] (spD e.K sA)
noncomputable abbrev dH (e : EQ) : Prop := bS e.P e.w e.K e.mg e.base (CX1 e.P e.w) 1 e.t.fK e.t.iG ["text"] (spX e.K (.ref e.t.av) uY)
noncomputable abbrev da (e : EQ) : Prop := bS e.P e.w e.K e.mg e.base (CX1 e.P e.w) 2 e.t.eM e.t.gX ["text"] (spX e.K (.ref e.t.av) ym)
noncomputable abbrev eA (e : EQ) : Prop := bS e.P e.w e.K e.mg e.base (CX1 e.P e.w) 3 e.t.cS e.t.d8 ["text"] (spX e.K (.ref e.t.av) BN)
noncomputable abbrev cV (e : EQ) : Prop := bS e.P e.w e.K e.mg e.base (CX1 e.P e.w) 4 e.t.eQ e.t.gP ["text"] (spX e.K (.ref e.t.av) j8)
noncomputable abbrev nr (e : EQ) : Prop := DZ e.P e.w e.K e.mg e.base 5 e.t.fH e.t.i9 "_law_deed" (.ref e.t.av) "NoText"
section
variable {e : EQ}
theorem oD : aR ["a", "b"] ["a", "b"] (aw bV) := ⟨rfl, rfl, rfl, by decide +kernel, rfl, by decide +kernel, by decide +kernel⟩
theorem oq (T : TX e)  : js e := by
  have S := oD
  exact T.p5.okD S (fun ds μ Q h => vo h) (fun cdv A outer s H E hr => ⟨ft, (ai (sk PassesOwn.never (aC (iS hr.units) aM (dv 1) ah (az _)) (aq (nC (i := 0) (j := 1) rfl S.nd rfl rfl (by decide) rfl rfl (aa (dv 1) (aa (kC (dv 0) (dv 1)) ag)) rfl)))
    (aq (aN (p7 rfl T.u9 (aa (dv 0) ag))))), fun ds μ Qd h => n9 h⟩)
theorem uK : aR ["k", "block", "blocks", "rest"] ["k"] (aw dZ) := ⟨rfl, rfl, rfl, by decide +kernel, rfl, by decide +kernel, by decide +kernel⟩
theorem uF (T : TX e)  : jI e := by
  have S := uK
  exact T.xh.okD S (fun ds μ Q h => xR h) (fun cdv A outer s H E hr => ⟨jW, (ai (aA (i := 1) S.nd rfl (Or.inl rfl) (wm ah ah))
    (ai (aA (i := 2) S.nd rfl (Or.inl rfl) (BP ag))
    (ai (aA (i := 3) S.nd rfl (Or.inl rfl) (p7 rfl T.u9 (aa (dv 0) ag)))
    (ai (sk PassesOwn.never (aC Hk lz (dv 3) (dv 1) (az _)) Cn)
    (ai (Br (CC (dv 2) (dQ rfl T.g8 (aa (dv 3) ag))))
    (ai (Br (FG (dv 2)))
    (aq (aN (aJ (fh (aC A3 lz (dv 0) ah (az _)) ak ak) (yk ak (dv 2))))))))))), fun ds μ Qd h => uE h⟩)
theorem xt : aR ["body", "at"] ["body"] (aw fb) := ⟨rfl, rfl, rfl, by decide +kernel, rfl, by decide +kernel, by decide +kernel⟩
theorem vy (T : TX e)  : kI e := by
  have S := xt
  exact T.yg.okD S (fun ds μ Q h => Cj h) (fun cdv A outer s H E hr => ⟨kD, (ai (bp (eW (bL (qT (dv 0) ak))) (aq (aN (bu (aa (dv 0) (aa ak ag))))) aH)
    (ai (aA (i := 1) S.nd rfl (Or.inl rfl) (C9 rfl rfl T.Hj (aa (yC (dv 0) ak) (aa (yC (dv 0) ak) ag))))
    (ai (bp (aC Dk lz (dv 1) ah (az _)) (aq (aN (bu (aa ak (aa (aK (dv 0) bI (aT (cR ah))) ag))))) aH)
    (aq (aN (bu (aa (aK (dv 0) bI (aT (dv 1))) (aa (aK (dv 0) (aT (dv 1)) (aT (cR ah))) ag)))))))), fun ds μ Qd h => xy h⟩)
theorem mX : aR ["text"] ["text"] (aw eo) := ⟨rfl, rfl, rfl, by decide +kernel, rfl, by decide +kernel, by decide +kernel⟩
theorem lB (T : TX e)  : dH e := by
  have S := mX
  exact T.oj.okX S (fun ds μ Xk h => Ai h) (fun cdv A outer s H E hr => ⟨dG, (de (BV (DW.dt (lF (aC (aZ hr.units) aM (dv 0) ak (az _)) (lF (aC nL lz (gO rfl T.jz (aa (dv 0) ag)) (rp (u := .int 40) rfl T.lN ⟨_, rfl⟩ (fun _ _ _ => Rp.int 40)) (az _)) (lE (eW (bL (rC rfl rfl T.yp (aa (qQ (N' := ["sign"]) (cap := [none]) rfl (Ao (dv 0)) (fun _ _ _ => (aF (i := 0) (show List.Nodup (["sign"] : List Str) by decide +kernel) rfl (Or.inl rfl))) (fun _ _ _ => kj) (fun _ _ _ => (ji pR AB (dv 0) (rp (u := .str "0123456789") rfl T.va ⟨_, rfl⟩ (fun _ _ _ => Rp.str _)) (by with_unfolding_all rfl))) rfl (by decide +kernel) rfl (by decide +kernel) (by walk_at "cl") (jV rfl) rfl (kW trivial)) ag)))))))) (de (oO gS rfl T.lV T.kq)) mz)), fun ds μ Xk h => lu h⟩)
theorem uB (T : TX e)  : gM e := by
  have S := mX
  exact T.oj.okD S (fun ds μ Q h => D0 h) (fun cdv A outer s H E hr => ⟨jK, (ai (bp (DW.dt (lF (aC (aZ hr.units) aM (dv 0) ak (az _)) (lF (aC nL lz (gO rfl T.jz (aa (dv 0) ag)) (rp (u := .int 40) rfl T.lN ⟨_, rfl⟩ (fun _ _ _ => Rp.int 40)) (az _)) (lE (eW (bL (rC rfl rfl T.yp (aa (qQ (N' := ["sign"]) (cap := [none]) rfl (Ao (dv 0)) (fun _ _ _ => (aF (i := 0) (show List.Nodup (["sign"] : List Str) by decide +kernel) rfl (Or.inl rfl))) (fun _ _ _ => kj) (fun _ _ _ => (ji pR AB (dv 0) (rp (u := .str "0123456789") rfl T.va ⟨_, rfl⟩ (fun _ _ _ => Rp.str _)) (by with_unfolding_all rfl))) rfl (by decide +kernel) rfl (by decide +kernel) (by walk_at "cl") (jV rfl) rfl (kW trivial)) ag)))))))) (aq dP) aH)
    (aq (aN (wB rfl T.vi (aa (dv 0) ag))))), fun ds μ Qd h => uO h⟩)
theorem ye : aR ["_law_script", "_law_at", "_law_cell", "_law_great", "_law_primes", "_law_mixed"] ["_law_script", "_law_at"] (aw fV) := ⟨rfl, rfl, rfl, by decide +kernel, rfl, by decide +kernel, by decide +kernel⟩
theorem yh (T : TX e)  : qj e := by
  have S := ye
  exact T.AJ.okD S (fun ds μ Q h => CA h) (fun cdv A outer s H E hr => ⟨lH, (ai (aA (i := 2) S.nd rfl (Or.inl rfl) ah)
    (ai (bp (aC A3 lz (dv 1) (vF rfl T.jz (aa (dv 0) ag)) (az _)) (aq (aA (i := 2) S.nd rfl (Or.inl rfl) (eO (dv 0) (dv 1)))) aH)
    (ai (aA (i := 3) S.nd rfl (Or.inl rfl) ah)
    (ai (bp (aC Hk lz (p7 rfl T.u9 (aa (dv 2) ag)) (wm ah ah) (az _)) (aq (aA (i := 3) S.nd rfl (Or.inl rfl) (p7 rfl T.u9 (aa (dv 2) ag)))) aH)
    (ai (aA (i := 4) S.nd rfl (Or.inl rfl) (cL (aa ah (aa ah (aa ah (aa ah (aa ah (aa ah (aa ah (aa ah ag))))))))))
    (ai (aA (i := 5) S.nd rfl (Or.inl rfl) (eU (eU (eU (l6 (kC (dv 2) ah) ah) (l6 (l6 ah (dv 1)) (dv 1))) (l6 ah (dv 1))) ah))
    (aq (aN (BP (aa (dv 3) (aa (kC (dv 5) (eO (dv 4) (kC (dv 1) ah))) ag))))))))))), fun ds μ Qd h => yw h⟩)
theorem wA : aR ["_law_bag_here", "_law_many", "_law_digit"] ["_law_bag_here", "_law_many"] (aw eY) := ⟨rfl, rfl, rfl, by decide +kernel, rfl, by decide +kernel, by decide +kernel⟩
theorem vS (T : TX e)  : d0 e := by
  have S := wA
  exact T.xX.okD S (fun ds μ Q h => Ay h) (fun cdv A outer s H E hr => ⟨kX, (ai (bp (aC nL lz (eO (dv 0) ah) ah (az _)) (ai (aA (i := 2) S.nd rfl (Or.inl rfl) (kC (eO (dv 0) ah) (dv 1)))
    (ai (fG (jH (eO (dv 0) ah) (dv 1)) (Ff (dv 0) ah))
    (aq (aN (dv 2))))) aH)
    (ai (fG (kC (eU (l6 (eO (dv 0) ah) ah) ah) ah) (Ff (dv 0) ah))
    (aq (aN (kC (jH (kC (wm (eO (dv 0) ah) ah) ah) ah) (dv 1)))))), fun ds μ Qd h => wY h⟩)
theorem pA : aR ["_law_thing"] ["_law_thing"] (aw cz) := ⟨rfl, rfl, rfl, by decide +kernel, rfl, by decide +kernel, by decide +kernel⟩
theorem qi (T : TX e)  : ko e := by
  have S := pA
  exact T.qG.okD S (fun ds μ Q h => yL h) (fun cdv A outer s H E hr => ⟨j6, (aq (aN (xm (kO (GB _) rfl T.aD rfl T.vi PyProof.Rows.Boot.«int» (dv 0)) (wb (HF (kO (E1 _) rfl T.aD rfl T.Ig PyProof.Rows.Boot.«bool» (dv 0))))))), fun ds μ Qd h => pE h⟩)
theorem si : aR ["_law_one", "_law_other"] ["_law_one", "_law_other"] (aw dA) := ⟨rfl, rfl, rfl, by decide +kernel, rfl, by decide +kernel, by decide +kernel⟩
theorem sL (T : TX e)  : jl e := by
  have S := si
  exact T.uT.okD S (fun ds μ Q h => vo h) (fun cdv A outer s H E hr => ⟨iX, (ai (nC (i := 0) (j := 1) rfl S.nd rfl rfl (by decide) rfl rfl (aa (p7 rfl T.u9 (aa (dv 0) ag)) (aa (p7 rfl T.u9 (aa (dv 1) ag)) ag)) rfl)
    (ai (sk PassesOwn.never (aC nL lz (dv 1) ah (az _)) (aq (nC (i := 0) (j := 1) rfl S.nd rfl rfl (by decide) rfl rfl (aa (dv 1) (aa (kC (dv 0) (dv 1)) ag)) rfl)))
    (aq (aN (dv 0))))), fun ds μ Qd h => rV h⟩)
theorem uC : aR ["_law_b"] ["_law_b"] (aw eh) := ⟨rfl, rfl, rfl, by decide +kernel, rfl, by decide +kernel, by decide +kernel⟩
theorem uc (T : TX e)  : j3 e := by
  have S := uC
  exact T.xI.okD S (fun ds μ Q h => qr h) (fun cdv A outer s H E hr => ⟨jT, (ai (bp (aC (aZ hr.units) aM (dv 0) ah (az _)) (aq (aN ak)) aH)
    (ai (bp (aC (aZ hr.units) aM (dv 0) (cR ah) (az _)) (aq (aN ak)) aH)
    (aq (aN (aJ (dQ rfl T.g8 (aa (dv 0) ag)) ak))))), fun ds μ Qd h => uv h⟩)
theorem uV : aR [] [] (aw dW) := ⟨rfl, rfl, rfl, by decide +kernel, rfl, by decide +kernel, by decide +kernel⟩
theorem ug (T : TX e)  : mS e := by
  have S := uV
  exact T.wV.okD S (fun ds μ Q h => ze h) (fun cdv A outer s H E hr => ⟨jU, (aq (aN ak)), fun ds μ Qd h => ui h⟩)
theorem uP : aR ["_law_text_here", "_law_figures"] ["_law_text_here"] (aw dR) := ⟨rfl, rfl, rfl, by decide +kernel, rfl, by decide +kernel, by decide +kernel⟩
theorem uQ (T : TX e)  : jX e := by
  have S := uP
  exact T.vR.okD S (fun ds μ Q h => Dx h) (fun cdv A outer s H E hr => ⟨jJ, (ai (aA (i := 1) S.nd rfl (Or.inl rfl) (fh (aC (aZ hr.units) aM (aK (dv 0) bI (aT ah)) ak (az _)) (aK (dv 0) (aT ah) bI) (dv 0)))
    (ai (bp (DW.dt (lF (eW (El Dk lz Dk lz ah (gO rfl T.jz (aa (dv 1) ag)) ah)) (lE (eW (bL (rC rfl rfl T.yp (aa (qQ (N' := ["_law_sign"]) (cap := [none]) rfl (Ao (dv 1)) (fun _ _ _ => (aF (i := 0) (show List.Nodup (["_law_sign"] : List Str) by decide +kernel) rfl (Or.inl rfl))) (fun _ _ _ => kj) (fun _ _ _ => (ji (xM hr.units) vA (dv 0) (yZ rfl rfl T.CY (aa ak ag)) (by with_unfolding_all rfl))) rfl (by decide +kernel) rfl (by decide +kernel) (by walk_at "cl") (jV rfl) rfl (kW trivial)) ag))))))) (aq (aN nq)) aH)
    (aq (aN (fh (aC (aZ hr.units) aM (dQ rfl T.g8 (aa (wB rfl T.vi (aa (dv 0) ag)) ag)) (dv 0) (az _)) (wB rfl T.vi (aa (dv 0) ag)) nq))))), fun ds μ Qd h => uA h⟩)
theorem om : aR ["a", "b", "c"] ["a", "b", "c"] (aw bW) := ⟨rfl, rfl, rfl, by decide +kernel, rfl, by decide +kernel, by decide +kernel⟩
theorem oF (T : TX e) (dS : js e) : jC e := by
  have S := om
  exact T.pP.okD S (fun ds μ Q h => zY h) (fun cdv A outer s H E hr => ⟨fF, (aq (aN (au dS (hr.mono (by decide)) rfl T.j4 T.ka T.kc (aa (au dS (hr.mono (by decide)) rfl T.j4 T.ka T.kc (aa (dv 2) (aa (dv 0) ag))) (aa (dv 1) ag))))), fun ds μ Qd h => ow h⟩)
theorem oo : aR ["b"] ["b"] (aw bZ) := ⟨rfl, rfl, rfl, by decide +kernel, rfl, by decide +kernel, by decide +kernel⟩
theorem o5 (T : TX e) (cF : jI e) : jx e := by
  have S := oo
  exact T.qh.okD S (fun ds μ Q h => qr h) (fun cdv A outer s H E hr => ⟨fI, (ai (bp (aC (aZ hr.units) aM (dv 0) ah (az _)) (aq (aN ak)) aH)
    (ai (bp (aC (aZ hr.units) aM (dv 0) (cR ah) (az _)) (aq (aN ak)) aH)
    (aq (aN (aJ (au cF (hr.mono (by decide)) rfl T.iK T.iI T.iu (aa (dv 0) ag)) ak))))), fun ds μ Qd h => pb h⟩)
theorem lU : aR ["text"] ["text"] (aw dr) := ⟨rfl, rfl, rfl, by decide +kernel, rfl, by decide +kernel, by decide +kernel⟩
theorem kU (T : TX e) (bo : dH e) : da e := by
  have S := lU
  exact T.nc.okX S (fun ds μ Xk h => zN h) (fun cdv A outer s H E hr => ⟨cZ, (de (C0 (Hb (bL (gm (dv 0) ak)) (IH (iy bo (hr.mono (by decide)) rfl T.bP T.bR T.bQ gS (aa (aK (dv 0) (aT ah) bI) ag))) (iy bo (hr.mono (by decide)) rfl T.bP T.bR T.bQ gS (aa (dv 0) ag))))), fun ds μ Xk h => kY h⟩)
theorem ua (T : TX e) (bA : gM e) : fw e := by
  have S := lU
  exact T.nc.okD S (fun ds μ Q h => DN h) (fun cdv A outer s H E hr => ⟨iW, (aq (aN (fh (bL (gm (dv 0) ak)) (cR (au bA (hr.mono (by decide)) rfl T.bP T.bR T.bQ (aa (aK (dv 0) (aT ah) bI) ag))) (au bA (hr.mono (by decide)) rfl T.bP T.bR T.bQ (aa (dv 0) ag))))), fun ds μ Qd h => rG h⟩)
theorem x4 : aR ["_law_a", "_law_b", "_law_c", "_law_common"] ["_law_a", "_law_b", "_law_c"] (aw gp) := ⟨rfl, rfl, rfl, by decide +kernel, rfl, by decide +kernel, by decide +kernel⟩
theorem zk (T : TX e) (bT : jl e) : qz e := by
  have S := x4
  exact T.Ab.okD S (fun ds μ Q h => nM h) (fun cdv A outer s H E hr => ⟨mn, (ai (aA (i := 3) S.nd rfl (Or.inl rfl) (l6 (au bT (hr.mono (by decide)) rfl T.gH T.gW T.gL (aa (au bT (hr.mono (by decide)) rfl T.gH T.gW T.gL (aa (dv 0) (aa (dv 1) ag))) (aa (dv 2) ag))) (eO (cL (aa ah (aa (cR ah) ag))) (yY rfl T.vi (aa (ji A3 lz (dv 2) ah (az _)) ag)))))
    (aq (aN (bu (aa (jH (dv 0) (dv 3)) (aa (jH (dv 1) (dv 3)) (aa (jH (dv 2) (dv 3)) ag))))))), fun ds μ Qd h => x5 h⟩)
theorem nV : aR ["_law_thing"] ["_law_thing"] (aw bX) := ⟨rfl, rfl, rfl, by decide +kernel, rfl, by decide +kernel, by decide +kernel⟩
theorem oY (T : TX e) (hE : ko e) (bT : jl e) : fv e := by
  have S := nV
  exact T.pS.okD S (fun ds μ Q h => AM h) (fun cdv A outer s H E hr => ⟨fu, (ai (bp (DW.dt (lF (eW (bL (kO (kit_tuple _) rfl T.aD rfl T.FN PyProof.Rows.Boot.«tuple» (dv 0)))) (lF (aC (iS hr.units) aM (vF rfl T.jz (aa (dv 0) ag)) ah (az _)) (lE (eW (bL (rC rfl rfl T.yp (aa (qQ (N' := ["_law_one"]) (cap := [none]) rfl (HA (dv 0)) (fun _ _ _ => (aF (i := 0) (show List.Nodup (["_law_one"] : List Str) by decide +kernel) rfl (Or.inl rfl))) (fun _ _ _ => kj) (fun _ _ _ => (au hE (hr.mono (by decide)) rfl T.qM T.qL T.qD (aa (dv 0) ag))) rfl (by decide +kernel) rfl (by decide +kernel) (by walk_at "cl") (jV rfl) rfl (kW trivial)) ag)))))))) (aq (aN vm)) aH)
    (aq (aN (xm (ji nL lz (eO (dv 0) ah) ah (az _)) (wb (ji (aZ hr.units) aM (au bT (hr.mono (by decide)) rfl T.gH T.gW T.gL (aa (au bT (hr.mono (by decide)) rfl T.gH T.gW T.gL (aa (eO (dv 0) ah) (aa (eO (dv 0) ah) ag))) (aa (eO (dv 0) ah) ag))) ah (az _))))))), fun ds μ Qd h => oi h⟩)
theorem yn : aR ["_law_bag_here", "_law_some"] ["_law_bag_here"] (aw gz) := ⟨rfl, rfl, rfl, by decide +kernel, rfl, by decide +kernel, by decide +kernel⟩
theorem yN (T : TX e) (aB : d0 e) : ql e := by
  have S := yn
  exact T.zu.okD S (fun ds μ Q h => Cs h) (fun cdv A outer s H E hr => ⟨lI, (ai (aA (i := 1) S.nd rfl (Or.inl rfl) (cL (aa nq (aa vm (aa vm (aa ak (aa ak (aa (cR ah) (aa ah (aa ah (aa (wm ah ah) (aa (bu ag) (aa (cL ag) (aa (cL (aa ah ag)) (aa (bu (aa ah (aa ah ag))) (aa (bu (aa ah (aa ah (aa ah ag)))) (aa (bu (aa ah (aa ah (aa ah ag)))) (aa (bu (aa ah (aa vm (aa ah ag)))) (aa (bu (aa ah (aa ah (aa (cR ah) ag)))) (aa (cL (aa ah (aa ah (aa ah ag)))) (aa (bu (aa ah (aa ah ag))) (aa ak ag))))))))))))))))))))))
    (aq (aN (eO (dv 1) (au aB (hr.mono (by decide)) rfl T.aW T.aX T.aV (aa (dv 0) (aa ah ag))))))), fun ds μ Qd h => yr h⟩)
theorem vX : aR ["_law_x", "_law_a", "_law_b", "_law_c", "_law_text_here"] ["_law_x"] (aw fj) := ⟨rfl, rfl, rfl, by decide +kernel, rfl, by decide +kernel, by decide +kernel⟩
theorem xG (T : TX e) (cC : j3 e) : kA e := by
  have S := vX
  exact T.x6.okD S (fun ds μ Q h => qm h) (fun cdv A outer s H E hr => ⟨kN, (ai (fG (dv 0) (gG (n := 3) rfl (aL (aF (i := 1) S.nd rfl (Or.inl rfl)) (aL (aF (i := 2) S.nd rfl (Or.inl rfl)) (aL (aF (i := 3) S.nd rfl (Or.inl rfl)) dX)))))
    (ai (aA (i := 4) S.nd rfl (Or.inl rfl) (dQ rfl T.g8 (aa (dv 1) ag)))
    (ai (bp (DW.dt (lW (aC (iS hr.units) aM (dv 2) ah (az _)) (kH (aC (aZ hr.units) aM (dv 1) ah (az _))))) (aq (aA (i := 4) S.nd rfl (Or.inl rfl) (au cC (hr.mono (by decide)) rfl T.iH T.iB T.iF (aa (dv 2) ag)))) (aq (bp (aC (iS hr.units) aM (dv 2) ah (az _)) (ai (aA (i := 4) S.nd rfl (Or.inl rfl) (fh (aC nL lz (dv 2) ah (az _)) (aJ (aJ (dQ rfl T.g8 (aa (dv 1) ag)) ak) (au cC (hr.mono (by decide)) rfl T.iH T.iB T.iF (aa (dv 2) ag))) (aJ (dQ rfl T.g8 (aa (dv 1) ag)) (au cC (hr.mono (by decide)) rfl T.iH T.iB T.iF (aa (dv 2) ag)))))
    (aq (bp (aC (iS hr.units) aM (dv 3) ah (az _)) (aq (aA (i := 4) S.nd rfl (Or.inl rfl) (aJ (aJ ak (dv 4)) ak))) aH))) aH)))
    (aq (aN (fh (aC (aZ hr.units) aM (dv 3) ah (az _)) (dv 4) (aJ (aJ (dv 4) ak) (dQ rfl T.g8 (aa (dv 3) ag))))))))), fun ds μ Qd h => vZ h⟩)
theorem nO : aR ["_law_bag_here", "_law_text_here", "_law_few", "_law_at", "_law_sign", "_law_end", "_law_some"] ["_law_bag_here", "_law_text_here", "_law_few"] (aw bY) := ⟨rfl, rfl, rfl, by decide +kernel, rfl, by decide +kernel, by decide +kernel⟩
theorem nX (T : TX e) (aB : d0 e) (iC : mS e) : jG e := by
  have S := nO
  exact T.p4.okD S (fun ds μ Q h => yv h) (fun cdv A outer s H E hr => ⟨fE, (ai (aA (i := 3) S.nd rfl (Or.inl rfl) (au aB (hr.mono (by decide)) rfl T.aW T.aX T.aV (aa (dv 0) (aa (eU (gO rfl T.jz (aa (dv 1) ag)) ah) ag))))
    (ai (aA (i := 4) S.nd rfl (Or.inl rfl) (nF (dv 2) (au aB (hr.mono (by decide)) rfl T.aW T.aX T.aV (aa (dv 0) (aa (gO rfl T.jz (aa (dv 2) ag)) ag)))))
    (ai (bp (aC (aZ hr.units) aM (au aB (hr.mono (by decide)) rfl T.aW T.aX T.aV (aa (dv 0) (aa ah ag))) ah (az _)) (aq (aA (i := 4) S.nd rfl (Or.inl rfl) (nF (yT iC (hr.mono (by decide)) rfl T.oR T.nP T.oV) (au aB (hr.mono (by decide)) rfl T.aW T.aX T.aV (aa (dv 0) (aa (gO rfl T.jz (aa (yT iC (hr.mono (by decide)) rfl T.oR T.nP T.oV) ag)) ag)))))) aH)
    (ai (aA (i := 5) S.nd rfl (Or.inl rfl) (DP rfl rfl T.Hf (aa (gO rfl T.jz (aa (dv 1) ag)) (aa (eU (eU (dv 3) ah) (au aB (hr.mono (by decide)) rfl T.aW T.aX T.aV (aa (dv 0) (aa ah ag)))) ag))))
    (ai (aA (i := 6) S.nd rfl (Or.inl rfl) (cL (aa (aJ (aJ (aK (dv 1) bI (aT (dv 3))) (dv 4)) (aK (dv 1) (aT (dv 3)) bI)) (aa (aJ (aK (dv 1) bI (aT (dv 3))) (aK (dv 1) (aT (eU (dv 3) ah)) bI)) (aa (aJ (aJ (aK (dv 1) bI (aT (dv 3))) (dv 4)) (aK (dv 1) (aT (eU (dv 3) ah)) bI)) ag)))))
    (ai (aA (i := 6) S.nd rfl (Or.inl rfl) (vQ (dv 6) (cL (aa (aJ (aK (dv 1) bI (aT (dv 5))) (aK (dv 1) (aT (dv 3)) bI)) (aa (GD (dv 1)) (aa (aJ (aK (dv 1) (aT (dv 3)) bI) (aK (dv 1) bI (aT (dv 3)))) ag))))))
    (aq (aN (eO (dv 6) (au aB (hr.mono (by decide)) rfl T.aW T.aX T.aV (aa (dv 0) (aa ah ag)))))))))))), fun ds μ Qd h => oK h⟩)
theorem wO : aR ["_law_text_here", "_law_cut", "_law_at", "_law_ahead", "_law_roots_here"] ["_law_text_here"] (aw ff) := ⟨rfl, rfl, rfl, by decide +kernel, rfl, by decide +kernel, by decide +kernel⟩
theorem vO (T : TX e) (cD : jX e) : oE e := by
  have S := wO
  exact T.zl.okD S (fun ds μ Q h => zF h) (fun cdv A outer s H E hr => ⟨kE, (ai (bp (aC (iS hr.units) aM (aK (dv 0) (aT (cR ah)) bI) ak (az _)) (aq (aN (bu (aa (au cD (hr.mono (by decide)) rfl T.iD T.ir T.iM (aa (dv 0) ag)) (aa ah ag))))) aH)
    (ai (aA (i := 1) S.nd rfl (Or.inl rfl) ah)
    (ai (vK PassesOwn.never rfl (FP rfl T.oy (aa ah (aa (gO rfl T.jz (aa (dv 0) ag)) ag))) (aF (i := 2) S.nd rfl (Or.inl rfl)) (aq (bp (aC (xM hr.units) vA (nF (dv 0) (dv 2)) (yZ rfl rfl T.CY (aa ak ag)) (by with_unfolding_all rfl)) (aq (aA (i := 1) S.nd rfl (Or.inl rfl) (dv 2))) aH)))
    (ai (aA (i := 3) S.nd rfl (Or.inl rfl) (fh (aC (aZ hr.units) aM (dv 1) ah (az _)) ah (au cD (hr.mono (by decide)) rfl T.iD T.ir T.iM (aa (aK (dv 0) bI (aT (dv 1))) ag))))
    (ai (aA (i := 4) S.nd rfl (Or.inl rfl) (fh (DW.dt (lF (aC (aZ hr.units) aM (dv 1) ah (az _)) (lE (aC (aZ hr.units) aM (nF (dv 0) (dv 1)) ak (az _))))) (aK (dv 0) (aT (dv 1)) (aT (cR ah))) (aK (dv 0) (aT (eU (dv 1) ah)) (aT (cR ah)))))
    (ai (bp (aC (xM hr.units) vA (dv 4) (cL (aa ak (aa ak ag))) (by with_unfolding_all rfl)) (aq (aN (bu (aa (dv 3) (aa (eO (cL (aa ah (aa (cR ah) ag))) (yY rfl T.vi (aa (ji (aZ hr.units) aM (dv 4) ak (az _)) ag))) ag))))) aH)
    (aq (aN (bu (aa (dv 3) (aa (au cD (hr.mono (by decide)) rfl T.iD T.ir T.iM (aa (dv 4) ag)) ag))))))))))), fun ds μ Qd h => wN h⟩)
theorem sV : aR ["_law_bag_here", "_law_x", "_law_a", "_law_b", "_law_c", "_law_top", "_law_under", "_law_roots_here", "_law_sign", "_law_many", "_law_wide", "_law_whole_here", "_law_some"] ["_law_bag_here", "_law_x"] (aw dw) := ⟨rfl, rfl, rfl, by decide +kernel, rfl, by decide +kernel, by decide +kernel⟩
theorem rA (T : TX e) (cC : j3 e) (aB : d0 e) : mi e := by
  have S := sV
  exact T.uD.okD S (fun ds μ Q h => vE h) (fun cdv A outer s H E hr => ⟨jk, (ai (fG (dv 1) (gG (n := 3) rfl (aL (aF (i := 2) S.nd rfl (Or.inl rfl)) (aL (aF (i := 3) S.nd rfl (Or.inl rfl)) (aL (aF (i := 4) S.nd rfl (Or.inl rfl)) dX)))))
    (ai (nC (i := 5) (j := 6) rfl S.nd rfl rfl (by decide) rfl rfl (aa (dQ rfl T.g8 (aa (dv 2) ag)) (aa (dQ rfl T.g8 (aa (dv 4) ag)) ag)) rfl)
    (ai (aA (i := 7) S.nd rfl (Or.inl rfl) (fh (aC (iS hr.units) aM (dv 3) ah (az _)) (au cC (hr.mono (by decide)) rfl T.iH T.iB T.iF (aa (dv 3) ag)) ak))
    (ai (aA (i := 8) S.nd rfl (Or.inl rfl) (fh (aC nL lz (dv 3) ah (az _)) ak ak))
    (ai (aA (i := 9) S.nd rfl (Or.inl rfl) (eU ah (au aB (hr.mono (by decide)) rfl T.aW T.aX T.aV (aa (dv 0) (aa ah ag)))))
    (ai (aA (i := 10) S.nd rfl (Or.inl rfl) (aJ ak (GZ ak (eU ah (au aB (hr.mono (by decide)) rfl T.aW T.aX T.aV (aa (dv 0) (aa ah ag)))))))
    (ai (aA (i := 11) S.nd rfl (Or.inl rfl) (aJ (aJ (dv 5) (dv 8)) (dv 7)))
    (ai (aA (i := 12) S.nd rfl (Or.inl rfl) (cL (aa (aJ (aJ (dQ rfl T.g8 (aa (l6 (dv 2) (dv 9)) ag)) ak) (dQ rfl T.g8 (aa (l6 (dv 4) (dv 9)) ag))) (aa (aJ ak (dv 5)) (aa (aJ (aJ ak (dv 5)) ak) (aa (aJ (aJ (aJ ak (dv 7)) ak) (dv 6)) ag))))))
    (ai (aA (i := 12) S.nd rfl (Or.inl rfl) (vQ (dv 12) (cL (aa (aJ (dv 5) ak) (aa (aJ ak (dv 5)) (aa (aJ (aJ (dv 11) ak) (dv 6)) (aa (aJ (aJ ak (dv 11)) ak) (aa (aJ (aJ (dv 7) ak) (dv 5)) ag))))))))
    (ai (aA (i := 12) S.nd rfl (Or.inl rfl) (vQ (dv 12) (cL (aa (dv 10) (aa (aJ ak (dv 10)) (aa (aJ (dv 10) ak) (aa ak (aa ak (aa ak (aa ak (aa ak (aa ak (aa ak ag)))))))))))))
    (aq (aN (eO (vQ (dv 12) (cL (aa (aJ (aJ (dv 5) ak) (dv 7)) ag))) (au aB (hr.mono (by decide)) rfl T.aW T.aX T.aV (aa (dv 0) (aa ah ag)))))))))))))))), fun ds μ Qd h => rT h⟩)
theorem B2 : aR ["a", "b", "c", "divisor"] ["a", "b", "c"] (aw km) := ⟨rfl, rfl, rfl, by decide +kernel, rfl, by decide +kernel, by decide +kernel⟩
theorem B0 (T : TX e) (gu : jC e) : pX e := by
  have S := B2
  exact T.Ek.okD S (fun ds μ Q h => nM h) (fun cdv A outer s H E hr => ⟨pW, (ai (bp (aC (aZ hr.units) aM (dv 2) ah (az _)) (aq dP) aH)
    (ai (aA (i := 3) S.nd rfl (Or.inl rfl) (au gu (hr.mono (by decide)) rfl T.pQ T.pY T.qb (aa (dv 0) (aa (dv 1) (aa (dv 2) ag)))))
    (ai (bp (aC A3 lz (dv 2) ah (az _)) (aq (aA (i := 3) S.nd rfl (Or.inl rfl) (cR (dv 3)))) aH)
    (aq (aN (bu (aa (jH (dv 0) (dv 3)) (aa (jH (dv 1) (dv 3)) (aa (jH (dv 2) (dv 3)) ag))))))))), fun ds μ Qd h => B9 h⟩)
theorem sv : aR ["x", "a", "b", "c", "body"] ["x"] (aw dE) := ⟨rfl, rfl, rfl, by decide +kernel, rfl, by decide +kernel, by decide +kernel⟩
theorem sX (T : TX e) (cF : jI e) (d6 : jx e) : jd e := by
  have S := sv
  exact T.uq.okD S (fun ds μ Q h => qm h) (fun cdv A outer s H E hr => ⟨jg, (ai (fG (dv 0) (gG (n := 3) rfl (aL (aF (i := 1) S.nd rfl (Or.inl rfl)) (aL (aF (i := 2) S.nd rfl (Or.inl rfl)) (aL (aF (i := 3) S.nd rfl (Or.inl rfl)) dX)))))
    (ai (bp (aC (aZ hr.units) aM (dv 2) ah (az _)) (aq (aA (i := 4) S.nd rfl (Or.inl rfl) (au cF (hr.mono (by decide)) rfl T.iK T.iI T.iu (aa (dv 1) ag)))) (aq (bp (aC (aZ hr.units) aM (dv 1) ah (az _)) (aq (aA (i := 4) S.nd rfl (Or.inl rfl) (au d6 (hr.mono (by decide)) rfl T.ky T.kx T.ke (aa (dv 2) ag)))) (ai (aA (i := 4) S.nd rfl (Or.inl rfl) (aJ (aJ (au cF (hr.mono (by decide)) rfl T.iK T.iI T.iu (aa (dv 1) ag)) (fh (aC nL lz (dv 2) ah (az _)) ak ak)) (au d6 (hr.mono (by decide)) rfl T.ky T.kx T.ke (aa (dv 2) ag))))
    (aq (aA (i := 4) S.nd rfl (Or.inl rfl) (fh (aC (aZ hr.units) aM (dv 3) ah (az _)) (dv 4) (vf (mv ak (mv (Fc (dv 4)) (mv ak En)))))))))))
    (aq (aN (fh (aC (aZ hr.units) aM (dv 3) ah (az _)) (dv 4) (vf (mv (Fc (dv 4)) (mv ak (mv (Fc (au cF (hr.mono (by decide)) rfl T.iK T.iI T.iu (aa (dv 3) ag))) En))))))))), fun ds μ Qd h => rP h⟩)
theorem jr : aR ["text"] ["text"] (aw cj) := ⟨rfl, rfl, rfl, by decide +kernel, rfl, by decide +kernel, by decide +kernel⟩
theorem jn (T : TX e) (bz : da e) : eA e := by
  have S := jr
  exact T.ku.okX S (fun ds μ Xk h => AF h) (fun cdv A outer s H E hr => ⟨cx, (bD (bp (DW.dt (lF (aC (aZ hr.units) aM (dv 0) ak (az _)) (lE (aC (aZ hr.units) aM (dv 0) ak (az _))))) (aq (aN ah)) aH)
    (bD (bp (aC (aZ hr.units) aM (dv 0) ak (az _)) (aq (aN (cR ah))) aH)
    (de (C0 (iy bz (hr.mono (by decide)) rfl T.dq T.dF T.dz gS (aa (fh (bL (gm (dv 0) ak)) (aK (dv 0) (aT ah) bI) (dv 0)) ag)))))), fun ds μ Xk h => jm h⟩)
theorem oP (T : TX e) (bG : fw e) : fD e := by
  have S := jr
  exact T.ku.okD S (fun ds μ Q h => E9 h) (fun cdv A outer s H E hr => ⟨fQ, (ai (bp (DW.dt (lF (aC (aZ hr.units) aM (dv 0) ak (az _)) (lE (aC (aZ hr.units) aM (dv 0) ak (az _))))) (aq (aN ah)) aH)
    (ai (bp (aC (aZ hr.units) aM (dv 0) ak (az _)) (aq (aN (cR ah))) aH)
    (aq (aN (au bG (hr.mono (by decide)) rfl T.dq T.dF T.dz (aa (fh (bL (gm (dv 0) ak)) (aK (dv 0) (aT ah) bI) (dv 0)) ag)))))), fun ds μ Qd h => oZ h⟩)
theorem tT : aR ["_law_bag_here", "_law_wide", "_law_a", "_law_b", "_law_c", "_law_way"] ["_law_bag_here"] (aw dm) := ⟨rfl, rfl, rfl, by decide +kernel, rfl, by decide +kernel, by decide +kernel⟩
theorem sj (T : TX e) (aB : d0 e) (nz : qz e) : md e := by
  have S := tT
  exact T.uL.okD S (fun ds μ Q h => ue h) (fun cdv A outer s H E hr => ⟨jh, (ai (aA (i := 1) S.nd rfl (Or.inl rfl) (eO (cL (aa ah (aa ah (aa ah (aa ah ag))))) (au aB (hr.mono (by decide)) rfl T.aW T.aX T.aV (aa (dv 0) (aa ah ag)))))
    (ai (nC (i := 2) (j := 3) rfl S.nd rfl rfl (by decide) rfl rfl (aa (AE (au aB (hr.mono (by decide)) rfl T.aW T.aX T.aV (aa (dv 0) (aa (dv 1) ag))) (jH (dv 1) ah)) (aa (AE (au aB (hr.mono (by decide)) rfl T.aW T.aX T.aV (aa (dv 0) (aa (dv 1) ag))) (jH (dv 1) ah)) ag)) rfl)
    (ai (aA (i := 4) S.nd rfl (Or.inl rfl) (eU ah (au aB (hr.mono (by decide)) rfl T.aW T.aX T.aV (aa (dv 0) (aa (AE (dv 1) ah) ag)))))
    (ai (aA (i := 5) S.nd rfl (Or.inl rfl) (au aB (hr.mono (by decide)) rfl T.aW T.aX T.aV (aa (dv 0) (aa ah ag))))
    (aq (aN (au nz (hr.mono (by decide)) rfl T.As T.zS T.zP (aa (eO (cL (aa (dv 2) (aa (dv 2) (aa (dv 2) (aa (dv 2) (aa (dv 2) (aa (dv 2) (aa (dv 2) (aa ah ag))))))))) (dv 5)) (aa (eO (cL (aa (dv 3) (aa (dv 3) (aa (dv 3) (aa (dv 3) (aa (dv 3) (aa ah (aa ah (aa (dv 3) ag))))))))) (dv 5)) (aa (eO (cL (aa (dv 4) (aa (dv 4) (aa ah (aa (dv 4) (aa ah (aa (dv 4) (aa ah (aa (dv 4) ag))))))))) (dv 5)) ag)))))))))), fun ds μ Qd h => rF h⟩)
theorem o6 : aR ["_law_text_here", "_law_body", "_law_under", "_law_cut", "_law_a", "_law_b"] ["_law_text_here"] (aw bU) := ⟨rfl, rfl, rfl, by decide +kernel, rfl, by decide +kernel, by decide +kernel⟩
theorem nJ (T : TX e) (cD : jX e) (lO : oE e) (cg : fv e) (fi : kA e) : jy e := by
  have S := o6
  exact T.pN.okD S (fun ds μ Q h => xO h) (fun cdv A outer s H E hr => ⟨fq, (ai (nC (i := 1) (j := 2) rfl S.nd rfl rfl (by decide) rfl rfl (aa (dv 0) (aa ah ag)) rfl)
    (ai (bp (aC pR AB ak (dv 0) (by with_unfolding_all rfl)) (ai (aA (i := 3) S.nd rfl (Or.inl rfl) (Fw (dv 0) ak))
    (aq (nC (i := 1) (j := 2) rfl S.nd rfl rfl (by decide) rfl rfl (aa (aK (dv 0) bI (aT (dv 3))) (aa (au cD (hr.mono (by decide)) rfl T.iD T.ir T.iM (aa (aK (dv 0) (aT (eU (dv 3) ah)) bI) ag)) ag)) rfl))) aH)
    (ai (bp (DW.dt (lW (aC nL lz (gO rfl T.jz (aa (dv 1) ag)) ah (az _)) (lW (aC (aZ hr.units) aM (nF (dv 1) ah) ak (az _)) (kH (aC (aZ hr.units) aM (nF (dv 1) (cR ah)) ak (az _)))))) (aq (aA (i := 1) S.nd rfl (Or.inl rfl) (aK (dv 1) (aT ah) (aT (cR ah))))) aH)
    (ai (fG (au lO (hr.mono (by decide)) rfl T.x3 T.xQ T.zj (aa (dv 1) ag)) (gG (n := 2) rfl (aL (aF (i := 4) S.nd rfl (Or.inl rfl)) (aL (aF (i := 5) S.nd rfl (Or.inl rfl)) dX))))
    (ai (bp (DW.dt (lF (aC (xM hr.units) vA nq (cL (aa (dv 4) (aa (dv 5) (aa (dv 2) ag)))) (by with_unfolding_all rfl)) (lE (eW (bL (au cg (hr.mono (by decide)) rfl T.ki T.kb T.kh (aa (bu (aa (dv 4) (aa (dv 5) (aa (dv 2) ag)))) ag))))))) (aq (aN nq)) aH)
    (aq (aN (fh (aC (aZ hr.units) aM (au fi (hr.mono (by decide)) rfl T.qw T.qx T.qv (aa (bu (aa (dv 4) (aa (dv 5) (aa (dv 2) ag)))) ag)) (dv 0) (az _)) (bu (aa (dv 4) (aa (dv 5) (aa (dv 2) ag)))) nq)))))))), fun ds μ Qd h => o4 h⟩)
theorem lD : aR ["text", "body", "slash", "below", "c", "plain", "beside_root", "found"] ["text"] (aw dy) := ⟨rfl, rfl, rfl, by decide +kernel, rfl, by decide +kernel, by decide +kernel⟩
theorem k9 (T : TX e) (bo : dH e) (bA : gM e) (dM : kI e) (bz : da e) (bG : fw e) (cJ : eA e) (kv : pX e) (ck : fD e) (du : jd e) : cV e := by
  have S := lD
  exact T.mR.okX S (fun ds μ Xk h => uj h) (fun cdv A outer s H E hr => ⟨cU, (vL (de (BV (eW (bL (kO (my _) rfl T.aD rfl T.g8 PyProof.Rows.Boot.«str» (dv 0)))) (de (oO gS rfl T.lV T.kq)) mz))
    (vL (bD (bp (eW (bL (kO (my _) rfl T.aD rfl T.g8 PyProof.Rows.Boot.«str» (dv 0)))) (aq dP) aH)
    (bD (fG (mh (dv 0) ak) (gG (n := 3) rfl (aL (aF (i := 1) S.nd rfl (Or.inl rfl)) (aL (aF (i := 2) S.nd rfl (Or.inl rfl)) (aL (aF (i := 3) S.nd rfl (Or.inl rfl)) dX)))))
    (de (E8 (i := 4) S.nd rfl (Or.inl rfl) (Hb (oU (dv 2)) (iy bo (hr.mono (by decide)) rfl T.bP T.bR T.bQ gS (aa (dv 3) ag)) Ew)))))
    (vL (bD (bp (eW (bL (kO (my _) rfl T.aD rfl T.g8 PyProof.Rows.Boot.«str» (dv 0)))) (aq dP) aH)
    (bD (fG (mh (dv 0) ak) (gG (n := 3) rfl (aL (aF (i := 1) S.nd rfl (Or.inl rfl)) (aL (aF (i := 2) S.nd rfl (Or.inl rfl)) (aL (aF (i := 3) S.nd rfl (Or.inl rfl)) dX)))))
    (bD (aA (i := 4) S.nd rfl (Or.inl rfl) (fh (oU (dv 2)) (au bA (hr.mono (by decide)) rfl T.bP T.bR T.bQ (aa (dv 3) ag)) ah))
    (de (BV (aC (aZ hr.units) aM (dv 4) ah (az _)) (de (oO gS rfl T.lV T.kq)) mz)))))
    (vL (bD (bp (eW (bL (kO (my _) rfl T.aD rfl T.g8 PyProof.Rows.Boot.«str» (dv 0)))) (aq dP) aH)
    (bD (fG (mh (dv 0) ak) (gG (n := 3) rfl (aL (aF (i := 1) S.nd rfl (Or.inl rfl)) (aL (aF (i := 2) S.nd rfl (Or.inl rfl)) (aL (aF (i := 3) S.nd rfl (Or.inl rfl)) dX)))))
    (bD (aA (i := 4) S.nd rfl (Or.inl rfl) (fh (oU (dv 2)) (au bA (hr.mono (by decide)) rfl T.bP T.bR T.bQ (aa (dv 3) ag)) ah))
    (bD (bp (aC (aZ hr.units) aM (dv 4) ah (az _)) (aq dP) aH)
    (bD (bp (DW.dt (lW (bL (gm (dv 1) ak)) (kH (bL (qT (dv 1) ak))))) (aq (aA (i := 1) S.nd rfl (Or.inl rfl) (aK (dv 1) (aT ah) (aT (cR ah))))) aH)
    (bD (fG (au dM (hr.mono (by decide)) rfl T.lL T.lZ T.lG (aa (dv 1) ag)) (gG (n := 2) rfl (aL (aF (i := 5) S.nd rfl (Or.inl rfl)) (aL (aF (i := 6) S.nd rfl (Or.inl rfl)) dX))))
    (de (E8 (i := 7) S.nd rfl (Or.inl rfl) (Ju (yy (hr.mono (Nat.zero_le _)) rfl T.nY T.n5 T.nR (BW (iy bz (hr.mono (by decide)) rfl T.dq T.dF T.dz gS (aa (dv 5) ag)))) (yy (hr.mono (Nat.zero_le _)) rfl T.nY T.n5 T.nR (Fv (au bG (hr.mono (by decide)) rfl T.dq T.dF T.dz (aa (dv 5) ag)) (BW (iy cJ (hr.mono (by decide)) rfl T.gr T.gj T.gB gS (aa (dv 6) ag))))))))))))))
    (bD (bp (eW (bL (kO (my _) rfl T.aD rfl T.g8 PyProof.Rows.Boot.«str» (dv 0)))) (aq dP) aH)
    (bD (fG (mh (dv 0) ak) (gG (n := 3) rfl (aL (aF (i := 1) S.nd rfl (Or.inl rfl)) (aL (aF (i := 2) S.nd rfl (Or.inl rfl)) (aL (aF (i := 3) S.nd rfl (Or.inl rfl)) dX)))))
    (bD (aA (i := 4) S.nd rfl (Or.inl rfl) (fh (oU (dv 2)) (au bA (hr.mono (by decide)) rfl T.bP T.bR T.bQ (aa (dv 3) ag)) ah))
    (bD (bp (aC (aZ hr.units) aM (dv 4) ah (az _)) (aq dP) aH)
    (bD (bp (DW.dt (lW (bL (gm (dv 1) ak)) (kH (bL (qT (dv 1) ak))))) (aq (aA (i := 1) S.nd rfl (Or.inl rfl) (aK (dv 1) (aT ah) (aT (cR ah))))) aH)
    (bD (fG (au dM (hr.mono (by decide)) rfl T.lL T.lZ T.lG (aa (dv 1) ag)) (gG (n := 2) rfl (aL (aF (i := 5) S.nd rfl (Or.inl rfl)) (aL (aF (i := 6) S.nd rfl (Or.inl rfl)) dX))))
    (bD (aA (i := 7) S.nd rfl (Or.inl rfl) (au kv (hr.mono (by decide)) rfl T.nY T.n5 T.nR (aa (au bG (hr.mono (by decide)) rfl T.dq T.dF T.dz (aa (dv 5) ag)) (aa (au ck (hr.mono (by decide)) rfl T.gr T.gj T.gB (aa (dv 6) ag)) (aa (dv 4) ag)))))
    (de (BV (aC (iS hr.units) aM (au du (hr.mono (by decide)) rfl T.mW T.mQ T.mV (aa (dv 7) ag)) (dv 0) (az _)) (de (oO gS rfl T.lV T.kq)) mz))))))))))))), fun ds μ Xk h => kz h⟩)
theorem sY (T : TX e) (bA : gM e) (dM : kI e) (kv : pX e) (bG : fw e) (ck : fD e) (du : jd e) : jc e := by
  have S := lD
  exact T.mR.okD S (fun ds μ Q h => xa h) (fun cdv A outer s H E hr => ⟨i7, (ai (bp (eW (bL (kO (my _) rfl T.aD rfl T.g8 PyProof.Rows.Boot.«str» (dv 0)))) (aq dP) aH)
    (ai (fG (mh (dv 0) ak) (gG (n := 3) rfl (aL (aF (i := 1) S.nd rfl (Or.inl rfl)) (aL (aF (i := 2) S.nd rfl (Or.inl rfl)) (aL (aF (i := 3) S.nd rfl (Or.inl rfl)) dX)))))
    (ai (aA (i := 4) S.nd rfl (Or.inl rfl) (fh (oU (dv 2)) (au bA (hr.mono (by decide)) rfl T.bP T.bR T.bQ (aa (dv 3) ag)) ah))
    (ai (bp (aC (aZ hr.units) aM (dv 4) ah (az _)) (aq dP) aH)
    (ai (bp (DW.dt (lW (bL (gm (dv 1) ak)) (kH (bL (qT (dv 1) ak))))) (aq (aA (i := 1) S.nd rfl (Or.inl rfl) (aK (dv 1) (aT ah) (aT (cR ah))))) aH)
    (ai (fG (au dM (hr.mono (by decide)) rfl T.lL T.lZ T.lG (aa (dv 1) ag)) (gG (n := 2) rfl (aL (aF (i := 5) S.nd rfl (Or.inl rfl)) (aL (aF (i := 6) S.nd rfl (Or.inl rfl)) dX))))
    (ai (aA (i := 7) S.nd rfl (Or.inl rfl) (au kv (hr.mono (by decide)) rfl T.nY T.n5 T.nR (aa (au bG (hr.mono (by decide)) rfl T.dq T.dF T.dz (aa (dv 5) ag)) (aa (au ck (hr.mono (by decide)) rfl T.gr T.gj T.gB (aa (dv 6) ag)) (aa (dv 4) ag)))))
    (ai (bp (aC (iS hr.units) aM (au du (hr.mono (by decide)) rfl T.mW T.mQ T.mV (aa (dv 7) ag)) (dv 0) (az _)) (aq dP) aH)
    (aq (aN (dv 7))))))))))), fun ds μ Qd h => tN h⟩)
theorem lj : aR ["_law_deed", "e", "_law_some", "_law_names"] ["_law_deed"] (aw cT) := ⟨rfl, rfl, rfl, by decide +kernel, rfl, by decide +kernel, by decide +kernel⟩
theorem An (T : TX e) : nr e := by
  have S := lj
  exact HV (k := 4) T.sd lj rfl rfl rfl rfl T.vz T.rB (by decide) (by decide) (by decide) (fun _ => rfl) (fun cdv A outer s H ea oe hc hr => (ai (aA (i := 2) S.nd rfl (Or.inl rfl) (cL (aa (bu (aa ak (aa (gy (ea := ea) (oe := oe) T.cA (List.mem_cons_self) hc T.g9 rfl T.aD rfl T.DV (dv 1)) ag))) (aa (bu (aa ak (aa (gy (ea := ea) (oe := oe) T.cA (List.mem_cons_self) hc T.fO rfl T.aD rfl T.Af (dv 1)) ag))) (aa (bu (aa ak (aa (gy (ea := ea) (oe := oe) T.cA (List.mem_cons_self) hc T.fN rfl T.aD rfl T.zH (dv 1)) ag))) (aa (bu (aa ak (aa (gy (ea := ea) (oe := oe) T.cA (List.mem_cons_self) hc T.hV rfl T.aD rfl T.DY (dv 1)) ag))) (aa (bu (aa ak (aa (gy (ea := ea) (oe := oe) T.cA (List.mem_cons_self) hc T.jb rfl T.aD rfl T.Fy (dv 1)) ag))) (aa (bu (aa ak (aa (gy (ea := ea) (oe := oe) T.cA (List.mem_cons_self) hc T.fX rfl T.aD rfl T.CD (dv 1)) ag))) (aa (bu (aa ak (aa (gy (ea := ea) (oe := oe) T.cA (List.mem_cons_self) hc T.ic rfl T.aD rfl T.D2 (dv 1)) ag))) (aa (bu (aa ak (aa (gy (ea := ea) (oe := oe) T.cA (List.mem_cons_self) hc T.hJ rfl T.aD rfl T.EN (dv 1)) ag))) (aa (bu (aa ak (aa (gy (ea := ea) (oe := oe) T.cA (List.mem_cons_self) hc T.i4 rfl T.aD rfl T.Gv (dv 1)) ag))) (aa (bu (aa ak (aa (gy (ea := ea) (oe := oe) T.cA (List.mem_cons_self) hc T.ie rfl T.aD rfl T.lV (dv 1)) ag))) (aa (bu (aa ak (aa (gy (ea := ea) (oe := oe) T.cA (List.mem_cons_self) hc T.fz rfl T.aD rfl T.Ad (dv 1)) ag))) (aa (bu (aa ak (aa (gy (ea := ea) (oe := oe) T.cA (List.mem_cons_self) hc T.hZ rfl T.aD rfl T.D1 (dv 1)) ag))) (aa (bu (aa ak (aa (gy (ea := ea) (oe := oe) T.cA (List.mem_cons_self) hc T.fU rfl T.aD rfl T.CM (dv 1)) ag))) ag)))))))))))))))
    (ai (Ga (i := 3) (N' := ["_law_name", "_law_is_so"]) (cap := [none, none]) S.nd rfl rfl rfl (BE (dv 2)) (fun _ _ _ => (gG (n := 2) rfl (aL (aF (i := 0) (show List.Nodup (["_law_name", "_law_is_so"] : List Str) by decide +kernel) rfl (Or.inl rfl)) (aL (aF (i := 1) (show List.Nodup (["_law_name", "_law_is_so"] : List Str) by decide +kernel) rfl (Or.inl rfl)) dX)))) (fun _ _ _ => (Fi (bL (dv 1)))) (fun _ _ _ => (dv 0)) rfl (by decide +kernel) rfl (by decide +kernel) (by walk_at "cl") (jV rfl) rfl (kW trivial))
    (ai (bp (DW.dt (lW (aC (aZ hr.units) aM (vF rfl T.jz (aa (dv 3) ag)) ah (az _)) (kH (bL (Fu (ea := ea) (oe := oe) (T := "ValueError") T.cA (List.mem_cons_self) hc T.nE rfl T.aD rfl T.wF PyProof.Rows.Boot.«ValueError» (dv 1)))))) (aq (aN (eO (dv 3) ah))) aH)
    (aq (aN ak)))))) (fun ea fa μ Qd h => kK h)
theorem qK : aR ["_law_text_here", "_law_due", "_law_told"] ["_law_text_here"] (aw cQ) := ⟨rfl, rfl, rfl, by decide +kernel, rfl, by decide +kernel, by decide +kernel⟩
theorem qE (T : TX e) (fY : jy e) (gi : nr e) (bh : cV e) (dk : jc e) (cg : fv e) : lq e := by
  have S := qK
  exact T.tP.JS S (fun ds μ Q h => vH h) (fun cdv hcv A outer s H E hr => ⟨ig, (ai (aA (i := 1) S.nd rfl (Or.inl rfl) (au fY (hr.mono (by decide)) rfl T.pI T.pJ T.qe (aa (dv 0) ag)))
    (ai (bp (aC FC IZ (dv 1) nq (az _)) (aq (aN (ji (aZ hr.units) aM (qg (N' := (["_law_text_here"] : List Str)) (cap := [some 0]) gi (hr.mono (by decide)) rfl T.iY T.jj T.iZ T.tX (hcv.symm.trans T.qJ) rfl (by decide) (fun A' outer' s' H' fa c1 E hrL => (iy bh (hrL.mono (by decide)) rfl T.eL T.eP T.eK wk (aa (dv 0) ag))) rfl rfl (fun _ _ _ => rfl) rfl rfl rfl (by decide +kernel) (by walk_at "cl") (jV rfl) rfl (qZ ⟨Hh, trivial⟩)) ak (az _)))) aH)
    (ai (aA (i := 2) S.nd rfl (Or.inl rfl) (au dk (hr.mono (by decide)) rfl T.eL T.eP T.eK (aa (dv 0) ag)))
    (aq (aN (xm (au cg (hr.mono (by decide)) rfl T.ki T.kb T.kh (aa (dv 2) ag)) (wb (ji (aZ hr.units) aM (dv 2) (dv 1) (az _))))))))), fun ds μ Qd h => qI h⟩)
theorem Ij : aR ["_law_script", "_law_few", "_law_k", "_law_bag_here", "_law_x", "_law_right", "_law_turn", "_law_text_here", "_law_again", "_law_row", "_law_odd_here"] ["_law_script"] (aw mT) := ⟨rfl, rfl, rfl, by decide +kernel, rfl, by decide +kernel, by decide +kernel⟩
theorem HY (T : TX e) (nH : qj e) (jZ : md e) (fi : kA e) (aB : d0 e) (gF : jG e) (jM : mi e) (iU : lq e) (nh : ql e) (gi : nr e) (bh : cV e) (dk : jc e) : Eo e := by
  have S := Ij
  exact T.KL.JS S (fun ds μ Q h => Cv h) (fun cdv hcv A outer s H E hr => ⟨Aa, (ai (aA (i := 1) S.nd rfl (Or.inr rfl) ak)
    (ai (vK PassesOwn.never rfl (qS rfl T.oy (aa (C9 rfl rfl T.Hj (aa ah (aa (DP rfl rfl T.Hf (aa ah (aa (vF rfl T.jz (aa (dv 0) ag)) ag))) ag))) ag)) (aF (i := 2) S.nd rfl (Or.inl rfl)) (ai (aA (i := 3) S.nd rfl (Or.inr rfl) (au nH (hr.mono (by decide)) rfl T.AA T.zx T.AH (aa (dv 0) (aa (dv 2) ag))))
    (ai (aA (i := 4) S.nd rfl (Or.inl rfl) (au jZ (hr.mono (by decide)) rfl T.uU T.uM T.uk (aa (dv 3) ag)))
    (ai (aA (i := 5) S.nd rfl (Or.inl rfl) (au fi (hr.mono (by decide)) rfl T.qw T.qx T.qv (aa (dv 4) ag)))
    (ai (vK PassesOwn.never rfl (qS rfl T.oy (aa ah ag)) (aF (i := 6) S.nd rfl (Or.inl rfl)) (ai (aA (i := 7) S.nd rfl (Or.inl rfl) (dv 5))
    (ai (vK PassesOwn.never rfl (qS rfl T.oy (aa (eU ah (au aB (hr.mono (by decide)) rfl T.aW T.aX T.aV (aa (dv 3) (aa ah ag)))) ag)) (aF (i := 8) S.nd rfl (Or.inl rfl)) (aq (aA (i := 7) S.nd rfl (Or.inl rfl) (au gF (hr.mono (by decide)) rfl T.pT T.pL T.pC (aa (dv 3) (aa (dv 7) (aa (dv 1) ag)))))))
    (ai (aA (i := 9) S.nd rfl (Or.inl rfl) (yk ak (yO (N' := ["_law_sign", "_law_few", "_law_bag_here"]) (cap := [none, some 1, some 3]) rfl (qS rfl T.oy (aa (au aB (hr.mono (by decide)) rfl T.aW T.aX T.aV (aa (dv 3) (aa ah ag))) ag)) (fun _ _ _ => (aF (i := 0) (show List.Nodup (["_law_sign", "_law_few", "_law_bag_here"] : List Str) by decide +kernel) rfl (Or.inl rfl))) (fun _ _ _ => kj) (fun _ _ _ => (nF (dv 1) (au aB (hr.mono (by decide)) rfl T.aW T.aX T.aV (aa (dv 2) (aa (gO rfl T.jz (aa (dv 1) ag)) ag))))) rfl (by decide +kernel) rfl (by decide +kernel) (by walk_at "cl") (jV rfl) rfl (kW ⟨Kh, ⟨Kh, trivial⟩⟩))))
    (aq (bp (eW (bL (rC rfl rfl T.yp (aa (yO (N' := ["_law_one"]) (cap := [none]) rfl (BE (cL (aa (dv 7) (aa (dv 9) (aa (au jM (hr.mono (by decide)) rfl T.uu T.uo T.uW (aa (dv 3) (aa (dv 4) ag))) (aa (dv 5) ag)))))) (fun _ _ _ => (aF (i := 0) (show List.Nodup (["_law_one"] : List Str) by decide +kernel) rfl (Or.inl rfl))) (fun _ _ _ => kj) (fun _ _ _ => (au iU (hr.mono (by decide)) rfl T.sI T.rQ T.sG (aa (dv 0) ag))) rfl (by decide +kernel) rfl (by decide +kernel) (by walk_at "cl") (jV rfl) rfl (kW trivial)) ag)))) (aq (aN vm)) aH))))))
    (ai (aA (i := 10) S.nd rfl (Or.inr rfl) (au nh (hr.mono (by decide)) rfl T.Am T.zL T.Aj (aa (dv 3) ag)))
    (aq (bp (DW.dt (lW (aC (iS hr.units) aM (dv 10) ak (az _)) (kH (aC (iS hr.units) aM (qg (N' := (["_law_odd_here"] : List Str)) (cap := [some 10]) gi (hr.mono (by decide)) rfl T.iY T.jj T.iZ T.Hg (hcv.symm.trans T.Fb) rfl (by decide) (fun A' outer' s' H' fa c1 E hrL => (iy bh (hrL.mono (by decide)) rfl T.eL T.eP T.eK wk (aa (dv 0) ag))) rfl rfl (fun _ _ _ => rfl) rfl rfl rfl (by decide +kernel) (by walk_at "cl") (jV rfl) rfl (qZ ⟨Hh, trivial⟩)) ak (az _))))) (aq (aN vm)) aH))))))))
    (aq (aN (xm (ji (aZ hr.units) aM (au dk (hr.mono (by decide)) rfl T.eL T.eP T.eK (aa ak ag)) (bu (aa ah (aa ah (aa ah ag)))) (az _)) (wb (ji (aZ hr.units) aM (qg (N' := ([] : List Str)) (cap := []) gi (hr.mono (by decide)) rfl T.iY T.jj T.iZ T.Hg (hcv.symm.trans T.Fb) rfl (by decide) (fun A' outer' s' H' fa c1 E hrL => (iy bh (hrL.mono (by decide)) rfl T.eL T.eP T.eK wk (aa (bu (aa ak ag)) ag))) rfl rfl (fun _ _ _ => rfl) rfl rfl rfl (by decide +kernel) (by walk_at "cl") (jV rfl) rfl (qZ trivial)) ak (az _)))))))), fun ds μ Qd h => Ip h⟩)
theorem HZ (T : TX e) : Eo e := by
  have dS := oq T
  have cF := uF T
  have dM := vy T
  have bo := lB T
  have bA := uB T
  have nH := yh T
  have aB := vS T
  have hE := qi T
  have bT := sL T
  have cC := uc T
  have iC := ug T
  have cD := uQ T
  have gu := oF T dS
  have d6 := o5 T cF
  have bz := kU T bo
  have bG := ua T bA
  have nz := zk T bT
  have cg := oY T hE bT
  have nh := yN T aB
  have fi := xG T cC
  have gF := nX T aB iC
  have lO := vO T cD
  have jM := rA T cC aB
  have kv := B0 T gu
  have du := sX T cF d6
  have cJ := jn T bz
  have ck := oP T bG
  have jZ := sj T aB nz
  have fY := nJ T cD lO cg fi
  have bh := k9 T bo bA dM bz bG cJ kv ck du
  have dk := sY T bA dM kv bG ck du
  have gi := An T
  have iU := qE T fY gi bh dk cg
  exact HY T nH jZ fi aB gF jM iU nh gi bh dk
end
theorem all_mk {l : PySem.W.OpenLaw} {w : World} {K : PySem.W.Frag} {h : Heap} {mg : Str → Option Value} {fa : Addr} (X : K.In h) (G : h.Ns mainGlobals mg) (hfa : mg "law" = some (.ref fa))
    {f0 c0 f1 c1 f2 c2 f3 c3 f4 c4 f5 c5 f6 c6 f7 c7 f8 c8 f9 c9 f10 c10 f11 c11 f12 c12 f13 c13 f14 c14 f15 c15 f16 c16 f17 c17 f18 c18 f19 c19 f20 c20 f21 c21 f22 c22 f23 c23 f24 c24 f25 c25 f26 c26 f27 c27 f28 c28 f29 c29 : Addr} {t0 t1 t2 t3 t4 t5 t6 t7 t8 t9 t10 t11 t12 t13 t14 t15 t16 t17 t18 t19 t20 t21 t22 t23 t24 t25 t26 t27 t28 t29 : Tok} {m0 m1 m2 m3 m4 m5 m6 m7 m8 m9 m10 m11 m12 m13 m14 m15 m16 m17 m18 m19 m20 m21 m22 m23 m24 m25 m26 m27 m28 m29 : Str} {q0 : Tok} {q1 : Tok} {dD : Addr} {iO : Addr} {eZ : Addr} {fe : Addr} {iQ : Addr} {kd : Addr} {gh : Addr} {iN : Addr} {iR : Addr} {kr : Addr} {av : Addr} {fg : Addr} {iP : Addr} {gn : Addr} {bm : Addr} {bsl : Array (Option Value)} {cy dJ : Addr} {ph yi : Addr}
    (a0 : FQ K "common_divisor" bV f0 c0 t0 m0)
    (a1 : FQ K "divisor_of_all" bW f1 c1 t1 m1)
    (a2 : FQ K "number" km f2 c2 t2 m2)
    (a3 : FQ K "show_whole" dZ f3 c3 t3 m3)
    (a4 : FQ K "show_number" dE f4 c4 t4 m4)
    (a5 : FQ K "show_root_part" bZ f5 c5 t5 m5)
    (a6 : FQ K "read_number" dy f6 c6 t6 m6)
    (a7 : FQ K "split_sum" fb f7 c7 t7 m7)
    (a8 : FQ K "read_root_part" cj f8 c8 t8 m8)
    (a9 : FQ K "read_signed" dr f9 c9 t9 m9)
    (a10 : FQ K "read_whole" eo f10 c10 t10 m10)
    (a11 : FQ K "_law_bag" fV f11 c11 t11 m11)
    (a12 : FQ K "_law_take" eY f12 c12 t12 m12)
    (a13 : FQ K "_law_is_whole" cz f13 c13 t13 m13)
    (a14 : FQ K "_law_shared" dA f14 c14 t14 m14)
    (a15 : FQ K "_law_low" gp f15 c15 t15 m15)
    (a16 : FQ K "_law_is_number" bX f16 c16 t16 m16)
    (a17 : FQ K "_law_number" dm f17 c17 t17 m17)
    (a18 : FQ K "_law_odd" gz f18 c18 t18 m18)
    (a19 : FQ K "_law_refusal" cT f19 c19 t19 m19)
    (a20 : FQ K "_law_roots" eh f20 c20 t20 m20)
    (a21 : FQ K "_law_text" fj f21 c21 t21 m21)
    (a22 : FQ K "_law_signs" dW f22 c22 t22 m22)
    (a23 : FQ K "_law_bent_text" bY f23 c23 t23 m23)
    (a24 : FQ K "_law_whole" dR f24 c24 t24 m24)
    (a25 : FQ K "_law_tops" ff f25 c25 t25 m25)
    (a26 : FQ K "_law_number_in" bU f26 c26 t26 m26)
    (a27 : FQ K "_law_nearly" dw f27 c27 t27 m27)
    (a28 : FQ K "_law_is_told" cQ f28 c28 t28 m28)
    (a29 : FQ K "law" mT f29 c29 t29 m29)
    (z0 : PySem.W.nsIn K mainGlobals "abs" = some none)
    (z1 : PySem.W.nsIn K mainGlobals "str" = some none)
    (z2 : PySem.W.nsIn K mainGlobals "isinstance" = some none)
    (z3 : PySem.W.nsIn K mainGlobals "max" = some none)
    (z4 : PySem.W.nsIn K mainGlobals "int" = some none)
    (z5 : PySem.W.nsIn K mainGlobals "len" = some none)
    (z6 : PySem.W.nsIn K mainGlobals "all" = some none)
    (z7 : PySem.W.nsIn K mainGlobals "bool" = some none)
    (z8 : PySem.W.nsIn K mainGlobals "tuple" = some none)
    (z9 : PySem.W.nsIn K mainGlobals "ValueError" = some none)
    (z10 : PySem.W.nsIn K mainGlobals "min" = some none)
    (z11 : PySem.W.nsIn K mainGlobals "list" = some none)
    (z12 : PySem.W.nsIn K mainGlobals "range" = some none)
    (v0 : PySem.W.nsIn K mainGlobals "MOST_FIGURES" = some (some (.int 40 q0)))
    (v1 : PySem.W.nsIn K mainGlobals "FIGURES" = some (some (.str "0123456789" q1)))
    (y0 : PySem.W.nsIn K mainGlobals "FloorError" = some (some (.ref dD)))
    (y1 : PySem.W.nsIn K mainGlobals "NoRoot" = some (some (.ref iO)))
    (y2 : PySem.W.nsIn K mainGlobals "NoNumber" = some (some (.ref eZ)))
    (y3 : PySem.W.nsIn K mainGlobals "NoLaying" = some (some (.ref fe)))
    (y4 : PySem.W.nsIn K mainGlobals "NoTile" = some (some (.ref iQ)))
    (y5 : PySem.W.nsIn K mainGlobals "NoFit" = some (some (.ref kd)))
    (y6 : PySem.W.nsIn K mainGlobals "NoKinds" = some (some (.ref gh)))
    (y7 : PySem.W.nsIn K mainGlobals "NoPlan" = some (some (.ref iN)))
    (y8 : PySem.W.nsIn K mainGlobals "NoSpot" = some (some (.ref iR)))
    (y9 : PySem.W.nsIn K mainGlobals "NoNet" = some (some (.ref kr)))
    (y10 : PySem.W.nsIn K mainGlobals "NoText" = some (some (.ref av)))
    (y11 : PySem.W.nsIn K mainGlobals "NoSaying" = some (some (.ref fg)))
    (y12 : PySem.W.nsIn K mainGlobals "NoName" = some (some (.ref iP)))
    (y13 : PySem.W.nsIn K mainGlobals "TooMany" = some (some (.ref gn)))
    (kq : PySem.W.excIn K (av) bmV "ValueError.__new__" = true)
    (rB : PySem.W.exmOne K (.ref av) (.ref dD) = some true)
    (z1_NoText : PySem.W.findIn K (.ref av) "__getattribute__" = some (some (.builtin "BaseException.__getattribute__")))
    (z2_NoText : PySem.W.findIn K (.ref av) "__getattr__" = some none)
    (z3_NoText : PySem.W.findIn K (.ref av) "__class__" = some (some (.builtin "object.__class__")))
    (z4_NoText : PySem.W.mroIn K av (.type "object") = some true)
    (z5_NoText : PySem.W.mroIn K av (.type "BaseException") = some true)
    (z6_NoText : (PySem.W.clsIn K av).isSome = true)
    (g9 : PySem.W.kitOne K (.ref av) (.ref iO) = some false)
    (fO : PySem.W.kitOne K (.ref av) (.ref eZ) = some false)
    (fN : PySem.W.kitOne K (.ref av) (.ref fe) = some false)
    (hV : PySem.W.kitOne K (.ref av) (.ref iQ) = some false)
    (jb : PySem.W.kitOne K (.ref av) (.ref kd) = some false)
    (fX : PySem.W.kitOne K (.ref av) (.ref gh) = some false)
    (ic : PySem.W.kitOne K (.ref av) (.ref iN) = some false)
    (hJ : PySem.W.kitOne K (.ref av) (.ref iR) = some false)
    (i4 : PySem.W.kitOne K (.ref av) (.ref kr) = some false)
    (ie : PySem.W.kitOne K (.ref av) (.ref av) = some true)
    (fz : PySem.W.kitOne K (.ref av) (.ref fg) = some false)
    (hZ : PySem.W.kitOne K (.ref av) (.ref iP) = some false)
    (fU : PySem.W.kitOne K (.ref av) (.ref gn) = some false)
    (nE : PySem.W.kitOne K (.ref av) (.type "ValueError") = some true)
    (bb1 : PySem.W.nsIn K mainGlobals "__builtins__" = some (some (.ref bm))) (bb2 : bm ≠ builtinsNs) (bb3 : K.lookup bm = some ⟨.type "module", some builtinsNs, .plain, bsl⟩)
    (lo__law_is_told : (K.lookup cy).bind bq = some (dJ, ("_law_is_told" : Str))) (l1__law_is_told : ∀ c2 o2 q2, K.lookup c2 = some o2 → bq o2 = some (dJ, q2) → q2 = "_law_is_told") (lc__law_is_told : c28 = cy)
    (lo_law : (K.lookup ph).bind bq = some (yi, ("law" : Str))) (l1_law : ∀ c2 o2 q2, K.lookup c2 = some o2 → bq o2 = some (yi, q2) → q2 = "law") (lc_law : c29 = ph) :
    ∃ fd : FuncData, (∀ (s : Shared) (v : Value), BindsTo s fd ⟨[v], []⟩ [("_law_script", v)]) ∧ ∀ base : Heap, K.In base → base.Ns mainGlobals mg → bS l.prog w K mg base CX0 8 fa fd ["_law_script"] (spD K sA) := by
  have e := hfa.symm.trans (PySem.W.mg_of X G a29.1)
  cases e
  have F0 := bF (st := bV) a0.2.1 a0.2.2.1 a0.2.2.2
  have b0 := F0.binds (ps := ["a", "b"]) fun _ _ _ _ _ _ us hl => match us, hl with | [_, _], _ => rfl
  have F1 := bF (st := bW) a1.2.1 a1.2.2.1 a1.2.2.2
  have b1 := F1.binds (ps := ["a", "b", "c"]) fun _ _ _ _ _ _ us hl => match us, hl with | [_, _, _], _ => rfl
  have F2 := bF (st := km) a2.2.1 a2.2.2.1 a2.2.2.2
  have b2 := F2.binds (ps := ["a", "b", "c"]) fun _ _ _ _ _ _ us hl => match us, hl with | [_, _, _], _ => rfl
  have F3 := bF (st := dZ) a3.2.1 a3.2.2.1 a3.2.2.2
  have b3 := F3.binds (ps := ["k"]) fun _ _ _ _ _ _ us hl => match us, hl with | [_], _ => rfl
  have F4 := bF (st := dE) a4.2.1 a4.2.2.1 a4.2.2.2
  have b4 := F4.binds (ps := ["x"]) fun _ _ _ _ _ _ us hl => match us, hl with | [_], _ => rfl
  have F5 := bF (st := bZ) a5.2.1 a5.2.2.1 a5.2.2.2
  have b5 := F5.binds (ps := ["b"]) fun _ _ _ _ _ _ us hl => match us, hl with | [_], _ => rfl
  have F6 := bF (st := dy) a6.2.1 a6.2.2.1 a6.2.2.2
  have b6 := F6.binds (ps := ["text"]) fun _ _ _ _ _ _ us hl => match us, hl with | [_], _ => rfl
  have F7 := bF (st := fb) a7.2.1 a7.2.2.1 a7.2.2.2
  have b7 := F7.binds (ps := ["body"]) fun _ _ _ _ _ _ us hl => match us, hl with | [_], _ => rfl
  have F8 := bF (st := cj) a8.2.1 a8.2.2.1 a8.2.2.2
  have b8 := F8.binds (ps := ["text"]) fun _ _ _ _ _ _ us hl => match us, hl with | [_], _ => rfl
  have F9 := bF (st := dr) a9.2.1 a9.2.2.1 a9.2.2.2
  have b9 := F9.binds (ps := ["text"]) fun _ _ _ _ _ _ us hl => match us, hl with | [_], _ => rfl
  have F10 := bF (st := eo) a10.2.1 a10.2.2.1 a10.2.2.2
  have b10 := F10.binds (ps := ["text"]) fun _ _ _ _ _ _ us hl => match us, hl with | [_], _ => rfl
  have F11 := bF (st := fV) a11.2.1 a11.2.2.1 a11.2.2.2
  have b11 := F11.binds (ps := ["_law_script", "_law_at"]) fun _ _ _ _ _ _ us hl => match us, hl with | [_, _], _ => rfl
  have F12 := bF (st := eY) a12.2.1 a12.2.2.1 a12.2.2.2
  have b12 := F12.binds (ps := ["_law_bag_here", "_law_many"]) fun _ _ _ _ _ _ us hl => match us, hl with | [_, _], _ => rfl
  have F13 := bF (st := cz) a13.2.1 a13.2.2.1 a13.2.2.2
  have b13 := F13.binds (ps := ["_law_thing"]) fun _ _ _ _ _ _ us hl => match us, hl with | [_], _ => rfl
  have F14 := bF (st := dA) a14.2.1 a14.2.2.1 a14.2.2.2
  have b14 := F14.binds (ps := ["_law_one", "_law_other"]) fun _ _ _ _ _ _ us hl => match us, hl with | [_, _], _ => rfl
  have F15 := bF (st := gp) a15.2.1 a15.2.2.1 a15.2.2.2
  have b15 := F15.binds (ps := ["_law_a", "_law_b", "_law_c"]) fun _ _ _ _ _ _ us hl => match us, hl with | [_, _, _], _ => rfl
  have F16 := bF (st := bX) a16.2.1 a16.2.2.1 a16.2.2.2
  have b16 := F16.binds (ps := ["_law_thing"]) fun _ _ _ _ _ _ us hl => match us, hl with | [_], _ => rfl
  have F17 := bF (st := dm) a17.2.1 a17.2.2.1 a17.2.2.2
  have b17 := F17.binds (ps := ["_law_bag_here"]) fun _ _ _ _ _ _ us hl => match us, hl with | [_], _ => rfl
  have F18 := bF (st := gz) a18.2.1 a18.2.2.1 a18.2.2.2
  have b18 := F18.binds (ps := ["_law_bag_here"]) fun _ _ _ _ _ _ us hl => match us, hl with | [_], _ => rfl
  have F19 := bF (st := cT) a19.2.1 a19.2.2.1 a19.2.2.2
  have b19 := F19.binds (ps := ["_law_deed"]) fun _ _ _ _ _ _ us hl => match us, hl with | [_], _ => rfl
  have F20 := bF (st := eh) a20.2.1 a20.2.2.1 a20.2.2.2
  have b20 := F20.binds (ps := ["_law_b"]) fun _ _ _ _ _ _ us hl => match us, hl with | [_], _ => rfl
  have F21 := bF (st := fj) a21.2.1 a21.2.2.1 a21.2.2.2
  have b21 := F21.binds (ps := ["_law_x"]) fun _ _ _ _ _ _ us hl => match us, hl with | [_], _ => rfl
  have F22 := bF (st := dW) a22.2.1 a22.2.2.1 a22.2.2.2
  have b22 := F22.binds (ps := []) fun _ _ _ _ _ _ us hl => match us, hl with | [], _ => rfl
  have F23 := bF (st := bY) a23.2.1 a23.2.2.1 a23.2.2.2
  have b23 := F23.binds (ps := ["_law_bag_here", "_law_text_here", "_law_few"]) fun _ _ _ _ _ _ us hl => match us, hl with | [_, _, _], _ => rfl
  have F24 := bF (st := dR) a24.2.1 a24.2.2.1 a24.2.2.2
  have b24 := F24.binds (ps := ["_law_text_here"]) fun _ _ _ _ _ _ us hl => match us, hl with | [_], _ => rfl
  have F25 := bF (st := ff) a25.2.1 a25.2.2.1 a25.2.2.2
  have b25 := F25.binds (ps := ["_law_text_here"]) fun _ _ _ _ _ _ us hl => match us, hl with | [_], _ => rfl
  have F26 := bF (st := bU) a26.2.1 a26.2.2.1 a26.2.2.2
  have b26 := F26.binds (ps := ["_law_text_here"]) fun _ _ _ _ _ _ us hl => match us, hl with | [_], _ => rfl
  have F27 := bF (st := dw) a27.2.1 a27.2.2.1 a27.2.2.2
  have b27 := F27.binds (ps := ["_law_bag_here", "_law_x"]) fun _ _ _ _ _ _ us hl => match us, hl with | [_, _], _ => rfl
  have F28 := bF (st := cQ) a28.2.1 a28.2.2.1 a28.2.2.2
  have b28 := F28.binds (ps := ["_law_text_here"]) fun _ _ _ _ _ _ us hl => match us, hl with | [_], _ => rfl
  have F29 := bF (st := mT) a29.2.1 a29.2.2.1 a29.2.2.2
  have b29 := F29.binds (ps := ["_law_script"]) fun _ _ _ _ _ _ us hl => match us, hl with | [_], _ => rfl
  have T : Txt K mg ⟨f0, fd "common_divisor" bV t0 m0 c0, f1, fd "divisor_of_all" bW t1 m1 c1, f2, fd "number" km t2 m2 c2, f3, fd "show_whole" dZ t3 m3 c3, f4, fd "show_number" dE t4 m4 c4, f5, fd "show_root_part" bZ t5 m5 c5, f6, fd "read_number" dy t6 m6 c6, f7, fd "split_sum" fb t7 m7 c7, f8, fd "read_root_part" cj t8 m8 c8, f9, fd "read_signed" dr t9 m9 c9, f10, fd "read_whole" eo t10 m10 c10, f11, fd "_law_bag" fV t11 m11 c11, f12, fd "_law_take" eY t12 m12 c12, f13, fd "_law_is_whole" cz t13 m13 c13, f14, fd "_law_shared" dA t14 m14 c14, f15, fd "_law_low" gp t15 m15 c15, f16, fd "_law_is_number" bX t16 m16 c16, f17, fd "_law_number" dm t17 m17 c17, f18, fd "_law_odd" gz t18 m18 c18, f19, fd "_law_refusal" cT t19 m19 c19, f20, fd "_law_roots" eh t20 m20 c20, f21, fd "_law_text" fj t21 m21 c21, f22, fd "_law_signs" dW t22 m22 c22, f23, fd "_law_bent_text" bY t23 m23 c23, f24, fd "_law_whole" dR t24 m24 c24, f25, fd "_law_tops" ff t25 m25 c25, f26, fd "_law_number_in" bU t26 m26 c26, f27, fd "_law_nearly" dw t27 m27 c27, f28, fd "_law_is_told" cQ t28 m28 c28, fa, fd "law" mT t29 m29 c29, q0, q1, dD, iO, eZ, fe, iQ, kd, gh, iN, iR, kr, av, fg, iP, gn, cy, dJ, ph, yi⟩ := ⟨F0, PySem.W.mg_of X G a0.1, a0.2.2.2, b0, F1, PySem.W.mg_of X G a1.1, a1.2.2.2, b1, F2, PySem.W.mg_of X G a2.1, a2.2.2.2, b2, F3, PySem.W.mg_of X G a3.1, a3.2.2.2, b3, F4, PySem.W.mg_of X G a4.1, a4.2.2.2, b4, F5, PySem.W.mg_of X G a5.1, a5.2.2.2, b5, F6, PySem.W.mg_of X G a6.1, a6.2.2.2, b6, F7, PySem.W.mg_of X G a7.1, a7.2.2.2, b7, F8, PySem.W.mg_of X G a8.1, a8.2.2.2, b8, F9, PySem.W.mg_of X G a9.1, a9.2.2.2, b9, F10, PySem.W.mg_of X G a10.1, a10.2.2.2, b10, F11, PySem.W.mg_of X G a11.1, a11.2.2.2, b11, F12, PySem.W.mg_of X G a12.1, a12.2.2.2, b12, F13, PySem.W.mg_of X G a13.1, a13.2.2.2, b13, F14, PySem.W.mg_of X G a14.1, a14.2.2.2, b14, F15, PySem.W.mg_of X G a15.1, a15.2.2.2, b15, F16, PySem.W.mg_of X G a16.1, a16.2.2.2, b16, F17, PySem.W.mg_of X G a17.1, a17.2.2.2, b17, F18, PySem.W.mg_of X G a18.1, a18.2.2.2, b18, F19, PySem.W.mg_of X G a19.1, a19.2.2.2, b19, F20, PySem.W.mg_of X G a20.1, a20.2.2.2, b20, F21, PySem.W.mg_of X G a21.1, a21.2.2.2, b21, F22, PySem.W.mg_of X G a22.1, a22.2.2.2, b22, F23, PySem.W.mg_of X G a23.1, a23.2.2.2, b23, F24, PySem.W.mg_of X G a24.1, a24.2.2.2, b24, F25, PySem.W.mg_of X G a25.1, a25.2.2.2, b25, F26, PySem.W.mg_of X G a26.1, a26.2.2.2, b26, F27, PySem.W.mg_of X G a27.1, a27.2.2.2, b27, F28, PySem.W.mg_of X G a28.1, a28.2.2.2, b28, F29, PySem.W.mg_of X G a29.1, a29.2.2.2, b29, PySem.W.mg_none_of X G z0, PySem.W.mg_none_of X G z1, PySem.W.mg_none_of X G z2, PySem.W.mg_none_of X G z3, PySem.W.mg_none_of X G z4, PySem.W.mg_none_of X G z5, PySem.W.mg_none_of X G z6, PySem.W.mg_none_of X G z7, PySem.W.mg_none_of X G z8, PySem.W.mg_none_of X G z9, PySem.W.mg_none_of X G z10, PySem.W.mg_none_of X G z11, PySem.W.mg_none_of X G z12, PySem.W.mg_of X G v0, PySem.W.mg_of X G v1, PySem.W.mg_of X G y0, PySem.W.mg_of X G y1, PySem.W.mg_of X G y2, PySem.W.mg_of X G y3, PySem.W.mg_of X G y4, PySem.W.mg_of X G y5, PySem.W.mg_of X G y6, PySem.W.mg_of X G y7, PySem.W.mg_of X G y8, PySem.W.mg_of X G y9, PySem.W.mg_of X G y10, PySem.W.mg_of X G y11, PySem.W.mg_of X G y12, PySem.W.mg_of X G y13, kq, rB, g9, fO, fN, hV, jb, fX, ic, hJ, i4, ie, fz, hZ, fU, nE, ⟨z1_NoText, z2_NoText, z3_NoText, z4_NoText, z5_NoText, z6_NoText⟩, ⟨rf lo__law_is_told, l1__law_is_told, Ea (PySem.W.mg_of X G bb1) bb2 bb3⟩, congrArg Value.ref lc__law_is_told, ⟨rf lo_law, l1_law, Ea (PySem.W.mg_of X G bb1) bb2 bb3⟩, congrArg Value.ref lc_law⟩
  exact ⟨_, fun s v => .of_eq rfl, fun base _ _ => HZ (e := ⟨l.prog, w, K, mg, base, _⟩) T⟩
theorem walk {l : PySem.W.OpenLaw} {q : Program} {loose : List Str} {XP : (Str → Option Value) → Heap → Prop} {YP : World → Heap → Prop} {d : DefRec} {K : Params → PySem.W.Frag} (tabs : List Addr) (hn : l.most = some 63) (hdf : d.params.defaults = [])
    (hY : ∀ (w : World) (h : Heap), YP w h → (K w.params).In h ∧ (∀ p ∈ tabs, h.get? p = some (PySem.W.tabObj #[]) ∧ (K w.params).lookup p = none) ∧ (∀ p ∈ tabs, isCodeTable h p))
    (hA2 : ∀ (w : World) c o p q, (K w.params).lookup c = some o → bq o = some (p, q) → p ∈ tabs)
    (F : ∀ (w : World) (mg : Str → Option Value) (fa : Addr) (h : Heap), (K w.params).In h → h.Ns mainGlobals mg → mg d.name = some (.ref fa) →
      ∃ fd : FuncData, (∀ (s : Shared) (u : Value), BindsTo s fd ⟨[u], []⟩ [("_law_script", u)]) ∧ ∀ base : Heap, (K w.params).In base → base.Ns mainGlobals mg → bS l.prog w (K w.params) mg base CX0 8 fa fd ["_law_script"] (spD (K w.params) sA)) :
    PySem.W.WalkO q loose XP YP l.row.toRowW d [] (fun f vs => PySem.call f vs) :=
  L2.Em (n := 63) (k := 8) (x := "_law_script") (CX := fun _ => CX0) (sp := fun w => spD (K w.params) sA) tabs hn (by decide) hdf ⟨rfl, by decide, by decide⟩ hY hA2 F (fun w H a ns hl hT hS => Cz hl hT hS) fun _ _ _ _ _ z => z
end K48
open PySem PySem.W PyProof.Rows L2.DL in
set_option maxRecDepth 100000 in
set_option maxHeartbeats 0 in
theorem PySem.Challenge.cw_matefloors_k48_any_texts_read_holds : PySem.Challenge.rw_matefloors_k48_any_texts_read.Holds :=
  holds_law K48.H.ws fun said => holds_open (XP := XL K48.H.V []) (YP := K48.H.HK.says) (d := K48.H.D) (kwd := []) K48.H.left K48.H.HK.of K48.H.HK.keeps (fun s e => xl_of s (Bool.and_eq_true_iff.mp e).1) XL.keeps (by kernel_rfl) (by kernel_rfl) (by kernel_rfl)
    (fun s e => recFacts_of (Bool.and_eq_true_iff.mp e).2) (by kernel_rfl) said (by kernel_rfl) ⟨by kernel_rfl, by kernel_rfl, by kernel_rfl, by kernel_rfl, by kernel_rfl, by kernel_rfl⟩ ⟨[.list []], by kernel_rfl, by kernel_rfl⟩
    (K48.walk (l := PySem.Challenge.rw_matefloors_k48_any_texts_read) (K := K48.H.K) K48.H.tabs (by kernel_rfl) (by kernel_rfl) (fun w h Y => by
      have Y : (K48.H.KF w.params).In h := Y
      refine ⟨wq Y, fun p hp => ?_, fun p hp => ?_⟩
      · rcases List.mem_cons.mp hp with rfl | hp
        · exact ⟨Y _ _ (K48.H.j5 w.params).1, (K48.H.j5 w.params).2⟩
        rcases List.mem_cons.mp hp with rfl | hp
        · exact ⟨Y _ _ (K48.H.Bg w.params).1, (K48.H.Bg w.params).2⟩
        exact nomatch hp
      · rcases List.mem_cons.mp hp with rfl | hp
        · obtain ⟨o, e1, e2⟩ := rf (K48.H.jw w.params); exact vh (wq Y) e1 e2
        rcases List.mem_cons.mp hp with rfl | hp
        · obtain ⟨o, e1, e2⟩ := rf (K48.H.xY w.params); exact vh (wq Y) e1 e2
        exact nomatch hp) (fun w c o p q e e2 => by
      have h := wz (K48.H.zV w.params) e e2
      have h2 := List.mem_map_of_mem (f := fun x : Addr × Str => x.1) h
      exact h2) fun w mg fa h KX G hmg => by
      obtain ⟨h0, h1, h2, h3, h4, h5, h6, h7, h8, h9, h10, h11, h12, h13⟩ := K48.H.Jb w.params
      obtain ⟨h14, h15, h16, h17, h18, h19, h20, h21, h22, h23, h24, h25, h26, h27⟩ := K48.H.Jp w.params
      obtain ⟨h28, h29, h30, h31, h32, h33, h34, h35, h36, h37, h38, h39, h40, h41⟩ := K48.H.Hr w.params
      obtain ⟨h42, h43, h44, h45, h46, h47, h48, h49, h50, h51, h52, h53, h54, h55⟩ := K48.H.IK w.params
      obtain ⟨h56, h57, h58, h59, h60, h61, h62, h63, h64, h65, h66, h67, h68, h69⟩ := K48.H.IG w.params
      obtain ⟨h70, h71, h72, h73, h74, h75, h76, h77, h78, h79, h80, h81⟩ := K48.H.IY w.params
      exact K48.all_mk KX G hmg h0 h1 h2 h3 h4 h5 h6 h7 h8 h9 h10 h11 h12 h13 h14 h15 h16 h17 h18 h19 h20 h21 h22 h23 h24 h25 h26 h27 h28 h29 h30 h31 h32 h33 h34 h35 h36 h37 h38 h39 h40 h41 h42 h43 h44 h45 h46 h47 h48 h49 h50 h51 h52 h53 h54 h55 h56 h57 h58 h59 h60 h61 h62 h63 h64 h65 h66 h67 h68 h69 h70 h71 h72 h73 h74 h75 h76 h77 h78 h79 h80 h81.1 h81.2.1 h81.2.2 (K48.H.jw w.params) (fun c2 o2 q2 e e2 => K48.H.oh (wz (K48.H.zV w.params) e e2)) rfl (K48.H.xY w.params) (fun c2 o2 q2 e e2 => K48.H.Ds (wz (K48.H.zV w.params) e e2)) rfl)
