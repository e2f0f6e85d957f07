import PyProof.Rows.All
import KE.KFind
import KE.KLam
import KE.KTryMore
import KE.LcSums
import KE.KRevSl
import Lean
import PySem.Challenge.RW_matefloors_k20_squares_laid
set_option Elab.async false
set_option linter.all false
set_option maxRecDepth 100000
set_option maxHeartbeats 4000000
namespace L2
open PySem PySem.W
def kG : Sem Fin → Bool
  | .choose .. => false
  | .os .. => false
  | _ => true
theorem Jy {den : Code → Sem Fin} {p : Program} {w : World} {os : OsState} {s s' : Shared} {t t' : Thread} (h : kG t.cur = true) (e : step den p ⟨fun _ _ => 0, w.params⟩ s t = .go s' t') :
    step den p w { s with os := os } t = .go { s' with os := os } t' := by
  obtain ⟨heap, gens, drawn, toks, os0⟩ := s
  obtain ⟨cur, code, pos, stack⟩ := t
  cases cur <;> simp only [step, finish, kG] at e h ⊢ <;> (try (cases h; done)) <;> (repeat' split at e) <;> simp_all <;> (try (obtain ⟨rfl, rfl⟩ := e; simp_all)) <;> (try (obtain ⟨h1, h2⟩ := e; subst h1; rfl))
def qg (tb : String → Option Builtin) (p : Program) (P : Params) (n₀ : Nat) (ann : Option Value) : Nat → Shared → Thread → Option Shared
  | 0, _, _ => none
  | n + 1, s, t => match through t with
    | true => some s
    | false => match stepOk n₀ ann t && kG t.cur with
      | false => none
      | true => match step (denote tb) p ⟨fun _ _ => 0, P⟩ s t with
        | .go s' t' => qg tb p P n₀ ann n s' t'
        | .halt _ _ => none
theorem vb {tb : String → Option Builtin} {p : Program} {w : World} {n₀ : Nat} {ann : Option Value} {os : OsState} : ∀ {n : Nat} {s s' : Shared} {t : Thread}, qg tb p w.params n₀ ann n s t = some s' → topRun tb p w n₀ ann n { s with os := os } t = some { s' with os := os }
  | 0, _, _, _, h => by cases h
  | n + 1, s, s', t, h => by
    unfold qg at h
    unfold topRun
    cases ht : through t with
    | true => rw [ht] at h; cases h; rfl
    | false =>
      rw [ht] at h
      cases hk : (stepOk n₀ ann t && kG t.cur) with
      | false => rw [hk] at h; cases h
      | true =>
        rw [hk] at h
        obtain ⟨k1, k2⟩ := Bool.and_eq_true_iff.mp hk
        cases hs : step (denote tb) p ⟨fun _ _ => 0, w.params⟩ s t with
        | halt o s₂ => rw [hs] at h; cases h
        | go s₂ t₂ =>
          rw [hs] at h
          rw [k1, Jy (os := os) k2 hs]
          exact vb h
noncomputable def uk (p : Program) (P : Params) (n₀ : Nat) (ann : Option Value) : Nat → Shared → Thread → Option Shared
  | 0, _, _ => none
  | n + 1, s, t => match through t with
    | true => some s
    | false => match Fast.tw6613529449190102663 n₀ ann t && kG t.cur with
      | false => none
      | true => match Fast.tw8437177126325714943 (Fast.tw11892475500146522536 Fast.tw14364793385576792824) p ⟨fun _ _ => 0, P⟩ s t with
        | .go s' t' => uk p P n₀ ann n s' t'
        | .halt _ _ => none
theorem vd {p : Program} {P : Params} {n₀ : Nat} {ann : Option Value} : ∀ (n : Nat) (s : Shared) (t : Thread), uk p P n₀ ann n s t = qg treeTable p P n₀ ann n s t
  | 0, _, _ => rfl
  | n + 1, s, t => by
    unfold uk qg
    rw [← Fast.te6613529449190102663, ← Fast.te8437177126325714943, ← Fast.te11892475500146522536, ← Fast.te14364793385576792824]
    cases through t with
    | true => rfl
    | false =>
      cases (stepOk n₀ ann t && kG t.cur) with
      | false => rfl
      | true =>
        cases step (denote treeTable) p ⟨fun _ _ => 0, P⟩ s t with
        | halt o s₂ => rfl
        | go s₂ t₂ => exact vd n s₂ t₂
end L2
namespace L2
open PySem
def nV (s : Stmt) : Arguments := match s with
  | .FunctionDef _ a _ _ _ _ _ _ _ _ => a
  | _ => { posonlyargs := [], args := [], vararg := none, kwonlyargs := [], kw_defaults := [], kwarg := none, defaults := [] }
def eY (s : Stmt) : List Stmt := match s with
  | .FunctionDef _ _ b _ _ _ _ _ _ _ => b
  | _ => []
def au (s : Stmt) : Scope := match s with
  | .FunctionDef _ _ _ _ _ _ sc _ _ _ => sc
  | _ => { kind := .function, names := [], isGenerator := false, isCoroutine := false }
end L2
namespace L2.DL
open PySem
def EV : List Str := ["law", "_law_is_right", "_law_is_put", "_law_are_refused", "_law_is_told", "_law_said", "_law_is_plan_told"]
def bq (o : Obj) : Option (Addr × Str) := match o.cls, o.data with
  | .type c, .fields vs => if c = "code" then (match vs[1]?, vs[7]?, vs[9]?, vs[10]?, vs[11]?, vs[18]? with
    | some (Value.str q _), some (Value.int _ _), some (Value.bool _), some (Value.int _ _), some (Value.ref P), some (Value.str _ _) => if EV.contains q = true then some (P, q) else none
    | _, _, _, _, _, _ => none) else none
  | _, _ => none
abbrev bmV : List Value := [.type "ValueError", .type "Exception", .type "BaseException", .type "object"]
end L2.DL
namespace K20
open PySem L2
def top (i : Nat) : Stmt := PySem.Challenge.pw_matefloors_k20_squares_laid.main.body.getD i (.Pass ⟨0, 0, 0, 0⟩)
abbrev g0 : Stmt := top 18
abbrev cy : Stmt := top 19
abbrev fP : Stmt := top 20
abbrev cx : Stmt := top 21
abbrev kz : Stmt := top 22
abbrev rT : Stmt := top 23
abbrev rp : Stmt := top 24
abbrev nJ : Stmt := top 25
abbrev sF : Stmt := top 26
abbrev ic : Stmt := top 27
abbrev i4 : Stmt := top 28
abbrev cN : Stmt := top 29
abbrev gR : Stmt := top 30
abbrev bZ : Stmt := top 31
abbrev bA : Stmt := top 32
abbrev eI : Stmt := top 35
abbrev cf : Stmt := top 36
abbrev fI : Stmt := top 37
abbrev dm : Stmt := top 38
abbrev cj : Stmt := top 39
abbrev dQ : Stmt := top 41
abbrev fH : Stmt := top 42
abbrev eu : Stmt := top 43
abbrev gP : Stmt := top 44
abbrev dO : Stmt := top 45
abbrev cL : Stmt := top 46
abbrev fG : Stmt := top 47
abbrev fQ : Stmt := top 48
abbrev eC : Stmt := top 49
abbrev eB : Stmt := top 50
abbrev fM : Stmt := top 51
abbrev dh : Stmt := top 52
abbrev gN : Stmt := top 53
abbrev fL : Stmt := top 54
abbrev fR : Stmt := top 55
abbrev bV : Stmt := top 56
abbrev ez : Stmt := top 57
abbrev dG : Stmt := top 58
abbrev cA : Stmt := top 59
abbrev g8 : Stmt := top 60
abbrev da : Stmt := top 61
abbrev cV : Stmt := top 62
abbrev oD : Stmt := top 63
abbrev fd (n : Str) (s : Stmt) (tk : Tok) (m : Str) (cd : Addr) : FuncData := PySem.W.fnOf n n (nV s) (eY s) (au s) .none .none .none (.str m tk) none (.ref cd) .none
abbrev FQ (K : PySem.W.Frag) (n : Str) (s : Stmt) (a cd : Addr) (tk : Tok) (m : Str) : Prop := PySem.W.nsIn K mainGlobals n = some (some (.ref a)) ∧ K.lookup a = some ⟨.type "function", none, .func (fd n s tk m cd), #[]⟩ ∧ PySem.W.codeIn K (.ref cd) n = true ∧ PySem.W.keepIn K (.ref a) = true
end K20
namespace K20.H
open PySem PySem.W PyProof.Rows L2 L2.DL
set_option maxRecDepth 100000
set_option maxHeartbeats 0
abbrev R : OpenLaw := PySem.Challenge.rw_matefloors_k20_squares_laid
noncomputable def sT (P : Params) : Option Shared := uk R.row.prog P 11 (some (.ref 6)) 20000 { heap := boot_heap P, gens := #[], drawn := boot_drawn, toks := boot_toks, os := default } (topStub R.row.prog)
noncomputable def hT (P : Params) : Heap := (sT P).elim default (·.heap)
def isNm : Stmt → Bool
  | .Assign [.Name x _] _ _ => x == "__name__"
  | _ => false
def V : Program := { R.row.prog with main := { R.row.prog.main with body := R.row.prog.main.body.filter fun s => !isNm s } }
def as : List Addr := [3, 192, 191, 199, 198, 206, 205, 213, 212, 220, 219, 227, 226, 234, 233, 241, 240, 248, 247, 255, 254, 262, 261, 269, 268, 276, 275, 283, 282, 290, 289, 297, 296, 304, 303, 311, 310, 318, 317, 325, 324, 332, 331, 339, 338, 346, 345, 353, 352, 360, 359, 367, 366, 374, 373, 381, 380, 388, 387, 395, 394, 402, 401, 407, 406, 414, 413, 419, 418, 426, 425, 433, 432, 440, 439, 447, 446, 454, 453, 461, 460, 468, 467, 475, 474, 480, 479, 184, 185, 24, 23, 37, 36, 49, 48, 61, 60, 73, 72, 85, 84, 97, 96, 109, 108, 121, 120, 133, 132, 145, 144, 157, 156, 169, 168, 181, 180, 4]
def tabs : List Addr := [470, 477]
noncomputable def K (P : Params) : Frag := as.map fun a => (a, ((hT P).get? a).getD default)
noncomputable def TF (P : Params) : Frag := tabs.map fun a => (a, ((hT P).get? a).getD default)
noncomputable def KF (P : Params) : Frag := K P ++ TF P
theorem kAs (P : Params) : as ++ tabs = (KF P).map (·.1) := by
  unfold KF K TF
  rw [List.map_append, List.map_map, List.map_map]
  exact congr (congrArg HAppend.hAppend (List.map_id _).symm) (List.map_id _).symm
noncomputable def HK : Hook := kHook KF (as ++ tabs) kAs
def posOf : Stmt → Pos
  | .FunctionDef _ _ _ _ _ _ _ _ _ p => p
  | _ => ⟨0, 0, 0, 0⟩
def D : DefRec := ⟨"law", nV K20.oD, eY K20.oD, au K20.oD, posOf K20.oD⟩
def Xt : Shared → Bool := fun s => xlAt V [] s && recOk R.row.records s
theorem runC (P : Params) : (sT P).map (fun s => (s.gens, s.drawn, s.toks)) = some (#[], {}, 844) := by kernel_rfl
theorem run (w : World) (os : OsState) : topRun treeTable R.row.prog w 11 (some (.ref 6)) 20000 { heap := boot_heap w.params, gens := #[], drawn := boot_drawn, toks := boot_toks, os := os } (topStub R.row.prog) = some { heap := hT w.params, gens := #[], drawn := {}, toks := 844, os := os } := by
  have h := runC w.params
  cases e : sT w.params with
  | none => rw [e] at h; cases h
  | some s =>
    rw [e] at h
    obtain ⟨heap, gens, drawn, toks, os0⟩ := s
    have hh : hT w.params = heap := by unfold hT; rw [e]; rfl
    have h' : some (gens, drawn, toks) = some ((#[] : Array GenState), ({} : Drawn), 844) := h
    cases h'
    rw [hh]
    exact vb (w := w) (os := os) ((vd _ _ _).symm.trans e)
theorem Lk (w : World) (os : OsState) : (staticsOk (importedModules R.row.prog.main.body) (boot_heap w.params) (hT w.params) && namesBound R.row.prog (hT w.params) && gensDone { heap := hT w.params, gens := #[], drawn := {}, toks := 844, os := os } && laidKept (boot_heap w.params) (hT w.params)) = true := by kernel_rfl
theorem Kr (w : World) (os : OsState) : (openSeen V [] (importedModules R.row.prog.main.body) Xt true { heap := hT w.params, gens := #[], drawn := {}, toks := 844, os := os }).1 = (openGood V []).1 := by kernel_rfl
theorem Jq (w : World) (os : OsState) : (openSeen V [] (importedModules R.row.prog.main.body) Xt true { heap := hT w.params, gens := #[], drawn := {}, toks := 844, os := os }).2.1 = (openGood V []).2.1 := by kernel_rfl
theorem Km (w : World) (os : OsState) : (openSeen V [] (importedModules R.row.prog.main.body) Xt true { heap := hT w.params, gens := #[], drawn := {}, toks := 844, os := os }).2.2.1 = (openGood V []).2.2.1 := by kernel_rfl
theorem Jk (w : World) (os : OsState) : (openSeen V [] (importedModules R.row.prog.main.body) Xt true { heap := hT w.params, gens := #[], drawn := {}, toks := 844, os := os }).2.2.2.1 = (openGood V []).2.2.2.1 := by kernel_rfl
theorem Ju (w : World) (os : OsState) : (openSeen V [] (importedModules R.row.prog.main.body) Xt true { heap := hT w.params, gens := #[], drawn := {}, toks := 844, os := os }).2.2.2.2.1 = (openGood V []).2.2.2.2.1 := by kernel_rfl
theorem IZ (w : World) (os : OsState) : (openSeen V [] (importedModules R.row.prog.main.body) Xt true { heap := hT w.params, gens := #[], drawn := {}, toks := 844, os := os }).2.2.2.2.2.1 = (openGood V []).2.2.2.2.2.1 := by kernel_rfl
theorem J3 (w : World) (os : OsState) : (openSeen V [] (importedModules R.row.prog.main.body) Xt true { heap := hT w.params, gens := #[], drawn := {}, toks := 844, os := os }).2.2.2.2.2.2.1 = (openGood V []).2.2.2.2.2.2.1 := by kernel_rfl
theorem KA (w : World) (os : OsState) : (openSeen V [] (importedModules R.row.prog.main.body) Xt true { heap := hT w.params, gens := #[], drawn := {}, toks := 844, os := os }).2.2.2.2.2.2.2.1 = (openGood V []).2.2.2.2.2.2.2.1 := by kernel_rfl
theorem KD (w : World) (os : OsState) : (openSeen V [] (importedModules R.row.prog.main.body) Xt true { heap := hT w.params, gens := #[], drawn := {}, toks := 844, os := os }).2.2.2.2.2.2.2.2 = (openGood V []).2.2.2.2.2.2.2.2 := by kernel_rfl
theorem K2 (w : World) (os : OsState) : openSeen V [] (importedModules R.row.prog.main.body) Xt true { heap := hT w.params, gens := #[], drawn := {}, toks := 844, os := os } = openGood V [] := Prod.ext (Kr w os) (Prod.ext (Jq w os) (Prod.ext (Km w os) (Prod.ext (Jk w os) (Prod.ext (Ju w os) (Prod.ext (IZ w os) (Prod.ext (J3 w os) (Prod.ext (KA w os) (KD w os))))))))
theorem L5 (w : World) (os : OsState) : HK.obs { heap := hT w.params, gens := #[], drawn := {}, toks := 844, os := os } = HK.val w := by kernel_rfl
theorem seen (w : World) : (fun os => (staticsOk (importedModules R.row.prog.main.body) (boot_heap w.params) (hT w.params) && namesBound R.row.prog (hT w.params) && gensDone { heap := hT w.params, gens := #[], drawn := {}, toks := 844, os := os } && laidKept (boot_heap w.params) (hT w.params),
    openSeen V [] (importedModules R.row.prog.main.body) Xt true { heap := hT w.params, gens := #[], drawn := {}, toks := 844, os := os }, HK.obs { heap := hT w.params, gens := #[], drawn := {}, toks := 844, os := os })) = fun _ : OsState => (true, openGood V [], HK.val w) :=
  funext fun os => Prod.ext (Lk w os) (Prod.ext (K2 w os) (L5 w os))
theorem ws : R.wellSaid = true := by kernel_rfl
theorem facts (P : Params) : FQ (K P) "is_whole" g0 192 191 415 "matefloors.numbers" ∧ FQ (K P) "common_divisor" cy 199 198 415 "matefloors.numbers" ∧ FQ (K P) "is_number" fP 206 205 415 "matefloors.numbers" ∧ FQ (K P) "divisor_of_all" cx 213 212 415 "matefloors.numbers" ∧ FQ (K P) "number" kz 220 219 415 "matefloors.numbers" ∧ FQ (K P) "plus" rT 227 226 415 "matefloors.numbers" ∧ FQ (K P) "less" rp 234 233 415 "matefloors.numbers" ∧ FQ (K P) "times" nJ 241 240 415 "matefloors.numbers" ∧ FQ (K P) "over" sF 248 247 415 "matefloors.numbers" ∧ FQ (K P) "contrary" ic 255 254 415 "matefloors.numbers" ∧ FQ (K P) "sign_of" i4 262 261 415 "matefloors.numbers" ∧ FQ (K P) "sign_of_parts" cN 269 268 415 "matefloors.numbers" ∧ FQ (K P) "is_above" gR 276 275 415 "matefloors.numbers" ∧ FQ (K P) "is_above_nought" bZ 283 282 415 "matefloors.numbers" ∧ FQ (K P) "must_be_above_nought" bA 290 289 415 "matefloors.numbers" ∧ FQ (K P) "squares_of" eI 297 296 559 "matefloors.squares" ∧ FQ (K P) "bar_for_squares" cf 304 303 559 "matefloors.squares" ∧ FQ (K P) "counts_of" fI 311 310 559 "matefloors.squares" ∧ FQ (K P) "squares_laid" dm 318 317 559 "matefloors.squares" ∧ FQ (K P) "tiles_by_counts" cj 325 324 559 "matefloors.squares" ∧ FQ (K P) "_law_counts" dQ 332 331 617 "law_matefloors_k20_squares_laid" ∧ FQ (K P) "_law_over" fH 339 338 617 "law_matefloors_k20_squares_laid" ∧ FQ (K P) "_law_times" eu 346 345 617 "law_matefloors_k20_squares_laid" ∧ FQ (K P) "_law_low" gP 353 352 617 "law_matefloors_k20_squares_laid" ∧ FQ (K P) "_law_shared" dO 360 359 617 "law_matefloors_k20_squares_laid" ∧ FQ (K P) "_law_contrary" cL 367 366 617 "law_matefloors_k20_squares_laid" ∧ FQ (K P) "_law_less" fG 374 373 617 "law_matefloors_k20_squares_laid" ∧ FQ (K P) "_law_plus" fQ 381 380 617 "law_matefloors_k20_squares_laid" ∧ FQ (K P) "_law_minus" eC 388 387 617 "law_matefloors_k20_squares_laid" ∧ FQ (K P) "_law_below" eB 395 394 617 "law_matefloors_k20_squares_laid" ∧ FQ (K P) "_law_sign" fM 402 401 617 "law_matefloors_k20_squares_laid" ∧ FQ (K P) "_law_refusal" dh 407 406 617 "law_matefloors_k20_squares_laid" ∧ FQ (K P) "_law_bag" gN 414 413 617 "law_matefloors_k20_squares_laid" ∧ FQ (K P) "_law_root" fL 419 418 617 "law_matefloors_k20_squares_laid" ∧ FQ (K P) "_law_take" fR 426 425 617 "law_matefloors_k20_squares_laid" ∧ FQ (K P) "_law_floor_sides" bV 433 432 617 "law_matefloors_k20_squares_laid" ∧ FQ (K P) "_law_above" ez 440 439 617 "law_matefloors_k20_squares_laid" ∧ FQ (K P) "_law_number" dG 447 446 617 "law_matefloors_k20_squares_laid" ∧ FQ (K P) "_law_bad_above" cA 454 453 617 "law_matefloors_k20_squares_laid" ∧ FQ (K P) "_law_odd" g8 461 460 617 "law_matefloors_k20_squares_laid" ∧ FQ (K P) "_law_squares" da 468 467 617 "law_matefloors_k20_squares_laid" ∧ FQ (K P) "_law_is_told" cV 475 474 617 "law_matefloors_k20_squares_laid" ∧ FQ (K P) "law" oD 480 479 617 "law_matefloors_k20_squares_laid" ∧ nsIn (K P) mainGlobals "isinstance" = some none ∧ nsIn (K P) mainGlobals "int" = some none ∧ nsIn (K P) mainGlobals "bool" = some none ∧ nsIn (K P) mainGlobals "abs" = some none ∧ nsIn (K P) mainGlobals "tuple" = some none ∧ nsIn (K P) mainGlobals "len" = some none ∧ nsIn (K P) mainGlobals "min" = some none ∧ nsIn (K P) mainGlobals "max" = some none ∧ nsIn (K P) mainGlobals "sum" = some none ∧ nsIn (K P) mainGlobals "range" = some none ∧ nsIn (K P) mainGlobals "ValueError" = some none ∧ nsIn (K P) mainGlobals "list" = some none ∧ nsIn (K P) mainGlobals "all" = some none ∧ nsIn (K P) mainGlobals "MOST_TILES" = some (some (.int 60 557)) ∧ (nsIn (K P) mainGlobals "NOUGHT" = some (some (.ref 184)) ∧ (K P).lookup 184 = some ⟨.type "tuple", none, .seq #[.int 0 417, .int 0 418, .int 1 419] 0, #[]⟩) ∧ (nsIn (K P) mainGlobals "ONE" = some (some (.ref 185)) ∧ (K P).lookup 185 = some ⟨.type "tuple", none, .seq #[.int 1 421, .int 0 422, .int 1 423] 0, #[]⟩) ∧ nsIn (K P) mainGlobals "FloorError" = some (some (.ref 24)) ∧ nsIn (K P) mainGlobals "NoRoot" = some (some (.ref 37)) ∧ nsIn (K P) mainGlobals "NoNumber" = some (some (.ref 49)) ∧ nsIn (K P) mainGlobals "NoLaying" = some (some (.ref 61)) ∧ nsIn (K P) mainGlobals "NoTile" = some (some (.ref 73)) ∧ nsIn (K P) mainGlobals "NoFit" = some (some (.ref 85)) ∧ nsIn (K P) mainGlobals "NoKinds" = some (some (.ref 97)) ∧ nsIn (K P) mainGlobals "NoPlan" = some (some (.ref 109)) ∧ nsIn (K P) mainGlobals "NoSpot" = some (some (.ref 121)) ∧ nsIn (K P) mainGlobals "NoNet" = some (some (.ref 133)) ∧ nsIn (K P) mainGlobals "NoText" = some (some (.ref 145)) ∧ nsIn (K P) mainGlobals "NoSaying" = some (some (.ref 157)) ∧ nsIn (K P) mainGlobals "NoName" = some (some (.ref 169)) ∧ nsIn (K P) mainGlobals "TooMany" = some (some (.ref 181)) ∧ excIn (K P) (49) bmV "ValueError.__new__" = true ∧ exmOne (K P) (.ref 49) (.ref 24) = some true ∧ findIn (K P) (.ref 49) "__getattribute__" = some (some (.builtin "BaseException.__getattribute__")) ∧ findIn (K P) (.ref 49) "__getattr__" = some none ∧ findIn (K P) (.ref 49) "__class__" = some (some (.builtin "object.__class__")) ∧ mroIn (K P) 49 (.type "object") = some true ∧ mroIn (K P) 49 (.type "BaseException") = some true ∧ (clsIn (K P) 49).isSome = true ∧ kitOne (K P) (.ref 49) (.ref 37) = some false ∧ kitOne (K P) (.ref 49) (.ref 49) = some true ∧ kitOne (K P) (.ref 49) (.ref 61) = some false ∧ kitOne (K P) (.ref 49) (.ref 73) = some false ∧ kitOne (K P) (.ref 49) (.ref 85) = some false ∧ kitOne (K P) (.ref 49) (.ref 97) = some false ∧ kitOne (K P) (.ref 49) (.ref 109) = some false ∧ kitOne (K P) (.ref 49) (.ref 121) = some false ∧ kitOne (K P) (.ref 49) (.ref 133) = some false ∧ kitOne (K P) (.ref 49) (.ref 145) = some false ∧ kitOne (K P) (.ref 49) (.ref 157) = some false ∧ kitOne (K P) (.ref 49) (.ref 169) = some false ∧ kitOne (K P) (.ref 49) (.ref 181) = some false ∧ kitOne (K P) (.ref 49) (.type "ValueError") = some true ∧ excIn (K P) (85) bmV "ValueError.__new__" = true ∧ exmOne (K P) (.ref 85) (.ref 24) = some true ∧ findIn (K P) (.ref 85) "__getattribute__" = some (some (.builtin "BaseException.__getattribute__")) ∧ findIn (K P) (.ref 85) "__getattr__" = some none ∧ findIn (K P) (.ref 85) "__class__" = some (some (.builtin "object.__class__")) ∧ mroIn (K P) 85 (.type "object") = some true ∧ mroIn (K P) 85 (.type "BaseException") = some true ∧ (clsIn (K P) 85).isSome = true ∧ kitOne (K P) (.ref 85) (.ref 37) = some false ∧ kitOne (K P) (.ref 85) (.ref 49) = some false ∧ kitOne (K P) (.ref 85) (.ref 61) = some false ∧ kitOne (K P) (.ref 85) (.ref 73) = some false ∧ kitOne (K P) (.ref 85) (.ref 85) = some true ∧ kitOne (K P) (.ref 85) (.ref 97) = some false ∧ kitOne (K P) (.ref 85) (.ref 109) = some false ∧ kitOne (K P) (.ref 85) (.ref 121) = some false ∧ kitOne (K P) (.ref 85) (.ref 133) = some false ∧ kitOne (K P) (.ref 85) (.ref 145) = some false ∧ kitOne (K P) (.ref 85) (.ref 157) = some false ∧ kitOne (K P) (.ref 85) (.ref 169) = some false ∧ kitOne (K P) (.ref 85) (.ref 181) = some false ∧ kitOne (K P) (.ref 85) (.type "ValueError") = some true ∧ excIn (K P) (181) bmV "ValueError.__new__" = true ∧ exmOne (K P) (.ref 181) (.ref 24) = some true ∧ findIn (K P) (.ref 181) "__getattribute__" = some (some (.builtin "BaseException.__getattribute__")) ∧ findIn (K P) (.ref 181) "__getattr__" = some none ∧ findIn (K P) (.ref 181) "__class__" = some (some (.builtin "object.__class__")) ∧ mroIn (K P) 181 (.type "object") = some true ∧ mroIn (K P) 181 (.type "BaseException") = some true ∧ (clsIn (K P) 181).isSome = true ∧ kitOne (K P) (.ref 181) (.ref 37) = some false ∧ kitOne (K P) (.ref 181) (.ref 49) = some false ∧ kitOne (K P) (.ref 181) (.ref 61) = some false ∧ kitOne (K P) (.ref 181) (.ref 73) = some false ∧ kitOne (K P) (.ref 181) (.ref 85) = some false ∧ kitOne (K P) (.ref 181) (.ref 97) = some false ∧ kitOne (K P) (.ref 181) (.ref 109) = some false ∧ kitOne (K P) (.ref 181) (.ref 121) = some false ∧ kitOne (K P) (.ref 181) (.ref 133) = some false ∧ kitOne (K P) (.ref 181) (.ref 145) = some false ∧ kitOne (K P) (.ref 181) (.ref 157) = some false ∧ kitOne (K P) (.ref 181) (.ref 169) = some false ∧ kitOne (K P) (.ref 181) (.ref 181) = some true ∧ kitOne (K P) (.ref 181) (.type "ValueError") = some true ∧ (nsIn (K P) mainGlobals "__builtins__" = some (some (.ref 4)) ∧ (4 : Addr) ≠ builtinsNs ∧ (K P).lookup 4 = some ⟨.type "module", some builtinsNs, .plain, #[]⟩) :=
  ⟨⟨by kernel_rfl, by kernel_rfl, by kernel_rfl, by kernel_rfl⟩, ⟨by kernel_rfl, by kernel_rfl, by kernel_rfl, by kernel_rfl⟩, ⟨by kernel_rfl, by kernel_rfl, by kernel_rfl, by kernel_rfl⟩, ⟨by kernel_rfl, by kernel_rfl, by kernel_rfl, by kernel_rfl⟩, ⟨by kernel_rfl, by kernel_rfl, by kernel_rfl, by kernel_rfl⟩, ⟨by kernel_rfl, by kernel_rfl, by kernel_rfl, by kernel_rfl⟩, ⟨by kernel_rfl, by kernel_rfl, by kernel_rfl, by kernel_rfl⟩, ⟨by kernel_rfl, by kernel_rfl, by kernel_rfl, by kernel_rfl⟩, ⟨by kernel_rfl, by kernel_rfl, by kernel_rfl, by kernel_rfl⟩, ⟨by kernel_rfl, by kernel_rfl, by kernel_rfl, by kernel_rfl⟩, ⟨by kernel_rfl, by kernel_rfl, by kernel_rfl, by kernel_rfl⟩, ⟨by kernel_rfl, by kernel_rfl, by kernel_rfl, by kernel_rfl⟩, ⟨by kernel_rfl, by kernel_rfl, by kernel_rfl, by kernel_rfl⟩, ⟨by kernel_rfl, by kernel_rfl, by kernel_rfl, by kernel_rfl⟩, ⟨by kernel_rfl, by kernel_rfl, by kernel_rfl, by kernel_rfl⟩, ⟨by kernel_rfl, by kernel_rfl, by kernel_rfl, by kernel_rfl⟩, ⟨by kernel_rfl, by kernel_rfl, by kernel_rfl, by kernel_rfl⟩, ⟨by kernel_rfl, by kernel_rfl, by kernel_rfl, by kernel_rfl⟩, ⟨by kernel_rfl, by kernel_rfl, by kernel_rfl, by kernel_rfl⟩, ⟨by kernel_rfl, by kernel_rfl, by kernel_rfl, by kernel_rfl⟩, ⟨by kernel_rfl, by kernel_rfl, by kernel_rfl, by kernel_rfl⟩, ⟨by kernel_rfl, by kernel_rfl, by kernel_rfl, by kernel_rfl⟩, ⟨by kernel_rfl, by kernel_rfl, by kernel_rfl, by kernel_rfl⟩, ⟨by kernel_rfl, by kernel_rfl, by kernel_rfl, by kernel_rfl⟩, ⟨by kernel_rfl, by kernel_rfl, by kernel_rfl, by kernel_rfl⟩, ⟨by kernel_rfl, by kernel_rfl, by kernel_rfl, by kernel_rfl⟩, ⟨by kernel_rfl, by kernel_rfl, by kernel_rfl, by kernel_rfl⟩, ⟨by kernel_rfl, by kernel_rfl, by kernel_rfl, by kernel_rfl⟩, ⟨by kernel_rfl, by kernel_rfl, by kernel_rfl, by kernel_rfl⟩, ⟨by kernel_rfl, by kernel_rfl, by kernel_rfl, by kernel_rfl⟩, ⟨by kernel_rfl, by kernel_rfl, by kernel_rfl, by kernel_rfl⟩, ⟨by kernel_rfl, by kernel_rfl, by kernel_rfl, by kernel_rfl⟩, ⟨by kernel_rfl, by kernel_rfl, by kernel_rfl, by kernel_rfl⟩, ⟨by kernel_rfl, by kernel_rfl, by kernel_rfl, by kernel_rfl⟩, ⟨by kernel_rfl, by kernel_rfl, by kernel_rfl, by kernel_rfl⟩, ⟨by kernel_rfl, by kernel_rfl, by kernel_rfl, by kernel_rfl⟩, ⟨by kernel_rfl, by kernel_rfl, by kernel_rfl, by kernel_rfl⟩, ⟨by kernel_rfl, by kernel_rfl, by kernel_rfl, by kernel_rfl⟩, ⟨by kernel_rfl, by kernel_rfl, by kernel_rfl, by kernel_rfl⟩, ⟨by kernel_rfl, by kernel_rfl, by kernel_rfl, by kernel_rfl⟩, ⟨by kernel_rfl, by kernel_rfl, by kernel_rfl, by kernel_rfl⟩, ⟨by kernel_rfl, by kernel_rfl, by kernel_rfl, by kernel_rfl⟩, ⟨by kernel_rfl, by kernel_rfl, by kernel_rfl, by kernel_rfl⟩, by kernel_rfl, by kernel_rfl, by kernel_rfl, by kernel_rfl, by kernel_rfl, by kernel_rfl, by kernel_rfl, by kernel_rfl, by kernel_rfl, by kernel_rfl, by kernel_rfl, by kernel_rfl, by kernel_rfl, by kernel_rfl, ⟨by kernel_rfl, by kernel_rfl⟩, ⟨by kernel_rfl, by kernel_rfl⟩, by kernel_rfl, by kernel_rfl, by kernel_rfl, by kernel_rfl, by kernel_rfl, by kernel_rfl, by kernel_rfl, by kernel_rfl, by kernel_rfl, by kernel_rfl, by kernel_rfl, by kernel_rfl, by kernel_rfl, by kernel_rfl, by kernel_rfl, by kernel_rfl, by kernel_rfl, by kernel_rfl, by kernel_rfl, by kernel_rfl, by kernel_rfl, by kernel_rfl, by kernel_rfl, by kernel_rfl, by kernel_rfl, by kernel_rfl, by kernel_rfl, by kernel_rfl, by kernel_rfl, by kernel_rfl, by kernel_rfl, by kernel_rfl, by kernel_rfl, by kernel_rfl, by kernel_rfl, by kernel_rfl, by kernel_rfl, by kernel_rfl, by kernel_rfl, by kernel_rfl, by kernel_rfl, by kernel_rfl, by kernel_rfl, by kernel_rfl, by kernel_rfl, by kernel_rfl, by kernel_rfl, by kernel_rfl, by kernel_rfl, by kernel_rfl, by kernel_rfl, by kernel_rfl, by kernel_rfl, by kernel_rfl, by kernel_rfl, by kernel_rfl, by kernel_rfl, by kernel_rfl, by kernel_rfl, by kernel_rfl, by kernel_rfl, by kernel_rfl, by kernel_rfl, by kernel_rfl, by kernel_rfl, by kernel_rfl, by kernel_rfl, by kernel_rfl, by kernel_rfl, by kernel_rfl, by kernel_rfl, by kernel_rfl, by kernel_rfl, by kernel_rfl, by kernel_rfl, by kernel_rfl, by kernel_rfl, by kernel_rfl, by kernel_rfl, by kernel_rfl, ⟨by kernel_rfl, by decide, by kernel_rfl⟩⟩
theorem Bg (P : Params) : ((K P).filterMap fun p => bq p.2) = [(470, ("_law_is_told" : Str)), (477, ("law" : Str))] ∧ ((K P).lookup 474).bind bq = some (470, ("_law_is_told" : Str)) ∧ ((K P).lookup 479).bind bq = some (477, ("law" : Str)) ∧ (KF P).lookup 470 = some (tabObj #[]) ∧ (KF P).lookup 477 = some (tabObj #[]) ∧ (K P).lookup 470 = none ∧ (K P).lookup 477 = none := ⟨by kernel_rfl, by kernel_rfl, by kernel_rfl, by kernel_rfl, by kernel_rfl, by kernel_rfl, by kernel_rfl⟩
theorem Bj (P : Params) : ((K P).filterMap fun p => bq p.2) = [(470, ("_law_is_told" : Str)), (477, ("law" : Str))] := (Bg P).1
theorem jJ (P : Params) : ((K P).lookup 474).bind bq = some (470, ("_law_is_told" : Str)) := (Bg P).2.1
theorem pR {q2 : Str} (h : ((470 : Addr), q2) ∈ ([(470, ("_law_is_told" : Str)), (477, ("law" : Str))] : List (Addr × Str))) : q2 = "_law_is_told" := by simpa using h
theorem A9 (P : Params) : ((K P).lookup 479).bind bq = some (477, ("law" : Str)) := (Bg P).2.2.1
theorem E3 {q2 : Str} (h : ((477 : Addr), q2) ∈ ([(470, ("_law_is_told" : Str)), (477, ("law" : Str))] : List (Addr × Str))) : q2 = "law" := by simpa using h
theorem kM (P : Params) : (KF P).lookup 470 = some (tabObj #[]) ∧ (K P).lookup 470 = none := ⟨(Bg P).2.2.2.1, (Bg P).2.2.2.2.2.1⟩
theorem CT (P : Params) : (KF P).lookup 477 = some (tabObj #[]) ∧ (K P).lookup 477 = none := ⟨(Bg P).2.2.2.2.1, (Bg P).2.2.2.2.2.2⟩
theorem left : LeftO R.row.prog V [] Xt HK.obs HK.val 20000 :=
  LeftO.of_pieces (H₀ := boot_heap) (H₁ := hT) (gs₀ := #[]) (gs₁ := #[]) (d₀ := boot_drawn) (d₁ := {}) (k₀ := boot_toks) (k₁ := 844) (m₀ := 11) (ann := some (.ref 6)) (M := 20000)
    (boot_open (by kernel_rfl) (by kernel_rfl) (fun s => by kernel_rfl)) (fun w => by kernel_rfl) run (by kernel_rfl) seen
end K20.H
set_option Elab.async false
set_option linter.all false
set_option maxRecDepth 100000
namespace L2
open PySem PySem.Spec PyProof.Rows
def iq (A : Around) (h : Heap) : Prop := A.handled = none ∨ ∃ (e : Addr) (oe : Obj) (vs : Array Value), A.handled = some (.ref e) ∧ h.get? e = some oe ∧ oe.data = .fields vs ∧ vs[2]? = some .none
theorem vT : entryFor table "proto.unchain" = some Builtin.«proto.unchain» := entryFor_of_tree (by kernel_rfl)
section
variable {prog : Program} {w : World} {A : Around} {E : Value → Shared → Prop} {s : Shared}
theorem xG {x e : Addr} {oe : Obj} {vs : Array Value} {Q : Value → Shared → Prop} (he : s.heap.get? e = some oe) (hd : oe.data = .fields vs) (h2 : vs[2]? = some .none) (h : Q .none s) :
    wpAny (model prog w) A (runValue (.builtin "proto.unchain" ⟨[.ref x, .ref e, .ref e, .bool false], []⟩)) Q E s := by
  refine wpAny_runValue (codeAny_builtin vT ?_)
  unfold Builtin.«proto.unchain»
  dsimp only
  refine wpAny_bind (wpAny_field he hd h2 ?_)
  rw [if_pos (by rfl)]
  exact wpAny_pure h
theorem vj {α : Type} {a : Addr} {oa : Obj} {ws : Array Value} {Q : α → Shared → Prop} (q : iq A s.heap) (ha : s.heap.get? a = some oa) (hda : oa.data = .fields ws) (hz : 2 < ws.size)
    (hnew : ∀ e oe, A.handled = some (.ref e) → s.heap.get? e = some oe → e ≠ a)
    (h : ∀ h', Heap.ExtBut a s.heap h' → (∃ o', h'.get? a = some o' ∧ o'.cls = oa.cls) → E (.ref a) { s with heap := h' }) : wpAny (model prog w) A (raiseNew (.ref a) : Sem α) Q E s := by
  unfold raiseNew
  refine wpAny_bind (wpAny_handled ?_)
  rcases q with q | ⟨e, oe, vs, q, he, hd, h2⟩
  · rw [q]
    exact wpAny_bind (wpAny_pure (wpAny_throw (h s.heap (fun b o _ z => z) ⟨oa, ha, rfl⟩)))
  · rw [q]
    have ne : e ≠ a := hnew e oe q he
    dsimp only
    rw [if_pos (by simp [ne])]
    refine wpAny_bind (wpAny_holding (xG he hd h2 ?_))
    refine wpAny_bind ?_
    refine wpAny_setField ha hda hz (wpAny_throw ?_)
    have hd' := Obj.data_mapFields hda (·.setIfInBounds 2 (Value.ref e))
    exact h _ (Heap.SameBut.update ..).extBut ⟨_, Heap.get?_update_self _ ha (Obj.isFreed_of_fields hd'), Obj.cls_mapFields ..⟩
theorem uQ {it : Addr} {α : Type} {h0 : Heap} {Q : α → Shared → Prop} (q : iq A s.heap) (k : Heap.ExtBut it h0 s.heap) (kl : ∀ e oe, A.handled = some (.ref e) → s.heap.get? e = some oe → True)
    (h : ∀ h' a, Heap.ExtBut it h0 h' → (∃ o', h'.get? a = some o' ∧ o'.cls = .type "StopIteration") → E (.ref a) { s with heap := h' }) : wpAny (model prog w) A (newExc (.type "StopIteration") [] >>= fun e => (raiseNew e : Sem α)) Q E s := by
  refine wpAny_bind ?_; simp only [newExc, newTuple]
  refine wpAny_bind (wpAny_newObj_type ?_ (by size_fits)); refine wpAny_bind (m := firstArgMember _ _) (wpAny_of_eq (a := Value.none) (by first | rfl | (simp only [firstArgMember]; rfl)) ?_); refine wpAny_newObj_type ?_ (by size_fits)
  have q' : ∀ o1 o2 : Obj, iq A ((s.heap.push o1).push o2) := fun o1 o2 => by
    rcases q with q | ⟨e, oe, vs, q, he, r⟩
    · exact .inl q
    · exact .inr ⟨e, oe, vs, q, Heap.get?_push_of_some _ (Heap.get?_push_of_some _ he), r⟩
  refine vj (q' _ _) (Heap.get?_push_size _ rfl) rfl (by rw [Array.size_append]; exact Nat.lt_of_lt_of_le (by decide : 2 < 6) (Nat.le_add_right _ _)) (fun e oe hq he z => ?_) fun h' hx ⟨o', ho', hc'⟩ => h h' _ (fun b o hb e => hx b o ?_ (Heap.get?_push_of_some _ (Heap.get?_push_of_some _ (k b o hb e)))) ⟨o', ho', hc'⟩
  · rcases q with q | ⟨e1, oe1, vs, q, he1, r⟩
    · rw [q] at hq; cases hq
    · rw [q] at hq; cases hq
      exact absurd (Heap.lt_size he1) (by rw [z]; simp)
  · exact Nat.ne_of_lt (Nat.lt_of_lt_of_le (Heap.lt_size (k b o hb e)) (by simp))
theorem p7 {it : Addr} {o : Obj} {ws : Array Value} {f : Array Value → Array Value} (q : iq A s.heap) (ho : s.heap.get? it = some o) (hd : o.data = .fields ws) (hn : ∀ e, A.handled = some (.ref e) → e ≠ it) : iq A (s.heap.update it (Obj.mapFields f)) := by
  rcases q with q | ⟨e, oe, vs, q, he, r⟩
  · exact .inl q
  · exact .inr ⟨e, oe, vs, q, by rw [Heap.get?_update_other _ _ (Ne.symm (hn e q))]; exact he, r⟩
theorem vV {it l : Addr} {i : Nat} {items} {Q : Option Value → Shared → Prop} (q : iq A s.heap) (hn : ∀ e, A.handled = some (.ref e) → e ≠ it) (hit : s.heap.IsListIter it l i) (hl : s.heap.IsList l items) (hx : items[i]? = none)
    (hQ : ∀ h', Heap.ExtBut it s.heap h' → Q none { s with heap := h' }) : wpAny (model prog w) A (pyNext (.ref it)) Q E s := by
  obtain ⟨o, ho, hc, hd⟩ := id hit
  obtain ⟨ol, hol, _, nl, hdl⟩ := hl; unfold pyNext
  refine wpAny_bind (wpAny_attempt (wpAny_callSpecial?_slot (name := Str.ofString "__next__") hit.typeIs slot_listiter_next (wpAny_call_entry slot_listiter_next hit.typeIs entry_listiter_next ?_ (args_listiter_next _))))
  show wpAny _ _ (field (.ref it) 0 >>= _) _ _ s; refine wpAny_bind (wpAny_field ho hd (x := .ref l) rfl ?_)
  show wpAny _ _ (if (Value.ref l == Value.none) = true then _ else _) _ _ s; rw [if_neg (show ¬ ((Value.ref l == Value.none) = true) from Bool.false_ne_true)]
  show wpAny _ _ (field (.ref it) 1 >>= _) _ _ s; refine wpAny_bind (wpAny_field ho hd (x := .int i 0) rfl ?_)
  show wpAny _ _ (seqItems? (.ref l) >>= _) _ _ s; refine wpAny_bind (wpAny_seqItems hol hdl ?_); simp only [Int.toNat_natCast, hx]
  refine wpAny_bind (wpAny_rule (wpAny_bind (wpAny_setField ho hd (by simp) ?_)))
  refine uQ (it := it) (h0 := s.heap) (A := A.in1) (p7 (A := A.in1) q ho hd hn) (Heap.SameBut.update ..).extBut (fun _ _ _ _ => trivial) fun h' a hx' ⟨o', ho', hc'⟩ => ?_
  refine wpAny_bind (wpAny_isInstance (T := "StopIteration") (b := true) ⟨_, ho', hc'⟩ isSubtype_stop ?_); exact wpAny_pure (hQ _ hx')
theorem yc {it t : Addr} {i : Nat} {items} {Q : Option Value → Shared → Prop} (q : iq A s.heap) (hn : ∀ e, A.handled = some (.ref e) → e ≠ it) (hit : IsTupIter s.heap it t i) (ht : IsTup s.heap t items) (hx : items[i]? = none)
    (hQ : ∀ h', Heap.ExtBut it s.heap h' → Q none { s with heap := h' }) : wpAny (model prog w) A (pyNext (.ref it)) Q E s := by
  obtain ⟨o, ho, hc, hd⟩ := id hit
  obtain ⟨ol, hol, _, nl, hdl⟩ := ht; unfold pyNext
  refine wpAny_bind (wpAny_attempt (wpAny_callSpecial?_slot (name := Str.ofString "__next__") hit.typeIs slot_tupleiter_next (wpAny_call_entry slot_tupleiter_next hit.typeIs entry_tupleiter_next ?_ (args_tupleiter_next _))))
  show wpAny _ _ (field (.ref it) 0 >>= _) _ _ s; refine wpAny_bind (wpAny_field ho hd (x := .ref t) rfl ?_)
  show wpAny _ _ (if (Value.ref t == Value.none) = true then _ else _) _ _ s; rw [if_neg (show ¬ ((Value.ref t == Value.none) = true) from Bool.false_ne_true)]
  show wpAny _ _ (field (.ref it) 1 >>= _) _ _ s; refine wpAny_bind (wpAny_field ho hd (x := .int i 0) rfl ?_)
  show wpAny _ _ (seqItems? (.ref t) >>= _) _ _ s; refine wpAny_bind (wpAny_seqItems hol hdl ?_); simp only [Int.toNat_natCast, hx]
  refine wpAny_bind (wpAny_rule (wpAny_bind (wpAny_setField ho hd (by simp) ?_)))
  refine uQ (it := it) (h0 := s.heap) (A := A.in1) (p7 (A := A.in1) q ho hd hn) (Heap.SameBut.update ..).extBut (fun _ _ _ _ => trivial) fun h' a hx' ⟨o', ho', hc'⟩ => ?_
  refine wpAny_bind (wpAny_isInstance (T := "StopIteration") (b := true) ⟨_, ho', hc'⟩ isSubtype_stop ?_); exact wpAny_pure (hQ _ hx')
theorem wy {env : Env} {elts : List Expr} {x1} {pos : Pos} {t : Addr} {items : Array Value} {Q : Unit → Shared → Prop} (q : iq A s.heap) (ht : IsTup s.heap t items) (hn : (assignEach elts env).length = items.size)
    (hstar : (assignEach elts env).findIdx? (·.1) = none) (h : ∀ h', Heap.ExtBut s.heap.objs.size s.heap h' → wpAny (model prog w) A (assignInOrder ((assignEach elts env).map (·.2)) items.toList) Q E { s with heap := h' }) :
    wpAny (model prog w) A (assign (.Tuple elts x1 pos) env (.ref t)) Q E s := by
  rw [assign_Tuple]
  refine wpAny_bind (wpAny_standAt ?_)
  unfold unpack; rw [hn, hstar]
  refine wpAny_bind (wpAny_holding ?_)
  have hlt : t ≠ s.heap.objs.size := by obtain ⟨o, ho, _⟩ := ht; exact Nat.ne_of_lt (Heap.lt_size ho)
  unfold unpackItems; refine wpAny_bind ?_
  unfold notIterableAtAll; refine wpAny_bind (wpAny_specialOf ht.typeIs slot_tuple_iter.lookup ?_); refine wpAny_pure ?_; simp only [Bool.false_eq_true, if_false]
  refine wpAny_bind (wpAny_holding (iter_tuple ht ?_))
  refine wpAny_bind (wpAny_holding (draw_tuple hlt items.size 0 _ _ ⟨_, Heap.get?_push_size _ rfl, rfl, rfl⟩ (ht.push _) (by omega) fun h₁ hit₁ hs₁ => ?_))
  rw [show List.take items.size (List.drop 0 items.toList) = items.toList from by rw [List.drop_zero]; exact List.take_of_length_le (by simp), if_neg (by simp)]
  have fr : ∀ e, A.handled = some (.ref e) → e ≠ s.heap.objs.size := fun e hq => by
    rcases q with q | ⟨e1, oe1, vs, q, he1, r⟩
    · rw [q] at hq; cases hq
    · rw [q] at hq; cases hq; exact Nat.ne_of_lt (Heap.lt_size he1)
  have q1 : iq A h₁ := by
    rcases q with q | ⟨e, oe, vs, q, he, r⟩
    · exact .inl q
    · exact .inr ⟨e, oe, vs, q, hs₁.extBut e oe (fr e q) (Heap.get?_push_of_some _ he), r⟩
  refine wpAny_bind (wpAny_holding (yc q1 fr hit₁ ((ht.push _).extBut hs₁.extBut hlt) (by simp) fun h₂ he₂ => ?_)); simp only [Option.isSome_none, Bool.false_eq_true, if_false]
  exact wpAny_pure (h h₂ fun b o hb e => he₂ b o hb (hs₁.extBut b o hb (Heap.get?_push_of_some _ e)))
end
end L2
set_option Elab.async false
set_option linter.all false
set_option maxRecDepth 100000
namespace L2
open PySem PySem.Spec PyProof.Rows
abbrev Key := Sum Int Str
def IV : Key → Value → Bool
  | .inl k, v => Value.isInt k v
  | .inr x, v => Value.isStrOf x v
def Md (w : World) : Key → Int
  | .inl k => hashInt k
  | .inr x => hashStr w x
theorem cP : ∀ {k : Key} {v : Value}, IV k v = true → (∃ i t, k = Sum.inl i ∧ v = Value.int i t) ∨ (∃ x t, k = Sum.inr x ∧ v = Value.str x t)
  | .inl i, v, h => by
    obtain ⟨t, e⟩ := Value.isInt_shape (k := i) (v := v) h
    exact .inl ⟨i, t, rfl, e⟩
  | .inr x, v, h => by
    obtain ⟨t, e⟩ := Value.isStrOf_shape (x := x) (v := v) h
    exact .inr ⟨x, t, rfl, e⟩
theorem J8 (a b : Int) : decide ((Sum.inl a : Key) = Sum.inl b) = (a == b) := by
  by_cases e : a = b
  · subst e; simp
  · have h : ¬ (Sum.inl a : Key) = Sum.inl b := fun q => e (Sum.inl.inj q)
    rw [decide_eq_false h]
    exact (beq_eq_false_iff_ne.mpr e).symm
theorem JG (a b : Str) : decide ((Sum.inr a : Key) = Sum.inr b) = decide (a = b) := by
  by_cases e : a = b
  · subst e; simp
  · have h : ¬ (Sum.inr a : Key) = Sum.inr b := fun q => e (Sum.inr.inj q)
    rw [decide_eq_false h, decide_eq_false e]
theorem Jt (a : Int) (b : Str) : decide ((Sum.inl a : Key) = Sum.inr b) = false := decide_eq_false (fun q => nomatch q)
theorem J5 (a : Str) (b : Int) : decide ((Sum.inr a : Key) = Sum.inl b) = false := decide_eq_false (fun q => nomatch q)
def C4 (prog : Program) (w : World) : PySem.KeyKind prog w Key where
  is := IV
  hash := Md w
  inj := fun v a b ha hb => by
    rcases cP ha with ⟨i, t, rfl, rfl⟩ | ⟨x, t, rfl, rfl⟩
    · rcases cP hb with ⟨j, u, rfl, e⟩ | ⟨y, u, rfl, e⟩
      · injection e with e1 _; rw [e1]
      · exact nomatch e
    · rcases cP hb with ⟨j, u, rfl, e⟩ | ⟨y, u, rfl, e⟩
      · exact nomatch e
      · injection e with e1 _; rw [e1]
  byValue := fun k v h => by
    rcases cP h with ⟨i, t, rfl, rfl⟩ | ⟨x, t, rfl, rfl⟩ <;> rfl
  pyHash := fun hv h => by
    rcases cP hv with ⟨i, t, rfl, rfl⟩ | ⟨x, t, rfl, rfl⟩
    · exact wpAny_pyHash_int h
    · exact wpAny_pyHash_str h
  eqBool := fun hu hv h => by
    rcases cP hu with ⟨i, t, rfl, rfl⟩ | ⟨x, t, rfl, rfl⟩
    · rcases cP hv with ⟨j, u, rfl, rfl⟩ | ⟨y, u, rfl, rfl⟩
      · rw [J8] at h; exact wpAny_eqBool_int h
      · rw [Jt] at h; exact SeqAt.EqAt.int_str i t y u _ _ _ _ h
    · rcases cP hv with ⟨j, u, rfl, rfl⟩ | ⟨y, u, rfl, rfl⟩
      · rw [J5] at h; exact SeqAt.EqAt.str_int x t j u _ _ _ _ h
      · rw [JG] at h; exact wpAny_eqBool_str h
  «strs» := fun k x t v h => by
    rcases cP h with ⟨i, u, rfl, e⟩ | ⟨y, u, rfl, e⟩
    · exact nomatch e
    · injection e with e1 _
      subst e1
      cases v <;> rfl
end L2
namespace L2
open PySem PySem.Spec PyProof.Rows
inductive V where
  | non | bl (b : Bool) | int (i : Int) | str (x : Str) | byt (b : Array UInt8) | flt (b : UInt64) | ref (a : Addr) | ty (n : String)
  deriving DecidableEq
def RelV : V → Value → Prop
  | .non, u => u = Value.none
  | .bl b, u => u = Value.bool b
  | .int i, u => ∃ t, u = Value.int i t
  | .str x, u => ∃ t, u = Value.str x t
  | .byt b, u => ∃ t, u = Value.bytes b t
  | .flt b, u => ∃ t, u = Value.float b t
  | .ref a, u => u = Value.ref a
  | .ty n, u => u = Value.type n
abbrev Vals : List V → List Value → Prop := Paired RelV
theorem Vals.length {xs : List V} {us : List Value} (r : Vals xs us) : xs.length = us.length := Paired.length r
theorem Vals.get : ∀ {xs : List V} {us : List Value} {i : Nat} {x : V}, Vals xs us → xs[i]? = some x → ∃ u, us[i]? = some u ∧ RelV x u
  | _, _, _, _, .nil, e => by simp at e
  | _, _, 0, _, .cons r _, e => by simp at e; subst e; exact ⟨_, rfl, r⟩
  | _, _, i + 1, x, .cons _ t, e => by
    obtain ⟨u, h1, h2⟩ := Vals.get (i := i) (x := x) t (by simpa using e)
    exact ⟨u, by simpa using h1, h2⟩
theorem Vals.set {x : V} {u : Value} (r : RelV x u) : ∀ {xs : List V} {us : List Value} (i : Nat), Vals xs us → Vals (xs.set i x) (us.set i u)
  | _, _, _, .nil => .nil
  | _, _, 0, .cons _ t => .cons r t
  | _, _, i + 1, .cons q t => .cons q (Vals.set r i t)
theorem Vals.append : ∀ {xs ys : List V} {us ws : List Value}, Vals xs us → Vals ys ws → Vals (xs ++ ys) (us ++ ws)
  | _, _, _, _, .nil, s => s
  | _, _, _, _, .cons r t, s => .cons r (Vals.append t s)
theorem Vals.take : ∀ {xs : List V} {us : List Value} (n : Nat), Vals xs us → Vals (xs.take n) (us.take n)
  | _, _, 0, _ => .nil
  | _, _, _ + 1, .nil => .nil
  | _, _, n + 1, .cons r t => .cons r (Vals.take n t)
theorem Vals.drop : ∀ {xs : List V} {us : List Value} (n : Nat), Vals xs us → Vals (xs.drop n) (us.drop n)
  | _, _, 0, r => r
  | _, _, _ + 1, .nil => .nil
  | _, _, n + 1, .cons _ t => Vals.drop n t
def LZ : Option V → Option Value → Prop
  | some v, some u => RelV v u
  | none, none => True
  | _, _ => False
def KV {κ : Type} : List (κ × V) → List (κ × Value) → Prop := Paired fun (p : κ × V) (q : κ × Value) => p.1 = q.1 ∧ RelV p.2 q.2
def kV : Key → V
  | .inl i => .int i
  | .inr x => .str x
inductive HO where
  /-- a list -/
  | lst (xs : List V)
  /-- a tuple (never changes) -/
  | tup (xs : List V)
  /-- a dict whose keys are ints and texts; one whose keys are tuples of ints and texts (the empty one is both) -/
  | dK (kvs : List (Key × V)) | dT (kvs : List (List Key × V))
  /-- a set of ints: its members, its size -/
  | set (S : Int → Bool) (n : Nat)
  /-- an instance of the class at C, its dict at dx, its attributes -/
  | ins (C dx : Addr) (fs : List (Str × V))
  /-- the dict of the instance at x -/
  | own (x : Addr)
  /-- the dict of an exception -/
  | xd (fs : List (Str × V))
  /-- a bound method, f of x -/
  | met (f x : Addr)
  /-- a range object lo, lo + 1, .. below hi -/
  | rng (lo hi : Int)
  /-- a thing that is known to the object (the script; a dict while a loop walks it): read, never written while it is so -/
  | frz (o : Obj) (u : HO)
  /-- a code object's table -/
  | tbl (ps : Array Value)
  /-- any other thing, by what is true of its one object (a def of one's own: SetO a S n := HO.ext fun h => ..) -/
  | ext (φ : Heap → Prop)
abbrev Hp := Addr → Option HO
def upd (H : Hp) (a : Addr) (o : HO) : Hp := fun b => if b = a then some o else H b
theorem bU {H : Hp} {a : Addr} {o : HO} : upd H a o a = some o := by unfold upd; rw [if_pos rfl]
theorem aZ {H : Hp} {a b : Addr} {o : HO} (h : b ≠ a) : upd H a o b = H b := by unfold upd; rw [if_neg h]
theorem aG {H : Hp} {a b : Addr} {o : HO} (h : H a = some o) (h' : H b = none) : a ≠ b := by
  intro e; subst e; rw [h] at h'; cases h'
section
variable (P : Program) (w : World)
def i5 (H : Hp) (h : Heap) (a : Addr) : HO → Prop
  | .lst xs => xs.length ≤ sizeLine ∧ ∃ (its : List Value) (n : Nat), Vals xs its ∧ h.get? a = some { cls := .type "list", data := .seq its.toArray n }
  | .tup xs => xs.length ≤ sizeLine ∧ ∃ its : List Value, Vals xs its ∧ IsTup h a its.toArray
  | .dK kvs => kvs.length ≤ sizeLine ∧ (a == sysModules) = false ∧ ∃ vs, KV kvs vs ∧ h.DictOf (C4 P w) a vs
  | .dT kvs => kvs.length ≤ sizeLine ∧ (a == sysModules) = false ∧ ∃ xs : List (List Key × Addr × Value),
      Paired (fun (p : List Key × V) (q : List Key × Addr × Value) => p.1 = q.1 ∧ H q.2.1 = some (.tup (p.1.map kV)) ∧ RelV p.2 q.2.2) kvs xs ∧
      ∃ o es ep, h.get? a = some o ∧ o.ExactDict ∧ o.data = .dict es ep ∧ es.toList = xs.map (entryOfKey (tupleKind (C4 P w))) ∧ (xs.map (·.1)).Nodup
  | .set S n => h.SetOf (intKind P w) a S n
  | .ins C dx fs => H dx = some (.own a) ∧ fs.length ≤ 1000 ∧ dx ≠ a ∧ h.get? a = some (PySem.W.instObj C dx) ∧
      ∃ mA, h.Ns1 dx mA ∧ (∀ f, LZ (fs.lookup f) (mA f)) ∧ PySem.Within mA (fs.map (·.1))
  | .own _ => ∃ o, h.get? a = some o
  | .xd fs => ∃ mA, h.Ns1 a mA ∧ ∀ f, LZ (fs.lookup f) (mA f)
  | .rng lo hi => ∃ t u v, h.get? a = some { cls := .type "range", data := .fields #[.int lo t, .int hi u, .int 1 v] }
  | .frz o u => h.get? a = some o ∧ i5 H h a u
  | .tbl ps => h.get? a = some { cls := .none, data := .fields ps }
  | .met f x => h.get? a = some (PySem.W.methodObj (.ref f) (.ref x))
  | .ext φ => φ h ∧ (∃ o, h.get? a = some o) ∧ ∀ h1 h2 : Heap, φ h1 → (∀ o, h1.get? a = some o → h2.get? a = some o) → φ h2
def HOk (H : Hp) (h : Heap) : Prop := ∀ a o, H a = some o → i5 P w H h a o
end
section
variable {P : Program} {w : World} {H H' : Hp} {h h' : Heap} {a : Addr} {o : HO}
theorem i5.lt (x : i5 P w H h a o) : a < h.objs.size := by
  cases o with
  | lst xs => obtain ⟨_, _, _, _, e⟩ := x; exact Heap.lt_size e
  | tup xs => obtain ⟨_, _, _, p⟩ := x; exact p.lt
  | dK kvs => obtain ⟨_, _, _, _, o, _, _, e, _⟩ := x; exact Heap.lt_size e
  | dT kvs => obtain ⟨_, _, _, _, o, _, _, e, _⟩ := x; exact Heap.lt_size e
  | set S n => obtain ⟨o, _, _, _, e, _⟩ := x; exact Heap.lt_size e
  | ins C dx fs => obtain ⟨_, _, _, e, _⟩ := x; exact Heap.lt_size e
  | own y => obtain ⟨_, e⟩ := x; exact Heap.lt_size e
  | xd fs => obtain ⟨_, ⟨_, _, _, e, _⟩, _⟩ := x; exact Heap.lt_size e
  | rng lo hi => obtain ⟨_, _, _, e⟩ := x; exact Heap.lt_size e
  | frz ob u => obtain ⟨e, _⟩ := x; exact Heap.lt_size e
  | tbl ps => exact Heap.lt_size (show h.get? a = some _ from x)
  | met f y => exact Heap.lt_size (show h.get? a = some _ from x)
  | ext φ => obtain ⟨_, ⟨_, e⟩, _⟩ := x; exact Heap.lt_size e
theorem Paired.Lv {α β : Type} {F G : α → β → Prop} : ∀ {l₁ : List α} {l₂ : List β}, Paired F l₁ l₂ → (∀ a b, F a b → G a b) → Paired G l₁ l₂
  | _, _, .nil, _ => .nil
  | _, _, .cons r t, f => .cons (f _ _ r) (Paired.Lv t f)
theorem i5.u0 (x : i5 P w H h a o) (k : ∀ b u, (b = a ∨ H b = some (.own a)) → h.get? b = some u → h'.get? b = some u)
    (ho : ∀ b, H b = some (.own a) → H' b = some (.own a)) (ht : ∀ b xs, H b = some (.tup xs) → H' b = some (.tup xs)) : i5 P w H' h' a o := by
  induction o with
  | lst xs => obtain ⟨z, its, n, r, e⟩ := x; exact ⟨z, its, n, r, k _ _ (.inl rfl) e⟩
  | tup xs => obtain ⟨z, its, r, ob, e, c⟩ := x; exact ⟨z, its, r, ob, k _ _ (.inl rfl) e, c⟩
  | dK kvs => obtain ⟨z, y, vs, r, ob, es, ep, e, c⟩ := x; exact ⟨z, y, vs, r, ob, es, ep, k _ _ (.inl rfl) e, c⟩
  | dT kvs =>
    obtain ⟨z, y, xs, r, ob, es, ep, e, c⟩ := x
    exact ⟨z, y, xs, Paired.Lv r fun p q z => ⟨z.1, ht _ _ z.2.1, z.2.2⟩, ob, es, ep, k _ _ (.inl rfl) e, c⟩
  | set S n => obtain ⟨ob, es, ep, t, e, c⟩ := x; exact ⟨ob, es, ep, t, k _ _ (.inl rfl) e, c⟩
  | ins C dx fs =>
    obtain ⟨d, z, ne, e, mA, ⟨od, es, ep, e2, c⟩, r⟩ := x
    exact ⟨ho _ d, z, ne, k _ _ (.inl rfl) e, mA, ⟨od, es, ep, k _ _ (.inr d) e2, c⟩, r⟩
  | own y => obtain ⟨ob, e⟩ := x; exact ⟨ob, k _ _ (.inl rfl) e⟩
  | xd fs => obtain ⟨mA, ⟨od, es, ep, e, c⟩, r⟩ := x; exact ⟨mA, ⟨od, es, ep, k _ _ (.inl rfl) e, c⟩, r⟩
  | rng lo hi => obtain ⟨t, u, v, e⟩ := x; exact ⟨t, u, v, k _ _ (.inl rfl) e⟩
  | frz ob u ih => obtain ⟨e, q⟩ := x; exact ⟨k _ _ (.inl rfl) e, ih q⟩
  | tbl ps =>
    have e : h.get? a = some { cls := .none, data := .fields ps } := x
    show h'.get? a = some { cls := .none, data := .fields ps }
    exact k a _ (.inl rfl) e
  | met f y =>
    have e : h.get? a = some (PySem.W.methodObj (.ref f) (.ref y)) := x
    show h'.get? a = some (PySem.W.methodObj (.ref f) (.ref y))
    exact k a _ (.inl rfl) e
  | ext φ => obtain ⟨p, ⟨o, e⟩, st⟩ := x; exact ⟨st _ _ p fun o q => k _ _ (.inl rfl) q, ⟨o, k _ _ (.inl rfl) e⟩, st⟩
theorem HOk.lt (x : HOk P w H h) (e : H a = some o) : a < h.objs.size := (x a o e).lt
theorem HOk.fresh (x : HOk P w H h) (e : h.objs.size ≤ a) : H a = none := by
  cases q : H a with
  | none => rfl
  | some u => exact absurd (Nat.lt_of_lt_of_le (x.lt q) e) (Nat.lt_irrefl _)
theorem HOk.kept (x : HOk P w H h) (k : ∀ b u, h.get? b = some u → h'.get? b = some u) : HOk P w H h' := fun a o e =>
  (x a o e).u0 (fun b u _ q => k b u q) (fun _ q => q) fun _ _ q => q
theorem HOk.laid (x : HOk P w H h) (k : ∀ b u, h.get? b = some u → h'.get? b = some u) (hp : h.objs.size ≤ a) (new : i5 P w (upd H a o) h' a o) : HOk P w (upd H a o) h' := fun b u e => by
  have hn := x.fresh hp
  by_cases hb : b = a
  · subst hb; rw [bU] at e; cases e; exact new
  · rw [aZ hb] at e
    exact (x b u e).u0 (fun c v _ q => k c v q) (fun c q => by rw [aZ (aG q hn)]; exact q) fun c xs q => by rw [aZ (aG q hn)]; exact q
end
def Rd (H : Hp) (a : Addr) (u : HO) : Prop := H a = some u ∨ ∃ o, H a = some (.frz o u)
theorem Rd.of {H : Hp} {a : Addr} {u : HO} (h : H a = some u) : Rd H a u := .inl h
theorem Rd.ok {P : Program} {w : World} {H : Hp} {h : Heap} {a : Addr} {u : HO} (r : Rd H a u) (x : HOk P w H h) : i5 P w H h a u := by
  rcases r with r | ⟨o, r⟩
  · exact x a u r
  · obtain ⟨_, q⟩ := x a _ r
    exact q
def Mut : Option HO → Prop
  | some (.lst _) => True
  | some (.dK _) => True
  | some (.dT _) => True
  | some (.set _ _) => True
  | some (.ins _ _ _) => True
  | some (.ext _) => True
  | _ => False
section
variable {P : Program} {w : World} {H : Hp} {h h' : Heap} {x e : Addr} {o' : HO}
theorem HOk.write (ok : HOk P w H h) (mu : Mut (H x)) (he : e = x ∨ H e = some (.own x)) (k : ∀ b u, b ≠ e → h.get? b = some u → h'.get? b = some u) (heo : ∃ u, h'.get? e = some u)
    (new : i5 P w (upd H x o') h' x o') : HOk P w (upd H x o') h' := fun b u q => by
  have nown : ∀ c y, H c = some (.own y) → c ≠ x := fun c y r z => by subst z; rw [r] at mu; exact mu
  have ntup : ∀ c xs, H c = some (.tup xs) → c ≠ x := fun c xs r z => by subst z; rw [r] at mu; exact mu
  by_cases hb : b = x
  · subst hb; rw [bU] at q; cases q; exact new
  · rw [aZ hb] at q
    by_cases hbe : b = e
    · have q' : H b = some (.own x) := by
        rcases he with z | z
        · exact absurd (hbe.trans z) hb
        · rw [hbe]; exact z
      rw [q] at q'; cases q'
      obtain ⟨v, hv⟩ := heo
      exact ⟨v, by rw [hbe]; exact hv⟩
    · refine (ok b u q).u0 (fun c v hc r => k c v ?_ r) (fun c r => by rw [aZ (nown c b r)]; exact r) fun c xs r => by rw [aZ (ntup c xs r)]; exact r
      rcases hc with rfl | hc
      · exact hbe
      · rintro rfl
        rcases he with z | z
        · exact nown c b hc z
        · rw [hc] at z; cases z; exact hb rfl
end
structure Un (fs ex : List Addr) (H H' : Hp) (h h' : Heap) : Prop where
  keep : ∀ b o, h.get? b = some o → H b = none → b ∉ fs → b ∉ ex → h'.get? b = some o
  slot : ∀ b o, h.get? b = some o → H b = none → b ∈ fs → b ∉ ex → ∃ sl, h'.get? b = some { o with slots := sl }
  free : ∀ b o, h.get? b = some o → H b = none → b ∉ ex → H' b = none
  there : ∀ b o, h.get? b = some o → b ∉ ex → ∃ o', h'.get? b = some o'
  nY : ∀ b xs, H b = some (.tup xs) → H' b = some (.tup xs)
  nc : ∀ b o u, H b = some (.frz o u) → H' b = some (.frz o u)
  mM : ∀ b ps, H b = some (.tbl ps) → ∃ more, H' b = some (.tbl (ps ++ more))
section
variable {fs fs' ex ex' : List Addr} {H H1 H2 : Hp} {h h1 h2 h' : Heap} {a x e : Addr} {o : HO}
theorem Un.any (u : Un fs ex H H1 h h1) {b : Addr} {ob : Obj} (q : h.get? b = some ob) (n : H b = none) (hx : b ∉ ex) : ∃ sl, h1.get? b = some { ob with slots := sl } := by
  by_cases hb : b ∈ fs
  · exact u.slot b ob q n hb hx
  · exact ⟨ob.slots, u.keep b ob q n hb hx⟩
theorem Un.trans (a : Un fs ex H H1 h h1) (b : Un fs ex H1 H2 h1 h2) : Un fs ex H H2 h h2 where
  keep := fun c ob q n hc hx => b.keep c ob (a.keep c ob q n hc hx) (a.free c ob q n hx) hc hx
  slot := fun c ob q n hc hx => by
    obtain ⟨sl, e1⟩ := a.slot c ob q n hc hx
    obtain ⟨sl', e2⟩ := b.slot c _ e1 (a.free c ob q n hx) hc hx
    exact ⟨sl', e2⟩
  free := fun c ob q n hx => by
    obtain ⟨o', e1⟩ := a.there c ob q hx
    exact b.free c o' e1 (a.free c ob q n hx) hx
  there := fun c ob q hx => by
    obtain ⟨o', e1⟩ := a.there c ob q hx
    exact b.there c o' e1 hx
  nY := fun c xs q => b.nY c xs (a.nY c xs q)
  nc := fun c ob xs q => b.nc c ob xs (a.nc c ob xs q)
  mM := fun c ps q => by
    obtain ⟨m1, e1⟩ := a.mM c ps q
    obtain ⟨m2, e2⟩ := b.mM c _ e1
    exact ⟨m1 ++ m2, by rw [e2, Array.append_assoc]⟩
theorem Un.kept (k : ∀ b u, h.get? b = some u → h'.get? b = some u) : Un fs ex H H h h' :=
  ⟨fun b ob q _ _ _ => k b ob q, fun b ob q _ _ _ => ⟨ob.slots, k b ob q⟩, fun _ _ _ n _ => n, fun b ob q _ => ⟨ob, k b ob q⟩, fun _ _ q => q, fun _ _ _ q => q, fun _ ps q => ⟨#[], by rw [q]; simp⟩⟩
theorem Un.refl : Un fs ex H H h h := Un.kept fun _ _ q => q
theorem Un.laid (k : ∀ b u, h.get? b = some u → h'.get? b = some u) (hp : h.objs.size ≤ a) (hn : H a = none) : Un fs ex H (upd H a o) h h' where
  keep := fun b u q _ _ _ => k b u q
  slot := fun b u q _ _ _ => ⟨u.slots, k b u q⟩
  free := fun b u q n _ => by rw [aZ (Nat.ne_of_lt (Nat.lt_of_lt_of_le (Heap.lt_size q) hp))]; exact n
  there := fun b u q _ => ⟨u, k b u q⟩
  nY := fun b xs q => by rw [aZ (aG q hn)]; exact q
  nc := fun b u xs q => by rw [aZ (aG q hn)]; exact q
  mM := fun b ps q => ⟨#[], by rw [aZ (aG q hn), q]; simp⟩
theorem Un.write (mu : Mut (H x)) (he : e = x ∨ H e = some (.own x)) (k : ∀ b u, b ≠ e → h.get? b = some u → h'.get? b = some u) (heo : ∃ u, h'.get? e = some u) : Un fs ex H (upd H x o) h h' := by
  have hx : ∀ b, H b = none → b ≠ x := fun b n z => by subst z; rw [n] at mu; exact mu
  have hb : ∀ b, H b = none → b ≠ e := fun b n z => by
    subst z
    rcases he with r | r
    · exact hx b n r
    · rw [n] at r; cases r
  have hm : ∀ b u, H b = some u → ¬ Mut (some u) → b ≠ x := fun b u q nm z => by subst z; rw [q] at mu; exact nm mu
  refine ⟨fun b u q n _ _ => k b u (hb b n) q, fun b u q n _ _ => ⟨u.slots, k b u (hb b n) q⟩, fun b u q n _ => by rw [aZ (hx b n)]; exact n, fun b u q _ => ?_,
    fun b xs q => by rw [aZ (hm b _ q fun z => z)]; exact q, fun b u xs q => by rw [aZ (hm b _ q fun z => z)]; exact q, fun b ps q => ⟨#[], by rw [aZ (hm b _ q fun z => z), q]; simp⟩⟩
  by_cases hbe : b = e
  · subst hbe; exact heo
  · exact ⟨u, k b u hbe q⟩
theorem Un.mono (u : Un fs ex H H1 h h1) (hs : ∀ b ∈ fs, b ∈ fs') (hx : ∀ b ∈ ex, b ∈ ex') : Un fs' ex' H H1 h h1 :=
  ⟨fun b ob q n hb he => u.keep b ob q n (fun z => hb (hs b z)) fun z => he (hx b z), fun _ _ q n _ he => u.any q n fun z => he (hx _ z), fun b ob q n he => u.free b ob q n fun z => he (hx b z), fun b ob q he => u.there b ob q fun z => he (hx b z), u.nY, u.nc, u.mM⟩
end
def trk (h : Heap) (H : Hp) : List Addr := (List.range h.objs.size).filter fun a => (H a).isSome
def xY (h : Heap) (H : Hp) : Heap := PySem.W.hideAll h (trk h H)
theorem DU (h : Heap) (H : Hp) : (xY h H).objs.size = h.objs.size := PySem.W.hideAll_size _ _
theorem EB {h : Heap} {H : Hp} {b : Addr} {o : Obj} (e : h.get? b = some o) (n : H b = none) : (xY h H).get? b = some o :=
  PySem.W.hideAll_get _ e fun hm => by
    have q : (H b).isSome = true := (List.mem_filter.mp hm).2
    rw [n] at q; simp at q
theorem G0 {h : Heap} {H : Hp} {b : Addr} {o : Obj} (e : (xY h H).get? b = some o) : h.get? b = some o ∧ H b = none := by
  have e' : h.get? b = some o := PySem.W.of_hideAll (trk h H) e
  refine ⟨e', ?_⟩
  cases q : H b with
  | none => rfl
  | some x =>
    have hm : b ∈ trk h H := List.mem_filter.mpr ⟨List.mem_range.mpr (Heap.lt_size e'), by simp [q]⟩
    have z : (xY h H).get? b = none := PySem.W.hideAll_none (trk h H) hm
    rw [z] at e; cases e
def HM (g h : Heap) (L : Addr) : List (Addr × Obj) := (List.range h.objs.size).filterMap fun a => if a = L ∨ (g.get? a).isSome = true then none else (h.get? a).map fun o => (a, o)
def rest (g h : Heap) (L d : Addr) : List (Addr × Obj) := (HM g h L).filter fun p => decide (p.1 ≠ d)
end L2
namespace L2
open PySem PySem.Spec PyProof.Rows
structure Mod (K : PySem.W.Frag) (mg : Str → Option Value) (base : Heap) : Prop where
  kin : K.In base
  glob : base.Ns mainGlobals mg
  blt : ∃ mb, base.Ns builtinsNs mb ∧ ∀ x : Str, x ≠ "__name__" → mb x = bootBuiltins x
  nolimit : base.NoLimit
structure Cx where
  prog : Program
  w : World
  K : PySem.W.Frag
  mg : Str → Option Value
  base : Heap
  A : Around
  N : List Str
  s₀ : Shared
  H₀ : Hp
  env : Env
  outer : List Env
  stack : List Env
  ex : List Addr
  fn : Str → Bool
  calm : Bool
  pn : List (Addr × Obj)
  xe : Value → Shared → Prop
def frs (l : List Env) : List Addr := l.filterMap (·.frame)
abbrev Cx.fs (X : Cx) : List Addr := frs X.outer
def Vis (sc : Scope) (x : Str) : Prop := sc.names.lookup x = some .local ∨ sc.names.lookup x = some .cell ∨ sc.names.lookup x = some .free
def Loc (sc : Scope) (x : Str) : Prop := sc.names.lookup x = some .local ∨ sc.names.lookup x = some .cell
def Look (env : Env) (h : Heap) (m : Str → Option Value) (x : Str) (u : Value) : Prop :=
  (env.kindOf x = some .local ∧ m x = some u) ∨ ((env.kindOf x = some .cell ∨ env.kindOf x = some .free) ∧ ∃ c, env.cells.lookup x = some c ∧ h.IsCell c (some u))
structure Cx.Ok (X : Cx) : Prop where
  mod : Mod X.K X.mg X.base
  kind : X.env.scope.kind = .function
  glob : X.env.globals = mainGlobals
  blt : X.env.builtins = builtinsNs
  above : X.s₀.heap.objs.size ≤ X.env.locals
  inj : ∀ x y c, X.env.cells.lookup x = some c → X.env.cells.lookup y = some c → x = y
  has : ∀ x, (X.env.kindOf x = some .cell ∨ X.env.kindOf x = some .free) → ∃ c, X.env.cells.lookup x = some c
  cab : ∀ x c, X.fn x = true → X.env.cells.lookup x = some c → X.s₀.heap.objs.size ≤ c
  hd : X.calm = true → X.A.handled = none
  qt : X.A.handled = none ∨ ∃ (e : Addr) (oe : Obj) (vs : Array Value), X.A.handled = some (.ref e) ∧ (e, oe) ∈ X.pn ∧ oe.data = .fields vs ∧ vs[2]? = some .none
  frames : X.A.frames = some X.stack
  stk : X.stack = X.outer ∨ (X.stack = X.env :: X.outer ∧ X.env.frame = some X.env.locals)
  exf : ∀ b ∈ X.ex, b ≠ X.env.locals ∧ ∀ x c, X.env.cells.lookup x = some c → c ≠ b
  bs : ∀ b o, X.base.get? b = some o → X.s₀.heap.get? b = some o ∧ X.H₀ b = none
  bsz : X.base.objs.size ≤ X.s₀.heap.objs.size
  B8 : ∀ b o, X.base.get? b = some o → b ∉ X.ex
  Gn : ∀ b ∈ X.ex, b ∉ X.fs
  oY : X.s₀.heap.FunFrames X.base X.outer
  frf : ∀ b ∈ X.fs, X.H₀ b = none
structure Inv (X : Cx) (pins : List (Addr × Obj)) (σ : List (Option V)) (H : Hp) (s : Shared) : Prop where
  ok : X.Ok
  os : s.os = X.s₀.os
  bare : AllBare s.gens
  base : Un X.fs X.ex X.H₀ H X.s₀.heap s.heap
  loc : ∃ m, s.heap.Ns X.env.locals m ∧ ∀ (i : Nat) (x : Str) (v : V), X.N[i]? = some x → σ[i]? = some (some v) → Vis X.env.scope x → ∃ u, RelV v u ∧ Look X.env s.heap m x u
  cell : ∀ x c, X.env.cells.lookup x = some c → ∃ v, s.heap.IsCell c v
  free : H X.env.locals = none
  gI : ∀ x c, X.env.cells.lookup x = some c → H c = none
  pin : ∀ p ∈ X.pn ++ pins, s.heap.get? p.1 = some p.2 ∧ H p.1 = none ∧ p.1 ≠ X.env.locals ∧ p.1 ∉ X.fs ∧ ∀ v, p.2.data ≠ .cell v
  hok : HOk X.prog X.w H s.heap
  len : σ.length = X.N.length
section
variable {X : Cx} {pins : List (Addr × Obj)} {σ : List (Option V)} {H H' : Hp} {s : Shared} {h' : Heap}
theorem Inv.Gg (I : Inv X pins σ H s) : iq X.A s.heap := by
  rcases I.ok.qt with q | ⟨e, oe, vs, q, hp, r⟩
  · exact .inl q
  · exact .inr ⟨e, oe, vs, q, (I.pin (e, oe) (List.mem_append_left _ hp)).1, r⟩
theorem Inv.hne (I : Inv X pins σ H s) {b : Addr} (hb : ∀ p ∈ X.pn ++ pins, p.1 ≠ b) : ∀ e, X.A.handled = some (.ref e) → e ≠ b := fun e he => by
  rcases I.ok.qt with q | ⟨e1, oe, vs, q, hp, r⟩
  · rw [q] at he; cases he
  · rw [q] at he; cases he; exact hb (e, oe) (List.mem_append_left _ hp)
theorem Cx.Ok.Mo (ok : X.Ok) {b : Addr} {o : Obj} (e : X.base.get? b = some o) : b ∉ X.fs := fun hb => by
  have := (ok.oY.mem hb).1
  rw [e] at this; cases this
theorem Inv.bs (I : Inv X pins σ H s) : ∀ b o, X.base.get? b = some o → s.heap.get? b = some o ∧ H b = none := fun b o e =>
  ⟨I.base.keep b o (I.ok.bs b o e).1 (I.ok.bs b o e).2 (I.ok.Mo e) (I.ok.B8 b o e), I.base.free b o (I.ok.bs b o e).1 (I.ok.bs b o e).2 (I.ok.B8 b o e)⟩
theorem Inv.bk (I : Inv X pins σ H s) : ∀ b o, X.base.get? b = some o → s.heap.get? b = some o := fun b o e => (I.bs b o e).1
theorem Inv.mod (I : Inv X pins σ H s) : Mod X.K X.mg X.base := I.ok.mod
theorem Inv.kIn (I : Inv X pins σ H s) : X.K.In s.heap := I.ok.mod.kin.keeps I.bk
theorem Inv.fr (I : Inv X pins σ H s) : ∃ m, Fr X.base X.env.locals s.heap m :=
  let ⟨m, hn, _⟩ := I.loc
  ⟨m, hn, I.bk, Nat.le_trans I.ok.bsz I.ok.above⟩
theorem Inv.lt (I : Inv X pins σ H s) : X.env.locals < s.heap.objs.size := let ⟨_, hn, _⟩ := I.loc; hn.lt
theorem Inv.sz (I : Inv X pins σ H s) : X.s₀.heap.objs.size ≤ s.heap.objs.size := Nat.le_trans I.ok.above (Nat.le_of_lt I.lt)
theorem Inv.Ml (I : Inv X pins σ H s) {a : Addr} (h : s.heap.objs.size ≤ a) : a ∉ X.fs := fun hb => by
  obtain ⟨_, o, ho, _⟩ := I.ok.oY.mem hb
  exact absurd (Nat.lt_of_lt_of_le (Heap.lt_size ho) (Nat.le_trans I.sz h)) (Nat.lt_irrefl _)
theorem Inv.cne (I : Inv X pins σ H s) : ∀ x c, X.env.cells.lookup x = some c → c ≠ X.env.locals := fun x c e z => by
  obtain ⟨v, o, ho, hd⟩ := I.cell x c e
  obtain ⟨m, ⟨o', es, ep, ho', hd', _⟩, _⟩ := I.loc
  rw [z, ho'] at ho; cases ho; rw [hd'] at hd; cases hd
theorem Inv.oY (I : Inv X pins σ H s) : s.heap.FunFrames X.base X.outer := by
  have all : ∀ (l : List Env), (∀ b ∈ frs l, b ∈ X.fs) → X.s₀.heap.FunFrames X.base l → s.heap.FunFrames X.base l := by
    intro l
    induction l with
    | nil => intro _ _; trivial
    | cons env r ih =>
      intro hs hl
      obtain ⟨hk, ⟨L, o, hf, hn, ho, hd⟩, hr⟩ := hl
      have hL : L ∈ X.fs := hs L (by unfold frs; rw [List.filterMap_cons, hf]; exact List.mem_cons_self)
      obtain ⟨sl, e⟩ := I.base.slot L o ho (I.ok.frf L hL) hL fun z => I.ok.Gn L z hL
      exact ⟨hk, ⟨L, _, hf, hn, e, hd⟩, ih (fun b hb => hs b (by unfold frs; rw [List.filterMap_cons, hf]; exact List.mem_cons_of_mem _ hb)) hr⟩
  exact all X.outer (fun _ hb => hb) I.ok.oY
theorem Inv.stack (I : Inv X pins σ H s) : s.heap.FunFrames X.base X.stack := by
  rcases I.ok.stk with e | ⟨e, hf⟩
  · rw [e]; exact I.oY
  · rw [e]
    obtain ⟨m, hn, _⟩ := I.loc
    refine .cons (by rw [I.ok.kind]; decide) hf hn ?_ I.oY
    exact Heap.get?_none_of_le (Nat.le_trans I.ok.bsz I.ok.above)
theorem Inv.sG (I : Inv X pins σ H s) : ∀ b ∈ frs X.stack, b ∈ X.env.locals :: X.fs := fun b hb => by
  rcases I.ok.stk with e | ⟨e, hf⟩
  · rw [e] at hb; exact List.mem_cons_of_mem _ hb
  · rw [e] at hb
    unfold frs at hb
    rw [List.filterMap_cons, hf] at hb
    exact hb
theorem Inv.uv (I : Inv X pins σ H s) : ∀ b ∈ frs X.stack, H b = none := fun b hb => by
  rcases List.mem_cons.mp (I.sG b hb) with e | hb
  · rw [e]; exact I.free
  · obtain ⟨_, o, ho, _⟩ := I.ok.oY.mem hb
    exact I.base.free b o ho (I.ok.frf b hb) fun z => I.ok.Gn b z hb
theorem Inv.step {g' : Array GenState} {t' : Nat} {d' : Drawn} {ch : List Addr} (I : Inv X pins σ H s)
    (hch : ∀ b ∈ ch, (b ∈ X.ex ∨ X.s₀.heap.objs.size ≤ b) ∧ b ≠ X.env.locals ∧ (∀ x c, X.env.cells.lookup x = some c → c ≠ b) ∧ ∀ p ∈ X.pn ++ pins, p.1 ≠ b)
    (keep : ∀ b o, b ≠ X.env.locals → b ∉ X.fs → b ∉ ch → s.heap.get? b = some o → H b = none → h'.get? b = some o)
    (slot : ∀ b o, b ≠ X.env.locals → b ∈ X.fs → b ∉ ch → s.heap.get? b = some o → H b = none → ∃ sl, h'.get? b = some { o with slots := sl }) (free : ∀ b o, b ∉ ch → s.heap.get? b = some o → H b = none → H' b = none)
    (there : ∀ b o, b ∉ ch → s.heap.get? b = some o → ∃ o', h'.get? b = some o')
    (nY : ∀ b xs, H b = some (.tup xs) → H' b = some (.tup xs)) (nc : ∀ b o u, H b = some (.frz o u) → H' b = some (.frz o u)) (mM : ∀ b ps, H b = some (.tbl ps) → ∃ more, H' b = some (.tbl (ps ++ more)))
    (ns : ∀ m, s.heap.Ns X.env.locals m → h'.Ns X.env.locals m) (hok : HOk X.prog X.w H' h') (hg : AllBare g') :
    Inv X pins σ H' { s with heap := h', gens := g', drawn := d', toks := t' } := by
  have neL : ∀ b o, X.s₀.heap.get? b = some o → b ≠ X.env.locals := fun b o e => Nat.ne_of_lt (Nat.lt_of_lt_of_le (Heap.lt_size e) I.ok.above)
  have neC : ∀ b o, X.s₀.heap.get? b = some o → b ∉ X.ex → b ∉ ch := fun b o e hx hb => by
    rcases (hch b hb).1 with z | z
    · exact hx z
    · exact absurd (Nat.lt_of_lt_of_le (Heap.lt_size e) z) (Nat.lt_irrefl _)
  have cellK : ∀ x c, X.env.cells.lookup x = some c → ∀ v, s.heap.IsCell c v → h'.IsCell c v := fun x c e v ⟨o, ho, hd⟩ => by
    have nch : c ∉ ch := fun z => (hch c z).2.2.1 x c e rfl
    by_cases hc : c ∈ X.fs
    · obtain ⟨sl, q⟩ := slot c o (I.cne x c e) hc nch ho (I.gI x c e)
      exact ⟨_, q, hd⟩
    · exact ⟨o, keep c o (I.cne x c e) hc nch ho (I.gI x c e), hd⟩
  refine ⟨I.ok, I.os, hg, ⟨fun b o e n hb hx => ?_, fun b o e n hb hx => ?_, fun b o e n hx => ?_, fun b o e hx => ?_, fun b xs e => nY b xs (I.base.nY b xs e), fun b o xs e => nc b o xs (I.base.nc b o xs e), fun b ps e => ?_⟩, ?_, fun x c e => ?_, ?_, fun x c e => ?_, fun p hp => ?_, hok, I.len⟩
  · exact keep b o (neL b o e) hb (neC b o e hx) (I.base.keep b o e n hb hx) (I.base.free b o e n hx)
  · obtain ⟨sl, e1⟩ := I.base.slot b o e n hb hx
    obtain ⟨sl', e2⟩ := slot b _ (neL b o e) hb (neC b o e hx) e1 (I.base.free b o e n hx)
    exact ⟨sl', e2⟩
  · obtain ⟨o', e1⟩ := I.base.there b o e hx
    exact free b o' (neC b o e hx) e1 (I.base.free b o e n hx)
  · obtain ⟨o', e1⟩ := I.base.there b o e hx
    exact there b o' (neC b o e hx) e1
  · obtain ⟨m1, e1⟩ := I.base.mM b ps e
    obtain ⟨m2, e2⟩ := mM b _ e1
    exact ⟨m1 ++ m2, by rw [e2, Array.append_assoc]⟩
  · obtain ⟨m, hn, hl⟩ := I.loc
    refine ⟨m, ns m hn, fun i x v e1 e2 e3 => ?_⟩
    obtain ⟨u, r, l⟩ := hl i x v e1 e2 e3
    refine ⟨u, r, ?_⟩
    rcases l with l | ⟨k, c, e, z⟩
    · exact .inl l
    · exact .inr ⟨k, c, e, cellK x c e _ z⟩
  · obtain ⟨v, z⟩ := I.cell x c e
    exact ⟨v, cellK x c e v z⟩
  · obtain ⟨m, ⟨o, _, _, ho, _⟩, _⟩ := I.loc
    exact free _ o (fun z => (hch _ z).2.1 rfl) ho I.free
  · obtain ⟨v, o, ho, hd⟩ := I.cell x c e
    exact free c o (fun z => (hch c z).2.2.1 x c e rfl) ho (I.gI x c e)
  · obtain ⟨e, n, ne, nf, d⟩ := I.pin p hp
    have nch : p.1 ∉ ch := fun z => (hch p.1 z).2.2.2 p hp rfl
    exact ⟨keep p.1 p.2 ne nf nch e n, free p.1 p.2 nch e n, ne, nf, d⟩
theorem Inv.un {t' : Nat} (I : Inv X pins σ H s) (u : Un X.fs [] H H' s.heap h') (hok : HOk X.prog X.w H' h') : Inv X pins σ H' { s with heap := h', toks := t' } := by
  obtain ⟨m, ⟨o, es, ep, ho, r⟩, _⟩ := id I.loc
  obtain ⟨sl, hL⟩ := u.any ho I.free (by simp)
  exact I.step (g' := s.gens) (d' := s.drawn) (ch := []) (fun _ z => nomatch z) (fun b o _ hb _ e n => u.keep b o e n hb (by simp)) (fun b o _ hb _ e n => u.slot b o e n hb (by simp)) (fun b o _ e n => u.free b o e n (by simp)) (fun b o _ e => u.there b o e (by simp)) u.nY u.nc u.mM (fun m' hm => by
    obtain ⟨o', es', ep', ho', r'⟩ := hm
    rw [ho] at ho'; cases ho'
    exact ⟨_, es', ep', hL, r'⟩) hok I.bare
theorem Inv.call {g' : Array GenState} {t' : Nat} {d' : Drawn} {ch : List Addr} (I : Inv X pins σ H s) (u : Un (frs X.stack) ch H H' s.heap h') (hok : HOk X.prog X.w H' h') (hg : AllBare g')
    (hch : ∀ b ∈ ch, (b ∈ X.ex ∨ X.s₀.heap.objs.size ≤ b) ∧ b ≠ X.env.locals ∧ (∀ x c, X.env.cells.lookup x = some c → c ≠ b) ∧ ∀ p ∈ X.pn ++ pins, p.1 ≠ b) :
    Inv X pins σ H' { s with heap := h', gens := g', drawn := d', toks := t' } := by
  obtain ⟨m, ⟨o, es, ep, ho, r⟩, _⟩ := id I.loc
  obtain ⟨sl, hL⟩ := u.any ho I.free fun z => (hch _ z).2.1 rfl
  exact I.step (ch := ch) hch (fun b o hL hb hc e n => u.keep b o e n (fun z => (List.mem_cons.mp (I.sG b z)).elim hL hb) hc) (fun b o _ _ hc e n => u.any e n hc) (fun b o hc e n => u.free b o e n hc) (fun b o hc e => u.there b o e hc) u.nY u.nc u.mM (fun m' hm => by
    obtain ⟨o', es', ep', ho', r'⟩ := hm
    rw [ho] at ho'; cases ho'
    exact ⟨_, es', ep', hL, r'⟩) hok hg
theorem Inv.turned {t' : Nat} {it : Addr} (I : Inv X pins σ H s) (k : ∀ b o, b ≠ it → s.heap.get? b = some o → h'.get? b = some o) (hn : H it = none) (hL : it ≠ X.env.locals)
    (h1 : it ∈ X.ex ∨ X.s₀.heap.objs.size ≤ it) (h2 : ∀ x c, X.env.cells.lookup x = some c → c ≠ it) (h3 : ∀ p ∈ X.pn ++ pins, p.1 ≠ it) : Inv X pins σ H { s with heap := h', toks := t' } := by
  have nit : ∀ b u, H b = some u → b ≠ it := fun b u e z => by rw [z, hn] at e; cases e
  refine I.step (g' := s.gens) (d' := s.drawn) (ch := [it]) (fun b hb => ?_) (fun b o _ _ hc e _ => k b o (fun z => hc (by simp [z])) e) (fun b o _ _ hc e _ => ⟨o.slots, k b o (fun z => hc (by simp [z])) e⟩) (fun _ _ _ _ n => n)
    (fun b o hc e => ⟨o, k b o (fun z => hc (by simp [z])) e⟩) (fun _ _ e => e) (fun _ _ _ e => e) (fun b ps e => ⟨#[], by rw [e]; simp⟩) (fun m hm => ?_) (fun b u e => ?_) I.bare
  · have e : b = it := by simpa using hb
    subst e
    exact ⟨h1, hL, h2, h3⟩
  · obtain ⟨o, es, ep, ho, r⟩ := hm
    exact ⟨o, es, ep, k _ o (Ne.symm hL) ho, r⟩
  · refine (I.hok b u e).u0 (fun c v hc q => k c v ?_ q) (fun _ q => q) fun _ _ q => q
    rcases hc with z | z
    · rw [z]; exact nit b u e
    · exact nit c _ z
theorem Inv.tok (I : Inv X pins σ H s) (t : Nat) : Inv X pins σ H { s with toks := t } := I.un (h' := s.heap) (t' := t) Un.refl I.hok
theorem Inv.kept {t' : Nat} (I : Inv X pins σ H s) (k : ∀ b u, s.heap.get? b = some u → h'.get? b = some u) : Inv X pins σ H { s with heap := h', toks := t' } := I.un (Un.kept k) (I.hok.kept k)
theorem Inv.laid {a : Addr} {o : HO} {t' : Nat} (I : Inv X pins σ H s) (k : ∀ b u, s.heap.get? b = some u → h'.get? b = some u) (hp : s.heap.objs.size ≤ a) (new : i5 X.prog X.w (upd H a o) h' a o) :
    Inv X pins σ (upd H a o) { s with heap := h', toks := t' } := I.un (Un.laid k hp (I.hok.fresh hp)) (I.hok.laid k hp new)
theorem Inv.write {x e : Addr} {o : HO} {t' : Nat} (I : Inv X pins σ H s) (mu : Mut (H x)) (he : e = x ∨ H e = some (.own x)) (k : ∀ b u, b ≠ e → s.heap.get? b = some u → h'.get? b = some u) (heo : ∃ u, h'.get? e = some u)
    (new : i5 X.prog X.w (upd H x o) h' x o) : Inv X pins σ (upd H x o) { s with heap := h', toks := t' } := I.un (Un.write mu he k heo) (I.hok.write mu he k heo new)
theorem Inv.C5 {pins' : List (Addr × Obj)} (I : Inv X pins σ H s) (h : ∀ p ∈ pins', s.heap.get? p.1 = some p.2 ∧ H p.1 = none ∧ p.1 ≠ X.env.locals ∧ p.1 ∉ X.fs ∧ ∀ v, p.2.data ≠ .cell v) : Inv X pins' σ H s :=
  ⟨I.ok, I.os, I.bare, I.base, I.loc, I.cell, I.free, I.gI, fun p hp => (List.mem_append.mp hp).elim (fun z => I.pin p (List.mem_append_left _ z)) (h p), I.hok, I.len⟩
theorem AU {N : List Str} (hN : N.Nodup) {i j : Nat} {x : Str} (a : N[i]? = some x) (b : N[j]? = some x) : i = j := by
  obtain ⟨h1, e1⟩ := List.getElem?_eq_some_iff.mp a
  obtain ⟨h2, e2⟩ := List.getElem?_eq_some_iff.mp b
  exact (List.getElem_inj hN).mp (e1.trans e2.symm)
theorem DJ {M : Model} {A : Around} {E : Value → Shared → Prop} {i : Nat} {x : Str} {v : V} {u : Value} {Q : Unit → Shared → Prop} (I : Inv X pins σ H s) (hN : X.N.Nodup) (hi : X.N[i]? = some x) (hx : Loc X.env.scope x) (r : RelV v u)
    (h : ∀ s', Inv X pins (σ.set i (some v)) H s' → (∃ a, Heap.SameBut a s.heap s'.heap ∧ (a = X.env.locals ∨ X.env.cells.lookup x = some a)) → Q () s') (hf : X.fn x = true ∨ X.env.scope.names.lookup x = some .local := by first | exact .inl rfl | exact .inr rfl | assumption) : wpAny M A (storeName X.env x u) Q E s := by
  obtain ⟨m, hn, hl⟩ := id I.loc
  have hcls : (X.env.scope.kind == .class || (X.env.scope.kind == .module && X.env.locals != X.env.globals)) = false := by rw [I.ok.kind]; rfl
  have hiσ : i < σ.length := by rw [I.len]; exact (List.getElem?_eq_some_iff.mp hi).1
  have cne := I.cne
  have tracked : ∀ {a : Addr} {h' : Heap}, (∃ o, s.heap.get? a = some o ∧ H a = none) → Heap.SameBut a s.heap h' → HOk X.prog X.w H h' := fun {a h'} ha hs b ob e => by
    obtain ⟨_, _, hfree⟩ := ha
    refine (I.hok b ob e).u0 (fun c w' hc q => (hs.2 c ?_).trans q) (fun _ q => q) fun _ _ q => q
    rintro rfl
    rcases hc with rfl | hc
    · rw [hfree] at e; cases e
    · rw [hfree] at hc; cases hc
  rcases hx with hk | hk
  · refine wpAny_storeName_local hk hn (fun h' hn' hs => ?_) hcls
    obtain ⟨oL, _, _, hoL, _⟩ := id hn
    refine h _ ⟨I.ok, I.os, I.bare, ⟨fun b o e n hb hx => ?_, fun b o e n hb hx => ?_, I.base.free, fun b o e hx => ?_, I.base.nY, I.base.nc, I.base.mM⟩, ⟨_, hn', fun j y v' e1 e2 e3 => ?_⟩, fun y c e => ?_, I.free, I.gI, fun p hp => ?_, tracked ⟨oL, hoL, I.free⟩ hs, by simpa using I.len⟩ ⟨_, hs, .inl rfl⟩
    · exact (hs.2 b (Nat.ne_of_lt (Nat.lt_of_lt_of_le (Heap.lt_size e) I.ok.above))).trans (I.base.keep b o e n hb hx)
    · obtain ⟨sl, e1⟩ := I.base.slot b o e n hb hx
      exact ⟨sl, (hs.2 b (Nat.ne_of_lt (Nat.lt_of_lt_of_le (Heap.lt_size e) I.ok.above))).trans e1⟩
    · obtain ⟨o', e1⟩ := I.base.there b o e hx
      exact ⟨o', (hs.2 b (Nat.ne_of_lt (Nat.lt_of_lt_of_le (Heap.lt_size e) I.ok.above))).trans e1⟩
    · by_cases hj : j = i
      · subst hj
        rw [hi] at e1; cases e1
        rw [List.getElem?_set_self hiσ] at e2
        cases e2
        exact ⟨u, r, .inl ⟨hk, by simp⟩⟩
      · rw [List.getElem?_set_ne (Ne.symm hj)] at e2
        obtain ⟨u', r', q⟩ := hl j y v' e1 e2 e3
        refine ⟨u', r', ?_⟩
        rcases q with ⟨k, e⟩ | ⟨k, c, e, z⟩
        · refine .inl ⟨k, ?_⟩
          have : y ≠ x := fun e => hj (AU hN e1 (e ▸ hi))
          simp [this, e]
        · exact .inr ⟨k, c, e, z.sameBut hs (cne y c e)⟩
    · obtain ⟨w', z⟩ := I.cell y c e
      exact ⟨w', z.sameBut hs (cne y c e)⟩
    · obtain ⟨e, n, ne, nf, d⟩ := I.pin p hp
      exact ⟨(hs.2 p.1 ne).trans e, n, ne, nf, d⟩
  · have hfn : X.fn x = true := by
      rcases hf with z | z
      · exact z
      · rw [z] at hk; cases hk
    obtain ⟨c, hc⟩ := I.ok.has x (.inl hk)
    obtain ⟨w', z⟩ := I.cell x c hc
    refine wpAny_storeName_cell I.ok.kind hk hc z (fun h' hc' hs => ?_)
    obtain ⟨oc, hoc, hocd⟩ := id z
    refine h { s with heap := h' } ⟨I.ok, I.os, I.bare, ⟨fun b o e n hb hx => ?_, fun b o e n hb hx => ?_, I.base.free, fun b o e hx => ?_, I.base.nY, I.base.nc, I.base.mM⟩, ⟨m, hn.sameBut hs (Ne.symm (cne x c hc)), fun j y v' e1 e2 e3 => ?_⟩, fun y c' e => ?_, I.free, I.gI, fun p hp => ?_, tracked ⟨oc, hoc, I.gI x c hc⟩ hs, by simpa using I.len⟩ ⟨c, hs, .inr hc⟩
    · exact (hs.2 b (Nat.ne_of_lt (Nat.lt_of_lt_of_le (Heap.lt_size e) (I.ok.cab x c hfn hc)))).trans (I.base.keep b o e n hb hx)
    · obtain ⟨sl, e1⟩ := I.base.slot b o e n hb hx
      exact ⟨sl, (hs.2 b (Nat.ne_of_lt (Nat.lt_of_lt_of_le (Heap.lt_size e) (I.ok.cab x c hfn hc)))).trans e1⟩
    · obtain ⟨o', e1⟩ := I.base.there b o e hx
      exact ⟨o', (hs.2 b (Nat.ne_of_lt (Nat.lt_of_lt_of_le (Heap.lt_size e) (I.ok.cab x c hfn hc)))).trans e1⟩
    · by_cases hj : j = i
      · subst hj
        rw [hi] at e1; cases e1
        rw [List.getElem?_set_self hiσ] at e2
        cases e2
        exact ⟨u, r, .inr ⟨.inl hk, c, hc, hc'⟩⟩
      · rw [List.getElem?_set_ne (Ne.symm hj)] at e2
        obtain ⟨u', r', q⟩ := hl j y v' e1 e2 e3
        refine ⟨u', r', ?_⟩
        rcases q with q | ⟨k, c', e, z'⟩
        · exact .inl q
        · refine .inr ⟨k, c', e, z'.sameBut hs ?_⟩
          rintro rfl
          exact hj (AU hN e1 (I.ok.inj _ _ _ e hc ▸ hi))
    · by_cases hcc : c' = c
      · subst hcc; exact ⟨_, hc'⟩
      · obtain ⟨w2, z2⟩ := I.cell y c' e
        exact ⟨w2, z2.sameBut hs hcc⟩
    · obtain ⟨e, n, ne, nf, d⟩ := I.pin p hp
      refine ⟨(hs.2 p.1 ?_).trans e, n, ne, nf, d⟩
      intro q
      rw [q, hoc] at e
      have q' : oc = p.2 := Option.some.inj e
      exact d w' (by rw [← q']; exact hocd)
theorem kO {M : Model} {A : Around} {E : Value → Shared → Prop} {i : Nat} {x : Str} {v : V} {u : Value} {Q : Unit → Shared → Prop} (I : Inv X pins σ H s) (hN : X.N.Nodup) (hi : X.N[i]? = some x) (hx : Loc X.env.scope x) (r : RelV v u)
    (h : ∀ s', Inv X pins (σ.set i (some v)) H s' → Q () s') (hf : X.fn x = true ∨ X.env.scope.names.lookup x = some .local := by first | exact .inl rfl | exact .inr rfl | assumption) : wpAny M A (storeName X.env x u) Q E s :=
  DJ I hN hi hx r (fun s' I' _ => h s' I') hf
theorem Inv.zD {s' : Shared} {ch : List Addr} (I : Inv X pins σ H s) (ho : s'.os = s.os) (u : Un (frs X.stack) ch H H' s.heap s'.heap) (hok : HOk X.prog X.w H' s'.heap) (hg : AllBare s'.gens)
    (hch : ∀ b ∈ ch, (b ∈ X.ex ∨ X.s₀.heap.objs.size ≤ b) ∧ b ≠ X.env.locals ∧ (∀ x c, X.env.cells.lookup x = some c → c ≠ b) ∧ ∀ p ∈ X.pn ++ pins, p.1 ≠ b) : Inv X pins σ H' s' := by
  obtain ⟨h', g', d', t', o'⟩ := s'
  have e : o' = s.os := ho
  subst e
  exact I.call (g' := g') (t' := t') (d' := d') u hok hg hch
end
abbrev XK := Value → Option Addr → Hp → Prop
abbrev St := List (Option V)
abbrev VK := V → Hp → Prop
abbrev TE := St → Hp → VK → Prop
abbrev TT := St → Hp → (Bool → Hp → Prop) → Prop
abbrev TA := St → Hp → (List V → Hp → Prop) → Prop
structure Ends where
  nx : St → Hp → Prop
  rt : VK
  bk : St → Hp → Prop := fun _ _ => False
  ct : St → Hp → Prop := fun _ _ => False
abbrev TS := Ends → St → Hp → Prop
def EP (X : Cx) (pins : List (Addr × Obj)) (σ : St) (Q : VK) (u : Value) (s' : Shared) : Prop := ∃ v H', Inv X pins σ H' s' ∧ RelV v u ∧ Q v H'
def TP (X : Cx) (pins : List (Addr × Obj)) (σ : St) (Q : Bool → Hp → Prop) (b : Bool) (s' : Shared) : Prop := ∃ H', Inv X pins σ H' s' ∧ Q b H'
def AP (X : Cx) (pins : List (Addr × Obj)) (σ : St) (Q : List V → Hp → Prop) (us : List Value) (s' : Shared) : Prop := ∃ vs H', Inv X pins σ H' s' ∧ Vals vs us ∧ Q vs H'
def SP (X : Cx) (pins : List (Addr × Obj)) (D : Ends) (f : Flow) (s' : Shared) : Prop :=
  match f with
  | .next => ∃ σ' H', Inv X pins σ' H' s' ∧ D.nx σ' H'
  | .brk => ∃ σ' H', Inv X pins σ' H' s' ∧ D.bk σ' H'
  | .cont => ∃ σ' H', Inv X pins σ' H' s' ∧ D.ct σ' H'
  | .ret u => ∃ v σ' H', Inv X pins σ' H' s' ∧ RelV v u ∧ D.rt v H'
def PE (X : Cx) (e : Expr) (t : TE) : Prop :=
  ∀ (pins : List (Addr × Obj)) (s : Shared) (σ : St) (H : Hp) (Q : VK), Inv X pins σ H s → t σ H Q → wpAny (model X.prog X.w) X.A (eval e X.env) (EP X pins σ Q) X.xe s
def PT (X : Cx) (e : Expr) (t : TT) : Prop :=
  ∀ (pins : List (Addr × Obj)) (s : Shared) (σ : St) (H : Hp) (Q : Bool → Hp → Prop), Inv X pins σ H s → t σ H Q → wpAny (model X.prog X.w) X.A (isTrue e X.env (eval e X.env)) (TP X pins σ Q) X.xe s
def PW (X : Cx) (e : Expr) (t : TT) : Prop :=
  ∀ (whole : Sem Value) (pins : List (Addr × Obj)) (s : Shared) (σ : St) (H : Hp) (Q : Bool → Hp → Prop), Inv X pins σ H s → t σ H Q → wpAny (model X.prog X.w) X.A (isTrue e X.env whole) (TP X pins σ Q) X.xe s
theorem PW.pt {X : Cx} {e : Expr} {t : TT} (h : PW X e t) : PT X e t := h _
def PA (X : Cx) (es : List Expr) (t : TA) : Prop :=
  ∀ (pos : Pos) (pins : List (Addr × Obj)) (s : Shared) (σ : St) (H : Hp) (Q : List V → Hp → Prop), Inv X pins σ H s → t σ H Q → wpAny (model X.prog X.w) X.A (spliced (backTo pos (starEach es X.env))) (AP X pins σ Q) X.xe s
def PS (X : Cx) (st : Stmt) (t : TS) : Prop :=
  ∀ (pins : List (Addr × Obj)) (s : Shared) (σ : St) (H : Hp) (D : Ends), Inv X pins σ H s → t D σ H → wpAny (model X.prog X.w) X.A (exec st X.env) (SP X pins D) X.xe s
def PSs (X : Cx) (st : List Stmt) (t : TS) : Prop :=
  ∀ (pins : List (Addr × Obj)) (s : Shared) (σ : St) (H : Hp) (D : Ends), Inv X pins σ H s → t D σ H → wpAny (model X.prog X.w) X.A (execs st X.env) (SP X pins D) X.xe s
theorem thn {α : Type} {t : Sem α} {Q Q' : α → Shared → Prop} {M : Model} {A : Around} {E : Value → Shared → Prop} {s : Shared} (h : wpAny M A t Q E s) (hQ : ∀ a s, Q a s → Q' a s) : wpAny M A t Q' E s := wpAny_mono h hQ fun _ _ x => x
end L2
namespace L2
open PySem PySem.Spec PyProof.Rows
section
variable {X : Cx}
theorem bin {a b : Expr} {ta tb : TE} (ha : PE X a ta) (hb : PE X b tb) {pins : List (Addr × Obj)} {s : Shared} {σ : St} {H : Hp} {R : V → V → Hp → Prop} (I : Inv X pins σ H s) (h : ta σ H fun x H1 => tb σ H1 fun y H2 => R x y H2)
    {α : Type} {Q : α → Shared → Prop} {f : Value → Value → Sem α}
    (hf : ∀ v u s2 x y H2, Inv X pins σ H2 s2 → RelV x v → RelV y u → R x y H2 → wpAny (model X.prog X.w) X.A (f v u) Q X.xe s2) :
    wpAny (model X.prog X.w) X.A (eval a X.env) (fun v s₁ => wpAny (model X.prog X.w) X.A (eval b X.env) (fun u s₂ => wpAny (model X.prog X.w) X.A (f v u) Q X.xe s₂) X.xe s₁) X.xe s := by
  refine thn (ha pins s σ H _ I h) fun v s1 ⟨x, H1, I1, r1, q1⟩ => ?_
  refine thn (hb pins s1 σ H1 _ I1 q1) fun u s2 ⟨y, H2, I2, r2, q2⟩ => ?_
  exact hf v u s2 x y H2 I2 r1 r2 q2
def JE (i : Nat) : TE := fun σ H Q => ∃ v, σ[i]? = some (some v) ∧ Q v H
def tC (v : V) : TE := fun _ H Q => Q v H
theorem Ci {i : Nat} {x : Str} {pos : Pos} (hN : X.N[i]? = some x) (hv : Vis X.env.scope x) (hd : (x == ("__debug__" : Str)) = false := by decide) (hcd : (x == ("__classdict__" : Str)) = false := by decide) : PE X (.Name x pos) (JE i) := by
  intro pins s σ H Q I h
  obtain ⟨v, e, h⟩ := h
  obtain ⟨m, hn, hl⟩ := I.loc
  obtain ⟨u, r, l⟩ := hl i x v hN e hv
  have fin : EP X pins σ Q u s := ⟨v, H, I, r, h⟩
  rcases l with ⟨hk, hm⟩ | ⟨hk, c, hc, hcell⟩
  · exact wpAny_Name (wpAny_loadName_local I.ok.kind hk hn hm fin) hd
  · rcases hk with hk | hk
    · exact wpAny_Name (wpAny_loadName_cell I.ok.kind hk hc hcell fin) hd
    · exact wpAny_Name (wpAny_loadName_free I.ok.kind hk hc hcell fin hcd) hd
theorem JI {i j pos} : PE X (.Constant (.int i) j pos) (tC (.int i)) := fun _ _ _ H _ I h => wpAny_Constant_int ⟨.int i, H, I.tok _, ⟨_, rfl⟩, h⟩
theorem LX {b j pos} : PE X (.Constant (.bool b) j pos) (tC (.bl b)) := fun _ _ _ H _ I h => Constant_bool ⟨.bl b, H, I, rfl, h⟩
theorem Kj {j pos} : PE X (.Constant .none j pos) (tC .non) := fun _ _ _ H _ I h => Constant_none ⟨.non, H, I, rfl, h⟩
theorem EG {x j pos} : PE X (.Constant (.str x) j pos) (tC (.str x)) := fun _ _ _ H _ I h => Calls.Constant_str ⟨.str x, H, I.tok _, ⟨_, rfl⟩, h⟩
def Gl (X : Cx) (x : Str) : Prop := X.env.kindOf x = some .globalImplicit
theorem nN {E : Value → Shared → Prop} {pins : List (Addr × Obj)} {s : Shared} {σ : St} {H : Hp} {x : Str} {u : Value} {pos : Pos} {Q : Value → Shared → Prop} (I : Inv X pins σ H s) (hg : Gl X x) (hm : X.mg x = some u) (h : Q u s)
    (hd : (x == ("__debug__" : Str)) = false := by decide) : wpAny (model X.prog X.w) X.A (eval (.Name x pos) X.env) Q E s :=
  Calls.Name_function_global I.ok.kind hg (Calls.loadGlobal_global (by rw [I.ok.glob]; exact I.mod.glob.keeps I.bk) hm h) hd
theorem vz {E : Value → Shared → Prop} {pins : List (Addr × Obj)} {s : Shared} {σ : St} {H : Hp} {x : Str} {u : Value} {pos : Pos} {Q : Value → Shared → Prop} (I : Inv X pins σ H s) (hg : Gl X x) (hm : X.mg x = none) (hv : bootBuiltins x = some u) (h : Q u s)
    (hn : x ≠ "__name__" := by decide) (hd : (x == ("__debug__" : Str)) = false := by decide) : wpAny (model X.prog X.w) X.A (eval (.Name x pos) X.env) Q E s := by
  obtain ⟨mb, h1, h2⟩ := I.mod.blt
  exact Calls.Name_function_global I.ok.kind hg (Calls.loadGlobal_builtin (by rw [I.ok.glob]; exact I.mod.glob.keeps I.bk) hm (by rw [I.ok.blt]; exact h1.keeps I.bk) ((h2 x hn).trans hv) h) hd
theorem Df {x : Str} {v : V} {u : Value} {pos : Pos} (hg : Gl X x) (hm : X.mg x = some u) (r : RelV v u) (hd : (x == ("__debug__" : Str)) = false := by decide) : PE X (.Name x pos) (tC v) :=
  fun _ _ _ H _ I h => nN I hg hm ⟨v, H, I, r, h⟩ hd
theorem CQ {x : Str} {v : V} {u : Value} {pos : Pos} (hg : Gl X x) (hm : X.mg x = none) (hv : bootBuiltins x = some u) (r : RelV v u) (hn : x ≠ "__name__" := by decide) (hd : (x == ("__debug__" : Str)) = false := by decide) : PE X (.Name x pos) (tC v) :=
  fun _ _ _ H _ I h => vz I hg hm hv ⟨v, H, I, r, h⟩ hn hd
variable {a b : Expr} {ta tb : TE} {pos : Pos}
def PC (X : Cx) (op : CmpOp) (a b : Expr) (t : TE) : Prop :=
  ∀ (pins : List (Addr × Obj)) (s : Shared) (σ : St) (H : Hp) (Q : VK), Inv X pins σ H s → t σ H Q →
    wpAny (model X.prog X.w) X.A (eval a X.env) (fun v s₁ => wpAny (model X.prog X.w) X.A (eval b X.env) (fun u s₂ => wpAny (model X.prog X.w) X.A (compareOp op v u) (EP X pins σ Q) X.xe s₂) X.xe s₁) X.xe s
theorem EC (b : Expr) {op : CmpOp} (h : op ≠ .In) (h2 : op ≠ .NotIn) : behindInMarks op b = false := by
  have e1 : (op == CmpOp.In) = false := by cases op <;> first | rfl | exact absurd rfl h
  have e2 : (op == CmpOp.NotIn) = false := by cases op <;> first | rfl | exact absurd rfl h2
  cases b <;> simp [behindInMarks, e1, e2]
def tB (t : TE) : TT := fun σ H Q => t σ H fun x H1 => ∃ c, x = .bl c ∧ Q c H1
theorem Mw {op : CmpOp} {t : TE} (h : PC X op a b t) (h1 : behindInMarks op b = false := by first | exact EC _ (by decide) (by decide) | rfl) : PT X (.Compare a [op] [b] pos) (tB t) := by
  intro pins s σ H Q I hw
  refine wpAny_isTrue_Compare1 (thn (h pins s σ H _ I hw) fun v s1 h1 => thn h1 fun u s2 h2 => thn h2 fun c s3 ⟨x, H1, I1, r1, q1⟩ => ?_) h1
  obtain ⟨d, rfl, q⟩ := q1
  cases r1
  exact wpAny_truthy_bool ⟨H1, I1, q⟩
theorem Kb {e : Expr} {t : TE} (h : PE X e t) (he : ∀ whole, isTrue e X.env whole = (do let v ← whole; standAt e.pos; holding [v] (truthy v)) := by intro _; rfl) : PT X e (tB t) := by
  intro pins s σ H Q I hw
  refine isTrue_plain (thn (h pins s σ H _ I hw) fun v s1 ⟨x, H1, I1, r1, q1⟩ => ?_) (he _)
  obtain ⟨d, rfl, q⟩ := q1
  cases r1
  exact wpAny_truthy_bool ⟨H1, I1, q⟩
variable {tA tB' : TT} {rest : List Expr}
def Mc (t u : TT) : TT := fun σ H Q => t σ H fun c H1 => if c = true then u σ H1 Q else Q false H1
def tOr (t u : TT) : TT := fun σ H Q => t σ H fun c H1 => if c = true then Q true H1 else u σ H1 Q
def Mp (t : TT) : TT := fun σ H Q => t σ H fun c H1 => Q (!c) H1
theorem pw_and1 (ha : PT X a tA) : PW X (.BoolOp .And [a] pos) tA := by
  intro wh pins s σ H Q I h
  refine isTrue_and (thn (ha pins s σ H Q I h) fun c s1 e => ?_)
  cases c with
  | true => exact isTrue_and_nil e
  | false => exact e
theorem pw_or1 (ha : PT X a tA) : PW X (.BoolOp .Or [a] pos) tA := by
  intro wh pins s σ H Q I h
  refine isTrue_or (thn (ha pins s σ H Q I h) fun c s1 e => ?_)
  cases c with
  | false => exact isTrue_or_nil e
  | true => exact e
theorem pw_and (ha : PT X a tA) (hb : PW X (.BoolOp .And (b :: rest) pos) tB') : PW X (.BoolOp .And (a :: b :: rest) pos) (Mc tA tB') := by
  intro wh pins s σ H Q I h
  refine isTrue_and (thn (ha pins s σ H _ I h) fun c s1 ⟨H1, I1, q1⟩ => ?_)
  cases c with
  | true => exact hb wh pins s1 σ H1 Q I1 q1
  | false => exact ⟨H1, I1, q1⟩
theorem pw_or (ha : PT X a tA) (hb : PW X (.BoolOp .Or (b :: rest) pos) tB') : PW X (.BoolOp .Or (a :: b :: rest) pos) (tOr tA tB') := by
  intro wh pins s σ H Q I h
  refine isTrue_or (thn (ha pins s σ H _ I h) fun c s1 ⟨H1, I1, q1⟩ => ?_)
  cases c with
  | true => exact ⟨H1, I1, q1⟩
  | false => exact hb wh pins s1 σ H1 Q I1 q1
theorem Ko (ha : PT X a tA) : PT X (.UnaryOp .Not a pos) (Mp tA) := by
  intro pins s σ H Q I h
  exact isTrue_not (ha pins s σ H (fun c H1 => Q (!c) H1) I h)
def KP (ta tb : TE) : TE := fun σ H Q => ta σ H fun x H1 => ∃ c, x = .bl c ∧ if c = true then tb σ H1 Q else Q (.bl false) H1
def LC (ta : TE) : TE := fun σ H Q => ta σ H fun x H1 => ∃ c, x = .bl c ∧ Q (.bl (!c)) H1
theorem Jv {op} {t : TE} (h : PE X a t) : PE X (.BoolOp op [a] pos) t := fun pins s σ H Q I hw => BoolOp_one (h pins s σ H Q I hw)
theorem KC (ha : PE X a ta) (hb : PE X (.BoolOp .And (b :: rest) pos) tb) : PE X (.BoolOp .And (a :: b :: rest) pos) (KP ta tb) := by
  intro pins s σ H Q I h
  refine BoolOp_and (thn (ha pins s σ H _ I h) fun v s1 ⟨x, H1, I1, r1, q1⟩ => ?_)
  obtain ⟨c, rfl, q1⟩ := q1
  cases r1
  refine wpAny_truthy_bool ?_
  cases c with
  | true => exact hb pins s1 σ H1 Q I1 q1
  | false => exact ⟨.bl false, H1, I1, rfl, q1⟩
theorem J1 (ha : PE X a ta) : PE X (.UnaryOp .Not a pos) (LC ta) := by
  intro pins s σ H Q I h
  refine UnaryOp_ (thn (ha pins s σ H _ I h) fun v s1 ⟨x, H1, I1, r1, q1⟩ => ?_)
  obtain ⟨c, rfl, q1⟩ := q1
  cases r1
  exact not_of (wpAny_truthy_bool ⟨.bl (!c), H1, I1, rfl, q1⟩)
def tIf (t : TT) (ta tb : TE) : TE := fun σ H Q => t σ H fun c H1 => if c = true then ta σ H1 Q else tb σ H1 Q
theorem EH {c : Expr} (hc : PT X c tA) (ha : PE X a ta) (hb : PE X b tb) : PE X (.IfExp c a b pos) (tIf tA ta tb) := by
  intro pins s σ H Q I h
  refine wpAny_IfExp (thn (hc pins s σ H _ I h) fun d s1 ⟨H1, I1, q1⟩ => ?_)
  cases d with
  | true => exact ha pins s1 σ H1 Q I1 q1
  | false => exact hb pins s1 σ H1 Q I1 q1
end
end L2
namespace L2
open PySem PySem.Spec PyProof.Rows
def SqL (K : PySem.W.Frag) (H : Hp) (a : Addr) (xs : List V) : Prop :=
  Rd H a (.lst xs) ∨
    ∃ (o : Obj) (its : Array Value) (n : Nat), K.lookup a = some o ∧ o.cls = .type "list" ∧ o.dict = none ∧ o.data = .seq its n ∧ its.size ≤ sizeLine ∧ Vals xs its.toList
def SqT (K : PySem.W.Frag) (H : Hp) (a : Addr) (xs : List V) : Prop :=
  Rd H a (.tup xs) ∨
    ∃ (o : Obj) (its : Array Value) (n : Nat), K.lookup a = some o ∧ o.cls = .type "tuple" ∧ o.data = .seq its n ∧ its.size ≤ sizeLine ∧ Vals xs its.toList
def MA : Value → Option V
  | .none => some .non
  | .bool b => some (.bl b)
  | .int i _ => some (.int i)
  | .str x _ => some (.str x)
  | .bytes b _ => some (.byt b)
  | .float b _ => some (.flt b)
  | .ref a => some (.ref a)
  | .type n => some (.ty n)
  | _ => none
theorem RelV.abs {x : V} {u : Value} (r : RelV x u) : MA u = some x := by
  cases x with
  | non => cases r; rfl
  | bl _ => cases r; rfl
  | int _ => obtain ⟨t, rfl⟩ := r; rfl
  | str _ => obtain ⟨t, rfl⟩ := r; rfl
  | byt _ => obtain ⟨t, rfl⟩ := r; rfl
  | flt _ => obtain ⟨t, rfl⟩ := r; rfl
  | ref _ => cases r; rfl
  | ty _ => cases r; rfl
theorem RelV.inj {x y : V} {u : Value} (r : RelV x u) (q : RelV y u) : x = y := Option.some.inj (r.abs.symm.trans q.abs)
theorem Vals.inj : ∀ {xs ys : List V} {us : List Value}, Vals xs us → Vals ys us → xs = ys
  | _, _, _, .nil, .nil => rfl
  | _, _, _, .cons r t, .cons r' t' => by rw [r.inj r', Vals.inj t t']
section
variable {X : Cx} {pins : List (Addr × Obj)} {σ : St} {H : Hp} {s : Shared} {a : Addr} {xs ys : List V}
theorem SqL.of {K : PySem.W.Frag} (h : H a = some (.lst xs)) : SqL K H a xs := .inl (.inl h)
theorem SqT.of {K : PySem.W.Frag} (h : H a = some (.tup xs)) : SqT K H a xs := .inl (.inl h)
theorem Inv.list (I : Inv X pins σ H s) (h : SqL X.K H a xs) : ∃ its : List Value, Vals xs its ∧ PlainL s.heap a its.toArray ∧ xs.length ≤ sizeLine := by
  rcases h with h | ⟨o, its, n, hk, hc, hd, hs, hz, r⟩
  · obtain ⟨z, its, n, r, e⟩ := h.ok I.hok
    exact ⟨its, r, ⟨_, n, e, rfl, rfl, rfl⟩, z⟩
  · refine ⟨its.toList, r, ⟨o, n, I.kIn a o hk, hc, hd, by simpa using hs⟩, ?_⟩
    have e := r.length
    simp only [Array.length_toList] at e
    omega
theorem Inv.tuple (I : Inv X pins σ H s) (h : SqT X.K H a xs) : ∃ its : List Value, Vals xs its ∧ IsTup s.heap a its.toArray ∧ xs.length ≤ sizeLine := by
  rcases h with h | ⟨o, its, n, hk, hc, hs, hz, r⟩
  · obtain ⟨z, its, r, p⟩ := h.ok I.hok
    exact ⟨its, r, p, z⟩
  · refine ⟨its.toList, r, ⟨o, I.kIn a o hk, hc, n, by simpa using hs⟩, ?_⟩
    have e := r.length
    simp only [Array.length_toList] at e
    omega
theorem Inv.FA (I : Inv X pins σ H s) (h : SqL X.K H a xs) (h' : SqL X.K H a ys) : xs = ys := by
  obtain ⟨its, r, ⟨o, n, e, _, _, d⟩, _⟩ := I.list h
  obtain ⟨its', r', ⟨o', n', e', _, _, d'⟩, _⟩ := I.list h'
  rw [e] at e'; cases e'
  rw [d] at d'
  injection d' with d1 _
  have : its = its' := by simpa using congrArg Array.toList d1
  subst this
  exact r.inj r'
end
abbrev Cx.uH (X : Cx) (E : Value → Shared → Prop) : Cx := { X with xe := E }
abbrev Cx.nox (X : Cx) : Cx := X.uH fun _ _ => False
theorem Cx.Ok.uH {X : Cx} (ok : X.Ok) (E : Value → Shared → Prop) : (X.uH E).Ok :=
  ⟨ok.mod, ok.kind, ok.glob, ok.blt, ok.above, ok.inj, ok.has, ok.cab, ok.hd, ok.qt, ok.frames, ok.stk, ok.exf, ok.bs, ok.bsz, ok.B8, ok.Gn, ok.oY, ok.frf⟩
theorem Cx.Ok.lB {X : Cx} {E : Value → Shared → Prop} (ok : (X.uH E).Ok) : X.Ok :=
  ⟨ok.mod, ok.kind, ok.glob, ok.blt, ok.above, ok.inj, ok.has, ok.cab, ok.hd, ok.qt, ok.frames, ok.stk, ok.exf, ok.bs, ok.bsz, ok.B8, ok.Gn, ok.oY, ok.frf⟩
section
variable {X : Cx} {pins : List (Addr × Obj)} {σ : St} {H : Hp} {s : Shared} {E : Value → Shared → Prop}
theorem Inv.uH (I : Inv X pins σ H s) (E : Value → Shared → Prop) : Inv (X.uH E) pins σ H s := ⟨I.ok.uH E, I.os, I.bare, I.base, I.loc, I.cell, I.free, I.gI, I.pin, I.hok, I.len⟩
theorem Inv.lB (I : Inv (X.uH E) pins σ H s) : Inv X pins σ H s := ⟨I.ok.lB, I.os, I.bare, I.base, I.loc, I.cell, I.free, I.gI, I.pin, I.hok, I.len⟩
theorem SP.lB {D : Ends} {f : Flow} {s' : Shared} (h : SP (X.uH E) pins D f s') : SP X pins D f s' := by
  cases f with
  | next => obtain ⟨σ', H', I, q⟩ := h; exact ⟨σ', H', I.lB, q⟩
  | brk => obtain ⟨σ', H', I, q⟩ := h; exact ⟨σ', H', I.lB, q⟩
  | cont => obtain ⟨σ', H', I, q⟩ := h; exact ⟨σ', H', I.lB, q⟩
  | ret u => obtain ⟨v, σ', H', I, r, q⟩ := h; exact ⟨v, σ', H', I.lB, r, q⟩
theorem PSs.nox {st : List Stmt} {t : TS} (h : PSs X.nox st t) : PSs X st t := fun pins s σ H D I hw =>
  wpAny_mono (h pins s σ H D (I.uH _) hw) (fun _ _ q => q.lB) fun _ _ z => False.elim z
end
section
variable {X : Cx} {st : Stmt} {rest : List Stmt} {t u : TS} {e : Expr} {te : TE} {pos : Pos}
def K7 : TS := fun D σ H => D.nx σ H
def KR (t u : TS) : TS := fun D σ H => t { D with nx := u D } σ H
theorem GR : PSs X [] K7 := fun _ _ σ H _ I h => wpAny_execs_nil ⟨σ, H, I, h⟩
theorem vv (h1 : PS X st t) (h2 : PSs X rest u) : PSs X (st :: rest) (KR t u) := by
  intro pins s σ H D I h
  refine wpAny_execs_cons (thn (h1 pins s σ H { D with nx := u D } I h) fun f s1 q => ?_)
  cases f with
  | next =>
    obtain ⟨σ', H', I', q⟩ := q
    exact h2 pins s1 σ' H' D I' q
  | ret v => exact q
  | brk => exact q
  | cont => exact q
theorem G1 (h1 : PS X st t) : PSs X [st] t := by
  intro pins s σ H D I h
  refine wpAny_execs_cons (thn (h1 pins s σ H D I h) fun f s1 q => ?_)
  cases f with
  | next => exact wpAny_execs_nil q
  | ret v => exact q
  | brk => exact q
  | cont => exact q
theorem Inv.quiet {pins : List (Addr × Obj)} {σ : St} {H : Hp} {s : Shared} (I : Inv X pins σ H s) : interactive X.env = false := by simp [interactive, I.ok.kind]
def Lm (te : TE) : TS := fun D σ H => te σ H fun _ H1 => D.nx σ H1
theorem C6 (he : PE X e te) (hs : swapsWith e none pos.line X.env = pure false := by rfl) : PS X (.Expr e pos) (Lm te) := by
  intro pins s σ H D I h
  exact wpAny_Expr_any (thn (he pins s σ H _ I h) fun v s1 ⟨x, H1, I1, r1, q1⟩ => ⟨σ, H1, I1, q1⟩) I.quiet hs
def Mi (te : TE) : TS := fun D σ H => te σ H D.rt
theorem Jd (he : PE X e te) : PS X (.Return (some e) pos) (Mi te) := by
  intro pins s σ H D I h
  exact wpAny_Return_some (thn (he pins s σ H _ I h) fun v s1 ⟨x, H1, I1, r1, q1⟩ => ⟨x, σ, H1, I1, r1, q1⟩)
def Mb (c : TT) (t u : TS) : TS := fun D σ H => c σ H fun b H1 => if b = true then t D σ H1 else u D σ H1
theorem Ii {c : Expr} {a b : List Stmt} {tc : TT} (hc : PT X c tc) (ha : PSs X a t) (hb : PSs X b u) : PS X (.If c a b pos) (Mb tc t u) := by
  intro pins s σ H D I h
  refine wpAny_If (thn (hc pins s σ H _ I h) fun d s1 ⟨H1, I1, q1⟩ => ?_)
  cases d with
  | true => exact ha pins s1 σ H1 D I1 q1
  | false => exact hb pins s1 σ H1 D I1 q1
def Jw : TS := fun _ _ _ => False
theorem xg {sts : List Stmt} : PSs X sts Jw := fun _ _ _ _ _ _ h => h.elim
end
abbrev TG := V → St → Hp → (St → Hp → Prop) → Prop
abbrev TGs := List V → St → Hp → (St → Hp → Prop) → Prop
def PG (X : Cx) (target : Expr) (t : TG) : Prop :=
  ∀ (pins : List (Addr × Obj)) (s : Shared) (σ : St) (H : Hp) (v : V) (u : Value) (Q : St → Hp → Prop), Inv X pins σ H s → RelV v u → t v σ H Q →
    wpAny (model X.prog X.w) X.A (assign target X.env u) (fun _ s' => ∃ σ' H', Inv X pins σ' H' s' ∧ Q σ' H') X.xe s
def PGs (X : Cx) (ts : List Expr) (t : TGs) : Prop :=
  ∀ (pins : List (Addr × Obj)) (s : Shared) (σ : St) (H : Hp) (vs : List V) (us : List Value) (Q : St → Hp → Prop), Inv X pins σ H s → Vals vs us → t vs σ H Q →
    wpAny (model X.prog X.w) X.A (assignInOrder ((assignEach ts X.env).map (·.2)) us) (fun _ s' => ∃ σ' H', Inv X pins σ' H' s' ∧ Q σ' H') X.xe s
abbrev Jh := V → V → V → Hp → (Hp → Prop) → Prop
def Lf (X : Cx) (t : Jh) : Prop :=
  ∀ (pins : List (Addr × Obj)) (s : Shared) (σ : St) (H : Hp) (o i v : V) (ov iv u : Value) (Q : Hp → Prop), Inv X pins σ H s → RelV o ov → RelV i iv → RelV v u → t o i v H Q →
    wpAny (model X.prog X.w) X.A (setItem ov iv u) (fun _ s' => ∃ H', Inv X pins σ H' s' ∧ Q H') X.xe s
section
variable {X : Cx} {pos : Pos}
def Fb (i : Nat) : TG := fun v σ H Q => Q (σ.set i (some v)) H
theorem HQ {i : Nat} {x : Str} (hN : X.N.Nodup) (hi : X.N[i]? = some x) (hx : Loc X.env.scope x) (hf : X.fn x = true ∨ X.env.scope.names.lookup x = some .local := by first | exact .inl rfl | exact .inr rfl | assumption) : PG X (.Name x pos) (Fb i) := by
  intro pins s σ H v u Q I r h
  exact wpAny_assign_Name (kO I hN hi hx r (fun s' I' => ⟨_, H, I', h⟩) hf)
def Mx : TGs := fun vs σ H Q => vs = [] ∧ Q σ H
def Lj (t : TG) (u : TGs) : TGs := fun vs σ H Q => ∃ v r, vs = v :: r ∧ t v σ H fun σ' H' => u r σ' H' Q
theorem Hl : PGs X [] Mx := by
  intro pins s σ H vs us Q I r h
  obtain ⟨e, h⟩ := h
  subst e
  cases r
  exact assignInOrder_nil ⟨σ, H, I, h⟩
theorem E2 {e : Expr} {es : List Expr} {t : TG} {u : TGs} (h1 : PG X e t) (h2 : PGs X es u)
    (hs : (assignEach (e :: es) X.env).map (·.2) = assign e X.env :: (assignEach es X.env).map (·.2) := by rfl) : PGs X (e :: es) (Lj t u) := by
  intro pins s σ H vs us Q I r h
  obtain ⟨v, vr, e1, h⟩ := h
  subst e1
  cases r with
  | cons r rr =>
    rw [hs]
    refine assignInOrder_cons (thn (h1 pins s σ H _ _ _ I r h) fun _ s1 ⟨σ1, H1, I1, q1⟩ => ?_)
    exact h2 pins s1 σ1 H1 _ _ Q I1 rr q1
def Mh (K : PySem.W.Frag) (n : Nat) (t : TGs) : TG := fun v σ H Q => ∃ a xs, v = .ref a ∧ SqT K H a xs ∧ xs.length = n ∧ t xs σ H Q
theorem J2 {es : List Expr} {k : Nat} {t : TGs} {n : Nat} (hc : X.calm = X.calm) (h : PGs X es t)
    (hn : (assignEach es X.env).length = n := by rfl) (hst : (assignEach es X.env).findIdx? (·.1) = none := by rfl) : PG X (.Tuple es k pos) (Mh X.K n t) := by
  intro pins s σ H v u Q I r hw
  obtain ⟨a, xs, e1, hq, hl, hw⟩ := hw
  subst e1
  cases r
  obtain ⟨its, rv, ht, hz⟩ := I.tuple hq
  refine wy I.Gg ht (by simp [hn, ← hl, rv.length]) hst fun h' hx => ?_
  have I1 : Inv X pins σ H { s with heap := h' } := I.kept (t' := s.toks) fun b o e => hx b o (Nat.ne_of_lt (Heap.lt_size e)) e
  exact h pins _ σ H xs _ Q I1 (by simpa using rv) hw
def Mf (to ti : TE) (t : Jh) : TG := fun v σ H Q => to σ H fun o H1 => ti σ H1 fun i H2 => t o i v H2 fun H3 => Q σ H3
theorem JM {o i : Expr} {to ti : TE} {t : Jh} (ho : PE X o to) (hi : PE X i ti) (hs : Lf X t)
    (ha : ∀ v, assign (.Subscript o i pos) X.env v = (do
      let ov ← holding [v] (eval o X.env)
      let iv ← holding [v, ov] (eval i X.env)
      standAt pos
      holding [v, ov, iv] (setItem ov iv v)
      release [v, ov, iv] []) := by intro _; rfl) : PG X (.Subscript o i pos) (Mf to ti t) := by
  intro pins s σ H v u Q I r h
  rw [ha]
  refine wpAny_bind (wpAny_holding (thn (ho pins s σ H _ I h) fun ov s1 ⟨x, H1, I1, r1, q1⟩ => ?_))
  refine wpAny_bind (wpAny_holding (thn (hi pins s1 σ H1 _ I1 q1) fun iv s2 ⟨y, H2, I2, r2, q2⟩ => ?_))
  refine wpAny_bind (wpAny_standAt (wpAny_bind (wpAny_holding (thn (hs pins s2 σ H2 x y v ov iv u _ I2 r1 r2 r q2) fun _ s3 ⟨H3, I3, q3⟩ => ?_))))
  exact wpAny_release ⟨σ, H3, I3, q3⟩
def JR (te : TE) (g : TG) : TS := fun D σ H => te σ H fun x H1 => g x σ H1 D.nx
theorem FH {tg e : Expr} {te : TE} {g : TG} (he : PE X e te) (hg : PG X tg g) (hs : swapsWithSole [tg] e pos.line X.env = pure false := by rfl) (hw : swappedStores [tg] e X.env = pure none := by rfl)
    (h1 : (assignEach [tg] X.env).map (·.2) = [assign tg X.env] := by rfl) : PS X (.Assign [tg] e pos) (JR te g) := by
  intro pins s σ H D I h
  refine wpAny_Assign_stores (thn (he pins s σ H _ I h) fun v s1 ⟨x, H1, I1, r1, q1⟩ => ?_) hs hw
  rw [h1]
  exact thn (hg pins s1 σ H1 x v _ I1 r1 q1) fun _ s2 q => q
theorem Jp {i : Nat} {x : Str} {e : Expr} {te : TE} {pos' : Pos} (hN : X.N.Nodup) (hi : X.N[i]? = some x) (hx : Loc X.env.scope x) (he : PE X e te) (hs : swapsWith e (some (.Name x pos')) pos.line X.env = pure false := by rfl) (hf : X.fn x = true ∨ X.env.scope.names.lookup x = some .local := by first | exact .inl rfl | exact .inr rfl | assumption) :
    PS X (.Assign [.Name x pos'] e pos) (JR te (Fb i)) := by
  intro pins s σ H D I h
  refine wpAny_Assign_Name (thn (he pins s σ H _ I h) fun v s1 ⟨y, H1, I1, r1, q1⟩ => ?_) hs
  exact kO I1 hN hi hx r1 (fun s2 I2 => ⟨_, H1, I2, q1⟩) hf
def Me (i j : Nat) (ta : TA) : TS := fun D σ H => ta σ H fun vs H1 => ∃ v w, vs = [v, w] ∧ D.nx ((σ.set i (some v)).set j (some w)) H1
theorem IX {i j : Nat} {x y : Str} {a b : Expr} {ta : TA} {px py pt : Pos} {kt k2 pt2} (hc : X.calm = true) (hN : X.N.Nodup) (hi : X.N[i]? = some x) (hj : X.N[j]? = some y) (hij : i ≠ j)
    (hx : X.env.scope.names.lookup x = some .local) (hy : X.env.scope.names.lookup y = some .local) (ha : PA X [a, b] ta)
    (hw : swappedStores [.Tuple [.Name x px, .Name y py] kt pt] (.Tuple [a, b] k2 pt2) X.env = pure (some [x, y]))
    (hs : swapsWithSole [.Tuple [.Name x px, .Name y py] kt pt] (.Tuple [a, b] k2 pt2) pos.line X.env = pure false := by rfl) :
    PS X (.Assign [.Tuple [.Name x px, .Name y py] kt pt] (.Tuple [a, b] k2 pt2) pos) (Me i j ta) := by
  intro pins s σ H D I h
  rw [exec_Assign_arm]
  refine wpAny_bind (wpAny_standAt ?_)
  rw [hs]
  refine wpAny_bind (wpAny_pure ?_)
  rw [if_neg (by decide)]
  refine wpAny_bind (Tuple_ (thn (ha _ pins s σ H _ I h) fun us s1 ⟨vs, H1, I1, r1, q1⟩ => ?_))
  obtain ⟨v, w, e1, q1⟩ := q1
  subst e1
  obtain ⟨u1, u2, rfl, rv, rw'⟩ : ∃ u1 u2, us = [u1, u2] ∧ RelV v u1 ∧ RelV w u2 := by
    cases r1 with
    | cons p q =>
      cases q with
      | cons p' q' =>
        cases q'
        exact ⟨_, _, rfl, p, p'⟩
  refine wpAny_newObj_type ?_ (by show 2 ≤ sizeLine; decide)
  have I2 : Inv X pins σ H1 { s1 with heap := s1.heap.push { cls := .type "tuple", data := .seq [u1, u2].toArray } } := I1.kept (t' := s1.toks) fun b o e => Heap.get?_push_of_some _ e
  rw [hw]
  refine wpAny_bind (wpAny_pure ?_)
  show wpAny (model X.prog X.w) X.A (do rule "assign.swapped-stores"; let items ← unpackItems (.ref s1.heap.objs.size) 2 none; assignInOrder [fun v => bindName X.env y v, fun v => bindName X.env x v] items.reverse; pure Flow.next) _ _ _
  refine wpAny_bind (wpAny_rule (wpAny_bind (unpackItems_tuple (items := #[u1, u2]) (I.ok.hd hc) (IsTup.new s1.heap _) fun h' hx' => ?_)))
  have I3 := I2.kept (h' := h') (t' := s1.toks) fun b o e => hx' b o (Nat.ne_of_lt (Heap.lt_size e)) e
  show wpAny _ _ (assignInOrder [fun v => bindName X.env y v, fun v => bindName X.env x v] [u2, u1] >>= fun _ => pure Flow.next) _ _ _
  refine wpAny_bind (assignInOrder_cons (wpAny_bindName (kO I3 hN hj (.inl hy) rw' (fun s2 I4 => ?_) (.inr hy))))
  refine assignInOrder_cons (wpAny_bindName (kO I4 hN hi (.inl hx) rv (fun s3 I5 => assignInOrder_nil (wpAny_pure ?_)) (.inr hx)))
  rw [List.set_comm _ _ (Ne.symm hij)] at I5
  exact ⟨_, H1, I5, q1⟩
end
section
variable {X : Cx} {pos : Pos}
def JO (c : TT) (tb : TS) : TS := fun D σ H => ∃ W : Nat → St → Hp → Prop, (∃ m, W m σ H) ∧ ∀ m σ H, W m σ H →
  c σ H fun b H1 => if b = true then ∃ N : St → Hp → Prop, (∀ σ' H', N σ' H' → ∃ m', m' < m ∧ W m' σ' H') ∧ tb { D with nx := N, ct := N, bk := D.nx } σ H1 else D.nx σ H1
theorem FI {c : Expr} {body : List Stmt} {tc : TT} {tb : TS} (hp : PassesOwn (model X.prog X.w) X.A X.env X.xe) (hc : PT X c tc) (hb : PSs X body tb) : PS X (.While c body [] pos) (JO tc tb) := by
  intro pins s σ H D I h
  obtain ⟨W, ⟨m0, w0⟩, turn⟩ := h
  refine wpAny_While (codeAny_whileLoop (fun n s' => ∃ σ' H', Inv X pins σ' H' s' ∧ W n σ' H') ?_ m0 ⟨σ, H, I, w0⟩)
  rintro n s1 ⟨σ1, H1, I1, w1⟩
  refine wpAny_passesOwn hp (thn (hc pins s1 σ1 H1 _ I1 (turn n σ1 H1 w1)) fun b s2 ⟨H2, I2, q2⟩ => ?_)
  cases b with
  | true =>
    obtain ⟨N, hN, q2⟩ := q2
    rw [if_pos rfl]
    refine wpAny_passesOwn hp (thn (hb pins s2 σ1 H2 _ I2 q2) fun f s3 q3 => ?_)
    cases f with
    | next =>
      obtain ⟨σ3, H3, I3, n3⟩ := q3
      obtain ⟨m', hm, w3⟩ := hN σ3 H3 n3
      exact ⟨m', hm, σ3, H3, I3, w3⟩
    | cont =>
      obtain ⟨σ3, H3, I3, n3⟩ := q3
      obtain ⟨m', hm, w3⟩ := hN σ3 H3 n3
      exact ⟨m', hm, σ3, H3, I3, w3⟩
    | brk => exact q3
    | ret v => exact q3
  | false =>
    rw [if_neg Bool.false_ne_true]
    exact wpAny_execs_nil ⟨σ1, H2, I2, q2⟩
end
structure It where
  go : Nat → Hp → Prop
  yld : Nat → Hp → V → Hp → Prop
  stop : Nat → Hp → Prop
def yF (X : Cx) (pins : List (Addr × Obj)) (H : Hp) (b : Addr) : Prop :=
  H b = none ∧ b ≠ X.env.locals ∧ b ∉ X.fs ∧ (b ∈ X.ex ∨ X.s₀.heap.objs.size ≤ b) ∧ (∀ x c, X.env.cells.lookup x = some c → c ≠ b) ∧ ∀ p ∈ X.pn ++ pins, p.1 ≠ b
theorem Inv.KI {X : Cx} {pins : List (Addr × Obj)} {σ : St} {H H' : Hp} {s : Shared} {b : Addr} (I : Inv X pins σ H s) (hb : s.heap.objs.size ≤ b) (hn : H' b = none) : yF X pins H' b := by
  refine ⟨hn, Nat.ne_of_gt (Nat.lt_of_lt_of_le I.lt hb), I.Ml hb, .inr (Nat.le_trans I.sz hb), fun x c e z => ?_, fun p hp z => ?_⟩
  · obtain ⟨v, q⟩ := I.cell x c e
    exact absurd (Nat.lt_of_lt_of_le q.lt (by rw [z]; exact hb)) (Nat.lt_irrefl _)
  · exact absurd (Nat.lt_of_lt_of_le (Heap.lt_size (I.pin p hp).1) (by rw [z]; exact hb)) (Nat.lt_irrefl _)
structure Turn (c : Bool) (P : Program) (w : World) (K : PySem.W.Frag) (tg : Expr) (J : It) (fp : List Addr) (it : Addr) (tn : Nat → Heap → Prop) : Prop where
  mem : it ∈ fp
  obj : ∀ i h, tn i h → ∀ b ∈ fp, ∃ o, h.get? b = some o ∧ ∀ v, o.data ≠ .cell v
  keep : ∀ i h h', tn i h → (∀ b ∈ fp, ∀ o, h.get? b = some o → h'.get? b = some o) → tn i h'
  item : ∀ (X : Cx), X.prog = P → X.w = w → X.K = K → (c = true → X.calm = true) → ∀ (i : Nat) (pins : List (Addr × Obj)) (s : Shared) (σ : St) (H : Hp) (E : Value → Shared → Prop), Inv X pins σ H s → (∀ b ∈ fp, yF X pins H b) → tn i s.heap → J.go i H →
    wpAny (model P w) X.A (pyNext (.ref it)) (fun r s1 => ∃ u, r = some u ∧
      wpAny (model P w) X.A (letOwnedTupleGo tg (.ref it) u) (fun _ s2 => ∃ x H', Inv X pins σ H' s2 ∧ RelV x u ∧ J.yld i H x H' ∧ tn (i + 1) s2.heap ∧ ∀ b ∈ fp, H' b = none) E s1) E s
  done : ∀ (X : Cx), X.prog = P → X.w = w → X.K = K → (c = true → X.calm = true) → ∀ (i : Nat) (pins : List (Addr × Obj)) (s : Shared) (σ : St) (H : Hp) (E : Value → Shared → Prop), Inv X pins σ H s → (∀ b ∈ fp, yF X pins H b) → tn i s.heap → J.stop i H →
    wpAny (model P w) X.A (pyNext (.ref it)) (fun r s1 => r = none ∧ Inv X pins σ H s1) E s
  self : ∀ (A : Around) (i : Nat) (s : Shared) (Q : Value → Shared → Prop) (E : Value → Shared → Prop), tn i s.heap → Q (.ref it) s → wpAny (model P w) A (pyIter (.ref it)) Q E s
theorem Turn.calm {c : Bool} {P : Program} {w : World} {K : PySem.W.Frag} {tg : Expr} {J : It} {fp : List Addr} {it : Addr} {tn : Nat → Heap → Prop} (T : Turn true P w K tg J fp it tn) (h : c = true) : Turn c P w K tg J fp it tn := by subst h; exact T
abbrev TI := St → Hp → (It → Hp → Prop) → Prop
def PIE (X : Cx) (pins : List (Addr × Obj)) (σ : St) (tg : Expr) (R : It → Hp → Prop) (itv : Value) (s2 : Shared) : Prop :=
  ∃ (it : Addr) (fp : List Addr) (tn : Nat → Heap → Prop) (J : It) (H' : Hp), itv = .ref it ∧ Inv X pins σ H' s2 ∧ Turn X.calm X.prog X.w X.K tg J fp it tn ∧ tn 0 s2.heap ∧ (∀ b ∈ fp, yF X pins H' b) ∧ R J H'
def PI (X : Cx) (tg iter : Expr) (wi : TI) : Prop :=
  ∀ (pins : List (Addr × Obj)) (s : Shared) (σ : St) (H : Hp) (R : It → Hp → Prop), Inv X pins σ H s → wi σ H R →
    wpAny (model X.prog X.w) X.A (eval iter X.env) (fun v s1 => wpAny (model X.prog X.w) X.A (pyIter v) (PIE X pins σ tg R) X.xe s1) X.xe s
theorem IS {M : Model} {A : Around} {E : Value → Shared → Prop} {s : Shared} {tg : Expr} {it : Addr} {u : Value} {o : Obj} {n : String} {vs : Array Value} {Q : Unit → Shared → Prop} (ho : s.heap.get? it = some o) (hc : o.cls = .type n) (hd : o.data = .fields vs)
    (hn : ["enumerate", "zip", "dict_itemiterator", "dict_reverseitemiterator", "odict_iterator", "itertools.zip_longest", "itertools.pairwise"].contains n = false) (hQ : Q () s) : wpAny M A (letOwnedTupleGo tg (.ref it) u) Q E s := by
  unfold letOwnedTupleGo
  cases tg <;> first
    | exact wpAny_pure hQ
    | (cases u <;> first
        | exact wpAny_pure hQ
        | (refine wpAny_bind (wpAny_load ho ?_)
           rw [hc, hd]
           show wpAny M A (if (["enumerate", "zip", "dict_itemiterator", "dict_reverseitemiterator", "odict_iterator", "itertools.zip_longest", "itertools.pairwise"].contains n && vs[0]? == some (rawInt _)) = true then _ else _) Q E s
           rw [if_neg (by intro h; rw [hn, Bool.false_and] at h; cases h)]
           exact wpAny_pure hQ))
def Itl (K : PySem.W.Frag) (a : Addr) : It :=
  ⟨fun i H => ∃ xs x, SqL K H a xs ∧ xs[i]? = some x, fun i H x H' => H' = H ∧ ∀ xs, SqL K H a xs → xs[i]? = some x, fun i H => ∃ xs, SqL K H a xs ∧ xs.length ≤ i⟩
def Itr (lo : Int) (n : Nat) : It := ⟨fun i _ => i < n, fun i H x H' => H' = H ∧ x = .int (lo + i), fun i _ => n ≤ i⟩
theorem DV {c : Bool} {P : Program} {w : World} {K : PySem.W.Frag} {tg : Expr} (a it : Addr) : Turn c P w K tg (Itl K a) [it] it (fun i h => h.IsListIter it a i) where
  mem := by simp
  obj := fun i h st b hb => by
    have e : b = it := by simpa using hb
    subst e
    obtain ⟨o, e, c, d⟩ := st
    exact ⟨o, e, fun v z => by rw [d] at z; cases z⟩
  keep := fun i h h' st k => st.at fun o e => k it (by simp) o e
  item := by
    intro X hP hw hK hc i pins s σ H E I hf st hg
    subst hP hw hK
    obtain ⟨xs, x, hq, hx⟩ := hg
    obtain ⟨its, rv, p, hz⟩ := I.list hq
    obtain ⟨u, hu, ru⟩ := rv.get hx
    obtain ⟨f0, f1, f2, f3, f4, f5⟩ := hf it (by simp)
    refine wpAny_pyNext_list_item st p.isList (x := u) (by simpa using hu) fun h' st' sb => ?_
    have I1 : Inv X pins σ H { s with heap := h' } := I.turned (t' := s.toks) (fun b o hb e => (sb.2 b hb).trans e) f0 f1 f3 f4 f5
    obtain ⟨o, e, c, d⟩ := id st'
    exact ⟨u, rfl, IS (s := { s with heap := h' }) e c d (by decide) ⟨x, H, I1, ru, ⟨rfl, fun ys hy => by rw [I.FA hy hq]; exact hx⟩, st', fun b hb => (hf b hb).1⟩⟩
  done := by
    intro X hP hw hK hc i pins s σ H E I hf st hg
    subst hP hw hK
    obtain ⟨xs, hq, hx⟩ := hg
    obtain ⟨its, rv, p, hz⟩ := I.list hq
    obtain ⟨f0, f1, f2, f3, f4, f5⟩ := hf it (by simp)
    have hl := rv.length
    exact vV I.Gg (I.hne f5) st p.isList (by simp; omega) fun h' eb => ⟨rfl, I.turned (t' := s.toks) (fun b o hb e => eb b o hb e) f0 f1 f3 f4 f5⟩
  self := fun _ _ _ _ _ st h => wpAny_pyIter_listiter st h
theorem Bh {P : Program} {w : World} {K : PySem.W.Frag} {tg : Expr} (it : Addr) (lo : Int) (n : Nat) : Turn true P w K tg (Itr lo n) [it] it (fun i h => IsRangeIter h it (lo + (i : Nat) * 1) ((n : Int) - (i : Nat)) 1) where
  mem := by simp
  obj := fun i h st b hb => by
    have e : b = it := by simpa using hb
    subst e
    exact ⟨_, st, fun v z => by
      have z' : Data.fields _ = Data.cell v := z
      cases z'⟩
  keep := fun i h h' st k => k it (by simp) _ st
  item := by
    intro X hP hw hK hc i pins s σ H E I hf st hg
    subst hP hw hK
    obtain ⟨f0, f1, f2, f3, f4, f5⟩ := hf it (by simp)
    have W := Walks.range (prog := X.prog) (w := X.w) (I.ok.hd (hc rfl)) it lo 1 n
    refine W.item i s _ _ hg st fun v h' tk hv st' kk => ?_
    obtain ⟨t, rfl⟩ := hv
    have I1 : Inv X pins σ H { s with heap := h', toks := tk } := I.turned (fun b o hb e => kk b o (by simpa using hb) e) f0 f1 f3 f4 f5
    refine ⟨_, rfl, IS (s := { s with heap := h', toks := tk }) (n := "range_iterator") st' rfl rfl (by decide) ⟨.int (lo + i), H, I1, ⟨t, ?_⟩, ⟨rfl, rfl⟩, st', fun b hb => (hf b hb).1⟩⟩
    rw [Int.mul_one]
  done := by
    intro X hP hw hK hc i pins s σ H E I hf st hg
    subst hP hw hK
    obtain ⟨f0, f1, f2, f3, f4, f5⟩ := hf it (by simp)
    exact wpAny_pyNext_range_end (I.ok.hd (hc rfl)) st (by have : n ≤ i := hg; omega) fun h' eb => ⟨rfl, I.turned (t' := s.toks) (fun b o hb e => eb b o hb e) f0 f1 f3 f4 f5⟩
  self := fun _ _ _ _ _ st h => wpAny_pyIter_rangeiter st h
end L2
namespace L2
open PySem PySem.Spec PyProof.Rows
section
variable {X : Cx} {tg : Expr}
def LA (K : PySem.W.Frag) (tl : TE) : TI := fun σ H R => tl σ H fun x H1 => ∃ a, x = .ref a ∧ (∃ xs, SqL K H1 a xs) ∧ R (Itl K a) H1
theorem Cv {l : Expr} {tl : TE} (hl : PE X l tl) : PI X tg l (LA X.K tl) := by
  intro pins s σ H R I h
  refine thn (hl pins s σ H _ I h) fun v s1 ⟨x, H1, I1, r1, q1⟩ => ?_
  obtain ⟨a, e, ⟨xs, hq⟩, q⟩ := q1
  subst e
  cases r1
  obtain ⟨its, rv, p, hz⟩ := I1.list hq
  refine wpAny_pyIter_list p.isList ?_
  refine ⟨s1.heap.objs.size, [s1.heap.objs.size], _, _, H1, rfl, I1.kept (t' := s1.toks) fun b o e => Heap.get?_push_of_some _ e, DV a _, ⟨_, Heap.get?_push_size _ rfl, rfl, rfl⟩, fun b hb => ?_, q⟩
  have e : b = s1.heap.objs.size := by simpa using hb
  subst e
  exact I1.KI (Nat.le_refl _) (I1.hok.fresh (Nat.le_refl _))
theorem zz (hc : X.calm = true) {pins : List (Addr × Obj)} {σ : St} {H : Hp} {s : Shared} {R : It → Hp → Prop} {E : Value → Shared → Prop} {lo hi : Int} {t u v : Tok} {tk : Nat} (I : Inv X pins σ H s) (h1 : -(2 ^ 62) ≤ lo) (h2 : lo < 2 ^ 62) (h3 : -(2 ^ 62) ≤ hi) (h4 : hi < 2 ^ 62)
    (q : R (Itr lo (hi - lo).toNat) H) : wpAny (model X.prog X.w) X.A (pyIter (.ref s.heap.objs.size)) (PIE X pins σ tg R) E { s with heap := s.heap.push { cls := .type "range", data := .fields #[.int lo t, .int hi u, .int 1 v] }, toks := tk } := by
  refine wpAny_pyIter_range (IsRange.new ..) (small_one h1 h2 h3 h4) ?_
  have I1 : Inv X pins σ H { s with heap := s.heap.push { cls := .type "range", data := .fields #[.int lo t, .int hi u, .int 1 v] }, toks := tk } := I.kept fun b o e => Heap.get?_push_of_some _ e
  refine ⟨(s.heap.push { cls := .type "range", data := .fields #[.int lo t, .int hi u, .int 1 v] }).objs.size, [(s.heap.push { cls := .type "range", data := .fields #[.int lo t, .int hi u, .int 1 v] }).objs.size], _, _, H, rfl,
    I1.kept (t' := tk) fun b o e => Heap.get?_push_of_some _ e, (Bh _ lo (hi - lo).toNat).calm hc, ?_, fun b hb => ?_, q⟩
  · have e1 : lo + ((0 : Nat) : Int) * 1 = lo := by simp
    have e2 : (((hi - lo).toNat : Nat) : Int) - ((0 : Nat) : Int) = Builtin.Range.rangeSize lo hi 1 := by rw [rangeSize_one]; split <;> omega
    show IsRangeIter _ _ (lo + ((0 : Nat) : Int) * 1) ((((hi - lo).toNat : Nat) : Int) - ((0 : Nat) : Int)) 1
    rw [e1, e2]
    exact Heap.get?_push_size _ rfl
  · have e : b = (s.heap.push { cls := .type "range", data := .fields #[.int lo t, .int hi u, .int 1 v] }).objs.size := by simpa using hb
    subst e
    exact I1.KI (Nat.le_refl _) (I1.hok.fresh (Nat.le_refl _))
def Lc (ta : TA) : TI := fun σ H R => ta σ H fun vs H1 => ∃ j : Int, vs = [.int j] ∧ -(2 ^ 62) ≤ j ∧ j < 2 ^ 62 ∧ R (Itr 0 j.toNat) H1
def LW (ta : TA) : TI := fun σ H R => ta σ H fun vs H1 => ∃ i j : Int, vs = [.int i, .int j] ∧ (-(2 ^ 62) ≤ i ∧ i < 2 ^ 62 ∧ -(2 ^ 62) ≤ j ∧ j < 2 ^ 62) ∧ R (Itr i (j - i).toNat) H1
theorem Ea {a : Expr} {ta : TA} {p pos : Pos} (hc : X.calm = true) (hg : Gl X "range") (hm : X.mg "range" = none) (ha : PA X [a] ta) (hs : starEach [a] X.env = [(false, eval a X.env)] := by rfl) : PI X tg (.Call (.Name "range" p) [a] [] pos) (Lc ta) := by
  intro pins s σ H R I h
  refine Call_ (vz I hg hm boot_range (PyProof.Rows.callWith_type1 (thn (ha pos pins s σ H _ I h) fun us s1 ⟨vs, H1, I1, r1, q1⟩ => ?_) hs rfl))
  obtain ⟨j, e, q1, q2, q⟩ := q1
  subst e
  cases r1 with
  | cons r rr =>
    cases rr
    obtain ⟨t, rfl⟩ := r
    exact call_range_1 (zz hc I1 (by omega) (by omega) q1 q2 (by simpa using q))
theorem D6 {a b : Expr} {ta : TA} {p pos : Pos} (hc : X.calm = true) (hg : Gl X "range") (hm : X.mg "range" = none) (ha : PA X [a, b] ta) (hs : starEach [a, b] X.env = [(false, eval a X.env), (false, eval b X.env)] := by rfl) (hs2 : starEach [b] X.env = [(false, eval b X.env)] := by rfl) :
    PI X tg (.Call (.Name "range" p) [a, b] [] pos) (LW ta) := by
  intro pins s σ H R I h
  refine Call_ (vz I hg hm boot_range (PyProof.Rows.callWith_type1 (thn (ha pos pins s σ H _ I h) fun us s1 ⟨vs, H1, I1, r1, q1⟩ => ?_) (by rw [hs, hs2]) (by rw [hs2]; rfl)))
  obtain ⟨i, j, e, ⟨q1, q2, q3, q4⟩, q⟩ := q1
  subst e
  cases r1 with
  | cons r rr =>
    cases rr with
    | cons r' rr =>
      cases rr
      obtain ⟨t, rfl⟩ := r
      obtain ⟨t', rfl⟩ := r'
      exact call_range_2 (zz hc I1 q1 q2 q3 q4 q)
def L9 (wi : TI) (g : TG) (tb : TS) : TS := fun D σ H => wi σ H fun J H1 => ∃ W : Nat → Nat → St → Hp → Prop, (∃ m, W 0 m σ H1) ∧ ∀ i m σ H, W i m σ H →
  (J.stop i H ∧ D.nx σ H) ∨ (J.go i H ∧ ∃ N : St → Hp → Prop, (∀ σ' H', N σ' H' → ∃ m', m' < m ∧ W (i + 1) m' σ' H') ∧ ∀ x H', J.yld i H x H' → g x σ H' fun σ2 H2 => tb { D with nx := N, ct := N, bk := D.nx } σ2 H2)
def sD (fp : List Addr) (h : Heap) : List (Addr × Obj) := fp.filterMap fun b => (h.get? b).map fun o => (b, o)
theorem fA {fp : List Addr} {h : Heap} {b : Addr} {o : Obj} (hb : b ∈ fp) (e : h.get? b = some o) : (b, o) ∈ sD fp h := List.mem_filterMap.mpr ⟨b, hb, by rw [e]; rfl⟩
theorem DY {fp : List Addr} {h : Heap} {p : Addr × Obj} (hp : p ∈ sD fp h) : p.1 ∈ fp ∧ h.get? p.1 = some p.2 := by
  obtain ⟨b, hb, e⟩ := List.mem_filterMap.mp hp
  cases q : h.get? b with
  | none => rw [q] at e; cases e
  | some o =>
    rw [q] at e
    have e' : (b, o) = p := Option.some.inj e
    subst e'
    exact ⟨hb, q⟩
theorem Inv.pinned {pins : List (Addr × Obj)} {σ : St} {H : Hp} {s : Shared} {fp : List Addr} (I : Inv X pins σ H s) (hf : ∀ b ∈ fp, yF X pins H b) (ho : ∀ b ∈ fp, ∃ o, s.heap.get? b = some o ∧ ∀ v, o.data ≠ .cell v) : Inv X (pins ++ sD fp s.heap) σ H s :=
  I.C5 fun p hp => (List.mem_append.mp hp).elim (fun z => I.pin p (List.mem_append_right _ z)) fun z => by
    obtain ⟨hb, e⟩ := DY z
    obtain ⟨f0, f1, f2, _⟩ := hf p.1 hb
    obtain ⟨o, e', d⟩ := ho p.1 hb
    rw [e] at e'; cases e'
    exact ⟨e, f0, f1, f2, d⟩
theorem Inv.kJ {pins pl : List (Addr × Obj)} {σ : St} {H : Hp} {s : Shared} (I : Inv X (pins ++ pl) σ H s) : Inv X pins σ H s := I.C5 fun p hp => I.pin p (List.mem_append_right _ (List.mem_append_left _ hp))
theorem JQ {iter : Expr} {body : List Stmt} {wi : TI} {g : TG} {tb : TS} {pos : Pos} (hp : PassesOwn (model X.prog X.w) X.A X.env X.xe) (hc : X.calm = true) (hi : PI X tg iter wi) (hg : PG X tg g) (hb : PSs X body tb)
    (hs : ∀ x, foldedSetIterable iter X.env x = pure x := by intro _; rfl) : PS X (.For tg iter body [] pos) (L9 wi g tb) := by
  intro pins s σ H D I h
  refine wpAny_For (thn (hi pins s σ H _ I h) fun v s1 h1 => thn h1 fun itv s2 h2 => ?_) hs
  obtain ⟨it, fp, tn, J, H2, e, I2, T, st2, f2, W, ⟨m0, w0⟩, turn⟩ := h2
  subst e
  have stat : ∀ {H' : Hp}, (∀ b ∈ fp, H' b = none) → ∀ b ∈ fp, yF X pins H' b := fun hn b hb => ⟨hn b hb, (f2 b hb).2⟩
  refine codeAny_forLoop_any (fun n s' => ∃ i σ' H', Inv X pins σ' H' s' ∧ tn i s'.heap ∧ (∀ b ∈ fp, H' b = none) ∧ W i n σ' H') ?_ m0 ⟨0, σ, H2, I2, st2, fun b hb => (f2 b hb).1, w0⟩
  rintro n s3 ⟨i, σ3, H3, I3, st3, fr3, w3⟩
  rcases turn i n σ3 H3 w3 with ⟨stop, qn⟩ | ⟨go, N, hN, step⟩
  · refine wpAny_passesOwn hp (thn (T.done X rfl rfl rfl (fun z => z) i pins s3 σ3 H3 X.xe I3 (stat fr3) st3 stop) fun r s4 ⟨hr, I4⟩ => ?_)
    subst hr
    exact wpAny_execs_nil ⟨σ3, H3, I4, qn⟩
  · refine wpAny_passesOwn hp (thn (T.item X rfl rfl rfl (fun z => z) i pins s3 σ3 H3 X.xe I3 (stat fr3) st3 go) fun r s4 ⟨u, hr, h4⟩ => ?_)
    subst hr
    refine wpAny_passesOwn hp (thn h4 fun _ s5 ⟨x, H5, I5, r5, y5, st5, fr5⟩ => ?_)
    have I5' := I5.pinned (stat fr5) (T.obj _ _ st5)
    refine wpAny_passesOwn hp (thn (hg _ s5 σ3 H5 x u _ I5' r5 (step x H5 y5)) fun _ s6 ⟨σ6, H6, I6, q6⟩ => ?_)
    refine wpAny_passesOwn hp (thn (hb _ s6 σ6 H6 _ I6 q6) fun f s7 q7 => ?_)
    have again : ∀ {σ7 : St} {H7 : Hp}, Inv X (pins ++ sD fp s5.heap) σ7 H7 s7 → N σ7 H7 → ∃ m, m < n ∧ ∃ i σ' H', Inv X pins σ' H' s7 ∧ tn i s7.heap ∧ (∀ b ∈ fp, H' b = none) ∧ W i m σ' H' := fun {σ7 H7} I7 n7 => by
      obtain ⟨m', hm, w7⟩ := hN σ7 H7 n7
      refine ⟨m', hm, i + 1, σ7, H7, I7.kJ, T.keep _ _ _ st5 fun b hb o e => (I7.pin (b, o) (List.mem_append_right _ (List.mem_append_right _ (fA hb e)))).1, fun b hb => ?_, w7⟩
      obtain ⟨o, e, d⟩ := T.obj _ _ st5 b hb
      exact (I7.pin (b, o) (List.mem_append_right _ (List.mem_append_right _ (fA hb e)))).2.1
    cases f with
    | next => obtain ⟨σ7, H7, I7, n7⟩ := q7; exact again I7 n7
    | cont => obtain ⟨σ7, H7, I7, n7⟩ := q7; exact again I7 n7
    | brk => obtain ⟨σ7, H7, I7, q7⟩ := q7; exact ⟨σ7, H7, I7.kJ, q7⟩
    | ret v => obtain ⟨x7, σ7, H7, I7, r7, q7⟩ := q7; exact ⟨x7, σ7, H7, I7.kJ, r7, q7⟩
end
end L2
namespace L2
open PySem PySem.Spec PyProof.Rows
abbrev R2 := V → V → Hp → VK → Prop
def OpR (X : Cx) (f : Value → Value → Sem Value) (r : R2) : Prop :=
  ∀ (pins : List (Addr × Obj)) (s : Shared) (σ : St) (H : Hp) (x y : V) (v u : Value) (Q : VK), Inv X pins σ H s → RelV x v → RelV y u → r x y H Q →
    wpAny (model X.prog X.w) X.A (f v u) (EP X pins σ Q) X.xe s
def UnR (X : Cx) (f : Value → Sem Value) (r : V → Hp → VK → Prop) : Prop :=
  ∀ (pins : List (Addr × Obj)) (s : Shared) (σ : St) (H : Hp) (x : V) (v : Value) (Q : VK), Inv X pins σ H s → RelV x v → r x H Q →
    wpAny (model X.prog X.w) X.A (f v) (EP X pins σ Q) X.xe s
def gp (X : Cx) (f : Value) (r : List V → Hp → VK → Prop) : Prop :=
  ∀ (pins : List (Addr × Obj)) (s : Shared) (σ : St) (H : Hp) (xs : List V) (us : List Value) (Q : VK), Inv X pins σ H s → Vals xs us → r xs H Q →
    wpAny (model X.prog X.w) X.A (call f us) (EP X pins σ Q) X.xe s
def tOp (r : R2) (ta tb : TE) : TE := fun σ H Q => ta σ H fun x H1 => tb σ H1 fun y H2 => r x y H2 Q
def tUn (r : V → Hp → VK → Prop) (ta : TE) : TE := fun σ H Q => ta σ H fun x H1 => r x H1 Q
def rI (C : Int → Int → Prop) (g : Int → Int → V) : R2 := fun x y H Q => ∃ i j, x = .int i ∧ y = .int j ∧ C i j ∧ Q (g i j) H
def rI0 (g : Int → Int → V) : R2 := fun x y H Q => ∃ i j, x = .int i ∧ y = .int j ∧ Q (g i j) H
def rU (g : Int → V) : V → Hp → VK → Prop := fun x H Q => ∃ i, x = .int i ∧ Q (g i) H
section
variable {X : Cx} {a b c : Expr} {ta tb tc : TE} {pos : Pos}
theorem Kn (ha : PE X a ta) (hb : PE X b tb) {pins : List (Addr × Obj)} {s : Shared} {σ : St} {H : Hp} {R : V → V → Hp → Prop} (I : Inv X pins σ H s)
    (h : ta σ H fun x H1 => tb σ H1 fun y H2 => R x y H2) {Q : Value → Shared → Prop} {f : Value → Value → Sem Value}
    (hf : ∀ v u s2 x y H2, Inv X pins σ H2 s2 → RelV x v → RelV y u → R x y H2 → wpAny (model X.prog X.w) X.A (f v u) Q X.xe s2) :
    wpAny (model X.prog X.w) X.A (eval a X.env) (fun v s₁ => wpAny (model X.prog X.w) X.A (eval b X.env) (fun u s₂ => wpAny (model X.prog X.w) X.A (f v u) Q X.xe s₂) X.xe s₁) X.xe s := by
  refine thn (ha pins s σ H _ I h) fun v s1 ⟨x, H1, I1, r1, q1⟩ => ?_
  refine thn (hb pins s1 σ H1 _ I1 q1) fun u s2 ⟨y, H2, I2, r2, q2⟩ => ?_
  exact hf v u s2 x y H2 I2 r1 r2 q2
theorem Lb {op : Operator} {r : R2} (ho : OpR X (binaryOp op) r) (ha : PE X a ta) (hb : PE X b tb) : PE X (.BinOp a op b pos) (tOp r ta tb) := by
  intro pins s σ H Q I h
  exact wpAny_BinOp (Kn ha hb I h fun v u s2 x y H2 I2 rx ry q => ho pins s2 σ H2 x y v u Q I2 rx ry q)
theorem LU {op : UnaryOp} {r : V → Hp → VK → Prop} (ho : UnR X (unaryOp op) r) (ha : PE X a ta) : PE X (.UnaryOp op a pos) (tUn r ta) := by
  intro pins s σ H Q I h
  exact UnaryOp_ (thn (ha pins s σ H _ I h) fun v s1 ⟨x, H1, I1, r1, q1⟩ => ho pins s1 σ H1 x v Q I1 r1 q1)
theorem opI {f : Value → Value → Sem Value} {C : Int → Int → Prop} {g : Int → Int → Int}
    (rule : ∀ (i j : Int) (t u : Tok) (s : Shared) (Q : Value → Shared → Prop) (E : Value → Shared → Prop), C i j → Q (.int (g i j) s.toks) { s with toks := s.toks + 1 } → wpAny (model X.prog X.w) X.A (f (.int i t) (.int j u)) Q E s) :
    OpR X f (rI C fun i j => .int (g i j)) := by
  intro pins s σ H x y v u Q I rx ry h
  obtain ⟨i, j, rfl, rfl, hc, q⟩ := h
  obtain ⟨t, rfl⟩ := rx
  obtain ⟨t', rfl⟩ := ry
  exact rule i j t t' s _ _ hc ⟨.int (g i j), H, I.tok _, ⟨_, rfl⟩, q⟩
theorem L0 {f : Value → Value → Sem Value} {g : Int → Int → Int}
    (rule : ∀ (i j : Int) (t u : Tok) (s : Shared) (Q : Value → Shared → Prop) (E : Value → Shared → Prop), Q (.int (g i j) s.toks) { s with toks := s.toks + 1 } → wpAny (model X.prog X.w) X.A (f (.int i t) (.int j u)) Q E s) :
    OpR X f (rI0 fun i j => .int (g i j)) := by
  intro pins s σ H x y v u Q I rx ry h
  obtain ⟨i, j, rfl, rfl, q⟩ := h
  obtain ⟨t, rfl⟩ := rx
  obtain ⟨t', rfl⟩ := ry
  exact rule i j t t' s _ _ ⟨.int (g i j), H, I.tok _, ⟨_, rfl⟩, q⟩
theorem HN {f : Value → Value → Sem Value} {g : Int → Int → Bool}
    (rule : ∀ (i j : Int) (t u : Tok) (s : Shared) (Q : Value → Shared → Prop) (E : Value → Shared → Prop), Q (.bool (g i j)) s → wpAny (model X.prog X.w) X.A (f (.int i t) (.int j u)) Q E s) :
    OpR X f (rI0 fun i j => .bl (g i j)) := by
  intro pins s σ H x y v u Q I rx ry h
  obtain ⟨i, j, rfl, rfl, q⟩ := h
  obtain ⟨t, rfl⟩ := rx
  obtain ⟨t', rfl⟩ := ry
  exact rule i j t t' s _ _ ⟨.bl (g i j), H, I, rfl, q⟩
def Kq (i j : Int) : Prop := 0 ≤ j ∧ j ≤ 1000000 ∧ i.natAbs < 2 ^ 64
def Hu (i j : Int) : Prop := (-(2 ^ 64) < i ∧ i < 2 ^ 64) ∨ (-(2 ^ 64) < j ∧ j < 2 ^ 64)
theorem Hu.ok {i j : Int} (h : Hu i j) : IntMulOk i j := by
  rcases h with ⟨h1, h2⟩ | ⟨h1, h2⟩
  · exact .of_left (intBits_le_64 h1 h2)
  · exact .of_right (intBits_le_64 h1 h2)
theorem Ez : OpR X (binaryOp .Add) (rI0 fun i j => .int (i + j)) := L0 fun _ _ _ _ _ _ _ q => add_int q
theorem JV : OpR X (binaryOp .Sub) (rI0 fun i j => .int (i - j)) := L0 fun _ _ _ _ _ _ _ q => sub_int q
theorem G6 : OpR X (binaryOp .Mod) (rI (fun _ j => j ≠ 0) fun i j => .int (i.fmod j)) := opI fun _ _ _ _ _ _ _ hc q => mod_int' hc q
theorem J7 : OpR X (binaryOp .Pow) (rI Kq fun i j => .int (i ^ j.toNat)) := opI fun _ _ _ _ _ _ _ hc q => pow_int_small hc.1 hc.2.1 hc.2.2 q
theorem unI {f : Value → Sem Value} {g : Int → Int}
    (rule : ∀ (i : Int) (t : Tok) (s : Shared) (Q : Value → Shared → Prop) (E : Value → Shared → Prop), Q (.int (g i) s.toks) { s with toks := s.toks + 1 } → wpAny (model X.prog X.w) X.A (f (.int i t)) Q E s) :
    UnR X f (rU fun i => .int (g i)) := by
  intro pins s σ H x v Q I rx h
  obtain ⟨i, rfl, q⟩ := h
  obtain ⟨t, rfl⟩ := rx
  exact rule i t s _ _ ⟨.int (g i), H, I.tok _, ⟨_, rfl⟩, q⟩
theorem KG : UnR X (unaryOp .USub) (rU fun i => .int (-i)) := unI fun _ _ _ _ _ q => neg_int q
end
section
variable {X : Cx} {a b c : Expr} {ta tb tc : TE} {pos : Pos}
theorem zJ : OpR X (compareOp .Lt) (rI0 fun i j => .bl (decide (i < j))) := HN fun _ _ _ _ _ _ _ q => lt_int q
theorem IL : OpR X (compareOp .LtE) (rI0 fun i j => .bl (decide (i ≤ j))) := HN fun _ _ _ _ _ _ _ q => le_int q
theorem jI : OpR X (compareOp .Gt) (rI0 fun i j => .bl (decide (j < i))) := HN fun _ _ _ _ _ _ _ q => gt_int q
theorem xc : OpR X (compareOp .GtE) (rI0 fun i j => .bl (decide (j ≤ i))) := HN fun _ _ _ _ _ _ _ q => ge_int q
theorem OpR.or {f : Value → Value → Sem Value} {r r' : R2} (h : OpR X f r) (h' : OpR X f r') : OpR X f (fun x y H Q => r x y H Q ∨ r' x y H Q) := by
  intro pins s σ H x y v u Q I rx ry q
  rcases q with q | q
  · exact h pins s σ H x y v u Q I rx ry q
  · exact h' pins s σ H x y v u Q I rx ry q
theorem aJ (b : Expr) {op : CmpOp} (h : op ≠ .In := by decide) (h2 : op ≠ .NotIn := by decide) : behindInMarks op b = false := by
  have e1 : (op == CmpOp.In) = false := by cases op <;> first | rfl | exact absurd rfl h
  have e2 : (op == CmpOp.NotIn) = false := by cases op <;> first | rfl | exact absurd rfl h2
  cases b <;> simp [behindInMarks, e1, e2]
theorem Hy {op : CmpOp} {r : R2} (ho : OpR X (compareOp op) r) (ha : PE X a ta) (hb : PE X b tb) (hm : behindInMarks op b = false) : PE X (.Compare a [op] [b] pos) (tOp r ta tb) := by
  intro pins s σ H Q I h
  exact wpAny_Compare1 (Kn ha hb I h fun v u s2 x y H2 I2 rx ry q => ho pins s2 σ H2 x y v u Q I2 rx ry q) hm
def Il (t : TE) : TT := fun σ H Q => t σ H fun x H' => ∃ k, x = .bl k ∧ Q k H'
theorem HD {op : CmpOp} {r : R2} (ho : OpR X (compareOp op) r) (ha : PE X a ta) (hb : PE X b tb) (hm : behindInMarks op b = false) : PT X (.Compare a [op] [b] pos) (Il (tOp r ta tb)) := by
  intro pins s σ H Q I h
  refine wpAny_isTrue_Compare1 (thn (ha pins s σ H _ I h) fun v s1 ⟨x, H1, I1, r1, q1⟩ => thn (hb pins s1 σ H1 _ I1 q1) fun u s2 ⟨y, H2, I2, r2, q2⟩ =>
    thn (ho pins s2 σ H2 x y v u _ I2 r1 r2 q2) fun c s3 ⟨z, H3, I3, r3, k, e, q3⟩ => ?_) hm
  subst e
  cases r3
  exact wpAny_truthy_bool ⟨H3, I3, q3⟩
theorem uO : (sizeLine : Nat) < 2 ^ 63 := by rw [sizeLine_eq]; decide
theorem vals1 {x : V} {us : List Value} (r : Vals [x] us) : ∃ u, us = [u] ∧ RelV x u := by
  cases r with
  | cons r1 r2 => cases r2; exact ⟨_, rfl, r1⟩
theorem vals2 {x y : V} {us : List Value} (r : Vals [x, y] us) : ∃ u w', us = [u, w'] ∧ RelV x u ∧ RelV y w' := by
  cases r with
  | cons r1 r2 =>
    cases r2 with
    | cons r3 r4 => cases r4; exact ⟨_, _, rfl, r1, r3⟩
theorem Fu : gp X (.builtin "abs") (fun xs H Q => ∃ i, xs = [.int i] ∧ Q (.int (if i < 0 then -i else i)) H) := by
  intro pins s σ H xs us Q I r h
  obtain ⟨i, rfl, q⟩ := h
  obtain ⟨u, rfl, t, rfl⟩ := vals1 r
  exact call_abs_int fun u tk => ⟨.int (if i < 0 then -i else i), H, I.tok _, ⟨_, rfl⟩, q⟩
theorem DC (hc : X.calm = true) : gp X (.builtin "max") (fun xs H Q => ∃ i j, xs = [.int i, .int j] ∧ Q (.int (if j > i then j else i)) H) := by
  intro pins s σ H xs us Q I r h
  obtain ⟨i, j, rfl, q⟩ := h
  obtain ⟨u, w', rfl, ⟨t, rfl⟩, ⟨t', rfl⟩⟩ := vals2 r
  refine max_two_ints (I.ok.hd hc) fun h' tk k => ⟨_, H, I.kept k, ?_, q⟩
  by_cases hj : j > i
  · rw [if_pos hj, if_pos hj]; exact ⟨_, rfl⟩
  · rw [if_neg hj, if_neg hj]; exact ⟨_, rfl⟩
theorem Dr (hc : X.calm = true) : gp X (.builtin "min") (fun xs H Q => ∃ i j, xs = [.int i, .int j] ∧ Q (.int (if j < i then j else i)) H) := by
  intro pins s σ H xs us Q I r h
  obtain ⟨i, j, rfl, q⟩ := h
  obtain ⟨u, w', rfl, ⟨t, rfl⟩, ⟨t', rfl⟩⟩ := vals2 r
  refine min_two_ints (I.ok.hd hc) fun h' tk k => ⟨_, H, I.kept k, ?_, q⟩
  by_cases hj : j < i
  · rw [if_pos hj, if_pos hj]; exact ⟨_, rfl⟩
  · rw [if_neg hj, if_neg hj]; exact ⟨_, rfl⟩
theorem Dz : gp X (.type "int") (fun xs H Q => (∃ i, xs = [.int i] ∧ Q (.int i) H) ∨ ∃ k, xs = [.bl k] ∧ Q (.int (if k then 1 else 0)) H) := by
  intro pins s σ H xs us Q I r h
  rcases h with ⟨i, rfl, q⟩ | ⟨k, rfl, q⟩
  · obtain ⟨u, rfl, t, rfl⟩ := vals1 r
    exact call_int_int ⟨.int i, H, I, ⟨_, rfl⟩, q⟩
  · obtain ⟨u, rfl, r1⟩ := vals1 r
    cases r1
    exact call_int_bool ⟨.int (if k then 1 else 0), H, I.tok _, ⟨_, rfl⟩, q⟩
end
end L2
namespace L2
open PySem PySem.Spec PyProof.Rows
section
variable {prog : Program} {w : World} {A : Around} {E : Value → Shared → Prop} {s : Shared} {K : PySem.W.Frag} {x dx C f : Addr} {mA : Str → Option Value} {name : Str} {v : Value}
end
section
variable {P : Program} {w : World} {H H' : Hp} {h h' : Heap} {a C dx : Addr} {fs fs' : List (Str × V)}
end
structure Cls (K : PySem.W.Frag) (C : Addr) : Prop where
  pg : PySem.W.plainGet K C Str.empty = true
  hd : PySem.W.hasDictIn K C = true
  po : PySem.W.plainOver K C = true
  sa : PySem.W.findIn K (.ref C) "__setattr__" = some (some (.builtin "object.__setattr__"))
theorem Cls.get {K : PySem.W.Frag} {C : Addr} (c : Cls K C) (f : Str) : PySem.W.plainGet K C f = true := c.pg
section
variable {X : Cx} {pins : List (Addr × Obj)} {σ : St} {H : Hp} {s : Shared} {a C dx : Addr} {fs : List (Str × V)} {f : Str} {v : V} {A : Around} {E : Value → Shared → Prop}
theorem Inv.made (I : Inv X pins σ H s) : Inv X pins σ (upd (upd H s.heap.objs.size (.own (s.heap.objs.size + 1))) (s.heap.objs.size + 1) (.ins C s.heap.objs.size []))
    { s with heap := (s.heap.push PySem.W.emptyDict).push (PySem.W.instObj C s.heap.objs.size) } := by
  have e1 : (s.heap.push PySem.W.emptyDict).get? s.heap.objs.size = some PySem.W.emptyDict := Heap.get?_push_size s.heap rfl
  have e2 : ((s.heap.push PySem.W.emptyDict).push (PySem.W.instObj C s.heap.objs.size)).get? (s.heap.objs.size + 1) = some (PySem.W.instObj C s.heap.objs.size) := by
    have := Heap.get?_push_size (s.heap.push PySem.W.emptyDict) (o := PySem.W.instObj C s.heap.objs.size) rfl
    rwa [Heap.size_push] at this
  have e3 : (s.heap.push PySem.W.emptyDict).Ns s.heap.objs.size (fun _ => none) := ⟨PySem.W.emptyDict, #[], _, e1, rfl, (fun e he => absurd he (by simp)), fun _ => rfl⟩
  have I1 := I.laid (a := s.heap.objs.size) (o := .own (s.heap.objs.size + 1)) (h' := s.heap.push PySem.W.emptyDict) (t' := s.toks) (fun b u q => Heap.get?_push_of_some _ q) (Nat.le_refl _) ⟨_, e1⟩
  refine I1.laid (a := s.heap.objs.size + 1) (o := .ins C s.heap.objs.size []) (t' := s.toks) (fun b u q => Heap.get?_push_of_some _ q) (Nat.le_of_eq (Heap.size_push _ _)) ?_
  have ne : s.heap.objs.size ≠ s.heap.objs.size + 1 := Nat.ne_of_lt (Nat.lt_succ_self _)
  refine ⟨by rw [aZ ne, bU], Nat.zero_le _, ne, e2, fun _ => none, (Heap.Ns1.of_empty e3).at fun o q => Heap.get?_push_of_some _ q, fun _ => True.intro, fun y hy => absurd rfl hy⟩
end
section
variable {X : Cx} {o e value : Expr} {f : Str} {pos pos' tpos : Pos} {ta tv : TE}
end
section
variable {X : Cx} {pins : List (Addr × Obj)} {σ : St} {H : Hp} {s : Shared} {A : Around} {E : Value → Shared → Prop} {Q : Value → Shared → Prop} {c : Value} {b : Bool}
end
end L2
namespace L2
open PySem PySem.Spec PyProof.Rows
structure eT (k : Nat) (A : Around) : Prop where
  hd : A.handled = none
  dp : A.depth + 3 * k + 5 < recursionLimit
  un : A.units + 16 * k + 200 < cLine
theorem eT.mono {j k : Nat} {A : Around} (r : eT k A) (h : j ≤ k) : eT j A := ⟨r.hd, by have := r.dp; omega, by have := r.un; omega⟩
theorem eT.deeper {k : Nat} {A : Around} (r : eT (k + 1) A) (env : Env) : eT k (A.deeper env) :=
  ⟨r.hd, by have := r.dp; show A.depth + 1 + 3 * k + 5 < _; omega, by have := r.un; show A.units + 3 + 16 * k + 200 < _; omega⟩
theorem eT.depth {k : Nat} {A : Around} (r : eT k A) : A.depth < recursionLimit := by have := r.dp; omega
theorem eT.units {k : Nat} {A : Around} (r : eT k A) : A.units + 64 < cLine := by have := r.un; omega
def LG : TA := fun _ H Q => Q [] H
def Iw (ta : TE) (tr : TA) : TA := fun σ H Q => ta σ H fun x H1 => tr σ H1 fun xs H2 => Q (x :: xs) H2
section
variable {X : Cx} {e : Expr} {es : List Expr} {te : TE} {t : TA} {pos : Pos}
theorem oO : PA X [] LG := fun _ _ _ _ H Q I h => Calls.spliced_nil ⟨[], H, I, .nil, h⟩
theorem ip (ha : PE X e te) (hr : PA X es t) (hs : starEach (e :: es) X.env = (false, eval e X.env) :: starEach es X.env := by rfl) : PA X (e :: es) (Iw te t) := by
  intro pos pins s σ H Q I h
  rw [hs]
  show wpAny _ _ (spliced ((false, eval e X.env) :: backTo pos (starEach es X.env))) _ _ s
  refine Calls.spliced_cons (thn (ha pins s σ H _ I h) fun u s1 ⟨x, H1, I1, r1, q1⟩ => ?_)
  exact thn (hr pos pins s1 σ H1 _ I1 q1) fun us s2 ⟨xs, H2, I2, r2, q2⟩ => ⟨x :: xs, H2, I2, .cons r1 r2, q2⟩
def Mz (t : TA) : TE := fun σ H Q => t σ H fun xs H1 => xs.length ≤ sizeLine ∧ ∀ p, H1 p = none → Q (.ref p) (upd H1 p (.tup xs))
def Mr (t : TA) : TE := fun σ H Q => t σ H fun xs H1 => xs.length ≤ sizeLine ∧ ∀ p, H1 p = none → Q (.ref p) (upd H1 p (.lst xs))
theorem J9 {x1} (h : PA X es t) : PE X (.Tuple es x1 pos) (Mz t) := by
  intro pins s σ H Q I hq
  refine wpAny_Tuple_spliced (thn (h pos pins s σ H _ I hq) fun us s1 ⟨xs, H1, I1, r, z, q⟩ => ⟨by rw [← r.length]; exact z, ?_⟩)
  have hf : H1 s1.heap.objs.size = none := I1.hok.fresh (Nat.le_refl _)
  refine ⟨.ref s1.heap.objs.size, upd H1 s1.heap.objs.size (.tup xs), I1.laid (t' := s1.toks) (fun b u e => Heap.get?_push_of_some _ e) (Nat.le_refl _) ?_, rfl, q _ hf⟩
  exact ⟨z, us, r, ⟨_, Heap.get?_push_size _ rfl, rfl, _, rfl⟩⟩
theorem Gj (h : PA X es t) : PE X (.List es pos) (Mr t) := by
  intro pins s σ H Q I hq
  refine wpAny_List_spliced (thn (h pos pins s σ H _ I hq) fun us s1 ⟨xs, H1, I1, r, z, q⟩ => ⟨by rw [← r.length]; exact z, ?_⟩)
  have hf : H1 s1.heap.objs.size = none := I1.hok.fresh (Nat.le_refl _)
  refine ⟨.ref s1.heap.objs.size, upd H1 s1.heap.objs.size (.lst xs), I1.laid (t' := s1.toks) (fun b u e => Heap.get?_push_of_some _ e) (Nat.le_refl _) ?_, rfl, q _ hf⟩
  exact ⟨z, us, 0, r, Heap.get?_push_size _ rfl⟩
end
abbrev Sp := List V → Hp → VK → XK → Prop
abbrev CXT := List Env → Hp → Shared → XK → Value → Shared → Prop
structure zH (P : Program) (w : World) (K : PySem.W.Frag) (mg : Str → Option Value) (base : Heap) (A : Around) (outer : List Env) (s : Shared) (H : Hp) : Prop where
  frames : A.frames = some outer
  mod : Mod K mg base
  bs : ∀ b o, base.get? b = some o → s.heap.get? b = some o ∧ H b = none
  bsz : base.objs.size ≤ s.heap.objs.size
  oY : s.heap.FunFrames base outer
  frf : ∀ b ∈ frs outer, H b = none
  hok : HOk P w H s.heap
  bare : AllBare s.gens
def CE (outer : List Env) (P : Program) (w : World) (H : Hp) (s : Shared) (Q : VK) (u : Value) (s' : Shared) : Prop :=
  ∃ v H', s'.os = s.os ∧ AllBare s'.gens ∧ Un (frs outer) [] H H' s.heap s'.heap ∧ HOk P w H' s'.heap ∧ RelV v u ∧ Q v H'
def CR (CX : CXT) (outer : List Env) (P : Program) (w : World) (H : Hp) (s : Shared) (Q : VK) (E : XK) (r : Result) (s' : Shared) : Prop :=
  match r with
  | .ok (.ret u) => CE outer P w H s Q u s'
  | .ok _ => False
  | .error e => CX outer H s E e s'
structure bB (P : Program) (w : World) (K : PySem.W.Frag) (mg : Str → Option Value) (base : Heap) (CX : CXT) (k : Nat) (f : Addr) (fd : FuncData) (ps : List Str) (sp : Sp) : Prop where
  len : ∀ vs H Q E, sp vs H Q E → vs.length = ps.length
  run : ∀ (A : Around) (outer : List Env) (s : Shared) (H : Hp) (args : Args) (us : List Value) (vs : List V) (Q : VK) (E : XK), eT k A → zH P w K mg base A outer s H → BindsTo s fd args (ps.zip us) → Vals vs us → sp vs H Q E →
    codeAny (model P w) A (.call (.ref f) args) (CR CX outer P w H s Q E) s
theorem bB.mono {P : Program} {w : World} {K : PySem.W.Frag} {mg : Str → Option Value} {base : Heap} {CX : CXT} {j k : Nat} {f : Addr} {fd : FuncData} {ps : List Str} {sp : Sp} (F : bB P w K mg base CX j f fd ps sp) (h : j ≤ k) :
    bB P w K mg base CX k f fd ps sp := ⟨F.len, fun A outer s H args us vs Q E hr => F.run A outer s H args us vs Q E (hr.mono h)⟩
theorem bB.imp {P : Program} {w : World} {K : PySem.W.Frag} {mg : Str → Option Value} {base : Heap} {CX : CXT} {k : Nat} {f : Addr} {fd : FuncData} {ps : List Str} {sp sp' : Sp} (F : bB P w K mg base CX k f fd ps sp)
    (h : ∀ vs H Q E, sp' vs H Q E → sp vs H Q E) : bB P w K mg base CX k f fd ps sp' :=
  ⟨fun vs H Q E q => F.len vs H Q E (h _ _ _ _ q), fun A outer s H args us vs Q E hr he hb hv hs => F.run A outer s H args us vs Q E hr he hb hv (h _ _ _ _ hs)⟩
section
variable {X : Cx} {pins : List (Addr × Obj)} {σ : St} {H : Hp} {s s' : Shared}
theorem Inv.GW (I : Inv X pins σ H s) : zH X.prog X.w X.K X.mg X.base X.A X.stack s H :=
  ⟨I.ok.frames, I.ok.mod, I.bs, Nat.le_trans I.ok.bsz I.sz, I.stack, I.uv, I.hok, I.bare⟩
theorem Inv.after {Q : VK} {u : Value} (I : Inv X pins σ H s) (h : CE X.stack X.prog X.w H s Q u s') : EP X pins σ Q u s' := by
  obtain ⟨v, H', os, bare, un, hok, r, q⟩ := h
  obtain ⟨hh, g, d, t, os'⟩ := s'
  obtain rfl : os' = s.os := os
  exact ⟨v, H', I.call (h' := hh) (g' := g) (d' := d) (t' := t) (ch := []) un hok bare (fun b z => absurd z (by simp)), r, q⟩
end
def LY (sp : Sp) (dvs : List V) (E : XK) (t : TA) : TE := fun σ H Q => t σ H fun vs H1 => sp (vs ++ dvs) H1 Q E
def Binds (K : PySem.W.Frag) (fd : FuncData) (ps : List Str) (ds : List Value) : Prop :=
  ∀ (s : Shared) (us : List Value), K.In s.heap → (us ++ ds).length = ps.length → BindsTo s fd ⟨us, []⟩ (ps.zip (us ++ ds))
theorem Binds.all {K : PySem.W.Frag} {fd : FuncData} {ps : List Str} (h : ∀ us : List Value, us.length = ps.length → bindArgs fd ⟨us, []⟩ = pure (ps.zip us)) : Binds K fd ps [] := fun s us _ hl => by
  rw [List.append_nil] at hl ⊢
  exact .of_eq (h us hl)
def Passes (CX : CXT) (X : Cx) (E : XK) : Prop := ∀ (pins : List (Addr × Obj)) (σ : St) (H : Hp) (s : Shared) (e : Value) (s' : Shared), Inv X pins σ H s → CX X.stack H s E e s' → X.xe e s'
section
variable {X : Cx} {CX : CXT} {k : Nat} {f C : Addr} {fd : FuncData} {ps : List Str} {sp : Sp} {dvs : List V} {ds : List Value} {E : XK} {x m : Str} {p pos apos : Pos} {e o : Expr} {es : List Expr} {ta : TE} {t : TA}
theorem JX {pins : List (Addr × Obj)} {σ : St} {H : Hp} {s : Shared} {Q : VK} {us : List Value} {vs : List V} (F : bB X.prog X.w X.K X.mg X.base CX k f fd ps sp) (hr : eT k X.A) (hb : Binds X.K fd ps ds) (hd : Vals dvs ds) (hx : Passes CX X E)
    (I : Inv X pins σ H s) (r : Vals vs us) (h : sp (vs ++ dvs) H Q E) : wpAny (model X.prog X.w) X.A (call (.ref f) us) (EP X pins σ Q) X.xe s := by
  have r2 : Vals (vs ++ dvs) (us ++ ds) := r.append hd
  have hl : (us ++ ds).length = ps.length := by rw [← r2.length]; exact F.len _ _ _ _ h
  refine wpAny_call (codeAny_mono (F.run X.A X.stack s H ⟨us, []⟩ (us ++ ds) (vs ++ dvs) Q E hr I.GW (hb s us I.kIn hl) r2 h) fun r s' hq => ?_)
  cases r with
  | error e => exact hx pins σ H s e s' I hq
  | ok fl =>
    cases fl with
    | ret u => exact I.after hq
    | next => exact False.elim hq
    | brk => exact False.elim hq
    | cont => exact False.elim hq
theorem C3 (F : bB X.prog X.w X.K X.mg X.base CX k f fd ps sp) (hr : eT k X.A) (hg : Gl X x) (hm : X.mg x = some (.ref f)) (hk : PySem.W.keepIn X.K (.ref f) = true) (hb : Binds X.K fd ps ds) (hd : Vals dvs ds) (hx : Passes CX X E)
    (ha : PA X (e :: es) t) (hdb : (x == ("__debug__" : Str)) = false := by decide) (he : starEach (e :: es) X.env = (false, eval e X.env) :: starEach es X.env := by rfl) (hpl : (backTo pos (starEach es X.env)).any (·.1) = false := by rfl) :
    PE X (.Call (.Name x p) (e :: es) [] pos) (LY sp dvs E t) := by
  intro pins s σ H Q I h
  refine wpAny_Call_Name_kw (nN I hg hm ?_ hdb)
  refine PySem.W.callWith_K (h₀ := X.base) I.ok.mod.kin hk (thn (ha pos pins s σ H _ I h) fun us s1 ⟨vs, H1, I1, r, q⟩ => ⟨I1.kIn, ?_⟩) he hpl
  exact JX F hr hb hd hx I1 r q
end
section
variable {X : Cx} {CX : CXT} {k : Nat} {f C : Addr} {fd : FuncData} {ps ks : List Str} {sp : Sp} {E : XK} {x m : Str} {p pos apos kpos : Pos} {e o : Expr} {es : List Expr} {kws : List Keyword} {te ta : TE} {t tk : TA} {nm : Option Str}
variable {g : List Value → List Value → List Value} {gV : List V → List V → List V}
end
structure aD (N P : List Str) (sc : Scope) : Prop where
  kind : sc.kind = .function
  co : sc.isCoroutine = false
  gen : sc.isGenerator = false
  nd : N.Nodup
  pre : N.take P.length = P
  par : ∀ x ∈ P, sc.names.lookup x = some .local ∨ sc.names.lookup x = some .cell
  Jg : ∀ y ∈ sc.names, y.2 ≠ .free
theorem w4 {kindOf : Str → Option NameKind} {x : Str} : ∀ {binds : List (Str × Value)} {m : Str → Option Value}, (∀ v, (x, v) ∉ binds) → bindL kindOf binds m x = m x
  | [], _, _ => rfl
  | (n, v) :: r, m, h => by
    unfold bindL
    rw [w4 fun w hw => h w (List.mem_cons_of_mem _ hw)]
    split
    · have : x ≠ n := by rintro rfl; exact h v List.mem_cons_self
      simp [this]
    · rfl
theorem w6 {kindOf : Str → Option NameKind} {x : Str} : ∀ {binds : List (Str × Value)} {m : Str → Option Value}, (∀ v, (x, v) ∉ binds) → bindC kindOf binds m x = m x
  | [], _, _ => rfl
  | (n, v) :: r, m, h => by
    unfold bindC
    rw [w6 fun w hw => h w (List.mem_cons_of_mem _ hw)]
    split
    · rfl
    · have : x ≠ n := by rintro rfl; exact h v List.mem_cons_self
      simp [this]
theorem wY {kindOf : Str → Option NameKind} {x : Str} {v : Value} : ∀ {P : List Str} {vs : List Value} {i : Nat} {m : Str → Option Value}, P.Nodup → P[i]? = some x → vs[i]? = some v → kindOf x = some .local →
    bindL kindOf (P.zip vs) m x = some v
  | [], _, _, _, _, h, _, _ => by simp at h
  | _ :: _, [], _, _, _, _, h, _ => by simp at h
  | p :: P, w :: vs, 0, m, nd, h1, h2, hk => by
    simp at h1 h2; subst h1; subst h2
    show bindL kindOf ((p, w) :: P.zip vs) m p = _
    unfold bindL
    rw [w4 fun v hv => (List.nodup_cons.mp nd).1 (List.of_mem_zip hv).1, if_pos hk]
    simp
  | p :: P, w :: vs, i + 1, m, nd, h1, h2, hk => by
    show bindL kindOf ((p, w) :: P.zip vs) m x = _
    unfold bindL
    exact wY (i := i) (List.nodup_cons.mp nd).2 (by simpa using h1) (by simpa using h2) hk
theorem wJ {kindOf : Str → Option NameKind} {x : Str} {v : Value} : ∀ {P : List Str} {vs : List Value} {i : Nat} {m : Str → Option Value}, P.Nodup → P[i]? = some x → vs[i]? = some v → kindOf x ≠ some .local →
    bindC kindOf (P.zip vs) m x = some v
  | [], _, _, _, _, h, _, _ => by simp at h
  | _ :: _, [], _, _, _, _, h, _ => by simp at h
  | p :: P, w :: vs, 0, m, nd, h1, h2, hk => by
    simp at h1 h2; subst h1; subst h2
    show bindC kindOf ((p, w) :: P.zip vs) m p = _
    unfold bindC
    rw [w6 fun v hv => (List.nodup_cons.mp nd).1 (List.of_mem_zip hv).1, if_neg hk]
    simp
  | p :: P, w :: vs, i + 1, m, nd, h1, h2, hk => by
    show bindC kindOf ((p, w) :: P.zip vs) m x = _
    unfold bindC
    exact wJ (i := i) (List.nodup_cons.mp nd).2 (by simpa using h1) (by simpa using h2) hk
def start (N : List Str) (vs : List V) : St := vs.map some ++ List.replicate (N.length - vs.length) none
def ke (CX : CXT) (P : Program) (w : World) (K : PySem.W.Frag) (mg : Str → Option Value) (base : Heap) (N : List Str) (qual : Str) (scope : Scope) (f : Addr) (cd : Value) (A : Around) (outer : List Env) (s : Shared) (H : Hp) (E : XK) : Cx where
  prog := P
  w := w
  K := K
  mg := mg
  base := base
  A := A.deeper (envOfC qual scope s.heap.objs.size f cd)
  N := N
  s₀ := s
  H₀ := H
  env := envOfC qual scope s.heap.objs.size f cd
  outer := outer
  stack := envOfC qual scope s.heap.objs.size f cd :: outer
  ex := []
  calm := true
  fn := fun _ => true
  pn := []
  xe := fun e s' => wpAny (model P w) (A.deeper (envOfC qual scope s.heap.objs.size f cd)) (leaving (envOfC qual scope s.heap.objs.size f cd) e) (fun _ s'' => CX outer H s E e s'') (fun e' s'' => CX outer H s E e' s'') s'
theorem zK {sc : Scope} {n : Nat} {x : Str} (h : sc.names.lookup x = some .cell) : ∃ c, (cellsFrom n sc.names []).lookup x = some c := by
  have q := PySem.W.cellsFrom_some sc.names n [] (.inl h)
  exact Option.isSome_iff_exists.mp q
theorem wQ {CX : CXT} {P : Program} {w : World} {K : PySem.W.Frag} {mg : Str → Option Value} {base : Heap} {N ps : List Str} {qual : Str} {scope : Scope} {f : Addr} {cd : Value} {A : Around} {outer : List Env} {s s1 : Shared} {H : Hp} {E : XK} {us : List Value} {vs : List V}
    (S : aD N ps scope) (hd : A.handled = none) (e0 : zH P w K mg base A outer s H) (hl : vs.length = ps.length) (r : Vals vs us)
    (x : InCallC s s.heap.objs.size (bindL (envOfC qual scope s.heap.objs.size f cd).kindOf (ps.zip us) fun _ => none) (cellsFrom (s.heap.objs.size + 1) scope.names []) (bindC (envOfC qual scope s.heap.objs.size f cd).kindOf (ps.zip us) fun _ => none) s1) :
    Inv (ke CX P w K mg base N qual scope f cd A outer s H E) [] (start N vs) H s1 := by
  have hpl : ps.length ≤ N.length := by have := congrArg List.length S.pre; rw [List.length_take] at this; omega
  obtain ⟨h1, tk, rfl, hk⟩ := x.done
  have noA : ∀ b : Addr, b ∉ (ke CX P w K mg base N qual scope f cd A outer s H E).ex := fun b z => absurd (show b ∈ ([] : List Addr) from z) (by simp)
  refine ⟨⟨e0.mod, S.kind, rfl, rfl, Nat.le_refl _, fun y z c h1 h2 => ?_, fun y hy => ?_, fun y c _ h => ?_, fun _ => hd, .inl hd, Around.frames_deeper e0.frames, .inr ⟨rfl, rfl⟩, fun b z => absurd z (noA b), e0.bs, e0.bsz, fun b _ _ => noA b, fun b z => absurd z (noA b), e0.oY, e0.frf⟩,
    rfl, e0.bare, Un.kept hk, ⟨_, x.toInCall.ns, fun i y v h1 h2 h3 => ?_⟩, fun y c h => ⟨_, x.cell y c h⟩, e0.hok.fresh (Nat.le_refl _), fun y c h => ?_, fun p hp => absurd (show p ∈ ([] : List (Addr × Obj)) from hp) (by simp), e0.hok.kept hk, ?_⟩
  · exact name_of_addr x.apart (PySem.mem_of_lookup h1) (PySem.mem_of_lookup h2)
  · have hy : scope.names.lookup y = some .cell ∨ scope.names.lookup y = some .free := hy
    rcases hy with hy | hy
    · exact zK hy
    · exact absurd rfl (S.Jg _ (PySem.mem_of_lookup hy))
  · exact Nat.le_of_lt (x.above y c (PySem.mem_of_lookup h))
  · have hi : i < vs.length := by
      unfold start at h2
      by_cases hi : i < vs.length
      · exact hi
      · rw [List.getElem?_append_right (by simpa using hi)] at h2
        rw [List.getElem?_replicate] at h2
        split at h2 <;> cases h2
    have ha : vs[i]? = some v := by
      unfold start at h2
      rw [List.getElem?_append_left (by simpa using hi), List.getElem?_map] at h2
      cases e : vs[i]? with
      | none => rw [e] at h2; cases h2
      | some a => rw [e] at h2; cases h2; rfl
    obtain ⟨u, hu, rv⟩ := r.get ha
    have hp : ps[i]? = some y := by
      rw [← S.pre, List.getElem?_take_of_lt (by omega)]; exact h1
    have ndP : ps.Nodup := by rw [← S.pre]; exact S.nd.sublist (List.take_sublist _ _)
    refine ⟨u, rv, ?_⟩
    rcases S.par y (List.mem_of_getElem? hp) with k | k
    · exact .inl ⟨k, wY ndP hp hu k⟩
    · obtain ⟨c, e⟩ := zK (n := s.heap.objs.size + 1) k
      refine .inr ⟨.inl k, c, e, ?_⟩
      have q := x.cell y c e
      rw [wJ ndP hp hu (by show scope.names.lookup y ≠ _; rw [k]; decide)] at q
      exact q
  · exact e0.hok.fresh (Nat.le_of_lt (x.above y c (PySem.mem_of_lookup h)))
  · unfold start
    show _ = N.length
    rw [List.length_append, List.length_map, List.length_replicate]
    omega
theorem Gy {CX : CXT} {P : Program} {w : World} {K : PySem.W.Frag} {mg : Str → Option Value} {base : Heap} {k : Nat} {f : Addr} {name qual : Str} {params : Arguments} {body : List Stmt} {scope : Scope} {dV kV doc pm cdv ct oc : Value} {an od : Option Addr}
    {osl : Array (Option Value)} {N ps : List Str} {sp : Sp} (lk : K.lookup f = some ⟨oc, od, .func (PySem.W.fnOf name qual params body scope dV kV doc pm an cdv ct), osl⟩) (hcd : PySem.W.codeIn K cdv qual = true) (S : aD N ps scope)
    (len : ∀ vs H Q E, sp vs H Q E → vs.length = ps.length)
    (hbody : ∀ (A : Around) (outer : List Env) (s : Shared) (H : Hp) (vs : List V) (Q : VK) (E : XK), eT k (A.deeper (envOfC qual scope s.heap.objs.size f cdv)) → sp vs H Q E →
      ∃ t, PSs (ke CX P w K mg base N qual scope f cdv A outer s H E) body t ∧ t { nx := fun _ H' => Q .non H', rt := Q } (start N vs) H) :
    bB P w K mg base CX (k + 1) f (PySem.W.fnOf name qual params body scope dV kV doc pm an cdv ct) ps sp := by
  refine ⟨len, fun A outer s H args us vs Q E hr e0 hb r hsp => ?_⟩
  have hl := len _ _ _ _ hsp
  have KX : K.In s.heap := e0.mod.kin.keeps fun b o e => (e0.bs b o e).1
  have lim : s.heap.NoLimit := e0.mod.nolimit.keeps fun b o e => (e0.bs b o e).1
  have hkind : ∀ y ∈ ps.zip us, scope.names.lookup y.1 = some .local ∨ (scope.names.lookup y.1 = some .cell ∧ ((cellsFrom (s.heap.objs.size + 1) scope.names []).lookup y.1).isSome = true) := fun ⟨n, v⟩ hy => by
    rcases S.par n (List.of_mem_zip hy).1 with q | q
    · exact .inl q
    · exact .inr ⟨q, PySem.W.cellsFrom_some _ _ _ (.inl q)⟩
  refine codeAny_call_function hr.depth (KX _ _ lk) rfl S.co S.gen rfl (PySem.W.codeRec_of KX hcd) (hb _ _ _ _ ?_)
  refine wpAny_newFunctionEnv_cells S.kind hkind fun env he s1 x => ?_
  subst he
  refine ⟨lim.keeps x.toInCall.keep, codeAny_func ?_⟩
  obtain ⟨t, ht, hq⟩ := hbody A outer s H vs Q E (hr.deeper _) hsp
  have I : Inv (ke CX P w K mg base N qual scope f cdv A outer s H E) [] (start N vs) H s1 := wQ S hr.hd e0 hl r x
  refine wpAny_mono (ht [] s1 (start N vs) H _ I hq) (fun fl s' hs => ?_) fun e s' hs => hs
  have fin : ∀ {σ' : St} {H' : Hp} {v : V} {u : Value}, Inv (ke CX P w K mg base N qual scope f cdv A outer s H E) [] σ' H' s' → RelV v u → Q v H' → CE outer P w H s Q u s' :=
    fun {σ' H' v u} J rv q => ⟨v, H', J.os, J.bare, J.base, J.hok, rv, q⟩
  cases fl with
  | ret u =>
    obtain ⟨v, σ', H', J, rv, q⟩ := hs
    exact fin J rv q
  | next =>
    obtain ⟨σ', H', J, q⟩ := hs
    exact fin (v := V.non) (u := Value.none) J rfl q
  | brk =>
    obtain ⟨_, _, _, q⟩ := hs
    exact False.elim q
  | cont =>
    obtain ⟨_, _, _, q⟩ := hs
    exact False.elim q
end L2
namespace L2
open PySem PySem.Spec PyProof.Rows
section
variable {X : Cx} {x : Str} {p pos : Pos} {e : Expr} {es : List Expr} {t : TA} {id T : String} {r : List V → Hp → VK → Prop}
def tCB (r : List V → Hp → VK → Prop) (t : TA) : TE := fun σ H Q => t σ H fun vs H1 => r vs H1 Q
theorem rj (hc : gp X (.builtin id) r) (hg : Gl X x) (hm : X.mg x = none) (hv : bootBuiltins x = some (.builtin id)) (ha : PA X (e :: es) t) (hn : x ≠ "__name__" := by decide) (hdb : (x == ("__debug__" : Str)) = false := by decide)
    (he : starEach (e :: es) X.env = (false, eval e X.env) :: starEach es X.env := by rfl) (hpl : (backTo pos (starEach es X.env)).any (·.1) = false := by rfl) : PE X (.Call (.Name x p) (e :: es) [] pos) (tCB r t) := by
  intro pins s σ H Q I h
  refine wpAny_Call_Name_kw (vz I hg hm hv ?_ hn hdb)
  exact PyProof.Rows.callWith_builtin1 (thn (ha pos pins s σ H _ I h) fun us s1 ⟨vs, H1, I1, r1, q1⟩ => hc pins s1 σ H1 vs us Q I1 r1 q1) he hpl
theorem Dw (hc : gp X (.type T) r) (hg : Gl X x) (hm : X.mg x = none) (hv : bootBuiltins x = some (.type T)) (ha : PA X (e :: es) t) (hn : x ≠ "__name__" := by decide) (hdb : (x == ("__debug__" : Str)) = false := by decide)
    (he : starEach (e :: es) X.env = (false, eval e X.env) :: starEach es X.env := by rfl) (hpl : (backTo pos (starEach es X.env)).any (·.1) = false := by rfl) : PE X (.Call (.Name x p) (e :: es) [] pos) (tCB r t) := by
  intro pins s σ H Q I h
  refine wpAny_Call_Name_kw (vz I hg hm hv ?_ hn hdb)
  exact PyProof.Rows.callWith_type1 (thn (ha pos pins s σ H _ I h) fun us s1 ⟨vs, H1, I1, r1, q1⟩ => hc pins s1 σ H1 vs us Q I1 r1 q1) he hpl
end
end L2
namespace HT
open PySem PyProof.Rows
section
open PySem.SeqAt
open PySem.AutoSeq1 (wpAny_loadPart')
open PySem.MeetsSeq PySem.MeetsSeq2 PySem.MeetsSeq3
end
section
variable {prog : Program} {w : World} {A : Around} {E : Value → Shared → Prop} {s : Shared}
theorem Hr {t b : Addr} {vs ws : List Value} {Q : Value → Shared → Prop} (ht : IsTup s.heap t vs.toArray) (hb : IsTup s.heap b ws.toArray) (hv : vs ≠ [])
    (h1 : ws = [] → Q (.ref t) s) (h2 : ws ≠ [] → Q (.ref s.heap.objs.size) { s with heap := s.heap.push { cls := .type "tuple", data := .seq (vs ++ ws).toArray } })
    (hsz : vs.length + ws.length ≤ sizeLine) : wpAny (model prog w) A (binaryOp .Add (.ref t) (.ref b)) Q E s := by
  obtain ⟨⟨cls, dd, data, sl⟩, ho, hc, n, hd⟩ := id ht
  obtain ⟨⟨cls2, dd2, data2, sl2⟩, ho2, hc2, n2, hd2⟩ := id hb
  simp only at hc hd hc2 hd2
  subst hc hd hc2 hd2
  have e : vs.toArray ++ ws.toArray = (vs ++ ws).toArray := by simp
  by_cases hw : ws = []
  · exact concat_meets ⟨_, ho, rfl⟩ ⟨_, ho2, rfl⟩ noFill_tuple_add seq_tuple_add PySem.F.slot_tuple_add PySem.F.entry_tuple_add (PySem.F.args_tuple_add_2 _ _)
      (tuple_addW1 t b vs.toArray ws.toArray n n2 dd dd2 sl sl2 (by simpa using hv) (by simp [hw])) ⟨ho, ho2, h1 hw⟩
  · refine concat_meets ⟨_, ho, rfl⟩ ⟨_, ho2, rfl⟩ noFill_tuple_add seq_tuple_add PySem.F.slot_tuple_add PySem.F.entry_tuple_add (PySem.F.args_tuple_add_2 _ _)
      (tuple_addW2 t b vs.toArray ws.toArray n n2 dd dd2 sl sl2 (by simpa using hv) (by simpa using hw) (by rw [List.size_toArray, List.size_toArray]; exact hsz)) ⟨ho, ho2, ?_⟩
    rw [e]
    exact h2 hw
def sIx (n d : Nat) : Option Int → Nat
  | none => d
  | some v => if v < 0 then (v + (n : Int)).toNat else min v.toNat n
theorem JA (n d : Nat) (hd : d ≤ n) (o : Option Int) : sIx n d o ≤ n := by
  cases o with
  | none => exact hd
  | some v =>
    show (if v < 0 then (v + (n : Int)).toNat else min v.toNat n) ≤ n
    by_cases hv : v < 0
    · rw [if_pos hv]; omega
    · rw [if_neg hv]; exact Nat.min_le_right _ _
theorem CW (v : Int) (n d : Nat) : (if v < 0 then max (v + (n : Int)) 0 else min v (n : Int)) = ((sIx n d (some v) : Nat) : Int) := by
  show (if v < 0 then max (v + (n : Int)) 0 else min v (n : Int)) = (((if v < 0 then (v + (n : Int)).toNat else min v.toNat n) : Nat) : Int)
  by_cases hv : v < 0
  · simp only [if_pos hv]; omega
  · simp only [if_neg hv]; omega
theorem Bu (lo hi : Option Int) (n : Nat) : Builtin.Slice.sliceAdjust lo hi 1 (n : Int) = (((sIx n 0 lo : Nat) : Int), ((sIx n n hi : Nat) : Int)) := by
  have h1 : ¬ ((1 : Int) < 0) := by omega
  unfold Builtin.Slice.sliceAdjust
  simp only [h1, if_false]
  refine Prod.ext ?_ ?_
  · cases lo with
    | none => rfl
    | some v => exact CW v n 0
  · cases hi with
    | none => rfl
    | some v => exact CW v n n
theorem BV (i j : Nat) : Builtin.Slice.slicePlaces (i : Int) (j : Int) 1 = j - i := by
  unfold Builtin.Slice.slicePlaces
  have h1 : (1 : Int) > 0 := by omega
  simp only [h1, if_true, Int.ediv_one]
  split <;> omega
theorem uD {v : Value} {o : Option Int} {Q : Option Int → Shared → Prop} (p : IsPart v o) (h : Q o s) : wpAny (model prog w) A (Builtin.Slice.slicePartIndex v) Q E s := by
  cases p with
  | none => exact slicePart_none h
  | int i t => exact slicePart_int h
theorem kA {sl : Addr} {vl vu : Value} {lo hi : Option Int} {n : Nat} {Q : Int × Int × Nat → Shared → Prop} (hs : s.heap.IsSliceOf sl vl vu .none) (pl : IsPart vl lo) (pu : IsPart vu hi)
    (h : Q (((sIx n 0 lo : Nat) : Int), 1, sIx n n hi - sIx n 0 lo) s) : wpAny (model prog w) A (Builtin.Slice.sliceApplied (.ref sl) (pure (n : Int))) Q E s := by
  obtain ⟨os, hos, hcs, hds⟩ := id hs
  unfold Builtin.Slice.sliceApplied Builtin.Slice.sliceFields
  refine wpAny_bind (wpAny_bind (wpAny_field hos hds (x := vl) rfl (wpAny_bind (wpAny_field hos hds (x := vu) rfl (wpAny_bind (wpAny_field hos hds (x := .none) rfl (wpAny_pure ?_)))))))
  refine wpAny_bind (slicePart_none ?_)
  show wpAny _ _ (if ((1 : Int) == 0) = true then _ else _) _ _ s
  rw [if_neg (by decide)]
  refine wpAny_bind (uD pl (wpAny_bind (uD pu (wpAny_bind (wpAny_pure ?_)))))
  show wpAny _ _ (match Builtin.Slice.sliceAdjust lo hi 1 (n : Int) with | (lo, hi) => pure (lo, (1 : Int), Builtin.Slice.slicePlaces lo hi 1)) _ _ s
  rw [Bu lo hi n]
  show wpAny _ _ (pure (((sIx n 0 lo : Nat) : Int), (1 : Int), Builtin.Slice.slicePlaces ((sIx n 0 lo : Nat) : Int) ((sIx n n hi : Nat) : Int) 1)) _ _ s
  rw [BV]
  exact wpAny_pure h
theorem Fe (xs : Array Value) (i k : Nat) : ((List.range k).filterMap fun (m : Nat) => xs[((i : Int) + (m : Int) * 1).toNat]?).toArray = ((xs.toList.drop i).take k).toArray := by
  have e : (fun (m : Nat) => xs[((i : Int) + (m : Int) * 1).toNat]?) = fun m => xs[i + m]? := by
    funext m
    have : ((i : Int) + (m : Int) * 1).toNat = i + m := by omega
    rw [this]
  rw [e]
  have := pick_run xs i k
  rw [List.filterMap_map] at this
  have e2 : ((fun x => xs[x]?) ∘ fun x => i + x) = fun m => xs[i + m]? := rfl
  rw [e2] at this
  rw [this]
theorem qW {t sl : Addr} {items : Array Value} {vl vu : Value} {lo hi : Option Int} {Q : Value → Shared → Prop} (ht : IsTup s.heap t items) (hs : s.heap.IsSliceOf sl vl vu .none) (pl : IsPart vl lo) (pu : IsPart vu hi)
    (hw : ¬ (sIx items.size 0 lo = 0 ∧ sIx items.size items.size hi = items.size))
    (h : Q (.ref s.heap.objs.size) { s with heap := s.heap.push { cls := .type "tuple", data := .seq ((items.toList.drop (sIx items.size 0 lo)).take (sIx items.size items.size hi - sIx items.size 0 lo)).toArray } })
    (hsz : items.size ≤ sizeLine) : wpAny (model prog w) A (getItem (.ref t) (.ref sl)) Q E s := by
  have htake : sizeOk (.seq ((items.toList.drop (sIx items.size 0 lo)).take (sIx items.size items.size hi - sIx items.size 0 lo)).toArray) := by
    show ((items.toList.drop (sIx items.size 0 lo)).take (sIx items.size items.size hi - sIx items.size 0 lo)).toArray.size ≤ sizeLine
    rw [List.size_toArray, List.length_take, List.length_drop, Array.length_toList]
    omega
  have hj : sIx items.size items.size hi ≤ items.size := JA _ _ (Nat.le_refl _) hi
  obtain ⟨os, hos, hcs, hds⟩ := id hs
  have hTs : s.TypeIs (.ref sl) "slice" := ⟨os, hos, hcs⟩
  unfold getItem
  try with_reducible refine wpAny_holding ?_
  first | refine wpAny_bind (wpAny_pure ?_) | skip
  refine wpAny_bind (wpAny_sequenceKey ht.typeIs (by decide) ?_)
  refine wpAny_bind (wpAny_callSpecial?_slot (name := Str.ofString "__getitem__") ht.typeIs PyProof.Rows.slot_tuple_getitem
    (wpAny_call_entry PyProof.Rows.slot_tuple_getitem ht.typeIs entry_tuple_getitem ?_ (args_tuple_getitem _ _)))
  show wpAny _ _ (Builtin.Tuple.tupleItemsOf (.ref t) >>= _) _ _ s
  refine wpAny_bind (tupleItemsOf_ ht ?_)
  refine wpAny_bind (wpAny_typeOf hTs ?_)
  rw [if_pos (by decide)]
  refine wpAny_bind (kA hs pl pu ?_)
  have hno : ¬ ((((sIx items.size 0 lo : Nat) : Int) == 0 && (1 : Int) == 1 && (sIx items.size items.size hi - sIx items.size 0 lo) == items.size) = true) := by
    intro q
    rw [Bool.and_eq_true, Bool.and_eq_true] at q
    have q1 : ((sIx items.size 0 lo : Nat) : Int) = 0 := eq_of_beq q.1.1
    have q2 : sIx items.size items.size hi - sIx items.size 0 lo = items.size := eq_of_beq q.2
    exact hw ⟨by omega, by omega⟩
  show wpAny _ _ (if (((sIx items.size 0 lo : Nat) : Int) == 0 && (1 : Int) == 1 && (sIx items.size items.size hi - sIx items.size 0 lo) == items.size) = true then _ else _) _ _ s
  rw [if_neg hno, Fe]
  first
    | exact wpAny_bind (m := Builtin.Tuple.tupleExact _) (wpAny_newObj_type (wpAny_pure ⟨_, rfl, wpAny_pure h⟩) htake)
    | exact wpAny_bind (m := Builtin.Tuple.tupleExact _) (wpAny_newObj_type (wpAny_bind (wpAny_pure (wpAny_pure ⟨_, rfl, wpAny_pure h⟩))) htake)
    | exact wpAny_bind (wpAny_bind (m := Builtin.Tuple.tupleExact _) (wpAny_newObj_type (wpAny_pure (wpAny_pure ⟨_, rfl, wpAny_pure h⟩)) htake))
    | exact wpAny_bind (wpAny_bind (m := Builtin.Tuple.tupleExact _) (wpAny_newObj_type (wpAny_pure ⟨_, rfl, wpAny_pure h⟩) htake))
end
end HT
namespace L2
open PySem PySem.Spec PyProof.Rows
abbrev TO := St → Hp → (Option Int → Hp → Prop) → Prop
def PO (X : Cx) (e : Option Expr) (t : TO) : Prop :=
  ∀ (pins : List (Addr × Obj)) (s : Shared) (σ : St) (H : Hp) (Q : Option Int → Hp → Prop), Inv X pins σ H s → t σ H Q →
    wpAny (model X.prog X.w) X.A (evalPart e X.env) (fun u s' => ∃ o H', Inv X pins σ H' s' ∧ IsPart u o ∧ Q o H') X.xe s
def HW : TO := fun _ H Q => Q none H
def K3 (t : TE) : TO := fun σ H Q => t σ H fun x H1 => ∃ i, x = .int i ∧ Q (some i) H1
section
variable {X : Cx} {e : Expr} {te : TE} {lo hi : Option Expr} {tl th : TO} {pos p2 : Pos}
theorem GO : PO X none HW := by
  intro pins s σ H Q I h
  rw [evalPart_none]
  exact wpAny_pure ⟨none, H, I, .none, h⟩
theorem Hv (h : PE X e te) : PO X (some e) (K3 te) := by
  intro pins s σ H Q I hw
  rw [evalPart_some]
  refine thn (h pins s σ H _ I hw) fun u s1 ⟨x, H1, I1, r1, q1⟩ => ?_
  obtain ⟨i, rfl, q⟩ := q1
  obtain ⟨t, rfl⟩ := r1
  exact ⟨some i, H1, I1, .int i t, q⟩
def SlR (X : Cx) (r : V → Option Int → Option Int → Hp → VK → Prop) : Prop :=
  ∀ (pins : List (Addr × Obj)) (s : Shared) (σ : St) (H : Hp) (x : V) (v vl vu : Value) (lo hi : Option Int) (sl : Addr) (Q : VK), Inv X pins σ H s → RelV x v → s.heap.IsSliceOf sl vl vu .none → IsPart vl lo → IsPart vu hi → r x lo hi H Q →
    ∃ T id, typeLookup (.type T) "__getitem__" = pure (some (.builtin id)) ∧ s.TypeIs v T ∧ wpAny (model X.prog X.w) X.A (getItem v (.ref sl)) (EP X pins σ Q) X.xe s
theorem SlR.or {r r' : V → Option Int → Option Int → Hp → VK → Prop} (h : SlR X r) (h' : SlR X r') : SlR X (fun x lo hi H Q => r x lo hi H Q ∨ r' x lo hi H Q) := by
  intro pins s σ H x v vl vu lo hi sl Q I rx hs pl pu q
  rcases q with q | q
  · exact h pins s σ H x v vl vu lo hi sl Q I rx hs pl pu q
  · exact h' pins s σ H x v vl vu lo hi sl Q I rx hs pl pu q
def tSl (r : V → Option Int → Option Int → Hp → VK → Prop) (te : TE) (tl th : TO) : TE := fun σ H Q => te σ H fun x H1 => tl σ H1 fun l H2 => th σ H2 fun u H3 => r x l u H3 Q
theorem GF {r : V → Option Int → Option Int → Hp → VK → Prop} (hr : SlR X r) (he : PE X e te) (hl : PO X lo tl) (hu : PO X hi th) : PE X (.Subscript e (.Slice lo hi none p2) pos) (tSl r te tl th) := by
  intro pins s σ H Q I h
  refine Subscript_ (thn (he pins s σ H _ I h) fun v s1 ⟨x, H1, I1, r1, q1⟩ => ?_)
  refine wpAny_Slice (thn (hl pins s1 σ H1 _ I1 q1) fun vl s2 ⟨l, H2, I2, pl, q2⟩ => thn (hu pins s2 σ H2 _ I2 q2) fun vu s3 ⟨u, H3, I3, pu, q3⟩ => ?_)
  rw [evalPart_none]
  refine wpAny_pure ?_
  have I4 : Inv X pins σ H3 { s3 with heap := s3.heap.push { cls := .type "slice", data := .fields #[vl, vu, .none] } } := I3.kept (t' := s3.toks) fun b ob q => Heap.get?_push_of_some _ q
  obtain ⟨T, id, hT, ht, hg⟩ := hr pins { s3 with heap := s3.heap.push { cls := .type "slice", data := .fields #[vl, vu, .none] } } σ H3 x v vl vu l u s3.heap.objs.size Q I4 r1 (Heap.IsSliceOf.new ..) pl pu q3
  show wpAny (model X.prog X.w) X.A (subscriptTail e (.Slice lo hi none p2) v (.ref s3.heap.objs.size)) (EP X pins σ Q) X.xe { s3 with heap := s3.heap.push { cls := .type "slice", data := .fields #[vl, vu, .none] } }
  exact tail_any (ops := [.ref s3.heap.objs.size, v]) ht hT hg (by with_unfolding_all rfl)
def yw (xs : List V) (lo hi : Option Int) : List V := (xs.drop (HT.sIx xs.length 0 lo)).take (HT.sIx xs.length xs.length hi - HT.sIx xs.length 0 lo)
theorem sO (xs : List V) (lo hi : Option Int) : (yw xs lo hi).length ≤ xs.length := by
  unfold yw
  rw [List.length_take, List.length_drop]
  omega
def Ma (K : PySem.W.Frag) : V → Option Int → Option Int → Hp → VK → Prop := fun x lo hi H Q => ∃ a xs, x = .ref a ∧ SqT K H a xs ∧
  ¬ (HT.sIx xs.length 0 lo = 0 ∧ HT.sIx xs.length xs.length hi = xs.length) ∧ ∀ p, H p = none → Q (.ref p) (upd H p (.tup (yw xs lo hi)))
theorem J0 : SlR X (Ma X.K) := by
  intro pins s σ H x v vl vu lo hi sl Q I rx hs pl pu h
  obtain ⟨a, xs, rfl, hx, hw, q⟩ := h
  cases rx
  obtain ⟨its, r, ht, hz⟩ := I.tuple hx
  have hlen : its.toArray.size = xs.length := by rw [List.size_toArray]; exact r.length.symm
  refine ⟨"tuple", _, PyProof.Rows.slot_tuple_getitem.lookup, ht.typeIs, ?_⟩
  refine HT.qW ht hs pl pu (by rw [hlen]; exact hw) ?_ (by rw [hlen]; exact hz)
  rw [hlen]
  refine ⟨.ref s.heap.objs.size, _, I.laid (t' := s.toks) (o := .tup (yw xs lo hi)) (fun b ob q => Heap.get?_push_of_some _ q) (Nat.le_refl _) ?_, rfl, q _ (I.hok.fresh (Nat.le_refl _))⟩
  exact ⟨Nat.le_trans (sO xs lo hi) hz, _, (r.drop (HT.sIx xs.length 0 lo)).take (HT.sIx xs.length xs.length hi - HT.sIx xs.length 0 lo), IsTup.new _ _⟩
def Lr (K : PySem.W.Frag) : R2 := fun x y H Q => ∃ a b xs ys, x = .ref a ∧ y = .ref b ∧ SqT K H a xs ∧ SqT K H b ys ∧ xs ≠ [] ∧ xs.length + ys.length ≤ sizeLine ∧
  (ys = [] → Q (.ref a) H) ∧ (ys ≠ [] → ∀ p, H p = none → Q (.ref p) (upd H p (.tup (xs ++ ys))))
theorem Vals.xn {xs : List V} {us : List Value} (r : Vals xs us) : us = [] ↔ xs = [] := by
  cases r with
  | nil => simp
  | cons _ _ => simp
theorem HS : OpR X (binaryOp .Add) (Lr X.K) := by
  intro pins s σ H x y v u Q I rx ry h
  obtain ⟨a, b, xs, ys, rfl, rfl, ha, hb, hx, hz, q1, q2⟩ := h
  cases rx
  cases ry
  obtain ⟨its, r1, p1, _⟩ := I.tuple ha
  obtain ⟨its2, r2, p2, _⟩ := I.tuple hb
  refine HT.Hr p1 p2 (fun z => hx (r1.xn.mp z)) (fun z => ⟨.ref a, H, I, rfl, q1 (r2.xn.mp z)⟩) (fun z => ?_) (by rw [← r1.length, ← r2.length]; exact hz)
  refine ⟨.ref s.heap.objs.size, _, I.laid (t' := s.toks) (o := .tup (xs ++ ys)) (fun b ob q => Heap.get?_push_of_some _ q) (Nat.le_refl _) ?_, rfl, q2 (fun w => z (r2.xn.mpr w)) _ (I.hok.fresh (Nat.le_refl _))⟩
  exact ⟨by rw [List.length_append]; exact hz, _, r1.append r2, IsTup.new _ _⟩
end
end L2
namespace L2
open PySem PySem.Spec PyProof.Rows
def ixN (n : Nat) (i : Int) : Option Nat := if 0 ≤ i then (if i < n then some i.toNat else none) else if -(n : Int) ≤ i then some (i + n).toNat else none
def atI {α : Type} (xs : List α) (i : Int) : Option α := (ixN xs.length i).bind fun j => xs[j]?
theorem C9 {n : Nat} {i : Int} {j : Nat} (h : ixN n i = some j) : seqIndex? i n = some j ∧ j < n ∧ -(n : Int) ≤ i ∧ i < n := by
  unfold ixN at h
  by_cases h0 : 0 ≤ i
  · rw [if_pos h0] at h
    by_cases h1 : i < n
    · rw [if_pos h1] at h
      have e : i.toNat = j := Option.some.inj h
      exact ⟨by rw [seqIndex_of h0 h1, e], by omega, by omega, h1⟩
    · rw [if_neg h1] at h; cases h
  · rw [if_neg h0] at h
    by_cases h1 : -(n : Int) ≤ i
    · rw [if_pos h1] at h
      have e : (i + n).toNat = j := Option.some.inj h
      exact ⟨by rw [seqIndex_neg (by omega) h1, e], by omega, h1, by omega⟩
    · rw [if_neg h1] at h; cases h
theorem xr {α : Type} {xs : List α} {i : Int} {v : α} (h : atI xs i = some v) : ∃ j, seqIndex? i xs.length = some j ∧ xs[j]? = some v ∧ j < xs.length ∧ -(xs.length : Int) ≤ i ∧ i < xs.length := by
  unfold atI at h
  cases e : ixN xs.length i with
  | none => rw [e] at h; cases h
  | some j =>
    rw [e] at h
    obtain ⟨h1, h2, h3, h4⟩ := C9 e
    exact ⟨j, h1, h, h2, h3, h4⟩
theorem uo {α : Type} {xs : List α} {j : Nat} {v : α} (h : xs[j]? = some v) : atI xs (j : Int) = some v := by
  have hj : j < xs.length := (List.getElem?_eq_some_iff.mp h).1
  have e : ixN xs.length (j : Int) = some j := by
    unfold ixN
    rw [if_pos (by omega), if_pos (by omega)]; simp
  unfold atI; rw [e]; exact h
def Dc (b : Expr) : Prop := ∀ o i, subscripted b false o i = operate [o, i] (getItem o i)
def IxR (X : Cx) (r : R2) : Prop :=
  ∀ (value slice : Expr) (pins : List (Addr × Obj)) (s : Shared) (σ : St) (H : Hp) (x y : V) (v u : Value) (Q : VK), Inv X pins σ H s → RelV x v → RelV y u → r x y H Q →
    subscripted slice false v u = operate [v, u] (getItem v u) → wpAny (model X.prog X.w) X.A (subscriptTail value slice v u) (EP X pins σ Q) X.xe s
def MtR (X : Cx) (id : String) (r : V → List V → Hp → VK → Prop) : Prop :=
  ∀ (pins : List (Addr × Obj)) (s : Shared) (σ : St) (H : Hp) (x : V) (xs : List V) (v : Value) (us : List Value) (Q : VK), Inv X pins σ H s → RelV x v → Vals xs us → r x xs H Q →
    wpAny (model X.prog X.w) X.A (call (.builtin id) (v :: us)) (EP X pins σ Q) X.xe s
section
variable {X : Cx} {a b : Expr} {ta tb : TE} {pos : Pos}
theorem IxR.or {r r' : R2} (h : IxR X r) (h' : IxR X r') : IxR X (fun x y H Q => r x y H Q ∨ r' x y H Q) := by
  intro value slice pins s σ H x y v u Q I rx ry q hs
  rcases q with q | q
  · exact h value slice pins s σ H x y v u Q I rx ry q hs
  · exact h' value slice pins s σ H x y v u Q I rx ry q hs
theorem MtR.or {id : String} {r r' : V → List V → Hp → VK → Prop} (h : MtR X id r) (h' : MtR X id r') : MtR X id (fun x xs H Q => r x xs H Q ∨ r' x xs H Q) := by
  intro pins s σ H x xs v us Q I rx rs q
  rcases q with q | q
  · exact h pins s σ H x xs v us Q I rx rs q
  · exact h' pins s σ H x xs v us Q I rx rs q
theorem Lg {r : R2} (hr : IxR X r) (ha : PE X a ta) (hb : PE X b tb) (hs : Dc b) : PE X (.Subscript a b pos) (tOp r ta tb) := by
  intro pins s σ H Q I h
  exact Subscript_ (Kn ha hb I h fun v u s2 x y H2 I2 rx ry q => hr a b pins s2 σ H2 x y v u Q I2 rx ry q (hs _ _))
def LN (K : PySem.W.Frag) : R2 := fun x y H Q => ∃ p xs i v, x = .ref p ∧ y = .int i ∧ SqL K H p xs ∧ atI xs i = some v ∧ Q v H
def Lu (K : PySem.W.Frag) : R2 := fun x y H Q => ∃ p xs i v, x = .ref p ∧ y = .int i ∧ SqT K H p xs ∧ atI xs i = some v ∧ Q v H
def L4 : R2 := fun x y H Q => ∃ z i c, x = .str z ∧ y = .int i ∧ z.length ≤ sizeLine ∧ atI z.cps.toList i = some c ∧ Q (.str ⟨#[c]⟩) H
theorem HX : IxR X (LN X.K) := by
  intro value slice pins s σ H x y v u Q I rx ry h hs
  obtain ⟨p, xs, i, z, rfl, rfl, hq, he, q⟩ := h
  cases rx
  obtain ⟨t, rfl⟩ := ry
  obtain ⟨its, r, pl, hz⟩ := I.list hq
  obtain ⟨j, h1, h2, h3, h4, h5⟩ := xr he
  obtain ⟨w, ew, rw'⟩ := r.get h2
  have hl := r.length
  have hn := uO
  have fin : EP X pins σ Q w s := ⟨z, H, I, rw', q⟩
  by_cases h0 : 0 ≤ i
  · have hj : i.toNat = j := by
      rw [seqIndex_of h0 h5] at h1
      exact Option.some.inj h1
    exact item_listR pl.isList h0 (by omega) (by rw [hj]; simpa using ew) fin hs
  · have hj : (i + (its.toArray.size : Int)).toNat = j := by
      rw [seqIndex_neg (by omega) h4] at h1
      rw [List.size_toArray, ← hl]
      exact Option.some.inj h1
    exact subscriptTail_builtinR (x := w) pl.isList.typeIs slot_list_getitem.lookup
      (wpAny_getItem_list_neg (Q := fun r s' => r = w ∧ EP X pins σ Q r s') pl.isList (by omega) (by rw [List.size_toArray] <;> omega) (by omega) (by rw [hj]; simpa using ew) ⟨rfl, fin⟩) hs
theorem Jn : IxR X (Lu X.K) := by
  intro value slice pins s σ H x y v u Q I rx ry h hs
  obtain ⟨p, xs, i, z, rfl, rfl, hq, he, q⟩ := h
  cases rx
  obtain ⟨t, rfl⟩ := ry
  obtain ⟨its, r, pl, hz⟩ := I.tuple hq
  obtain ⟨j, h1, h2, h3, h4, h5⟩ := xr he
  obtain ⟨w, ew, rw'⟩ := r.get h2
  have hl := r.length
  have hn := uO
  have fin : EP X pins σ Q w s := ⟨z, H, I, rw', q⟩
  exact subscriptTail_builtinR (x := w) pl.typeIs slot_tuple_getitem.lookup
    (getItem_tuple (j := j) (Q := fun r s' => r = w ∧ EP X pins σ Q r s') pl (by omega) (by omega) (by rw [List.size_toArray, ← hl]; exact h1) (by simpa using ew) ⟨rfl, fin⟩) hs
theorem Jj : IxR X L4 := by
  intro value slice pins s σ H x y v u Q I rx ry h hs
  obtain ⟨z, i, c, rfl, rfl, hz, he, q⟩ := h
  obtain ⟨t, rfl⟩ := rx
  obtain ⟨t', rfl⟩ := ry
  obtain ⟨j, h1, h2, h3, h4, h5⟩ := xr he
  have hl : z.cps.toList.length = z.length := by simp [Str.length]
  rw [hl] at h1 h4 h5
  have hn := uO
  exact tail_any (typeIs_str s z t) slot_str_getitem.lookup (getItem_str (c := c) (by
    have e1 : decide (i < -(2 ^ 63 : Int)) = false := decide_eq_false (by omega)
    have e2 : decide (i ≥ 2 ^ 63) = false := decide_eq_false (by omega)
    rw [e1, e2, Bool.or_false]) (by rw [h1]; simpa using h2) ⟨.str ⟨#[c]⟩, H, I.tok _, ⟨_, rfl⟩, q⟩) hs
def rIx (K : PySem.W.Frag) : R2 := fun x y H Q => LN K x y H Q ∨ Lu K x y H Q ∨ L4 x y H Q
theorem JL : IxR X (rIx X.K) := HX.or (Jn.or Jj)
theorem Ck (its : List Value) (n j : Nat) (u : Value) : Obj.mapSeq (·.setIfInBounds j u) { cls := .type "list", data := .seq its.toArray n } = { cls := .type "list", data := .seq (its.set j u).toArray n } := by
  simp [Obj.mapSeq]
theorem Inv.lst {pins : List (Addr × Obj)} {σ : St} {H : Hp} {s : Shared} {p : Addr} {xs : List V} (I : Inv X pins σ H s) (h : H p = some (.lst xs)) :
    ∃ (its : List Value) (n : Nat), Vals xs its ∧ s.heap.get? p = some { cls := .type "list", data := .seq its.toArray n } ∧ xs.length ≤ sizeLine := by
  obtain ⟨z, its, n, r, e⟩ := I.hok p _ h
  exact ⟨its, n, r, e, z⟩
theorem Inv.KJ {pins : List (Addr × Obj)} {σ : St} {H : Hp} {s : Shared} {p : Addr} {xs ys : List V} {its its' : List Value} {n n' : Nat} {f : Obj → Obj} (I : Inv X pins σ H s) (h : H p = some (.lst xs))
    (ho : s.heap.get? p = some { cls := .type "list", data := .seq its.toArray n }) (hf : f { cls := .type "list", data := .seq its.toArray n } = { cls := .type "list", data := .seq its'.toArray n' }) (r : Vals ys its') (hz : ys.length ≤ sizeLine) (t : Nat) :
    Inv X pins σ (upd H p (.lst ys)) { s with heap := s.heap.update p f, toks := t } := by
  have e : (s.heap.update p f).get? p = some { cls := .type "list", data := .seq its'.toArray n' } := by
    rw [Heap.get?_update_self f ho (by rw [hf] <;> rfl), hf]
  refine I.write (x := p) (e := p) (by rw [h]; trivial) (.inl rfl) (fun b u hb q => (Heap.get?_update_other _ _ (Ne.symm hb)).trans q) ⟨_, e⟩ ?_
  exact ⟨hz, its', n', r, e⟩
def Li : V → V → V → Hp → (Hp → Prop) → Prop := fun o i v H Q => ∃ p xs k j, o = .ref p ∧ i = .int k ∧ H p = some (.lst xs) ∧ ixN xs.length k = some j ∧ Q (upd H p (.lst (xs.set j v)))
theorem set_list : Lf X Li := by
  intro pins s σ H o i v ov iv u Q I ro ri rv h
  obtain ⟨p, xs, k, j, rfl, rfl, hp, hj, q⟩ := h
  cases ro
  obtain ⟨t, rfl⟩ := ri
  obtain ⟨its, n, r, ho, hz⟩ := I.lst hp
  obtain ⟨h1, h2, h3, h4⟩ := C9 hj
  have hl := r.length
  have hn := uO
  have I' : Inv X pins σ (upd H p (.lst (xs.set j v))) { s with heap := s.heap.update p (Obj.mapSeq (·.setIfInBounds j u)) } :=
    I.KJ hp ho (Ck its n j u) (r.set rv j) (by rw [List.length_set]; exact hz) s.toks
  by_cases h0 : 0 ≤ k
  · have hk : k.toNat = j := by
      rw [seqIndex_of h0 h4] at h1
      exact Option.some.inj h1
    exact PySem.W.ki_setAt ho h0 (by omega) (by rw [List.size_toArray, ← hl]; exact h4) (by rw [hk]; exact ⟨_, I', q⟩)
  · have hk : (k + (its.toArray.size : Int)).toNat = j := by
      rw [seqIndex_neg (by omega) h3] at h1
      rw [List.size_toArray, ← hl]
      exact Option.some.inj h1
    exact PySem.W.ki_setBack ho (by omega) (by rw [List.size_toArray, ← hl]; exact h3) (by omega) (by rw [hk]; exact ⟨_, I', q⟩)
theorem xN (lo hi : Option Int) (n : Nat) : (sliceBounds lo hi none n).1 = ((HT.sIx n 0 lo : Nat) : Int) ∧ (sliceBounds lo hi none n).2.1 = ((HT.sIx n n hi : Nat) : Int) ∧ (sliceBounds lo hi none n).2.2 = 1 := by
  refine ⟨?_, ?_, rfl⟩
  · cases lo with
    | none => simp [sliceBounds, HT.sIx]
    | some i =>
      simp only [sliceBounds, HT.sIx, Option.getD_none, show (1 : Int) > 0 by decide, if_true]
      by_cases h : i < 0
      · simp only [h, if_true] <;> omega
      · simp only [h, if_false] <;> omega
  · cases hi with
    | none => simp [sliceBounds, HT.sIx]
    | some i =>
      simp only [sliceBounds, HT.sIx, Option.getD_none, show (1 : Int) > 0 by decide, if_true]
      by_cases h : i < 0
      · simp only [h, if_true] <;> omega
      · simp only [h, if_false] <;> omega
theorem wH (its : List Value) (lo hi : Option Int) : slicePick its.toArray lo hi none = ((its.drop (HT.sIx its.length 0 lo)).take (HT.sIx its.length its.length hi - HT.sIx its.length 0 lo)).toArray := by
  obtain ⟨h1, h2, h3⟩ := xN lo hi its.toArray.size
  unfold slicePick
  rw [h1, h2, h3]
  simp only [sliceRange_one, pick_run, List.size_toArray] <;> rfl
def Mv (K : PySem.W.Frag) : V → Option Int → Option Int → Hp → VK → Prop := fun x lo hi H Q => ∃ a xs, x = .ref a ∧ SqL K H a xs ∧ ∀ p, H p = none → Q (.ref p) (upd H p (.lst (yw xs lo hi)))
theorem HR : SlR X (Mv X.K) := by
  intro pins s σ H x v vl vu lo hi sl Q I rx hs pl pu h
  obtain ⟨a, xs, rfl, hx, q⟩ := h
  cases rx
  obtain ⟨its, r, ht, hz⟩ := I.list hx
  have hlen := r.length
  refine ⟨"list", _, slot_list_getitem.lookup, ht.isList.typeIs, ?_⟩
  refine wpAny_getItem_list_slice ht.isList hs pl pu .none (by simp) ?_ (by rw [List.size_toArray] <;> omega)
  rw [wH, ← hlen]
  refine ⟨.ref s.heap.objs.size, _, I.laid (t' := s.toks) (o := .lst (yw xs lo hi)) (fun b ob q => Heap.get?_push_of_some _ q) (Nat.le_refl _) ?_, rfl, q _ (I.hok.fresh (Nat.le_refl _))⟩
  exact ⟨Nat.le_trans (sO xs lo hi) hz, _, 0, (r.drop (HT.sIx xs.length 0 lo)).take (HT.sIx xs.length xs.length hi - HT.sIx xs.length 0 lo), Heap.get?_push_size _ rfl⟩
theorem yi : gp X (.builtin "len") (fun xs H Q => ∃ p ys, xs = [.ref p] ∧ (SqL X.K H p ys ∨ SqT X.K H p ys) ∧ Q (.int ys.length) H) := by
  intro pins s σ H xs us Q I r h
  obtain ⟨p, ys, rfl, hq, q⟩ := h
  obtain ⟨u, rfl, rx⟩ := vals1 r
  cases rx
  have hn := uO
  rcases hq with hq | hq
  · obtain ⟨its, r', pl, hz⟩ := I.list hq
    have hlen := r'.length
    exact Calls.call_len_list pl.isList (by simp only [List.size_toArray] <;> omega) ⟨.int ys.length, H, I.tok _, ⟨s.toks + 1, by rw [List.size_toArray, hlen]⟩, q⟩
  · obtain ⟨its, r', pl, hz⟩ := I.tuple hq
    have hlen := r'.length
    exact len_tuple pl (by simp only [List.size_toArray] <;> omega) ⟨.int ys.length, H, I.tok _, ⟨s.toks + 1, by rw [List.size_toArray, hlen]⟩, q⟩
theorem gp.or {f : Value} {r r' : List V → Hp → VK → Prop} (h : gp X f r) (h' : gp X f r') : gp X f (fun xs H Q => r xs H Q ∨ r' xs H Q) := by
  intro pins s σ H xs us Q I rs q
  rcases q with q | q
  · exact h pins s σ H xs us Q I rs q
  · exact h' pins s σ H xs us Q I rs q
theorem xw : gp X (.type "list") (fun xs H Q => ∃ p ys, xs = [.ref p] ∧ (SqL X.K H p ys ∨ SqT X.K H p ys) ∧ ∀ l, H l = none → Q (.ref l) (upd H l (.lst ys))) := by
  intro pins s σ H xs us Q I r h
  obtain ⟨p, ys, rfl, hq, q⟩ := h
  obtain ⟨u, rfl, rx⟩ := vals1 r
  cases rx
  have fin : ∀ (its : List Value), Vals ys its → ys.length ≤ sizeLine → ∀ (h' : Heap) (c' : Nat), (∀ b o', s.heap.get? b = some o' → h'.get? b = some o') →
      h'.get? s.heap.objs.size = some { cls := .type "list", dict := none, data := .seq its.toArray c', slots := #[] } → EP X pins σ Q (.ref s.heap.objs.size) { s with heap := h' } := fun its r' hz h' c' kp e =>
    ⟨.ref s.heap.objs.size, _, I.laid (t' := s.toks) kp (Nat.le_refl _) (show i5 X.prog X.w _ h' _ (.lst ys) from ⟨hz, its, c', r', e⟩), rfl, q _ (I.hok.fresh (Nat.le_refl _))⟩
  rcases hq with hq | hq
  · obtain ⟨its, r', pl, hz⟩ := I.list hq
    have hlen := r'.length
    obtain ⟨o, ho, hc, n, hd⟩ := pl.isList
    exact call_list_seq p (.inl rfl) ho hc hd (fun h' c' kp e => fin its r' hz h' c' kp e) (by simp only [List.size_toArray] <;> omega)
  · obtain ⟨its, r', pl, hz⟩ := I.tuple hq
    have hlen := r'.length
    obtain ⟨o, ho, hc, n, hd⟩ := pl
    exact call_list_seq p (.inr rfl) ho hc hd (fun h' c' kp e => fin its r' hz h' c' kp e) (by simp only [List.size_toArray] <;> omega)
theorem wC : gp X (.type "tuple") (fun xs H Q => ∃ p ys, xs = [.ref p] ∧ ((SqL X.K H p ys ∧ ∀ l, H l = none → Q (.ref l) (upd H l (.tup ys))) ∨ (SqT X.K H p ys ∧ Q (.ref p) H))) := by
  intro pins s σ H xs us Q I r h
  obtain ⟨p, ys, rfl, h⟩ := h
  obtain ⟨u, rfl, rx⟩ := vals1 r
  cases rx
  rcases h with ⟨hq, q⟩ | ⟨hq, q⟩
  · obtain ⟨its, r', pl, hz⟩ := I.list hq
    have hlen := r'.length
    refine call_tuple_list pl.isList (fun h' kp => ?_) (by simp only [List.size_toArray] <;> omega)
    have I1 : Inv X pins σ H { s with heap := h' } := I.kept (t' := s.toks) kp
    have I2 : Inv X pins σ (upd H h'.objs.size (.tup ys)) { s with heap := h'.push { cls := .type "tuple", data := .seq its.toArray } } :=
      I1.laid (t' := s.toks) (fun b o e => Heap.get?_push_of_some _ e) (Nat.le_refl _) (show i5 X.prog X.w _ _ _ (.tup ys) from ⟨hz, its, r', IsTup.new _ _⟩)
    exact ⟨.ref h'.objs.size, _, I2, rfl, q _ (I1.hok.fresh (Nat.le_refl _))⟩
  · obtain ⟨its, r', pl, hz⟩ := I.tuple hq
    exact call_tuple_same pl ⟨.ref p, H, I, rfl, q⟩
def tyV (K : PySem.W.Frag) (T : String) (x : V) (H : Hp) : Prop := match x with
  | .str _ => T = "str"
  | .int _ => T = "int"
  | .ref p => (T = "list" ∧ ∃ xs, SqL K H p xs) ∨ (T = "tuple" ∧ ∃ o, K.lookup p = some o ∧ o.cls = .type "tuple" ∧ o.dict = none) ∨
      (T = "dict" ∧ ((∃ kvs, H p = some (.dK kvs)) ∨ ∃ kvs, H p = some (.dT kvs))) ∨ (T = "set" ∧ ∃ S n, H p = some (.set S n))
  | _ => False
theorem JT {pins : List (Addr × Obj)} {σ : St} {H : Hp} {s : Shared} {T : String} {x : V} {v : Value} (I : Inv X pins σ H s) (r : RelV x v) (ty : tyV X.K T x H) :
    s.TypeIs v T ∧ ∀ a, v = .ref a → ∃ ob, s.heap.get? a = some ob ∧ ob.dict = none := by
  cases x with
  | str z =>
    obtain ⟨t, rfl⟩ := r
    cases (show T = "str" from ty)
    exact ⟨typeIs_str s z t, fun _ e => nomatch e⟩
  | int i =>
    obtain ⟨t, rfl⟩ := r
    cases (show T = "int" from ty)
    exact ⟨typeIs_int s i t, fun _ e => nomatch e⟩
  | ref p =>
    cases r
    rcases ty with ⟨rfl, xs, hq⟩ | ⟨rfl, o, hk, hc, hd⟩ | ⟨rfl, hk⟩ | ⟨rfl, S, n, hk⟩
    · obtain ⟨its, _, pl, _⟩ := I.list hq
      refine ⟨pl.isList.typeIs, fun a e => ?_⟩
      cases e
      obtain ⟨o, n, e, c, hd, _⟩ := pl
      exact ⟨o, e, hd⟩
    · refine ⟨⟨o, I.kIn p o hk, hc⟩, fun a e => ?_⟩
      cases e
      exact ⟨o, I.kIn _ o hk, hd⟩
    · have z : ∃ o, s.heap.get? p = some o ∧ o.ExactDict := by
        rcases hk with ⟨kvs, hk⟩ | ⟨kvs, hk⟩
        · obtain ⟨_, _, _, _, o, _, _, e, ex, _⟩ := I.hok p _ hk
          exact ⟨o, e, ex⟩
        · obtain ⟨_, _, _, _, o, _, _, e, ex, _⟩ := I.hok p _ hk
          exact ⟨o, e, ex⟩
      obtain ⟨o, e, ex⟩ := z
      refine ⟨⟨o, e, ex.1⟩, fun a e2 => ?_⟩
      cases e2
      exact ⟨o, e, ex.2.1⟩
    · obtain ⟨o, _, _, _, e, ex, _⟩ := I.hok p _ hk
      refine ⟨⟨o, e, ex.1⟩, fun a e2 => ?_⟩
      cases e2
      exact ⟨o, e, ex.2.1⟩
  | _ => exact False.elim ty
def tBM (K : PySem.W.Frag) (T : String) (r : V → List V → Hp → VK → Prop) (to : TE) (t : TA) : TE := fun σ H Q => to σ H fun x H1 => tyV K T x H1 ∧ t σ H1 fun xs H2 => r x xs H2 Q
variable {o e : Expr} {es : List Expr} {to : TE} {t : TA} {name : Str} {apos cpos : Pos} {T id : String} {r : V → List V → Hp → VK → Prop}
theorem Lz (pa : PlainAttrs T) (slot : Slot T name id) (hty : typeOf (.builtin id) = pure (.type "method_descriptor")) (hm : MtR X id r) (ho : PE X o to) (ha : PA X (e :: es) t)
    (hbase : attributeBase o name X.env (eval o X.env) = eval o X.env := by rfl)
    (hfew : ((backTo cpos (starEach (e :: es) X.env)).all (fun x => !x.1) && (backToKw cpos (keywordEach [] X.env)).all (fun x => x.1.isSome)
      && decide ((e :: es).length + ([] : List Keyword).length + (if ([] : List Keyword).isEmpty then 0 else 1) < 30)) = true := by rfl)
    (hline : (apos.endLine == cpos.line) = true := by rfl) (hs : starEach (e :: es) X.env = (false, eval e X.env) :: starEach es X.env := by rfl) (hplain : (backTo cpos (starEach es X.env)).any (·.1) = false := by rfl) :
    PE X (.Call (.Attribute o name apos) (e :: es) [] cpos) (tBM X.K T r to t) := by
  intro pins s σ H Q I h
  refine wpAny_Call_method_late hbase hfew hline rfl (thn (ho pins s σ H _ I h) fun v s1 ⟨x, H1, I1, r1, ty, q1⟩ => ?_)
  obtain ⟨h1, h2⟩ := JT I1 r1 ty
  refine ⟨T, id, pa, slot, hty, h1, h2, ?_⟩
  have hA := ha cpos pins s1 σ H1 _ I1 q1
  rw [hs] at hA ⊢
  refine Calls.callWith_builtin (by show (false || (backTo cpos (starEach es X.env)).any (·.1)) = false; rw [hplain] <;> rfl) (Calls.evalArgs_plain ?_)
  exact thn hA fun us s2 ⟨vs, H2, I2, r2, q2⟩ => hm pins s2 σ H2 x vs v us Q I2 r1 r2 q2
end
end L2
namespace L2
open PySem PySem.Spec PyProof.Rows
def MtM (X : Cx) (id : String) (r : V → List V → Hp → VK → Prop) : Prop :=
  ∀ (pins : List (Addr × Obj)) (s : Shared) (σ : St) (H : Hp) (x : V) (xs : List V) (v : Value) (us : List Value) (Q : VK), Inv X pins σ H s → RelV x v → Vals xs us → r x xs H Q →
    wpAny (model X.prog X.w) X.A (call (.builtin id) (v :: us)) (EP X pins σ Q) X.xe s
theorem Vals.one : ∀ {x : V} {us : List Value}, Vals [x] us → ∃ u, us = [u] ∧ RelV x u
  | _, _, .cons r .nil => ⟨_, rfl, r⟩
theorem Vals.two : ∀ {x y : V} {us : List Value}, Vals [x, y] us → ∃ u v, us = [u, v] ∧ RelV x u ∧ RelV y v
  | _, _, _, .cons r (.cons q .nil) => ⟨_, _, rfl, r, q⟩
theorem Vals.reverse {xs : List V} {us : List Value} (h : Vals xs us) : Vals xs.reverse us.reverse := by
  induction h with
  | nil => exact .nil
  | cons r t ih => rw [List.reverse_cons, List.reverse_cons]; exact Vals.append ih (.cons r .nil)
section
variable {X : Cx} {pins : List (Addr × Obj)} {σ : St} {H : Hp} {s : Shared} {l b : Addr} {xs ys zs : List V}
theorem Inv.Lw {its its' : List Value} {n : Nat} {f : Array Value → Array Value} {t' : Nat} (I : Inv X pins σ H s) (hH : H l = some (.lst xs))
    (e : s.heap.get? l = some { cls := .type "list", data := .seq its.toArray n }) (hf : f its.toArray = its'.toArray) (hv : Vals ys its') (hz : ys.length ≤ sizeLine) :
    Inv X pins σ (upd H l (.lst ys)) { s with heap := s.heap.update l (Obj.mapSeq f), toks := t' } := by
  have q := PySem.IsL.update e f
  rw [hf] at q
  refine I.write (x := l) (e := l) (by rw [hH]; exact trivial) (.inl rfl) (fun b' u hb hu => (Heap.get?_update_other s.heap (Obj.mapSeq f) (Ne.symm hb)).trans hu) ⟨_, q⟩ ?_
  exact ⟨hz, its', _, hv, q⟩
theorem Inv.Mm {its : List Value} {t' : Nat} (I : Inv X pins σ H s) (hv : Vals ys its) (hz : ys.length ≤ sizeLine) :
    Inv X pins σ (upd H s.heap.objs.size (.lst ys)) { s with heap := s.heap.push { cls := .type "list", data := .seq its.toArray }, toks := t' } :=
  I.laid (fun _ _ q => Heap.get?_push_of_some _ q) (Nat.le_refl _) ⟨hz, its, 0, hv, Heap.get?_push_size _ rfl⟩
theorem Inv.fresh (I : Inv X pins σ H s) : H s.heap.objs.size = none := I.hok.fresh (Nat.le_refl _)
theorem Inv.EE (I : Inv X pins σ H s) (hH : H l = some (.lst xs)) : xs.length ≤ sizeLine ∧ ∃ (its : List Value) (n : Nat), Vals xs its ∧ xs.length = its.length ∧ s.heap.get? l = some { cls := .type "list", data := .seq its.toArray n } := by
  obtain ⟨z, its, n, r, e⟩ := I.hok l _ hH
  exact ⟨z, its, n, r, r.length, e⟩
theorem ES {n : Nat} (h : n ≤ sizeLine) : Builtin.List.listTooLong n = false := by
  unfold Builtin.List.listTooLong
  exact decide_eq_false (by omega)
end
section
variable {X : Cx}
def Ho : V → List V → Hp → VK → Prop := fun x vs H Q => ∃ l xs y, x = .ref l ∧ vs = [y] ∧ H l = some (.lst xs) ∧ xs.length < sizeLine ∧ Q .non (upd H l (.lst (xs ++ [y])))
theorem rS : MtM X "list.append" Ho := by
  intro pins s σ H x vs v us Q I rx rv h
  obtain ⟨l, xs, y, rfl, rfl, hH, hz, q⟩ := h
  cases rx
  obtain ⟨u, rfl, ru⟩ := rv.one
  obtain ⟨z, its, n, r, hl, e⟩ := I.EE hH
  refine call_meets F.slot_list_append ⟨_, e, rfl⟩ F.entry_list_append (F.args_list_append_2 _ _) (PySem.list_append l its.toArray n u (by rw [List.size_toArray]; omega)) ⟨e, ?_⟩
  refine ⟨.non, _, I.Lw (its' := its ++ [u]) hH e (by simp) (r.append (.cons ru .nil)) ?_, rfl, q⟩
  rw [List.length_append, List.length_singleton]
  omega
def GV : V → List V → Hp → VK → Prop := fun x vs H Q => ∃ l b xs zs, x = .ref l ∧ vs = [.ref b] ∧ H l = some (.lst xs) ∧ H b = some (.lst zs) ∧ xs.length + zs.length ≤ sizeLine ∧ Q .non (upd H l (.lst (xs ++ zs)))
theorem KO : MtM X "list.extend" GV := by
  intro pins s σ H x vs v us Q I rx rv h
  obtain ⟨l, b, xs, zs, rfl, rfl, hH, hB, hz, q⟩ := h
  cases rx
  obtain ⟨u, rfl, ru⟩ := rv.one
  cases ru
  obtain ⟨z, its, n, r, hl, e⟩ := I.EE hH
  obtain ⟨z2, its2, n2, r2, hl2, e2⟩ := I.EE hB
  have hsz : its.toArray.size + its2.toArray.size ≤ sizeLine := by rw [List.size_toArray, List.size_toArray]; omega
  have hlong : ¬ (!its.toArray.isEmpty && Builtin.List.listTooLong (its.toArray.size + its2.toArray.size)) = true := by
    rw [ES hsz, Bool.and_false]
    exact Bool.false_ne_true
  refine call_meets F.slot_list_extend ⟨_, e, rfl⟩ F.entry_list_extend (F.args_list_extend_2 _ _)
    (AutoSeq1.list_extend_list_list_0 l its.toArray n b its2.toArray n2 hlong (by rw [List.size_toArray]; omega) (by omega)) ⟨e, e2, ?_⟩
  refine ⟨.non, _, I.Lw (its' := its ++ its2) hH e (by simp) (r.append r2) ?_, rfl, q⟩
  rw [List.length_append]
  omega
def Jc : R2 := fun x y H Q => ∃ l b xs zs, x = .ref l ∧ y = .ref b ∧ H l = some (.lst xs) ∧ H b = some (.lst zs) ∧ xs.length + zs.length ≤ sizeLine ∧ ∀ p, H p = none → Q (.ref p) (upd H p (.lst (xs ++ zs)))
theorem Jz : OpR X (binaryOp .Add) Jc := by
  intro pins s σ H x y v u Q I rx ry h
  obtain ⟨l, b, xs, zs, rfl, rfl, hH, hB, hz, q⟩ := h
  cases rx
  cases ry
  obtain ⟨z, its, n, r, hl, e⟩ := I.EE hH
  obtain ⟨z2, its2, n2, r2, hl2, e2⟩ := I.EE hB
  refine PySem.P.add_list e e2 ?_ (by rw [List.size_toArray, List.size_toArray]; omega)
  have ea : its.toArray ++ its2.toArray = (its ++ its2).toArray := by simp
  rw [ea]
  exact ⟨.ref _, _, I.Mm (t' := s.toks) (r.append r2) (by rw [List.length_append]; omega), rfl, q _ I.fresh⟩
end
section
variable {prog : Program} {w : World} {A : Around} {E : Value → Shared → Prop} {s : Shared}
end
section
variable {X : Cx}
end
end L2
namespace Att
open PySem PySem.W PySem.Calls PyProof.Rows
theorem tQ {P : Params} {h : Heap} : ∀ (ns : List Int) (vs : List Value), WellAll P h vs (ns.map WData.int) → IntsAre vs ns := by
  intro ns
  induction ns with
  | nil =>
    intro vs w
    rw [List.map_nil] at w
    cases w
    exact .nil
  | cons n ns ih =>
    intro vs w
    rw [List.map_cons] at w
    cases w with
    | cons a b =>
      cases a
      exact .cons _ _ (ih _ b)
theorem Du {l : OpenLaw} {n : Nat} (hn : l.most = some n) {P : Params} {h : Heap} {args : List WData} {vals : List Value}
    (hpre : l.row.toRowW.claim.pre args = true) (hwl : WellAll P h vals args) :
    ∃ a vs ns, vals = [Value.ref a] ∧ args = [WData.list (ns.map WData.int)] ∧ h.get? a = some { cls := .type "list", data := .seq vs.toArray } ∧ IntsAre vs ns ∧ ns.length ≤ n := by
  have hsh : WShape.hasAll [] args [.list .int] = true := (pre_splitW hpre).1
  have hc : l.pre.holds [] { args := args } = true := (pre_splitW hpre).2
  obtain ⟨d, r, rfl, h1, h2⟩ := hasAllW_cons hsh
  obtain rfl := hasAllW_nil h2
  obtain ⟨xs, rfl, h3⟩ := hasW_list h1
  obtain ⟨ns, rfl⟩ := items_int h3
  have hlen : ns.length ≤ n := by
    unfold OpenLaw.pre at hc
    have h4 : (WTm.not (.lt (.lit (.int (n : Int))) (.len (.arg 0)))).holds [] { args := [.list (ns.map .int)] } = true := by
      have h4 := (holds_andW hc).1
      rw [hn] at h4
      exact h4
    have h5 := condW_of h4 (w_not (w_lt w_lit (w_len_list (w_arg rfl))))
    rw [List.length_map] at h5
    refine Nat.le_of_not_lt fun q => ?_
    have q' : (n : Int) < ((ns.length : Nat) : Int) := by omega
    first
      | (rw [decide_eq_true q'] at h5; exact absurd h5 (by decide))
      | (simp at h5; omega)
  cases hwl with
  | cons w1 w2 =>
    cases w2
    cases w1 with
    | list ho hall => exact ⟨_, _, ns, rfl, rfl, ho, tQ ns _ hall, hlen⟩
theorem DZ (l : OpenLaw) (args : List WData) : l.row.toRowW.claim.post args (.bool true) args = true :=
  postW_of (r := l.row.toRowW) (X := (true == true))
    (show WShape.has [] (.bool true) .bool = true by first | rfl | decide | simp [WShape.has, WShape.arms, WShape.armsAll])
    (show (WTm.eq .res (.lit (.bool true))).value [] { args := args, res := some (.bool true), after := args } = some (.bool (true == true)) from w_eq_bool (w_res rfl) w_lit) rfl
theorem zr {l : OpenLaw} {n : Nat} {q : Program} {loose : List Str} {XP : (Str → Option Value) → Heap → Prop} {YP : World → Heap → Prop} {d : DefRec}
    (hn : l.most = some n) (hdf : d.params.defaults = [])
    (call : ∀ (w : World) (s₀ s₁ : Shared) (mg mb : Str → Option Value) (fa : Addr) (o : Obj) (pm cd doc : Value) (a : Addr) (vs : List Value) (ns : List Int),
      Ground q loose [] XP w s₀ mg mb s₁.heap → YP w s₁.heap →
      s₁.heap.get? fa = some o → o.data = .func (docDef d.name d.params d.body d.scope pm cd doc) → s₁.heap.CodeRec cd d.name → mg d.name = some (.ref fa) →
      s₁.heap.get? a = some { cls := .type "list", data := .seq vs.toArray } → IntsAre vs ns → ns.length ≤ n → s₁.gens = #[] →
      codeAny (model l.prog w) callerA (.call (.ref fa) ⟨[.ref a], []⟩) (fun r s' => r = .ok (.ret (.bool true)) ∧ OldK s₁.heap s'.heap ∧ s'.os = s₁.os ∧ AllBare s'.gens) s₁) :
    WalkO q loose XP YP l.row.toRowW d [] (fun f vs => PySem.call f vs) := by
  intro w s₀ s₁ mg mb G Y fa o pm cd doc dV kV ho hd hcd hD hmg hg args vals as hpre hlay hrd hwl hlo
  obtain rfl : dV = .none := Dflts.none hD hdf
  obtain rfl : kV = .none := Dflts.noKw hD
  obtain ⟨a, vs, ns, rfl, rfl, hobj, hints, hlen⟩ := Du hn hpre hwl
  refine enter_call (codeAny_mono (call w s₀ s₁ mg mb fa o pm cd doc a vs ns G Y ho (fd_plain hd) hcd hmg hobj hints hlen hg) fun r s' hq => ?_)
  obtain ⟨rfl, h2, h3, h4⟩ := hq
  exact ⟨.inl ⟨.bool true, .bool true, [], rfl, fun _ => rfl, .bool true, DZ l _, fun _ => ⟨List.Pairwise.nil, fun _ hm => (nomatch hm)⟩⟩, h2, h3, h4⟩
section
variable {prog : Program} {w : World} {A : Around} {E : Value → Shared → Prop} {s : Shared} {K : Frag}
def ledger (h : Heap) (L d : Addr) : List (Addr × Obj) := (List.range h.objs.size).filterMap fun a => if a = L ∨ a = d then none else (h.get? a).map fun o => (a, o)
end
end Att
namespace L2
open PySem PySem.Spec PyProof.Rows
theorem wK : ∀ {vs : List Value} {ns : List Int}, IntsAre vs ns → Vals (ns.map V.int) vs
  | _, _, .nil => .nil
  | _, _, .cons n t h => .cons ⟨t, rfl⟩ (wK h)
end L2
namespace L2
open PySem PySem.Spec PyProof.Rows
end L2
namespace L2
open PySem PySem.Spec PyProof.Rows
abbrev CX0 : CXT := fun _ _ _ _ _ _ => False
abbrev E0 : XK := fun _ _ _ => False
theorem KU {X : Cx} : Passes CX0 X E0 := fun _ _ _ _ _ _ _ h => h.elim
structure Fun (K : PySem.W.Frag) (x qual : Str) (st : Stmt) (f : Addr) (fd : FuncData) : Prop where
  ex : ∃ (oc : Value) (od : Option Addr) (kV doc pm : Value) (an : Option Addr) (cdv ct : Value) (osl : Array (Option Value)),
    fd = PySem.W.fnOf x qual (nV st) (eY st) (au st) .none kV doc pm an cdv ct ∧ K.lookup f = some ⟨oc, od, .func fd, osl⟩ ∧ PySem.W.codeIn K cdv qual = true
  kp : PySem.W.keepIn K (.ref f) = true
section
variable {P : Program} {w : World} {K : PySem.W.Frag} {mg : Str → Option Value} {base : Heap}
theorem Fun.ok {x qual : Str} {st : Stmt} {f : Addr} {fd : FuncData} {N ps : List Str} {k : Nat} {sp : Sp} (F : Fun K x qual st f fd) (S : aD N ps (au st)) (len : ∀ vs H Q E, sp vs H Q E → vs.length = ps.length)
    (hbody : ∀ (cdv : Value) (A : Around) (outer : List Env) (s : Shared) (H : Hp) (vs : List V) (Q : VK) (E : XK), eT k (A.deeper (envOfC qual (au st) s.heap.objs.size f cdv)) → sp vs H Q E →
      ∃ t, PSs (ke CX0 P w K mg base N qual (au st) f cdv A outer s H E).nox (eY st) t ∧ t { nx := fun _ H' => Q .non H', rt := Q } (start N vs) H) : bB P w K mg base CX0 (k + 1) f fd ps sp := by
  obtain ⟨oc, od, kV, doc, pm, an, cdv, ct, osl, rfl, lk, hcd⟩ := F.ex
  refine Gy lk hcd S len fun A outer s H vs Q E hr hsp => ?_
  obtain ⟨t, h, q⟩ := hbody cdv A outer s H vs Q E hr hsp
  exact ⟨t, h.nox, q⟩
theorem Fun.binds {x qual : Str} {st : Stmt} {f : Addr} {fd : FuncData} {ps : List Str} (F : Fun K x qual st f fd)
    (h : ∀ (kV doc pm : Value) (an : Option Addr) (cdv ct : Value) (us : List Value), us.length = ps.length → bindArgs (PySem.W.fnOf x qual (nV st) (eY st) (au st) .none kV doc pm an cdv ct) ⟨us, []⟩ = pure (ps.zip us)) : Binds K fd ps [] := by
  obtain ⟨oc, od, kV, doc, pm, an, cdv, ct, osl, rfl, lk, hcd⟩ := F.ex
  exact .all (h kV doc pm an cdv ct)
theorem aX {x qual : Str} {st : Stmt} {f : Addr} {oc : Value} {od an : Option Addr} {osl : Array (Option Value)} {kV doc pm cdv ct : Value} (l : K.lookup f = some ⟨oc, od, .func (PySem.W.fnOf x qual (nV st) (eY st) (au st) .none kV doc pm an cdv ct), osl⟩)
    (c : PySem.W.codeIn K cdv qual = true) (k : PySem.W.keepIn K (.ref f) = true) : Fun K x qual st f (PySem.W.fnOf x qual (nV st) (eY st) (au st) .none kV doc pm an cdv ct) := ⟨⟨oc, od, kV, doc, pm, an, cdv, ct, osl, rfl, l, c⟩, k⟩
end
theorem fS {n : Nat} (h : n ≤ 1000) : n < sizeLine := Nat.lt_of_le_of_lt h (by decide)
section
variable {X : Cx}
end
theorem zd {A B : Prop} (h : B) : if false = true then A else B := by
  rw [if_neg Bool.false_ne_true]
  exact h
theorem yf {A B : Prop} (h : A) : if true = true then A else B := by
  rw [if_pos rfl]
  exact h
def n5 (H H' : Hp) : Prop := ∀ b o, H b = some o → H' b = some o
theorem n5.refl (H : Hp) : n5 H H := fun _ _ h => h
theorem n5.trans {H H1 H2 : Hp} (a : n5 H H1) (b : n5 H1 H2) : n5 H H2 := fun c o h => b c o (a c o h)
theorem n5.free {H H' : Hp} (e : n5 H H') {l : Addr} (h : H' l = Option.none) : H l = Option.none := by
  cases q : H l with
  | none => rfl
  | some o =>
    rw [e l o q] at h
    cases h
end L2
set_option linter.all false
set_option maxRecDepth 100000
set_option maxHeartbeats 4000000
namespace NM
@[irreducible] def Sz (n : Nat) (i : Int) : Prop := i.natAbs < 2 ^ n
theorem Sz.mono {n m : Nat} {i : Int} (h : Sz n i) (l : n ≤ m) : Sz m i := by unfold Sz at *; exact Nat.lt_of_lt_of_le h (Nat.pow_le_pow_right (by decide) l)
theorem Sz.mul {n m : Nat} {i j : Int} (h : Sz n i) (g : Sz m j) : Sz (n + m) (i * j) := by
  unfold Sz at *
  rw [Int.natAbs_mul, Nat.pow_add]
  exact Nat.mul_lt_mul'' h g
theorem Sz.add {n : Nat} {i j : Int} (h : Sz n i) (g : Sz n j) : Sz (n + 1) (i + j) := by
  unfold Sz at *
  have := Int.natAbs_add_le i j
  rw [Nat.pow_succ]
  omega
theorem Sz.neg {n : Nat} {i : Int} (h : Sz n i) : Sz n (-i) := by unfold Sz at *; rw [Int.natAbs_neg]; exact h
theorem Sz.sub {n : Nat} {i j : Int} (h : Sz n i) (g : Sz n j) : Sz (n + 1) (i - j) := by rw [Int.sub_eq_add_neg]; exact h.add g.neg
theorem Sz.le {n : Nat} {i j : Int} (h : Sz n i) (g : j.natAbs ≤ i.natAbs) : Sz n j := by unfold Sz at *; exact Nat.lt_of_le_of_lt g h
theorem Sz.of {n : Nat} {i : Int} (h : i.natAbs < 2 ^ n) : Sz n i := by unfold Sz; exact h
theorem Sz.lt {n : Nat} {i : Int} (h : Sz n i) : i.natAbs < 2 ^ n := by unfold Sz at h; exact h
def g3 (a b c : Int) : Nat := Int.gcd (Int.gcd a b : Nat) c
theorem GI (a b c : Int) : Int.gcd (Int.gcd c a : Nat) b = g3 a b c := by
  unfold g3
  simp only [Int.gcd, Int.natAbs_natCast]
  rw [Nat.gcd_assoc, Nat.gcd_comm]
theorem Ek (a b c : Int) : ((g3 a b c : Nat) : Int) ∣ a ∧ ((g3 a b c : Nat) : Int) ∣ b ∧ ((g3 a b c : Nat) : Int) ∣ c := by
  have h : ((g3 a b c : Nat) : Int) ∣ ((Int.gcd a b : Nat) : Int) := Int.gcd_dvd_left ..
  exact ⟨Int.dvd_trans h (Int.gcd_dvd_left ..), Int.dvd_trans h (Int.gcd_dvd_right ..), Int.gcd_dvd_right ..⟩
theorem JJ {a b c : Int} {k : Nat} (h1 : (k : Int) ∣ a) (h2 : (k : Int) ∣ b) (h3 : (k : Int) ∣ c) : k ∣ g3 a b c := by
  unfold g3
  exact Int.dvd_gcd (Int.natCast_dvd_natCast.mpr (Int.dvd_gcd h1 h2)) h3
theorem xj {a b c : Int} (h : c ≠ 0) : 0 < g3 a b c := by
  unfold g3
  exact Int.gcd_pos_of_ne_zero_right _ h
theorem Cc (a b c k : Int) : g3 (a * k) (b * k) (c * k) = g3 a b c * k.natAbs := by
  unfold g3
  simp only [Int.gcd, Int.natAbs_natCast, Int.natAbs_mul, Nat.gcd_mul_right]
theorem E7 (a b c : Int) : g3 a (-b) c = g3 a b c := by
  unfold g3
  rw [Int.gcd_neg]
theorem Fz (a b c : Int) : g3 (-a) b c = g3 a b c := by
  unfold g3
  rw [Int.neg_gcd]
structure N3 where
  a : Int
  b : Int
  c : Int
deriving DecidableEq
theorem N3.ext' {x y : N3} (h1 : x.a = y.a) (h2 : x.b = y.b) (h3 : x.c = y.c) : x = y := by cases x; cases y; simp_all
structure Ok (x : N3) : Prop where
  c : 0 < x.c
  g : g3 x.a x.b x.c = 1
def dv (a b c : Int) : Int := if c < 0 then -(g3 a b c : Nat) else (g3 a b c : Nat)
def low (a b c : Int) : N3 := ⟨a.fdiv (dv a b c), b.fdiv (dv a b c), c.fdiv (dv a b c)⟩
theorem xH {a k q : Int} (hk : k ≠ 0) (h : a = k * q) : a.fdiv k = q := by
  subst h
  exact Int.mul_fdiv_cancel_left q hk
theorem Ln {a b c : Int} (h : c ≠ 0) : dv a b c ≠ 0 := by
  have := xj (a := a) (b := b) h
  unfold dv
  split <;> omega
theorem JZ (a b c : Int) : dv a b c ∣ a ∧ dv a b c ∣ b ∧ dv a b c ∣ c := by
  obtain ⟨h1, h2, h3⟩ := Ek a b c
  unfold dv
  split
  · exact ⟨Int.neg_dvd.mpr h1, Int.neg_dvd.mpr h2, Int.neg_dvd.mpr h3⟩
  · exact ⟨h1, h2, h3⟩
theorem kR (a b : Int) {c : Int} (h : c ≠ 0) : ∃ k : Int, k ≠ 0 ∧ (0 < k ↔ 0 < c) ∧ a = k * (low a b c).a ∧ b = k * (low a b c).b ∧ c = k * (low a b c).c ∧ Ok (low a b c) := by
  have hk := Ln (a := a) (b := b) h
  obtain ⟨⟨p, hp⟩, ⟨q, hq⟩, ⟨r, hr⟩⟩ := JZ a b c
  have ep : (low a b c).a = p := xH hk hp
  have eq : (low a b c).b = q := xH hk hq
  have er : (low a b c).c = r := xH hk hr
  have hg := xj (a := a) (b := b) h
  have hs : 0 < dv a b c ↔ 0 < c := by unfold dv; split <;> omega
  have hr0 : 0 < r := by
    have hr' : r ≠ 0 := fun z => h (by rw [hr, z, Int.mul_zero])
    rcases Int.lt_trichotomy 0 (dv a b c) with z | z | z
    · have := hs.mp z
      rw [hr] at this
      rw [Int.mul_comm] at this
      exact Int.pos_of_mul_pos_left this z |> fun t => t
    · exact absurd z.symm hk
    · have : c < 0 := by omega
      rcases Int.lt_trichotomy 0 r with w | w | w
      · exact w
      · exact absurd w.symm hr'
      · have := Int.mul_pos_of_neg_of_neg z w
        rw [← hr] at this
        omega
  refine ⟨dv a b c, hk, hs, by rw [ep]; exact hp, by rw [eq]; exact hq, by rw [er]; exact hr, by rw [er]; exact hr0, ?_⟩
  rw [ep, eq, er]
  have e := Cc p q r (dv a b c)
  rw [Int.mul_comm p, Int.mul_comm q, Int.mul_comm r, ← hp, ← hq, ← hr] at e
  have e2 : (dv a b c).natAbs = g3 a b c := by unfold dv; split <;> simp
  rw [e2] at e
  have : g3 p q r * g3 a b c = 1 * g3 a b c := by omega
  exact Nat.eq_of_mul_eq_mul_right hg this
theorem mI (a b : Int) {c : Int} (h : c ≠ 0) : Ok (low a b c) := (kR a b h).choose_spec.2.2.2.2.2
theorem Ok.same {x y : N3} (hx : Ok x) (hy : Ok y) (h1 : x.a * y.c = y.a * x.c) (h2 : x.b * y.c = y.b * x.c) : x = y := by
  have key : ∀ {u v : N3}, Ok u → Ok v → u.a * v.c = v.a * u.c → u.b * v.c = v.b * u.c → u.c ∣ v.c := fun {u v} hu hv e1 e2 => by
    have hd : u.c.natAbs ∣ g3 (u.a * v.c) (u.b * v.c) (u.c * v.c) := JJ
      (by rw [Int.natAbs_of_nonneg (Int.le_of_lt hu.c), e1]; exact Int.dvd_mul_left _ _) (by rw [Int.natAbs_of_nonneg (Int.le_of_lt hu.c), e2]; exact Int.dvd_mul_left _ _) (by rw [Int.natAbs_of_nonneg (Int.le_of_lt hu.c)]; exact Int.dvd_mul_right _ _)
    rw [Cc, hu.g, Nat.one_mul] at hd
    exact Int.natAbs_dvd_natAbs.mp hd
  have hc : x.c = y.c := Int.dvd_antisymm (Int.le_of_lt hx.c) (Int.le_of_lt hy.c) (key hx hy h1 h2) (key hy hx h1.symm h2.symm)
  have hn : y.c ≠ 0 := by have := hy.c; omega
  rw [hc] at h1 h2
  exact N3.ext' (Int.eq_of_mul_eq_mul_right hn h1) (Int.eq_of_mul_eq_mul_right hn h2) hc
theorem Ok.low {x : N3} (h : Ok x) : low x.a x.b x.c = x := by
  have hc : x.c ≠ 0 := by have := h.c; omega
  obtain ⟨k, hk, _, p1, p2, p3, o⟩ := kR x.a x.b hc
  refine o.same h ?_ ?_
  · exact Int.eq_of_mul_eq_mul_left hk (by grind)
  · exact Int.eq_of_mul_eq_mul_left hk (by grind)
theorem Kv (a b : Int) {c : Int} (h : c ≠ 0) : (low a b c).a.natAbs ≤ a.natAbs ∧ (low a b c).b.natAbs ≤ b.natAbs ∧ (low a b c).c.natAbs ≤ c.natAbs := by
  obtain ⟨k, hk, _, p1, p2, p3, _⟩ := kR a b h
  have hk' : 1 ≤ k.natAbs := by omega
  have le : ∀ {u v : Int}, u = k * v → v.natAbs ≤ u.natAbs := fun {u v} e => by
    rw [e, Int.natAbs_mul]
    exact Nat.le_mul_of_pos_left _ hk'
  exact ⟨le p1, le p2, le p3⟩
structure Bd (n : Nat) (x : N3) : Prop where
  a : Sz n x.a
  b : Sz n x.b
  c : Sz n x.c
theorem Bd.mono {n m : Nat} {x : N3} (h : Bd n x) (l : n ≤ m) : Bd m x := ⟨h.a.mono l, h.b.mono l, h.c.mono l⟩
theorem sA {a b c : Int} {n : Nat} (h : c ≠ 0) (ha : Sz n a) (hb : Sz n b) (hc : Sz n c) : Bd n (low a b c) := by
  obtain ⟨h1, h2, h3⟩ := Kv a b h
  exact ⟨ha.le h1, hb.le h2, hc.le h3⟩
def plus (x y : N3) : N3 := low (x.a * y.c + y.a * x.c) (x.b * y.c + y.b * x.c) (x.c * y.c)
def less (x y : N3) : N3 := low (x.a * y.c - y.a * x.c) (x.b * y.c - y.b * x.c) (x.c * y.c)
def times (d : Int) (x y : N3) : N3 := low (x.a * y.a + d * x.b * y.b) (x.a * y.b + x.b * y.a) (x.c * y.c)
def norm (d : Int) (x : N3) : Int := x.a * x.a - d * x.b * x.b
def bz (d : Int) (x : N3) : N3 := low (x.c * x.a) (-x.c * x.b) (norm d x)
def BQ (x : N3) : N3 := ⟨x.a, -x.b, x.c⟩
def minus (x : N3) : N3 := ⟨-x.a, -x.b, x.c⟩
def dj : N3 := ⟨0, 0, 1⟩
def one : N3 := ⟨1, 0, 1⟩
theorem Ok.cn {x : N3} (h : Ok x) : x.c ≠ 0 := by have := h.c; omega
theorem tE {x y : N3} (h : Ok x) (g : Ok y) : x.c * y.c ≠ 0 := Int.mul_ne_zero h.cn g.cn
theorem gf {x : N3} (h : Ok x) : Ok (minus x) := ⟨h.c, by show g3 (-x.a) (-x.b) x.c = 1; rw [Fz, E7]; exact h.g⟩
theorem p5 {x y : N3} (h : Ok x) (g : Ok y) : Ok (plus x y) := mI _ _ (tE h g)
theorem tZ {x y : N3} (h : Ok x) (g : Ok y) : Ok (less x y) := mI _ _ (tE h g)
theorem eV {d : Int} {x y : N3} (h : Ok x) (g : Ok y) : Ok (times d x y) := mI _ _ (tE h g)
theorem rC : Ok dj := ⟨by decide, by decide⟩
theorem EA : Ok one := ⟨by decide, by decide⟩
theorem mw {n : Nat} {x : N3} (h : Bd n x) : Bd n (minus x) := ⟨h.a.neg, h.b.neg, h.c⟩
theorem CB {n m : Nat} {x y : N3} (hx : Ok x) (hy : Ok y) (h : Bd n x) (g : Bd m y) : Bd (n + m + 1) (plus x y) :=
  sA (tE hx hy) ((h.a.mul g.c).add ((g.a.mul h.c).mono (by omega))) ((h.b.mul g.c).add ((g.b.mul h.c).mono (by omega))) ((h.c.mul g.c).mono (by omega))
theorem wj {d : Int} (h : 2 ≤ d) (h' : d ≤ 30) : Sz 5 d := by unfold Sz; omega
theorem qi {n m : Nat} {d : Int} {x y : N3} (hd : Sz 5 d) (hx : Ok x) (hy : Ok y) (h : Bd n x) (g : Bd m y) : Bd (n + m + 6) (times d x y) :=
  sA (tE hx hy) (((h.a.mul g.a).mono (by omega)).add (((hd.mul h.b).mul g.b).mono (by omega))) ((((h.a.mul g.b).mono (by omega : n + m ≤ n + m)).add ((h.b.mul g.a).mono (by omega))).mono (by omega)) ((h.c.mul g.c).mono (by omega))
theorem yJ {n : Nat} {d : Int} {x : N3} (hd : Sz 5 d) (h : Bd n x) : Sz (2 * n + 6) (norm d x) := by
  have e1 := h.a.mul h.a
  have e2 := (hd.mul h.b).mul h.b
  exact ((e1.mono (by omega : n + n ≤ 5 + n + n)).sub e2).mono (by omega)
theorem nu {n : Nat} {d : Int} {x : N3} (hd : Sz 5 d) (hn : norm d x ≠ 0) (h : Bd n x) : Bd (2 * n + 6) (bz d x) :=
  sA hn ((h.c.mul h.a).mono (by omega)) ((h.c.neg.mul h.b).mono (by omega)) (yJ hd h)
def aO (d : Int) : Prop := 2 ≤ d ∧ d ≤ 30 ∧ d ≠ 4 ∧ d ≠ 9 ∧ d ≠ 16 ∧ d ≠ 25
theorem Eb {d : Nat} (h : ∀ m : Nat, m * m ≠ d) : ∀ {a b : Nat}, a * a = d * (b * b) → b = 0 := fun {a b} e => by
  rcases Nat.eq_zero_or_pos b with hb | hb
  · exact hb
  exfalso
  obtain ⟨g, p, q, hg, hc, rfl, rfl⟩ := Nat.exists_coprime' (m := a) (n := b) (Nat.gcd_pos_of_pos_right _ hb)
  have e2 : (p * p) * (g * g) = (d * (q * q)) * (g * g) := by grind
  have e3 : p * p = d * (q * q) := Nat.eq_of_mul_eq_mul_right (Nat.mul_pos hg hg) e2
  have hq : q ∣ p * p := ⟨d * q, by rw [e3]; grind⟩
  have hq1 : q ∣ p := hc.symm.dvd_of_dvd_mul_left hq
  have hq2 : q = 1 := by
    have := Nat.dvd_gcd hq1 (Nat.dvd_refl q)
    rw [hc] at this
    exact Nat.dvd_one.mp this
  subst hq2
  exact h p (by rw [e3]; simp)
theorem aO.nat {d : Int} (h : aO d) : ∀ m : Nat, m * m ≠ d.toNat := fun m e => by
  obtain ⟨h1, h2, h3, h4, h5, h6⟩ := h
  have hm : m ≤ 5 := by
    rcases Nat.lt_or_ge 5 m with z | z
    · have := Nat.mul_le_mul z z; omega
    · exact z
  have : m = 0 ∨ m = 1 ∨ m = 2 ∨ m = 3 ∨ m = 4 ∨ m = 5 := by omega
  rcases this with rfl | rfl | rfl | rfl | rfl | rfl <;> omega
theorem aO.B4 {d a b : Int} (h : aO d) (e : a * a = d * b * b) : a = 0 ∧ b = 0 := by
  have hd : d = ((d.toNat : Nat) : Int) := by have := h.1; omega
  have e1 : a.natAbs * a.natAbs = d.toNat * (b.natAbs * b.natAbs) := by
    have e2 := congrArg Int.natAbs e
    rw [Int.natAbs_mul, Int.natAbs_mul, Int.natAbs_mul] at e2
    rw [e2, Nat.mul_assoc]
    congr 1
    omega
  have hb := Eb h.nat e1
  have hb' : b = 0 := by omega
  subst hb'
  have : a * a = 0 := by rw [e]; simp
  exact ⟨by rcases Int.mul_eq_zero.mp this with z | z <;> exact z, rfl⟩
theorem aO.norm {d : Int} {x : N3} (h : aO d) (ok : Ok x) (hx : x ≠ dj) : norm d x ≠ 0 := fun e => by
  have e' : x.a * x.a = d * x.b * x.b := by unfold NM.norm at e; omega
  obtain ⟨h1, h2⟩ := h.B4 e'
  apply hx
  have hg := ok.g
  rw [h1, h2] at hg
  have hc := ok.c
  have : x.c = 1 := by
    unfold g3 at hg
    simp [Int.gcd] at hg
    omega
  exact N3.ext' h1 h2 this
theorem du {d : Int} {x : N3} (h : NM.norm d x ≠ 0) : Ok (bz d x) := mI _ _ h
def sg (d a b : Int) : Int :=
  if a = 0 ∧ b = 0 then 0 else if 0 ≤ a ∧ 0 ≤ b then 1 else if a ≤ 0 ∧ b ≤ 0 then -1 else if (if d * b * b < a * a then a else b) > 0 then 1 else -1
theorem IC {u v : Int} (hu : 0 ≤ u) (h : u * u ≤ v * v) (hv : 0 ≤ v) : u ≤ v := by
  rcases Int.lt_or_le v u with z | z
  · have := Int.mul_lt_mul_of_pos_left z (show 0 < u by omega)
    have := Int.mul_le_mul_of_nonneg_right (Int.le_of_lt z) hv
    omega
  · exact z
theorem sq_nonneg (u : Int) : 0 ≤ u * u := by
  rcases Int.le_total 0 u with h | h
  · exact Int.mul_nonneg h h
  · exact Int.mul_nonneg_of_nonpos_of_nonpos h h
def P (d a b : Int) : Prop := (0 ≤ a ∧ 0 ≤ b ∧ ¬ (a = 0 ∧ b = 0)) ∨ (0 < a ∧ b < 0 ∧ d * b * b < a * a) ∨ (a < 0 ∧ 0 < b ∧ a * a < d * b * b)
theorem dy {d a b : Int} (h : aO d) : sg d a b = 1 ↔ P d a b := by
  unfold sg P
  have key : a * a = d * b * b → a = 0 ∧ b = 0 := h.B4
  by_cases c1 : d * b * b < a * a
  · simp only [c1, if_true]; split <;> (try split) <;> (try split) <;> (try split) <;> simp <;> omega
  · simp only [c1, if_false]; split <;> (try split) <;> (try split) <;> (try split) <;> simp <;> omega
theorem uB {d a b : Int} (h : aO d) : sg d (-a) (-b) = - sg d a b := by
  unfold sg
  have key : a * a = d * b * b → a = 0 ∧ b = 0 := h.B4
  have e1 : d * -b * -b = d * b * b := by grind
  have e2 : -a * -a = a * a := by grind
  rw [e1, e2]
  by_cases c1 : d * b * b < a * a
  · simp only [c1, if_true]; split <;> split <;> (try split) <;> (try split) <;> (try split) <;> (try split) <;> (try split) <;> (try split) <;> omega
  · simp only [c1, if_false]; split <;> split <;> (try split) <;> (try split) <;> (try split) <;> (try split) <;> (try split) <;> (try split) <;> omega
theorem eo {d a b : Int} : sg d a b = 0 ↔ a = 0 ∧ b = 0 := by
  unfold sg; split <;> (try split) <;> (try split) <;> (try split) <;> omega
theorem sC (d a b : Int) : sg d a b = 0 ∨ sg d a b = 1 ∨ sg d a b = -1 := by
  unfold sg; split <;> (try split) <;> (try split) <;> (try split) <;> omega
theorem KS {d a b : Int} (h : aO d) : (a = 0 ∧ b = 0) ∨ P d a b ∨ P d (-a) (-b) := by
  rcases sC d a b with e | e | e
  · exact .inl (eo.mp e)
  · exact .inr (.inl ((dy h).mp e))
  · exact .inr (.inr ((dy h).mp (by rw [uB h, e]; rfl)))
theorem nQ {d a b : Int} (h : aO d) (n : d * b * b < a * a) : P d a b ↔ 0 < a := by
  unfold P
  have := sq_nonneg b
  have h0 : 0 ≤ d * b * b := by rw [Int.mul_assoc]; exact Int.mul_nonneg (by have := h.1; omega) this
  have ha : a ≠ 0 := fun z => by subst z; simp at n; omega
  omega
theorem kE {d a b : Int} (h : aO d) (n : a * a < d * b * b) : P d a b ↔ 0 < b := by
  unfold P
  have h0 := sq_nonneg a
  have hb : b ≠ 0 := fun z => by subst z; simp at n; omega
  omega
theorem qx {u v : Int} (h : v * v < u * u) : 0 < u + v ↔ 0 < u := by
  have hu : u ≠ 0 := fun z => by subst z; have := sq_nonneg v; simp at h; omega
  have l : v.natAbs < u.natAbs := by
    rcases Nat.lt_or_ge v.natAbs u.natAbs with z | z
    · exact z
    · have := Nat.mul_le_mul z z
      have e1 : ((u.natAbs * u.natAbs : Nat) : Int) = u * u := Int.natAbs_mul_self
      have e2 : ((v.natAbs * v.natAbs : Nat) : Int) = v * v := Int.natAbs_mul_self
      omega
  omega
theorem mul_pos_iff {u v : Int} (hu : u ≠ 0) (hv : v ≠ 0) : 0 < u * v ↔ (0 < u ↔ 0 < v) := by
  rcases Int.lt_or_gt_of_ne hu with h | h <;> rcases Int.lt_or_gt_of_ne hv with g | g
  · have := Int.mul_pos_of_neg_of_neg h g; omega
  · have := Int.mul_neg_of_neg_of_pos h g; omega
  · have := Int.mul_neg_of_pos_of_neg h g; omega
  · have := Int.mul_pos h g; omega
theorem uA {u v s t : Int} (hu : 0 ≤ u) (h : u < v) (hs : 0 ≤ s) (g : s < t) : u * s < v * t := by
  have e1 : u * s ≤ v * s := Int.mul_le_mul_of_nonneg_right (Int.le_of_lt h) hs
  have e2 : v * s < v * t := Int.mul_lt_mul_of_pos_left g (by omega)
  omega
theorem dsq {d b : Int} (hd : 0 < d) : 0 ≤ d * b * b := by rw [Int.mul_assoc]; exact Int.mul_nonneg (Int.le_of_lt hd) (sq_nonneg b)
theorem Lq {d a b p q : Int} (h : aO d) (h1 : ¬ (a = 0 ∧ b = 0)) (h2 : ¬ (p = 0 ∧ q = 0)) : P d (a * p + d * b * q) (a * q + b * p) ↔ (P d a b ↔ P d p q) := by
  have hd : 0 < d := by have := h.1; omega
  have n1 : a * a ≠ d * b * b := fun e => h1 (h.B4 e)
  have n2 : p * p ≠ d * q * q := fun e => h2 (h.B4 e)
  have pz : ∀ {u v : Int}, d * v * v < u * u → u ≠ 0 := fun {u v} e z => by subst z; have := dsq (b := v) hd; simp at e; omega
  have qz : ∀ {u v : Int}, u * u < d * v * v → v ≠ 0 := fun {u v} e z => by subst z; have := sq_nonneg u; simp at e; omega
  have id1 : (a * p + d * b * q) * (a * p + d * b * q) - d * (a * q + b * p) * (a * q + b * p) = (a * a - d * b * b) * (p * p - d * q * q) := by grind
  rcases Int.lt_or_gt_of_ne n1 with c1 | c1 <;> rcases Int.lt_or_gt_of_ne n2 with c2 | c2
  · have pp := Int.mul_pos_of_neg_of_neg (show a * a - d * b * b < 0 by omega) (show p * p - d * q * q < 0 by omega)
    rw [nQ h (by omega), kE h c1, kE h c2]
    have sq : (a * p) * (a * p) < (d * b * q) * (d * b * q) := by
      have e2 := uA (sq_nonneg a) c1 (sq_nonneg p) c2
      grind
    rw [Int.add_comm, qx sq, Int.mul_assoc, mul_pos_iff (by omega) (Int.mul_ne_zero (qz c1) (qz c2)), mul_pos_iff (qz c1) (qz c2)]
    omega
  · have pp := Int.mul_neg_of_neg_of_pos (show a * a - d * b * b < 0 by omega) (show 0 < p * p - d * q * q by omega)
    rw [kE h (by omega), kE h c1, nQ h c2]
    have sq : (a * q) * (a * q) < (b * p) * (b * p) := by
      have e2 := uA (sq_nonneg a) c1 (dsq (b := q) hd) c2
      have e3 : d * ((a * q) * (a * q)) < d * ((b * p) * (b * p)) := by grind
      exact Int.lt_of_mul_lt_mul_left e3 (Int.le_of_lt hd)
    rw [Int.add_comm, qx sq, mul_pos_iff (qz c1) (pz c2)]
  · have pp := Int.mul_neg_of_pos_of_neg (show 0 < a * a - d * b * b by omega) (show p * p - d * q * q < 0 by omega)
    rw [kE h (by omega), nQ h c1, kE h c2]
    have sq : (b * p) * (b * p) < (a * q) * (a * q) := by
      have e2 := uA (dsq (b := b) hd) c1 (sq_nonneg p) c2
      have e3 : d * ((b * p) * (b * p)) < d * ((a * q) * (a * q)) := by grind
      exact Int.lt_of_mul_lt_mul_left e3 (Int.le_of_lt hd)
    rw [qx sq, mul_pos_iff (pz c1) (qz c2)]
  · have pp := Int.mul_pos (show 0 < a * a - d * b * b by omega) (show 0 < p * p - d * q * q by omega)
    rw [nQ h (by omega), nQ h c1, nQ h c2]
    have sq : (d * b * q) * (d * b * q) < (a * p) * (a * p) := by
      have e2 := uA (dsq (b := b) hd) c1 (dsq (b := q) hd) c2
      grind
    rw [qx sq, mul_pos_iff (pz c1) (pz c2)]
theorem LQ {d A x B y : Int} (hd : 0 < d) (hA : 0 ≤ A) (hx : 0 ≤ x) (hB : 0 ≤ B) (hy : 0 ≤ y) (h1 : A * A ≤ d * B * B) (h2 : x * x ≤ d * y * y) : A * x ≤ d * (B * y) := by
  refine IC (Int.mul_nonneg hA hx) ?_ (Int.mul_nonneg (Int.le_of_lt hd) (Int.mul_nonneg hB hy))
  have := Int.mul_le_mul h1 h2 (sq_nonneg x) (dsq hd)
  grind
theorem T1 {d A x B y : Int} (hd : 0 < d) (hA : 0 ≤ A) (hx : 0 ≤ x) (hB : 0 ≤ B) (hy : 0 ≤ y) (h1 : A * A < d * B * B) (h2 : x * x < d * y * y) : (A + x) * (A + x) < d * (B + y) * (B + y) := by
  have := LQ hd hA hx hB hy (Int.le_of_lt h1) (Int.le_of_lt h2)
  grind
theorem T2 {d A x B y : Int} (hd : 0 < d) (hA : 0 ≤ A) (hx : 0 ≤ x) (hB : 0 ≤ B) (hy : 0 ≤ y) (h1 : d * B * B < A * A) (h2 : d * y * y < x * x) : d * (B + y) * (B + y) < (A + x) * (A + x) := by
  have : d * (B * y) ≤ A * x := by
    refine IC (Int.mul_nonneg (Int.le_of_lt hd) (Int.mul_nonneg hB hy)) ?_ (Int.mul_nonneg hA hx)
    have := uA (dsq (b := B) hd) h1 (dsq (b := y) hd) h2
    grind
  grind
theorem Z1 {d x1 y1 x2 y2 : Int} (hd : 0 < d) (h1 : x1 * x1 < d * y1 * y1) (h2 : d * y2 * y2 < x2 * x2) (a1 : 0 ≤ x2) (a2 : x2 ≤ x1) (a3 : 0 ≤ y1) (a4 : y1 ≤ y2) : False := by
  have e1 := Int.mul_le_mul a2 a2 a1 (Int.le_trans a1 a2)
  have e2 := Int.mul_le_mul_of_nonneg_left (Int.mul_le_mul a4 a4 a3 (Int.le_trans a3 a4)) (Int.le_of_lt hd)
  grind
theorem Z2 {d x1 y1 x2 y2 x3 y3 : Int} (hd : 0 < d) (h1 : x1 * x1 < d * y1 * y1) (h2 : d * y2 * y2 < x2 * x2) (h3 : d * y3 * y3 < x3 * x3) (a1 : 0 ≤ x2) (a2 : 0 ≤ y2) (a3 : 0 ≤ x3) (a4 : 0 ≤ y3) (e1 : x1 = x2 + x3) (e2 : y1 = y2 + y3) : False := by
  subst e1 e2
  have := T2 hd a1 a3 a2 a4 h2 h3
  omega
theorem Z3 {d x1 y1 x2 y2 x3 y3 : Int} (hd : 0 < d) (h1 : d * y1 * y1 < x1 * x1) (h2 : x2 * x2 < d * y2 * y2) (h3 : x3 * x3 < d * y3 * y3) (a1 : 0 ≤ x2) (a2 : 0 ≤ y2) (a3 : 0 ≤ x3) (a4 : 0 ≤ y3) (e1 : x1 = x2 + x3) (e2 : y1 = y2 + y3) : False := by
  subst e1 e2
  have := T1 hd a1 a3 a2 a4 h2 h3
  omega
theorem Ll {d a b p q u v : Int} (h : aO d) (h1 : P d a b) (h2 : P d p q) (h3 : P d u v) (e1 : a + p + u = 0) (e2 : b + q + v = 0) : False := by
  have hd : 0 < d := by have := h.1; omega
  unfold P at h1 h2 h3
  have x1 : ∀ {u c : Int}, u * u < c → -u * -u < c := fun {u c} e => by grind
  have x2 : ∀ {u c : Int}, c < u * u → c < -u * -u := fun {u c} e => by grind
  have x3 : ∀ {u c : Int}, c < d * u * u → c < d * -u * -u := fun {u c} e => by grind
  have x4 : ∀ {u c : Int}, d * u * u < c → d * -u * -u < c := fun {u c} e => by grind
  rcases h1 with ⟨u1, u2, u3⟩ | ⟨u1, u2, u3⟩ | ⟨u1, u2, u3⟩ <;> rcases h2 with ⟨v1, v2, v3⟩ | ⟨v1, v2, v3⟩ | ⟨v1, v2, v3⟩ <;> rcases h3 with ⟨w1, w2, w3⟩ | ⟨w1, w2, w3⟩ | ⟨w1, w2, w3⟩ <;> (try omega)
  all_goals first
    | exact Z1 hd (x1 u3) (x4 v3) (by omega) (by omega) (by omega) (by omega)
    | exact Z1 hd (x1 v3) (x4 u3) (by omega) (by omega) (by omega) (by omega)
    | exact Z1 hd (x1 u3) (x4 w3) (by omega) (by omega) (by omega) (by omega)
    | exact Z1 hd (x1 w3) (x4 u3) (by omega) (by omega) (by omega) (by omega)
    | exact Z1 hd (x1 v3) (x4 w3) (by omega) (by omega) (by omega) (by omega)
    | exact Z1 hd (x1 w3) (x4 v3) (by omega) (by omega) (by omega) (by omega)
    | exact Z2 hd (x1 u3) (x4 v3) (x4 w3) (by omega) (by omega) (by omega) (by omega) (by omega) (by omega)
    | exact Z2 hd (x1 v3) (x4 u3) (x4 w3) (by omega) (by omega) (by omega) (by omega) (by omega) (by omega)
    | exact Z2 hd (x1 w3) (x4 u3) (x4 v3) (by omega) (by omega) (by omega) (by omega) (by omega) (by omega)
    | exact Z3 hd (x4 u3) (x1 v3) (x1 w3) (by omega) (by omega) (by omega) (by omega) (by omega) (by omega)
    | exact Z3 hd (x4 v3) (x1 u3) (x1 w3) (by omega) (by omega) (by omega) (by omega) (by omega) (by omega)
    | exact Z3 hd (x4 w3) (x1 u3) (x1 v3) (by omega) (by omega) (by omega) (by omega) (by omega) (by omega)
theorem II {d a b p q : Int} (h : aO d) (h1 : P d a b) (h2 : P d p q) : P d (a + p) (b + q) := by
  rcases KS (a := a + p) (b := b + q) h with ⟨e1, e2⟩ | e | e
  · have ea : p = -a := by omega
    have eb : q = -b := by omega
    subst ea eb
    have s1 := (dy h).mpr h1
    have s2 := (dy h).mpr h2
    rw [uB h, s1] at s2
    omega
  · exact e
  · exact (Ll h h1 h2 e (by omega) (by omega)).elim
theorem Bp {d a b p q : Int} (h : aO d) : sg d (a * p + d * b * q) (a * q + b * p) = sg d a b * sg d p q := by
  by_cases h1 : a = 0 ∧ b = 0
  · obtain ⟨rfl, rfl⟩ := h1
    have e : sg d (0 : Int) 0 = 0 := eo.mpr ⟨rfl, rfl⟩
    rw [e]; simp [eo]
  by_cases h2 : p = 0 ∧ q = 0
  · obtain ⟨rfl, rfl⟩ := h2
    have e : sg d (0 : Int) 0 = 0 := eo.mpr ⟨rfl, rfl⟩
    rw [e]; simp [eo]
  have k := Lq h h1 h2
  have h3 : ¬ (a * p + d * b * q = 0 ∧ a * q + b * p = 0) := fun ⟨e1, e2⟩ => by
    have id1 : (a * p + d * b * q) * (a * p + d * b * q) - d * (a * q + b * p) * (a * q + b * p) = (a * a - d * b * b) * (p * p - d * q * q) := by grind
    rw [e1, e2] at id1
    simp only [Int.mul_zero, Int.sub_self] at id1
    rcases Int.mul_eq_zero.mp id1.symm with z | z
    · exact h1 (h.B4 (by omega))
    · exact h2 (h.B4 (by omega))
  rw [← dy h, ← dy h, ← dy h] at k
  have t1 := sC d a b
  have t2 := sC d p q
  have t3 := sC d (a * p + d * b * q) (a * q + b * p)
  have z1 : sg d a b ≠ 0 := fun z => h1 (eo.mp z)
  have z2 : sg d p q ≠ 0 := fun z => h2 (eo.mp z)
  have z3 : sg d (a * p + d * b * q) (a * q + b * p) ≠ 0 := fun z => h3 (eo.mp z)
  rcases t1 with e | e | e <;> rcases t2 with f | f | f <;> rcases t3 with g | g | g <;> simp_all
theorem ix {d a b k : Int} (h : aO d) (hk : 0 < k) : sg d (k * a) (k * b) = sg d a b := by
  have e := Bp (a := k) (b := 0) (p := a) (q := b) h
  have e1 : sg d k 0 = 1 := by unfold sg; rw [if_neg (by omega), if_pos (by omega)]
  rw [e1] at e
  simpa using e
end NM
set_option linter.all false
set_option maxRecDepth 100000
set_option maxHeartbeats 4000000
namespace NM
structure Rep (x : N3) (A B C : Int) : Prop where
  c : C ≠ 0
  a : x.a * C = A * x.c
  b : x.b * C = B * x.c
section
variable {x y : N3} {A B C A' B' C' d : Int}
theorem bM (h : Ok x) : Rep x x.a x.b x.c := ⟨h.cn, rfl, rfl⟩
theorem nI {a b c : Int} (h : c ≠ 0) : Rep (low a b c) a b c := by
  obtain ⟨k, hk, _, p1, p2, p3, _⟩ := kR a b h
  generalize low a b c = z at *
  exact ⟨h, by grind, by grind⟩
theorem Rep.eq (ox : Ok x) (oy : Ok y) (h : Rep x A B C) (g : Rep y A' B' C') (e1 : A * C' = A' * C) (e2 : B * C' = B' * C) : x = y := by
  have hc : C * C' ≠ 0 := Int.mul_ne_zero h.c g.c
  obtain ⟨_, h1, h2⟩ := h
  obtain ⟨_, g1, g2⟩ := g
  exact ox.same oy (Int.eq_of_mul_eq_mul_right hc (by grind)) (Int.eq_of_mul_eq_mul_right hc (by grind))
theorem Rep.BQ (h : Rep x A B C) : Rep (BQ x) A (-B) C := ⟨h.c, h.a, by show -x.b * C = -B * x.c; have := h.b; grind⟩
theorem Rep.minus (h : Rep x A B C) : Rep (minus x) (-A) (-B) C := ⟨h.c, by show -x.a * C = -A * x.c; have := h.a; grind, by show -x.b * C = -B * x.c; have := h.b; grind⟩
theorem Rep.plus (ox : Ok x) (oy : Ok y) (h : Rep x A B C) (g : Rep y A' B' C') : Rep (plus x y) (A * C' + A' * C) (B * C' + B' * C) (C * C') := by
  have hc := tE ox oy
  obtain ⟨_, q1, q2⟩ := nI (a := x.a * y.c + y.a * x.c) (b := x.b * y.c + y.b * x.c) hc
  obtain ⟨hc1, h1, h2⟩ := h
  obtain ⟨hc2, g1, g2⟩ := g
  change (NM.plus x y).a * (x.c * y.c) = _ * (NM.plus x y).c at q1
  change (NM.plus x y).b * (x.c * y.c) = _ * (NM.plus x y).c at q2
  generalize NM.plus x y = z at *
  exact ⟨Int.mul_ne_zero hc1 hc2, Int.eq_of_mul_eq_mul_right hc (by grind), Int.eq_of_mul_eq_mul_right hc (by grind)⟩
theorem Rep.less (ox : Ok x) (oy : Ok y) (h : Rep x A B C) (g : Rep y A' B' C') : Rep (less x y) (A * C' - A' * C) (B * C' - B' * C) (C * C') := by
  have hc := tE ox oy
  obtain ⟨_, q1, q2⟩ := nI (a := x.a * y.c - y.a * x.c) (b := x.b * y.c - y.b * x.c) hc
  obtain ⟨hc1, h1, h2⟩ := h
  obtain ⟨hc2, g1, g2⟩ := g
  change (NM.less x y).a * (x.c * y.c) = _ * (NM.less x y).c at q1
  change (NM.less x y).b * (x.c * y.c) = _ * (NM.less x y).c at q2
  generalize NM.less x y = z at *
  exact ⟨Int.mul_ne_zero hc1 hc2, Int.eq_of_mul_eq_mul_right hc (by grind), Int.eq_of_mul_eq_mul_right hc (by grind)⟩
theorem Rep.times (ox : Ok x) (oy : Ok y) (h : Rep x A B C) (g : Rep y A' B' C') : Rep (times d x y) (A * A' + d * B * B') (A * B' + B * A') (C * C') := by
  have hc := tE ox oy
  obtain ⟨_, q1, q2⟩ := nI (a := x.a * y.a + d * x.b * y.b) (b := x.a * y.b + x.b * y.a) hc
  obtain ⟨hc1, h1, h2⟩ := h
  obtain ⟨hc2, g1, g2⟩ := g
  change (NM.times d x y).a * (x.c * y.c) = _ * (NM.times d x y).c at q1
  change (NM.times d x y).b * (x.c * y.c) = _ * (NM.times d x y).c at q2
  generalize NM.times d x y = z at *
  exact ⟨Int.mul_ne_zero hc1 hc2, Int.eq_of_mul_eq_mul_right hc (by grind), Int.eq_of_mul_eq_mul_right hc (by grind)⟩
theorem Rep.norm (h : Rep x A B C) : NM.norm d x * (C * C) = (A * A - d * B * B) * (x.c * x.c) := by
  obtain ⟨_, h1, h2⟩ := h
  unfold NM.norm
  have e1 : x.a * x.a * (C * C) = A * A * (x.c * x.c) := by
    have : (x.a * C) * (x.a * C) = (A * x.c) * (A * x.c) := by rw [h1]
    grind
  have e2 : x.b * x.b * (C * C) = B * B * (x.c * x.c) := by
    have : (x.b * C) * (x.b * C) = (B * x.c) * (B * x.c) := by rw [h2]
    grind
  grind
theorem Rep.bz (ox : Ok x) (hn : NM.norm d x ≠ 0) (h : Rep x A B C) : Rep (bz d x) (C * A) (-C * B) (A * A - d * B * B) := by
  have hN := h.norm (d := d)
  have hcc : x.c * x.c ≠ 0 := Int.mul_ne_zero ox.cn ox.cn
  have hN0 : A * A - d * B * B ≠ 0 := fun z => by
    rw [z, Int.zero_mul] at hN
    rcases Int.mul_eq_zero.mp hN with w | w
    · exact hn w
    · rcases Int.mul_eq_zero.mp w with w | w <;> exact h.c w
  obtain ⟨_, q1, q2⟩ := nI (a := x.c * x.a) (b := -x.c * x.b) hn
  change (NM.bz d x).a * NM.norm d x = _ * (NM.bz d x).c at q1
  change (NM.bz d x).b * NM.norm d x = _ * (NM.bz d x).c at q2
  obtain ⟨hc1, h1, h2⟩ := h
  generalize NM.bz d x = z at *
  generalize NM.norm d x = n at *
  generalize A * A - d * B * B = m at *
  refine ⟨hN0, ?_, ?_⟩
  · have e : z.a * m * (x.c * x.c) = C * A * z.c * (x.c * x.c) := by grind
    exact Int.eq_of_mul_eq_mul_right hcc e
  · have e : z.b * m * (x.c * x.c) = -C * B * z.c * (x.c * x.c) := by grind
    exact Int.eq_of_mul_eq_mul_right hcc e
theorem Rep.sg (hd : aO d) (ox : Ok x) (h : Rep x A B C) (hC : 0 < C) : sg d x.a x.b = NM.sg d A B := by
  have e1 := ix (a := x.a) (b := x.b) hd hC
  have e2 := ix (a := A) (b := B) hd ox.c
  rw [show C * x.a = x.c * A by have := h.a; grind, show C * x.b = x.c * B by have := h.b; grind] at e1
  rw [← e1, e2]
end
end NM
set_option linter.all false
set_option maxRecDepth 100000
set_option maxHeartbeats 4000000
namespace NM
def lean (d : Int) (x : N3) : N3 := times d (BQ x) (bz d x)
def CS (d : Int) (x : N3) : N3 := times d (times d (plus x (BQ x)) (plus x (BQ x))) (bz d (times d x (BQ x)))
section
variable {d : Int} {x y z : N3}
theorem Cy {a b c : Int} (h : aO d) (hc : 0 < c) : sg d (low a b c).a (low a b c).b = sg d a b := (nI (show c ≠ 0 by omega)).sg h (mI _ _ (by omega)) hc
theorem wV (h : aO d) (ox : Ok x) (oy : Ok y) : sg d (times d x y).a (times d x y).b = sg d x.a x.b * sg d y.a y.b := by
  unfold times
  rw [Cy h (Int.mul_pos ox.c oy.c), Bp h]
theorem Hw : sg d one.a one.b = 1 := by
  unfold one sg
  rw [if_neg (by simp), if_pos (by simp)]
theorem u4 (h : aO d) (ox : Ok x) (hx : sg d x.a x.b = 1) : norm d x ≠ 0 := h.norm ox (fun e => by subst e; have : sg d dj.a dj.b = 0 := eo.mpr ⟨rfl, rfl⟩; omega)
theorem uW (ox : Ok x) (hn : norm d x ≠ 0) : times d x (bz d x) = one := by
  have oc := du hn
  exact ((bM ox).times ox oc ((bM ox).bz ox hn)).eq (eV ox oc) EA (bM EA) (by simp only [one]; grind) (by simp only [one]; grind)
theorem Ao (h : aO d) (ox : Ok x) (hx : sg d x.a x.b = 1) : sg d (bz d x).a (bz d x).b = 1 := by
  have hn := u4 h ox hx
  have e := wV h ox (du hn)
  rw [uW ox hn, Hw, hx] at e
  omega
def W (x y : N3) : Int := x.b * y.a - x.a * y.b
theorem Rep.neg {A B C : Int} (h : Rep x A B C) : Rep x (-A) (-B) (-C) := ⟨by have := h.c; omega, by rw [Int.mul_neg, Int.neg_mul, h.a], by rw [Int.mul_neg, Int.neg_mul, h.b]⟩
structure L7 (z x y : N3) : Prop where
  ex : ∃ p q C : Int, 0 < p ∧ 0 < q ∧ 0 < C ∧ Rep z (p * x.a + q * y.a) (p * x.b + q * y.b) C
theorem L7.pos (hd : aO d) (oz : Ok z) (h : L7 z x y) (hx : sg d x.a x.b = 1) (hy : sg d y.a y.b = 1) : sg d z.a z.b = 1 := by
  obtain ⟨p, q, C, hp, hq, hC, r⟩ := h.ex
  rw [r.sg hd oz hC, dy hd]
  refine II hd ?_ ?_
  · rw [← dy hd, ix hd hp]; exact hx
  · rw [← dy hd, ix hd hq]; exact hy
end
end NM
set_option Elab.async false
set_option linter.all false
set_option maxRecDepth 100000
set_option maxHeartbeats 4000000
namespace L2.DL
open PySem PySem.Spec PyProof.Rows
abbrev Mu := Addr → Option (List PyData)
abbrev PQ := PySem.W.Frag → V → Mu → Hp → Prop
inductive D where
  | v (x : PyData)
  | m (a : Addr)
  | s (ns : List Int)
  /-- an object that is handed on -/
  | o (a : Addr)
  /-- a thing of which something is known that stays -/
  | q (P : PQ)
abbrev Rho := List (Option D)
def aP (μ : Mu) (a : Addr) (ds : List PyData) : Mu := fun b => if b = a then some ds else μ b
theorem aQ {μ : Mu} {a : Addr} {ds} : aP μ a ds a = some ds := by unfold aP; rw [if_pos rfl]
theorem dF {μ : Mu} {a b : Addr} {ds} (h : b ≠ a) : aP μ a ds b = μ b := by unfold aP; rw [if_neg h]
theorem rZ {μ : Mu} {a : Addr} {ds es} : aP (aP μ a ds) a es = aP μ a es := by
  funext b; unfold aP; split <;> rfl
mutual
inductive Rp (K : PySem.W.Frag) (μ : Mu) (H : Hp) : PyData → V → Prop
  | none : Rp K μ H .none .non
  | bool (b : Bool) : Rp K μ H (.bool b) (.bl b)
  | int (i : Int) : Rp K μ H (.int i) (.int i)
  | str (x : Str) : Rp K μ H (.str x) (.str x)
  | list {a : Addr} {xs : List V} {ds : List PyData} : H a = some (.lst xs) → μ a = Option.none → RpL K μ H ds xs → Rp K μ H (.list ds) (.ref a)
  | tuple {a : Addr} {xs : List V} {ds : List PyData} : SqT K H a xs → RpL K μ H ds xs → Rp K μ H (.tuple ds) (.ref a)
inductive RpL (K : PySem.W.Frag) (μ : Mu) (H : Hp) : List PyData → List V → Prop
  | nil : RpL K μ H [] []
  | cons {d : PyData} {v : V} {ds : List PyData} {vs : List V} : Rp K μ H d v → RpL K μ H ds vs → RpL K μ H (d :: ds) (v :: vs)
end
def NT : HO → Prop
  | .tbl _ => False
  | _ => True
structure Ext (K : PySem.W.Frag) (μ : Mu) (H : Hp) (μ' : Mu) (H' : Hp) : Prop where
  keep : ∀ b o, H b = some o → μ b = none → NT o → H' b = some o
  tb : ∀ b ps, H b = some (.tbl ps) → μ b = none → ∃ ps', H' b = some (.tbl ps')
  dom : ∀ b ds, μ b = some ds → ∃ es, μ' b = some es
  fresh : ∀ b, μ b = none → (H b ≠ none ∨ K.lookup b ≠ none) → μ' b = none
def RpD (K : PySem.W.Frag) (μ : Mu) (H : Hp) : D → V → Prop
  | .v x, u => Rp K μ H x u
  | .m a, u => u = .ref a ∧ ∃ ds, μ a = some ds
  | .s ns, u => ∃ a, u = .ref a ∧ SqL K H a (ns.map V.int) ∧ μ a = none
  | .o a, u => u = .ref a
  | .q P, u => ∀ μ' H', Ext K μ H μ' H' → P K u μ' H'
def codeAt (c : Addr) (q : Str) (h : Heap) : Prop := ∃ o vs t, h.get? c = some o ∧ o.data = .fields vs ∧ vs[1]? = some (.str q t)
abbrev aN (q : Str) : Str := (q ++ ".<locals>.") ++ "<lambda>"
def Mk (H : Hp) (P : Addr) (q : Str) : Prop := ∃ ps : Array Value, H P = some (.tbl ps) ∧ TriplesOk ps.toList ∧ ∀ pos cv, codeAmong pos ps.toList = some cv → ∃ c, cv = .ref c ∧ H c = some (.ext (codeAt c (aN q)))
def wz (K : PySem.W.Frag) (H : Hp) : Prop := ∀ c o P q, K.lookup c = some o → bq o = some (P, q) → Mk H P q
structure bE (K : PySem.W.Frag) (μ : Mu) (H : Hp) : Prop where
  lst : ∀ a ds, μ a = some ds → ∃ xs, H a = some (.lst xs) ∧ RpL K μ H ds xs
  tab : wz K H
instance {K : PySem.W.Frag} {μ : Mu} {H : Hp} : CoeFun (bE K μ H) fun _ => ∀ a ds, μ a = some ds → ∃ xs, H a = some (.lst xs) ∧ RpL K μ H ds xs := ⟨bE.lst⟩
theorem wz.of {K : PySem.W.Frag} {H H1 : Hp} (t : wz K H) (s : ∀ b o, H b = some o → (∀ xs, o ≠ .lst xs) → H1 b = some o) : wz K H1 := fun c o P q h1 h2 => by
  obtain ⟨ps, a1, a2, a3⟩ := t c o P q h1 h2
  exact ⟨ps, s _ _ a1 (fun _ z => nomatch z), a2, fun pos cv e => let ⟨c, q1, q2⟩ := a3 pos cv e; ⟨c, q1, s _ _ q2 (fun _ z => nomatch z)⟩⟩
def eh (K : PySem.W.Frag) (μ : Mu) (H : Hp) (ρ : Rho) (σ : St) : Prop :=
  ρ.length = σ.length ∧ ∀ (i : Nat) (d : D), ρ[i]? = some (some d) → ∃ u, σ[i]? = some (some u) ∧ RpD K μ H d u
structure St0 (K : PySem.W.Frag) (H : Hp) (ρ : Rho) (μ : Mu) (σ : St) : Prop where
  mu : bE K μ H
  rho : eh K μ H ρ σ
section
variable {K : PySem.W.Frag} {μ μ1 μ2 : Mu} {H H1 H2 : Hp}
theorem Ext.refl : Ext K μ H μ H := ⟨fun _ _ h _ _ => h, fun _ ps h _ => ⟨ps, h⟩, fun _ ds h => ⟨ds, h⟩, fun _ h _ => h⟩
theorem Ext.trans (a : Ext K μ H μ1 H1) (b : Ext K μ1 H1 μ2 H2) : Ext K μ H μ2 H2 where
  keep := fun c o h n t => b.keep c o (a.keep c o h n t) (a.fresh c n (.inl (by rw [h]; exact fun z => nomatch z))) t
  tb := fun c ps h n => by
    obtain ⟨ps1, h1⟩ := a.tb c ps h n
    exact b.tb c ps1 h1 (a.fresh c n (.inl (by rw [h]; exact fun z => nomatch z)))
  dom := fun c ds h => let ⟨es, q⟩ := a.dom c ds h; b.dom c es q
  fresh := fun c n h => by
    refine b.fresh c (a.fresh c n h) ?_
    rcases h with h | h
    · cases q : H c with
      | none => exact absurd q h
      | some o =>
        by_cases t : NT o
        · exact .inl (by rw [a.keep c o q n t]; exact fun z => nomatch z)
        · cases o with
          | tbl ps =>
            obtain ⟨ps1, h1⟩ := a.tb c ps q n
            exact .inl (by rw [h1]; exact fun z => nomatch z)
          | _ => exact absurd trivial t
    · exact .inr h
theorem Ext.of_same (s : n5 H H1) : Ext K μ H μ H1 := ⟨fun b o h _ _ => s b o h, fun b ps h _ => ⟨ps, s b _ h⟩, fun _ ds h => ⟨ds, h⟩, fun _ h _ => h⟩
theorem bE.not {a : Addr} {o : HO} (ok : bE K μ H) (h : H a = some o) (n : ∀ xs, o ≠ .lst xs) : μ a = none := by
  cases q : μ a with
  | none => rfl
  | some ds =>
    obtain ⟨ys, e, _⟩ := ok a ds q
    rw [h] at e
    exact absurd (Option.some.inj e) (n ys)
theorem bE.free {a : Addr} (ok : bE K μ H) (h : H a = none) : μ a = none := by
  cases q : μ a with
  | none => rfl
  | some ds =>
    obtain ⟨ys, e, _⟩ := ok a ds q
    rw [h] at e; cases e
theorem GJ {a : Addr} {xs : List V} (ok : bE K μ H) (e : Ext K μ H μ1 H1) (h : SqT K H a xs) : SqT K H1 a xs := by
  rcases h with (h | ⟨o, h⟩) | h
  · exact .inl (.inl (e.keep _ _ h (ok.not h fun _ z => nomatch z) trivial))
  · exact .inl (.inr ⟨o, e.keep _ _ h (ok.not h fun _ z => nomatch z) trivial⟩)
  · exact .inr h
theorem Cu {a : Addr} {xs : List V} (e : Ext K μ H μ1 H1) (h : SqL K H a xs) (n : μ a = none) : SqL K H1 a xs ∧ μ1 a = none := by
  rcases h with (h | ⟨o, h⟩) | h
  · exact ⟨.inl (.inl (e.keep _ _ h n trivial)), e.fresh _ n (.inl (by rw [h]; exact fun z => nomatch z))⟩
  · exact ⟨.inl (.inr ⟨o, e.keep _ _ h n trivial⟩), e.fresh _ n (.inl (by rw [h]; exact fun z => nomatch z))⟩
  · obtain ⟨o, its, k, hk, r⟩ := id h
    exact ⟨.inr h, e.fresh _ n (.inr (by rw [hk]; exact fun z => nomatch z))⟩
mutual
theorem Rp.ext {d : PyData} {u : V} (ok : bE K μ H) (e : Ext K μ H μ1 H1) : Rp K μ H d u → Rp K μ1 H1 d u
  | .none => .none
  | .bool b => .bool b
  | .int i => .int i
  | .str x => .str x
  | .list h n r => .list (e.keep _ _ h n trivial) (e.fresh _ n (.inl (by rw [h]; exact fun z => nomatch z))) (RpL.ext ok e r)
  | .tuple h r => .tuple (GJ ok e h) (RpL.ext ok e r)
theorem RpL.ext {ds : List PyData} {us : List V} (ok : bE K μ H) (e : Ext K μ H μ1 H1) : RpL K μ H ds us → RpL K μ1 H1 ds us
  | .nil => .nil
  | .cons h r => .cons (Rp.ext ok e h) (RpL.ext ok e r)
end
theorem RpD.ext {d : D} {u : V} (ok : bE K μ H) (e : Ext K μ H μ1 H1) (r : RpD K μ H d u) : RpD K μ1 H1 d u := by
  cases d with
  | v x => exact Rp.ext ok e r
  | m a => obtain ⟨h, ds, q⟩ := r; exact ⟨h, e.dom a ds q⟩
  | s ns => obtain ⟨a, h, q, n⟩ := r; exact ⟨a, h, (Cu e q n).1, (Cu e q n).2⟩
  | o a => exact r
  | q P => exact fun μ' H' e' => r μ' H' (e.trans e')
theorem eh.ext {ρ : Rho} {σ : St} (ok : bE K μ H) (e : Ext K μ H μ1 H1) (r : eh K μ H ρ σ) : eh K μ1 H1 ρ σ :=
  ⟨r.1, fun i d h => let ⟨u, h1, h2⟩ := r.2 i d h; ⟨u, h1, h2.ext ok e⟩⟩
theorem RpL.length {ds : List PyData} {us : List V} : RpL K μ H ds us → ds.length = us.length
  | .nil => rfl
  | .cons _ r => congrArg (· + 1) (RpL.length r)
theorem RpL.get {ds : List PyData} {us : List V} : ∀ {i : Nat} {d : PyData}, RpL K μ H ds us → ds[i]? = some d → ∃ u, us[i]? = some u ∧ Rp K μ H d u
  | _, _, .nil, h => by simp at h
  | 0, _, .cons r _, h => by simp at h; subst h; exact ⟨_, rfl, r⟩
  | i + 1, d, .cons _ t, h => by
    obtain ⟨u, h1, h2⟩ := RpL.get (i := i) (d := d) t (by simpa using h)
    exact ⟨u, by simpa using h1, h2⟩
theorem RpL.append {ds es : List PyData} {us ws : List V} : RpL K μ H ds us → RpL K μ H es ws → RpL K μ H (ds ++ es) (us ++ ws)
  | .nil, s => s
  | .cons r t, s => .cons r (RpL.append t s)
theorem RpL.take {ds : List PyData} {us : List V} : ∀ (n : Nat), RpL K μ H ds us → RpL K μ H (ds.take n) (us.take n)
  | 0, _ => by simp; exact .nil
  | _ + 1, .nil => by simp; exact .nil
  | n + 1, .cons r t => .cons r (RpL.take n t)
theorem RpL.drop {ds : List PyData} {us : List V} : ∀ (n : Nat), RpL K μ H ds us → RpL K μ H (ds.drop n) (us.drop n)
  | 0, r => r
  | _ + 1, .nil => by simp; exact .nil
  | n + 1, .cons _ t => RpL.drop n t
theorem RpL.reverse {ds : List PyData} {us : List V} : RpL K μ H ds us → RpL K μ H ds.reverse us.reverse
  | .nil => .nil
  | .cons r t => by rw [List.reverse_cons, List.reverse_cons]; exact (RpL.reverse t).append (.cons r .nil)
theorem RpL.set {ds : List PyData} {us : List V} {d : PyData} {u : V} (q : Rp K μ H d u) : ∀ (i : Nat), RpL K μ H ds us → RpL K μ H (ds.set i d) (us.set i u)
  | _, .nil => .nil
  | 0, .cons _ t => .cons q t
  | i + 1, .cons r t => .cons r (RpL.set q i t)
theorem BP {ds : List PyData} {us : List V} {i : Int} {d : PyData} (r : RpL K μ H ds us) (h : atI ds i = some d) : ∃ u, atI us i = some u ∧ Rp K μ H d u := by
  unfold atI at h ⊢
  rw [← r.length]
  cases q : ixN ds.length i with
  | none => rw [q] at h; cases h
  | some j =>
    rw [q] at h
    exact r.get h
abbrev DK := D → Mu → Prop
abbrev DTE := Rho → Mu → DK → Prop
abbrev DTT := Rho → Mu → (Bool → Mu → Prop) → Prop
abbrev DTA := Rho → Mu → (List D → Mu → Prop) → Prop
structure Fi where
  nx : Rho → Mu → Prop
  rt : DK
  bk : Rho → Mu → Prop := fun _ _ => False
  ct : Rho → Mu → Prop := fun _ _ => False
abbrev DTS := Fi → Rho → Mu → Prop
inductive iX (K : PySem.W.Frag) (μ : Mu) (H : Hp) : List D → List V → Prop
  | nil : iX K μ H [] []
  | cons {d : D} {u : V} {ds : List D} {us : List V} : RpD K μ H d u → iX K μ H ds us → iX K μ H (d :: ds) (u :: us)
theorem iX.ext {ds : List D} {us : List V} (ok : bE K μ H) (e : Ext K μ H μ1 H1) : iX K μ H ds us → iX K μ1 H1 ds us
  | .nil => .nil
  | .cons h r => .cons (h.ext ok e) (iX.ext ok e r)
theorem iX.length {ds : List D} {us : List V} : iX K μ H ds us → ds.length = us.length
  | .nil => rfl
  | .cons _ r => congrArg (· + 1) (iX.length r)
end
def qC (K : PySem.W.Frag) (t : TE) (td : DTE) : Prop := ∀ (σ : St) (H : Hp) (ρ : Rho) (μ : Mu) (Qd : DK) (Q : VK), St0 K H ρ μ σ → td ρ μ Qd →
  (∀ d u μ' H', Ext K μ H μ' H' → St0 K H' ρ μ' σ → RpD K μ' H' d u → Qd d μ' → Q u H') → t σ H Q
def Fm (K : PySem.W.Frag) (t : TT) (td : DTT) : Prop := ∀ (σ : St) (H : Hp) (ρ : Rho) (μ : Mu) (Qd : Bool → Mu → Prop) (Q : Bool → Hp → Prop), St0 K H ρ μ σ → td ρ μ Qd →
  (∀ b μ' H', Ext K μ H μ' H' → St0 K H' ρ μ' σ → Qd b μ' → Q b H') → t σ H Q
def Ih (K : PySem.W.Frag) (n : Nat) (t : TA) (td : DTA) : Prop := ∀ (σ : St) (H : Hp) (ρ : Rho) (μ : Mu) (Qd : List D → Mu → Prop) (Q : List V → Hp → Prop), St0 K H ρ μ σ → td ρ μ Qd →
  (∀ ds us μ' H', Ext K μ H μ' H' → St0 K H' ρ μ' σ → iX K μ' H' ds us → ds.length = n → Qd ds μ' → Q us H') → t σ H Q
def w8 (K : PySem.W.Frag) (t : TS) (td : DTS) : Prop := ∀ (σ : St) (H : Hp) (ρ : Rho) (μ : Mu) (Dd : Fi) (De : Ends), St0 K H ρ μ σ → td Dd ρ μ →
  (∀ σ' ρ' μ' H', Ext K μ H μ' H' → St0 K H' ρ' μ' σ' → Dd.nx ρ' μ' → De.nx σ' H') →
  (∀ d u μ' H', Ext K μ H μ' H' → bE K μ' H' → RpD K μ' H' d u → Dd.rt d μ' → De.rt u H') →
  (∀ σ' ρ' μ' H', Ext K μ H μ' H' → St0 K H' ρ' μ' σ' → Dd.bk ρ' μ' → De.bk σ' H') →
  (∀ σ' ρ' μ' H', Ext K μ H μ' H' → St0 K H' ρ' μ' σ' → Dd.ct ρ' μ' → De.ct σ' H') → t De σ H
def DE (X : Cx) (e : Expr) (td : DTE) : Prop := ∃ t, PE X e t ∧ qC X.K t td
def DT (X : Cx) (e : Expr) (td : DTT) : Prop := ∃ t, PT X e t ∧ Fm X.K t td
def DA (X : Cx) (es : List Expr) (td : DTA) : Prop := ∃ t, PA X es t ∧ Ih X.K es.length t td
def DS (X : Cx) (st : Stmt) (td : DTS) : Prop := ∃ t, PS X st t ∧ w8 X.K t td
def DSs (X : Cx) (st : List Stmt) (td : DTS) : Prop := ∃ t, PSs X st t ∧ w8 X.K t td
section
variable {X : Cx} {a b c : Expr} {ta tb tc : DTE} {pos : Pos}
def ag (i : Nat) : DTE := fun ρ μ Q => match ρ[i]? with
  | some (some d) => Q d μ
  | _ => False
def dC (x : PyData) : DTE := fun _ μ Q => Q (.v x) μ
theorem Gr {K : PySem.W.Frag} (i : Nat) : qC K (JE i) (ag i) := by
  intro σ H ρ μ Qd Q S h k
  unfold ag at h
  split at h
  · rename_i d e
    obtain ⟨u, h1, h2⟩ := S.rho.2 i d e
    exact ⟨u, h1, k d u μ H .refl S h2 h⟩
  · exact h.elim
theorem dv (i : Nat) {x : Str} {pos : Pos} (hN : X.N[i]? = some x := by rfl) (hv : Vis X.env.scope x := by first | exact Or.inl rfl | exact Or.inr (Or.inl rfl) | exact Or.inr (Or.inr rfl)) (hd : (x == ("__debug__" : Str)) = false := by decide)
    (hcd : (x == ("__classdict__" : Str)) = false := by decide) : DE X (.Name x pos) (ag i) := ⟨_, Ci hN hv hd hcd, Gr i⟩
theorem u5 {K : PySem.W.Frag} {x : PyData} {u : V} (h : ∀ μ H, bE K μ H → Rp K μ H x u) : qC K (tC u) (dC x) := fun σ H ρ μ Qd Q S q k => k (.v x) u μ H .refl S (h μ H S.mu) q
theorem af {i j pos} : DE X (.Constant (.int i) j pos) (dC (.int i)) := ⟨_, JI, u5 fun _ _ _ => .int i⟩
theorem qN {i j pos} : DE X (.Constant (.bool i) j pos) (dC (.bool i)) := ⟨_, LX, u5 fun _ _ _ => .bool i⟩
theorem yu {j pos} : DE X (.Constant .none j pos) (dC .none) := ⟨_, Kj, u5 fun _ _ _ => .none⟩
theorem aM {x j pos} : DE X (.Constant (.str x) j pos) (dC (.str x)) := ⟨_, EG, u5 fun _ _ _ => .str x⟩
theorem xk {x : Str} {d : PyData} {u : V} {w : Value} {pos : Pos} (hg : Gl X x) (hm : X.mg x = some w) (r : RelV u w) (h : ∀ μ H, bE X.K μ H → Rp X.K μ H d u) (hd : (x == ("__debug__" : Str)) = false := by decide) : DE X (.Name x pos) (dC d) :=
  ⟨_, Df hg hm r hd, u5 h⟩
def jV (K : PySem.W.Frag) (rr : R2) (r : D → D → Mu → DK → Prop) : Prop := ∀ (x y : D) (ux uy : V) (H : Hp) (μ : Mu) (Qd : DK) (Q : VK), bE K μ H → RpD K μ H x ux → RpD K μ H y uy → r x y μ Qd →
  (∀ d u μ' H', Ext K μ H μ' H' → bE K μ' H' → RpD K μ' H' d u → Qd d μ' → Q u H') → rr ux uy H Q
def dOp (r : D → D → Mu → DK → Prop) (ta tb : DTE) : DTE := fun ρ μ Q => ta ρ μ fun x μ1 => tb ρ μ1 fun y μ2 => r x y μ2 Q
theorem uc {K : PySem.W.Frag} {rr : R2} {r} {t1 t2 : TE} (lo : jV K rr r) (la : qC K t1 ta) (lb : qC K t2 tb) : qC K (tOp rr t1 t2) (dOp r ta tb) := by
  intro σ H ρ μ Qd Q S h k
  refine la σ H ρ μ _ _ S h fun x ux μ1 H1 e1 S1 rx h1 => ?_
  refine lb σ H1 ρ μ1 _ _ S1 h1 fun y uy μ2 H2 e2 S2 ry h2 => ?_
  exact lo x y ux uy H2 μ2 _ _ S2.mu (rx.ext S1.mu e2) ry h2 fun d u μ' H' e3 ok r q => k d u μ' H' (e1.trans (e2.trans e3)) ⟨ok, S2.rho.ext S2.mu e3⟩ r q
theorem vK {op : Operator} {rr : R2} {r} (ho : OpR X (binaryOp op) rr) (lo : jV X.K rr r) (ha : DE X a ta) (hb : DE X b tb) : DE X (.BinOp a op b pos) (dOp r ta tb) := by
  obtain ⟨t1, p1, l1⟩ := ha
  obtain ⟨t2, p2, l2⟩ := hb
  exact ⟨_, Lb ho p1 p2, uc lo l1 l2⟩
theorem gw {op : CmpOp} {rr : R2} {r} (ho : OpR X (compareOp op) rr) (lo : jV X.K rr r) (ha : DE X a ta) (hb : DE X b tb) (hm : behindInMarks op b = false) : DE X (.Compare a [op] [b] pos) (dOp r ta tb) := by
  obtain ⟨t1, p1, l1⟩ := ha
  obtain ⟨t2, p2, l2⟩ := hb
  exact ⟨_, Hy ho p1 p2 hm, uc lo l1 l2⟩
def dB (t : DTE) : DTT := fun ρ μ Q => t ρ μ fun d μ1 => match d with
  | .v (.bool k) => Q k μ1
  | _ => False
theorem wN {K : PySem.W.Frag} {t : TE} {td : DTE} (l : qC K t td) : Fm K (Il t) (dB td) := by
  intro σ H ρ μ Qd Q S h k
  refine l σ H ρ μ _ _ S h fun d u μ1 H1 e1 S1 r q => ?_
  split at q
  · rename_i b
    cases r
    exact ⟨b, rfl, k b μ1 H1 e1 S1 q⟩
  · exact q.elim
theorem aR {op : CmpOp} {rr : R2} {r} (ho : OpR X (compareOp op) rr) (lo : jV X.K rr r) (ha : DE X a ta) (hb : DE X b tb) (hm : behindInMarks op b = false) : DT X (.Compare a [op] [b] pos) (dB (dOp r ta tb)) := by
  obtain ⟨t1, p1, l1⟩ := ha
  obtain ⟨t2, p2, l2⟩ := hb
  exact ⟨_, HD ho p1 p2 hm, wN (uc lo l1 l2)⟩
theorem dU {e : Expr} {td : DTE} (h : DE X e td) (he : ∀ whole, isTrue e X.env whole = (do let v ← whole; standAt e.pos; holding [v] (truthy v)) := by intro _; rfl) : DT X e (dB td) := by
  obtain ⟨t, p, l⟩ := h
  exact ⟨_, Kb p he, wN l⟩
def rII (C : Int → Int → Prop) (g : Int → Int → PyData) : D → D → Mu → DK → Prop := fun x y μ Q => match x, y with
  | .v (.int i), .v (.int j) => C i j ∧ Q (.v (g i j)) μ
  | _, _ => False
theorem Hn {K : PySem.W.Frag} {C : Int → Int → Prop} {g : Int → Int → V} {gd : Int → Int → PyData} (hg : ∀ μ H i j, Rp K μ H (gd i j) (g i j)) : jV K (rI C g) (rII C gd) := by
  intro x y ux uy H μ Qd Q ok rx ry h k
  unfold rII at h
  split at h
  · rename_i i j
    cases rx; cases ry
    exact ⟨i, j, rfl, rfl, h.1, k (.v _) _ μ H .refl ok (hg μ H i j) h.2⟩
  · exact h.elim
def wa (g : Int → Int → PyData) : D → D → Mu → DK → Prop := fun x y μ Q => match x, y with
  | .v (.int i), .v (.int j) => Q (.v (g i j)) μ
  | _, _ => False
theorem C2 {K : PySem.W.Frag} {g : Int → Int → V} {gd : Int → Int → PyData} (hg : ∀ μ H i j, Rp K μ H (gd i j) (g i j)) : jV K (rI0 g) (wa gd) := by
  intro x y ux uy H μ Qd Q ok rx ry h k
  unfold wa at h
  split at h
  · rename_i i j
    cases rx; cases ry
    exact ⟨i, j, rfl, rfl, k (.v _) _ μ H .refl ok (hg μ H i j) h⟩
  · exact h.elim
abbrev ka (ta tb : DTE) : DTE := dOp (wa fun i j => .int (i + j)) ta tb
abbrev mi (ta tb : DTE) : DTE := dOp (wa fun i j => .int (i - j)) ta tb
abbrev MulOk (i j : Int) : Prop := IntMulOk i j
abbrev bI (ta tb : DTE) : DTE := dOp (rII MulOk fun i j => .int (i * j)) ta tb
abbrev vx (ta tb : DTE) : DTE := dOp (rII (fun _ j => j ≠ 0) fun i j => .int (i.fmod j)) ta tb
abbrev pN (i j : Int) : Prop := j ≠ 0 ∧ Builtin.divisionGoesByPylong i j = false
abbrev rH (ta tb : DTE) : DTE := dOp (rII pN fun i j => .int (i.fdiv j)) ta tb
abbrev HG (ta tb : DTE) : DTE := dOp (rII Kq fun i j => .int (i ^ j.toNat)) ta tb
theorem G9 : OpR X (binaryOp .Mult) (rI MulOk fun i j => .int (i * j)) := opI fun _ _ _ _ _ _ _ hc q => mul_int q hc
theorem GQ : OpR X (binaryOp .FloorDiv) (rI pN fun i j => .int (i.fdiv j)) := opI fun _ _ _ _ _ _ _ hc q => floordiv_int hc.1 q (.inl hc.2)
theorem dg (ha : DE X a ta) (hb : DE X b tb) : DE X (.BinOp a .Add b pos) (ka ta tb) := vK Ez (C2 fun _ _ _ _ => .int _) ha hb
theorem d8 (ha : DE X a ta) (hb : DE X b tb) : DE X (.BinOp a .Sub b pos) (mi ta tb) := vK JV (C2 fun _ _ _ _ => .int _) ha hb
theorem aH (ha : DE X a ta) (hb : DE X b tb) : DE X (.BinOp a .Mult b pos) (bI ta tb) := vK G9 (Hn fun _ _ _ _ => .int _) ha hb
theorem j7 (ha : DE X a ta) (hb : DE X b tb) : DE X (.BinOp a .Mod b pos) (vx ta tb) := vK G6 (Hn fun _ _ _ _ => .int _) ha hb
theorem iE (ha : DE X a ta) (hb : DE X b tb) : DE X (.BinOp a .FloorDiv b pos) (rH ta tb) := vK GQ (Hn fun _ _ _ _ => .int _) ha hb
theorem Bm (ha : DE X a ta) (hb : DE X b tb) : DE X (.BinOp a .Pow b pos) (HG ta tb) := vK J7 (Hn fun _ _ _ _ => .int _) ha hb
abbrev rLt := wa fun i j => .bool (decide (i < j))
abbrev rLe := wa fun i j => .bool (decide (i ≤ j))
abbrev rGt := wa fun i j => .bool (decide (j < i))
abbrev rGe := wa fun i j => .bool (decide (j ≤ i))
theorem hZ {K : PySem.W.Frag} {p : Int → Int → Bool} : jV K (rI0 fun i j => .bl (p i j)) (wa fun i j => .bool (p i j)) := C2 fun _ _ _ _ => .bool _
def rq (ta : DTE) : DTE := fun ρ μ Q => ta ρ μ fun x μ1 => match x with
  | .v (.int i) => Q (.v (.int (-i))) μ1
  | _ => False
theorem jq (ha : DE X a ta) : DE X (.UnaryOp .USub a pos) (rq ta) := by
  obtain ⟨t1, p1, l1⟩ := ha
  refine ⟨_, LU KG p1, fun σ H ρ μ Qd Q S h k => ?_⟩
  refine l1 σ H ρ μ _ _ S h fun x ux μ1 H1 e1 S1 rx h1 => ?_
  split at h1
  · rename_i i
    cases rx
    exact ⟨i, rfl, k (.v _) _ μ1 H1 e1 S1 (Rp.int _) h1⟩
  · exact h1.elim
def tq (t u : DTT) : DTT := fun ρ μ Q => t ρ μ fun c μ1 => if c = true then u ρ μ1 Q else Q false μ1
def GB (t u : DTT) : DTT := fun ρ μ Q => t ρ μ fun c μ1 => if c = true then Q true μ1 else u ρ μ1 Q
def oA (t : DTT) : DTT := fun ρ μ Q => t ρ μ fun c μ1 => Q (!c) μ1
def DW (X : Cx) (e : Expr) (td : DTT) : Prop := ∃ t, PW X e t ∧ Fm X.K t td
theorem DW.dt {e : Expr} {td : DTT} (h : DW X e td) : DT X e td := let ⟨t, p, l⟩ := h; ⟨t, p.pt, l⟩
variable {tA tB' : DTT} {rest : List Expr}
theorem nG (ha : DT X a tA) : DW X (.BoolOp .And [a] pos) tA := let ⟨t, p, l⟩ := ha; ⟨t, pw_and1 p, l⟩
theorem GC (ha : DT X a tA) : DW X (.BoolOp .Or [a] pos) tA := let ⟨t, p, l⟩ := ha; ⟨t, pw_or1 p, l⟩
theorem rV (ha : DT X a tA) (hb : DW X (.BoolOp .And (b :: rest) pos) tB') : DW X (.BoolOp .And (a :: b :: rest) pos) (tq tA tB') := by
  obtain ⟨t1, p1, l1⟩ := ha
  obtain ⟨t2, p2, l2⟩ := hb
  refine ⟨_, pw_and p1 p2, fun σ H ρ μ Qd Q S h k => ?_⟩
  refine l1 σ H ρ μ _ _ S h fun c μ1 H1 e1 S1 h1 => ?_
  cases c with
  | true =>
    refine yf (l2 σ H1 ρ μ1 _ _ S1 (by simpa using h1) fun c μ2 H2 e2 S2 h2 => k c μ2 H2 (e1.trans e2) S2 h2)
  | false => exact zd (k false μ1 H1 e1 S1 (by simpa using h1))
theorem Eu (ha : DT X a tA) (hb : DW X (.BoolOp .Or (b :: rest) pos) tB') : DW X (.BoolOp .Or (a :: b :: rest) pos) (GB tA tB') := by
  obtain ⟨t1, p1, l1⟩ := ha
  obtain ⟨t2, p2, l2⟩ := hb
  refine ⟨_, pw_or p1 p2, fun σ H ρ μ Qd Q S h k => ?_⟩
  refine l1 σ H ρ μ _ _ S h fun c μ1 H1 e1 S1 h1 => ?_
  cases c with
  | true => exact yf (k true μ1 H1 e1 S1 (by simpa using h1))
  | false =>
    refine zd (l2 σ H1 ρ μ1 _ _ S1 (by simpa using h1) fun c μ2 H2 e2 S2 h2 => k c μ2 H2 (e1.trans e2) S2 h2)
theorem mR (ha : DT X a tA) : DT X (.UnaryOp .Not a pos) (oA tA) := by
  obtain ⟨t1, p1, l1⟩ := ha
  refine ⟨_, Ko p1, fun σ H ρ μ Qd Q S h k => ?_⟩
  exact l1 σ H ρ μ _ _ S h fun c μ1 H1 e1 S1 h1 => k _ μ1 H1 e1 S1 h1
def xf (ta tb : DTE) : DTE := fun ρ μ Q => ta ρ μ fun x μ1 => match x with
  | .v (.bool c) => if c = true then tb ρ μ1 Q else Q (.v (.bool false)) μ1
  | _ => False
def Mn (ta tb : DTE) : DTE := fun ρ μ Q => ta ρ μ fun x μ1 => match x with
  | .v (.bool c) => if c = true then Q (.v (.bool true)) μ1 else tb ρ μ1 Q
  | _ => False
def wZ (ta : DTE) : DTE := fun ρ μ Q => ta ρ μ fun x μ1 => match x with
  | .v (.bool c) => Q (.v (.bool (!c))) μ1
  | _ => False
theorem yT {op} (h : DE X a ta) : DE X (.BoolOp op [a] pos) ta := let ⟨t, p, l⟩ := h; ⟨t, Jv p, l⟩
theorem yj (ha : DE X a ta) (hb : DE X (.BoolOp .And (b :: rest) pos) tb) : DE X (.BoolOp .And (a :: b :: rest) pos) (xf ta tb) := by
  obtain ⟨t1, p1, l1⟩ := ha
  obtain ⟨t2, p2, l2⟩ := hb
  refine ⟨_, KC p1 p2, fun σ H ρ μ Qd Q S h k => ?_⟩
  refine l1 σ H ρ μ _ _ S h fun x ux μ1 H1 e1 S1 rx h1 => ?_
  split at h1
  · rename_i c
    cases rx
    refine ⟨c, rfl, ?_⟩
    cases c with
    | true => exact yf (l2 σ H1 ρ μ1 _ _ S1 (by simpa using h1) fun d u μ2 H2 e2 S2 r2 h2 => k d u μ2 H2 (e1.trans e2) S2 r2 h2)
    | false => exact zd (k (.v _) _ μ1 H1 e1 S1 (Rp.bool false) (by simpa using h1))
  · exact h1.elim
theorem xR (ha : DE X a ta) : DE X (.UnaryOp .Not a pos) (wZ ta) := by
  obtain ⟨t1, p1, l1⟩ := ha
  refine ⟨_, J1 p1, fun σ H ρ μ Qd Q S h k => ?_⟩
  refine l1 σ H ρ μ _ _ S h fun x ux μ1 H1 e1 S1 rx h1 => ?_
  split at h1
  · rename_i c
    cases rx
    exact ⟨c, rfl, k (.v _) _ μ1 H1 e1 S1 (Rp.bool _) h1⟩
  · exact h1.elim
def dIf (t : DTT) (ta tb : DTE) : DTE := fun ρ μ Q => t ρ μ fun c μ1 => if c = true then ta ρ μ1 Q else tb ρ μ1 Q
theorem sS {c : Expr} (hc : DT X c tA) (ha : DE X a ta) (hb : DE X b tb) : DE X (.IfExp c a b pos) (dIf tA ta tb) := by
  obtain ⟨t0, p0, l0⟩ := hc
  obtain ⟨t1, p1, l1⟩ := ha
  obtain ⟨t2, p2, l2⟩ := hb
  refine ⟨_, EH p0 p1 p2, fun σ H ρ μ Qd Q S h k => ?_⟩
  refine l0 σ H ρ μ _ _ S h fun c μ1 H1 e1 S1 h1 => ?_
  cases c with
  | true => exact yf (l1 σ H1 ρ μ1 _ _ S1 (by simpa using h1) fun d u μ2 H2 e2 S2 r2 h2 => k d u μ2 H2 (e1.trans e2) S2 r2 h2)
  | false => exact zd (l2 σ H1 ρ μ1 _ _ S1 (by simpa using h1) fun d u μ2 H2 e2 S2 r2 h2 => k d u μ2 H2 (e1.trans e2) S2 r2 h2)
end
open PySem PySem.Spec PyProof.Rows
section
variable {K : PySem.W.Frag} {μ μ1 : Mu} {H H1 : Hp} {p : Addr}
theorem cF {o : HO} (h : H p = none) : Ext K μ H μ (upd H p o) :=
  ⟨fun b u e _ _ => by rw [aZ (aG e h)]; exact e, fun b ps e _ => ⟨ps, by rw [aZ (aG e h)]; exact e⟩, fun _ ds q => ⟨ds, q⟩, fun _ q _ => q⟩
theorem bE.Hk (ok : bE K μ H) (e : Ext K μ H μ H1) (s : n5 H H1) : bE K μ H1 := ⟨fun a ds q => by
  obtain ⟨xs, h1, h2⟩ := ok a ds q
  exact ⟨xs, s _ _ h1, h2.ext ok e⟩, ok.tab.of fun b o h _ => s b o h⟩
theorem FF {o : HO} (h : H p = none) : n5 H (upd H p o) := fun b u q => by rw [aZ (aG q h)]; exact q
theorem bE.new {o : HO} (ok : bE K μ H) (h : H p = none) : bE K μ (upd H p o) := ok.Hk (cF h) (FF h)
theorem St0.new {o : HO} {ρ : Rho} {σ : St} (S : St0 K H ρ μ σ) (h : H p = none) : St0 K (upd H p o) ρ μ σ := ⟨S.mu.new h, S.rho.ext S.mu (cF h)⟩
theorem jo {us : List V} {ds : List PyData} (ok : bE K μ H) (r : RpL K μ H ds us) (h : H p = none) : Rp K μ (upd H p (.tup us)) (.tuple ds) (.ref p) :=
  .tuple (SqT.of bU) (r.ext ok (cF h))
theorem gO {us : List V} {ds : List PyData} (ok : bE K μ H) (r : RpL K μ H ds us) (h : H p = none) : Rp K μ (upd H p (.lst us)) (.list ds) (.ref p) :=
  .list bU (ok.free h) (r.ext ok (cF h))
theorem nL {o : HO} {ds : List PyData} (ok : bE K μ H) (h : H p = none) (hk : K.lookup p = none) : Ext K μ H (aP μ p ds) (upd H p o) where
  keep := fun b u e _ _ => by rw [aZ (aG e h)]; exact e
  tb := fun b ps e _ => ⟨ps, by rw [aZ (aG e h)]; exact e⟩
  dom := fun b es q => by
    have : b ≠ p := fun z => by rw [z, ok.free h] at q; cases q
    exact ⟨es, by rw [dF this]; exact q⟩
  fresh := fun b n q => by
    have : b ≠ p := fun z => by
      rcases q with q | q
      · exact q (by rw [z]; exact h)
      · exact q (by rw [z]; exact hk)
    rw [dF this]; exact n
theorem bE.mut {us : List V} {ds : List PyData} (ok : bE K μ H) (r : RpL K μ H ds us) (h : H p = none) (hk : K.lookup p = none) : bE K (aP μ p ds) (upd H p (.lst us)) := ⟨fun a es q => by
  have e := nL (o := .lst us) (ds := ds) ok h hk
  by_cases ha : a = p
  · subst ha
    rw [aQ] at q
    cases q
    exact ⟨us, bU, r.ext ok e⟩
  · rw [dF ha] at q
    obtain ⟨xs, h1, h2⟩ := ok a es q
    exact ⟨xs, by rw [aZ ha]; exact h1, h2.ext ok e⟩, ok.tab.of fun b o e _ => by rw [aZ (aG e h)]; exact e⟩
theorem qF {o : HO} {ds es : List PyData} (h : μ p = some ds) : Ext K μ H (aP μ p es) (upd H p o) where
  keep := fun b u e n _ => by
    have : b ≠ p := fun z => by rw [z, h] at n; cases n
    rw [aZ this]; exact e
  tb := fun b ps e n => by
    have : b ≠ p := fun z => by rw [z, h] at n; cases n
    exact ⟨ps, by rw [aZ this]; exact e⟩
  dom := fun b fs q => by
    by_cases hb : b = p
    · subst hb; exact ⟨es, aQ⟩
    · exact ⟨fs, by rw [dF hb]; exact q⟩
  fresh := fun b n q => by
    have : b ≠ p := fun z => by rw [z, h] at n; cases n
    rw [dF this]; exact n
theorem bE.set {us : List V} {ds es : List PyData} (ok : bE K μ H) (h : μ p = some ds) (r : RpL K μ H es us) : bE K (aP μ p es) (upd H p (.lst us)) := ⟨fun a fs q => by
  have e : Ext K μ H (aP μ p es) (upd H p (.lst us)) := qF h
  by_cases ha : a = p
  · subst ha
    rw [aQ] at q
    cases q
    exact ⟨us, bU, r.ext ok e⟩
  · rw [dF ha] at q
    obtain ⟨xs, h1, h2⟩ := ok a fs q
    exact ⟨xs, by rw [aZ ha]; exact h1, h2.ext ok e⟩, by
  obtain ⟨ys, hy, _⟩ := ok p ds h
  exact ok.tab.of fun b o e n => by
    have : b ≠ p := fun z => by rw [z, hy] at e; exact n ys (Option.some.inj e).symm
    rw [aZ this]; exact e⟩
end
def cJ : List D → Option (List PyData)
  | [] => some []
  | .v x :: r => (cJ r).map (x :: ·)
  | _ :: _ => none
theorem iX.data {K : PySem.W.Frag} {μ : Mu} {H : Hp} : ∀ {ds : List D} {us : List V} {xs : List PyData}, iX K μ H ds us → cJ ds = some xs → RpL K μ H xs us
  | _, _, _, .nil, e => by cases e; exact .nil
  | .v x :: r, _, xs, .cons h t, e => by
    simp only [cJ] at e
    cases q : cJ r with
    | none => rw [q] at e; cases e
    | some ys => rw [q] at e; cases e; exact .cons h (iX.data t q)
  | .m _ :: _, _, _, .cons _ _, e => by simp [cJ] at e
  | .s _ :: _, _, _, .cons _ _, e => by simp [cJ] at e
  | .o _ :: _, _, _, .cons _ _, e => by simp [cJ] at e
section
variable {X : Cx} {e : Expr} {es : List Expr} {te : DTE} {t : DTA} {pos : Pos}
def aj : DTA := fun _ μ Q => Q [] μ
def ae (ta : DTE) (tr : DTA) : DTA := fun ρ μ Q => ta ρ μ fun x μ1 => tr ρ μ1 fun xs μ2 => Q (x :: xs) μ2
theorem ah : DA X [] aj := ⟨_, oO, fun σ H ρ μ Qd Q S h k => k [] [] μ H .refl S .nil rfl h⟩
theorem aa (ha : DE X e te) (hr : DA X es t) (hs : starEach (e :: es) X.env = (false, eval e X.env) :: starEach es X.env := by rfl) : DA X (e :: es) (ae te t) := by
  obtain ⟨t1, p1, l1⟩ := ha
  obtain ⟨t2, p2, l2⟩ := hr
  refine ⟨_, ip p1 p2 hs, fun σ H ρ μ Qd Q S h k => ?_⟩
  refine l1 σ H ρ μ _ _ S h fun x ux μ1 H1 e1 S1 rx h1 => ?_
  refine l2 σ H1 ρ μ1 _ _ S1 h1 fun xs us μ2 H2 e2 S2 rs len h2 => ?_
  exact k (x :: xs) (ux :: us) μ2 H2 (e1.trans e2) S2 (.cons (rx.ext S1.mu e2) rs) (by rw [List.length_cons, List.length_cons, len]) h2
def aW (t : DTA) : DTE := fun ρ μ Q => t ρ μ fun ds μ1 => match cJ ds with
  | some xs => Q (.v (.tuple xs)) μ1
  | none => False
def kN (t : DTA) : DTE := fun ρ μ Q => t ρ μ fun ds μ1 => match cJ ds with
  | some xs => Q (.v (.list xs)) μ1
  | none => False
def vC (t : DTA) : DTE := fun ρ μ Q => t ρ μ fun ds μ1 => match cJ ds with
  | some xs => ∀ p, μ1 p = none → Q (.m p) (aP μ1 p xs)
  | none => False
theorem ay {x1} (h : DA X es t) (hl : es.length ≤ 1000 := by decide) : DE X (.Tuple es x1 pos) (aW t) := by
  obtain ⟨t1, p1, l1⟩ := h
  refine ⟨_, J9 p1, fun σ H ρ μ Qd Q S h k => ?_⟩
  refine l1 σ H ρ μ _ _ S h fun ds us μ1 H1 e1 S1 rs len h1 => ?_
  cases q : cJ ds with
  | none => rw [q] at h1; exact h1.elim
  | some xs =>
    rw [q] at h1
    refine ⟨Nat.le_of_lt (fS (by rw [← rs.length, len]; exact hl)), fun p hp => ?_⟩
    exact k (.v (.tuple xs)) _ μ1 _ (e1.trans (cF hp)) (S1.new hp) (jo S1.mu (rs.data q) hp) h1
theorem dW (h : DA X es t) (hl : es.length ≤ 1000 := by decide) : DE X (.List es pos) (kN t) := by
  obtain ⟨t1, p1, l1⟩ := h
  refine ⟨_, Gj p1, fun σ H ρ μ Qd Q S h k => ?_⟩
  refine l1 σ H ρ μ _ _ S h fun ds us μ1 H1 e1 S1 rs len h1 => ?_
  cases q : cJ ds with
  | none => rw [q] at h1; exact h1.elim
  | some xs =>
    rw [q] at h1
    refine ⟨Nat.le_of_lt (fS (by rw [← rs.length, len]; exact hl)), fun p hp => ?_⟩
    exact k (.v (.list xs)) _ μ1 _ (e1.trans (cF hp)) (S1.new hp) (gO S1.mu (rs.data q) hp) h1
def L3 (K : PySem.W.Frag) (t : TA) : TE := fun σ H Q => t σ H fun xs H1 => xs.length ≤ sizeLine ∧ ∀ p, H1 p = none → K.lookup p = none → Q (.ref p) (upd H1 p (.lst xs))
theorem G4 {t : TA} (h : PA X es t) : PE X (.List es pos) (L3 X.K t) := by
  intro pins s σ H Q I hq
  refine wpAny_List_spliced (thn (h pos pins s σ H _ I hq) fun us s1 ⟨xs, H1, I1, r, z, q⟩ => ⟨by rw [← r.length]; exact z, ?_⟩)
  have hf : H1 s1.heap.objs.size = none := I1.hok.fresh (Nat.le_refl _)
  have hk : X.K.lookup s1.heap.objs.size = none := by
    cases c : X.K.lookup s1.heap.objs.size with
    | none => rfl
    | some o => exact absurd (Heap.lt_size (I1.kIn _ _ c)) (Nat.lt_irrefl _)
  refine ⟨.ref s1.heap.objs.size, upd H1 s1.heap.objs.size (.lst xs), I1.laid (t' := s1.toks) (fun b u e => Heap.get?_push_of_some _ e) (Nat.le_refl _) ?_, rfl, q _ hf hk⟩
  exact ⟨z, us, 0, r, Heap.get?_push_size _ rfl⟩
theorem qc (h : DA X es t) (hl : es.length ≤ 1000 := by decide) : DE X (.List es pos) (vC t) := by
  obtain ⟨t1, p1, l1⟩ := h
  refine ⟨_, G4 p1, fun σ H ρ μ Qd Q S h k => ?_⟩
  refine l1 σ H ρ μ _ _ S h fun ds us μ1 H1 e1 S1 rs len h1 => ?_
  cases q : cJ ds with
  | none => rw [q] at h1; exact h1.elim
  | some xs =>
    rw [q] at h1
    refine ⟨Nat.le_of_lt (fS (by rw [← rs.length, len]; exact hl)), fun p hp hk => ?_⟩
    have ex := nL (o := .lst us) (ds := xs) S1.mu hp hk
    exact k (.m p) _ (aP μ1 p xs) _ (e1.trans ex) ⟨S1.mu.mut (rs.data q) hp hk, S1.rho.ext S1.mu ex⟩ ⟨rfl, xs, aQ⟩ (h1 p (S1.mu.free hp))
end
section
variable {X : Cx} {pins : List (Addr × Obj)} {σ : St} {H : Hp} {s : Shared} {μ : Mu}
mutual
theorem gr (I : Inv X pins σ H s) : ∀ {d : PyData} {x : V} {u : Value}, Rp X.K μ H d x → RelV x u → ∃ as, Reads s.heap u d as
  | _, _, _, .none, r => by cases r; exact ⟨_, .none⟩
  | _, _, _, .bool b, r => by cases r; exact ⟨_, .bool b⟩
  | _, _, _, .int i, r => by obtain ⟨t, rfl⟩ := r; exact ⟨_, .int i t⟩
  | _, _, _, .str y, r => by obtain ⟨t, rfl⟩ := r; exact ⟨_, .str y t⟩
  | _, _, _, .list h _ q, r => by
    cases r
    obtain ⟨its, rv, ⟨o, n, ho, hc, _, hd⟩, _⟩ := I.list (SqL.of h)
    obtain ⟨as, ra⟩ := mY I q rv
    exact ⟨_, .list ho hc hd (by simpa using ra)⟩
  | _, _, _, .tuple h q, r => by
    cases r
    obtain ⟨its, rv, ⟨o, ho, hc, n, hd⟩, _⟩ := I.tuple h
    obtain ⟨as, ra⟩ := mY I q rv
    exact ⟨_, .tuple ho hc hd (by simpa using ra)⟩
theorem mY (I : Inv X pins σ H s) : ∀ {ds : List PyData} {xs : List V} {us : List Value}, RpL X.K μ H ds xs → Vals xs us → ∃ as, ReadsAll s.heap us ds as
  | _, _, _, .nil, .nil => ⟨_, .nil⟩
  | _, _, _, .cons h t, .cons r q => by
    obtain ⟨as, ra⟩ := gr I h r
    obtain ⟨bs, rb⟩ := mY I t q
    exact ⟨_, .cons ra rb⟩
end
end
section
variable {X : Cx}
def Je (K : PySem.W.Frag) (neg : Bool) : R2 := fun x y H Q => ∃ μ a b, Rp K μ H a x ∧ Rp K μ H b y ∧ SeqAt.shaped a = true ∧ SeqAt.shaped b = true ∧ Q (.bl (neg ^^ PyData.eqv a b)) H
theorem cq (hu : X.A.units + 64 < cLine) : OpR X (compareOp .Eq) (Je X.K false) := by
  intro pins s σ H x y v u Q I rx ry h
  obtain ⟨μ, a, b, ha, hb, sa, sb, q⟩ := h
  obtain ⟨as, ra⟩ := gr I ha rx
  obtain ⟨bs, rb⟩ := gr I hb ry
  exact eq_dataH ra rb sa sb hu ⟨.bl (PyData.eqv a b), H, I, rfl, by simpa using q⟩
theorem rM (hu : X.A.units + 64 < cLine) : OpR X (compareOp .NotEq) (Je X.K true) := by
  intro pins s σ H x y v u Q I rx ry h
  obtain ⟨μ, a, b, ha, hb, sa, sb, q⟩ := h
  obtain ⟨as, ra⟩ := gr I ha rx
  obtain ⟨bs, rb⟩ := gr I hb ry
  exact ne_dataH ra rb sa sb hu ⟨.bl (!PyData.eqv a b), H, I, rfl, by simpa using q⟩
def cW (neg : Bool) : D → D → Mu → DK → Prop := fun x y μ Q => match x, y with
  | .v a, .v b => SeqAt.shaped a = true ∧ SeqAt.shaped b = true ∧ Q (.v (.bool (neg ^^ PyData.eqv a b))) μ
  | _, _ => False
theorem bK {K : PySem.W.Frag} {neg : Bool} : jV K (Je K neg) (cW neg) := by
  intro x y ux uy H μ Qd Q ok rx ry h k
  unfold cW at h
  split at h
  · rename_i a b
    exact ⟨μ, a, b, rx, ry, h.1, h.2.1, k (.v _) _ μ H .refl ok (Rp.bool _) h.2.2⟩
  · exact h.elim
def Ki (K : PySem.W.Frag) (neg : Bool) : R2 := fun x y H Q => ∃ μ a bs, Rp K μ H a x ∧ Rp K μ H (.list bs) y ∧ PyData.canLayAll0 bs = true ∧ a.canLay0 = true ∧ PyData.depth a ≤ 60 ∧ Q (.bl (neg ^^ bs.any fun b => PyData.eqv b a)) H
theorem L8 (hu : X.A.units + 64 < cLine) : OpR X (compareOp .In) (Ki X.K false) := by
  intro pins s σ H x y v u Q I rx ry h
  obtain ⟨μ, a, b, ha, hb, sb, sa, dp, q⟩ := h
  obtain ⟨as, ra⟩ := gr I ha rx
  obtain ⟨bs, rb⟩ := gr I hb ry
  refine SeqAt.in_list_reads rb ra sb sa (by omega) ⟨.bl (b.any fun z => PyData.eqv z a), H, I, rfl, by simpa using q⟩
theorem D8 (hu : X.A.units + 64 < cLine) : OpR X (compareOp .NotIn) (Ki X.K true) := by
  intro pins s σ H x y v u Q I rx ry h
  obtain ⟨μ, a, b, ha, hb, sb, sa, dp, q⟩ := h
  obtain ⟨as, ra⟩ := gr I ha rx
  obtain ⟨bs, rb⟩ := gr I hb ry
  refine SeqAt.notIn_list_reads rb ra sb sa (by omega) ⟨.bl (!b.any fun z => PyData.eqv z a), H, I, rfl, by simpa using q⟩
def HE (neg : Bool) : D → D → Mu → DK → Prop := fun x y μ Q => match x, y with
  | .v a, .v (.list bs) => PyData.canLayAll0 bs = true ∧ a.canLay0 = true ∧ PyData.depth a ≤ 60 ∧ Q (.v (.bool (neg ^^ bs.any fun b => PyData.eqv b a))) μ
  | _, _ => False
theorem Kw {K : PySem.W.Frag} {neg : Bool} : jV K (Ki K neg) (HE neg) := by
  intro x y ux uy H μ Qd Q ok rx ry h k
  unfold HE at h
  split at h
  · rename_i a b
    exact ⟨μ, a, b, rx, ry, h.1, h.2.1, h.2.2.1, k (.v _) _ μ H .refl ok (Rp.bool _) h.2.2.2⟩
  · exact h.elim
end
open PySem PySem.Spec PyProof.Rows
section
variable {X : Cx} {a b e : Expr} {es : List Expr} {ta tb te : DTE} {t : DTA} {p pos : Pos}
def aA : D → D → Mu → DK → Prop := fun x y μ Q => match x, y with
  | .v (.list xs), .v (.int i) => (match atI xs i with | some d => Q (.v d) μ | none => False)
  | .v (.tuple xs), .v (.int i) => (match atI xs i with | some d => Q (.v d) μ | none => False)
  | .m l, .v (.int i) => (match μ l with
    | some xs => (match atI xs i with | some d => Q (.v d) μ | none => False)
    | none => False)
  | .s ns, .v (.int i) => (match atI ns i with | some d => Q (.v (.int d)) μ | none => False)
  | _, _ => False
theorem LK {K : PySem.W.Frag} : jV K (rIx K) aA := by
  intro x y ux uy H μ Qd Q ok rx ry h k
  unfold aA at h
  split at h
  · rename_i xs i
    cases ry
    cases q : atI xs i with
    | none => rw [q] at h; exact h.elim
    | some d =>
      rw [q] at h
      cases rx with
      | list hs hn r =>
        obtain ⟨u, e1, e2⟩ := BP r q
        exact .inl ⟨_, _, i, u, rfl, rfl, SqL.of hs, e1, k (.v d) u μ H .refl ok e2 h⟩
  · rename_i xs i
    cases ry
    cases q : atI xs i with
    | none => rw [q] at h; exact h.elim
    | some d =>
      rw [q] at h
      cases rx with
      | tuple hs r =>
        obtain ⟨u, e1, e2⟩ := BP r q
        exact .inr (.inl ⟨_, _, i, u, rfl, rfl, hs, e1, k (.v d) u μ H .refl ok e2 h⟩)
  · rename_i l i
    cases ry
    obtain ⟨rfl, ds, hm⟩ := rx
    rw [hm] at h
    simp only at h
    cases q : atI ds i with
    | none => rw [q] at h; exact h.elim
    | some d =>
      rw [q] at h
      obtain ⟨us, hl, r⟩ := ok l ds hm
      obtain ⟨u, e1, e2⟩ := BP r q
      exact .inl ⟨_, _, i, u, rfl, rfl, SqL.of hl, e1, k (.v d) u μ H .refl ok e2 h⟩
  · rename_i ns i
    cases ry
    obtain ⟨a, rfl, hs, hn⟩ := rx
    cases q : atI ns i with
    | none => rw [q] at h; exact h.elim
    | some d =>
      rw [q] at h
      have e1 : atI (ns.map V.int) i = some (.int d) := by
        unfold atI at q ⊢
        rw [List.length_map]
        cases z : ixN ns.length i with
        | none => rw [z] at q; cases q
        | some j =>
          rw [z] at q
          simp only [Option.bind_some, List.getElem?_map] at q ⊢
          rw [q] <;> rfl
      exact .inl ⟨_, _, i, _, rfl, rfl, hs, e1, k (.v (.int d)) _ μ H .refl ok (Rp.int d) h⟩
  · exact h.elim
theorem ax (ha : DE X a ta) (hb : DE X b tb) (hs : Dc b) : DE X (.Subscript a b pos) (dOp aA ta tb) := by
  obtain ⟨t1, p1, l1⟩ := ha
  obtain ⟨t2, p2, l2⟩ := hb
  exact ⟨_, Lg JL p1 p2 hs, uc LK l1 l2⟩
theorem ER {prog : Program} {w : World} {A : Around} {E : Value → Shared → Prop} {s : Shared} {t b : Addr} {ws : List Value} {Q : Value → Shared → Prop} (ht : IsTup s.heap t #[]) (hb : IsTup s.heap b ws.toArray)
    (h1 : Q (.ref b) s) : wpAny (model prog w) A (binaryOp .Add (.ref t) (.ref b)) Q E s := by
  obtain ⟨⟨cls, dd, data, sl⟩, ho, hc, n, hd⟩ := id ht
  obtain ⟨⟨cls2, dd2, data2, sl2⟩, ho2, hc2, n2, hd2⟩ := id hb
  simp only at hc hd hc2 hd2
  subst hc hd hc2 hd2
  exact concat_meets ⟨_, ho, rfl⟩ ⟨_, ho2, rfl⟩ noFill_tuple_add seq_tuple_add PySem.F.slot_tuple_add PySem.F.entry_tuple_add (PySem.F.args_tuple_add_2 _ _)
    (tuple_addW0 t b #[] ws.toArray n n2 dd dd2 sl sl2 rfl) ⟨ho, ho2, h1⟩
def tf (μ : Mu) : D → Option (List PyData)
  | .v (.list xs) => some xs
  | .m l => μ l
  | _ => none
theorem AJ {K : PySem.W.Frag} {μ : Mu} {H : Hp} {x : D} {u : V} {xs : List PyData} (ok : bE K μ H) (r : RpD K μ H x u) (h : tf μ x = some xs) : ∃ a us, u = .ref a ∧ H a = some (.lst us) ∧ RpL K μ H xs us := by
  cases x with
  | v d =>
    cases d <;> simp only [tf] at h <;> try cases h
    cases r with
    | list hs _ q => exact ⟨_, _, rfl, hs, q⟩
  | m l =>
    obtain ⟨rfl, ds, hm⟩ := r
    obtain ⟨us, hl, q⟩ := ok l xs h
    exact ⟨l, us, rfl, hl, q⟩
  | s ns => cases h
  | o a => cases h
  | q P => cases h
def Aj : D → D → Mu → DK → Prop := fun x y μ Q => match tf μ x, tf μ y with
  | some xs, some ys => xs.length + ys.length ≤ 1000 ∧ Q (.v (.list (xs ++ ys))) μ
  | _, _ => False
theorem C0 {n : Nat} (h : n ≤ 1000) : n ≤ sizeLine := Nat.le_of_lt (fS h)
theorem J6 {K : PySem.W.Frag} : jV K Jc Aj := by
  intro x y ux uy H μ Qd Q ok rx ry h k
  unfold Aj at h
  split at h
  · rename_i xs ys hx hy
    obtain ⟨a, us, rfl, ha, ra⟩ := AJ ok rx hx
    obtain ⟨b, ws, rfl, hb, rb⟩ := AJ ok ry hy
    refine ⟨a, b, us, ws, rfl, rfl, ha, hb, C0 (by rw [← ra.length, ← rb.length]; exact h.1), fun p hp => ?_⟩
    exact k (.v _) _ μ _ (cF hp) (ok.new hp) (gO ok (ra.append rb) hp) h.2
  · exact h.elim
def BH (K : PySem.W.Frag) : R2 := fun x y H Q => ∃ a b xs ys, x = .ref a ∧ y = .ref b ∧ SqT K H a xs ∧ SqT K H b ys ∧ xs.length + ys.length ≤ sizeLine ∧
  (xs = [] → Q (.ref b) H) ∧ (ys = [] → Q (.ref a) H) ∧ (∀ p, H p = none → Q (.ref p) (upd H p (.tup (xs ++ ys))))
theorem GD : OpR X (binaryOp .Add) (BH X.K) := by
  intro pins s σ H x y v u Q I rx ry h
  obtain ⟨a, b, xs, ys, rfl, rfl, ha, hb, hz, q0, q1, q2⟩ := h
  by_cases hx : xs = []
  · subst hx
    cases rx
    cases ry
    obtain ⟨its, r1, p1, _⟩ := I.tuple ha
    obtain ⟨its2, r2, p2, _⟩ := I.tuple hb
    cases r1
    exact ER p1 p2 ⟨.ref b, H, I, rfl, q0 rfl⟩
  · exact HS pins s σ H _ _ v u Q I rx ry ⟨a, b, xs, ys, rfl, rfl, ha, hb, hx, hz, q1, fun _ => q2⟩
def Bk : D → D → Mu → DK → Prop := fun x y μ Q => match x, y with
  | .v (.tuple xs), .v (.tuple ys) => xs.length + ys.length ≤ 1000 ∧ Q (.v (.tuple (xs ++ ys))) μ
  | _, _ => False
theorem Hi {K : PySem.W.Frag} : jV K (BH K) Bk := by
  intro x y ux uy H μ Qd Q ok rx ry h k
  unfold Bk at h
  split at h
  · rename_i xs ys
    cases id rx with
    | @tuple a us _ ha ra =>
      cases id ry with
      | @tuple b ws _ hb rb =>
        refine ⟨a, b, us, ws, rfl, rfl, ha, hb, C0 (by rw [← ra.length, ← rb.length]; exact h.1), fun z => ?_, fun z => ?_, fun p hp => ?_⟩
        · subst z
          cases ra
          exact k (.v _) _ μ H .refl ok ry (by simpa using h.2)
        · subst z
          cases rb
          exact k (.v _) _ μ H .refl ok rx (by simpa using h.2)
        · exact k (.v _) _ μ _ (cF hp) (ok.new hp) (jo ok (ra.append rb) hp) h.2
  · exact h.elim
end
end L2.DL
set_option Elab.async false
set_option linter.all false
set_option maxRecDepth 100000
set_option maxHeartbeats 4000000
namespace HT
open PySem PyProof.Rows
section
variable {prog : Program} {w : World} {A : Around} {E : Value → Shared → Prop} {s : Shared}
theorem rh {t sl : Addr} {items : Array Value} {vl vu : Value} {lo hi : Option Int} {Q : Value → Shared → Prop} (ht : IsTup s.heap t items) (hs : s.heap.IsSliceOf sl vl vu .none) (pl : IsPart vl lo) (pu : IsPart vu hi)
    (hw : sIx items.size 0 lo = 0 ∧ sIx items.size items.size hi = items.size) (h : Q (.ref t) s) : wpAny (model prog w) A (getItem (.ref t) (.ref sl)) Q E s := by
  obtain ⟨os, hos, hcs, hds⟩ := id hs
  have hTs : s.TypeIs (.ref sl) "slice" := ⟨os, hos, hcs⟩
  unfold getItem
  try with_reducible refine wpAny_holding ?_
  first | refine wpAny_bind (wpAny_pure ?_) | skip
  refine wpAny_bind (wpAny_sequenceKey ht.typeIs (by decide) ?_)
  refine wpAny_bind (wpAny_callSpecial?_slot (name := Str.ofString "__getitem__") ht.typeIs PyProof.Rows.slot_tuple_getitem
    (wpAny_call_entry PyProof.Rows.slot_tuple_getitem ht.typeIs entry_tuple_getitem ?_ (args_tuple_getitem _ _)))
  show wpAny _ _ (Builtin.Tuple.tupleItemsOf (.ref t) >>= _) _ _ s
  refine wpAny_bind (tupleItemsOf_ ht ?_)
  refine wpAny_bind (wpAny_typeOf hTs ?_)
  rw [if_pos (by decide)]
  refine wpAny_bind (kA hs pl pu ?_)
  have hno : ((((sIx items.size 0 lo : Nat) : Int) == 0 && (1 : Int) == 1 && (sIx items.size items.size hi - sIx items.size 0 lo) == items.size) = true) := by
    rw [hw.1, hw.2]
    simp
  show wpAny _ _ (if (((sIx items.size 0 lo : Nat) : Int) == 0 && (1 : Int) == 1 && (sIx items.size items.size hi - sIx items.size 0 lo) == items.size) = true then _ else _) _ _ s
  rw [if_pos hno]
  refine wpAny_bind ?_
  unfold Builtin.Tuple.tupleIsExact
  refine wpAny_bind (wpAny_typeOf ht.typeIs (wpAny_pure ?_))
  rw [if_pos (by decide)]
  refine wpAny_bind (wpAny_rule ?_)
  exact wpAny_pure ⟨_, rfl, wpAny_pure h⟩
end
end HT
namespace L2.DL
open PySem PySem.Spec PyProof.Rows
section
variable {X : Cx} {a b e : Expr} {lo hi : Option Expr} {ta tb te : DTE} {pos p2 : Pos}
def oJ {α : Type} (xs : List α) (lo hi : Option Int) : List α := (xs.drop (HT.sIx xs.length 0 lo)).take (HT.sIx xs.length xs.length hi - HT.sIx xs.length 0 lo)
theorem RpL.cut {K : PySem.W.Frag} {μ : Mu} {H : Hp} {ds : List PyData} {us : List V} {lo hi : Option Int} (r : RpL K μ H ds us) : RpL K μ H (oJ ds lo hi) (yw us lo hi) := by
  unfold oJ yw
  rw [r.length]
  exact (r.drop _).take _
theorem Hb {α : Type} {xs : List α} {lo hi : Option Int} (h : HT.sIx xs.length 0 lo = 0 ∧ HT.sIx xs.length xs.length hi = xs.length) : oJ xs lo hi = xs := by
  unfold oJ
  rw [h.1, h.2]
  simp
def KZ (K : PySem.W.Frag) : V → Option Int → Option Int → Hp → VK → Prop := fun x lo hi H Q => ∃ a xs, x = .ref a ∧ SqT K H a xs ∧
  (HT.sIx xs.length 0 lo = 0 ∧ HT.sIx xs.length xs.length hi = xs.length → Q (.ref a) H) ∧ ∀ p, H p = none → Q (.ref p) (upd H p (.tup (yw xs lo hi)))
theorem HB : SlR X (KZ X.K) := by
  intro pins s σ H x v vl vu lo hi sl Q I rx hs pl pu h
  obtain ⟨a, xs, rfl, hx, q1, q⟩ := h
  by_cases hw : HT.sIx xs.length 0 lo = 0 ∧ HT.sIx xs.length xs.length hi = xs.length
  · cases rx
    obtain ⟨its, r, ht, hz⟩ := I.tuple hx
    have hlen : its.toArray.size = xs.length := by rw [List.size_toArray]; exact r.length.symm
    refine ⟨"tuple", _, PyProof.Rows.slot_tuple_getitem.lookup, ht.typeIs, ?_⟩
    exact HT.rh ht hs pl pu (by rw [hlen]; exact hw) ⟨.ref a, H, I, rfl, q1 hw⟩
  · exact J0 pins s σ H _ v vl vu lo hi sl Q I rx hs pl pu ⟨a, xs, rfl, hx, hw, q⟩
abbrev DTO := Rho → Mu → (Option Int → Mu → Prop) → Prop
def LS (K : PySem.W.Frag) (t : TO) (td : DTO) : Prop := ∀ (σ : St) (H : Hp) (ρ : Rho) (μ : Mu) (Qd : Option Int → Mu → Prop) (Q : Option Int → Hp → Prop), St0 K H ρ μ σ → td ρ μ Qd →
  (∀ o μ' H', Ext K μ H μ' H' → St0 K H' ρ μ' σ → Qd o μ' → Q o H') → t σ H Q
def DO (X : Cx) (e : Option Expr) (td : DTO) : Prop := ∃ t, PO X e t ∧ LS X.K t td
def tY : DTO := fun _ μ Q => Q none μ
def CZ (t : DTE) : DTO := fun ρ μ Q => t ρ μ fun x μ1 => match x with
  | .v (.int i) => Q (some i) μ1
  | _ => False
theorem Cp : DO X none tY := ⟨_, GO, fun σ H ρ μ Qd Q S h k => k none μ H .refl S h⟩
theorem Cm (h : DE X e te) : DO X (some e) (CZ te) := by
  obtain ⟨t1, p1, l1⟩ := h
  refine ⟨_, Hv p1, fun σ H ρ μ Qd Q S h k => ?_⟩
  refine l1 σ H ρ μ _ _ S h fun x ux μ1 H1 e1 S1 rx h1 => ?_
  split at h1
  · cases rx
    exact ⟨_, rfl, k _ μ1 H1 e1 S1 h1⟩
  · exact h1.elim
def Gu (x : D) (lo hi : Option Int) (μ : Mu) (Q : DK) : Prop := match x with
  | .v (.tuple xs) => Q (.v (.tuple (oJ xs lo hi))) μ
  | .v (.list xs) => Q (.v (.list (oJ xs lo hi))) μ
  | .m l => (match μ l with | some xs => Q (.v (.list (oJ xs lo hi))) μ | none => False)
  | _ => False
def dSl (te : DTE) (tl th : DTO) : DTE := fun ρ μ Q => te ρ μ fun x μ1 => tl ρ μ1 fun l μ2 => th ρ μ2 fun u μ3 => Gu x l u μ3 Q
theorem Be {tl th : DTO} (he : DE X e te) (hl : DO X lo tl) (hu : DO X hi th) : DE X (.Subscript e (.Slice lo hi none p2) pos) (dSl te tl th) := by
  obtain ⟨t1, p1, l1⟩ := he
  obtain ⟨t2, p2, l2⟩ := hl
  obtain ⟨t3, p3, l3⟩ := hu
  refine ⟨_, GF (HR.or HB) p1 p2 p3, fun σ H ρ μ Qd Q S h k => ?_⟩
  refine l1 σ H ρ μ _ _ S h fun x ux μ1 H1 e1 S1 rx h1 => ?_
  refine l2 σ H1 ρ μ1 _ _ S1 h1 fun l μ2 H2 e2 S2 h2 => ?_
  refine l3 σ H2 ρ μ2 _ _ S2 h2 fun u μ3 H3 e3 S3 h3 => ?_
  have rx3 := (rx.ext S1.mu e2).ext S2.mu e3
  have ee := e1.trans (e2.trans e3)
  unfold Gu at h3
  split at h3
  · rename_i xs
    cases id rx3 with
    | @tuple a us _ ha ra =>
      refine .inr ⟨a, us, rfl, ha, fun hw => ?_, fun p hp => ?_⟩
      · refine k (.v _) _ μ3 H3 ee S3 (show Rp _ _ _ (.tuple (oJ xs l u)) _ from ?_) h3
        rw [Hb (by rw [ra.length]; exact hw)]
        exact rx3
      · exact k (.v _) _ μ3 _ (ee.trans (cF hp)) (S3.new hp) (jo S3.mu ra.cut hp) h3
  · rename_i xs
    cases id rx3 with
    | @list a us _ ha hn ra => exact .inl ⟨a, us, rfl, SqL.of ha, fun p hp => k (.v _) _ μ3 _ (ee.trans (cF hp)) (S3.new hp) (gO S3.mu ra.cut hp) h3⟩
  · rename_i a
    obtain ⟨rfl, ds, hm⟩ := rx3
    rw [hm] at h3
    obtain ⟨us, ha, ra⟩ := S3.mu a ds hm
    exact .inl ⟨a, us, rfl, SqL.of ha, fun p hp => k (.v _) _ μ3 _ (ee.trans (cF hp)) (S3.new hp) (gO S3.mu ra.cut hp) h3⟩
  · exact h3.elim
def Mj (te : DTE) : DTE := fun ρ μ Q => te ρ μ fun x μ1 => match x with
  | .v (.tuple xs) => Q (.v (.tuple xs.reverse)) μ1
  | .v (.list xs) => Q (.v (.list xs.reverse)) μ1
  | .m l => (match μ1 l with | some xs => Q (.v (.list xs.reverse)) μ1 | none => False)
  | _ => False
end
open PySem PySem.Spec PyProof.Rows
section
variable {X : Cx} {a b e : Expr} {es : List Expr} {ta tb te : DTE} {t : DTA} {p pos : Pos} {x : Str} {bid T : String}
def mS (K : PySem.W.Frag) (r : List V → Hp → VK → Prop) (rd : List D → Mu → DK → Prop) : Prop := ∀ (xs : List D) (us : List V) (H : Hp) (μ : Mu) (Qd : DK) (Q : VK), bE K μ H → iX K μ H xs us → rd xs μ Qd →
  (∀ d u μ' H', Ext K μ H μ' H' → bE K μ' H' → RpD K μ' H' d u → Qd d μ' → Q u H') → r us H Q
def dCB (rd : List D → Mu → DK → Prop) (t : DTA) : DTE := fun ρ μ Q => t ρ μ fun ds μ1 => rd ds μ1 Q
theorem CO {K : PySem.W.Frag} {n : Nat} {r : List V → Hp → VK → Prop} {rd : List D → Mu → DK → Prop} {t1 : TA} (lc : mS K r rd) (l1 : Ih K n t1 t) : qC K (tCB r t1) (dCB rd t) := by
  intro σ H ρ μ Qd Q S h k
  refine l1 σ H ρ μ _ _ S h fun xs us μ1 H1 e1 S1 rs len h1 => ?_
  exact lc xs us H1 μ1 _ _ S1.mu rs h1 fun d u μ' H' e2 ok r q => k d u μ' H' (e1.trans e2) ⟨ok, S1.rho.ext S1.mu e2⟩ r q
theorem kr {r : List V → Hp → VK → Prop} {rd : List D → Mu → DK → Prop} (hc : gp X (.builtin bid) r) (lc : mS X.K r rd) (hg : Gl X x) (hm : X.mg x = none) (hv : bootBuiltins x = some (.builtin bid)) (ha : DA X (e :: es) t) (hn : x ≠ "__name__" := by decide) (hdb : (x == ("__debug__" : Str)) = false := by decide)
    (he : starEach (e :: es) X.env = (false, eval e X.env) :: starEach es X.env := by rfl) (hpl : (backTo pos (starEach es X.env)).any (·.1) = false := by rfl) : DE X (.Call (.Name x p) (e :: es) [] pos) (dCB rd t) := by
  obtain ⟨t1, p1, l1⟩ := ha
  exact ⟨_, rj hc hg hm hv p1 hn hdb he hpl, CO lc l1⟩
theorem rP {r : List V → Hp → VK → Prop} {rd : List D → Mu → DK → Prop} (hc : gp X (.type T) r) (lc : mS X.K r rd) (hg : Gl X x) (hm : X.mg x = none) (hv : bootBuiltins x = some (.type T)) (ha : DA X (e :: es) t) (hn : x ≠ "__name__" := by decide) (hdb : (x == ("__debug__" : Str)) = false := by decide)
    (he : starEach (e :: es) X.env = (false, eval e X.env) :: starEach es X.env := by rfl) (hpl : (backTo pos (starEach es X.env)).any (·.1) = false := by rfl) : DE X (.Call (.Name x p) (e :: es) [] pos) (dCB rd t) := by
  obtain ⟨t1, p1, l1⟩ := ha
  exact ⟨_, Dw hc hg hm hv p1 hn hdb he hpl, CO lc l1⟩
def ky : List D → Mu → DK → Prop := fun xs μ Q => match xs with
  | [.v (.list ys)] => Q (.v (.int (ys.length : Nat))) μ
  | [.v (.tuple ys)] => Q (.v (.int (ys.length : Nat))) μ
  | [.m l] => (match μ l with | some ys => Q (.v (.int (ys.length : Nat))) μ | none => False)
  | [.s ns] => Q (.v (.int (ns.length : Nat))) μ
  | _ => False
theorem JP {K : PySem.W.Frag} : mS K (fun xs H Q => ∃ p ys, xs = [.ref p] ∧ (SqL K H p ys ∨ SqT K H p ys) ∧ Q (.int ys.length) H) ky := by
  intro xs us H μ Qd Q ok rs h k
  unfold ky at h
  split at h
  · cases rs with
    | cons r1 r2 =>
      cases r2
      cases r1 with
      | list hs hn r => exact ⟨_, _, rfl, .inl (SqL.of hs), k (.v _) _ μ H .refl ok (by rw [← r.length]; exact Rp.int _) h⟩
  · cases rs with
    | cons r1 r2 =>
      cases r2
      cases r1 with
      | tuple hs r => exact ⟨_, _, rfl, .inr hs, k (.v _) _ μ H .refl ok (by rw [← r.length]; exact Rp.int _) h⟩
  · cases rs with
    | cons r1 r2 =>
      cases r2
      obtain ⟨rfl, ds, hm⟩ := r1
      rw [hm] at h
      obtain ⟨us, hl, r⟩ := ok _ ds hm
      exact ⟨_, _, rfl, .inl (SqL.of hl), k (.v _) _ μ H .refl ok (by rw [← r.length]; exact Rp.int _) h⟩
  · cases rs with
    | cons r1 r2 =>
      cases r2
      obtain ⟨a, rfl, hs, hn⟩ := r1
      exact ⟨_, _, rfl, .inl hs, k (.v _) _ μ H .refl ok (by rw [List.length_map]; exact Rp.int _) h⟩
  · exact h.elim
theorem rF (hg : Gl X "len") (hm : X.mg "len" = none) (ha : DA X (e :: es) t)
    (he : starEach (e :: es) X.env = (false, eval e X.env) :: starEach es X.env := by rfl) (hpl : (backTo pos (starEach es X.env)).any (·.1) = false := by rfl) : DE X (.Call (.Name "len" p) (e :: es) [] pos) (dCB ky t) :=
  kr yi JP hg hm PySem.boot_len ha (by decide) (by decide) he hpl
def qo : List D → Mu → DK → Prop := fun xs μ Q => match xs with
  | [.v (.int i)] => Q (.v (.int (i.natAbs : Nat))) μ
  | _ => False
theorem KH {K : PySem.W.Frag} : mS K (fun xs H Q => ∃ i, xs = [.int i] ∧ Q (.int (if i < 0 then -i else i)) H) qo := by
  intro xs us H μ Qd Q ok rs h k
  unfold qo at h
  split at h
  · rename_i i
    cases rs with
    | cons r1 r2 =>
      cases r2
      cases r1
      refine ⟨i, rfl, k (.v (.int (i.natAbs : Nat))) _ μ H .refl ok ?_ h⟩
      have : (if i < 0 then -i else i) = ((i.natAbs : Nat) : Int) := by split <;> omega
      rw [this]
      exact Rp.int _
  · exact h.elim
theorem uU (hg : Gl X "abs") (hm : X.mg "abs" = none) (ha : DA X (e :: es) t)
    (he : starEach (e :: es) X.env = (false, eval e X.env) :: starEach es X.env := by rfl) (hpl : (backTo pos (starEach es X.env)).any (·.1) = false := by rfl) : DE X (.Call (.Name "abs" p) (e :: es) [] pos) (dCB qo t) :=
  kr Fu KH hg hm PyProof.Rows.Boot.«abs» ha (by decide) (by decide) he hpl
def vM (g : Int → Int → Int) : List D → Mu → DK → Prop := fun xs μ Q => match xs with
  | [.v (.int i), .v (.int j)] => Q (.v (.int (g i j))) μ
  | _ => False
theorem Iq {K : PySem.W.Frag} {g g' : Int → Int → Int} (hg : ∀ i j, g i j = g' i j) : mS K (fun xs H Q => ∃ i j, xs = [.int i, .int j] ∧ Q (.int (g i j)) H) (vM g') := by
  intro xs us H μ Qd Q ok rs h k
  unfold vM at h
  split at h
  · rename_i i j
    cases rs with
    | cons r1 r2 =>
      cases r2 with
      | cons r2 r3 =>
        cases r3
        cases r1
        cases r2
        exact ⟨i, j, rfl, k (.v _) _ μ H .refl ok (by rw [hg]; exact Rp.int _) h⟩
  · exact h.elim
theorem Cg (hc : X.calm = true) (hg : Gl X "max") (hm : X.mg "max" = none) (ha : DA X (e :: es) t)
    (he : starEach (e :: es) X.env = (false, eval e X.env) :: starEach es X.env := by rfl) (hpl : (backTo pos (starEach es X.env)).any (·.1) = false := by rfl) : DE X (.Call (.Name "max" p) (e :: es) [] pos) (dCB (vM max) t) :=
  kr (DC hc) (Iq (fun i j => by show (if j > i then j else i) = max i j; simp only [Int.max_def]; split <;> split <;> omega)) hg hm PyProof.Rows.Boot.«max» ha (by decide) (by decide) he hpl
theorem Cb (hc : X.calm = true) (hg : Gl X "min") (hm : X.mg "min" = none) (ha : DA X (e :: es) t)
    (he : starEach (e :: es) X.env = (false, eval e X.env) :: starEach es X.env := by rfl) (hpl : (backTo pos (starEach es X.env)).any (·.1) = false := by rfl) : DE X (.Call (.Name "min" p) (e :: es) [] pos) (dCB (vM min) t) :=
  kr (Dr hc) (Iq (fun i j => by show (if j < i then j else i) = min i j; simp only [Int.min_def]; split <;> split <;> omega)) hg hm PyProof.Rows.Boot.«min» ha (by decide) (by decide) he hpl
def oF : List D → Mu → DK → Prop := fun xs μ Q => match xs with
  | [.v (.int i)] => Q (.v (.int i)) μ
  | [.v (.bool k)] => Q (.v (.int (if k then 1 else 0))) μ
  | _ => False
theorem Kf {K : PySem.W.Frag} : mS K (fun xs H Q => (∃ i, xs = [.int i] ∧ Q (.int i) H) ∨ ∃ k, xs = [.bl k] ∧ Q (.int (if k then 1 else 0)) H) oF := by
  intro xs us H μ Qd Q ok rs h k
  unfold oF at h
  split at h
  · rename_i i
    cases rs with
    | cons r1 r2 => cases r2; cases r1; exact .inl ⟨i, rfl, k (.v _) _ μ H .refl ok (Rp.int _) h⟩
  · rename_i b
    cases rs with
    | cons r1 r2 => cases r2; cases r1; exact .inr ⟨b, rfl, k (.v _) _ μ H .refl ok (Rp.int _) h⟩
  · exact h.elim
theorem ng (hg : Gl X "int") (hm : X.mg "int" = none) (ha : DA X (e :: es) t)
    (he : starEach (e :: es) X.env = (false, eval e X.env) :: starEach es X.env := by rfl) (hpl : (backTo pos (starEach es X.env)).any (·.1) = false := by rfl) : DE X (.Call (.Name "int" p) (e :: es) [] pos) (dCB oF t) :=
  rP Dz Kf hg hm PyProof.Rows.Boot.«int» ha (by decide) (by decide) he hpl
def pK : List D → Mu → DK → Prop := fun xs μ Q => match xs with
  | [.v (.list ys)] => Q (.v (.list ys)) μ
  | [.v (.tuple ys)] => Q (.v (.list ys)) μ
  | _ => False
theorem HI {K : PySem.W.Frag} : mS K (fun xs H Q => ∃ p ys, xs = [.ref p] ∧ (SqL K H p ys ∨ SqT K H p ys) ∧ ∀ l, H l = none → Q (.ref l) (upd H l (.lst ys))) pK := by
  intro xs us H μ Qd Q ok rs h k
  unfold pK at h
  split at h
  · cases rs with
    | cons r1 r2 =>
      cases r2
      cases r1 with
      | list hs hn r => exact ⟨_, _, rfl, .inl (SqL.of hs), fun p hp => k (.v _) _ μ _ (cF hp) (ok.new hp) (gO ok r hp) h⟩
  · cases rs with
    | cons r1 r2 =>
      cases r2
      cases r1 with
      | tuple hs r => exact ⟨_, _, rfl, .inr hs, fun p hp => k (.v _) _ μ _ (cF hp) (ok.new hp) (gO ok r hp) h⟩
  · exact h.elim
theorem HJ (hg : Gl X "list") (hm : X.mg "list" = none) (ha : DA X (e :: es) t)
    (he : starEach (e :: es) X.env = (false, eval e X.env) :: starEach es X.env := by rfl) (hpl : (backTo pos (starEach es X.env)).any (·.1) = false := by rfl) : DE X (.Call (.Name "list" p) (e :: es) [] pos) (dCB pK t) :=
  rP xw HI hg hm PyProof.Rows.Boot.«list» ha (by decide) (by decide) he hpl
theorem zj : ∀ {bs : List Bool} {us : List Value}, Vals (bs.map V.bl) us → us = bs.map Value.bool
  | [], _, .nil => rfl
  | b :: r, _, .cons h t => by cases h; rw [zj t]; rfl
theorem D0 (hc : X.calm = true) : gp X (.builtin "all") (fun xs H Q => ∃ (p : Addr) (bs : List Bool), xs = [.ref p] ∧ H p = some (.lst (bs.map V.bl)) ∧ Q (.bl (bs.all id)) H) := by
  intro pins s σ H xs us Q I r h
  obtain ⟨l, bs, rfl, hl, q⟩ := h
  obtain ⟨u, rfl, rx⟩ := vals1 r
  cases rx
  obtain ⟨its, rv, pl, _⟩ := I.list (SqL.of hl)
  have eb := zj rv
  subst eb
  have hL := pl.isList
  have hlt := pl.lt
  refine call_all_walk (wpAny_pyIter_list hL ?_)
  refine ⟨s.heap.objs.size, [s.heap.objs.size, l], [s.heap.objs.size], (bs.map Value.bool).toArray.size, _, _, fun i => (bs[i]?).getD true, rfl, Walks.list (A := X.A.in1) (by exact I.ok.hd hc) _ l (Nat.ne_of_lt hlt) (bs.map Value.bool).toArray,
    ⟨⟨_, Heap.get?_push_size _ rfl, rfl, rfl⟩, hL.push _⟩, fun i v s' Q' E' hP hQ => ?_, fun h' tk hk => ?_⟩
  · have hP' : (bs.map Value.bool)[i]? = some v := by simpa using hP
    rw [List.getElem?_map] at hP'
    cases z : bs[i]? with
    | none => rw [z] at hP'; cases hP'
    | some b =>
      rw [z] at hP'
      cases hP'
      simp only [z, Option.getD_some] at hQ
      exact wpAny_truthy_bool hQ
  · have e : ((List.range (bs.map Value.bool).toArray.size).all fun i => (bs[i]?).getD true) = bs.all id := by
      rw [List.size_toArray, List.length_map]; exact PyProof.Rows.LSm.range_all bs
    rw [e]
    exact ⟨.bl (bs.all id), H, I.kept (PyProof.Rows.LSm.kept_iter hk), rfl, q⟩
def eG : List PyData → Option (List Bool)
  | [] => some []
  | .bool b :: r => (eG r).map (b :: ·)
  | _ :: _ => none
theorem uM {K : PySem.W.Frag} {μ : Mu} {H : Hp} : ∀ {xs : List PyData} {us : List V} {bs : List Bool}, RpL K μ H xs us → eG xs = some bs → us = bs.map V.bl
  | _, _, _, .nil, e => by cases e; rfl
  | .bool b :: r, _, bs, .cons h t, e => by
    simp only [eG] at e
    cases q : eG r with
    | none => rw [q] at e; cases e
    | some cs => rw [q] at e; cases e; cases h; rw [uM t q]; rfl
  | .none :: r, _, bs, .cons h t, e => by simp [eG] at e
  | .int _ :: r, _, bs, .cons h t, e => by simp [eG] at e
  | .str _ :: r, _, bs, .cons h t, e => by simp [eG] at e
  | .list _ :: r, _, bs, .cons h t, e => by simp [eG] at e
  | .tuple _ :: r, _, bs, .cons h t, e => by simp [eG] at e
  | .dict _ :: r, _, bs, .cons h t, e => by simp [eG] at e
def Aa : List D → Mu → DK → Prop := fun xs μ Q => match xs with
  | [.v (.list ys)] => (match eG ys with | some bs => Q (.v (.bool (bs.all id))) μ | none => False)
  | _ => False
theorem Kz {K : PySem.W.Frag} : mS K (fun xs H Q => ∃ (p : Addr) (bs : List Bool), xs = [.ref p] ∧ H p = some (.lst (bs.map V.bl)) ∧ Q (.bl (bs.all id)) H) Aa := by
  intro xs us H μ Qd Q ok rs h k
  unfold Aa at h
  split at h
  · rename_i ys
    cases q : eG ys with
    | none => rw [q] at h; exact h.elim
    | some bs =>
      rw [q] at h
      cases rs with
      | cons r1 r2 =>
        cases r2
        cases r1 with
        | list hs hn r => exact ⟨_, bs, rfl, by rw [hs, uM r q], k (.v _) _ μ H .refl ok (Rp.bool _) h⟩
  · exact h.elim
theorem JD (hc : X.calm = true) (hg : Gl X "all") (hm : X.mg "all" = none) (ha : DA X (e :: es) t)
    (he : starEach (e :: es) X.env = (false, eval e X.env) :: starEach es X.env := by rfl) (hpl : (backTo pos (starEach es X.env)).any (·.1) = false := by rfl) : DE X (.Call (.Name "all" p) (e :: es) [] pos) (dCB Aa t) :=
  kr (D0 hc) Kz hg hm PyProof.Rows.Boot.«all» ha (by decide) (by decide) he hpl
def tyD : PyData → String
  | .none => "NoneType"
  | .bool _ => "bool"
  | .int _ => "int"
  | .str _ => "str"
  | .list _ => "list"
  | .tuple _ => "tuple"
  | .dict _ => "dict"
def isT (T : String) (d : PyData) : Bool := tyD d == T || (T == "int" && tyD d == "bool")
theorem D2 {pins : List (Addr × Obj)} {σ : St} {H : Hp} {s : Shared} {μ : Mu} {d : PyData} {u : V} {v : Value} {k : Bool} {A : Around} {E : Value → Shared → Prop} {Q : Value → Shared → Prop} (I : Inv X pins σ H s) (r : Rp X.K μ H d u) (rx : RelV u v)
    (ek : PySem.W.kitOne X.K (.type (tyD d)) (.type T) = some k) (h : ∀ tk, Q (.bool k) { s with toks := tk }) : wpAny (model X.prog X.w) A (call (.builtin "isinstance") [v, .type T]) Q E s := by
  cases r with
  | none => cases rx; exact PySem.W.kia_one PySem.W.kitx_none I.kIn True.intro ek (fun z => nomatch z) h
  | bool b => cases rx; exact PySem.W.kia_one PySem.W.kitx_bool I.kIn True.intro ek (fun z => nomatch z) h
  | int i => obtain ⟨t, rfl⟩ := rx; exact PySem.W.kia_one PySem.W.kitx_int I.kIn True.intro ek (fun z => nomatch z) h
  | str y => obtain ⟨t, rfl⟩ := rx; exact PySem.W.kia_one PySem.W.kitx_str I.kIn True.intro ek (fun z => nomatch z) h
  | list hs hn q =>
    cases rx
    obtain ⟨its, rv, ⟨o, n, h1, h2, _⟩, _⟩ := I.list (SqL.of hs)
    exact PySem.W.kia_one PySem.W.kitx_list I.kIn ⟨o, h1, h2⟩ ek (fun z => nomatch z) h
  | tuple hs q =>
    cases rx
    obtain ⟨its, rv, ⟨o, h1, h2, _⟩, _⟩ := I.tuple hs
    exact PySem.W.kia_one PySem.W.kitx_tuple I.kIn ⟨o, h1, h2⟩ ek (fun z => nomatch z) h
theorem HV (K : PySem.W.Frag) (d : PyData) : PySem.W.kitOne K (.type (tyD d)) (.type "int") = some (isT "int" d) := by cases d <;> rfl
theorem E1 (K : PySem.W.Frag) (d : PyData) : PySem.W.kitOne K (.type (tyD d)) (.type "bool") = some (isT "bool" d) := by cases d <;> rfl
theorem kit_tuple (K : PySem.W.Frag) (d : PyData) : PySem.W.kitOne K (.type (tyD d)) (.type "tuple") = some (isT "tuple" d) := by cases d <;> rfl
theorem Ag (kt : ∀ d, PySem.W.kitOne X.K (.type (tyD d)) (.type T) = some (isT T d)) : gp X (.builtin "isinstance") (fun xs H Q => ∃ μ d u, xs = [u, .ty T] ∧ Rp X.K μ H d u ∧ Q (.bl (isT T d)) H) := by
  intro pins s σ H xs us Q I r h
  obtain ⟨μ, d, u, rfl, rd, q⟩ := h
  obtain ⟨v, w', rfl, r1, r2⟩ := vals2 r
  cases r2
  exact D2 I rd r1 (kt d) fun tk => ⟨.bl (isT T d), H, I.tok _, rfl, q⟩
def EY (T : String) (te : DTE) : DTE := fun ρ μ Q => te ρ μ fun x μ1 => match x with
  | .v d => Q (.v (.bool (isT T d))) μ1
  | _ => False
theorem BE {y : Str} {py : Pos} (kt : ∀ d, PySem.W.kitOne X.K (.type (tyD d)) (.type T) = some (isT T d)) (hg : Gl X "isinstance") (hm : X.mg "isinstance" = none) (hgy : Gl X y) (hmy : X.mg y = none) (hvy : bootBuiltins y = some (.type T)) (ha : DE X e te)
    (hny : y ≠ "__name__" := by decide) (hdy : (y == ("__debug__" : Str)) = false := by decide)
    (he : starEach [e, .Name y py] X.env = (false, eval e X.env) :: starEach [.Name y py] X.env := by rfl) (he2 : starEach [.Name y py] X.env = [(false, eval (.Name y py) X.env)] := by rfl) (hpl : (backTo pos (starEach [.Name y py] X.env)).any (·.1) = false := by rfl) : DE X (.Call (.Name "isinstance" p) [e, .Name y py] [] pos) (EY T te) := by
  obtain ⟨t1, p1, l1⟩ := ha
  refine ⟨_, rj (Ag kt) hg hm PyProof.Rows.Boot.«isinstance» (ip p1 (ip (CQ (v := .ty T) hgy hmy hvy rfl hny hdy) oO he2) he) (by decide) (by decide) he hpl, fun σ H ρ μ Qd Q S h k => ?_⟩
  refine l1 σ H ρ μ _ _ S h fun x ux μ1 H1 e1 S1 rx h1 => ?_
  split at h1
  · exact ⟨μ1, _, ux, rfl, rx, k (.v _) _ μ1 H1 e1 S1 (Rp.bool _) h1⟩
  · exact h1.elim
def LO : D → D → Mu → DK → Prop := fun x y μ Q => match x, y with
  | .v (.bool i), .v (.bool j) => Q (.v (.bool (i == j))) μ
  | .v .none, .v .none => Q (.v (.bool true)) μ
  | _, _ => False
end
open PySem PySem.Spec PyProof.Rows
section
variable {X : Cx} {a b e : Expr} {es : List Expr} {ta tb te : DTE} {t : DTA} {p pos : Pos} {st : Stmt} {rest sts : List Stmt} {td ud : DTS} {tc : DTT}
def cg : DTS := fun Dd ρ μ => Dd.nx ρ μ
def aL (t u : DTS) : DTS := fun Dd ρ μ => t { Dd with nx := u Dd } ρ μ
def bC (te : DTE) : DTS := fun Dd ρ μ => te ρ μ Dd.rt
def pS (te : DTE) : DTS := fun Dd ρ μ => te ρ μ fun _ μ1 => Dd.nx ρ μ1
def dY (c : DTT) (t u : DTS) : DTS := fun Dd ρ μ => c ρ μ fun b μ1 => if b = true then t Dd ρ μ1 else u Dd ρ μ1
theorem ba : DSs X [] cg := ⟨_, GR, fun σ H ρ μ Dd De S h k1 k2 k3 k4 => k1 σ ρ μ H .refl S h⟩
theorem aq (h : DS X st td) : DSs X [st] td := let ⟨t, p, l⟩ := h; ⟨t, G1 p, l⟩
theorem lift_seq {K : PySem.W.Frag} {t u : TS} (l1 : w8 K t td) (l2 : w8 K u ud) : w8 K (KR t u) (aL td ud) := by
  intro σ H ρ μ Dd De S h k1 k2 k3 k4
  refine l1 σ H ρ μ _ _ S h (fun σ' ρ' μ' H' e' S' h' => ?_) k2 k3 k4
  exact l2 σ' H' ρ' μ' Dd De S' h' (fun a b c d e2 => k1 a b c d (e'.trans e2)) (fun a b c d e2 => k2 a b c d (e'.trans e2)) (fun a b c d e2 => k3 a b c d (e'.trans e2)) (fun a b c d e2 => k4 a b c d (e'.trans e2))
theorem ai (h1 : DS X st td) (h2 : DSs X rest ud) : DSs X (st :: rest) (aL td ud) := by
  obtain ⟨t1, p1, l1⟩ := h1
  obtain ⟨t2, p2, l2⟩ := h2
  exact ⟨_, vv p1 p2, lift_seq l1 l2⟩
theorem aE (he : DE X e te) : DS X (.Return (some e) pos) (bC te) := by
  obtain ⟨t1, p1, l1⟩ := he
  exact ⟨_, Jd p1, fun σ H ρ μ Dd De S h k1 k2 k3 k4 => l1 σ H ρ μ _ _ S h fun d u μ' H' e' S' r q => k2 d u μ' H' e' S'.mu r q⟩
theorem lG (he : DE X e te) (hs : swapsWith e none pos.line X.env = pure false := by rfl) : DS X (.Expr e pos) (pS te) := by
  obtain ⟨t1, p1, l1⟩ := he
  exact ⟨_, C6 p1 hs, fun σ H ρ μ Dd De S h k1 k2 k3 k4 => l1 σ H ρ μ _ _ S h fun d u μ' H' e' S' r q => k1 σ ρ μ' H' e' S' q⟩
theorem bX {c : Expr} {x y : List Stmt} (hc : DT X c tc) (ha : DSs X x td) (hb : DSs X y ud) : DS X (.If c x y pos) (dY tc td ud) := by
  obtain ⟨t0, p0, l0⟩ := hc
  obtain ⟨t1, p1, l1⟩ := ha
  obtain ⟨t2, p2, l2⟩ := hb
  refine ⟨_, Ii p0 p1 p2, fun σ H ρ μ Dd De S h k1 k2 k3 k4 => ?_⟩
  refine l0 σ H ρ μ _ _ S h fun c μ1 H1 e1 S1 h1 => ?_
  cases c with
  | true => exact yf (l1 σ H1 ρ μ1 Dd De S1 (by simpa using h1) (fun a b c d e2 => k1 a b c d (e1.trans e2)) (fun a b c d e2 => k2 a b c d (e1.trans e2)) (fun a b c d e2 => k3 a b c d (e1.trans e2)) (fun a b c d e2 => k4 a b c d (e1.trans e2)))
  | false => exact zd (l2 σ H1 ρ μ1 Dd De S1 (by simpa using h1) (fun a b c d e2 => k1 a b c d (e1.trans e2)) (fun a b c d e2 => k2 a b c d (e1.trans e2)) (fun a b c d e2 => k3 a b c d (e1.trans e2)) (fun a b c d e2 => k4 a b c d (e1.trans e2)))
abbrev DTG := D → Rho → Mu → (Rho → Mu → Prop) → Prop
abbrev wb := List PyData → Rho → Mu → (Rho → Mu → Prop) → Prop
def Fd (K : PySem.W.Frag) (g : TG) (gd : DTG) : Prop := ∀ (σ : St) (H : Hp) (ρ : Rho) (μ : Mu) (d : D) (u : V) (Qd : Rho → Mu → Prop) (Q : St → Hp → Prop), St0 K H ρ μ σ → RpD K μ H d u → gd d ρ μ Qd →
  (∀ σ' ρ' μ' H', Ext K μ H μ' H' → St0 K H' ρ' μ' σ' → Qd ρ' μ' → Q σ' H') → g u σ H Q
def Jx (K : PySem.W.Frag) (g : TGs) (gd : wb) : Prop := ∀ (σ : St) (H : Hp) (ρ : Rho) (μ : Mu) (ds : List PyData) (us : List V) (Qd : Rho → Mu → Prop) (Q : St → Hp → Prop), St0 K H ρ μ σ → RpL K μ H ds us → gd ds ρ μ Qd →
  (∀ σ' ρ' μ' H', Ext K μ H μ' H' → St0 K H' ρ' μ' σ' → Qd ρ' μ' → Q σ' H') → g us σ H Q
def DG (X : Cx) (tg : Expr) (gd : DTG) : Prop := ∃ g, PG X tg g ∧ Fd X.K g gd
def DGs (X : Cx) (tg : List Expr) (gd : wb) : Prop := ∃ g, PGs X tg g ∧ Jx X.K g gd
theorem eh.set {K : PySem.W.Frag} {μ : Mu} {H : Hp} {ρ : Rho} {σ : St} {i : Nat} {d : D} {u : V} (r : eh K μ H ρ σ) (h : RpD K μ H d u) : eh K μ H (ρ.set i (some d)) (σ.set i (some u)) := by
  refine ⟨by rw [List.length_set, List.length_set]; exact r.1, fun j d' e => ?_⟩
  by_cases hj : i = j
  · subst hj
    have hl : i < ρ.length := by
      have := (List.getElem?_eq_some_iff.mp e).1
      rw [List.length_set] at this
      exact this
    rw [List.getElem?_set_self hl] at e
    cases e
    exact ⟨u, List.getElem?_set_self (by rw [← r.1]; exact hl), h⟩
  · rw [List.getElem?_set_ne hj] at e
    obtain ⟨w, e1, e2⟩ := r.2 j d' e
    exact ⟨w, by rw [List.getElem?_set_ne hj]; exact e1, e2⟩
def av (i : Nat) : DTG := fun d ρ μ Q => Q (ρ.set i (some d)) μ
theorem uE {K : PySem.W.Frag} {i : Nat} : Fd K (Fb i) (av i) := fun σ H ρ μ d u Qd Q S r h k => k _ _ μ H .refl ⟨S.mu, S.rho.set r⟩ h
theorem aY {i : Nat} {x : Str} (hN : X.N.Nodup) (hi : X.N[i]? = some x) (hx : Loc X.env.scope x) (hf : X.fn x = true ∨ X.env.scope.names.lookup x = some .local := by first | exact .inl rfl | exact .inr rfl | assumption) : DG X (.Name x pos) (av i) := ⟨_, HQ hN hi hx hf, uE⟩
def jX : wb := fun ds ρ μ Q => match ds with
  | [] => Q ρ μ
  | _ => False
def bW (g : DTG) (gs : wb) : wb := fun ds ρ μ Q => match ds with
  | d :: r => g (.v d) ρ μ fun ρ1 μ1 => gs r ρ1 μ1 Q
  | _ => False
theorem fb : DGs X [] jX := ⟨_, Hl, fun σ H ρ μ ds us Qd Q S r h k => by
  cases r with
  | nil => exact ⟨rfl, k σ ρ μ H .refl S h⟩
  | cons _ _ => exact h.elim⟩
theorem bj {g : DTG} {gs : wb} (h1 : DG X e g) (h2 : DGs X es gs) (hs : (assignEach (e :: es) X.env).map (·.2) = assign e X.env :: (assignEach es X.env).map (·.2) := by rfl) : DGs X (e :: es) (bW g gs) := by
  obtain ⟨t1, p1, l1⟩ := h1
  obtain ⟨t2, p2, l2⟩ := h2
  refine ⟨_, E2 p1 p2 hs, fun σ H ρ μ ds us Qd Q S r h k => ?_⟩
  cases r with
  | nil => exact h.elim
  | @cons d u ds us r1 r2 =>
    refine ⟨u, us, rfl, l1 σ H ρ μ (.v d) u _ _ S r1 h fun σ' ρ' μ' H' e1 S' h1 => ?_⟩
    exact l2 σ' H' ρ' μ' ds us _ _ S' (r2.ext S.mu e1) h1 fun a b c d e2 => k a b c d (e1.trans e2)
def i6 (n : Nat) (gs : wb) : DTG := fun d ρ μ Q => match d with
  | .v (.tuple xs) => xs.length = n ∧ gs xs ρ μ Q
  | _ => False
theorem iI {k n : Nat} {gs : wb} (hc : X.calm = X.calm) (h : DGs X es gs)
    (hn : (assignEach es X.env).length = n := by rfl) (hst : (assignEach es X.env).findIdx? (·.1) = none := by rfl) : DG X (.Tuple es k pos) (i6 n gs) := by
  obtain ⟨t1, p1, l1⟩ := h
  refine ⟨_, J2 hc p1 hn hst, fun σ H ρ μ d u Qd Q S r h k => ?_⟩
  unfold i6 at h
  split at h
  · cases r with
    | @tuple a us _ ha ra => exact ⟨a, us, rfl, ha, by rw [← ra.length]; exact h.1, l1 σ H ρ μ _ us _ _ S ra h.2 k⟩
  · exact h.elim
def CM (to ti : DTE) : DTG := fun d ρ μ Q => to ρ μ fun o μ1 => ti ρ μ1 fun i μ2 => match o, i, d with
  | .m l, .v (.int k), .v x => (match μ2 l with
    | some xs => (match ixN xs.length k with
      | some j => Q ρ (aP μ2 l (xs.set j x))
      | none => False)
    | none => False)
  | _, _, _ => False
theorem Ex {o i : Expr} {to ti : DTE} (ho : DE X o to) (hi : DE X i ti)
    (ha : ∀ v, assign (.Subscript o i pos) X.env v = (do
      let ov ← holding [v] (eval o X.env)
      let iv ← holding [v, ov] (eval i X.env)
      standAt pos
      holding [v, ov, iv] (setItem ov iv v)
      release [v, ov, iv] []) := by intro _; rfl) : DG X (.Subscript o i pos) (CM to ti) := by
  obtain ⟨t1, p1, l1⟩ := ho
  obtain ⟨t2, p2, l2⟩ := hi
  refine ⟨_, JM p1 p2 set_list ha, fun σ H ρ μ d u Qd Q S r h k => ?_⟩
  refine l1 σ H ρ μ _ _ S h fun x ux μ1 H1 e1 S1 rx h1 => ?_
  refine l2 σ H1 ρ μ1 _ _ S1 h1 fun y uy μ2 H2 e2 S2 ry h2 => ?_
  have r2 := (r.ext S.mu e1).ext S1.mu e2
  have rx2 := rx.ext S1.mu e2
  split at h2
  · rename_i l kk xv
    obtain ⟨rfl, ds, hm⟩ := rx2
    cases ry
    rw [hm] at h2
    obtain ⟨us, hl, rl⟩ := S2.mu l ds hm
    simp only at h2
    cases q : ixN ds.length kk with
    | none => rw [q] at h2; exact h2.elim
    | some j =>
      rw [q] at h2
      refine ⟨l, us, kk, j, rfl, rfl, hl, by rw [← rl.length]; exact q, ?_⟩
      have ex : Ext X.K μ2 H2 (aP μ2 l (ds.set j xv)) (upd H2 l (.lst (us.set j u))) := qF hm
      exact k σ ρ _ _ (e1.trans (e2.trans ex)) ⟨S2.mu.set hm (rl.set r2 j), S2.rho.ext S2.mu ex⟩ h2
  · exact h2.elim
def bo (te : DTE) (g : DTG) : DTS := fun Dd ρ μ => te ρ μ fun d μ1 => g d ρ μ1 Dd.nx
theorem AS {K : PySem.W.Frag} {t : TE} {g : TG} {gd : DTG} (l1 : qC K t te) (l2 : Fd K g gd) : w8 K (JR t g) (bo te gd) := by
  intro σ H ρ μ Dd De S h k1 k2 k3 k4
  refine l1 σ H ρ μ _ _ S h fun d u μ1 H1 e1 S1 r h1 => ?_
  exact l2 σ H1 ρ μ1 d u _ _ S1 r h1 fun a b c d e2 => k1 a b c d (e1.trans e2)
theorem lQ {tg : Expr} {g : DTG} (he : DE X e te) (hg : DG X tg g) (hs : swapsWithSole [tg] e pos.line X.env = pure false := by rfl) (hw : swappedStores [tg] e X.env = pure none := by rfl)
    (h1 : (assignEach [tg] X.env).map (·.2) = [assign tg X.env] := by rfl) : DS X (.Assign [tg] e pos) (bo te g) := by
  obtain ⟨t1, p1, l1⟩ := he
  obtain ⟨t2, p2, l2⟩ := hg
  exact ⟨_, FH p1 p2 hs hw h1, AS l1 l2⟩
theorem aK {i : Nat} {x : Str} {pos' : Pos} (hN : X.N.Nodup) (hi : X.N[i]? = some x) (hx : Loc X.env.scope x) (he : DE X e te) (hs : swapsWith e (some (.Name x pos')) pos.line X.env = pure false := by rfl) (hf : X.fn x = true ∨ X.env.scope.names.lookup x = some .local := by first | exact .inl rfl | exact .inr rfl | assumption) :
    DS X (.Assign [.Name x pos'] e pos) (bo te (av i)) := by
  obtain ⟨t1, p1, l1⟩ := he
  exact ⟨_, Jp hN hi hx p1 hs hf, AS l1 uE⟩
def pW (i j : Nat) (t : DTA) : DTS := fun Dd ρ μ => t ρ μ fun ds μ1 => match ds with
  | [v, w] => Dd.nx ((ρ.set i (some v)).set j (some w)) μ1
  | _ => False
theorem iC {i j : Nat} {x y : Str} {a b : Expr} {t : DTA} {px py pt : Pos} {kt k2 pt2} (hc : X.calm = true) (hN : X.N.Nodup) (hi : X.N[i]? = some x) (hj : X.N[j]? = some y) (hij : i ≠ j)
    (hx : X.env.scope.names.lookup x = some .local) (hy : X.env.scope.names.lookup y = some .local) (ha : DA X [a, b] t)
    (hw : swappedStores [.Tuple [.Name x px, .Name y py] kt pt] (.Tuple [a, b] k2 pt2) X.env = pure (some [x, y]))
    (hs : swapsWithSole [.Tuple [.Name x px, .Name y py] kt pt] (.Tuple [a, b] k2 pt2) pos.line X.env = pure false := by rfl) :
    DS X (.Assign [.Tuple [.Name x px, .Name y py] kt pt] (.Tuple [a, b] k2 pt2) pos) (pW i j t) := by
  obtain ⟨t1, p1, l1⟩ := ha
  refine ⟨_, IX hc hN hi hj hij hx hy p1 hw hs, fun σ H ρ μ Dd De S h k1 k2 k3 k4 => ?_⟩
  refine l1 σ H ρ μ _ _ S h fun ds us μ1 H1 e1 S1 rs len h1 => ?_
  split at h1
  · cases rs with
    | cons r1 r2 =>
      cases r2 with
      | cons r2 r3 =>
        cases r3
        exact ⟨_, _, rfl, k1 _ _ μ1 H1 e1 ⟨S1.mu, (S1.rho.set r1).set r2⟩ h1⟩
  · exact h1.elim
def rX (c : DTT) (tb : DTS) : DTS := fun Dd ρ μ => ∃ W : Nat → Rho → Mu → Prop, (∃ m, W m ρ μ) ∧ ∀ m ρ μ, W m ρ μ →
  c ρ μ fun b μ1 => if b = true then tb { Dd with nx := fun ρ' μ' => ∃ m', m' < m ∧ W m' ρ' μ', ct := fun ρ' μ' => ∃ m', m' < m ∧ W m' ρ' μ', bk := Dd.nx } ρ μ1 else Dd.nx ρ μ1
theorem q9 {c : Expr} {body : List Stmt} (hp : PassesOwn (model X.prog X.w) X.A X.env X.xe) (hc : DT X c tc) (hb : DSs X body td) : DS X (.While c body [] pos) (rX tc td) := by
  obtain ⟨t0, p0, l0⟩ := hc
  obtain ⟨t1, p1, l1⟩ := hb
  refine ⟨_, FI hp p0 p1, fun σ H ρ μ Dd De S h k1 k2 k3 k4 => ?_⟩
  obtain ⟨W, ⟨m, w0⟩, turn⟩ := h
  refine ⟨fun m σ' H' => ∃ ρ' μ', Ext X.K μ H μ' H' ∧ St0 X.K H' ρ' μ' σ' ∧ W m ρ' μ', ⟨m, ρ, μ, .refl, S, w0⟩, ?_⟩
  rintro m σ1 H1 ⟨ρ1, μ1, e1, S1, w1⟩
  refine l0 σ1 H1 ρ1 μ1 _ _ S1 (turn m ρ1 μ1 w1) fun b μ2 H2 e2 S2 h2 => ?_
  cases b with
  | true =>
    refine yf ⟨fun σ' H' => ∃ m', m' < m ∧ ∃ ρ' μ', Ext X.K μ H μ' H' ∧ St0 X.K H' ρ' μ' σ' ∧ W m' ρ' μ', fun σ' H' ⟨m', hm, q⟩ => ⟨m', hm, q⟩, ?_⟩
    have nxt : ∀ σ' ρ' μ' H', Ext X.K μ2 H2 μ' H' → St0 X.K H' ρ' μ' σ' → (∃ m', m' < m ∧ W m' ρ' μ') → ∃ m', m' < m ∧ ∃ ρ' μ', Ext X.K μ H μ' H' ∧ St0 X.K H' ρ' μ' σ' ∧ W m' ρ' μ' :=
      fun σ' ρ' μ' H' e3 S3 ⟨m', hm, q⟩ => ⟨m', hm, ρ', μ', e1.trans (e2.trans e3), S3, q⟩
    rw [if_pos rfl] at h2
    exact l1 σ1 H2 ρ1 μ2 _ _ S2 h2 nxt (fun a b c d e3 => k2 a b c d (e1.trans (e2.trans e3))) (fun a b c d e3 => k1 a b c d (e1.trans (e2.trans e3))) nxt
  | false => exact zd (k1 σ1 ρ1 μ2 H2 (e1.trans e2) S2 (by simpa using h2))
abbrev DTI := Rho → Mu → (List PyData → Mu → Prop) → Prop
def Ku (K : PySem.W.Frag) (J : It) (xs : List PyData) (μ1 : Mu) (H1 : Hp) : Prop := ∀ μ2 H2, Ext K μ1 H1 μ2 H2 → bE K μ2 H2 → ∀ i, (i < xs.length → J.go i H2 ∧ ∀ x H', J.yld i H2 x H' → ∃ d, xs[i]? = some d ∧ n5 H2 H' ∧ Rp K μ2 H' d x) ∧ (i = xs.length → J.stop i H2)
def LM (K : PySem.W.Frag) (wi : TI) (src : DTI) : Prop := ∀ (σ : St) (H : Hp) (ρ : Rho) (μ : Mu) (Qd : List PyData → Mu → Prop) (R : It → Hp → Prop), St0 K H ρ μ σ → src ρ μ Qd →
  (∀ xs μ1 H1 J, Ext K μ H μ1 H1 → St0 K H1 ρ μ1 σ → Ku K J xs μ1 H1 → Qd xs μ1 → R J H1) → wi σ H R
def DI (X : Cx) (tg iter : Expr) (src : DTI) : Prop := ∃ wi, PI X tg iter wi ∧ LM X.K wi src
variable {tg : Expr}
def lF (te : DTE) : DTI := fun ρ μ Q => te ρ μ fun d μ1 => match d with
  | .v (.list xs) => Q xs μ1
  | _ => False
def Ld (te : DTE) : DTI := fun ρ μ Q => te ρ μ fun d μ1 => match d with
  | .v (.tuple xs) => Q xs μ1
  | _ => False
theorem nW (h : DE X e te) : DI X tg e (lF te) := by
  obtain ⟨t1, p1, l1⟩ := h
  refine ⟨_, Cv p1, fun σ H ρ μ Qd R S h k => ?_⟩
  refine l1 σ H ρ μ _ _ S h fun d u μ1 H1 e1 S1 r h1 => ?_
  split at h1
  · rename_i xs
    cases r with
    | @list a us _ ha hn ra =>
      refine ⟨a, rfl, ⟨us, SqL.of ha⟩, k xs μ1 H1 _ e1 S1 (fun μ2 H2 e2 ok2 i => ⟨fun hi => ?_, fun hi => ?_⟩) h1⟩
      · have ha2 := e2.keep _ _ ha hn trivial
        have hiu : i < us.length := by rw [← ra.length]; exact hi
        refine ⟨⟨us, us[i], SqL.of ha2, by simp [hiu]⟩, fun x H' ⟨eH, hx⟩ => ?_⟩
        subst eH
        obtain ⟨u', h1', h2'⟩ := ra.get (i := i) (d := xs[i]) (by simp [hi])
        have := hx us (SqL.of ha2)
        rw [h1'] at this
        cases this
        exact ⟨xs[i], by simp [hi], n5.refl _, h2'.ext S1.mu e2⟩
      · exact ⟨us, SqL.of (e2.keep _ _ ha hn trivial), by rw [← ra.length]; omega⟩
  · exact h1.elim
def mO (lo : Int) (n : Nat) : List PyData := (List.range n).map fun (i : Nat) => PyData.int (lo + (i : Int))
theorem Ei {K : PySem.W.Frag} {lo : Int} {n : Nat} {μ : Mu} {H : Hp} : Ku K (Itr lo n) (mO lo n) μ H := fun μ2 H2 e2 ok2 i => by
  have hl : (mO lo n).length = n := by unfold mO; simp
  refine ⟨fun hi => ?_, fun hi => ?_⟩
  · rw [hl] at hi
    refine ⟨hi, fun x H' ⟨eH, hx⟩ => ?_⟩
    subst eH hx
    exact ⟨.int (lo + i), by unfold mO; simp [hi], n5.refl _, .int _⟩
  · show n ≤ i
    omega
def pI (t : DTA) : DTI := fun ρ μ Q => t ρ μ fun ds μ1 => match ds with
  | [.v (.int j)] => (-(2 ^ 62) ≤ j ∧ j < 2 ^ 62) ∧ Q (mO 0 j.toNat) μ1
  | _ => False
def Bo (t : DTA) : DTI := fun ρ μ Q => t ρ μ fun ds μ1 => match ds with
  | [.v (.int i), .v (.int j)] => (-(2 ^ 62) ≤ i ∧ i < 2 ^ 62 ∧ -(2 ^ 62) ≤ j ∧ j < 2 ^ 62) ∧ Q (mO i (j - i).toNat) μ1
  | _ => False
theorem qR {a : Expr} {t : DTA} {p pos : Pos} (hg : Gl X "range") (hm : X.mg "range" = none) (ha : DA X [a] t) (hs : starEach [a] X.env = [(false, eval a X.env)] := by rfl) (hc : X.calm = true := by rfl) : DI X tg (.Call (.Name "range" p) [a] [] pos) (pI t) := by
  obtain ⟨t1, p1, l1⟩ := ha
  refine ⟨_, Ea hc hg hm p1 hs, fun σ H ρ μ Qd R S h k => ?_⟩
  refine l1 σ H ρ μ _ _ S h fun ds us μ1 H1 e1 S1 rs len h1 => ?_
  split at h1
  · rename_i j
    cases rs with
    | cons r1 r2 => cases r2; cases r1; exact ⟨j, rfl, h1.1.1, h1.1.2, k _ μ1 H1 _ e1 S1 Ei h1.2⟩
  · exact h1.elim
theorem Hz {a b : Expr} {t : DTA} {p pos : Pos} (hg : Gl X "range") (hm : X.mg "range" = none) (ha : DA X [a, b] t) (hs : starEach [a, b] X.env = [(false, eval a X.env), (false, eval b X.env)] := by rfl) (hs2 : starEach [b] X.env = [(false, eval b X.env)] := by rfl) (hc : X.calm = true := by rfl) : DI X tg (.Call (.Name "range" p) [a, b] [] pos) (Bo t) := by
  obtain ⟨t1, p1, l1⟩ := ha
  refine ⟨_, D6 hc hg hm p1 hs hs2, fun σ H ρ μ Qd R S h k => ?_⟩
  refine l1 σ H ρ μ _ _ S h fun ds us μ1 H1 e1 S1 rs len h1 => ?_
  split at h1
  · rename_i i j
    cases rs with
    | cons r1 r2 =>
      cases r2 with
      | cons r2 r3 => cases r3; cases r1; cases r2; exact ⟨i, j, rfl, h1.1, k _ μ1 H1 _ e1 S1 Ei h1.2⟩
  · exact h1.elim
def yg (src : DTI) (g : DTG) (tb : DTS) : DTS := fun Dd ρ μ => src ρ μ fun xs μ1 => ∃ Pv : Nat → Rho → Mu → Prop, Pv 0 ρ μ1 ∧
  (∀ i x ρ' μ', xs[i]? = some x → Pv i ρ' μ' → g (.v x) ρ' μ' fun ρ2 μ2 => tb { Dd with nx := Pv (i + 1), ct := Pv (i + 1), bk := Dd.nx } ρ2 μ2) ∧ (∀ ρ' μ', Pv xs.length ρ' μ' → Dd.nx ρ' μ')
theorem pf {iter : Expr} {body : List Stmt} {src : DTI} {g : DTG} (hp : PassesOwn (model X.prog X.w) X.A X.env X.xe) (hc : X.calm = true) (hi : DI X tg iter src) (hg : DG X tg g) (hb : DSs X body td)
    (hs : ∀ x, foldedSetIterable iter X.env x = pure x := by intro _; rfl) : DS X (.For tg iter body [] pos) (yg src g td) := by
  obtain ⟨t0, p0, l0⟩ := hi
  obtain ⟨t1, p1, l1⟩ := hg
  obtain ⟨t2, p2, l2⟩ := hb
  refine ⟨_, JQ hp hc p0 p1 p2 hs, fun σ H ρ μ Dd De S h k1 k2 k3 k4 => ?_⟩
  refine l0 σ H ρ μ _ _ S h fun xs μ1 H1 J e1 S1 it h1 => ?_
  obtain ⟨Pv, pv0, turn, fin⟩ := h1
  refine ⟨fun i m σ' H' => m = xs.length - i ∧ i ≤ xs.length ∧ ∃ ρ' μ', Ext X.K μ1 H1 μ' H' ∧ St0 X.K H' ρ' μ' σ' ∧ Pv i ρ' μ', ⟨xs.length, by simp, Nat.zero_le _, ρ, μ1, .refl, S1, pv0⟩, ?_⟩
  rintro i m σ' H' ⟨rfl, hi, ρ', μ', e2, S2, pv⟩
  obtain ⟨go, stop⟩ := it μ' H' e2 S2.mu i
  by_cases hlt : i < xs.length
  · obtain ⟨g1, y1⟩ := go hlt
    refine .inr ⟨g1, fun σ2 H2 => ∃ ρ2 μ2, Ext X.K μ1 H1 μ2 H2 ∧ St0 X.K H2 ρ2 μ2 σ2 ∧ Pv (i + 1) ρ2 μ2, fun σ2 H2 q => ⟨xs.length - (i + 1), by omega, rfl, hlt, q⟩, fun x H2 yl => ?_⟩
    obtain ⟨d, hd, sm, rd⟩ := y1 x H2 yl
    have e3 : Ext X.K μ' H' μ' H2 := .of_same sm
    have S3 : St0 X.K H2 ρ' μ' σ' := ⟨S2.mu.Hk e3 sm, S2.rho.ext S2.mu e3⟩
    refine l1 σ' H2 ρ' μ' (.v d) x _ _ S3 rd (turn i d ρ' μ' hd pv) fun σ4 ρ4 μ4 H4 e4 S4 h4 => ?_
    have nxt : ∀ a b c dd, Ext X.K μ4 H4 c dd → St0 X.K dd b c a → Pv (i + 1) b c → ∃ ρ2 μ2, Ext X.K μ1 H1 μ2 dd ∧ St0 X.K dd ρ2 μ2 a ∧ Pv (i + 1) ρ2 μ2 := fun a b c dd e5 S5 q => ⟨b, c, e2.trans (e3.trans (e4.trans e5)), S5, q⟩
    have ee := e1.trans (e2.trans (e3.trans e4))
    exact l2 σ4 H4 ρ4 μ4 _ _ S4 h4 nxt (fun a b c d e5 => k2 a b c d (ee.trans e5)) (fun a b c d e5 => k1 a b c d (ee.trans e5)) nxt
  · have ei : i = xs.length := by omega
    subst ei
    exact .inl ⟨stop rfl, k1 σ' ρ' μ' H' (e1.trans e2) S2 (fin ρ' μ' pv)⟩
end
abbrev DSp := List D → Mu → DK → Prop
def spD (K : PySem.W.Frag) (dsp : DSp) : Sp := fun vs H Q _ => ∃ (ds : List D) (μ : Mu) (Qd : DK), bE K μ H ∧ iX K μ H ds vs ∧ dsp ds μ Qd ∧
  (∀ d u μ' H', Ext K μ H μ' H' → bE K μ' H' → RpD K μ' H' d u → Qd d μ' → Q u H')
def aI (N : List Str) (ds : List D) : Rho := ds.map some ++ List.replicate (N.length - ds.length) none
theorem iX.get {K : PySem.W.Frag} {μ : Mu} {H : Hp} {ds : List D} {us : List V} : ∀ {i : Nat} {d : D}, iX K μ H ds us → ds[i]? = some d → ∃ u, us[i]? = some u ∧ RpD K μ H d u
  | _, _, .nil, h => by simp at h
  | 0, _, .cons r _, h => by simp at h; subst h; exact ⟨_, rfl, r⟩
  | i + 1, d, .cons _ t, h => by
    obtain ⟨u, h1, h2⟩ := iX.get (i := i) (d := d) t (by simpa using h)
    exact ⟨u, by simpa using h1, h2⟩
theorem sv {K : PySem.W.Frag} {μ : Mu} {H : Hp} {N : List Str} {ds : List D} {vs : List V} (r : iX K μ H ds vs) : eh K μ H (aI N ds) (start N vs) := by
  have hl := r.length
  refine ⟨by unfold aI start; simp [hl], fun i d e => ?_⟩
  unfold aI at e
  by_cases hi : i < ds.length
  · rw [List.getElem?_append_left (by simpa using hi), List.getElem?_map] at e
    unfold start
    rw [List.getElem?_append_left (by simpa [hl] using hi), List.getElem?_map]
    cases q : ds[i]? with
    | none => rw [q] at e; cases e
    | some d' =>
      rw [q] at e
      cases e
      obtain ⟨u, h1, h2⟩ := r.get q
      exact ⟨u, by rw [h1]; rfl, h2⟩
  · rw [List.getElem?_append_right (by simpa using hi), List.getElem?_replicate] at e
    split at e <;> cases e
section
variable {P : Program} {w : World} {K : PySem.W.Frag} {mg : Str → Option Value} {base : Heap}
theorem _root_.L2.Fun.okD {x qual : Str} {st : Stmt} {f : Addr} {fd : FuncData} {N ps : List Str} {k : Nat} {dsp : DSp} (F : Fun K x qual st f fd) (S : aD N ps (au st)) (len : ∀ ds μ Q, dsp ds μ Q → ds.length = ps.length)
    (hbody : ∀ (cdv : Value) (A : Around) (outer : List Env) (s : Shared) (H : Hp) (E : XK), eT k (A.deeper (envOfC qual (au st) s.heap.objs.size f cdv)) →
      ∃ td, DSs (ke CX0 P w K mg base N qual (au st) f cdv A outer s H E).nox (eY st) td ∧ ∀ ds μ Qd, dsp ds μ Qd → td { nx := fun _ μ' => Qd (.v .none) μ', rt := Qd } (aI N ds) μ) : bB P w K mg base CX0 (k + 1) f fd ps (spD K dsp) := by
  refine F.ok S (fun vs H Q E h => ?_) (fun cdv A outer s H vs Q E hr h => ?_)
  · obtain ⟨ds, μ, Qd, _, r, h, _⟩ := h
    rw [← r.length]
    exact len ds μ Qd h
  · obtain ⟨ds, μ, Qd, ok, r, h, fin⟩ := h
    obtain ⟨td, ⟨t, p, l⟩, rd⟩ := hbody cdv A outer s H E hr
    refine ⟨t, p, ?_⟩
    exact l (start N vs) H (aI N ds) μ _ _ ⟨ok, sv r⟩ (rd ds μ Qd h) (fun σ' ρ' μ' H' e' S' q => fin (.v .none) .non μ' H' e' S'.mu Rp.none q) (fun d u μ' H' e' ok' r' q => fin d u μ' H' e' ok' r' q) (fun _ _ _ _ _ _ q => q) (fun _ _ _ _ _ _ q => q)
end
section
variable {X : Cx} {e : Expr} {es : List Expr} {t : DTA} {p pos : Pos} {x : Str} {k : Nat} {f : Addr} {fd : FuncData} {ps : List Str} {dsp : DSp}
def aB (dsp : DSp) (t : DTA) : DTE := fun ρ μ Q => t ρ μ fun ds μ1 => dsp ds μ1 Q
theorem ao (F : bB X.prog X.w X.K X.mg X.base CX0 k f fd ps (spD X.K dsp)) (hr : eT k X.A) (hg : Gl X x) (hm : X.mg x = some (.ref f)) (hk : PySem.W.keepIn X.K (.ref f) = true) (hb : Binds X.K fd ps [])
    (ha : DA X (e :: es) t) (hdb : (x == ("__debug__" : Str)) = false := by decide) (he : starEach (e :: es) X.env = (false, eval e X.env) :: starEach es X.env := by rfl) (hpl : (backTo pos (starEach es X.env)).any (·.1) = false := by rfl) :
    DE X (.Call (.Name x p) (e :: es) [] pos) (aB dsp t) := by
  obtain ⟨t1, p1, l1⟩ := ha
  refine ⟨_, C3 F hr hg hm hk hb .nil KU p1 hdb he hpl, fun σ H ρ μ Qd Q S h kk => ?_⟩
  refine l1 σ H ρ μ _ _ S h fun ds us μ1 H1 e1 S1 rs len h1 => ?_
  refine ⟨ds, μ1, Qd, S1.mu, by rw [List.append_nil]; exact rs, h1, fun d u μ' H' e2 ok r q => ?_⟩
  exact kk d u μ' H' (e1.trans e2) ⟨ok, S1.rho.ext S1.mu e2⟩ r q
end
section
variable {X : Cx} {o e : Expr} {to te : DTE} {apos cpos : Pos}
def D5 (to te : DTE) : DTE := fun ρ μ Q => to ρ μ fun x μ1 => match x with
  | .m l => te ρ μ1 fun y μ2 => (match y, μ2 l with
    | .v d, some xs => xs.length < 1000 ∧ Q (.v .none) (aP μ2 l (xs ++ [d]))
    | _, _ => False)
  | _ => False
theorem nF (ho : DE X o to) (ha : DE X e te) (hbase : attributeBase o "append" X.env (eval o X.env) = eval o X.env := by rfl)
    (hfew : ((backTo cpos (starEach [e] X.env)).all (fun x => !x.1) && (backToKw cpos (keywordEach [] X.env)).all (fun x => x.1.isSome)
      && decide ([e].length + ([] : List Keyword).length + (if ([] : List Keyword).isEmpty then 0 else 1) < 30)) = true := by rfl)
    (hline : (apos.endLine == cpos.line) = true := by rfl) (hs : starEach [e] X.env = (false, eval e X.env) :: starEach [] X.env := by rfl) (hplain : (backTo cpos (starEach [] X.env)).any (·.1) = false := by rfl) :
    DE X (.Call (.Attribute o "append" apos) [e] [] cpos) (D5 to te) := by
  obtain ⟨t1, p1, l1⟩ := ho
  obtain ⟨t2, p2, l2⟩ := ha
  refine ⟨_, Lz PySem.F.plainAttrs_list PySem.F.slot_list_append PySem.F.type_list_append rS p1 (ip p2 oO hs) hbase hfew hline hs hplain, fun σ H ρ μ Qd Q S h k => ?_⟩
  refine l1 σ H ρ μ _ _ S h fun x ux μ1 H1 e1 S1 rx h1 => ?_
  cases x with
  | m l =>
    obtain ⟨rfl, ds, hm⟩ := id rx
    obtain ⟨us, hl, rl⟩ := S1.mu l ds hm
    refine ⟨.inl ⟨rfl, us, SqL.of hl⟩, ?_⟩
    refine l2 σ H1 ρ μ1 _ _ S1 h1 fun y uy μ2 H2 e2 S2 ry h2 => ?_
    obtain ⟨_, ds2, hm2⟩ := rx.ext S1.mu e2
    obtain ⟨us2, hl2, rl2⟩ := S2.mu l ds2 hm2
    rw [hm2] at h2
    cases y with
    | v d =>
      have h3 : ds2.length < 1000 ∧ Qd (.v .none) (aP μ2 l (ds2 ++ [d])) := h2
      refine ⟨l, us2, uy, rfl, rfl, hl2, by rw [← rl2.length]; exact fS (Nat.le_of_lt h3.1), ?_⟩
      have ex : Ext X.K μ2 H2 (aP μ2 l (ds2 ++ [d])) (upd H2 l (.lst (us2 ++ [uy]))) := qF hm2
      exact k (.v .none) .non _ _ (e1.trans (e2.trans ex)) ⟨S2.mu.set hm2 (rl2.append (.cons ry .nil)), S2.rho.ext S2.mu ex⟩ Rp.none h3.2
    | m _ => exact h2.elim
    | s _ => exact h2.elim
    | o _ => exact h2.elim
    | q _ => exact h2.elim
  | v d => exact h1.elim
  | s ns => exact h1.elim
  | o _ => exact h1.elim
  | q _ => exact h1.elim
def My (to te : DTE) : DTE := fun ρ μ Q => to ρ μ fun x μ1 => match x with
  | .m l => te ρ μ1 fun y μ2 => (match y, μ2 l with
    | .v (.list ys), some xs => xs.length + ys.length ≤ 1000 ∧ Q (.v .none) (aP μ2 l (xs ++ ys))
    | _, _ => False)
  | _ => False
def Lx (to : DTE) : DTE := fun ρ μ Q => to ρ μ fun x μ1 => match x with
  | .v (.int i) => Q (.v (.int (Builtin.Int.intBits i : Nat))) μ1
  | _ => False
end
open PySem PySem.Spec PyProof.Rows
theorem jO {prog : Program} {w : World} {A : Around} {R : Result → Shared → Prop} {s : Shared} {elt target iter : Expr} {ifs : List Expr} {scope : Scope} {pos : Pos} {it acc : Value} {env : Env} (I : Nat → Shared → Prop)
    (turn : ∀ n s, I n s → wpAny (model prog w) A (pyNext it) (fun r s₁ => match r with
      | none => R (.ok .next) s₁
      | some v => wpAny (model prog w) A (letOwnedTupleGo target it v) (fun _ s' => wpAny (model prog w) A (assign target env v) (fun _ s₂ =>
          wpAny (model prog w) A (forIn ifs true fun c r => if r = true then do let ok ← isTrue c env (eval c env); pure (ForInStep.yield ok) else pure (ForInStep.yield r)) (fun ok s₃ =>
            if ok = true then wpAny (model prog w) A (eval elt env) (fun x s₄ =>
              wpAny (model prog w) A (call (.builtin "list.append") [acc, x]) (fun _ s₅ => ∃ m, m < n ∧ I m s₅) (fun _ _ => False) s₄) (fun _ _ => False) s₃
            else ∃ m, m < n ∧ I m s₃) (fun _ _ => False) s₂) (fun _ _ => False) s') (fun _ _ => False) s₁) (fun _ _ => False) s)
    (n : Nat) (h : I n s) :
    codeAny (model prog w) A (.compLoop (.ListComp elt [⟨target, iter, ifs, 0⟩] scope pos) 0 it acc env) R s := by
  refine codeAny_loop rfl I (fun n s hI => ?_) n h
  show wpAny _ A ((compTurn (.ListComp elt [⟨target, iter, ifs, 0⟩] scope pos) 0 it acc env).onRaise (fun x => do noteFrame x env; theTreesLotGoes x)) _ _ s
  refine wpAny_noted ?_
  rw [compTurn_list]
  refine wpAny_bind (wpAny_standAt (wpAny_bind (wpAny_mono (turn n s hI) (fun r s₁ h₁ => ?_) fun _ _ h' => h'.elim)))
  cases r with
  | none => exact wpAny_pure h₁
  | some v =>
    refine wpAny_bind (wpAny_mono h₁ (fun _ s' h' => ?_) fun _ _ h' => h'.elim)
    refine wpAny_bind (wpAny_mono h' (fun _ s₂ h₂ => wpAny_bind (wpAny_mono h₂ (fun ok s₃ h₃ => ?_) fun _ _ h' => h'.elim)) fun _ _ h' => h'.elim)
    cases ok with
    | false => exact wpAny_pure ⟨rfl, h₃⟩
    | true =>
      exact wpAny_bind (wpAny_bind (wpAny_mono h₃ (fun x s₄ h₄ => wpAny_bind (wpAny_mono h₄ (fun _ s₅ h₅ => wpAny_pure (wpAny_pure ⟨rfl, h₅⟩)) fun _ _ h' => h'.elim)) fun _ _ h' => h'.elim))
section
variable {K : PySem.W.Frag} {μ μ' : Mu} {H : Hp}
mutual
theorem Rp.shrink {d : PyData} {u : V} (sub : ∀ a, μ' a = none → μ a = none) : Rp K μ' H d u → Rp K μ H d u
  | .none => .none
  | .bool b => .bool b
  | .int i => .int i
  | .str x => .str x
  | .list h n r => .list h (sub _ n) (RpL.shrink sub r)
  | .tuple h r => .tuple h (RpL.shrink sub r)
theorem RpL.shrink {ds : List PyData} {us : List V} (sub : ∀ a, μ' a = none → μ a = none) : RpL K μ' H ds us → RpL K μ H ds us
  | .nil => .nil
  | .cons h r => .cons (Rp.shrink sub h) (RpL.shrink sub r)
end
end
theorem CY {X : Cx} {e : Expr} {td : DTE} (h : ∀ (pins : List (Addr × Obj)) (s : Shared) (σ : St) (H : Hp) (ρ : Rho) (μ : Mu) (Qd : DK) (Q : VK), Inv X pins σ H s → St0 X.K H ρ μ σ → td ρ μ Qd →
    (∀ d u μ' H', Ext X.K μ H μ' H' → St0 X.K H' ρ μ' σ → RpD X.K μ' H' d u → Qd d μ' → Q u H') → wpAny (model X.prog X.w) X.A (eval e X.env) (EP X pins σ Q) X.xe s) : DE X e td :=
  ⟨fun σ H Q => ∃ ρ μ Qd, St0 X.K H ρ μ σ ∧ td ρ μ Qd ∧ (∀ d u μ' H', Ext X.K μ H μ' H' → St0 X.K H' ρ μ' σ → RpD X.K μ' H' d u → Qd d μ' → Q u H'),
    fun pins s σ H Q I ⟨ρ, μ, Qd, S, q, k⟩ => h pins s σ H ρ μ Qd Q I S q k, fun σ H ρ μ Qd Q S q k => ⟨ρ, μ, Qd, S, q, k⟩⟩
def bp (X : Cx) (N' : List Str) (scope : Scope) (cl : List (Str × Addr)) (fp : List Addr) (s₃ : Shared) (H₃ : Hp) : Cx :=
  { X with N := N', s₀ := s₃, H₀ := H₃, env := compEnvC scope cl s₃.heap.objs.size X.env, outer := X.stack, stack := X.stack, ex := fp, fn := fun _ => false, pn := X.pn, xe := fun _ _ => False }
def Le : Rho → Rho → Prop
  | [], [] => True
  | none :: r, _ :: r' => Le r r'
  | some d :: r, some d' :: r' => d = d' ∧ Le r r'
  | _, _ => False
theorem Le.get : ∀ {ρ ρ' : Rho}, Le ρ ρ' → ρ.length = ρ'.length ∧ ∀ (i : Nat) d, ρ[i]? = some (some d) → ρ'[i]? = some (some d)
  | [], [], _ => ⟨rfl, fun _ _ h => h⟩
  | none :: r, x :: r', h => by
    obtain ⟨h1, h2⟩ := Le.get (ρ := r) (ρ' := r') h
    refine ⟨congrArg (· + 1) h1, fun i d e => ?_⟩
    cases i with
    | zero => simp at e
    | succ j => exact h2 j d (by simpa using e)
  | some d :: r, some d' :: r', h => by
    obtain ⟨rfl, h⟩ := h
    obtain ⟨h1, h2⟩ := Le.get (ρ := r) (ρ' := r') h
    refine ⟨congrArg (· + 1) h1, fun i d e => ?_⟩
    cases i with
    | zero => simpa using e
    | succ j => exact h2 j d (by simpa using e)
  | some d :: r, none :: r', h => h.elim
  | [], _ :: _, h => h.elim
  | none :: _, [], h => h.elim
  | some _ :: _, [], h => h.elim
def bT {α : Type} (cap : List (Option Nat)) (ρ : List (Option α)) : List (Option α) := cap.map fun o => o.bind fun j => (ρ[j]?).join
def LJ (cap : List (Option Nat)) (src : DTI) (g : DTG) (c : DTT) (elt : DTE) : DTE := fun ρ μ Q => src ρ μ fun xs μ1 => xs.length ≤ 1000 ∧ ∃ f : PyData → Option PyData,
  (∀ x ∈ xs, ∀ μ' : Mu, (∀ a ds, μ1 a = some ds → μ' a = some ds) → g (.v x) (bT cap ρ) μ' fun ρ2 μ2 => Le (bT cap ρ) ρ2 ∧ c ρ2 μ2 fun b μ3 =>
    if b = true then elt ρ2 μ3 fun d μ4 => μ4 = μ' ∧ (match d with | .v y => f x = some y | _ => False) else μ3 = μ' ∧ f x = none) ∧ Q (.v (.list (xs.filterMap f))) μ1
def Hm (X : Cx) (ifs : List Expr) (c : DTT) : Prop := ∀ (pins : List (Addr × Obj)) (s : Shared) (σ : St) (H : Hp) (ρ : Rho) (μ : Mu) (Qd : Bool → Mu → Prop) (Q : Bool → Hp → Prop), Inv X pins σ H s → St0 X.K H ρ μ σ → c ρ μ Qd →
  (∀ b μ' H', Ext X.K μ H μ' H' → St0 X.K H' ρ μ' σ → Qd b μ' → Q b H') →
  wpAny (model X.prog X.w) X.A (forIn ifs true fun c r => if r = true then do let ok ← isTrue c X.env (eval c X.env); pure (ForInStep.yield ok) else pure (ForInStep.yield r)) (TP X pins σ Q) X.xe s
def Fo : DTT := fun _ μ Q => Q true μ
theorem EO {X : Cx} : Hm X [] Fo := fun pins s σ H ρ μ Qd Q I S h k => wpAny_tests_nil ⟨H, I, k true μ H .refl S h⟩
theorem qX {X : Cx} {c : Expr} {tc : DTT} (h : DT X c tc) : Hm X [c] tc := by
  obtain ⟨t, p, l⟩ := h
  exact fun pins s σ H ρ μ Qd Q I S h k => wpAny_tests_one (p pins s σ H _ I (l σ H ρ μ _ _ S h k))
theorem Un.after {fs ex : List Addr} {H H1 : Hp} {h h1 h' : Heap} (u : Un fs ex H H1 h h1) (k : ∀ b o, b < h.objs.size → h1.get? b = some o → h'.get? b = some o) : Un fs ex H H1 h h' :=
  ⟨fun b o e n hb hx => k b o (Heap.lt_size e) (u.keep b o e n hb hx), fun b o e n hb hx => let ⟨sl, q⟩ := u.slot b o e n hb hx; ⟨sl, k b _ (Heap.lt_size e) q⟩, u.free, fun b o e hx => let ⟨o', q⟩ := u.there b o e hx; ⟨o', k b _ (Heap.lt_size e) q⟩, u.nY, u.nc, u.mM⟩
theorem mQ {α : Type} {cap : List (Option Nat)} {ρ : List (Option α)} {i : Nat} {d : α} (h : (bT cap ρ)[i]? = some (some d)) : ∃ j, cap[i]? = some (some j) ∧ ρ[j]? = some (some d) := by
  unfold bT at h
  rw [List.getElem?_map] at h
  cases q : cap[i]? with
  | none => rw [q] at h; cases h
  | some o =>
    rw [q] at h
    cases o with
    | none => cases h
    | some j =>
      refine ⟨j, rfl, ?_⟩
      simp only [Option.map_some, Option.bind_some, Option.some.injEq] at h
      cases z : ρ[j]? with
      | none => rw [z] at h; cases h
      | some y => rw [z] at h; simp only [Option.join_some] at h; rw [h]
theorem Ga {α : Type} {cap : List (Option Nat)} {ρ : List (Option α)} {i j : Nat} {d : α} (h : cap[i]? = some (some j)) (e : ρ[j]? = some (some d)) : (bT cap ρ)[i]? = some (some d) := by
  unfold bT
  rw [List.getElem?_map, h]
  simp [e]
theorem eh.cap {K : PySem.W.Frag} {μ : Mu} {H : Hp} {ρ : Rho} {σ : St} {cap : List (Option Nat)} (r : eh K μ H ρ σ) : eh K μ H (bT cap ρ) (bT cap σ) := by
  refine ⟨by unfold bT; simp, fun i d e => ?_⟩
  obtain ⟨j, h1, h2⟩ := mQ e
  obtain ⟨u, h3, h4⟩ := r.2 j d h2
  exact ⟨u, Ga h1 h3, h4⟩
theorem eh.le {K : PySem.W.Frag} {μ : Mu} {H : Hp} {ρ ρ' : Rho} {σ : St} (r : eh K μ H ρ' σ) (l : Le ρ ρ') : eh K μ H ρ σ :=
  ⟨l.get.1.trans r.1, fun i d e => r.2 i d (l.get.2 i d e)⟩
theorem CF {xs : List PyData} {f : PyData → Option PyData} {i : Nat} {d : PyData} (h : xs[i]? = some d) : (xs.take (i + 1)).filterMap f = (xs.take i).filterMap f ++ (f d).toList := by
  obtain ⟨hi, e⟩ := List.getElem?_eq_some_iff.mp h
  rw [List.take_succ_eq_append_getElem hi, List.filterMap_append, e]
  cases q : f d <;> simp [q]
open PySem PySem.Spec PyProof.Rows
section
variable {X : Cx} {a b c : Expr} {ta tb tc : DTE} {pos : Pos}
def Kd (r r' : D → D → Mu → DK → Prop) (ta tb tc : DTE) : DTE := fun ρ μ Q => ta ρ μ fun x μ1 => tb ρ μ1 fun y μ2 => r x y μ2 fun z μ3 => match z with
  | .v (.bool k) => if k = true then tc ρ μ3 fun w μ4 => r' y w μ4 Q else Q (.v (.bool false)) μ3
  | _ => False
end
open PySem PySem.Spec PyProof.Rows
theorem zS {α : Type} {x : α} {xs : List α} : atI (x :: xs) 0 = some x := by unfold atI ixN; simp
theorem Au {α : Type} {x y : α} {xs : List α} : atI (x :: y :: xs) 1 = some y := by
  have h := uo (xs := x :: y :: xs) (j := 1) (v := y) rfl
  exact h
theorem CD {α : Type} {x y z : α} {xs : List α} : atI (x :: y :: z :: xs) 2 = some z := by
  have h := uo (xs := x :: y :: z :: xs) (j := 2) (v := z) rfl
  exact h
theorem FN {α : Type} {x y z u : α} {xs : List α} : atI (x :: y :: z :: u :: xs) 3 = some u := by
  have h := uo (xs := x :: y :: z :: u :: xs) (j := 3) (v := u) rfl
  exact h
def qE : D → D → Mu → DK → Prop := fun x y μ Q => match x, y with
  | .v (.int i), .v (.int j) => Q (.v (.int (i + j))) μ
  | .v (.tuple xs), .v (.tuple ys) => xs.length + ys.length ≤ 1000 ∧ Q (.v (.tuple (xs ++ ys))) μ
  | _, _ => Aj x y μ Q
theorem OpR.or {X : Cx} {f} {r1 r2 : R2} (h1 : OpR X f r1) (h2 : OpR X f r2) : OpR X f (fun x y H Q => r1 x y H Q ∨ r2 x y H Q) := by
  intro pins s σ H x y v u Q I rx ry h
  rcases h with h | h
  · exact h1 pins s σ H x y v u Q I rx ry h
  · exact h2 pins s σ H x y v u Q I rx ry h
theorem Jb {K : PySem.W.Frag} : jV K (fun x y H Q => (rI0 fun i j => .int (i + j)) x y H Q ∨ ((BH K) x y H Q ∨ Jc x y H Q)) qE := by
  intro x y ux uy H μ Qd Q ok rx ry h k
  unfold qE at h
  split at h
  · exact .inl (C2 (K := K) (gd := fun i j => .int (i + j)) (fun _ _ _ _ => .int _) _ _ ux uy H μ Qd Q ok rx ry h k)
  · exact .inr (.inl (Hi _ _ ux uy H μ Qd Q ok rx ry h k))
  · exact .inr (.inr (J6 _ _ ux uy H μ Qd Q ok rx ry h k))
theorem CA {X : Cx} {a b : Expr} {ta tb : DTE} {pos : Pos} (ha : DE X a ta) (hb : DE X b tb) : DE X (.BinOp a .Add b pos) (dOp qE ta tb) := vK (Ez.or (GD.or Jz)) Jb ha hb
section
variable {ρ : Rho} {μ : Mu} {Q : DK} {QT : Bool → Mu → Prop} {QA : List D → Mu → Prop} {QG : Rho → Mu → Prop} {QI : List PyData → Mu → Prop} {QO : Option Int → Mu → Prop} {Dd : Fi} {ta tb tc : DTE} {t u : DTT} {tA : DTA} {s1 s2 : DTS} {i j : Int} {x y : PyData} {xs ys : List PyData} {d e : D}
def mH : DTS := fun _ _ _ => False
theorem kI {X : Cx} {st : Stmt} : DS X st mH := ⟨fun _ _ _ => False, fun _ _ _ _ _ _ h => h.elim, fun _ _ _ _ _ _ _ h => h.elim⟩
theorem Fp {o : Rho} : ag 0 (some d :: o) μ Q = Q d μ := propext Iff.rfl
theorem FR {a} {o : Rho} : ag 1 (a :: some d :: o) μ Q = Q d μ := propext Iff.rfl
theorem E8 {a b} {o : Rho} : ag 2 (a :: b :: some d :: o) μ Q = Q d μ := propext Iff.rfl
theorem vc {a b c} {o : Rho} : ag 3 (a :: b :: c :: some d :: o) μ Q = Q d μ := propext Iff.rfl
theorem Ey {a b c f} {o : Rho} : ag 4 (a :: b :: c :: f :: some d :: o) μ Q = Q d μ := propext Iff.rfl
theorem Fc {a b c f g} {o : Rho} : ag 5 (a :: b :: c :: f :: g :: some d :: o) μ Q = Q d μ := propext Iff.rfl
theorem Gm {a b c f g h} {o : Rho} : ag 6 (a :: b :: c :: f :: g :: h :: some d :: o) μ Q = Q d μ := propext Iff.rfl
theorem E9 {a b c f g h k} {o : Rho} : ag 7 (a :: b :: c :: f :: g :: h :: k :: some d :: o) μ Q = Q d μ := propext Iff.rfl
theorem GG {a b c f g h k l} {o : Rho} : ag 8 (a :: b :: c :: f :: g :: h :: k :: l :: some d :: o) μ Q = Q d μ := propext Iff.rfl
theorem Ff {a b c f g h k l m} {o : Rho} : ag 9 (a :: b :: c :: f :: g :: h :: k :: l :: m :: some d :: o) μ Q = Q d μ := propext Iff.rfl
theorem Cr {a b c f g h k l m n} {o : Rho} : ag 10 (a :: b :: c :: f :: g :: h :: k :: l :: m :: n :: some d :: o) μ Q = Q d μ := propext Iff.rfl
theorem q_c : dC x ρ μ Q = Q (.v x) μ := propext Iff.rfl
theorem E6 {r} : dOp r ta tb ρ μ Q = ta ρ μ fun x μ1 => tb ρ μ1 fun y μ2 => r x y μ2 Q := propext Iff.rfl
theorem q_B : dB ta ρ μ QT = ta ρ μ fun d μ1 => match d with | .v (.bool k) => QT k μ1 | _ => False := propext Iff.rfl
theorem K6 {C : Int → Int → Prop} {g : Int → Int → PyData} : rII C g (.v (.int i)) (.v (.int j)) μ Q = (C i j ∧ Q (.v (g i j)) μ) := propext Iff.rfl
theorem ID {g : Int → Int → PyData} : wa g (.v (.int i)) (.v (.int j)) μ Q = Q (.v (g i j)) μ := propext Iff.rfl
theorem Ia : rq ta ρ μ Q = ta ρ μ fun x μ1 => match x with | .v (.int i) => Q (.v (.int (-i))) μ1 | _ => False := propext Iff.rfl
theorem uR : tq t u ρ μ QT = t ρ μ fun c μ1 => if c = true then u ρ μ1 QT else QT false μ1 := propext Iff.rfl
theorem Iu : GB t u ρ μ QT = t ρ μ fun c μ1 => if c = true then QT true μ1 else u ρ μ1 QT := propext Iff.rfl
theorem ED : oA t ρ μ QT = t ρ μ fun c μ1 => QT (!c) μ1 := propext Iff.rfl
theorem GA : xf ta tb ρ μ Q = ta ρ μ fun x μ1 => match x with | .v (.bool c) => if c = true then tb ρ μ1 Q else Q (.v (.bool false)) μ1 | _ => False := propext Iff.rfl
theorem Ik : Mn ta tb ρ μ Q = ta ρ μ fun x μ1 => match x with | .v (.bool c) => if c = true then Q (.v (.bool true)) μ1 else tb ρ μ1 Q | _ => False := propext Iff.rfl
theorem Gs : wZ ta ρ μ Q = ta ρ μ fun x μ1 => match x with | .v (.bool c) => Q (.v (.bool (!c))) μ1 | _ => False := propext Iff.rfl
theorem LH : dIf t ta tb ρ μ Q = t ρ μ fun c μ1 => if c = true then ta ρ μ1 Q else tb ρ μ1 Q := propext Iff.rfl
theorem pV : aj ρ μ QA = QA [] μ := propext Iff.rfl
theorem lN : ae ta tA ρ μ QA = ta ρ μ fun x μ1 => tA ρ μ1 fun xs μ2 => QA (x :: xs) μ2 := propext Iff.rfl
theorem zh : aW tA ρ μ Q = tA ρ μ fun ds μ1 => match cJ ds with | some xs => Q (.v (.tuple xs)) μ1 | none => False := propext Iff.rfl
theorem zm : kN tA ρ μ Q = tA ρ μ fun ds μ1 => match cJ ds with | some xs => Q (.v (.list xs)) μ1 | none => False := propext Iff.rfl
theorem EK : vC tA ρ μ Q = tA ρ μ fun ds μ1 => match cJ ds with | some xs => ∀ p, μ1 p = none → Q (.m p) (aP μ1 p xs) | none => False := propext Iff.rfl
theorem zk : cJ [] = some [] := by rw [cJ]
theorem A2 {r : List D} : cJ (.v x :: r) = (cJ r).map (x :: ·) := by rw [cJ]
theorem Ge {neg : Bool} : cW neg (.v x) (.v y) μ Q = (SeqAt.shaped x = true ∧ SeqAt.shaped y = true ∧ Q (.v (.bool (neg ^^ PyData.eqv x y))) μ) := propext Iff.rfl
theorem AL {neg : Bool} : cW neg (.v (.int i)) (.v (.int j)) μ Q = Q (.v (.bool (neg ^^ decide (i = j)))) μ := by
  have e : PyData.eqv (.int i) (.int j) = decide (i = j) := by simp [PyData.eqv]; rfl
  rw [Ge, e]
  exact propext ⟨fun h => h.2.2, fun h => ⟨rfl, rfl, h⟩⟩
theorem HY {neg : Bool} : cW neg (.v (.tuple xs)) (.v (.tuple ys)) μ Q = (SeqAt.shaped (.tuple xs) = true ∧ SeqAt.shaped (.tuple ys) = true ∧ Q (.v (.bool (neg ^^ PyData.eqv (.tuple xs) (.tuple ys)))) μ) := propext Iff.rfl
theorem IE {neg : Bool} : cW neg (.v (.list xs)) (.v (.list ys)) μ Q = (SeqAt.shaped (.list xs) = true ∧ SeqAt.shaped (.list ys) = true ∧ Q (.v (.bool (neg ^^ PyData.eqv (.list xs) (.list ys)))) μ) := propext Iff.rfl
theorem Ir {neg a b : Bool} : cW neg (.v (.bool a)) (.v (.bool b)) μ Q = Q (.v (.bool (neg ^^ (a == b)))) μ := by
  have e : PyData.eqv (.bool a) (.bool b) = (a == b) := by cases a <;> cases b <;> simp [PyData.eqv] <;> rfl
  rw [Ge, e]
  exact propext ⟨fun h => h.2.2, fun h => ⟨rfl, rfl, h⟩⟩
theorem H0 {neg : Bool} : HE neg (.v x) (.v (.list ys)) μ Q = (PyData.canLayAll0 ys = true ∧ x.canLay0 = true ∧ PyData.depth x ≤ 60 ∧ Q (.v (.bool (neg ^^ ys.any fun b => PyData.eqv b x))) μ) := propext Iff.rfl
theorem zo : aA (.v (.list xs)) (.v (.int i)) μ Q = (match atI xs i with | some d => Q (.v d) μ | none => False) := propext Iff.rfl
theorem w5 : aA (.v (.tuple xs)) (.v (.int i)) μ Q = (match atI xs i with | some d => Q (.v d) μ | none => False) := propext Iff.rfl
theorem IF {l : Addr} : aA (.m l) (.v (.int i)) μ Q = (match μ l with | some xs => (match atI xs i with | some d => Q (.v d) μ | none => False) | none => False) := propext Iff.rfl
theorem IT {ns : List Int} : aA (.s ns) (.v (.int i)) μ Q = (match atI ns i with | some d => Q (.v (.int d)) μ | none => False) := propext Iff.rfl
theorem vJ : aA (.v (.list (x :: xs))) (.v (.int 0)) μ Q = Q (.v x) μ := by rw [zo, zS]
theorem Bn : aA (.v (.tuple (x :: xs))) (.v (.int 0)) μ Q = Q (.v x) μ := by rw [w5, zS]
theorem Gp {z} : aA (.v (.list (z :: x :: xs))) (.v (.int 1)) μ Q = Q (.v x) μ := by rw [zo, Au]
theorem B1 {z} : aA (.v (.tuple (z :: x :: xs))) (.v (.int 1)) μ Q = Q (.v x) μ := by rw [w5, Au]
theorem FZ {z w} : aA (.v (.list (z :: w :: x :: xs))) (.v (.int 2)) μ Q = Q (.v x) μ := by rw [zo, CD]
theorem Ca {z w} : aA (.v (.tuple (z :: w :: x :: xs))) (.v (.int 2)) μ Q = Q (.v x) μ := by rw [w5, CD]
theorem EW {z w v} : aA (.v (.tuple (z :: w :: v :: x :: xs))) (.v (.int 3)) μ Q = Q (.v x) μ := by rw [w5, FN]
theorem Ib : Aj d e μ Q = (match tf μ d, tf μ e with | some xs, some ys => xs.length + ys.length ≤ 1000 ∧ Q (.v (.list (xs ++ ys))) μ | _, _ => False) := propext Iff.rfl
theorem Fs : Bk (.v (.tuple xs)) (.v (.tuple ys)) μ Q = (xs.length + ys.length ≤ 1000 ∧ Q (.v (.tuple (xs ++ ys))) μ) := propext Iff.rfl
theorem FP : qE (.v (.int i)) (.v (.int j)) μ Q = Q (.v (.int (i + j))) μ := propext Iff.rfl
theorem Ew : qE (.v (.tuple xs)) (.v (.tuple ys)) μ Q = (xs.length + ys.length ≤ 1000 ∧ Q (.v (.tuple (xs ++ ys))) μ) := propext Iff.rfl
theorem EZ : qE (.v (.list xs)) (.v (.list ys)) μ Q = (xs.length + ys.length ≤ 1000 ∧ Q (.v (.list (xs ++ ys))) μ) := propext Iff.rfl
theorem FY {a : Addr} : qE (.m a) e μ Q = Aj (.m a) e μ Q := propext Iff.rfl
theorem K8 {tl th : DTO} : dSl ta tl th ρ μ Q = ta ρ μ fun x μ1 => tl ρ μ1 fun l μ2 => th ρ μ2 fun u μ3 => Gu x l u μ3 Q := propext Iff.rfl
theorem zw : tY ρ μ QO = QO none μ := propext Iff.rfl
theorem Em : CZ ta ρ μ QO = ta ρ μ fun x μ1 => match x with | .v (.int i) => QO (some i) μ1 | _ => False := propext Iff.rfl
theorem Ig {lo hi : Option Int} : Gu (.v (.tuple xs)) lo hi μ Q = Q (.v (.tuple (oJ xs lo hi))) μ := propext Iff.rfl
theorem IU {lo hi : Option Int} : Gu (.v (.list xs)) lo hi μ Q = Q (.v (.list (oJ xs lo hi))) μ := propext Iff.rfl
theorem IH : Mj ta ρ μ Q = ta ρ μ fun x μ1 => match x with | .v (.tuple xs) => Q (.v (.tuple xs.reverse)) μ1 | .v (.list xs) => Q (.v (.list xs.reverse)) μ1 | .m l => (match μ1 l with | some xs => Q (.v (.list xs.reverse)) μ1 | none => False) | _ => False := propext Iff.rfl
theorem Gw {rd} : dCB rd tA ρ μ Q = tA ρ μ fun ds μ1 => rd ds μ1 Q := propext Iff.rfl
theorem vm : ky [.v (.list ys)] μ Q = Q (.v (.int (ys.length : Nat))) μ := propext Iff.rfl
theorem Fw : ky [.v (.tuple ys)] μ Q = Q (.v (.int (ys.length : Nat))) μ := propext Iff.rfl
theorem Gk {ns : List Int} : ky [.s ns] μ Q = Q (.v (.int (ns.length : Nat))) μ := propext Iff.rfl
theorem EL {l : Addr} : ky [.m l] μ Q = (match μ l with | some ys => Q (.v (.int (ys.length : Nat))) μ | none => False) := propext Iff.rfl
theorem IQ : qo [.v (.int i)] μ Q = Q (.v (.int (i.natAbs : Nat))) μ := propext Iff.rfl
theorem LR {g : Int → Int → Int} : vM g [.v (.int i), .v (.int j)] μ Q = Q (.v (.int (g i j))) μ := propext Iff.rfl
theorem Gz {k : Bool} : oF [.v (.bool k)] μ Q = Q (.v (.int (if k then 1 else 0))) μ := propext Iff.rfl
theorem Fv : oF [.v (.int i)] μ Q = Q (.v (.int i)) μ := propext Iff.rfl
theorem C8 : pK [.v (.list ys)] μ Q = Q (.v (.list ys)) μ := propext Iff.rfl
theorem Di : pK [.v (.tuple ys)] μ Q = Q (.v (.list ys)) μ := propext Iff.rfl
theorem GH : Aa [.v (.list ys)] μ Q = (match eG ys with | some bs => Q (.v (.bool (bs.all id))) μ | none => False) := propext Iff.rfl
theorem HZ {T : String} : EY T ta ρ μ Q = ta ρ μ fun x μ1 => match x with | .v d => Q (.v (.bool (isT T d))) μ1 | _ => False := propext Iff.rfl
theorem Im {a b : Bool} : LO (.v (.bool a)) (.v (.bool b)) μ Q = Q (.v (.bool (a == b))) μ := propext Iff.rfl
theorem Io : LO (.v .none) (.v .none) μ Q = Q (.v (.bool true)) μ := propext Iff.rfl
theorem jM {n : Nat} : av n d ρ μ QG = QG (ρ.set n (some d)) μ := propext Iff.rfl
theorem Es : jX [] ρ μ QG = QG ρ μ := propext Iff.rfl
theorem Dh {g : DTG} {gs : wb} : bW g gs (x :: xs) ρ μ QG = g (.v x) ρ μ fun ρ1 μ1 => gs xs ρ1 μ1 QG := propext Iff.rfl
theorem FV {n : Nat} {gs : wb} : i6 n gs (.v (.tuple xs)) ρ μ QG = (xs.length = n ∧ gs xs ρ μ QG) := propext Iff.rfl
theorem FC : CM ta tb d ρ μ QG = ta ρ μ fun o μ1 => tb ρ μ1 fun i μ2 => match o, i, d with
  | .m l, .v (.int k), .v x => (match μ2 l with
    | some xs => (match ixN xs.length k with
      | some j => QG ρ (aP μ2 l (xs.set j x))
      | none => False)
    | none => False)
  | _, _, _ => False := propext Iff.rfl
theorem zu {g : DTG} : bo ta g Dd ρ μ = ta ρ μ fun d μ1 => g d ρ μ1 Dd.nx := propext Iff.rfl
theorem Iv {i j : Nat} : pW i j tA Dd ρ μ = tA ρ μ fun ds μ1 => match ds with | [v, w] => Dd.nx ((ρ.set i (some v)).set j (some w)) μ1 | _ => False := propext Iff.rfl
theorem FX : cg Dd ρ μ = Dd.nx ρ μ := propext Iff.rfl
theorem q5 : aL s1 s2 Dd ρ μ = s1 { Dd with nx := s2 Dd } ρ μ := propext Iff.rfl
theorem AD : bC ta Dd ρ μ = ta ρ μ Dd.rt := propext Iff.rfl
theorem FT : pS ta Dd ρ μ = ta ρ μ fun _ μ1 => Dd.nx ρ μ1 := propext Iff.rfl
theorem zI : dY t s1 s2 Dd ρ μ = t ρ μ fun b μ1 => if b = true then s1 Dd ρ μ1 else s2 Dd ρ μ1 := propext Iff.rfl
theorem Cw : mH Dd ρ μ = False := propext Iff.rfl
theorem Fq {dsp : DSp} : aB dsp tA ρ μ Q = tA ρ μ fun ds μ1 => dsp ds μ1 Q := propext Iff.rfl
theorem Iy : D5 ta tb ρ μ Q = ta ρ μ fun x μ1 => match x with
  | .m l => tb ρ μ1 fun y μ2 => (match y, μ2 l with
    | .v d, some xs => xs.length < 1000 ∧ Q (.v .none) (aP μ2 l (xs ++ [d]))
    | _, _ => False)
  | _ => False := propext Iff.rfl
theorem Iz : My ta tb ρ μ Q = ta ρ μ fun x μ1 => match x with
  | .m l => tb ρ μ1 fun y μ2 => (match y, μ2 l with
    | .v (.list ys), some xs => xs.length + ys.length ≤ 1000 ∧ Q (.v .none) (aP μ2 l (xs ++ ys))
    | _, _ => False)
  | _ => False := propext Iff.rfl
theorem Fl : Lx ta ρ μ Q = ta ρ μ fun x μ1 => match x with | .v (.int i) => Q (.v (.int (Builtin.Int.intBits i : Nat))) μ1 | _ => False := propext Iff.rfl
theorem Dk {r r'} : Kd r r' ta tb tc ρ μ Q = ta ρ μ fun x μ1 => tb ρ μ1 fun y μ2 => r x y μ2 fun z μ3 => match z with
  | .v (.bool k) => if k = true then tc ρ μ3 fun w μ4 => r' y w μ4 Q else Q (.v (.bool false)) μ3
  | _ => False := propext Iff.rfl
theorem EI : Fo ρ μ QT = QT true μ := propext Iff.rfl
theorem Bf : lF ta ρ μ QI = ta ρ μ fun d μ1 => match d with | .v (.list xs) => QI xs μ1 | _ => False := propext Iff.rfl
theorem Dj : Ld ta ρ μ QI = ta ρ μ fun d μ1 => match d with | .v (.tuple xs) => QI xs μ1 | _ => False := propext Iff.rfl
theorem Ba : pI tA ρ μ QI = tA ρ μ fun ds μ1 => match ds with | [.v (.int j)] => (-(2 ^ 62) ≤ j ∧ j < 2 ^ 62) ∧ QI (mO 0 j.toNat) μ1 | _ => False := propext Iff.rfl
theorem Ah : Bo tA ρ μ QI = tA ρ μ fun ds μ1 => match ds with | [.v (.int i), .v (.int j)] => (-(2 ^ 62) ≤ i ∧ i < 2 ^ 62 ∧ -(2 ^ 62) ≤ j ∧ j < 2 ^ 62) ∧ QI (mO i (j - i).toNat) μ1 | _ => False := propext Iff.rfl
theorem qJ {src : DTI} {g : DTG} : yg src g s1 Dd ρ μ = src ρ μ fun xs μ1 => ∃ Pv : Nat → Rho → Mu → Prop, Pv 0 ρ μ1 ∧
  (∀ i x ρ' μ', xs[i]? = some x → Pv i ρ' μ' → g (.v x) ρ' μ' fun ρ2 μ2 => s1 { Dd with nx := Pv (i + 1), ct := Pv (i + 1), bk := Dd.nx } ρ2 μ2) ∧ (∀ ρ' μ', Pv xs.length ρ' μ' → Dd.nx ρ' μ') := propext Iff.rfl
theorem FL {cap : List (Option Nat)} {src : DTI} {g : DTG} : LJ cap src g t ta ρ μ Q = src ρ μ fun xs μ1 => xs.length ≤ 1000 ∧ ∃ f : PyData → Option PyData,
  (∀ x ∈ xs, ∀ μ' : Mu, (∀ a ds, μ1 a = some ds → μ' a = some ds) → g (.v x) (bT cap ρ) μ' fun ρ2 μ2 => Le (bT cap ρ) ρ2 ∧ t ρ2 μ2 fun b μ3 =>
    if b = true then ta ρ2 μ3 fun d μ4 => μ4 = μ' ∧ (match d with | .v y => f x = some y | _ => False) else μ3 = μ' ∧ f x = none) ∧ Q (.v (.list (xs.filterMap f))) μ1 := propext Iff.rfl
theorem Fx {α : Type} {r : List (Option α)} : bT [] r = [] := rfl
theorem EN {α : Type} {o : Option Nat} {c : List (Option Nat)} {r : List (Option α)} : bT (o :: c) r = (o.bind fun j => (r[j]?).join) :: bT c r := rfl
theorem Ie : Le [] [] = True := propext ⟨fun _ => trivial, fun h => h⟩
theorem IK {r r' : Rho} {o : Option D} : Le (none :: r) (o :: r') = Le r r' := propext Iff.rfl
theorem IM {r r' : Rho} {d d' : D} : Le (some d :: r) (some d' :: r') = (d = d' ∧ Le r r') := propext Iff.rfl
theorem CG : rX t s1 Dd ρ μ = (∃ W : Nat → Rho → Mu → Prop, (∃ m, W m ρ μ) ∧ ∀ m ρ μ, W m ρ μ →
  t ρ μ fun b μ1 => if b = true then s1 { Dd with nx := fun ρ' μ' => ∃ m', m' < m ∧ W m' ρ' μ', ct := fun ρ' μ' => ∃ m', m' < m ∧ W m' ρ' μ', bk := Dd.nx } ρ μ1 else Dd.nx ρ μ1) := propext Iff.rfl
end
theorem FW {α β : Type} [BEq α] [LawfulBEq α] {x : α} {k : β} : ∀ {l : List (α × β)}, l.lookup x = some k → (x, k) ∈ l
  | [], h => by cases h
  | (y, j) :: r, h => by
    rw [List.lookup_cons] at h
    cases e : x == y with
    | true =>
      rw [e] at h
      simp only [Option.some.injEq] at h
      have : x = y := eq_of_beq e
      subst this h
      exact List.mem_cons_self
    | false =>
      rw [e] at h
      exact List.mem_cons_of_mem _ (FW h)
def cfK : NameKind → Bool
  | .cell => true
  | .free => true
  | _ => false
theorem hR {names : List (Str × NameKind)} {cl : List (Str × Addr)} (h : (names.all fun y => !(cfK y.2) || (cl.lookup y.1).isSome) = true) (x : Str) (hx : names.lookup x = some .cell ∨ names.lookup x = some .free) : ∃ a, cl.lookup x = some a := by
  rw [List.all_eq_true] at h
  have key : ∀ k, cfK k = true → names.lookup x = some k → ∃ a, cl.lookup x = some a := fun k hk e => by
    have q := h _ (FW e)
    simp only [hk, Bool.not_true, Bool.false_or] at q
    exact Option.isSome_iff_exists.mp q
  rcases hx with e | e
  · exact key _ rfl e
  · exact key _ rfl e
def En (X : Cx) (sc : Scope) : List (Option Nat) → List Str → Prop
  | none :: c, _ :: n => En X sc c n
  | some j :: c, x :: n => (X.N[j]? = some x ∧ Vis X.env.scope x ∧ X.env.kindOf x ≠ some .local ∧ ((relabel sc X.env).names.lookup x = some .cell ∨ (relabel sc X.env).names.lookup x = some .free)) ∧ En X sc c n
  | _, _ => True
theorem mP {X : Cx} {sc : Scope} : ∀ {c : List (Option Nat)} {n : List Str}, En X sc c n → ∀ (i j : Nat) (x : Str), c[i]? = some (some j) → n[i]? = some x →
    X.N[j]? = some x ∧ Vis X.env.scope x ∧ X.env.kindOf x ≠ some .local ∧ ((relabel sc X.env).names.lookup x = some .cell ∨ (relabel sc X.env).names.lookup x = some .free)
  | [], _, _, i, j, x, h, _ => by simp at h
  | _ :: _, [], _, i, j, x, _, h => by simp at h
  | none :: c, y :: n, k, 0, j, x, h, _ => by simp at h
  | none :: c, y :: n, k, i + 1, j, x, h, g => mP (c := c) (n := n) k i j x (by simpa using h) (by simpa using g)
  | some l :: c, y :: n, k, 0, j, x, h, g => by
    simp only [List.getElem?_cons_zero, Option.some.injEq] at h g
    subst h g
    exact k.1
  | some l :: c, y :: n, k, i + 1, j, x, h, g => mP (c := c) (n := n) k.2 i j x (by simpa using h) (by simpa using g)
theorem K0 {X : Cx} {sc : Scope} {j : Nat} {x : Str} (h1 : X.N[j]? = some x := by rfl) (h2 : Vis X.env.scope x := by first | exact Or.inl rfl | exact Or.inr (Or.inl rfl) | exact Or.inr (Or.inr rfl)) (h3 : X.env.kindOf x ≠ some .local := by first | (intro z; cases z) | exact (fun z => nomatch z))
    (h4 : (relabel sc X.env).names.lookup x = some .cell ∨ (relabel sc X.env).names.lookup x = some .free := by first | exact Or.inl rfl | exact Or.inr rfl) : X.N[j]? = some x ∧ Vis X.env.scope x ∧ X.env.kindOf x ≠ some .local ∧ ((relabel sc X.env).names.lookup x = some .cell ∨ (relabel sc X.env).names.lookup x = some .free) := ⟨h1, h2, h3, h4⟩
open PySem PySem.Spec PyProof.Rows
def gJ (μ : Mu) (p : Addr) : Mu := fun b => if b = p then none else μ b
theorem Gq {μ : Mu} {p b : Addr} (h : b ≠ p) : gJ μ p b = μ b := by unfold gJ; rw [if_neg h]
def kn (cap : List (Option Nat)) (src : DTI) (g : DTG) (c : DTT) (elt : DTE) : DTE := fun ρ μ Q => src ρ μ fun xs μ1 => xs.length ≤ 1000 ∧ ∀ p, μ1 p = none → ∃ Pv : Nat → List PyData → Mu → Prop, Pv 0 [] (aP μ1 p []) ∧
  (∀ i x acc μ', xs[i]? = some x → μ' p = some acc → Pv i acc μ' → g (.v x) (bT cap ρ) μ' fun ρ2 μ2 => Le (bT cap ρ) ρ2 ∧ c ρ2 μ2 fun b μ3 =>
    if b = true then elt ρ2 μ3 fun d μ4 => μ4 p = some acc ∧ (match d with | .v y => Pv (i + 1) (acc ++ [y]) (aP μ4 p (acc ++ [y])) | _ => False) else μ3 p = some acc ∧ Pv (i + 1) acc μ3) ∧
  (∀ acc μ', Pv xs.length acc μ' → μ' p = some acc → Q (.v (.list acc)) (gJ μ' p))
theorem DD {X : Cx} {pos2 : Pos} {use : Option (Value → Sem Unit)} {QQ : Value → Shared → Prop} {pins : List (Addr × Obj)} {s : Shared} {σ : St} {H : Hp} {ρ : Rho} {μ : Mu} {Qd : DK} {N' : List Str} {scope : Scope} {cl : List (Str × Addr)} {elt iter tg : Expr} {ifs : List Expr} {pos : Pos} {cap : List (Option Nat)} {src : DTI} {g : DTG} {c : DTT} {te : DTE} (hc : X.calm = X.calm)
    (hi : DI X tg iter src) (hg : ∀ fp s₃ H₃, DG (bp X N' scope cl fp s₃ H₃) tg g) (hif : ∀ fp s₃ H₃, Hm (bp X N' scope cl fp s₃ H₃) ifs c) (he : ∀ fp s₃ H₃, DE (bp X N' scope cl fp s₃ H₃) elt te)
    (hclos : closureFor scope X.env = pure cl) (hcell : ∀ y ∈ scope.names, y.2 ≠ .cell) (hkind : scope.kind = .function) (hnames : ∀ y ∈ scope.names, y.2 = .local → scope.names.lookup y.1 = some .local)
    (hcl : ∀ x a, cl.lookup x = some a → X.env.cells.lookup x = some a) (hhas : ∀ x, (relabel scope X.env).names.lookup x = some .cell ∨ (relabel scope X.env).names.lookup x = some .free → ∃ a, cl.lookup x = some a)
    (hlen : cap.length = N'.length) (hcap : ∀ (i j : Nat) (x : Str), cap[i]? = some (some j) → N'[i]? = some x → X.N[j]? = some x ∧ Vis X.env.scope x ∧ X.env.kindOf x ≠ some .local ∧ ((relabel scope X.env).names.lookup x = some .cell ∨ (relabel scope X.env).names.lookup x = some .free))
    (hs : ∀ x, foldedSetIterable iter X.env x = pure x )
    (I : Inv X pins σ H s) (S : St0 X.K H ρ μ σ) (h : kn cap src g c te ρ μ Qd)
    (hend : ∀ (s4 : Shared) (Hc : Hp) (C pa : Addr) (m : Str → Option Value) (acc : List PyData) (μF : Mu), s4.heap.Ns C m → yF X pins Hc C → (∀ h', Heap.SameBut C s4.heap h' → Inv X pins σ Hc { s4 with heap := h' }) →
      Ext X.K μ H μF Hc → St0 X.K Hc ρ μF σ → Rp X.K μF Hc (.list acc) (.ref pa) → Qd (.v (.list acc)) μF → compPost (model X.prog X.w) X.A X.xe use QQ (.ref pa) C (.ok .next) s4) :
    wpAny (model X.prog X.w) X.A (comprehension (.ListComp elt [⟨tg, iter, ifs, 0⟩] scope pos) scope X.env pos2 (newList []) false (eval iter X.env) use) QQ X.xe s := by
  obtain ⟨wi, pw, li⟩ := hi
  refine wpAny_comprehension_free rfl hs hclos hkind hnames (thn (pw pins s σ H _ I (li σ H ρ μ _ (fun J H1 => ∃ xs μ1, Ext X.K μ H μ1 H1 ∧ St0 X.K H1 ρ μ1 σ ∧ Ku X.K J xs μ1 H1 ∧ xs.length ≤ 1000 ∧ ∀ p, μ1 p = none → ∃ Pv : Nat → List PyData → Mu → Prop, Pv 0 [] (aP μ1 p []) ∧
      (∀ i x acc μ', xs[i]? = some x → μ' p = some acc → Pv i acc μ' → g (.v x) (bT cap ρ) μ' fun ρ2 μ2 => Le (bT cap ρ) ρ2 ∧ c ρ2 μ2 fun b μ3 =>
        if b = true then te ρ2 μ3 fun d μ4 => μ4 p = some acc ∧ (match d with | .v y => Pv (i + 1) (acc ++ [y]) (aP μ4 p (acc ++ [y])) | _ => False) else μ3 p = some acc ∧ Pv (i + 1) acc μ3) ∧
      (∀ acc μ', Pv xs.length acc μ' → μ' p = some acc → Qd (.v (.list acc)) (gJ μ' p))) S h (fun xs μ1 H1 J e1 S1 it q => ⟨xs, μ1, e1, S1, it, q⟩)))
    fun v s1 h1 => thn h1 fun itv s2 h2 => ?_)
  obtain ⟨it, fp, tn, J, H2, rfl, I2, T, st2, f2, xs, μ1, e1, S1, itok, hxs, allp⟩ := h2
  refine wpAny_newObj_type (wpAny_newFunctionEnv hcell (by intro y hy; simp at hy) (fun h₁ hns₁ hsb₁ => ?_) hkind)
  dsimp only at hns₁ hsb₁ ⊢
  have hfree2 : H2 s2.heap.objs.size = none := I2.hok.fresh (Nat.le_refl _)
  have hK2 : X.K.lookup s2.heap.objs.size = none := by
    cases z : X.K.lookup s2.heap.objs.size with
    | none => rfl
    | some o => exact absurd (Heap.lt_size (I2.kIn _ _ z)) (Nat.lt_irrefl _)
  have I3 : Inv X pins σ (upd H2 s2.heap.objs.size (.lst [])) { s2 with heap := s2.heap.push { cls := .type "list", dict := none, data := .seq ([] : List Value).toArray } } :=
    I2.laid (t' := s2.toks) (fun b u e => Heap.get?_push_of_some _ e) (Nat.le_refl _) ⟨Nat.zero_le _, [], 0, .nil, Heap.get?_push_size _ rfl⟩
  generalize hH : s2.heap.push { cls := .type "list", dict := none, data := .seq ([] : List Value).toArray } = hp3 at hns₁ hsb₁ I3 ⊢
  have hsz3 : hp3.objs.size = s2.heap.objs.size + 1 := by rw [← hH, Heap.size_push]
  have kept3 : ∀ b o, hp3.get? b = some o → h₁.get? b = some o := fun b o e => hsb₁.extBut b o (Nat.ne_of_lt (Heap.lt_size e)) (Heap.get?_push_of_some _ e)
  have old3 : ∀ b o, s2.heap.get? b = some o → hp3.get? b = some o := fun b o e => by rw [← hH]; exact Heap.get?_push_of_some _ e
  have fplt : ∀ b ∈ fp, b < s2.heap.objs.size := fun b hb => by obtain ⟨o, e, _⟩ := T.obj 0 _ st2 b hb; exact Heap.lt_size e
  have fpst : ∀ b ∈ fp, b ∉ frs X.stack := fun b hb hz => by
    rcases List.mem_cons.mp (I2.sG b hz) with e | e
    · exact (f2 b hb).2.1 e
    · exact (f2 b hb).2.2.1 e
  obtain ⟨s3, hs3⟩ : ∃ s3 : Shared, s3 = { s2 with heap := hp3 } := ⟨_, rfl⟩
  obtain ⟨H3, hH3⟩ : ∃ H3 : Hp, H3 = upd H2 s2.heap.objs.size (.lst []) := ⟨_, rfl⟩
  have heap3 : s3.heap = hp3 := by rw [hs3]
  rw [← hH3] at I3
  have I3' : Inv X pins σ H3 s3 := by rw [hs3]; exact I3
  have hloc : H3 hp3.objs.size = none := by have := I3'.hok.fresh (a := hp3.objs.size) (by rw [heap3]; exact Nat.le_refl _); exact this
  have okc : (bp X N' scope cl fp s3 H3).Ok := by
    refine ⟨I3.ok.mod, ?_, I3.ok.glob, I3.ok.blt, Nat.le_refl _, fun x y a h1 h2 => I3.ok.inj x y a (hcl x a h1) (hcl y a h2), fun x hx => hhas x hx, fun x a h => (nomatch h), I3.ok.hd, I3.ok.qt, I3.ok.frames, .inl rfl, fun b hb => ⟨?_, fun x a h => (f2 b hb).2.2.2.2.1 x a (hcl x a h)⟩,
      I3'.bs, Nat.le_trans I3.ok.bsz I3'.sz, fun b o e hb => ?_, fun b hb => fpst b hb, I3'.stack, I3'.uv⟩
    · exact hkind
    · show b ≠ s3.heap.objs.size
      rw [heap3, hsz3]
      exact Nat.ne_of_lt (Nat.lt_succ_of_lt (fplt b hb))
    · rcases (f2 b hb).2.2.2.1 with z | z
      · exact I3.ok.B8 b o e z
      · exact absurd (Nat.lt_of_lt_of_le (Heap.lt_size (I3.ok.bs b o e).1) z) (Nat.lt_irrefl _)
  have I4 : Inv (bp X N' scope cl fp s3 H3) [] (bT cap σ) H3 { s2 with heap := h₁, toks := s2.toks + ([] : List (Str × Value)).length } := by
    refine ⟨okc, by show s2.os = s3.os; rw [hs3], I3.bare, Un.kept (by show ∀ b o, s3.heap.get? b = some o → _; rw [heap3]; exact kept3), ⟨_, (by show h₁.Ns s3.heap.objs.size _; rw [heap3]; exact hns₁), fun i x v e1 e2 e3 => ?_⟩, fun x a h => ?_, (by show H3 s3.heap.objs.size = none; rw [heap3]; exact hloc), fun x a h => I3.gI x a (hcl x a h), fun p hp => ?_, I3.hok.kept kept3, ?_⟩
    · obtain ⟨j, h1, h2⟩ := mQ e2
      obtain ⟨hN, hv, hnl, hk⟩ := hcap i j x h1 e1
      obtain ⟨m, _, hl⟩ := I3.loc
      obtain ⟨u, r, lk⟩ := hl j x v hN h2 hv
      refine ⟨u, r, .inr ⟨hk, ?_⟩⟩
      obtain ⟨a, ha⟩ := hhas x hk
      rcases lk with ⟨z, _⟩ | ⟨_, a', z1, z2⟩
      · exact absurd z hnl
      · have : a' = a := by have q := hcl x a ha; rw [z1] at q; exact Option.some.inj q
        subst this
        obtain ⟨o, ho, hd⟩ := z2
        exact ⟨a', ha, o, kept3 _ _ ho, hd⟩
    · obtain ⟨v, o, ho, hd⟩ := I3.cell x a (hcl x a h)
      exact ⟨v, o, kept3 _ _ ho, hd⟩
    · have hp' : p ∈ X.pn ++ pins := List.mem_append_left _ (by simpa using (show p ∈ X.pn ++ [] from hp))
      obtain ⟨z1, z2, z3, z4, z5⟩ := I3'.pin p hp'
      refine ⟨kept3 _ _ (by rw [← heap3]; exact z1), z2, (show p.1 ≠ s3.heap.objs.size from Nat.ne_of_lt (Heap.lt_size z1)), fun z => ?_, z5⟩
      rcases List.mem_cons.mp (I3'.sG p.1 z) with e | e
      · exact z3 e
      · exact z4 e
    · show (bT cap σ).length = N'.length
      unfold bT
      rw [List.length_map]
      exact hlen
  have hμ1 : μ1 s2.heap.objs.size = none := S1.mu.free hfree2
  obtain ⟨Pv, pv0, body, fin⟩ := allp s2.heap.objs.size hμ1
  have loop : codeAny (model X.prog X.w) X.A (.compLoop (.ListComp elt [⟨tg, iter, ifs, 0⟩] scope pos) 0 (.ref it) (.ref s2.heap.objs.size) (bp X N' scope cl fp s3 H3).env)
      (compPost (model X.prog X.w) X.A X.xe use QQ (.ref s2.heap.objs.size) hp3.objs.size) { s2 with heap := h₁, toks := s2.toks + ([] : List (Str × Value)).length } := by
    refine jO (fun n s' => ∃ (i : Nat) (σc : St) (Hc : Hp) (acc : List PyData) (μc : Mu), n = xs.length - i ∧ i ≤ xs.length ∧ Inv (bp X N' scope cl fp s3 H3) [] σc Hc s' ∧ tn i s'.heap ∧ (∀ b ∈ fp, Hc b = none) ∧
      acc.length ≤ i ∧ μc s2.heap.objs.size = some acc ∧ Pv i acc μc ∧ St0 X.K Hc (bT cap ρ) μc σc ∧ Ext X.K μ1 H2 μc Hc) ?_ xs.length
      ⟨0, bT cap σ, H3, [], aP μ1 s2.heap.objs.size [], by simp, Nat.zero_le _, I4, T.keep 0 _ _ st2 (fun b hb o e => kept3 b o (old3 b o e)), fun b hb => ?_, Nat.le_refl _, aQ, pv0, ?_, ?_⟩
    · rintro n s' ⟨i, σc, Hc, acc, μc, rfl, hi, Ic, tc, frc, hal, hpa, pvi, Sc, Ec⟩
      have stat : ∀ {Hd : Hp}, (∀ b ∈ fp, Hd b = none) → ∀ b ∈ fp, yF (bp X N' scope cl fp s3 H3) [] Hd b := fun hn b hb =>
        ⟨hn b hb, (okc.exf b hb).1, fpst b hb, .inl hb, fun x a h => (okc.exf b hb).2 x a h, fun p hp => (f2 b hb).2.2.2.2.2 p (List.mem_append_left _ (by simpa using (show p ∈ X.pn ++ [] from hp)))⟩
      obtain ⟨go, stop⟩ := itok _ Hc Ec Sc.mu i
      by_cases hlt : i < xs.length
      · obtain ⟨g1, y1⟩ := go hlt
        refine thn (T.item (bp X N' scope cl fp s3 H3) rfl rfl rfl (fun z => z) i [] s' σc Hc (fun _ _ => False) Ic (stat frc) tc g1) fun r s4 ⟨u, hr, h4⟩ => ?_
        subst hr
        refine thn h4 fun _ s5 ⟨x, H5, I5, r5, y5, st5, fr5⟩ => ?_
        obtain ⟨d, hd, sm, rd⟩ := y1 x H5 y5
        have I5' := I5.pinned (stat fr5) (T.obj _ _ st5)
        have e5 : Ext X.K _ Hc _ H5 := .of_same (μ := μc) sm
        have S5 : St0 X.K H5 (bT cap ρ) μc σc := ⟨Sc.mu.Hk e5 sm, Sc.rho.ext Sc.mu e5⟩
        obtain ⟨gt, pg, lg⟩ := hg fp s3 H3
        refine thn (pg _ s5 σc H5 x u (fun σ' H' => ∃ ρ' μ', Ext X.K μc H5 μ' H' ∧ St0 X.K H' ρ' μ' σ' ∧ Le (bT cap ρ) ρ' ∧ c ρ' μ' fun b μ3 =>
            if b = true then te ρ' μ3 fun d' μ4 => μ4 s2.heap.objs.size = some acc ∧ (match d' with | .v y => Pv (i + 1) (acc ++ [y]) (aP μ4 s2.heap.objs.size (acc ++ [y])) | _ => False) else μ3 s2.heap.objs.size = some acc ∧ Pv (i + 1) acc μ3) I5' r5
          (lg σc H5 (bT cap ρ) _ (.v d) x _ _ S5 rd (body i d acc μc hd hpa pvi) fun σ' ρ' μ' H' e' S' q => ⟨ρ', μ', e', S', q⟩)) fun _ s6 ⟨σ6, H6, I6, ρ6, μ6, e6, S6, le6, q6⟩ => ?_
        refine thn (hif fp s3 H3 _ s6 σ6 H6 ρ6 μ6 _ (fun b H' => ∃ μ', Ext X.K μ6 H6 μ' H' ∧ St0 X.K H' ρ6 μ' σ6 ∧ if b = true then te ρ6 μ' fun d' μ4 => μ4 s2.heap.objs.size = some acc ∧ (match d' with | .v y => Pv (i + 1) (acc ++ [y]) (aP μ4 s2.heap.objs.size (acc ++ [y])) | _ => False) else μ' s2.heap.objs.size = some acc ∧ Pv (i + 1) acc μ')
          I6 S6 q6 fun b μ' H' e' S' q => ⟨μ', e', S', q⟩) fun b s7 ⟨H7, I7, μ7, e7, S7, q7⟩ => ?_
        have again : ∀ {H9 : Hp} {s9 : Shared} {acc' : List PyData} {μ9 : Mu}, Inv (bp X N' scope cl fp s3 H3) ([] ++ sD fp s5.heap) σ6 H9 s9 → acc'.length ≤ i + 1 → μ9 s2.heap.objs.size = some acc' → Pv (i + 1) acc' μ9 → bE X.K μ9 H9 → eh X.K μ9 H9 (bT cap ρ) σ6 →
            Ext X.K μ1 H2 μ9 H9 → ∃ m, m < xs.length - i ∧ ∃ (i : Nat) (σc : St) (Hc : Hp) (acc : List PyData) (μc : Mu), m = xs.length - i ∧ i ≤ xs.length ∧ Inv (bp X N' scope cl fp s3 H3) [] σc Hc s9 ∧ tn i s9.heap ∧ (∀ b ∈ fp, Hc b = none) ∧
              acc.length ≤ i ∧ μc s2.heap.objs.size = some acc ∧ Pv i acc μc ∧ St0 X.K Hc (bT cap ρ) μc σc ∧ Ext X.K μ1 H2 μc Hc := fun {H9 s9 acc' μ9} I9 l9 p9 v9 m9 r9 e9 => by
          refine ⟨xs.length - (i + 1), by omega, i + 1, σ6, H9, acc', μ9, rfl, hlt, I9.kJ, T.keep _ _ _ st5 fun b hb o e => (I9.pin (b, o) (List.mem_append_right _ (List.mem_append_right _ (fA hb e)))).1, fun b hb => ?_, l9, p9, v9, ⟨m9, r9⟩, e9⟩
          obtain ⟨o, e, _⟩ := T.obj _ _ st5 b hb
          exact (I9.pin (b, o) (List.mem_append_right _ (List.mem_append_right _ (fA hb e)))).2.1
        cases b with
        | false =>
          have q8 : μ7 s2.heap.objs.size = some acc ∧ Pv (i + 1) acc μ7 := by simpa using q7
          refine zd ?_
          exact again I7 (by omega) q8.1 q8.2 S7.mu (S7.rho.le le6) (Ec.trans (e5.trans (e6.trans e7)))
        | true =>
          refine yf ?_
          obtain ⟨t8, p8, l8⟩ := he fp s3 H3
          refine thn (p8 _ s7 σ6 H7 (fun v H' => ∃ y μ8, Ext X.K μ7 H7 μ8 H' ∧ St0 X.K H' ρ6 μ8 σ6 ∧ Rp X.K μ8 H' y v ∧ μ8 s2.heap.objs.size = some acc ∧ Pv (i + 1) (acc ++ [y]) (aP μ8 s2.heap.objs.size (acc ++ [y]))) I7
            (l8 σ6 H7 ρ6 μ7 _ _ S7 (by simpa using q7) fun d' v μ8 H8 e8 S8 r8 q8 => ?_)) fun v s8 ⟨v8, H8, I8, r8, y, μ8, e8, S8, ry, pa8, fy⟩ => ?_
          · obtain ⟨q80, q8⟩ := q8
            cases d' with
            | v y => exact ⟨y, μ8, e8, S8, r8, q80, q8⟩
            | m _ => exact q8.elim
            | s _ => exact q8.elim
            | o _ => exact q8.elim
            | q _ => exact q8.elim
          · obtain ⟨us, hacc, rus⟩ := S8.mu s2.heap.objs.size _ pa8
            have hle : acc.length ≤ 1000 := by omega
            refine thn (rS (X := bp X N' scope cl fp s3 H3) _ s8 σ6 H8 (.ref s2.heap.objs.size) [v8] (.ref s2.heap.objs.size) [v] (fun _ H' => H' = upd H8 s2.heap.objs.size (.lst (us ++ [v8]))) I8 rfl (.cons r8 .nil) ⟨_, us, v8, rfl, rfl, hacc, by rw [← rus.length]; exact fS hle, rfl⟩) fun _ s9 ⟨_, H9, I9, _, e9⟩ => ?_
            subst e9
            have ex : Ext X.K μ8 H8 (aP μ8 s2.heap.objs.size (acc ++ [y])) (upd H8 s2.heap.objs.size (.lst (us ++ [v8]))) := qF pa8
            exact again I9 (by rw [List.length_append, List.length_singleton]; omega) aQ fy (S8.mu.set pa8 (rus.append (.cons ry .nil))) ((S8.rho.le le6).ext S8.mu ex) (Ec.trans (e5.trans (e6.trans (e7.trans (e8.trans ex)))))
      · have ei : i = xs.length := by omega
        subst ei
        refine thn (T.done (bp X N' scope cl fp s3 H3) rfl rfl rfl (fun z => z) _ [] s' σc Hc (fun _ _ => False) Ic (stat frc) tc (stop rfl)) fun r s4 ⟨hr, I5⟩ => ?_
        subst hr
        obtain ⟨m, hn, _⟩ := I5.loc
        have hcC : Hc hp3.objs.size = none := by have z : Hc s3.heap.objs.size = none := I5.free; rw [heap3] at z; exact z
        obtain ⟨us, hacc, rus⟩ := Sc.mu s2.heap.objs.size _ hpa
        have shr : ∀ a, μc a = none → gJ μc s2.heap.objs.size a = none := fun a e => by
          unfold gJ
          split
          · rfl
          · exact e
        have dne : ∀ a ds, gJ μc s2.heap.objs.size a = some ds → μc a = some ds := fun a ds e => by
          unfold gJ at e
          split at e
          · cases e
          · exact e
        have eF : Ext X.K μ1 H2 (gJ μc s2.heap.objs.size) Hc := by
          refine ⟨Ec.keep, Ec.tb, fun b ds q => ?_, fun b q z => shr b (Ec.fresh b q z)⟩
          obtain ⟨es, q2⟩ := Ec.dom b ds q
          have : b ≠ s2.heap.objs.size := fun z => by rw [z, hμ1] at q; cases q
          exact ⟨es, by unfold gJ; rw [if_neg this]; exact q2⟩
        have mF : bE X.K (gJ μc s2.heap.objs.size) Hc := ⟨fun a ds q => by
          obtain ⟨ys, z1, z2⟩ := Sc.mu a ds (dne a ds q)
          exact ⟨ys, z1, z2.shrink shr⟩, Sc.mu.tab⟩
        refine hend s4 Hc hp3.objs.size s2.heap.objs.size m acc (gJ μc s2.heap.objs.size) (by have z : s4.heap.Ns s3.heap.objs.size m := hn; rw [heap3] at z; exact z) (I2.KI (by rw [hsz3]; exact Nat.le_succ _) hcC) (fun h' hs' => ?_) (e1.trans eF) ⟨mF, S1.rho.ext S1.mu eF⟩ (Rp.list hacc (by unfold gJ; rw [if_pos rfl]) (rus.shrink shr)) (fin acc μc pvi hpa)
        have kp : ∀ b o, b < s2.heap.objs.size → s4.heap.get? b = some o → h'.get? b = some o := fun b o hb e => hs'.extBut b o (by rw [hsz3]; exact Nat.ne_of_lt (Nat.lt_succ_of_lt hb)) e
        have hok' : HOk X.prog X.w Hc h' := fun b ob e => by
          refine (I5.hok b ob e).u0 (fun cc v hcc q => hs'.extBut cc v ?_ q) (fun _ q => q) fun _ _ q => q
          rintro rfl
          rcases hcc with z | z
          · rw [← z, hcC] at e; cases e
          · rw [hcC] at z; cases z
        have u1 : Un (frs X.stack) fp H2 H3 s2.heap s3.heap := by rw [heap3, hH3]; exact Un.laid old3 (Nat.le_refl _) hfree2
        have u2 : Un (frs X.stack) fp H3 Hc s3.heap s4.heap := I5.base
        exact I2.zD (ch := fp) (by show s4.os = s2.os; have z : s4.os = s3.os := I5.os; rw [z, hs3]) (Un.after (u1.trans u2) kp) hok' I5.bare fun b hb => ⟨(f2 b hb).2.2.2.1, (f2 b hb).2.1, (f2 b hb).2.2.2.2.1, (f2 b hb).2.2.2.2.2⟩
    · have z : b ≠ s2.heap.objs.size := Nat.ne_of_lt (fplt b hb)
      rw [hH3, aZ z]
      exact (f2 b hb).1
    · have ex := nL (o := .lst []) (ds := []) S1.mu hfree2 hK2
      rw [hH3]
      exact ⟨S1.mu.mut .nil hfree2 hK2, (S1.rho.ext S1.mu ex).cap⟩
    · rw [hH3]
      exact nL (o := .lst []) (ds := []) S1.mu hfree2 hK2
  have envE : (bp X N' scope cl fp s3 H3).env = compEnvC scope cl hp3.objs.size X.env := by show compEnvC scope cl s3.heap.objs.size X.env = _; rw [heap3]
  rw [envE] at loop
  exact codeAny_compStart_list loop (T.self X.A 0 _ _ _ (T.keep 0 _ _ st2 (fun b hb o e => kept3 b o (old3 b o e))) loop)
theorem ns_obj {h : Heap} {C : Addr} {m : Str → Option Value} (hn : h.Ns C m) : ∃ o, h.get? C = some o ∧ ∀ v, o.data ≠ .cell v := let ⟨o, es, ep, ho, hd, _⟩ := hn; ⟨o, ho, fun v z => by rw [hd] at z; cases z⟩
theorem Hq {h h' : Heap} {C : Addr} {m : Str → Option Value} (hn : h.Ns C m) (e : h'.get? C = h.get? C) : h'.Ns C m := let ⟨o, es, ep, ho, r⟩ := hn; ⟨o, es, ep, e.trans ho, r⟩
theorem qP {X : Cx} {i : Nat} {x : Str} {pos' spos : Pos} {N' : List Str} {scope : Scope} {cl : List (Str × Addr)} {elt iter tg : Expr} {ifs : List Expr} {pos : Pos} {cap : List (Option Nat)} {src : DTI} {g : DTG} {c : DTT} {te : DTE} (hN : X.N.Nodup) (hix : X.N[i]? = some x) (hx : X.env.scope.names.lookup x = some .local) (hc : X.calm = X.calm)
    (hi : DI X tg iter src) (hg : ∀ fp s₃ H₃, DG (bp X N' scope cl fp s₃ H₃) tg g) (hif : ∀ fp s₃ H₃, Hm (bp X N' scope cl fp s₃ H₃) ifs c) (he : ∀ fp s₃ H₃, DE (bp X N' scope cl fp s₃ H₃) elt te)
    (hclos : closureFor scope X.env = pure cl) (hcell : ∀ y ∈ scope.names, y.2 ≠ .cell) (hkind : scope.kind = .function) (hnames : ∀ y ∈ scope.names, y.2 = .local → scope.names.lookup y.1 = some .local)
    (hcl : ∀ x a, cl.lookup x = some a → X.env.cells.lookup x = some a) (hhas : ∀ x, (relabel scope X.env).names.lookup x = some .cell ∨ (relabel scope X.env).names.lookup x = some .free → ∃ a, cl.lookup x = some a)
    (hlen : cap.length = N'.length) (hcap : ∀ (i j : Nat) (x : Str), cap[i]? = some (some j) → N'[i]? = some x → X.N[j]? = some x ∧ Vis X.env.scope x ∧ X.env.kindOf x ≠ some .local ∧ ((relabel scope X.env).names.lookup x = some .cell ∨ (relabel scope X.env).names.lookup x = some .free))
    (hs : ∀ x, foldedSetIterable iter X.env x = pure x := by intro _; rfl)
    (hsw : swapsWith (.ListComp elt [⟨tg, iter, ifs, 0⟩] scope pos) (some (.Name x pos')) spos.line X.env = pure true := by rfl) : DS X (.Assign [.Name x pos'] (.ListComp elt [⟨tg, iter, ifs, 0⟩] scope pos) spos) (bo (kn cap src g c te) (av i)) := by
  refine ⟨fun D σ H => ∃ ρ μ Dd, St0 X.K H ρ μ σ ∧ bo (kn cap src g c te) (av i) Dd ρ μ ∧ (∀ σ' ρ' μ' H', Ext X.K μ H μ' H' → St0 X.K H' ρ' μ' σ' → Dd.nx ρ' μ' → D.nx σ' H'), ?_, fun σ H ρ μ Dd De S h k1 k2 k3 k4 => ⟨ρ, μ, Dd, S, h, k1⟩⟩
  rintro pins s σ H D I ⟨ρ, μ, Dd, S, h, k1⟩
  rw [exec_Assign_Name_used _ _ _ _ hsw]
  refine wpAny_bind (wpAny_standAt ?_)
  show wpAny _ _ ((comprehension (.ListComp elt [⟨tg, iter, ifs, 0⟩] scope pos) scope X.env (firstIterPos [⟨tg, iter, ifs, 0⟩] pos) (newList []) false (eval iter X.env) (some (assign (.Name x pos') X.env)) >>= fun _ => pure ()) >>= _) _ _ s
  refine wpAny_bind (wpAny_bind (DD (Qd := fun d μ1 => av i d ρ μ1 Dd.nx) hc hi hg hif he hclos hcell hkind hnames hcl hhas hlen hcap hs I S h fun s4 Hc C pa m acc μF hn fC hI e1 S1 r q => ?_))
  have I4 : Inv X pins σ Hc s4 := hI s4.heap (Heap.SameBut.refl _ _)
  obtain ⟨oC, hoC, hdC⟩ : ∃ o, s4.heap.get? C = some o ∧ ∀ v, o.data ≠ .cell v := by
    obtain ⟨o, h1, h2⟩ := ns_obj hn
    exact ⟨o, h1, h2⟩
  have I5 := I4.pinned (fp := [C]) (fun b hb => by rw [List.mem_singleton.mp hb]; exact fC) (fun b hb => by rw [List.mem_singleton.mp hb]; exact ⟨oC, hoC, hdC⟩)
  show wpAny _ _ (assign (.Name x pos') X.env (.ref pa)) _ _ s4
  refine wpAny_assign_Name (kO I5 hN hix (Or.inl hx) (show RelV (.ref pa) (.ref pa) from rfl) (fun s' I' => ?_) (.inr hx))
  have keepC : s'.heap.get? C = some oC := (I'.pin (C, oC) (List.mem_append_right _ (List.mem_append_right _ (fA (List.mem_singleton.mpr rfl) hoC)))).1
  have hn' : s'.heap.Ns C m := Hq hn (by rw [keepC, hoC])
  refine ⟨m, hn', fun h' hs' => wpAny_pure (wpAny_pure ?_)⟩
  refine ⟨σ.set i (some (.ref pa)), Hc, ?_, k1 _ _ _ _ e1 ⟨S1.mu, S1.rho.set (d := .v (.list acc)) r⟩ q⟩
  refine I'.kJ.zD (ch := [C]) rfl ⟨fun b o e n hb hx => ?_, fun b o e n hb hx => ?_, fun b o e n hx => n, fun b o e hx => ?_, fun b xs e => e, fun b o u e => e, fun b ps e => ⟨#[], by rw [Array.append_empty]; exact e⟩⟩ ?_ I'.bare fun b hb => ?_
  · exact hs'.extBut b o (fun z => hx (List.mem_singleton.mpr z)) e
  · exact ⟨o.slots, hs'.extBut b o (fun z => hx (List.mem_singleton.mpr z)) e⟩
  · exact ⟨o, hs'.extBut b o (fun z => hx (List.mem_singleton.mpr z)) e⟩
  · exact fun b ob e => by
      refine (I'.hok b ob e).u0 (fun cc v hcc q => hs'.extBut cc v ?_ q) (fun _ q => q) fun _ _ q => q
      rintro rfl
      rcases hcc with z | z
      · rw [← z, fC.1] at e; cases e
      · rw [fC.1] at z; cases z
  · rw [List.mem_singleton.mp hb]
    exact ⟨fC.2.2.2.1, fC.2.1, fC.2.2.2.2.1, fC.2.2.2.2.2⟩
theorem yR {cap : List (Option Nat)} {src : DTI} {g : DTG} {t : DTT} {ta : DTE} {ρ : Rho} {μ : Mu} {Q : DK} : kn cap src g t ta ρ μ Q = src ρ μ fun xs μ1 => xs.length ≤ 1000 ∧ ∀ p, μ1 p = none → ∃ Pv : Nat → List PyData → Mu → Prop, Pv 0 [] (aP μ1 p []) ∧
  (∀ i x acc μ', xs[i]? = some x → μ' p = some acc → Pv i acc μ' → g (.v x) (bT cap ρ) μ' fun ρ2 μ2 => Le (bT cap ρ) ρ2 ∧ t ρ2 μ2 fun b μ3 =>
    if b = true then ta ρ2 μ3 fun d μ4 => μ4 p = some acc ∧ (match d with | .v y => Pv (i + 1) (acc ++ [y]) (aP μ4 p (acc ++ [y])) | _ => False) else μ3 p = some acc ∧ Pv (i + 1) acc μ3) ∧
  (∀ acc μ', Pv xs.length acc μ' → μ' p = some acc → Q (.v (.list acc)) (gJ μ' p)) := propext Iff.rfl
theorem wM {μ : Mu} {p : Addr} {ds : List PyData} (h : μ p = none) : gJ (aP μ p ds) p = μ := by
  funext b
  unfold gJ aP
  by_cases e : b = p
  · rw [if_pos e, e, h]
  · rw [if_neg e, if_neg e]
theorem Kc {xs : List PyData} {f : PyData → Option PyData} {i : Nat} {d : PyData} (h : xs[i]? = some d) : (xs.take (i + 1)).filterMap f = (xs.take i).filterMap f ++ (f d).toList := CF h
open PySem PySem.Spec PyProof.Rows
section
variable {X : Cx} {es : List Expr} {x1 : Nat} {tpos : Pos}
def FD : List PyData → List PyData → List PyData
  | x :: xs, y :: ys => .tuple [x, y] :: FD xs ys
  | _, _ => []
def LL (t : DTA) : DTI := fun ρ μ Q => t ρ μ fun ds μ1 => match ds with
  | [.v (.list xs), .v (.list ys)] => Q (FD xs ys) μ1
  | _ => False
theorem Cs {t : DTA} {ρ : Rho} {μ : Mu} {Q : List PyData → Mu → Prop} : LL t ρ μ Q = t ρ μ fun ds μ1 => match ds with | [.v (.list xs), .v (.list ys)] => Q (FD xs ys) μ1 | _ => False := propext Iff.rfl
end
open PySem PySem.Spec PyProof.Rows
section
variable {X : Cx} {a b e : Expr} {es : List Expr} {ta tb te : DTE} {t : DTA} {p pos : Pos}
def jK : List D → Mu → DK → Prop := fun xs μ Q => match xs with
  | [.v (.list ys)] => Q (.v (.tuple ys)) μ
  | [.v (.tuple ys)] => Q (.v (.tuple ys)) μ
  | [.m l] => (match μ l with | some ys => Q (.v (.tuple ys)) μ | none => False)
  | _ => False
theorem Ep {K : PySem.W.Frag} : mS K (fun xs H Q => ∃ p ys, xs = [.ref p] ∧ ((SqL K H p ys ∧ ∀ l, H l = none → Q (.ref l) (upd H l (.tup ys))) ∨ (SqT K H p ys ∧ Q (.ref p) H))) jK := by
  intro xs us H μ Qd Q ok rs h k
  unfold jK at h
  split at h
  · cases rs with
    | cons r1 r2 =>
      cases r2
      cases r1 with
      | list hs hn r => exact ⟨_, _, rfl, .inl ⟨SqL.of hs, fun l hl => k (.v _) _ μ _ (cF hl) (ok.new hl) (jo ok r hl) h⟩⟩
  · cases rs with
    | cons r1 r2 =>
      cases r2
      cases id r1 with
      | tuple hs r => exact ⟨_, _, rfl, .inr ⟨hs, k (.v _) _ μ H .refl ok r1 h⟩⟩
  · cases rs with
    | cons r1 r2 =>
      cases r2
      obtain ⟨rfl, ds, hm⟩ := r1
      rw [hm] at h
      obtain ⟨us, hl, r⟩ := ok _ ds hm
      exact ⟨_, _, rfl, .inl ⟨SqL.of hl, fun l hl' => k (.v _) _ μ _ (cF hl') (ok.new hl') (jo ok r hl') h⟩⟩
  · exact h.elim
theorem zQ (hg : Gl X "tuple") (hm : X.mg "tuple" = none) (ha : DA X (e :: es) t)
    (he : starEach (e :: es) X.env = (false, eval e X.env) :: starEach es X.env := by rfl) (hpl : (backTo pos (starEach es X.env)).any (·.1) = false := by rfl) : DE X (.Call (.Name "tuple" p) (e :: es) [] pos) (dCB jK t) :=
  rP wC Ep hg hm PyProof.Rows.Boot.«tuple» ha (by decide) (by decide) he hpl
theorem zM {ys : List PyData} {μ : Mu} {Q : DK} : jK [.v (.list ys)] μ Q = Q (.v (.tuple ys)) μ := propext Iff.rfl
theorem zx {ys : List PyData} {μ : Mu} {Q : DK} : jK [.v (.tuple ys)] μ Q = Q (.v (.tuple ys)) μ := propext Iff.rfl
theorem A4 {l : Addr} {μ : Mu} {Q : DK} : jK [.m l] μ Q = (match μ l with | some ys => Q (.v (.tuple ys)) μ | none => False) := propext Iff.rfl
def LD : D → D → Mu → DK → Prop := fun x y μ Q => match x, y with
  | .v (.list xs), .v (.int k) => (0 ≤ k ∧ k ≤ 1000 ∧ xs.length * k.toNat ≤ 1000) ∧ Q (.v (.list (List.replicate k.toNat xs).flatten)) μ
  | _, _ => False
theorem IJ {xs : List PyData} {k : Int} {μ : Mu} {Q : DK} : LD (.v (.list xs)) (.v (.int k)) μ Q = ((0 ≤ k ∧ k ≤ 1000 ∧ xs.length * k.toNat ≤ 1000) ∧ Q (.v (.list (List.replicate k.toNat xs).flatten)) μ) := propext Iff.rfl
end
open PySem PySem.Spec PyProof.Rows
section
variable {prog : Program} {w : World} {A : Around} {E : Value → Shared → Prop} {s : Shared}
end
open PySem PySem.Spec PyProof.Rows
section
variable {X : Cx} {es : List Expr} {x1 : Nat} {tpos : Pos}
end
section
variable {X : Cx} {es : List Expr} {pos : Pos}
end
open PySem PySem.Spec PyProof.Rows
section
variable {X : Cx} {e : Expr} {es : List Expr} {t : DTA} {p pos : Pos}
theorem Dm : ∀ {ns : List Int} {us : List Value}, Vals (ns.map V.int) us → PyProof.Rows.IntsAre us ns
  | [], _, .nil => .nil
  | n :: r, _, .cons h t => by obtain ⟨tk, rfl⟩ := h; exact .cons n tk (Dm t)
theorem Ee (hc : X.calm = true) : gp X (.builtin "sum") (fun xs H Q => ∃ (p : Addr) (ns : List Int), xs = [.ref p] ∧ H p = some (.lst (ns.map V.int)) ∧ Q (.int ns.sum) H) := by
  intro pins s σ H xs us Q I r h
  obtain ⟨l, ns, rfl, hl, q⟩ := h
  obtain ⟨u, rfl, rx⟩ := vals1 r
  cases rx
  obtain ⟨its, rv, pl, _⟩ := I.list (SqL.of hl)
  have hi := Dm rv
  have hL := pl.isList
  obtain ⟨xs, hx⟩ := hi.allInts.items
  have hn : numsOf its.toArray.toList = ns := by rw [show its.toArray.toList = its from rfl, hi.numsOf]
  rw [hx] at hL hn
  rw [nums_intItems] at hn
  refine sum_intListG (I.ok.hd hc) hL fun h' tk t' hk => ?_
  rw [preSum_eq, List.take_of_length_le (by simp), hn]
  exact ⟨.int ns.sum, H, I.kept hk, ⟨_, rfl⟩, q⟩
def fg : List PyData → Option (List Int)
  | [] => some []
  | .int b :: r => (fg r).map (b :: ·)
  | _ :: _ => none
theorem wU {K : PySem.W.Frag} {μ : Mu} {H : Hp} : ∀ {xs : List PyData} {us : List V} {bs : List Int}, RpL K μ H xs us → fg xs = some bs → us = bs.map V.int
  | _, _, _, .nil, e => by cases e; rfl
  | .int b :: r, _, bs, .cons h t, e => by
    simp only [fg] at e
    cases q : fg r with
    | none => rw [q] at e; cases e
    | some cs => rw [q] at e; cases e; cases h; rw [wU t q]; rfl
  | .none :: r, _, bs, .cons h t, e => by simp [fg] at e
  | .bool _ :: r, _, bs, .cons h t, e => by simp [fg] at e
  | .str _ :: r, _, bs, .cons h t, e => by simp [fg] at e
  | .list _ :: r, _, bs, .cons h t, e => by simp [fg] at e
  | .tuple _ :: r, _, bs, .cons h t, e => by simp [fg] at e
  | .dict _ :: r, _, bs, .cons h t, e => by simp [fg] at e
def uK : List D → Mu → DK → Prop := fun xs μ Q => match xs with
  | [.v (.list ys)] => (match fg ys with | some bs => Q (.v (.int bs.sum)) μ | none => False)
  | _ => False
theorem J4 {K : PySem.W.Frag} : mS K (fun xs H Q => ∃ (p : Addr) (ns : List Int), xs = [.ref p] ∧ H p = some (.lst (ns.map V.int)) ∧ Q (.int ns.sum) H) uK := by
  intro xs us H μ Qd Q ok rs h k
  unfold uK at h
  split at h
  · rename_i ys
    cases q : fg ys with
    | none => rw [q] at h; exact h.elim
    | some bs =>
      rw [q] at h
      cases rs with
      | cons r1 r2 =>
        cases r2
        cases r1 with
        | list hs hn r => exact ⟨_, bs, rfl, by rw [hs, wU r q], k (.v _) _ μ H .refl ok (Rp.int _) h⟩
  · exact h.elim
theorem Br (hc : X.calm = true) (hg : Gl X "sum") (hm : X.mg "sum" = none) (ha : DA X (e :: es) t)
    (he : starEach (e :: es) X.env = (false, eval e X.env) :: starEach es X.env := by rfl) (hpl : (backTo pos (starEach es X.env)).any (·.1) = false := by rfl) : DE X (.Call (.Name "sum" p) (e :: es) [] pos) (dCB uK t) :=
  kr (Ee hc) J4 hg hm PyProof.Rows.Boot.«sum» ha (by decide) (by decide) he hpl
theorem Fh {ys : List PyData} {μ : Mu} {Q : DK} : uK [.v (.list ys)] μ Q = (match fg ys with | some bs => Q (.v (.int bs.sum)) μ | none => False) := propext Iff.rfl
end
section
variable {X : Cx} {e tg : Expr} {te : DTE} {td : DTS} {pos : Pos}
end
section
variable {X : Cx} {a b c : Expr} {ta tb tc : DTE} {pos : Pos}
end
open PySem PySem.Spec PyProof.Rows
section
variable {X : Cx} {o e : Expr} {to te : DTE} {apos cpos pos : Pos}
end
section
variable {X : Cx} {e : Expr} {es : List Expr} {t : DTA} {p pos : Pos}
end
section
variable {X : Cx} {a b : Expr} {ta tb : DTE} {pos : Pos}
end
open PySem PySem.Spec PyProof.Rows
def Fg (cells : List (Str × Addr)) : List (Str × Addr) → Prop
  | [] => True
  | (k, v) :: r => cells.lookup k = some v ∧ Fg cells r
theorem bS {cells : List (Str × Addr)} : Fg cells [] := trivial
theorem aF {cells r : List (Str × Addr)} {k : Str} {v : Addr} (h : cells.lookup k = some v) (t : Fg cells r) : Fg cells ((k, v) :: r) := ⟨h, t⟩
theorem aV {cells : List (Str × Addr)} : ∀ {cl : List (Str × Addr)}, Fg cells cl → ∀ x a, cl.lookup x = some a → cells.lookup x = some a
  | [], _, _, _, h => by simp at h
  | (k, v) :: r, c, x, a, h => by
    rw [List.lookup_cons] at h
    cases e : x == k with
    | true =>
      have e' : x = k := by simpa using e
      rw [e] at h
      subst e'
      rw [c.1]; exact h
    | false =>
      rw [e] at h
      exact aV c.2 x a h
open PySem PySem.Spec PyProof.Rows
def Fly (O : Addr → Prop) (h : Heap) (e : Addr) (cls fl : Value) : Prop := (∀ b, O b → b < h.objs.size) ∧ ∃ oe vs T oT ts, h.get? e = some oe ∧ oe.cls = cls ∧ oe.data = .fields vs ∧ vs[1]? = some (.ref T) ∧ vs[2]? = some .none ∧ ¬ O e ∧ ¬ O T ∧ T ≠ e ∧ h.get? T = some oT ∧ oT.data = .fields ts ∧ ts[3]? = some fl
structure Kp (O : Addr → Prop) (fs : List Addr) (h h' : Heap) : Prop where
  keep : ∀ b o, h.get? b = some o → O b → b ∉ fs → h'.get? b = some o
  slot : ∀ b o, h.get? b = some o → (∀ vs, o.data ≠ .fields vs) → ∃ sl, h'.get? b = some { o with slots := sl }
section
variable {O : Addr → Prop} {fs : List Addr} {h h1 h2 : Heap}
theorem Kp.refl : Kp O fs h h := ⟨fun _ _ e _ _ => e, fun _ o e _ => ⟨o.slots, e⟩⟩
theorem Kp.trans (a : Kp O fs h h1) (b : Kp O fs h1 h2) : Kp O fs h h2 := ⟨fun c o e l f => b.keep c o (a.keep c o e l f) l f, fun c o e d => let ⟨_, e1⟩ := a.slot c o e d; let ⟨sl, e2⟩ := b.slot c _ e1 d; ⟨sl, e2⟩⟩
theorem Kp.of (k : ∀ b o, h.get? b = some o → h1.get? b = some o) : Kp O fs h h1 := ⟨fun b o e _ _ => k b o e, fun b o e _ => ⟨o.slots, k b o e⟩⟩
theorem Kp.sub {fs' : List Addr} (a : Kp O fs h h1) (s : ∀ b ∈ fs, b ∈ fs') : Kp O fs' h h1 := ⟨fun b o e l f => a.keep b o e l fun z => f (s b z), a.slot⟩
theorem Kp.frames {base : Heap} {l : List Env} (a : Kp O fs h h1) (k : h.FunFrames base l) : h1.FunFrames base l := k.of_keeps fun b o e d => let ⟨_, e1⟩ := a.slot b o e d; ⟨_, e1, rfl⟩
end
section
variable {M : Model} {A : Around} {E : Value → Shared → Prop} {s : Shared} {O : Addr → Prop} {e L : Addr} {cls fl : Value} {env : Env} {outer : List Env} {base : Heap} {Q : Unit → Shared → Prop}
theorem zA {oe : Obj} {vs : Array Value} {head : Value} {hadNext : Bool} (hfr : A.frames = some (env :: outer)) (hl : s.heap.FunFrames base (env :: outer)) (hf : env.frame = some L)
    (he : s.heap.get? e = some oe) (hc : oe.cls = cls) (hd : oe.data = .fields vs) (hz : 1 < vs.size) (h2 : vs[2]? = some .none) (hO : ∀ b, O b → b < s.heap.objs.size) (hn : ¬ O e)
    (k : ∀ h', Kp O (frs (env :: outer)) s.heap h' → Fly O h' e cls (rawInt L) → Q () { s with heap := h' }) :
    wpAny M A (do let a ← frameOf env; let pl ← entryPlaceOf L hadNext; let b ← EntryCells.newEntry head a .none (rawInt L) .none pl; setField (.ref e) 1 b) Q E s := by
  have ene : e ∉ frs (env :: outer) := fun hm => by
    obtain ⟨_, o, ho, hnf⟩ := hl.mem hm
    rw [he] at ho
    exact hnf vs (by rw [← Option.some.inj ho]; exact hd)
  refine wpAny_bind (wpAny_frameOf_fun hfr hl hf fun g1 s1 => wpAny_bind (wpAny_entryPlaceOf fun pl hpl => ?_))
  unfold EntryCells.newEntry newFields; refine wpAny_bind (wpAny_newObj_type ?_ (hpl.sizeOk5 _ _ _ _ _))
  generalize hob : ({ cls := .type "traceback", dict := none, data := .fields ([head, .ref L, .none, rawInt L, .none] ++ (if pl.isEmpty then List.replicate 6 Value.none else pl)).toArray } : Obj) = ob
  have e1 : g1.get? e = some oe := (s1.2.1 e ene).trans he
  have e2 : (g1.push ob).get? e = some oe := Heap.get?_push_of_some ob e1
  have neT : g1.objs.size ≠ e := Nat.ne_of_gt (Heap.lt_size e1)
  have d3 := Obj.data_mapFields hd (·.setIfInBounds 1 (Value.ref g1.objs.size))
  have szs : ¬ O g1.objs.size := fun z => absurd (hO _ z) (by rw [s1.1]; exact Nat.lt_irrefl _)
  refine wpAny_setField e2 hd hz (k _ ⟨fun b o q l f => ?_, fun b o q d => ?_⟩ ?_)
  · have bne : e ≠ b := fun z => hn (by rw [z]; exact l)
    rw [Heap.get?_update_other _ _ bne]
    exact Heap.get?_push_of_some _ ((s1.2.1 b f).trans q)
  · have bne : e ≠ b := fun z => by rw [← z, he] at q; exact d vs (by rw [← Option.some.inj q]; exact hd)
    obtain ⟨sl, q1⟩ := s1.2.2 b o q
    exact ⟨sl, by rw [Heap.get?_update_other _ _ bne]; exact Heap.get?_push_of_some _ q1⟩
  · refine ⟨fun b z => Nat.lt_of_lt_of_le (hO b z) (by rw [Heap.size_after_update, Heap.size_push, s1.1]; exact Nat.le_succ _), _, _, g1.objs.size, ob, _, Heap.get?_update_self _ e2 (Obj.isFreed_of_fields d3), (Obj.cls_mapFields ..).trans hc, d3, by simp [hz], by rw [Array.getElem?_setIfInBounds_ne (by decide)]; exact h2, hn, szs, neT, ?_, by rw [← hob], ?_⟩
    · rw [Heap.get?_update_other _ _ (Ne.symm neT)]
      exact Heap.get?_push_size g1 (by rw [← hob]; rfl)
    · rcases hpl with z | ⟨_, _, _, _, _, _, _, z⟩ <;> (rw [z]; rfl)
theorem B7 {oe : Obj} {vs : Array Value} (hfr : A.frames = some (env :: outer)) (hl : s.heap.FunFrames base (env :: outer)) (hf : env.frame = some L)
    (he : s.heap.get? e = some oe) (hc : oe.cls = cls) (hd : oe.data = .fields vs) (h1 : vs[1]? = some .none) (h2 : vs[2]? = some .none) (hO : ∀ b, O b → b < s.heap.objs.size) (hn : ¬ O e)
    (k : ∀ h', Kp O (frs (env :: outer)) s.heap h' → Fly O h' e cls (rawInt L) → Q () { s with heap := h' }) : wpAny M A (noteFrame (.ref e) env) Q E s := by
  unfold noteFrame; simp only [hf]
  refine wpAny_bind (wpAny_field he hd h1 ?_)
  rw [if_neg (by decide)]
  exact zA hfr hl hf he hc hd (Array.getElem?_eq_some_iff.mp h1).1 h2 hO hn k
theorem xi (hfr : A.frames = some (env :: outer)) (hl : s.heap.FunFrames base (env :: outer)) (hf : env.frame = some L) (F : Fly O s.heap e cls .none)
    (k : ∀ h', Kp O (frs (env :: outer)) s.heap h' → Fly O h' e cls (rawInt L) → Q () { s with heap := h' }) : wpAny M A (noteFrame (.ref e) env) Q E s := by
  obtain ⟨hO, oe, vs, T, oT, ts, he, hc, hd, h1, h2, hn, hT, nT, gT, dT, h3⟩ := F
  unfold noteFrame; simp only [hf]
  refine wpAny_bind (wpAny_field he hd h1 ?_)
  rw [if_pos (by simp)]
  refine wpAny_bind (wpAny_field gT dT h3 ?_)
  rw [if_neg (by simp [rawInt])]
  have oth : ∀ b, b ≠ T → (s.heap.update T (Obj.mapFields (·.setIfInBounds 3 Value.none))).get? b = s.heap.get? b := fun b hb => Heap.get?_update_other _ _ (Ne.symm hb)
  have kp : Kp O (frs (env :: outer)) s.heap (s.heap.update T (Obj.mapFields (·.setIfInBounds 3 Value.none))) :=
    ⟨fun b o q l _ => (oth b fun z => hT (by rw [← z]; exact l)).trans q, fun b o q d => ⟨o.slots, (oth b fun z => by rw [z, gT] at q; exact d ts (by rw [← Option.some.inj q]; exact dT)).trans q⟩⟩
  refine wpAny_bind (wpAny_setField gT dT (Array.getElem?_eq_some_iff.mp h3).1 ?_)
  exact zA (s := { s with heap := s.heap.update T (Obj.mapFields (·.setIfInBounds 3 Value.none)) }) hfr (kp.frames hl) hf ((oth e (Ne.symm nT)).trans he) hc hd (Array.getElem?_eq_some_iff.mp h1).1 h2 (fun b z => by rw [Heap.size_after_update]; exact hO b z) hn fun h' a b => k h' (kp.trans a) b
theorem jU {fs : List Addr} (F : Fly O s.heap e cls fl) (k : ∀ h', Kp O fs s.heap h' → Fly O h' e cls .none → Q () { s with heap := h' }) : wpAny M A (setFlight (.ref e) none) Q E s := by
  obtain ⟨hO, oe, vs, T, oT, ts, he, hc, hd, h1, h2, hn, hT, nT, gT, dT, h3⟩ := F
  have z3 : 3 < ts.size := (Array.getElem?_eq_some_iff.mp h3).1
  unfold setFlight
  refine wpAny_bind (wpAny_field he hd h1 ?_)
  rw [if_pos (by simp)]
  have oth : ∀ b, b ≠ T → (s.heap.update T (Obj.mapFields (·.setIfInBounds 3 ((none : Option Addr).elim Value.none fun f => rawInt f)))).get? b = s.heap.get? b := fun b hb => Heap.get?_update_other _ _ (Ne.symm hb)
  refine wpAny_setField gT dT z3 (k _ ⟨fun b o q l _ => (oth b fun z => hT (by rw [← z]; exact l)).trans q, fun b o q d => ⟨o.slots, (oth b fun z => by rw [z, gT] at q; exact d ts (by rw [← Option.some.inj q]; exact dT)).trans q⟩⟩ ?_)
  exact ⟨fun b z => by rw [Heap.size_after_update]; exact hO b z, oe, vs, T, _, _, (oth e (Ne.symm nT)).trans he, hc, hd, h1, h2, hn, hT, nT, Heap.get?_update_self _ gT (Obj.isFreed_of_fields (Obj.data_mapFields dT _)), Obj.data_mapFields dT _, by simp [z3]⟩
theorem zX {oe : Obj} {vs : Array Value} (hfr : A.frames = some (env :: outer)) (hl : s.heap.FunFrames base (env :: outer)) (hf : env.frame = some L)
    (he : s.heap.get? e = some oe) (hc : oe.cls = cls) (hd : oe.data = .fields vs) (h1 : vs[1]? = some .none) (h2 : vs[2]? = some .none) (hO : ∀ b, O b → b < s.heap.objs.size) (hn : ¬ O e)
    (k : ∀ h', Kp O (frs (env :: outer)) s.heap h' → Fly O h' e cls .none → Q () { s with heap := h' }) : wpAny M A (leaving env (.ref e)) Q E s := by
  unfold leaving
  exact wpAny_bind (B7 hfr hl hf he hc hd h1 h2 hO hn fun h' a b => jU (s := { s with heap := h' }) b fun h'' a' b' => k h'' (a.trans a') b')
theorem BW (hfr : A.frames = some (env :: outer)) (hl : s.heap.FunFrames base (env :: outer)) (hf : env.frame = some L) (F : Fly O s.heap e cls .none)
    (k : ∀ h', Kp O (frs (env :: outer)) s.heap h' → Fly O h' e cls .none → Q () { s with heap := h' }) : wpAny M A (leaving env (.ref e)) Q E s := by
  unfold leaving
  exact wpAny_bind (xi hfr hl hf F fun h' a b => jU (s := { s with heap := h' }) b fun h'' a' b' => k h'' (a.trans a') b')
end
open PySem PySem.Spec PyProof.Rows
def CX1 (P : Program) (w : World) : CXT := fun outer H s E e s' => ∃ (O : Addr → Prop) (ea : Addr) (cls : Value) (H' : Hp), e = .ref ea ∧ s'.os = s.os ∧ AllBare s'.gens ∧ Un (frs outer) [] H H' s.heap s'.heap ∧ HOk P w H' s'.heap ∧
  (∀ b o, s.heap.get? b = some o → O b) ∧ (∀ b, H' b ≠ none → O b) ∧ Fly O s'.heap ea cls .none ∧ E cls none H'
theorem Un.fly {fs : List Addr} {L : Addr} {H H' : Hp} {h h1 h2 : Heap} {O : Addr → Prop} (u : Un fs [] H H' h h1) (k : Kp O (L :: fs) h1 h2) (hO : ∀ b o, h.get? b = some o → O b) (hL : ∀ o, h.get? L ≠ some o) (hd : ∀ b ∈ fs, ∀ o, h1.get? b = some o → ∀ vs, o.data ≠ .fields vs) : Un fs [] H H' h h2 where
  keep := fun b o e n f x => k.keep b o (u.keep b o e n f x) (hO b o e) fun z => by
    rcases List.mem_cons.mp z with z | z
    · exact hL o (by rw [← z]; exact e)
    · exact f z
  slot := fun b o e n f x => by
    obtain ⟨sl, e1⟩ := u.slot b o e n f x
    obtain ⟨sl', e2⟩ := k.slot b _ e1 (hd b f _ e1)
    exact ⟨sl', e2⟩
  free := u.free
  there := fun b o e x => by
    obtain ⟨o1, e1⟩ := u.there b o e x
    by_cases f : b ∈ fs
    · obtain ⟨sl, e2⟩ := k.slot b _ e1 (hd b f _ e1)
      exact ⟨_, e2⟩
    · exact ⟨o1, k.keep b o1 e1 (hO b o e) fun z => by
        rcases List.mem_cons.mp z with z | z
        · exact hL o (by rw [← z]; exact e)
        · exact f z⟩
  nY := u.nY
  nc := u.nc
  mM := u.mM
theorem HOk.fly {P : Program} {w : World} {H : Hp} {h h1 : Heap} {O : Addr → Prop} {fs : List Addr} (x : HOk P w H h) (k : Kp O fs h h1) (hO : ∀ b, H b ≠ none → O b) (hf : ∀ b ∈ fs, H b = none) : HOk P w H h1 := fun a o e => by
  refine (x a o e).u0 (fun b u hb q => ?_) (fun _ q => q) fun _ _ q => q
  have hb' : H b ≠ none := by
    rcases hb with rfl | hb
    · rw [e]; exact fun z => nomatch z
    · rw [hb]; exact fun z => nomatch z
  exact k.keep b u q (hO b hb') fun z => hb' (hf b z)
theorem Dp {P : Program} {w : World} {H : Hp} {h : Heap} {a : Addr} {o : HO} (x : i5 P w H h a o) : ∃ u, h.get? a = some u := by
  cases o with
  | lst xs => obtain ⟨_, _, _, _, e⟩ := x; exact ⟨_, e⟩
  | tup xs => obtain ⟨_, _, _, _, e, _⟩ := x; exact ⟨_, e⟩
  | dK kvs => obtain ⟨_, _, _, _, _, _, _, e, _⟩ := x; exact ⟨_, e⟩
  | dT kvs => obtain ⟨_, _, _, _, _, _, _, e, _⟩ := x; exact ⟨_, e⟩
  | set S n => obtain ⟨_, _, _, _, e, _⟩ := x; exact ⟨_, e⟩
  | ins C dx fs => obtain ⟨_, _, _, e, _⟩ := x; exact ⟨_, e⟩
  | own y => exact x
  | xd fs => obtain ⟨_, ⟨_, _, _, e, _⟩, _⟩ := x; exact ⟨_, e⟩
  | rng lo hi => obtain ⟨_, _, _, e⟩ := x; exact ⟨_, e⟩
  | frz ob u => obtain ⟨e, _⟩ := x; exact ⟨_, e⟩
  | tbl ps => exact ⟨_, (show h.get? a = some _ from x)⟩
  | met f y => exact ⟨_, (show h.get? a = some _ from x)⟩
  | ext φ => obtain ⟨_, e, _⟩ := x; exact e
section
variable {X : Cx} {pins : List (Addr × Obj)} {σ : St} {H : Hp} {s : Shared} {O : Addr → Prop} {ea : Addr} {cls : Value} {E : XK} {base : Heap}
structure Frm (X : Cx) : Prop where
  stk : X.stack = X.env :: X.outer
  fr : X.env.frame = some X.env.locals
  ex : X.ex = []
theorem qj (hF : Frm X) : frs (X.env :: X.outer) = X.env.locals :: X.fs := by
  unfold Cx.fs frs
  rw [List.filterMap_cons, hF.fr]
theorem yQ (I : Inv X pins σ H s) : ∀ b ∈ X.fs, ∀ o, s.heap.get? b = some o → ∀ vs, o.data ≠ .fields vs := fun b hb o e vs => by
  obtain ⟨_, o', e', d⟩ := I.oY.mem hb
  rw [e] at e'
  rw [Option.some.inj e']
  exact d vs
theorem Ct (I : Inv X pins σ H s) : ∀ o, X.s₀.heap.get? X.env.locals ≠ some o := fun o e => absurd (Heap.lt_size e) (Nat.not_lt.mpr I.ok.above)
theorem zV (hF : Frm X) (I : Inv X pins σ H s) : ∀ b ∈ frs (X.env :: X.outer), H b = none := fun b hb => by
  rw [qj hF] at hb
  rcases List.mem_cons.mp hb with e | hb
  · rw [e]; exact I.free
  · exact I.uv b (by rw [hF.stk, qj hF]; exact List.mem_cons_of_mem _ hb)
theorem rE (hF : Frm X) (I : Inv X pins σ H s) : s.heap.FunFrames X.base (X.env :: X.outer) := by
  have := I.stack
  rw [hF.stk] at this
  exact this
theorem FJ (hF : Frm X) (I : Inv X pins σ H s) (hO : ∀ b o, X.s₀.heap.get? b = some o → O b) (ht : ∀ b, H b ≠ none → O b) {h' : Heap} (k : Kp O (frs (X.env :: X.outer)) s.heap h') (F : Fly O h' ea cls .none) (q : E cls none H) :
    CX1 X.prog X.w X.outer X.H₀ X.s₀ E (.ref ea) { s with heap := h' } := by
  refine ⟨O, ea, cls, H, rfl, I.os, I.bare, ?_, HOk.fly I.hok k ht (zV hF I), hO, ht, F, q⟩
  rw [qj hF] at k
  have u := I.base
  rw [hF.ex] at u
  exact Un.fly u k hO (Ct I) (yQ I)
theorem leave_new {vs : List Value} {h1 : Heap} {Qe : Value → Shared → Prop} (hF : Frm X) (I : Inv X pins σ H s) (hx : Heap.MadeExcOf s.heap h1 ea cls vs) (q : E cls none H) :
    wpAny (model X.prog X.w) X.A (leaving X.env (.ref ea)) (fun _ s'' => CX1 X.prog X.w X.outer X.H₀ X.s₀ E (.ref ea) s'') Qe { s with heap := h1 } := by
  obtain ⟨t, he, _, _⟩ := hx.there
  have I1 : Inv X pins σ H { s with heap := h1 } := I.kept (t' := s.toks) hx.keeps
  have fr : X.A.frames = some (X.env :: X.outer) := by rw [← hF.stk]; exact I.ok.frames
  have kp : Kp (fun b => ∃ o, s.heap.get? b = some o) (frs (X.env :: X.outer)) s.heap h1 := .of hx.keeps
  refine zX (O := fun b => ∃ o, s.heap.get? b = some o) (s := { s with heap := h1 }) fr (rE hF I1) hF.fr he rfl rfl rfl rfl (fun b ⟨o, e⟩ => Heap.lt_size (hx.keeps b o e)) (fun ⟨o, e⟩ => by rw [hx.new] at e; cases e) fun h' k F => ?_
  have e := FJ (s := s) (X := X) hF I (fun b o e => I.base.there b o e (by rw [hF.ex]; exact fun z => nomatch z)) (fun b hb => by
    cases z : H b with
    | none => exact absurd z hb
    | some o => exact Dp (I.hok b o z)) (kp.trans k) F q
  exact e
end
structure XOk (X : Cx) (E : XK) : Prop where
  new : ∀ (pins : List (Addr × Obj)) (σ : St) (H : Hp) (s : Shared) (ea : Addr) (cls : Value) (vs : List Value) (h1 : Heap), Inv X pins σ H s → Heap.MadeExcOf s.heap h1 ea cls vs → E cls none H → X.xe (.ref ea) { s with heap := h1 }
  pas : Passes (CX1 X.prog X.w) X E
theorem wI {X : Cx} {pins : List (Addr × Obj)} {σ : St} {H : Hp} {s s' : Shared} {E : XK} {e : Value} {Qe : Value → Shared → Prop} (hF : Frm X) (I : Inv X pins σ H s) (h : CX1 X.prog X.w X.stack H s E e s') :
    wpAny (model X.prog X.w) X.A (leaving X.env e) (fun _ s'' => CX1 X.prog X.w X.outer X.H₀ X.s₀ E e s'') Qe s' := by
  obtain ⟨O, ea, cls, H', rfl, os, bare, un, hok, hO, ht, F, q⟩ := h
  have I' : Inv X pins σ H' s' := I.zD (ch := []) os un hok bare (fun b z => nomatch z)
  have fr : X.A.frames = some (X.env :: X.outer) := by rw [← hF.stk]; exact I.ok.frames
  refine BW (s := s') fr (rE hF I') hF.fr F fun h' k F' => ?_
  exact FJ (s := s') hF I' (fun b o e => by
    obtain ⟨o', e'⟩ := I.base.there b o e (by rw [hF.ex]; exact fun z => nomatch z)
    exact hO b o' e') ht k F' q
theorem nM {P : Program} {w : World} {K : PySem.W.Frag} {mg : Str → Option Value} {base : Heap} {N : List Str} {qual : Str} {scope : Scope} {f : Addr} {cd : Value} {A : Around} {outer : List Env} {s : Shared} {H : Hp} {E : XK} :
    XOk (ke (CX1 P w) P w K mg base N qual scope f cd A outer s H E) E where
  new := fun pins σ H1 s1 ea cls vs h1 I hx q => leave_new (X := ke (CX1 P w) P w K mg base N qual scope f cd A outer s H E) ⟨rfl, rfl, rfl⟩ I hx q
  pas := fun pins σ H1 s1 e s' I h => wI (X := ke (CX1 P w) P w K mg base N qual scope f cd A outer s H E) ⟨rfl, rfl, rfl⟩ I h
abbrev DTX := Rho → Mu → (Mu → Prop) → Prop
abbrev XSp := List D → Mu → (Mu → Prop) → Prop
def BI (K : PySem.W.Frag) (E : XK) (C : Value) (μ : Mu) (H : Hp) (Xk : Mu → Prop) : Prop := ∀ μ' H', Ext K μ H μ' H' → bE K μ' H' → Xk μ' → E C none H'
theorem BI.on {K : PySem.W.Frag} {E : XK} {C : Value} {μ μ1 : Mu} {H H1 : Hp} {Xk : Mu → Prop} (w : BI K E C μ H Xk) (e : Ext K μ H μ1 H1) : BI K E C μ1 H1 Xk := fun μ' H' e' => w μ' H' (e.trans e')
def XE (X : Cx) (E : XK) (C : Value) (e : Expr) (tx : DTX) : Prop := ∃ t : TE, PE X e t ∧ ∀ σ H ρ μ Xk Q, St0 X.K H ρ μ σ → tx ρ μ Xk → BI X.K E C μ H Xk → t σ H Q
def XS (X : Cx) (E : XK) (C : Value) (st : Stmt) (tx : DTX) : Prop := ∃ t : TS, PS X st t ∧ ∀ σ H ρ μ Xk D, St0 X.K H ρ μ σ → tx ρ μ Xk → BI X.K E C μ H Xk → t D σ H
def XSs (X : Cx) (E : XK) (C : Value) (st : List Stmt) (tx : DTX) : Prop := ∃ t : TS, PSs X st t ∧ ∀ σ H ρ μ Xk D, St0 X.K H ρ μ σ → tx ρ μ Xk → BI X.K E C μ H Xk → t D σ H
def spX (K : PySem.W.Frag) (C : Value) (dsp : XSp) : Sp := fun vs H _ E => ∃ (ds : List D) (μ : Mu) (Xk : Mu → Prop), bE K μ H ∧ iX K μ H ds vs ∧ dsp ds μ Xk ∧ BI K E C μ H Xk
section
variable {X : Cx} {E : XK} {C : Value} {e : Expr} {es : List Expr} {t : DTA} {te : DTE} {tx ty : DTX} {p pos : Pos} {x : Str} {k : Nat} {f : Addr} {fd : FuncData} {ps : List Str} {dsp : XSp} {st : Stmt} {sts : List Stmt}
def l7 (dsp : XSp) (t : DTA) : DTX := fun ρ μ Xk => t ρ μ fun ds μ1 => dsp ds μ1 Xk
theorem ig (F : bB X.prog X.w X.K X.mg X.base (CX1 X.prog X.w) k f fd ps (spX X.K C dsp)) (hr : eT k X.A) (hg : Gl X x) (hm : X.mg x = some (.ref f)) (hk : PySem.W.keepIn X.K (.ref f) = true) (hb : Binds X.K fd ps []) (hx : XOk X E)
    (ha : DA X (e :: es) t) (hdb : (x == ("__debug__" : Str)) = false := by decide) (he : starEach (e :: es) X.env = (false, eval e X.env) :: starEach es X.env := by rfl) (hpl : (backTo pos (starEach es X.env)).any (·.1) = false := by rfl) :
    XE X E C (.Call (.Name x p) (e :: es) [] pos) (l7 dsp t) := by
  obtain ⟨t1, p1, l1⟩ := ha
  refine ⟨_, C3 F hr hg hm hk hb .nil hx.pas p1 hdb he hpl, fun σ H ρ μ Xk Q S h wsh => ?_⟩
  refine l1 σ H ρ μ _ _ S h fun ds us μ1 H1 e1 S1 rs len h1 => ?_
  exact ⟨ds, μ1, Xk, S1.mu, by rw [List.append_nil]; exact rs, h1, wsh.on e1⟩
theorem CC (h : XE X E C e tx) (hs : swapsWith e none pos.line X.env = pure false := by rfl) : XS X E C (.Expr e pos) tx := by
  obtain ⟨t1, p1, l1⟩ := h
  exact ⟨_, C6 p1 hs, fun σ H ρ μ Xk D S h wsh => l1 σ H ρ μ Xk _ S h wsh⟩
def yA : DTX := fun _ _ _ => False
theorem se : XSs X E C sts yA := ⟨_, xg, fun _ _ _ _ _ _ _ h _ => h.elim⟩
def xIf (tc : DTT) (tx ty : DTX) : DTX := fun ρ μ Xk => tc ρ μ fun b μ1 => if b = true then tx ρ μ1 Xk else ty ρ μ1 Xk
theorem Et {c : Expr} {a b : List Stmt} {tc : DTT} (hc : DT X c tc) (ha : XSs X E C a tx) (hb : XSs X E C b ty) : XS X E C (.If c a b pos) (xIf tc tx ty) := by
  obtain ⟨t0, p0, l0⟩ := hc
  obtain ⟨t1, p1, l1⟩ := ha
  obtain ⟨t2, p2, l2⟩ := hb
  refine ⟨_, Ii p0 p1 p2, fun σ H ρ μ Xk D S h wsh => ?_⟩
  refine l0 σ H ρ μ _ _ S h fun c μ1 H1 e1 S1 h1 => ?_
  cases c with
  | true => exact yf (l1 σ H1 ρ μ1 Xk D S1 (by simpa using h1) (wsh.on e1))
  | false => exact zd (l2 σ H1 ρ μ1 Xk D S1 (by simpa using h1) (wsh.on e1))
theorem gA (h : XS X E C st tx) : XSs X E C (st :: sts) tx := by
  obtain ⟨t1, p1, l1⟩ := h
  exact ⟨_, vv p1 xg, fun σ H ρ μ Xk D S h wsh => l1 σ H ρ μ Xk _ S h wsh⟩
def DN (td : DTS) (tx : DTX) : DTX := fun ρ μ Xk => td { nx := fun ρ' μ' => tx ρ' μ' Xk, rt := fun _ _ => False } ρ μ
theorem pU {td : DTS} (h : DS X st td) (hr : XSs X E C sts tx) : XSs X E C (st :: sts) (DN td tx) := by
  obtain ⟨t1, p1, l1⟩ := h
  obtain ⟨t2, p2, l2⟩ := hr
  refine ⟨_, vv p1 p2, fun σ H ρ μ Xk D S h wsh => ?_⟩
  refine l1 σ H ρ μ _ _ S h (fun σ' ρ' μ' H' e' S' q => ?_) (fun d u μ' H' e' ok r q => q.elim) (fun σ' ρ' μ' H' e' S' q => q.elim) (fun σ' ρ' μ' H' e' S' q => q.elim)
  exact l2 σ' H' ρ' μ' Xk D S' q (wsh.on e')
end
theorem _root_.L2.Fun.okX {P : Program} {w : World} {K : PySem.W.Frag} {mg : Str → Option Value} {base : Heap} {x qual : Str} {st : Stmt} {f : Addr} {fd : FuncData} {N ps : List Str} {k : Nat} {C : Value} {dsp : XSp} (F : Fun K x qual st f fd) (S : aD N ps (au st)) (len : ∀ ds μ Xk, dsp ds μ Xk → ds.length = ps.length)
    (hbody : ∀ (cdv : Value) (A : Around) (outer : List Env) (s : Shared) (H : Hp) (E : XK), eT k (A.deeper (envOfC qual (au st) s.heap.objs.size f cdv)) →
      ∃ tx, XSs (ke (CX1 P w) P w K mg base N qual (au st) f cdv A outer s H E) E C (eY st) tx ∧ ∀ ds μ Xk, dsp ds μ Xk → tx (aI N ds) μ Xk) : bB P w K mg base (CX1 P w) (k + 1) f fd ps (spX K C dsp) := by
  obtain ⟨oc, od, kV, doc, pm, an, cdv, ct, osl, rfl, lk, hcd⟩ := F.ex
  refine Gy lk hcd S (fun vs H Q E h => ?_) fun A outer s H vs Q E hr hsp => ?_
  · obtain ⟨ds, μ, Xk, _, r, h, _⟩ := h
    rw [← r.length]; exact len ds μ Xk h
  · obtain ⟨tx, ⟨t, p, l⟩, q⟩ := hbody cdv A outer s H E hr
    obtain ⟨ds, μ, Xk, ok, r, h, wsh⟩ := hsp
    exact ⟨t, p, l (start N vs) H (aI N ds) μ Xk _ ⟨ok, sv r⟩ (q ds μ Xk h) wsh⟩
open PySem PySem.Spec PyProof.Rows
theorem G8 {K : PySem.W.Frag} {h : Heap} {C : Addr} {bmB : List Value} {newId : String} (X : K.In h) (q : PySem.W.excIn K C bmB newId = true) :
    ∃ bm N nm q bs hdct sn sub ab col dd k0 k1 k2 k3 k5 mN, h.get? C = some (excClassObj nm q C N bs bm hdct sn sub ab col dd k0 k1 k2 k3 k5 newId) ∧ h.Ns N mN ∧ mN "__init__" = none ∧ OwnTail h bmB bm := by
  unfold PySem.W.excIn at q
  split at q; rotate_left; · cases q
  rename_i dd cd sl ho; split at q; rotate_left; · cases q
  rename_i C' bm k0 k1 k2 k3 n k5 hm hs
  simp only [Bool.and_eq_true, beq_iff_eq, Bool.not_eq_true'] at q; obtain ⟨⟨⟨⟨⟨rfl, rfl⟩, hdel⟩, ht⟩, hok⟩, hni⟩ := q
  obtain ⟨nm, bs, mro, ns, qn, hd, sn, sub, ab, col, del⟩ := cd; dsimp only at hm hdel hok hni; subst hm hdel
  obtain rfl : sl = #[k0, k1, k2, k3, some (.builtin n), k5] := by obtain ⟨l⟩ := sl; exact congrArg Array.mk hs
  exact ⟨bm, ns, nm, qn, bs, hd, sn, sub, ab, col, dd, k0, k1, k2, k3, k5, _, X _ _ ho, .of_isNs (PySem.W.isNs_of_in X hok), PySem.W.nsMap_none_of_in X hok hni, PySem.W.tail_of_in X ht⟩
section
variable {X : Cx} {E : XK} {x : Str} {C : Addr}
theorem vD {txt : Str} {j} {np kp cpos pos : Pos} (hx : XOk X E) (hg : Gl X x) (hm : X.mg x = some (.ref C)) (hq : PySem.W.excIn X.K C bmV "ValueError.__new__" = true) (hc : X.calm = true := by rfl) (hdb : (x == ("__debug__" : Str)) = false := by decide)
    (hs : starEach [.Constant (.str txt) j kp] X.env = [(false, eval (.Constant (.str txt) j kp) X.env)] := by rfl) :
    XS X E (.ref C) (.Raise (some (.Call (.Name x np) [.Constant (.str txt) j kp] [] cpos)) none pos) (fun _ μ Xk => Xk μ) := by
  refine ⟨fun D σ H => E (.ref C) none H, fun pins s σ H D I h => ?_, fun σ H ρ μ Xk D S h wsh => wsh μ H .refl S.mu h⟩
  obtain ⟨tl, N, nm, q, bs, hdct, sn, sub, ab, col, dd, k0, k1, k2, k3, k5, mN, hC, hN, hni, T⟩ := G8 I.mod.kin hq
  refine wpAny_Raise_call_subT (C := C) (nm := nm) (q := q) (N := N) (bs := bs) (bm := tl) (hdct := hdct) (sn := sn) (sub := sub) (ab := ab) (col := col) (dd := dd) (k0 := k0) (k1 := k1) (k2 := k2) (k3 := k3) (k5 := k5)
    PySem.F.excBase_ValueError (mN := mN) (T.hasType PySem.F.excBase_ValueError.hasBase) (I.ok.hd hc) (by rw [hs]; rfl) hni (nN I hg hm ⟨rfl, ?_⟩ hdb)
  have pa := ip (X := X) (es := []) (EG (x := txt) (j := j) (pos := kp)) oO (by rw [hs]; rfl) cpos pins s σ H (fun vs H1 => vs.length = 1 ∧ H1 = H) I ⟨rfl, rfl⟩
  rw [hs] at pa ⊢
  refine Calls.evalArgs_plain (thn pa fun us s2 ⟨vs, H1, I1, r, l, e1⟩ => ?_)
  subst e1
  exact ⟨rfl, by rw [← r.length, l]; decide, I1.bk _ _ hC, hN.keeps I1.bk, T.keeps I1.bk, fun h' e hm' => hx.new pins σ H1 s2 e _ _ h' I1 hm' h⟩
end
open PySem PySem.Spec PyProof.Rows
structure rG (K : PySem.W.Frag) (C : Addr) : Prop where
  ga : PySem.W.findIn K (.ref C) "__getattribute__" = some (some (.builtin "BaseException.__getattribute__"))
  gx : PySem.W.findIn K (.ref C) "__getattr__" = some none
  cl : PySem.W.findIn K (.ref C) "__class__" = some (some (.builtin "object.__class__"))
  ob : PySem.W.mroIn K C (.type "object") = some true
  be : PySem.W.mroIn K C (.type "BaseException") = some true
  ci : (PySem.W.clsIn K C).isSome = true
section
variable {prog : Program} {w : World} {A : Around} {E : Value → Shared → Prop} {h : Heap} {g : Array GenState} {d : Drawn} {t : Nat} {os : OsState} {a C : Addr} {o : Obj} {K : PySem.W.Frag}
theorem Ha {R : Result → Shared → Prop} (X : K.In h) (Z : rG K C) (hx : h.get? a = some o) (hc : o.cls = .ref C) (hq : R (.ok (.ret (.ref C))) ⟨h, g, d, t, os⟩) :
    codeAny (model prog w) A (.call (.builtin "getset_descriptor.__get__") ⟨[.builtin "object.__class__", .ref a, .ref C], []⟩) R ⟨h, g, d, t, os⟩ := by
  have hT5 : (⟨h, g, d, t, os⟩ : Shared).TypeIs (.builtin "object.__class__") "getset_descriptor" := F.typeOf_object_class
  have sub : ∀ {A' : Around} {Q' : Bool → Shared → Prop} {E' : Value → Shared → Prop} {g' d' t' os'}, Q' true ⟨h, g', d', t', os'⟩ → wpAny (model prog w) A' (isSubtype (.ref C) (.type (".".intercalate ("object.__class__".cutAt '.').dropLast))) Q' E' ⟨h, g', d', t', os'⟩ := fun q => by
    rw [F.owner_object_class]; exact (PySem.W.looks_mroIn X Z.ob).here q
  refine codeAny_call_builtin F.slot_gs_get.plain F.entry_gs_get (F.slot_gs_get.check _ _ _ _ _ _ _ _ hT5 (F.args_gs_get _ _ _) ?_)
  repeat (any_goals (first | assumption | (with_reducible refine wpAny_loadPart_at hx ?_; rw [hc]) | with_reducible refine sub ?_ | wp_step))
  refine ⟨Code.quiet_builtin _ (by decide +kernel), codeAny_builtin F.entry_object_class ?_⟩
  repeat (any_goals (first | assumption | (with_reducible refine wpAny_loadPart_at hx ?_; rw [hc]) | wp_step))
theorem D9 {tk : Tok} {Q : Fin → Shared → Prop} (X : K.In h) (Z : rG K C) (hx : h.get? a = some o) (hc : o.cls = .ref C) (hq : Q (.done (.ret (.ref C))) ⟨h, g, d, t, os⟩) :
    wpAny (model prog w) A (Builtin.«object.__getattribute__» ⟨[.ref a, .str "__class__" tk], []⟩) Q E ⟨h, g, d, t, os⟩ := by
  have hT5 : (⟨h, g, d, t, os⟩ : Shared).TypeIs (.builtin "object.__class__") "getset_descriptor" := F.typeOf_object_class
  have f5 := F.typeOf_object_class; have f6 := F.slot_gs_get.lookup; have f7 := F.slot_gs_set.lookup
  have lk : ∀ {A' : Around} {Q' : Option Value → Shared → Prop} {E' : Value → Shared → Prop} {g' d' t' os'}, Q' (some (.builtin "object.__class__")) ⟨h, g', d', t', os'⟩ → wpAny (model prog w) A' (typeLookup (.ref C) "__class__") Q' E' ⟨h, g', d', t', os'⟩ := fun q => (PySem.W.looks_findIn X Z.cl).here q
  repeat (any_goals (first | assumption | (with_reducible refine wpAny_loadPart_at hx ?_; rw [hc]) | with_reducible refine lk ?_ | wp_step))
  refine Ha X Z hx hc ?_
  repeat (any_goals (first | assumption | wp_step))
theorem DQ {nv : Value} {Q : Unit → Shared → Prop} (X : K.In h) (Z : rG K C) (hx : h.get? a = some o) (hc : o.cls = .ref C) (hq : Q () ⟨h, g, d, t, os⟩) : wpAny (model prog w) A (checkBuiltinCall "BaseException.__getattribute__" ⟨[.ref a, nv], []⟩) Q E ⟨h, g, d, t, os⟩ := by
  have hk : builtinKind "BaseException.__getattribute__" = some .slot := by decide +kernel
  have hsp : splitId "BaseException.__getattribute__" = some ("BaseException", "__getattribute__") := by decide +kernel
  have ha := F.args_bexc_ga (.ref a) nv
  have sub : ∀ {A' : Around} {Q' : Bool → Shared → Prop} {E' : Value → Shared → Prop} {g' d' t' os'}, Q' true ⟨h, g', d', t', os'⟩ → wpAny (model prog w) A' (isSubtype (.ref C) (.type "BaseException")) Q' E' ⟨h, g', d', t', os'⟩ := fun q => (PySem.W.looks_mroIn X Z.be).here q
  simp only [checkBuiltinCall, hk, hsp]
  refine wpAny_bind ?_
  unfold isInstance
  repeat (first | (with_reducible refine wpAny_loadPart_at hx ?_; rw [hc]) | with_reducible refine sub ?_ | wp_step)
  exact hq
theorem Gi {tk : Tok} {R : Result → Shared → Prop} (X : K.In h) (Z : rG K C) (hx : h.get? a = some o) (hc : o.cls = .ref C) (hq : R (.ok (.ret (.ref C))) ⟨h, g, d, t, os⟩) :
    codeAny (model prog w) A (.call (.builtin "BaseException.__getattribute__") ⟨[.ref a, .str "__class__" tk], []⟩) R ⟨h, g, d, t, os⟩ :=
  codeAny_call_builtin F.attr_ValueError.ga.plain F.entry_bexc_ga (DQ X Z hx hc (D9 X Z hx hc hq))
theorem Ks {tk : Tok} {Q : Value → Shared → Prop} (X : K.In h) (Z : rG K C) (hx : h.get? a = some o) (hc : o.cls = .ref C) (hq : Q (.ref C) ⟨h, g, d, t, os⟩) : wpAny (model prog w) A (getAttrBy (.ref a) (.str "__class__" tk) false) Q E ⟨h, g, d, t, os⟩ := by
  have f3 := F.attr_ValueError.ga.bind (.ref a)
  have hx2 : (Value.builtin "BaseException.__getattribute__" == Value.builtin "object.__getattribute__") = false := by decide +kernel
  have hx1 : (onTheHeap (Value.ref C) && Value.builtin "BaseException.__getattribute__" == Value.builtin "object.__getattribute__") = false := by rw [hx2]; rfl
  have lk : ∀ {A' : Around} {Q' : Option Value → Shared → Prop} {E' : Value → Shared → Prop} {g' d' t' os'}, Q' (some (.builtin "BaseException.__getattribute__")) ⟨h, g', d', t', os'⟩ → wpAny (model prog w) A' (typeLookup (.ref C) "__getattribute__") Q' E' ⟨h, g', d', t', os'⟩ := fun q => (PySem.W.looks_findIn X Z.ga).here q
  have lx : ∀ {A' : Around} {Q' : Option Value → Shared → Prop} {E' : Value → Shared → Prop} {g' d' t' os'}, Q' none ⟨h, g', d', t', os'⟩ → wpAny (model prog w) A' (typeLookup (.ref C) "__getattr__") Q' E' ⟨h, g', d', t', os'⟩ := fun q => (PySem.W.looks_findIn X Z.gx).here q
  repeat (any_goals (first | assumption | (with_reducible refine wpAny_loadPart_at hx ?_; rw [hc]) | with_reducible refine lk ?_ | with_reducible refine lx ?_ | wp_step))
  refine Gi X Z hx hc ?_
  repeat (any_goals (first | assumption | wp_step))
theorem Gv {Q : Option Value → Shared → Prop} (X : K.In h) (Z : rG K C) (hx : h.get? a = some o) (hc : o.cls = .ref C) (hq : Q (some (.ref C)) ⟨h, g, d, t + 1, os⟩) : wpAny (model prog w) A (getAttr? (.ref a) "__class__") Q E ⟨h, g, d, t, os⟩ := by
  unfold getAttr? getAttrBy?
  repeat (any_goals (first | assumption | with_reducible apply Ks X Z hx hc | wp_step))
theorem EM (Z : rG K C) : PySem.W.KitX K (.ref a) (.ref C) (fun h => ∃ o, h.get? a = some o ∧ o.cls = .ref C) where
  ty := fun M h X ⟨o, e, c⟩ => by
    intro A' Q' E' s' k q
    unfold typeOf
    refine wpAny_bind (wpAny_loadPart (k _ _ e) ?_)
    rw [c]
    exact wpAny_pure q
  it := fun M h X _ => by
    have z := Z.ci
    unfold PySem.W.clsIn at z
    split at z
    · rename_i ho
      intro A' Q' E' s' k q
      unfold isType loadHead
      exact wpAny_bind (wpAny_loadPart (k _ _ (X _ _ ho)) (wpAny_pure q))
    · cases z
  ne := fun h tp dd its n sl X htp => by
    refine Bool.eq_false_iff.mpr fun q => ?_
    obtain rfl : C = tp := Value.ref.inj (beq_iff_eq.mp q)
    have z := Z.ci
    unfold PySem.W.clsIn at z
    split at z
    · rename_i ho; have z' := (X _ _ ho).symm.trans htp; cases z'
    · cases z
  ca := fun {_ _ _ _ _ s} X ⟨o, e, c⟩ k => by obtain ⟨h, g, d, t, os⟩ := s; exact Gv X Z e c k
end
open PySem PySem.Spec PyProof.Rows
theorem CL {K : PySem.W.Frag} {h : Heap} {c P : Addr} {o : Obj} {q : Str} (X : K.In h) (l : K.lookup c = some o) (e : bq o = some (P, q)) (ne : c ≠ P) : PySem.W.CodeHd h c P := by
  have ho := X _ _ l
  unfold bq at e
  split at e
  · rename_i cn vs hcls hd
    split at e
    · rename_i hcn
      subst hcn
      split at e
      · rename_i q' t' f1 f2 f3 f4 f5 f6 P' f7 f8 e1 e7 e9 e10 e11 e18
        split at e
        · cases e
          refine ⟨o, vs, f7, f8, f2, f3, f4, f5, f6, ho, hcls, hd, e11, ?_, ?_, ?_, ?_, ?_, ne⟩
          · rw [Array.getD_eq_getD_getElem?, e11]; rfl
          · rw [Array.getD_eq_getD_getElem?, e18]; rfl
          · rw [Array.getD_eq_getD_getElem?, e7]; rfl
          · rw [Array.getD_eq_getD_getElem?, e9]; rfl
          · rw [Array.getD_eq_getD_getElem?, e10]; rfl
        · cases e
      · cases e
    · cases e
  · cases e
def Hf (K : PySem.W.Frag) (mg : Str → Option Value) : Prop := ∃ bm ob, mg "__builtins__" = some (.ref bm) ∧ bm ≠ builtinsNs ∧ K.lookup bm = some ob ∧ ob.cls = .type "module" ∧ ob.dict = some builtinsNs ∧ ob.data = .plain
theorem D3 {pos : Pos} {w : Value} {l3 : List Value} : ∀ {l : List Value}, TriplesOk l → codeAmong pos l = some w → codeAmong pos (l ++ l3) = some w := by
  intro l
  fun_induction TriplesOk l with
  | case1 => intro _ e; simp [codeAmong] at e
  | case2 a t b u x rest ih =>
    intro h e
    simp only [List.cons_append, codeAmong] at e ⊢
    split at e
    · rename_i hc; rw [if_pos hc]; exact e
    · rename_i hc; rw [if_neg hc]; exact ih h e
  | case3 l h1 h2 => intro h; exact h.elim
theorem Dn {pos lpos : Pos} {cv : Value} {c : Value} : ∀ {l : List Value}, TriplesOk l → codeAmong pos l = none → codeAmong pos (l ++ [rawInt lpos.line, rawInt lpos.col, c]) = some cv → cv = c := by
  intro l
  fun_induction TriplesOk l with
  | case1 =>
    intro _ _ e
    simp only [List.nil_append, codeAmong, rawInt] at e
    split at e
    · exact (Option.some.inj e).symm
    · cases e
  | case2 a t b u x rest ih =>
    intro h n e
    simp only [List.cons_append, codeAmong] at n e
    split at n
    · cases n
    · rename_i hc; rw [if_neg hc] at e; exact ih h n e
  | case3 l h1 h2 => intro h; exact h.elim
section
variable {X : Cx} {pins : List (Addr × Obj)} {σ : St} {H : Hp} {s : Shared}
theorem wX {P c' : Addr} {ps : Array Value} {l3 : List Value} {h' : Heap} {tk : Nat} {φ : Heap → Prop} (I : Inv X pins σ H s) (hP : H P = some (.tbl ps)) (hx : Heap.ExtBut P s.heap h') (ht : h'.get? P = some (PySem.W.tabObj (ps ++ l3.toArray))) (hc : s.heap.objs.size ≤ c') (hφ : φ h') (hc' : ∃ o, h'.get? c' = some o) (hst : ∀ h1 h2 : Heap, φ h1 → (∀ o, h1.get? c' = some o → h2.get? c' = some o) → φ h2) :
    Inv X pins σ (upd (upd H P (.tbl (ps ++ l3.toArray))) c' (.ext φ)) { s with heap := h', toks := tk } := by
  have fc : H c' = none := I.hok.fresh hc
  have nPc : P ≠ c' := aG hP fc
  have low : ∀ b o, s.heap.get? b = some o → b ≠ c' := fun b o e z => absurd (Heap.lt_size e) (by rw [z]; exact Nat.not_lt.mpr hc)
  have old : ∀ b, b ≠ P → b ≠ c' → upd (upd H P (.tbl (ps ++ l3.toArray))) c' (.ext φ) b = H b := fun b h1 h2 => by rw [aZ h2, aZ h1]
  have atP : upd (upd H P (.tbl (ps ++ l3.toArray))) c' (.ext φ) P = some (.tbl (ps ++ l3.toArray)) := by rw [aZ nPc]; exact bU
  refine I.un (t' := tk) ⟨fun b o e n _ _ => hx b o (fun z => by rw [z, hP] at n; cases n) e, fun b o e n _ _ => ⟨o.slots, hx b o (fun z => by rw [z, hP] at n; cases n) e⟩, fun b o e n _ => ?_, fun b o e _ => ?_, fun b xs e => ?_, fun b o u e => ?_, fun b qs e => ?_⟩ fun b o e => ?_
  · rw [old b (fun z => by rw [z, hP] at n; cases n) (low b o e)]; exact n
  · by_cases z : b = P
    · exact ⟨_, by rw [z]; exact ht⟩
    · exact ⟨o, hx b o z e⟩
  · rw [old b (fun z => by rw [z, hP] at e; cases e) (aG e fc)]; exact e
  · rw [old b (fun z => by rw [z, hP] at e; cases e) (aG e fc)]; exact e
  · by_cases z : b = P
    · rw [z] at e; rw [hP] at e; cases e
      exact ⟨l3.toArray, by rw [z]; exact atP⟩
    · exact ⟨#[], by rw [old b z (aG e fc)]; simpa using e⟩
  · by_cases zc : b = c'
    · subst zc
      rw [bU] at e; cases e
      exact ⟨hφ, hc', hst⟩
    · by_cases z : b = P
      · subst z
        rw [atP] at e; cases e
        exact ht
      · rw [old b z zc] at e
        refine (I.hok b o e).u0 (fun d u hd q => hx d u ?_ q) (fun d q => ?_) fun d xs q => ?_
        · rcases hd with rfl | hd
          · exact z
          · exact fun y => by rw [y, hP] at hd; cases hd
        · rw [old d (fun y => by rw [y, hP] at q; cases q) (aG q fc)]; exact q
        · rw [old d (fun y => by rw [y, hP] at q; cases q) (aG q fc)]; exact q
theorem As {K : PySem.W.Frag} {P c' : Addr} {ps : Array Value} {q : Str} {lpos : Pos} (t : wz K H) (hP : H P = some (.tbl ps)) (htr : TriplesOk ps.toList) (hcs : ∀ pos cv, codeAmong pos ps.toList = some cv → ∃ c, cv = .ref c ∧ H c = some (.ext (codeAt c (aN q)))) (hf : codeAmong lpos ps.toList = none) (fc : H c' = none)
    (hu : ∀ c2 o2 q2, K.lookup c2 = some o2 → bq o2 = some (P, q2) → q2 = q) :
    wz K (upd (upd H P (.tbl (ps ++ [rawInt lpos.line, rawInt lpos.col, .ref c'].toArray))) c' (.ext (codeAt c' (aN q)))) := fun c2 o2 P2 q2 l2 e2 => by
  have nPc : P ≠ c' := aG hP fc
  have old : ∀ b, b ≠ P → b ≠ c' → upd (upd H P (.tbl (ps ++ [rawInt lpos.line, rawInt lpos.col, .ref c'].toArray))) c' (.ext (codeAt c' (aN q))) b = H b := fun b h1 h2 => by rw [aZ h2, aZ h1]
  have cold : ∀ c qq, H c = some (.ext (codeAt c qq)) → upd (upd H P (.tbl (ps ++ [rawInt lpos.line, rawInt lpos.col, .ref c'].toArray))) c' (.ext (codeAt c' (aN q))) c = some (.ext (codeAt c qq)) := fun c qq h => by rw [old c (fun z => by rw [z, hP] at h; cases h) (aG h fc)]; exact h
  by_cases z : P2 = P
  · subst z
    obtain rfl := hu c2 o2 q2 l2 e2
    refine ⟨_, by rw [aZ nPc]; exact bU, by rw [Array.toList_append]; exact TriplesOk_snoc _ _ _ _ htr, fun pos cv e => ?_⟩
    rw [Array.toList_append] at e
    cases hp : codeAmong pos ps.toList with
    | some w =>
      obtain ⟨c, hw, hc⟩ := hcs pos w hp
      have : codeAmong pos (ps.toList ++ [rawInt lpos.line, rawInt lpos.col, .ref c']) = some w := D3 htr hp
      have e' : some w = some cv := this.symm.trans e
      cases e'
      exact ⟨c, hw, cold c _ hc⟩
    | none =>
      have := Dn htr hp (show codeAmong pos (ps.toList ++ [rawInt lpos.line, rawInt lpos.col, .ref c']) = some cv from e)
      exact ⟨c', this, bU⟩
  · obtain ⟨qs, a1, a2, a3⟩ := t c2 o2 P2 q2 l2 e2
    exact ⟨qs, by rw [old P2 z (aG a1 fc)]; exact a1, a2, fun pos cv e => let ⟨c, w1, w2⟩ := a3 pos cv e; ⟨c, w1, cold c _ w2⟩⟩
theorem JC {μ : Mu} {params : Arguments} {body : Expr} {lsc : Scope} {lpos : Pos} {cl : List (Str × Addr)} {c P : Addr} {o : Obj} {q : Str} {Qd : Value → Shared → Prop} (I : Inv X pins σ H s) (ok : bE X.K μ H) (hcode : X.env.code = .ref c) (hl : X.K.lookup c = some o)
    (hlc : bq o = some (P, q)) (hu : ∀ c2 o2 q2, X.K.lookup c2 = some o2 → bq o2 = some (P, q2) → q2 = q) (hq : X.env.qual = q ++ ".<locals>.") (hB : Hf X.K X.mg) (hcl : closureFor lsc X.env = pure cl) (hdef : defaultsOf params X.env = ([], []))
    (k : ∀ (fa c1 : Addr) (ctv pm : Value) (H1 : Hp) (s1 : Shared), Inv X pins σ H1 s1 → Ext X.K μ H μ H1 → bE X.K μ H1 → s1.heap.get? fa = some { cls := .type "function", data := .func (PySem.W.kla_fn "<lambda>" (aN q) params body lsc cl pm (.ref c1) ctv) } → H1 fa = none → fa ∉ frs X.stack → H1 c1 = some (.ext (codeAt c1 (aN q))) → Qd (.ref fa) s1) :
    wpAny (model X.prog X.w) X.A (eval (.Lambda params body lsc lpos) X.env) Qd X.xe s := by
  refine PySem.W.kla_eval hdef ?_
  rw [hq]
  obtain ⟨ps, hP, htr, hcs⟩ := ok.tab c o P q hl hlc
  have getP : s.heap.get? P = some (PySem.W.tabObj ps) := I.hok P _ hP
  have nK : ∀ b ob, X.K.lookup b = some ob → b ≠ P := fun b ob e z => by
    have := (I.bs b ob (I.mod.kin b ob e)).2
    rw [z, hP] at this; cases this
  have C := CL I.kIn hl hlc (nK c o hl)
  have hg : s.heap.Ns mainGlobals X.mg := I.mod.glob.keeps I.bk
  have hgP : mainGlobals ≠ P := fun z => by
    obtain ⟨og, es, ep, e, d, _⟩ := hg
    rw [z, getP] at e; cases e; cases d
  have hb : s.heap.BuiltinsAt X.mg P := by
    obtain ⟨bm, ob, b1, b2, b3, b4, b5, b6⟩ := hB
    refine ⟨bm, ob, b1, b2, fun z => ?_, nK bm ob b3, I.kIn _ _ b3, b4, b5, b6⟩
    obtain ⟨og, es, ep, e, d, _⟩ := hg
    rw [← z, I.kIn _ _ b3] at e; cases e; rw [b6] at d; cases d
  have stk : ∀ b, s.heap.objs.size ≤ b → b ∉ frs X.stack := fun b hb hm => by
    obtain ⟨_, ob, e, _⟩ := I.stack.mem hm
    exact absurd (Heap.lt_size e) (Nat.not_lt.mpr hb)
  cases hf : codeAmong lpos ps.toList with
  | some cv =>
    obtain ⟨c1, rfl, hc1⟩ := hcs lpos cv hf
    refine PySem.W.kla_makeFunctionHit hcl I.ok.glob hg hcode C getP htr hf hb fun ctv h' tk hk hsz => ?_
    have I2 : Inv X pins σ H { s with heap := h'.push { cls := .type "function", data := .func (PySem.W.kla_fn "<lambda>" (aN q) params body lsc cl ((X.mg "__name__").getD .none) (.ref c1) ctv) }, toks := tk } := I.kept (t' := tk) fun b u e => Heap.get?_push_of_some _ (hk b u e)
    exact k h'.objs.size c1 ctv _ H _ I2 .refl ok (Heap.get?_push_size _ rfl) (I.hok.fresh hsz) (stk _ hsz) hc1
  | none =>
    refine PySem.W.kla_makeFunction hcl I.ok.glob hg hcode C getP htr hf hgP hb fun c' ctv h' tk hx hge hlt hrec htb => ?_
    have hca : codeAt c' (aN q) h' := by
      obtain ⟨c2, oc, vs, t, e2, g2, d2, v2⟩ := hrec
      cases e2
      exact ⟨oc, vs, t, g2, d2, v2⟩
    have fc : H c' = none := I.hok.fresh hge
    have I1 : Inv X pins σ (upd (upd H P (.tbl (ps ++ [rawInt lpos.line, rawInt lpos.col, .ref c'].toArray))) c' (.ext (codeAt c' (aN q)))) { s with heap := h', toks := tk } := wX (φ := codeAt c' (aN q)) I hP hx htb hge hca (let ⟨oc, _, _, g2, _⟩ := hca; ⟨oc, g2⟩) (fun h1 h2 ⟨oc, vs, t, g2, d2, v2⟩ kk => ⟨oc, vs, t, kk _ g2, d2, v2⟩)
    have I2 : Inv X pins σ (upd (upd H P (.tbl (ps ++ [rawInt lpos.line, rawInt lpos.col, .ref c'].toArray))) c' (.ext (codeAt c' (aN q)))) { s with heap := h'.push { cls := .type "function", data := .func (PySem.W.kla_fn "<lambda>" (aN q) params body lsc cl ((X.mg "__name__").getD .none) (.ref c') ctv) }, toks := tk } := I1.kept (t' := tk) fun b u e => Heap.get?_push_of_some _ e
    have old : ∀ b, b ≠ P → b ≠ c' → upd (upd H P (.tbl (ps ++ [rawInt lpos.line, rawInt lpos.col, .ref c'].toArray))) c' (.ext (codeAt c' (aN q))) b = H b := fun b h1 h2 => by rw [aZ h2, aZ h1]
    have nPc : P ≠ c' := aG hP fc
    have ex : Ext X.K μ H μ (upd (upd H P (.tbl (ps ++ [rawInt lpos.line, rawInt lpos.col, .ref c'].toArray))) c' (.ext (codeAt c' (aN q)))) := ⟨fun b u e n nt => by rw [old b (fun z => by rw [z, hP] at e; cases e; exact nt) (aG e fc)]; exact e, fun b qs e n => by
      by_cases z : b = P
      · exact ⟨_, by rw [z, aZ nPc]; exact bU⟩
      · exact ⟨qs, by rw [old b z (aG e fc)]; exact e⟩, fun _ ds e => ⟨ds, e⟩, fun _ e _ => e⟩
    have mu : bE X.K μ (upd (upd H P (.tbl (ps ++ [rawInt lpos.line, rawInt lpos.col, .ref c'].toArray))) c' (.ext (codeAt c' (aN q)))) := ⟨fun a ds e => by
      obtain ⟨xs, h1, h2⟩ := ok a ds e
      exact ⟨xs, by rw [old a (fun z => by rw [z, hP] at h1; cases h1) (aG h1 fc)]; exact h1, h2.ext ok ex⟩, As ok.tab hP htr hcs hf fc hu⟩
    have hfr : s.heap.objs.size ≤ h'.objs.size := Nat.le_trans hge (Nat.le_of_lt hlt)
    refine k h'.objs.size c' ctv _ _ _ I2 ex mu (Heap.get?_push_size _ rfl) ?_ (stk _ hfr) bU
    have : h'.objs.size ≠ c' := Nat.ne_of_gt hlt
    by_cases z : h'.objs.size = P
    · exact absurd (Heap.lt_size getP) (by rw [← z]; exact Nat.not_lt.mpr hfr)
    · rw [old _ z this]; exact I.hok.fresh hfr
end
open PySem PySem.Spec PyProof.Rows
def rA (lsc : Scope) (cl : List (Str × Addr)) (q : Str) (fa c1 L : Addr) : Env := { scope := lsc, locals := L, globals := mainGlobals, cells := cl, qual := q ++ ".<locals>.", func := some fa, code := .ref c1, frame := some L, builtins := builtinsNs }
def lZ (P : Program) (w : World) (K : PySem.W.Frag) (mg : Str → Option Value) (base : Heap) (N : List Str) (lsc : Scope) (cl : List (Str × Addr)) (q : Str) (fa c1 : Addr) (A : Around) (outer : List Env) (s : Shared) (H : Hp) (E : XK) : Cx where
  prog := P
  w := w
  K := K
  mg := mg
  base := base
  A := A.deeper (rA lsc cl q fa c1 s.heap.objs.size)
  N := N
  s₀ := s
  H₀ := H
  env := rA lsc cl q fa c1 s.heap.objs.size
  outer := outer
  stack := rA lsc cl q fa c1 s.heap.objs.size :: outer
  ex := []
  calm := true
  fn := fun _ => false
  pn := []
  xe := fun e s' => wpAny (model P w) (A.deeper (rA lsc cl q fa c1 s.heap.objs.size)) (leaving (rA lsc cl q fa c1 s.heap.objs.size) e) (fun _ s'' => CX1 P w outer H s E e s'') (fun e' s'' => CX1 P w outer H s E e' s'') s'
section
variable {P : Program} {w : World} {K : PySem.W.Frag} {mg : Str → Option Value} {base : Heap} {N : List Str} {lsc : Scope} {cl : List (Str × Addr)} {q : Str} {fa c1 : Addr} {A : Around} {outer : List Env} {s : Shared} {H : Hp} {E : XK} {σ : St} {k : Nat} {params : Arguments} {body : Expr} {pm ctv : Value} {t : TE}
theorem lC : XOk (lZ P w K mg base N lsc cl q fa c1 A outer s H E) E where
  new := fun pins σ H1 s1 ea cls vs h1 I hx qq => leave_new (X := lZ P w K mg base N lsc cl q fa c1 A outer s H E) ⟨rfl, rfl, rfl⟩ I hx qq
  pas := fun pins σ H1 s1 e s' I h => wI (X := lZ P w K mg base N lsc cl q fa c1 A outer s H E) ⟨rfl, rfl, rfl⟩ I h
structure Clo (lsc : Scope) (cl : List (Str × Addr)) (N : List Str) (σ : St) (h : Heap) (H : Hp) : Prop where
  cell : ∀ x c, cl.lookup x = some c → ∃ v, h.IsCell c v
  free : ∀ x c, cl.lookup x = some c → H c = none
  inj : ∀ x y c, cl.lookup x = some c → cl.lookup y = some c → x = y
  has : ∀ x, lsc.names.lookup x = some .cell ∨ lsc.names.lookup x = some .free → ∃ a, cl.lookup x = some a
  vals : ∀ (i : Nat) (x : Str) (v : V), N[i]? = some x → σ[i]? = some (some v) → Vis lsc x → ∃ u c, RelV v u ∧ lsc.names.lookup x = some .free ∧ cl.lookup x = some c ∧ h.IsCell c (some u)
  len : σ.length = N.length
theorem Aq {Q : VK} (hk : lsc.kind = .function) (hco : lsc.isCoroutine = false) (hgen : lsc.isGenerator = false) (hcell : ∀ y ∈ lsc.names, y.2 ≠ .cell) (hr : eT (k + 1) A) (e0 : zH P w K mg base A outer s H)
    (ho : s.heap.get? fa = some { cls := .type "function", data := .func (PySem.W.kla_fn "<lambda>" q params body lsc cl pm (.ref c1) ctv) }) (hcd : H c1 = some (.ext (codeAt c1 q))) (hbind : bindArgs (PySem.W.kla_fn "<lambda>" q params body lsc cl pm (.ref c1) ctv) ⟨[], []⟩ = pure [])
    (C : Clo lsc cl N σ s.heap H) (pe : PE (lZ P w K mg base N lsc cl q fa c1 A outer s H E) body t) (ht : t σ H Q) :
    codeAny (model P w) A (.call (.ref fa) ⟨[], []⟩) (CR (CX1 P w) outer P w H s Q E) s := by
  have crec : s.heap.CodeRec (.ref c1) q := by
    obtain ⟨⟨o, vs, t, g, d, v⟩, _, _⟩ := e0.hok c1 _ hcd
    exact ⟨c1, o, vs, t, rfl, g, d, v⟩
  refine PySem.W.kla_callFunE hr.depth ho rfl hco hgen rfl crec ?_
  rw [hbind]
  refine wpAny_pure (wpAny_newFunctionEnv hcell (fun y hy => nomatch hy) (fun h₁ hns hsb => ?_) hk)
  have hk₁ : ∀ b o, s.heap.get? b = some o → h₁.get? b = some o := fun b o e => hsb.extBut b o (Nat.ne_of_lt (Heap.lt_size e)) (Heap.get?_push_of_some _ e)
  have lim : h₁.NoLimit := e0.mod.nolimit.keeps fun b o e => hk₁ b o (e0.bs b o e).1
  refine ⟨lim, ?_⟩
  have noA : ∀ b : Addr, b ∉ (lZ P w K mg base N lsc cl q fa c1 A outer s H E).ex := fun b z => nomatch z
  have I : Inv (lZ P w K mg base N lsc cl q fa c1 A outer s H E) [] σ H { s with heap := h₁, toks := s.toks + ([] : List (Str × Value)).length } := by
    refine ⟨⟨e0.mod, hk, rfl, rfl, Nat.le_refl _, C.inj, C.has, fun _ _ z => (nomatch z), fun _ => hr.hd, .inl hr.hd, Around.frames_deeper e0.frames, .inr ⟨rfl, rfl⟩, fun b z => absurd z (noA b), e0.bs, e0.bsz, fun b _ _ => noA b, fun b z => absurd z (noA b), e0.oY, e0.frf⟩,
      rfl, e0.bare, Un.kept hk₁, ⟨_, hns, fun i x v h1 h2 h3 => ?_⟩, fun x c h => ?_, e0.hok.fresh (Nat.le_refl _), C.free, fun p hp => (nomatch hp), e0.hok.kept hk₁, C.len⟩
    · obtain ⟨u, c, r, f1, f2, o, f3, f4⟩ := C.vals i x v h1 h2 h3
      exact ⟨u, r, .inr ⟨.inr f1, c, f2, o, hk₁ _ _ f3, f4⟩⟩
    · obtain ⟨v, o, f3, f4⟩ := C.cell x c h
      exact ⟨v, o, hk₁ _ _ f3, f4⟩
  show codeAny _ _ (.expr body (rA lsc cl q fa c1 s.heap.objs.size)) _ _
  refine PySem.W.kla_codeExpr (wpAny_mono (pe [] _ σ H Q I ht) (fun v s' hv => ?_) fun e s' hs => hs)
  obtain ⟨x, H', J, r, qq⟩ := hv
  exact ⟨x, H', J.os, J.bare, J.base, J.hok, r, qq⟩
end
open PySem PySem.Spec PyProof.Rows
def cxH (X : Cx) (ea : Addr) (oe : Obj) : Cx := { X with A := X.A.mark (some (.ref ea)), calm := false, pn := (ea, oe) :: X.pn, xe := fun _ _ => False }
section
variable {X : Cx} {pins : List (Addr × Obj)} {σ : St} {H : Hp} {s : Shared} {O : Addr → Prop} {ea : Addr} {oe : Obj} {vs : Array Value}
theorem yE {h' : Heap} (hF : Frm X) (I : Inv X pins σ H s) (k : Kp O (frs (X.env :: X.outer)) s.heap h') (hO : ∀ b o, X.s₀.heap.get? b = some o → O b) (ht : ∀ b, H b ≠ none → O b) (hp : ∀ p ∈ X.pn ++ pins, O p.1) : Inv X pins σ H { s with heap := h' } := by
  have cellK : ∀ c v, s.heap.IsCell c v → h'.IsCell c v := fun c v ⟨o, e, d⟩ => by
    obtain ⟨sl, e'⟩ := k.slot c o e fun vs z => by rw [d] at z; cases z
    exact ⟨_, e', d⟩
  refine ⟨I.ok, I.os, I.bare, ?_, ?_, fun x c e => let ⟨v, q⟩ := I.cell x c e; ⟨v, cellK c v q⟩, I.free, I.gI, fun p hp' => ?_, HOk.fly I.hok k ht (zV hF I), I.len⟩
  · have k' := k
    rw [qj hF] at k'
    have u := I.base
    rw [hF.ex] at u ⊢
    exact Un.fly u k' hO (Ct I) (yQ I)
  · obtain ⟨m, ⟨o, es, ep, e, d, r⟩, hl⟩ := I.loc
    obtain ⟨sl, e'⟩ := k.slot _ o e fun vs z => by rw [d] at z; cases z
    refine ⟨m, ⟨_, es, ep, e', d, r⟩, fun i x v h1 h2 h3 => ?_⟩
    obtain ⟨u, ru, lk⟩ := hl i x v h1 h2 h3
    refine ⟨u, ru, ?_⟩
    rcases lk with z | ⟨z, c, z1, z2⟩
    · exact .inl z
    · exact .inr ⟨z, c, z1, cellK _ _ z2⟩
  · obtain ⟨a1, a2, a3, a4, a5⟩ := I.pin p hp'
    exact ⟨k.keep _ _ a1 (hp p hp') fun z => by
      rw [qj hF] at z
      rcases List.mem_cons.mp z with z | z
      · exact a3 z
      · exact a4 z, a2, a3, a4, a5⟩
theorem Lo (I : Inv X pins σ H s) (he : s.heap.get? ea = some oe) (hH : H ea = none) (hL : ea ≠ X.env.locals) (hfs : ea ∉ X.fs) (hd : oe.data = .fields vs) (h2 : vs[2]? = some .none) : Inv (cxH X ea oe) pins σ H s :=
  ⟨⟨I.ok.mod, I.ok.kind, I.ok.glob, I.ok.blt, I.ok.above, I.ok.inj, I.ok.has, I.ok.cab, fun z => (nomatch z), .inr ⟨ea, oe, vs, rfl, List.mem_cons_self, hd, h2⟩, I.ok.frames, I.ok.stk, I.ok.exf, I.ok.bs, I.ok.bsz, I.ok.B8, I.ok.Gn, I.ok.oY, I.ok.frf⟩,
    I.os, I.bare, I.base, I.loc, I.cell, I.free, I.gI, fun p hp => by
      rcases List.mem_cons.mp (show p ∈ (ea, oe) :: (X.pn ++ pins) from hp) with z | z
      · rw [z]; exact ⟨he, hH, hL, hfs, fun v y => by rw [hd] at y; cases y⟩
      · exact I.pin p z, I.hok, I.len⟩
theorem Gb {h' : Heap} {m' : Str → Option Value} {tk : Nat} (ok : X.Ok) (I : Inv (cxH X ea oe) pins σ H s) (hn : h'.Ns X.env.locals m') (hs : Heap.SameBut X.env.locals s.heap h') (hx : X.ex = []) : Inv X pins (List.replicate X.N.length none) H { s with heap := h', toks := tk } := by
  have kp : ∀ b o, b ≠ X.env.locals → s.heap.get? b = some o → h'.get? b = some o := fun b o hb e => (hs.2 b hb).trans e
  have low : ∀ b o, X.s₀.heap.get? b = some o → b ≠ X.env.locals := fun b o e => Nat.ne_of_lt (Nat.lt_of_lt_of_le (Heap.lt_size e) ok.above)
  have cne : ∀ x c, X.env.cells.lookup x = some c → c ≠ X.env.locals := I.cne
  have u : Un X.fs X.ex X.H₀ H X.s₀.heap s.heap := I.base
  have hneL : ∀ b ∈ X.fs, b ≠ X.env.locals := fun b hb z => by
    obtain ⟨_, o, e, _⟩ := ok.oY.mem hb
    exact low b o e z
  refine ⟨ok, I.os, I.bare, ⟨fun b o e n f x => kp b o (low b o e) (u.keep b o e n f x), fun b o e n f x => ?_, u.free, fun b o e x => ?_, u.nY, u.nc, u.mM⟩, ⟨m', hn, fun i x v h1 h2 h3 => ?_⟩, fun x c e => ?_, I.free, I.gI, fun p hp => ?_, fun b o e => ?_, by simp⟩
  · obtain ⟨sl, e1⟩ := u.slot b o e n f x
    exact ⟨sl, kp b _ (low b o e) e1⟩
  · obtain ⟨o1, e1⟩ := u.there b o e x
    exact ⟨o1, kp b o1 (low b o e) e1⟩
  · rw [List.getElem?_replicate] at h2
    split at h2 <;> cases h2
  · obtain ⟨v, o, e1, d⟩ := I.cell x c e
    exact ⟨v, o, kp c o (cne x c e) e1, d⟩
  · obtain ⟨a1, a2, a3, a4, a5⟩ := I.pin p (List.mem_cons_of_mem _ hp)
    exact ⟨kp _ _ a3 a1, a2, a3, a4, a5⟩
  · refine (I.hok b o e).u0 (fun d v hd q => kp d v ?_ q) (fun _ q => q) fun _ _ q => q
    have fr : H X.env.locals = none := I.free
    rintro rfl
    rcases hd with z | z
    · rw [← z, fr] at e; cases e
    · rw [fr] at z; cases z
def Mq (X : Cx) (di ni : Nat) (C : Value) (tS : Addr → Obj → TS) : TS := fun D σ H => ∃ (fa : Addr) (Good : Hp → Prop), σ[di]? = some (some (.ref fa)) ∧
  (∀ s1, Inv X [] σ H s1 → PySem.W.FnAt fa s1.heap ∧ codeAny (model X.prog X.w) X.A (.call (.ref fa) ⟨[], []⟩) (CR (CX1 X.prog X.w) X.stack X.prog X.w H s1 (fun _ _ => False) (fun cls _ H' => cls = C ∧ Good H')) s1) ∧
  ∀ H' ea oe, Good H' → oe.cls = C → H' ea = none → tS ea oe { nx := fun _ _ => False, rt := D.rt } (σ.set ni (some (.ref ea))) H'
theorem JK {dn x n : Str} {dp cp ep np hp pos : Pos} {di ni : Nat} {b₀ : Stmt} {suite : List Stmt} {C FE : Addr} {tS : Addr → Obj → TS} (hF : Frm X) (hpn : X.pn = []) (hNd : X.N.Nodup) (hd : X.N[di]? = some dn) (hv : Vis X.env.scope dn) (hn : X.N[ni]? = some n) (hl : X.env.kindOf n = some .local) (hg : Gl X x) (hm : X.mg x = some (.ref FE))
    (hex : PySem.W.exmOne X.K (.ref C) (.ref FE) = some true) (hs : ∀ ea oe, PSs (cxH X ea oe) (b₀ :: suite) (tS ea oe)) (hdb : (dn == ("__debug__" : Str)) = false := by decide) (hdc : (dn == ("__classdict__" : Str)) = false := by decide) (hxb : (x == ("__debug__" : Str)) = false := by decide)
    (hsw : swapsWith (.Call (.Name dn dp) [] [] cp) none ep.line X.env = pure false := by rfl) (pins0 : List (Addr × Obj)) (s : Shared) (σ : St) (H : Hp) (D : Ends) (hp0 : pins0 = []) (I0 : Inv X pins0 σ H s) (h : Mq X di ni (.ref C) tS D σ H) :
    wpAny (model X.prog X.w) X.A (exec (.Try [.Expr (.Call (.Name dn dp) [] [] cp) ep] [.ExceptHandler (some (.Name x np)) (some n) (b₀ :: suite) hp] [] [] pos) X.env) (SP X pins0 D) X.xe s := by
  subst hp0
  obtain ⟨fa, Good, hσ, deed, good⟩ := h
  refine wpAny_Try_except (wpAny_execs_cons (wpAny_Expr_any (wpAny_Call_Name_kw (wpAny_mono (Ci (X := X.nox) hd hv hdb hdc [] s σ H (fun v H1 => v = .ref fa ∧ H1 = H) (I0.uH _) ⟨.ref fa, hσ, rfl, rfl⟩) (fun v s1 hv1 => ?_) fun _ _ z => z.elim)) I0.quiet hsw))
  obtain ⟨y, H1, I1, r, e1, e2⟩ := hv1
  subst e1 e2
  cases r
  have I1 := I1.lB
  obtain ⟨fn, code⟩ := deed s1 I1
  refine PySem.W.callWith_F0 fn (wpAny_call (codeAny_mono code fun r s' hr => ?_))
  cases r with
  | ok fl =>
    cases fl with
    | ret u => obtain ⟨_, _, _, _, _, _, _, z⟩ := hr; exact z.elim
    | next => exact hr.elim
    | brk => exact hr.elim
    | cont => exact hr.elim
  | error e =>
    obtain ⟨O, ea, cls, H', rfl, os, bare, un, hok, hO, ht, F, rfl, gd⟩ := hr
    have I' : Inv X [] σ H' s' := I1.zD (ch := []) os un hok bare (fun b z => nomatch z)
    have fr : X.A.frames = some (X.env :: X.outer) := by rw [← hF.stk]; exact I0.ok.frames
    have hO0 : ∀ b o, X.s₀.heap.get? b = some o → O b := fun b o e => by
      obtain ⟨o', e'⟩ := I1.base.there b o e (by rw [hF.ex]; exact fun z => nomatch z)
      exact hO b o' e'
    have hpp : ∀ p ∈ X.pn ++ ([] : List (Addr × Obj)), O p.1 := fun p hp => by rw [hpn] at hp; exact nomatch hp
    have hLO : O X.env.locals := by
      obtain ⟨m, ⟨o, es, ep, e, _⟩, _⟩ := I1.loc
      exact hO _ o e
    refine xi (s := s') fr (rE hF I') hF.fr F fun h2 k2 F2 => ?_
    have I2 := yE hF I' k2 hO0 ht hpp
    refine jU (s := { s' with heap := h2 }) (fs := frs (X.env :: X.outer)) F2 fun h3 k3 F3 => ?_
    have I3 := yE hF I2 k3 hO0 ht hpp
    have keyE : ∀ {h : Heap} {fl : Value}, Fly O h ea (.ref C) fl → ∀ {s4 : Shared}, s4.heap = h → Inv X [] σ H' s4 → ∃ oe, oe.cls = .ref C ∧ s4.heap.get? ea = some oe ∧ H' ea = none ∧ Inv (cxH X ea oe) [] σ H' s4 := fun {h fl} G {s4} e4 I4 => by
      obtain ⟨_, oe, vs, T, oT, ts, g1, g2, g3, g4, g5, g6, _⟩ := G
      have hH : H' ea = none := by
        cases z : H' ea with
        | none => rfl
        | some o => exact absurd (ht ea (by rw [z]; exact fun y => nomatch y)) g6
      refine ⟨oe, g2, by rw [e4]; exact g1, hH, Lo I4 (by rw [e4]; exact g1) hH (fun z => g6 (by rw [z]; exact hLO)) (fun z => ?_) g3 g5⟩
      exact yQ I4 ea z oe (by rw [e4]; exact g1) vs g3
    obtain ⟨oe3, c3, g3, n3, H3⟩ := keyE F3 rfl I3
    refine wpAny_handleBy_cons (codeAny_handlers_test (nN (X := cxH X ea oe3) H3 hg hm ?_ hxb)) (by intro z; cases z)
    refine (PySem.W.exm_one (M := model X.prog X.w) (K := X.K) (h := h3) I3.kIn (fun A' Q' E' s4 kk q => ?_) hex).here ?_
    · have e3 := kk _ _ g3
      unfold typeOf
      refine wpAny_bind (wpAny_loadPart e3 ?_)
      rw [c3]
      exact wpAny_pure q
    · refine codeAny_handlers_suite_as (jU (s := { s' with heap := h3 }) (fs := frs (X.env :: X.outer)) F3 fun h4 k4 F4 => ?_)
      have I4 := yE hF I3 k4 hO0 ht hpp
      obtain ⟨oe, c4, g4, n4, H4⟩ := keyE F4 rfl I4
      refine kO (X := cxH X ea oe) (v := .ref ea) H4 hNd hn (Or.inl hl) rfl (fun s5 I5 => ?_) (Or.inr hl)
      refine wpAny_mono (hs ea oe [] s5 _ H' { nx := fun _ _ => False, rt := D.rt } I5 (good H' ea oe gd c4 n4)) (fun f s6 h6 => ?_) fun e s6 z => z.elim
      cases f with
      | next => obtain ⟨_, _, _, z⟩ := h6; exact z.elim
      | brk => obtain ⟨_, _, _, z⟩ := h6; exact z.elim
      | cont => obtain ⟨_, _, _, z⟩ := h6; exact z.elim
      | ret u =>
        obtain ⟨v, σ', H6, I6, r6, q6⟩ := h6
        obtain ⟨m6, hn6, _⟩ := I6.loc
        refine wpAny_nameGoes (env := X.env) hl hn6 (by rw [I0.ok.kind]; rfl) fun h7 m7 hn7 hs7 => ?_
        exact ⟨v, _, H6, Gb I0.ok I6 hn7 hs7 hF.ex, r6, q6⟩
end
open PySem PySem.Spec PyProof.Rows
theorem L6 {CX : CXT} {P : Program} {w : World} {K : PySem.W.Frag} {mg : Str → Option Value} {base : Heap} {k : Nat} {f : Addr} {name qual : Str} {params : Arguments} {body : List Stmt} {scope : Scope} {dV kV doc pm cdv ct oc : Value} {an od : Option Addr} {osl : Array (Option Value)} {N ps : List Str}
    {A : Around} {outer : List Env} {s : Shared} {H : Hp} {args : Args} {us : List Value} {vs : List V} {Q : VK} {E : XK} (lk : K.lookup f = some ⟨oc, od, .func (PySem.W.fnOf name qual params body scope dV kV doc pm an cdv ct), osl⟩) (hcd : PySem.W.codeIn K cdv qual = true) (S : aD N ps scope)
    (hl : vs.length = ps.length) (hr : eT (k + 1) A) (e0 : zH P w K mg base A outer s H) (hb : BindsTo s (PySem.W.fnOf name qual params body scope dV kV doc pm an cdv ct) args (ps.zip us)) (r : Vals vs us)
    (hq : ∀ s1, Inv (ke CX P w K mg base N qual scope f cdv A outer s H E) [] (start N vs) H s1 → wpAny (model P w) (A.deeper (envOfC qual scope s.heap.objs.size f cdv)) (execs body (envOfC qual scope s.heap.objs.size f cdv)) (SP (ke CX P w K mg base N qual scope f cdv A outer s H E) [] { nx := fun _ H' => Q .non H', rt := Q }) (ke CX P w K mg base N qual scope f cdv A outer s H E).xe s1) :
    codeAny (model P w) A (.call (.ref f) args) (CR CX outer P w H s Q E) s := by
  have KX : K.In s.heap := e0.mod.kin.keeps fun b o e => (e0.bs b o e).1
  have lim : s.heap.NoLimit := e0.mod.nolimit.keeps fun b o e => (e0.bs b o e).1
  have hkind : ∀ y ∈ ps.zip us, scope.names.lookup y.1 = some .local ∨ (scope.names.lookup y.1 = some .cell ∧ ((cellsFrom (s.heap.objs.size + 1) scope.names []).lookup y.1).isSome = true) := fun ⟨n, v⟩ hy => by
    rcases S.par n (List.of_mem_zip hy).1 with q | q
    · exact .inl q
    · exact .inr ⟨q, PySem.W.cellsFrom_some _ _ _ (.inl q)⟩
  refine codeAny_call_function hr.depth (KX _ _ lk) rfl S.co S.gen rfl (PySem.W.codeRec_of KX hcd) (hb _ _ _ _ ?_)
  refine wpAny_newFunctionEnv_cells S.kind hkind fun env he s1 x => ?_
  subst he
  refine ⟨lim.keeps x.toInCall.keep, codeAny_func ?_⟩
  have I : Inv (ke CX P w K mg base N qual scope f cdv A outer s H E) [] (start N vs) H s1 := wQ S hr.hd e0 hl r x
  refine wpAny_mono (hq s1 I) (fun fl s' hs => ?_) fun e s' hs => hs
  have fin : ∀ {σ' : St} {H' : Hp} {v : V} {u : Value}, Inv (ke CX P w K mg base N qual scope f cdv A outer s H E) [] σ' H' s' → RelV v u → Q v H' → CE outer P w H s Q u s' :=
    fun {σ' H' v u} J rv q => ⟨v, H', J.os, J.bare, J.base, J.hok, rv, q⟩
  cases fl with
  | ret u => obtain ⟨v, σ', H', J, rv, q⟩ := hs; exact fin J rv q
  | next => obtain ⟨σ', H', J, q⟩ := hs; exact fin (v := V.non) (u := Value.none) J rfl q
  | brk => obtain ⟨_, _, _, q⟩ := hs; exact False.elim q
  | cont => obtain ⟨_, _, _, q⟩ := hs; exact False.elim q
structure vG (P : Program) (w : World) (K : PySem.W.Frag) (mg : Str → Option Value) (base : Heap) (k : Nat) (f : Addr) (fd : FuncData) (dn : Str) (C : Value) (nm : Str) : Prop where
  run : ∀ (A : Around) (outer : List Env) (s : Shared) (H : Hp) (fa : Addr) (Good : Hp → Prop) (Q : VK), eT (k + 1) A → zH P w K mg base A outer s H → BindsTo s fd ⟨[.ref fa], []⟩ ([dn].zip [.ref fa]) →
    (∀ (A' : Around) (outer' : List Env) (s' : Shared), eT k A' → zH P w K mg base A' outer' s' H → Un (frs outer) [] H H s.heap s'.heap → PySem.W.FnAt fa s'.heap ∧ codeAny (model P w) A' (.call (.ref fa) ⟨[], []⟩) (CR (CX1 P w) outer' P w H s' (fun _ _ => False) (fun cls _ H' => cls = C ∧ Good H')) s') →
    (∀ H', Good H' → ∃ μ, bE K μ H' ∧ ∀ H'', Ext K μ H' μ H'' → bE K μ H'' → Q (.str nm) H'') →
    codeAny (model P w) A (.call (.ref f) ⟨[.ref fa], []⟩) (CR CX0 outer P w H s Q E0) s
theorem BX {P : Program} {w : World} {K : PySem.W.Frag} {mg : Str → Option Value} {base : Heap} {k : Nat} {f : Addr} {fd : FuncData} {fx qual : Str} {st : Stmt} {dn n y1 y2 x : Str} {dp cp ep np hp pos : Pos} {b₀ : Stmt} {suite rest : List Stmt} {C FE : Addr} {nm : Str} {td : Addr → DTS}
    (F : Fun K fx qual st f fd) (S : aD [dn, n, y1, y2] [dn] (au st))
    (hbody : eY st = .Try [.Expr (.Call (.Name dn dp) [] [] cp) ep] [.ExceptHandler (some (.Name x np)) (some n) (b₀ :: suite) hp] [] [] pos :: rest)
    (hv : (au st).names.lookup dn = some .local) (hl : (au st).names.lookup n = some .local) (hg : (au st).names.lookup x = some .globalImplicit) (hm : mg x = some (.ref FE)) (hex : PySem.W.exmOne K (.ref C) (.ref FE) = some true)
    (hdb : (dn == ("__debug__" : Str)) = false) (hdc : (dn == ("__classdict__" : Str)) = false) (hxb : (x == ("__debug__" : Str)) = false)
    (hsw : ∀ env : Env, swapsWith (.Call (.Name dn dp) [] [] cp) none ep.line env = pure false)
    (hs : ∀ (cdv : Value) (A : Around) (outer : List Env) (s : Shared) (H : Hp) (ea : Addr) (oe : Obj), oe.cls = .ref C → eT k (ke CX0 P w K mg base [dn, n, y1, y2] qual (au st) f cdv A outer s H E0).A → DSs (cxH (ke CX0 P w K mg base [dn, n, y1, y2] qual (au st) f cdv A outer s H E0) ea oe) (b₀ :: suite) (td ea))
    (hrd : ∀ (ea fa : Addr) (μ : Mu) (Qd : DK), Qd (.v (.str nm)) μ → td ea { nx := fun _ _ => False, rt := Qd } [some (.o fa), some (.o ea), none, none] μ) : vG P w K mg base (k + 1) f fd dn (.ref C) nm where
  run := fun A outer s H fa Good Q hr e0 hb deed fin => by
    obtain ⟨oc, od, kV, doc, pm, an, cdv, ct, osl, rfl, lk, hcd⟩ := F.ex
    refine L6 (k := k + 1) (vs := [.ref fa]) (us := [.ref fa]) lk hcd S rfl hr e0 hb (.cons rfl .nil) fun s1 I => ?_
    show wpAny _ _ (execs (eY st) _) _ _ _
    rw [hbody]
    have hX : ∀ ea oe, PSs (cxH (ke CX0 P w K mg base [dn, n, y1, y2] qual (au st) f cdv A outer s H E0) ea oe) (b₀ :: suite) (fun D σ' H' => oe.cls = .ref C ∧ H' ea = none ∧ σ' = (start [dn, n, y1, y2] [V.ref fa]).set 1 (some (.ref ea)) ∧ ∃ μ, bE K μ H' ∧ ∀ H'', Ext K μ H' μ H'' → bE K μ H'' → D.rt (.str nm) H'') := fun ea oe pins' s' σ' H' D I' h => by
      obtain ⟨hc, hH, rfl, μ, ok, q⟩ := h
      obtain ⟨t, p, l⟩ := hs cdv A outer s H ea oe hc ((hr.deeper _).mono (Nat.le_succ _))
      refine p pins' s' _ H' D I' (l _ H' [some (.o fa), some (.o ea), none, none] μ { nx := fun _ _ => False, rt := fun d μ' => d = .v (.str nm) ∧ μ' = μ } D ⟨ok, rfl, fun i d e => ?_⟩ (hrd ea fa μ _ ⟨rfl, rfl⟩) (fun _ _ _ _ _ _ z => z.elim) (fun d u μ' H'' e' ok' r ⟨z1, z2⟩ => ?_) (fun _ _ _ _ _ _ z => z.elim) (fun _ _ _ _ _ _ z => z.elim))
      · match i, e with
        | 0, e => cases e; exact ⟨.ref fa, rfl, rfl⟩
        | 1, e => cases e; exact ⟨.ref ea, rfl, rfl⟩
        | 2, e => cases e
        | 3, e => cases e
      · subst z1 z2
        cases r
        exact q H'' e' ok'
    refine wpAny_execs_cons (wpAny_mono (JK (X := ke CX0 P w K mg base [dn, n, y1, y2] qual (au st) f cdv A outer s H E0) (C := C) (FE := FE) (di := 0) (ni := 1) ⟨rfl, rfl, rfl⟩ rfl S.nd rfl (Or.inl hv) rfl hl hg hm hex hX hdb hdc hxb (hsw _) [] s1 _ H { nx := fun _ _ => False, rt := Q } rfl I
      ⟨fa, Good, rfl, fun s2 I2 => deed _ _ s2 (hr.deeper _) I2.GW I2.base, fun H' ea oe gd c hn => ⟨c, hn, rfl, fin H' gd⟩⟩) (fun fl s' hs' => ?_) fun _ _ z => z)
    cases fl with
    | ret u => exact hs'
    | next => obtain ⟨_, _, _, z⟩ := hs'; exact z.elim
    | brk => obtain ⟨_, _, _, z⟩ := hs'; exact z.elim
    | cont => obtain ⟨_, _, _, z⟩ := hs'; exact z.elim
open PySem PySem.Spec PyProof.Rows
section
variable {X : Cx} {e : Expr} {te : DTE} {p py pos : Pos} {y : Str} {C : Addr} {b : Bool} {ea : Addr} {oe : Obj}
def cC (ea : Addr) (b : Bool) (te : DTE) : DTE := fun ρ μ Q => te ρ μ fun x μ1 => match x with
  | .o a => a = ea ∧ Q (.v (.bool b)) μ1
  | _ => False
theorem An {cv : V} {w : Value} (Z : rG X.K C) (hp : (ea, oe) ∈ X.pn) (hc : oe.cls = .ref C) (r : RelV cv w) (hw : ∀ u, RelV cv u → u = w) (ek : PySem.W.kitOne X.K (.ref C) w = some b) : gp X (.builtin "isinstance") (fun xs H Q => xs = [.ref ea, cv] ∧ Q (.bl b) H) := by
  intro pins s σ H xs us Q I rr h
  obtain ⟨rfl, q⟩ := h
  obtain ⟨v, w', rfl, r1, r2⟩ := vals2 rr
  cases r1
  obtain rfl := hw w' r2
  exact PySem.W.kia_one (EM Z) I.kIn ⟨oe, (I.pin (ea, oe) (List.mem_append_left _ hp)).1, hc⟩ ek (fun z => nomatch z) fun tk => ⟨.bl b, H, I.tok _, rfl, q⟩
theorem bg {C' : Addr} (Z : rG X.K C) (hp : (ea, oe) ∈ X.pn) (hc : oe.cls = .ref C) (ek : PySem.W.kitOne X.K (.ref C) (.ref C') = some b) (hg : Gl X "isinstance") (hm : X.mg "isinstance" = none) (hgy : Gl X y) (hmy : X.mg y = some (.ref C')) (ha : DE X e te) (hdy : (y == ("__debug__" : Str)) = false := by decide)
    (he : starEach [e, .Name y py] X.env = (false, eval e X.env) :: starEach [.Name y py] X.env := by rfl) (he2 : starEach [.Name y py] X.env = [(false, eval (.Name y py) X.env)] := by rfl) (hpl : (backTo pos (starEach [.Name y py] X.env)).any (·.1) = false := by rfl) : DE X (.Call (.Name "isinstance" p) [e, .Name y py] [] pos) (cC ea b te) := by
  obtain ⟨t1, p1, l1⟩ := ha
  refine ⟨_, rj (An (cv := .ref C') Z hp hc rfl (fun u h => h) ek) hg hm PyProof.Rows.Boot.«isinstance» (ip p1 (ip (Df (v := .ref C') hgy hmy rfl hdy) oO he2) he) (by decide) (by decide) he hpl, fun σ H ρ μ Qd Q S h k => ?_⟩
  refine l1 σ H ρ μ _ _ S h fun x ux μ1 H1 e1 S1 rx h1 => ?_
  split at h1
  · obtain ⟨rfl, h1⟩ := h1
    obtain rfl : ux = .ref _ := rx
    exact ⟨rfl, k (.v _) _ μ1 H1 e1 S1 (Rp.bool _) h1⟩
  · exact h1.elim
theorem x8 {T : String} (Z : rG X.K C) (hp : (ea, oe) ∈ X.pn) (hc : oe.cls = .ref C) (ek : PySem.W.kitOne X.K (.ref C) (.type T) = some b) (hg : Gl X "isinstance") (hm : X.mg "isinstance" = none) (hgy : Gl X y) (hmy : X.mg y = none) (hvy : bootBuiltins y = some (.type T)) (ha : DE X e te) (hny : y ≠ "__name__" := by decide) (hdy : (y == ("__debug__" : Str)) = false := by decide)
    (he : starEach [e, .Name y py] X.env = (false, eval e X.env) :: starEach [.Name y py] X.env := by rfl) (he2 : starEach [.Name y py] X.env = [(false, eval (.Name y py) X.env)] := by rfl) (hpl : (backTo pos (starEach [.Name y py] X.env)).any (·.1) = false := by rfl) : DE X (.Call (.Name "isinstance" p) [e, .Name y py] [] pos) (cC ea b te) := by
  obtain ⟨t1, p1, l1⟩ := ha
  refine ⟨_, rj (An (cv := .ty T) Z hp hc rfl (fun u h => h) ek) hg hm PyProof.Rows.Boot.«isinstance» (ip p1 (ip (CQ (v := .ty T) hgy hmy hvy rfl hny hdy) oO he2) he) (by decide) (by decide) he hpl, fun σ H ρ μ Qd Q S h k => ?_⟩
  refine l1 σ H ρ μ _ _ S h fun x ux μ1 H1 e1 S1 rx h1 => ?_
  split at h1
  · obtain ⟨rfl, h1⟩ := h1
    obtain rfl : ux = .ref _ := rx
    exact ⟨rfl, k (.v _) _ μ1 H1 e1 S1 (Rp.bool _) h1⟩
  · exact h1.elim
end
structure G3 (K : PySem.W.Frag) (mg : Str → Option Value) (c P : Addr) (q : Str) : Prop where
  obj : ∃ o, K.lookup c = some o ∧ bq o = some (P, q)
  one : ∀ c2 o2 q2, K.lookup c2 = some o2 → bq o2 = some (P, q2) → q2 = q
  blt : Hf K mg
def ui (cap : List (Option Nat)) (tx : DTX) (nm : Str) : DTE := fun ρ μ Qd => tx (bT cap ρ) μ fun μ' => Qd (.v (.str nm)) μ'
theorem xa {X : Cx} {k : Nat} {f c P : Addr} {fd : FuncData} {dn rn q nm : Str} {C : Value} {params : Arguments} {body : Expr} {lsc : Scope} {lpos p pos : Pos} {cl : List (Str × Addr)} {N' : List Str} {cap : List (Option Nat)} {tx : DTX}
    (R : vG X.prog X.w X.K X.mg X.base k f fd dn C nm) (hr : eT (k + 1) X.A) (hg : Gl X rn) (hm : X.mg rn = some (.ref f)) (hk : PySem.W.keepIn X.K (.ref f) = true) (hb : Binds X.K fd [dn] []) (L : G3 X.K X.mg c P q) (hcode : X.env.code = .ref c) (hq : X.env.qual = q ++ ".<locals>.")
    (hk0 : 0 < k) (he : ∀ (A' : Around) (outer' : List Env) (s' : Shared) (H' : Hp) (fa c1 : Addr) (E : XK), eT (k - 1) (lZ X.prog X.w X.K X.mg X.base N' lsc cl (aN q) fa c1 A' outer' s' H' E).A → XE (lZ X.prog X.w X.K X.mg X.base N' lsc cl (aN q) fa c1 A' outer' s' H' E) E C body tx)
    (hdef : defaultsOf params X.env = ([], [])) (hclos : closureFor lsc X.env = pure cl) (hbind : ∀ (pm ctv : Value) (c1 : Addr), bindArgs (PySem.W.kla_fn "<lambda>" (aN q) params body lsc cl pm (.ref c1) ctv) ⟨[], []⟩ = pure [])
    (hkind : lsc.kind = .function) (hco : lsc.isCoroutine = false) (hgen : lsc.isGenerator = false) (hcell : ∀ y ∈ lsc.names, y.2 ≠ .cell) (hcl : ∀ x a, cl.lookup x = some a → X.env.cells.lookup x = some a) (hhas : ∀ x, lsc.names.lookup x = some .cell ∨ lsc.names.lookup x = some .free → ∃ a, cl.lookup x = some a)
    (hlen : cap.length = N'.length) (hcap : ∀ (i j : Nat) (x : Str), cap[i]? = some (some j) → N'[i]? = some x → X.N[j]? = some x ∧ Vis X.env.scope x ∧ X.env.kindOf x ≠ some .local ∧ lsc.names.lookup x = some .free)
    (hdb : (rn == ("__debug__" : Str)) = false := by decide) (hst : starEach [.Lambda params body lsc lpos] X.env = [(false, eval (.Lambda params body lsc lpos) X.env)] := by rfl) :
    DE X (.Call (.Name rn p) [.Lambda params body lsc lpos] [] pos) (ui cap tx nm) := by
  refine CY fun pins s σ H ρ μ Qd Q I S h kk => ?_
  obtain ⟨o, hl, hlc⟩ := L.obj
  refine wpAny_Call_Name_kw (nN I hg hm ?_ hdb)
  refine PySem.W.callWith_K (h₀ := X.base) I.ok.mod.kin hk (spliced_more (JC I S.mu hcode hl hlc L.one hq L.blt hclos hdef fun fa c1 ctv pm H1 s1 I1 ex mu ho hfa hfr hc1 => spliced_none ⟨I1.kIn, ?_⟩) (by rw [hst]; rfl)) (by rw [hst]; rfl) rfl
  have S1 : St0 X.K H1 ρ μ σ := ⟨mu, S.rho.ext S.mu ex⟩
  refine wpAny_call (codeAny_mono (R.run X.A X.stack s1 H1 fa (fun H' => ∃ μ', Ext X.K μ H1 μ' H' ∧ bE X.K μ' H' ∧ Qd (.v (.str nm)) μ') Q hr I1.GW (hb s1 [.ref fa] I1.kIn rfl) (fun A' outer' s' hr' e0' un => ?_) fun H' ⟨μ', e', ok', q'⟩ => ?_) fun r s' hq' => ?_)
  · have ho' := un.keep fa _ ho hfa hfr (fun z => nomatch z)
    refine ⟨⟨_, _, _, _, ho'⟩, ?_⟩
    obtain ⟨k', rfl⟩ : ∃ k', k = k' + 1 := ⟨k - 1, by omega⟩
    obtain ⟨t, pe, l⟩ := he A' outer' s' H1 fa c1 (fun cls _ H' => cls = C ∧ ∃ μ', Ext X.K μ H1 μ' H' ∧ bE X.K μ' H' ∧ Qd (.v (.str nm)) μ') (hr'.deeper _)
    have cellK : ∀ x cc v, X.env.cells.lookup x = some cc → s1.heap.IsCell cc v → s'.heap.IsCell cc v := fun x cc v hx ⟨oc, ec, dc⟩ => by
      obtain ⟨sl, e2⟩ := un.any ec (I1.gI x cc hx) (fun z => nomatch z)
      exact ⟨_, e2, dc⟩
    refine Aq (σ := bT cap σ) (N := N') hkind hco hgen hcell hr' e0' ho' hc1 (hbind pm ctv c1) ⟨fun x cc hx => ?_, fun x cc hx => I1.gI x cc (hcl x cc hx), fun x y cc h1 h2 => I1.ok.inj x y cc (hcl x cc h1) (hcl y cc h2), hhas, fun i x v h1 h2 h3 => ?_, ?_⟩ pe (l _ H1 (bT cap ρ) μ (fun μ' => Qd (.v (.str nm)) μ') _ ⟨mu, S1.rho.cap⟩ h fun μ' H' e' ok' q' => ⟨rfl, μ', e', ok', q'⟩)
    · obtain ⟨v, hv⟩ := I1.cell x cc (hcl x cc hx)
      exact ⟨v, cellK x cc v (hcl x cc hx) hv⟩
    · obtain ⟨j, j1, j2⟩ := mQ h2
      obtain ⟨hN, hv, hnl, hfree⟩ := hcap i j x j1 h1
      obtain ⟨m, _, hll⟩ := I1.loc
      obtain ⟨u, ru, lk⟩ := hll j x v hN j2 hv
      obtain ⟨a, ha⟩ := hhas x (.inr hfree)
      rcases lk with ⟨z, _⟩ | ⟨_, a', z1, z2⟩
      · exact absurd z hnl
      · obtain rfl : a' = a := by have qq := hcl x a ha; rw [z1] at qq; exact Option.some.inj qq
        exact ⟨u, a', ru, hfree, ha, cellK x a' _ z1 z2⟩
    · unfold bT; rw [List.length_map]; exact hlen
  · exact ⟨μ', ok', fun H'' e'' ok'' => kk (.v (.str nm)) (.str nm) μ' H'' (ex.trans (e'.trans e'')) ⟨ok'', S1.rho.ext mu (e'.trans e'')⟩ (Rp.str nm) q'⟩
  · cases r with
    | error e => exact hq'.elim
    | ok fl =>
      cases fl with
      | ret u => exact I1.after hq'
      | next => exact hq'.elim
      | brk => exact hq'.elim
      | cont => exact hq'.elim
end L2.DL
set_option Elab.async false
set_option linter.all false
set_option maxRecDepth 100000
set_option maxHeartbeats 4000000
namespace L2
open PySem PySem.Spec PyProof.Rows DL
def Ly (tabs : List Addr) (H : Hp) : Prop := ∀ b, H b = none ∨ (∃ o xs, H b = some (.frz o (.lst xs))) ∨ (b ∈ tabs ∧ H b = some (.tbl #[]))
theorem Dy {P : Program} {w : World} {K : PySem.W.Frag} {mg mb : Str → Option Value} {CX : CXT} {k : Nat} {fa a : Addr} {fd : FuncData} {x : Str} {sp : Sp} {s₁ : Shared} {vs : List Value} {ns : List Int} (tabs : List Addr)
    (hT : ∀ p ∈ tabs, s₁.heap.get? p = some (PySem.W.tabObj #[]) ∧ K.lookup p = none) (hA2 : ∀ c o p q, K.lookup c = some o → bq o = some (p, q) → p ∈ tabs) (hC : ∀ p ∈ tabs, isCodeTable s₁.heap p)
    (KX : K.In s₁.heap) (hns : s₁.heap.Ns mainGlobals mg) (hb : s₁.heap.Ns builtinsNs mb) (hbb : ∀ x : Str, x ≠ "__name__" → mb x = bootBuiltins x) (hlim : s₁.heap.NoLimit) (hg : s₁.gens = #[])
    (ha : s₁.heap.get? a = some { cls := .type "list", data := .seq vs.toArray }) (hi : IntsAre vs ns) (hl : ns.length ≤ sizeLine) (hr : eT k callerA)
    (F : ∀ base : Heap, K.In base → base.Ns mainGlobals mg → bB P w K mg base CX k fa fd [x] sp) (hbind : ∀ (s : Shared) (u : Value), BindsTo s fd ⟨[u], []⟩ [(x, u)])
    (hsp : ∀ H : Hp, wz K H → SqL K H a (ns.map V.int) → sp [.ref a] H (fun v _ => v = .bl true) fun _ _ _ => False)
    (hCX : ∀ H e s', CX [] H s₁ (fun _ _ _ => False) e s' → False) :
    codeAny (model P w) callerA (.call (.ref fa) ⟨[.ref a], []⟩) (fun r s' => r = .ok (.ret (.bool true)) ∧ OldK s₁.heap s'.heap ∧ s'.os = s₁.os ∧ AllBare s'.gens) s₁ := by
  have rv := wK hi
  have lenV := hi.length
  have ant : a ∉ tabs := fun z => by have := (hT a z).1; rw [ha] at this; cases this
  have core : ∀ H : Hp, Ly tabs H → SqL K H a (ns.map V.int) → HOk P w H s₁.heap → (∀ b, H b ≠ none → b = a ∨ b ∈ tabs) → (H a ≠ none → K.lookup a = none) → (∀ p ∈ tabs, H p = some (.tbl #[])) →
      codeAny (model P w) callerA (.call (.ref fa) ⟨[.ref a], []⟩) (fun r s' => r = .ok (.ret (.bool true)) ∧ OldK s₁.heap s'.heap ∧ s'.os = s₁.os ∧ AllBare s'.gens) s₁ := by
    intro H hO hS hok hA hK hP
    have base_of : ∀ {b : Addr} {o : Obj}, s₁.heap.get? b = some o → H b = none → (xY s₁.heap H).get? b = some o := fun e n => EB e n
    have noA : ∀ {b : Addr} {o : Obj} {es : Array DictEntry} {ep : Nat}, s₁.heap.get? b = some o → o.data = .dict es ep → H b = none := fun {b o es ep} e d => by
      cases q : H b with
      | none => rfl
      | some u =>
        rcases hA b (by rw [q]; simp) with e' | e'
        · subst e'
          rw [ha] at e; cases e
          have d' : Data.seq vs.toArray _ = Data.dict es ep := d
          cases d'
        · rw [(hT b e').1] at e; cases e
          have d' : Data.fields #[] = Data.dict es ep := d
          cases d'
    have nsK : ∀ {b : Addr} {m : Str → Option Value}, s₁.heap.Ns b m → (xY s₁.heap H).Ns b m := fun {b m} ⟨o, es, ep, e, d, r⟩ => ⟨o, es, ep, base_of e (noA e d), d, r⟩
    have hKb : K.In (xY s₁.heap H) := fun b o e => base_of (KX b o e) (by
      cases q : H b with
      | none => rfl
      | some u =>
        rcases hA b (by rw [q]; simp) with e' | e'
        · subst e'
          rw [hK (by rw [q]; simp)] at e; cases e
        · have e2 := e; rw [show K.lookup b = none from (hT b e').2] at e2; cases e2)
    have hM : Mod K mg (xY s₁.heap H) := ⟨hKb, nsK hns, ⟨mb, nsK hb, hbb⟩, let ⟨mc, h1, h2⟩ := hlim; ⟨mc, nsK h1, h2⟩⟩
    have e0 : zH P w K mg (xY s₁.heap H) callerA [] s₁ H := ⟨rfl, hM, fun b o e => G0 e, Nat.le_of_eq (DU _ _), trivial, fun b hb => absurd (show b ∈ ([] : List Addr) from hb) (by simp), hok, .of_eq hg⟩
    have tb : wz K H := fun c o p q h1 h2 => ⟨#[], hP p (hA2 c o p q h1 h2), trivial, fun pos cv e => by simp [codeAmong] at e⟩
    refine codeAny_mono ((F _ hKb (nsK hns)).run callerA [] s₁ H ⟨[.ref a], []⟩ [.ref a] [.ref a] _ _ hr e0 (hbind s₁ (.ref a)) (.cons rfl .nil) (hsp H tb hS)) fun r s' h => ?_
    cases r with
    | error e => exact (hCX H e s' h).elim
    | ok fl =>
      cases fl with
      | next => exact False.elim h
      | brk => exact False.elim h
      | cont => exact False.elim h
      | ret u =>
        obtain ⟨v, H', os, bare, un, hok', r', q⟩ := h
        have q' : v = .bl true := q
        subst q'
        obtain rfl : u = Value.bool true := r'
        refine ⟨rfl, ⟨fun b o e => ?_, fun b o e => un.there b o e (by simp)⟩, os, bare⟩
        cases q : H b with
        | none => exact .inl (un.keep b o e q (by intro z; exact absurd (show b ∈ ([] : List Addr) from z) (by simp)) (by simp))
        | some u =>
          rcases hO b with z | ⟨ob, xs, z⟩ | ⟨zt, z⟩
          · rw [q] at z; cases z
          · have z2 := un.nc b ob _ z
            obtain ⟨e1, _⟩ := hok b _ z
            obtain ⟨e2, _⟩ := hok' b _ z2
            rw [e] at e1; cases e1
            exact .inl e2
          · obtain ⟨more, z2⟩ := un.mM b _ z
            have e2 : s'.heap.get? b = some { cls := .none, data := .fields (#[] ++ more) } := hok' b _ z2
            have e1 := (hT b zt).1
            rw [e] at e1; cases e1
            exact .inr (.inl ⟨hC b zt, rfl, #[], more, rfl, e2⟩)
  have okT : ∀ p ∈ tabs, s₁.heap.get? p = some { cls := .none, data := .fields #[] } := fun p hp => (hT p hp).1
  cases hk : K.lookup a with
  | some o =>
    have e := KX a o hk
    rw [ha] at e
    cases e
    refine core (fun b => if b ∈ tabs then some (.tbl #[]) else none) (fun b => ?_) (.inr ⟨_, vs.toArray, _, hk, rfl, rfl, rfl, by rw [List.size_toArray, lenV]; exact hl, by simpa using rv⟩) (fun b u z => ?_) (fun b z => ?_) (fun z => absurd (if_neg ant) z) (fun p hp => if_pos hp)
    · by_cases hb : b ∈ tabs
      · exact .inr (.inr ⟨hb, if_pos hb⟩)
      · exact .inl (if_neg hb)
    · by_cases hb : b ∈ tabs
      · have z' := (if_pos hb).symm.trans z; cases z'; exact okT b hb
      · have z' := (if_neg hb).symm.trans z; cases z'
    · by_cases hb : b ∈ tabs
      · exact .inr hb
      · exact absurd (if_neg hb) z
  | none =>
    refine core (fun b => if b = a then some (.frz { cls := .type "list", data := .seq vs.toArray } (.lst (ns.map V.int))) else if b ∈ tabs then some (.tbl #[]) else none) (fun b => ?_) (.inl (.inr ⟨{ cls := .type "list", data := .seq vs.toArray }, if_pos rfl⟩)) (fun b u z => ?_) (fun b z => ?_) (fun _ => hk) (fun p hp => by
      have : p ≠ a := fun y => ant (by rw [← y]; exact hp)
      exact (if_neg this).trans (if_pos hp))
    · by_cases hb : b = a
      · exact .inr (.inl ⟨_, _, if_pos hb⟩)
      · by_cases hb2 : b ∈ tabs
        · exact .inr (.inr ⟨hb2, (if_neg hb).trans (if_pos hb2)⟩)
        · exact .inl ((if_neg hb).trans (if_neg hb2))
    · by_cases hb : b = a
      · have z' := (if_pos hb).symm.trans z
        cases z'
        subst hb
        exact ⟨ha, by rw [List.length_map]; exact hl, vs, _, rv, ha⟩
      · by_cases hb2 : b ∈ tabs
        · have z' := ((if_neg hb).trans (if_pos hb2)).symm.trans z; cases z'; exact okT b hb2
        · have z' := ((if_neg hb).trans (if_neg hb2)).symm.trans z; cases z'
    · by_cases hb : b = a
      · exact .inl hb
      · by_cases hb2 : b ∈ tabs
        · exact .inr hb2
        · exact absurd ((if_neg hb).trans (if_neg hb2)) z
theorem FK {l : PySem.W.OpenLaw} {n k : Nat} {q : Program} {loose : List Str} {XP : (Str → Option Value) → Heap → Prop} {YP : World → Heap → Prop} {d : DefRec} {K : Params → PySem.W.Frag} {CX : World → CXT} {sp : World → Sp} {x : Str} (tabs : List Addr)
    (hn : l.most = some n) (hn2 : n ≤ sizeLine) (hdf : d.params.defaults = []) (hr : eT k callerA)
    (hY : ∀ (w : World) (h : Heap), YP w h → (K w.params).In h ∧ (∀ p ∈ tabs, h.get? p = some (PySem.W.tabObj #[]) ∧ (K w.params).lookup p = none) ∧ (∀ p ∈ tabs, isCodeTable h p))
    (hA2 : ∀ (w : World) c o p q, (K w.params).lookup c = some o → bq o = some (p, q) → p ∈ tabs)
    (F : ∀ (w : World) (mg : Str → Option Value) (fa : Addr) (h : Heap), (K w.params).In h → h.Ns mainGlobals mg → mg d.name = some (.ref fa) →
      ∃ fd : FuncData, (∀ (s : Shared) (u : Value), BindsTo s fd ⟨[u], []⟩ [(x, u)]) ∧
        ∀ base : Heap, (K w.params).In base → base.Ns mainGlobals mg → bB l.prog w (K w.params) mg base (CX w) k fa fd [x] (sp w))
    (hsp : ∀ (w : World) (H : Hp) (a : Addr) (ns : List Int), ns.length ≤ n → wz (K w.params) H → SqL (K w.params) H a (ns.map V.int) → sp w [.ref a] H (fun v _ => v = .bl true) fun _ _ _ => False)
    (hCX : ∀ (w : World) (H : Hp) (s : Shared) (e : Value) (s' : Shared), CX w [] H s (fun _ _ _ => False) e s' → False) :
    PySem.W.WalkO q loose XP YP l.row.toRowW d [] (fun f vs => PySem.call f vs) := by
  refine Att.zr hn hdf fun w s₀ s₁ mg mb fa o pm cd doc a vs ns G Y ho hd hcd hmg hobj hints hlen hg => ?_
  obtain ⟨KX, hT, hC⟩ := hY w _ Y
  obtain ⟨fd, hb, hF⟩ := F w mg fa _ KX G.T.g hmg
  exact Dy tabs hT (hA2 w) hC KX G.T.g G.T.b G.T.builtins G.T.nolimit hg hobj hints (Nat.le_trans hlen hn2) hr hF hb (fun H hO hS => hsp w H a ns hlen hO hS) fun H e s' => hCX w H s₁ e s'
end L2
namespace L2.DL
open PySem PySem.Spec PyProof.Rows
theorem _root_.L2.Fun.LB {P : Program} {w : World} {K : PySem.W.Frag} {mg : Str → Option Value} {base : Heap} {x qual : Str} {st : Stmt} {f : Addr} {fd : FuncData} {N ps : List Str} {k : Nat} {dsp : DSp} (F : Fun K x qual st f fd) (S : aD N ps (au st)) (len : ∀ ds μ Q, dsp ds μ Q → ds.length = ps.length)
    (hbody : ∀ (cdv : Value), fd.code = cdv → ∀ (A : Around) (outer : List Env) (s : Shared) (H : Hp) (E : XK), eT k (A.deeper (envOfC qual (au st) s.heap.objs.size f cdv)) →
      ∃ td, DSs (ke CX0 P w K mg base N qual (au st) f cdv A outer s H E).nox (eY st) td ∧ ∀ ds μ Qd, dsp ds μ Qd → td { nx := fun _ μ' => Qd (.v .none) μ', rt := Qd } (aI N ds) μ) : bB P w K mg base CX0 (k + 1) f fd ps (spD K dsp) := by
  obtain ⟨oc, od, kV, doc, pm, an, cdv, ct, osl, rfl, lk, hcd⟩ := F.ex
  refine Gy lk hcd S (fun vs H Q E h => ?_) fun A outer s H vs Q E hr h => ?_
  · obtain ⟨ds, μ, Qd, _, r, h, _⟩ := h
    rw [← r.length]; exact len ds μ Qd h
  · obtain ⟨ds, μ, Qd, ok, r, h, fin⟩ := h
    obtain ⟨td, ⟨t, p, l⟩, rd⟩ := hbody cdv rfl A outer s H E hr
    exact ⟨t, p.nox, l (start N vs) H (aI N ds) μ _ _ ⟨ok, sv r⟩ (rd ds μ Qd h) (fun σ' ρ' μ' H' e' S' q => fin (.v .none) .non μ' H' e' S'.mu Rp.none q) (fun d u μ' H' e' ok' r' q => fin d u μ' H' e' ok' r' q) (fun _ _ _ _ _ _ q => q) (fun _ _ _ _ _ _ q => q)⟩
def IW (X : Cx) (lsc : Scope) : Option Nat → Str → Prop
  | some j, x => X.N[j]? = some x ∧ Vis X.env.scope x ∧ X.env.kindOf x ≠ some .local ∧ lsc.names.lookup x = some .free
  | none, _ => True
def K4 (X : Cx) (lsc : Scope) : List (Option Nat) → List Str → Prop
  | c :: r, x :: r' => IW X lsc c x ∧ K4 X lsc r r'
  | _, _ => True
theorem jP {X : Cx} {lsc : Scope} : ∀ {cap : List (Option Nat)} {N' : List Str}, K4 X lsc cap N' → ∀ (i j : Nat) (x : Str), cap[i]? = some (some j) → N'[i]? = some x → X.N[j]? = some x ∧ Vis X.env.scope x ∧ X.env.kindOf x ≠ some .local ∧ lsc.names.lookup x = some .free
  | [], _, _, i, j, x, h, _ => by simp at h
  | _ :: _, [], _, i, j, x, _, h => by simp at h
  | c :: r, y :: r', h, 0, j, x, h1, h2 => by
    simp at h1 h2; subst h1 h2; exact h.1
  | c :: r, y :: r', h, i + 1, j, x, h1, h2 => jP h.2 i j x (by simpa using h1) (by simpa using h2)
theorem fN {X : Cx} {lsc : Scope} {j : Nat} {x : Str} (h1 : X.N[j]? = some x := by rfl) (h2 : X.env.kindOf x = some .cell := by rfl) (h3 : lsc.names.lookup x = some .free := by rfl) : IW X lsc (some j) x :=
  ⟨h1, .inr (.inl h2), (by rw [h2]; decide), h3⟩
theorem yV {K : PySem.W.Frag} {l : List (Addr × Str)} (h : (K.filterMap fun p => bq p.2) = l) {c : Addr} {o : Obj} {P : Addr} {q : Str} (e : K.lookup c = some o) (e2 : bq o = some (P, q)) : (P, q) ∈ l := by
  rw [← h]
  have mem : ∀ (L : List (Addr × Obj)), List.lookup c L = some o → (c, o) ∈ L := fun L => by
    induction L with
    | nil => intro z; cases z
    | cons a r ih =>
      intro z
      rw [List.lookup_cons] at z
      by_cases y : c = a.1
      · rw [y] at z ⊢; simp at z; rw [← z]; exact List.mem_cons_self
      · rw [show (c == a.1) = false from by simpa using y] at z
        exact List.mem_cons_of_mem _ (ih z)
  exact List.mem_filterMap.mpr ⟨(c, o), mem K e, e2⟩
theorem wW {K : PySem.W.Frag} {h : Heap} {c P : Addr} {o : Obj} {q : Str} (X : K.In h) (l : K.lookup c = some o) (e : bq o = some (P, q)) : isCodeTable h P := by
  have ho := X _ _ l
  unfold bq at e
  split at e
  · rename_i cn vs hcls hd
    split at e
    · rename_i hcn
      subst hcn
      split at e
      · rename_i e11 e18
        split at e
        · cases e
          exact ⟨c, o, vs, ho, hcls, hd, by assumption⟩
        · cases e
      · cases e
    · cases e
  · cases e
theorem uj {K : PySem.W.Frag} {c P : Addr} {q : Str} (h : (K.lookup c).bind bq = some (P, q)) : ∃ o, K.lookup c = some o ∧ bq o = some (P, q) := Option.bind_eq_some_iff.mp h
theorem yY {K T : PySem.W.Frag} {h : Heap} (X : PySem.W.Frag.In (K ++ T) h) : K.In h := fun b o e => X b o (by
  show List.lookup b (K ++ T) = some o
  rw [List.lookup_append, show List.lookup b K = some o from e]; rfl)
theorem E4 {K : PySem.W.Frag} {mg : Str → Option Value} {bm : Addr} {sl : Array (Option Value)} (h1 : mg "__builtins__" = some (.ref bm)) (h2 : bm ≠ builtinsNs) (h3 : K.lookup bm = some ⟨.type "module", some builtinsNs, .plain, sl⟩) : Hf K mg := ⟨bm, _, h1, h2, h3, rfl, rfl, rfl⟩
theorem AB {cap : List (Option Nat)} {tx : DTX} {nm : Str} {ρ : Rho} {μ : Mu} {Q : DK} : ui cap tx nm ρ μ Q = tx (bT cap ρ) μ (fun μ' => Q (.v (.str nm)) μ') := propext Iff.rfl
theorem qy {dsp : XSp} {t : DTA} {ρ : Rho} {μ : Mu} {Xk : Mu → Prop} : l7 dsp t ρ μ Xk = t ρ μ (fun ds μ1 => dsp ds μ1 Xk) := propext Iff.rfl
theorem FG {tc : DTT} {tx ty : DTX} {ρ : Rho} {μ : Mu} {Xk : Mu → Prop} : xIf tc tx ty ρ μ Xk = tc ρ μ (fun b μ1 => if b = true then tx ρ μ1 Xk else ty ρ μ1 Xk) := propext Iff.rfl
theorem xO {td : DTS} {tx : DTX} {ρ : Rho} {μ : Mu} {Xk : Mu → Prop} : DN td tx ρ μ Xk = td { nx := fun ρ' μ' => tx ρ' μ' Xk, rt := fun _ _ => False } ρ μ := propext Iff.rfl
theorem Lp {ea : Addr} {b : Bool} {i : Nat} {ρ : Rho} {μ : Mu} {Q : DK} (h : ρ[i]? = some (some (.o ea))) : cC ea b (ag i) ρ μ Q = Q (.v (.bool b)) μ := by
  unfold cC ag
  rw [h]
  exact propext ⟨fun z => z.2, fun z => ⟨rfl, z⟩⟩
theorem rN {ea : Addr} {b : Bool} {x : Option D} {r : Rho} {μ : Mu} {Q : DK} : cC ea b (ag 1) (x :: some (.o ea) :: r) μ Q = Q (.v (.bool b)) μ := Lp rfl
def BA : PyData → Option PyData
  | .tuple [.str n, .bool b] => if b = true then some (.str n) else none
  | _ => none
theorem uV {r : Rho} {μ : Mu} {Q : DK} {ns : List (Str × Bool)} {i : Nat} (hi : r[i]? = some (some (.v (.list (ns.map fun n => .tuple [.str n.1, .bool n.2]))))) (hl : ns.length ≤ 1000) (q : Q (.v (.list ((ns.map fun n => (.tuple [.str n.1, .bool n.2] : PyData)).filterMap BA))) μ) :
    kn [none, none] (lF (ag i)) (i6 2 (bW (av 0) (bW (av 1) jX))) (dB (ag 1)) (ag 0) r μ Q := by
  rw [yR]
  show (match r[i]? with | some (some d) => _ | _ => False)
  rw [hi]
  refine ⟨by rw [List.length_map]; exact hl, fun p hp => ⟨fun i acc μ' => acc = ((ns.map fun n => (.tuple [.str n.1, .bool n.2] : PyData)).take i).filterMap BA ∧ μ' = aP μ p acc, ⟨rfl, rfl⟩, ?_, ?_⟩⟩
  · rintro i x acc μ' hx hpa ⟨e0, e1⟩
    obtain ⟨n, hn, rfl⟩ := List.mem_map.mp (List.mem_of_getElem? hx)
    have st := CF (f := BA) hx
    obtain ⟨n, b⟩ := n
    refine ⟨rfl, ⟨trivial, ?_⟩⟩
    show if b = true then _ else _
    cases b with
    | true =>
      rw [if_pos rfl]
      refine ⟨hpa, ?_, ?_⟩
      · rw [st, ← e0]; rfl
      · rw [e1, rZ]
    | false =>
      rw [if_neg (by decide)]
      refine ⟨hpa, ?_, e1⟩
      rw [st, ← e0]; simp [BA]
  · rintro acc μ' ⟨e0, e1⟩ hpa
    rw [List.take_length] at e0
    rw [e1, e0, wM hp]
    exact q
open PySem PySem.Spec PyProof.Rows
section
end
open PySem PySem.Spec PyProof.Rows
section
variable {X : Cx} {a b e : Expr} {es : List Expr} {ta tb te : DTE} {t : DTA} {p pos : Pos} {x : Str} {bid T : String}
end
open PySem PySem.Spec PyProof.Rows
section
variable {X : Cx} {es : List Expr} {x1 : Nat} {tpos : Pos}
end
open PySem PySem.Spec PyProof.Rows
section
variable {X : Cx} {e : Expr} {te : DTE} {p p2 pos pos2 : Pos}
end
open PySem PySem.Spec PyProof.Rows
def zG (fa c1 : Addr) (q : Str) (params : Arguments) (body : Expr) (lsc : Scope) (cl : List (Str × Addr)) (h : Heap) : Prop := ∃ pm ctv, h.get? fa = some { cls := .type "function", data := .func (PySem.W.kla_fn "<lambda>" (aN q) params body lsc cl pm (.ref c1) ctv) }
def GZ (q : Str) (params : Arguments) (body : Expr) (lsc : Scope) (cl : List (Str × Addr)) : PQ := fun _ u μ H => ∃ fa c1, u = .ref fa ∧ H fa = some (.ext (zG fa c1 q params body lsc cl)) ∧ H c1 = some (.ext (codeAt c1 (aN q))) ∧ μ fa = none ∧ μ c1 = none
def QL (ds : List D) : PQ := fun K u μ H => ∃ a us, u = .ref a ∧ H a = some (.lst us) ∧ μ a = none ∧ iX K μ H ds us
def QT (ds : List D) : PQ := fun K u μ H => ∃ a us, u = .ref a ∧ H a = some (.tup us) ∧ iX K μ H ds us
section
variable {X : Cx} {pins : List (Addr × Obj)} {σ : St} {H : Hp} {s : Shared}
theorem Hs {μ : Mu} {params : Arguments} {body : Expr} {lsc : Scope} {lpos : Pos} {cl : List (Str × Addr)} {c P : Addr} {o : Obj} {q : Str} {Qd : Value → Shared → Prop} (I : Inv X pins σ H s) (ok : bE X.K μ H) (hcode : X.env.code = .ref c) (hl : X.K.lookup c = some o)
    (hlc : bq o = some (P, q)) (hu : ∀ c2 o2 q2, X.K.lookup c2 = some o2 → bq o2 = some (P, q2) → q2 = q) (hq : X.env.qual = q ++ ".<locals>.") (hB : Hf X.K X.mg) (hcl : closureFor lsc X.env = pure cl) (hdef : defaultsOf params X.env = ([], []))
    (k : ∀ (fa c1 : Addr) (H1 : Hp) (s1 : Shared), Inv X pins σ H1 s1 → Ext X.K μ H μ H1 → bE X.K μ H1 → H1 fa = some (.ext (zG fa c1 q params body lsc cl)) → H1 c1 = some (.ext (codeAt c1 (aN q))) → Qd (.ref fa) s1) :
    wpAny (model X.prog X.w) X.A (eval (.Lambda params body lsc lpos) X.env) Qd X.xe s := by
  refine PySem.W.kla_eval hdef ?_
  rw [hq]
  obtain ⟨ps, hP, htr, hcs⟩ := ok.tab c o P q hl hlc
  have getP : s.heap.get? P = some (PySem.W.tabObj ps) := I.hok P _ hP
  have nK : ∀ b ob, X.K.lookup b = some ob → b ≠ P := fun b ob e z => by
    have := (I.bs b ob (I.mod.kin b ob e)).2
    rw [z, hP] at this; cases this
  have C := CL I.kIn hl hlc (nK c o hl)
  have hg : s.heap.Ns mainGlobals X.mg := I.mod.glob.keeps I.bk
  have hgP : mainGlobals ≠ P := fun z => by
    obtain ⟨og, es, ep, e, d, _⟩ := hg
    rw [z, getP] at e; cases e; cases d
  have hb : s.heap.BuiltinsAt X.mg P := by
    obtain ⟨bm, ob, b1, b2, b3, b4, b5, b6⟩ := hB
    refine ⟨bm, ob, b1, b2, fun z => ?_, nK bm ob b3, I.kIn _ _ b3, b4, b5, b6⟩
    obtain ⟨og, es, ep, e, d, _⟩ := hg
    rw [← z, I.kIn _ _ b3] at e; cases e; rw [b6] at d; cases d
  have stk : ∀ b, s.heap.objs.size ≤ b → b ∉ frs X.stack := fun b hb hm => by
    obtain ⟨_, ob, e, _⟩ := I.stack.mem hm
    exact absurd (Heap.lt_size e) (Nat.not_lt.mpr hb)
  cases hf : codeAmong lpos ps.toList with
  | some cv =>
    obtain ⟨c1, rfl, hc1⟩ := hcs lpos cv hf
    refine PySem.W.kla_makeFunctionHit hcl I.ok.glob hg hcode C getP htr hf hb fun ctv h' tk hk hsz => ?_
    have fr := I.hok.fresh hsz
    have I2 := I.laid (t' := tk) (h' := h'.push { cls := .type "function", data := .func (PySem.W.kla_fn "<lambda>" (aN q) params body lsc cl ((X.mg "__name__").getD .none) (.ref c1) ctv) }) (a := h'.objs.size) (o := .ext (zG h'.objs.size c1 q params body lsc cl)) (fun b u e => Heap.get?_push_of_some _ (hk b u e)) hsz ⟨⟨_, _, Heap.get?_push_size _ rfl⟩, ⟨_, Heap.get?_push_size _ rfl⟩, fun h1 h2 ⟨pm, ct, e⟩ kk => ⟨pm, ct, kk _ e⟩⟩
    exact k h'.objs.size c1 _ _ I2 (cF fr) (ok.new fr) bU (by rw [aZ (aG hc1 fr)]; exact hc1)
  | none =>
    refine PySem.W.kla_makeFunction hcl I.ok.glob hg hcode C getP htr hf hgP hb fun c' ctv h' tk hx hge hlt hrec htb => ?_
    have hca : codeAt c' (aN q) h' := by
      obtain ⟨c2, oc, vs, t, e2, g2, d2, v2⟩ := hrec
      cases e2
      exact ⟨oc, vs, t, g2, d2, v2⟩
    have fc : H c' = none := I.hok.fresh hge
    have I1 : Inv X pins σ (upd (upd H P (.tbl (ps ++ [rawInt lpos.line, rawInt lpos.col, .ref c'].toArray))) c' (.ext (codeAt c' (aN q)))) { s with heap := h', toks := tk } := wX (φ := codeAt c' (aN q)) I hP hx htb hge hca (let ⟨oc, _, _, g2, _⟩ := hca; ⟨oc, g2⟩) (fun h1 h2 ⟨oc, vs, t, g2, d2, v2⟩ kk => ⟨oc, vs, t, kk _ g2, d2, v2⟩)
    have old : ∀ b, b ≠ P → b ≠ c' → upd (upd H P (.tbl (ps ++ [rawInt lpos.line, rawInt lpos.col, .ref c'].toArray))) c' (.ext (codeAt c' (aN q))) b = H b := fun b h1 h2 => by rw [aZ h2, aZ h1]
    have nPc : P ≠ c' := aG hP fc
    have ex : Ext X.K μ H μ (upd (upd H P (.tbl (ps ++ [rawInt lpos.line, rawInt lpos.col, .ref c'].toArray))) c' (.ext (codeAt c' (aN q)))) := ⟨fun b u e n nt => by rw [old b (fun z => by rw [z, hP] at e; cases e; exact nt) (aG e fc)]; exact e, fun b qs e n => by
      by_cases z : b = P
      · exact ⟨_, by rw [z, aZ nPc]; exact bU⟩
      · exact ⟨qs, by rw [old b z (aG e fc)]; exact e⟩, fun _ ds e => ⟨ds, e⟩, fun _ e _ => e⟩
    have mu : bE X.K μ (upd (upd H P (.tbl (ps ++ [rawInt lpos.line, rawInt lpos.col, .ref c'].toArray))) c' (.ext (codeAt c' (aN q)))) := ⟨fun a ds e => by
      obtain ⟨xs, h1, h2⟩ := ok a ds e
      exact ⟨xs, by rw [old a (fun z => by rw [z, hP] at h1; cases h1) (aG h1 fc)]; exact h1, h2.ext ok ex⟩, As ok.tab hP htr hcs hf fc hu⟩
    have hfr : s.heap.objs.size ≤ h'.objs.size := Nat.le_trans hge (Nat.le_of_lt hlt)
    have frn : (upd (upd H P (.tbl (ps ++ [rawInt lpos.line, rawInt lpos.col, .ref c'].toArray))) c' (.ext (codeAt c' (aN q)))) h'.objs.size = none := by
      have : h'.objs.size ≠ c' := Nat.ne_of_gt hlt
      by_cases z : h'.objs.size = P
      · exact absurd (Heap.lt_size getP) (by rw [← z]; exact Nat.not_lt.mpr hfr)
      · rw [old _ z this]; exact I.hok.fresh hfr
    have I2 := I1.laid (t' := tk) (h' := h'.push { cls := .type "function", data := .func (PySem.W.kla_fn "<lambda>" (aN q) params body lsc cl ((X.mg "__name__").getD .none) (.ref c') ctv) }) (a := h'.objs.size) (o := .ext (zG h'.objs.size c' q params body lsc cl)) (fun b u e => Heap.get?_push_of_some _ e) (Nat.le_refl _) ⟨⟨_, _, Heap.get?_push_size _ rfl⟩, ⟨_, Heap.get?_push_size _ rfl⟩, fun h1 h2 ⟨pm, ct, e⟩ kk => ⟨pm, ct, kk _ e⟩⟩
    have hc1 : (upd (upd H P (.tbl (ps ++ [rawInt lpos.line, rawInt lpos.col, .ref c'].toArray))) c' (.ext (codeAt c' (aN q)))) c' = some (.ext (codeAt c' (aN q))) := bU
    exact k h'.objs.size c' _ _ I2 (ex.trans (cF frn)) (mu.new frn) bU (by rw [aZ (aG hc1 frn)]; exact hc1)
end
section
variable {K : PySem.W.Frag} {μ : Mu} {H : Hp} {a : Addr} {us : List V} {ds : List D}
theorem LV (ok : bE K μ H) (ha : H a = some (.lst us)) (hn : μ a = none) (r : iX K μ H ds us) : RpD K μ H (.q (QL ds)) (.ref a) := fun μ' H' e => ⟨a, us, rfl, e.keep _ _ ha hn trivial, e.fresh _ hn (.inl (by rw [ha]; exact fun z => nomatch z)), r.ext ok e⟩
theorem Jo {fa c1 : Addr} {q : Str} {params : Arguments} {body : Expr} {lsc : Scope} {cl : List (Str × Addr)} (ok : bE K μ H) (h1 : H fa = some (.ext (zG fa c1 q params body lsc cl))) (h2 : H c1 = some (.ext (codeAt c1 (aN q)))) : RpD K μ H (.q (GZ q params body lsc cl)) (.ref fa) := fun μ' H' e => by
  have n1 := ok.not h1 fun _ z => nomatch z
  have n2 := ok.not h2 fun _ z => nomatch z
  exact ⟨fa, c1, rfl, e.keep _ _ h1 n1 trivial, e.keep _ _ h2 n2 trivial, e.fresh _ n1 (.inl (by rw [h1]; exact fun z => nomatch z)), e.fresh _ n2 (.inl (by rw [h2]; exact fun z => nomatch z))⟩
end
section
variable {X : Cx} {es : List Expr} {t : DTA} {pos : Pos}
def dKq (P : PQ) : DTE := fun _ μ Q => Q (.q P) μ
theorem u9 {c P : Addr} {q : Str} {params : Arguments} {body : Expr} {lsc : Scope} {lpos : Pos} {cl : List (Str × Addr)} (L : G3 X.K X.mg c P q) (hcode : X.env.code = .ref c) (hq : X.env.qual = q ++ ".<locals>.") (hdef : defaultsOf params X.env = ([], [])) (hclos : closureFor lsc X.env = pure cl) :
    DE X (.Lambda params body lsc lpos) (dKq (GZ q params body lsc cl)) := by
  refine CY fun pins s σ H ρ μ Qd Q I S h kk => ?_
  obtain ⟨o, hl, hlc⟩ := L.obj
  refine Hs I S.mu hcode hl hlc L.one hq L.blt hclos hdef fun fa c1 H1 s1 I1 ex mu h1 h2 => ?_
  exact ⟨.ref fa, H1, I1, rfl, kk (.q _) (.ref fa) μ H1 ex ⟨mu, S.rho.ext S.mu ex⟩ (Jo mu h1 h2) h⟩
def El (t : DTA) : DTE := fun ρ μ Q => t ρ μ fun ds μ1 => Q (.q (QL ds)) μ1
theorem HH (h : DA X es t) (hl : es.length ≤ 1000 := by decide) : DE X (.List es pos) (El t) := by
  obtain ⟨t1, p1, l1⟩ := h
  refine ⟨_, Gj p1, fun σ H ρ μ Qd Q S h k => ?_⟩
  refine l1 σ H ρ μ _ _ S h fun ds us μ1 H1 e1 S1 rs len h1 => ?_
  refine ⟨Nat.le_of_lt (fS (by rw [← rs.length, len]; exact hl)), fun p hp => ?_⟩
  have e2 := cF (K := X.K) (μ := μ1) (o := .lst us) hp
  have S2 := S1.new (o := .lst us) hp
  exact k (.q (QL ds)) _ μ1 _ (e1.trans e2) S2 (LV S2.mu bU (S1.mu.free hp) (rs.ext S1.mu e2)) h1
end
open PySem PySem.Spec PyProof.Rows
def Ij (K : PySem.W.Frag) (J : It) (xs : List D) (μ1 : Mu) (H1 : Hp) : Prop := ∀ μ2 H2, Ext K μ1 H1 μ2 H2 → bE K μ2 H2 → ∀ i, (i < xs.length → J.go i H2 ∧ ∀ x H', J.yld i H2 x H' → ∃ d, xs[i]? = some d ∧ n5 H2 H' ∧ RpD K μ2 H' d x) ∧ (i = xs.length → J.stop i H2)
abbrev LP := Rho → Mu → (List D → Mu → Prop) → Prop
def Kl (K : PySem.W.Frag) (wi : TI) (src : LP) : Prop := ∀ (σ : St) (H : Hp) (ρ : Rho) (μ : Mu) (Qd : List D → Mu → Prop) (R : It → Hp → Prop), St0 K H ρ μ σ → src ρ μ Qd →
  (∀ xs μ1 H1 J, Ext K μ H μ1 H1 → St0 K H1 ρ μ1 σ → Ij K J xs μ1 H1 → Qd xs μ1 → R J H1) → wi σ H R
def diQ (te : DTE) : LP := fun ρ μ Q => te ρ μ fun d μ1 => ∃ ds, d = .q (QL ds) ∧ Q ds μ1
theorem Mg {X : Cx} {e tg : Expr} {te : DTE} (h : DE X e te) : ∃ wi, PI X tg e wi ∧ Kl X.K wi (diQ te) := by
  obtain ⟨t1, p1, l1⟩ := h
  refine ⟨_, Cv p1, fun σ H ρ μ Qd R S h k => ?_⟩
  refine l1 σ H ρ μ _ _ S h fun d u μ1 H1 e1 S1 r h1 => ?_
  obtain ⟨ds, rfl, h1⟩ := h1
  obtain ⟨a, us, rfl, ha, hn, ra⟩ := r μ1 H1 .refl
  refine ⟨a, rfl, ⟨us, SqL.of ha⟩, k ds μ1 H1 _ e1 S1 (fun μ2 H2 e2 ok2 i => ⟨fun hi => ?_, fun hi => ?_⟩) h1⟩
  · have ha2 := e2.keep _ _ ha hn trivial
    have hiu : i < us.length := by rw [← ra.length]; exact hi
    refine ⟨⟨us, us[i], SqL.of ha2, by simp [hiu]⟩, fun x H' ⟨eH, hx⟩ => ?_⟩
    subst eH
    obtain ⟨u', h1', h2'⟩ := (ra.ext S1.mu e2).get (i := i) (d := ds[i]) (by simp [hi])
    have := hx us (SqL.of ha2)
    rw [this] at h1'
    cases h1'
    exact ⟨ds[i], by simp [hi], n5.refl _, h2'⟩
  · have ha2 := e2.keep _ _ ha hn trivial
    exact ⟨us, SqL.of ha2, by rw [← ra.length]; omega⟩
theorem GK {K : PySem.W.Frag} {μ : Mu} {H : Hp} {ρ : Rho} {σ : St} {d : D} {u : V} (r : eh K μ H ρ σ) (h : RpD K μ H d u) : eh K μ H (ρ ++ [some d]) (σ ++ [some u]) := by
  refine ⟨by simp [r.1], fun i x e => ?_⟩
  rcases Nat.lt_or_ge i ρ.length with z | z
  · rw [List.getElem?_append_left z] at e
    obtain ⟨v, h1, h2⟩ := r.2 i x e
    exact ⟨v, by rw [List.getElem?_append_left (by rw [← r.1]; exact z)]; exact h1, h2⟩
  · rw [List.getElem?_append_right z] at e
    have zi : i - ρ.length = 0 := by
      rcases Nat.eq_zero_or_pos (i - ρ.length) with q | q
      · exact q
      · rw [List.getElem?_eq_none (by simp; omega)] at e; cases e
    rw [zi] at e
    cases e
    exact ⟨u, by rw [List.getElem?_append_right (by rw [← r.1]; exact z), ← r.1, zi]; rfl, h⟩
def yG (cap : List (Option Nat)) (src : DTE) (g : DTG) (te : Rho → PQ → DTE) : DTE := fun ρ μ Q => diQ src ρ μ fun xs μ1 => xs.length ≤ 1000 ∧ ∃ f : Nat → PyData, (∀ (G : PQ) (i : Nat) (x : D), xs[i]? = some x → ∀ μ' : Mu, (∀ a ds, μ1 a = some ds → μ' a = some ds) → g x (bT cap ρ ++ [some (D.q G)]) μ' fun ρ2 μ2 => Le (bT cap ρ ++ [some (D.q G)]) ρ2 ∧ te ρ G ρ2 μ2 fun d μ4 => μ4 = μ' ∧ d = .v (f i)) ∧ Q (.v (.list ((List.range xs.length).map f))) μ1
theorem Fj {X : Cx} {N' : List Str} {gx : Str} {scope : Scope} {cl : List (Str × Addr)} {elt iter tg : Expr} {pos : Pos} {cap : List (Option Nat)} {src : DTE} {g : DTG} {te : Rho → PQ → DTE} (hc : X.calm = X.calm)
    (hi0 : DE X iter src) (hg : ∀ fp s₃ H₃, DG (bp X (N' ++ [gx]) scope cl fp s₃ H₃) tg g)
    (he : ∀ fp s₃ H₃ pins σ ρ μ₁ (G : PQ), Inv X pins σ H₃ s₃ → St0 X.K H₃ ρ μ₁ σ → (∀ b ∈ fp, ∀ x a, X.env.cells.lookup x = some a → a ≠ b) → (∀ u μ H, G X.K u μ H → eh X.K μ H ρ σ) → DE (bp X (N' ++ [gx]) scope cl fp s₃ H₃) elt (te ρ G))
    (hclos : closureFor scope X.env = pure cl) (hcell : ∀ y ∈ scope.names, y.2 ≠ .cell) (hkind : scope.kind = .function) (hnames : ∀ y ∈ scope.names, y.2 = .local → scope.names.lookup y.1 = some .local)
    (hcl : ∀ x a, cl.lookup x = some a → X.env.cells.lookup x = some a) (hhas : ∀ x, (relabel scope X.env).names.lookup x = some .cell ∨ (relabel scope X.env).names.lookup x = some .free → ∃ a, cl.lookup x = some a)
    (hlen : cap.length = N'.length) (hcap : ∀ (i j : Nat) (x : Str), cap[i]? = some (some j) → N'[i]? = some x → X.N[j]? = some x ∧ Vis X.env.scope x ∧ X.env.kindOf x ≠ some .local ∧ ((relabel scope X.env).names.lookup x = some .cell ∨ (relabel scope X.env).names.lookup x = some .free))
    (hgx : (relabel scope X.env).names.lookup gx = none) (hs : ∀ x, foldedSetIterable iter X.env x = pure x := by intro _; rfl) : DE X (.ListComp elt [⟨tg, iter, [], 0⟩] scope pos) (yG cap src g te) := by
  refine CY fun pins s σ H ρ μ Qd Q I S h k => ?_
  obtain ⟨wi, pw, li⟩ := Mg (tg := tg) hi0
  rw [eval_ListComp]
  refine wpAny_comprehension_free (use := none) rfl hs hclos hkind hnames (thn (pw pins s σ H _ I (li σ H ρ μ _ (fun J H1 => ∃ xs μ1, Ext X.K μ H μ1 H1 ∧ St0 X.K H1 ρ μ1 σ ∧ Ij X.K J xs μ1 H1 ∧ xs.length ≤ 1000 ∧ ∃ f : Nat → PyData, (∀ (G : PQ) (i : Nat) (x : D), xs[i]? = some x → ∀ μ' : Mu, (∀ a ds, μ1 a = some ds → μ' a = some ds) → g x (bT cap ρ ++ [some (D.q G)]) μ' fun ρ2 μ2 => Le (bT cap ρ ++ [some (D.q G)]) ρ2 ∧ te ρ G ρ2 μ2 fun d μ4 => μ4 = μ' ∧ d = .v (f i)) ∧ Qd (.v (.list ((List.range xs.length).map f))) μ1) S h (fun xs μ1 H1 J e1 S1 it q => ⟨xs, μ1, e1, S1, it, q⟩)))
    fun v s1 h1 => thn h1 fun itv s2 h2 => ?_)
  obtain ⟨it, fp, tn, J, H2, rfl, I2, T, st2, f2, xs, μ1, e1, S1, itok, hxs, f, body, fin⟩ := h2
  refine wpAny_newObj_type (wpAny_newFunctionEnv hcell (by intro y hy; simp at hy) (fun h₁ hns₁ hsb₁ => ?_) hkind)
  dsimp only at hns₁ hsb₁ ⊢
  have hfree2 : H2 s2.heap.objs.size = none := I2.hok.fresh (Nat.le_refl _)
  have hK2 : X.K.lookup s2.heap.objs.size = none := by
    cases z : X.K.lookup s2.heap.objs.size with
    | none => rfl
    | some o => exact absurd (Heap.lt_size (I2.kIn _ _ z)) (Nat.lt_irrefl _)
  have I3 : Inv X pins σ (upd H2 s2.heap.objs.size (.lst [])) { s2 with heap := s2.heap.push { cls := .type "list", dict := none, data := .seq ([] : List Value).toArray } } :=
    I2.laid (t' := s2.toks) (fun b u e => Heap.get?_push_of_some _ e) (Nat.le_refl _) ⟨Nat.zero_le _, [], 0, .nil, Heap.get?_push_size _ rfl⟩
  generalize hH : s2.heap.push { cls := .type "list", dict := none, data := .seq ([] : List Value).toArray } = hp3 at hns₁ hsb₁ I3 ⊢
  have hsz3 : hp3.objs.size = s2.heap.objs.size + 1 := by rw [← hH, Heap.size_push]
  have kept3 : ∀ b o, hp3.get? b = some o → h₁.get? b = some o := fun b o e => hsb₁.extBut b o (Nat.ne_of_lt (Heap.lt_size e)) (Heap.get?_push_of_some _ e)
  have old3 : ∀ b o, s2.heap.get? b = some o → hp3.get? b = some o := fun b o e => by rw [← hH]; exact Heap.get?_push_of_some _ e
  have fplt : ∀ b ∈ fp, b < s2.heap.objs.size := fun b hb => by obtain ⟨o, e, _⟩ := T.obj 0 _ st2 b hb; exact Heap.lt_size e
  have fpst : ∀ b ∈ fp, b ∉ frs X.stack := fun b hb hz => by
    rcases List.mem_cons.mp (I2.sG b hz) with e | e
    · exact (f2 b hb).2.1 e
    · exact (f2 b hb).2.2.1 e
  obtain ⟨s3, hs3⟩ : ∃ s3 : Shared, s3 = { s2 with heap := hp3 } := ⟨_, rfl⟩
  obtain ⟨H3, hH3⟩ : ∃ H3 : Hp, H3 = upd H2 s2.heap.objs.size (.lst []) := ⟨_, rfl⟩
  have heap3 : s3.heap = hp3 := by rw [hs3]
  rw [← hH3] at I3
  have I3' : Inv X pins σ H3 s3 := by rw [hs3]; exact I3
  have hloc : H3 hp3.objs.size = none := by have := I3'.hok.fresh (a := hp3.objs.size) (by rw [heap3]; exact Nat.le_refl _); exact this
  have okc : (bp X (N' ++ [gx]) scope cl fp s3 H3).Ok := by
    refine ⟨I3.ok.mod, ?_, I3.ok.glob, I3.ok.blt, Nat.le_refl _, fun x y a h1 h2 => I3.ok.inj x y a (hcl x a h1) (hcl y a h2), fun x hx => hhas x hx, fun x a h => (nomatch h), I3.ok.hd, I3.ok.qt, I3.ok.frames, .inl rfl, fun b hb => ⟨?_, fun x a h => (f2 b hb).2.2.2.2.1 x a (hcl x a h)⟩,
      I3'.bs, Nat.le_trans I3.ok.bsz I3'.sz, fun b o e hb => ?_, fun b hb => fpst b hb, I3'.stack, I3'.uv⟩
    · exact hkind
    · show b ≠ s3.heap.objs.size
      rw [heap3, hsz3]
      exact Nat.ne_of_lt (Nat.lt_succ_of_lt (fplt b hb))
    · rcases (f2 b hb).2.2.2.1 with z | z
      · exact I3.ok.B8 b o e z
      · exact absurd (Nat.lt_of_lt_of_le (Heap.lt_size (I3.ok.bs b o e).1) z) (Nat.lt_irrefl _)
  have I4 : Inv (bp X (N' ++ [gx]) scope cl fp s3 H3) [] (bT cap σ ++ [some .non]) H3 { s2 with heap := h₁, toks := s2.toks + ([] : List (Str × Value)).length } := by
    refine ⟨okc, by show s2.os = s3.os; rw [hs3], I3.bare, Un.kept (by show ∀ b o, s3.heap.get? b = some o → _; rw [heap3]; exact kept3), ⟨_, (by show h₁.Ns s3.heap.objs.size _; rw [heap3]; exact hns₁), fun i x v e1 e2 e3 => ?_⟩, fun x a h => ?_, (by show H3 s3.heap.objs.size = none; rw [heap3]; exact hloc), fun x a h => I3.gI x a (hcl x a h), fun p hp => ?_, I3.hok.kept kept3, ?_⟩
    · have lenS : (bT cap σ).length = N'.length := by unfold bT; rw [List.length_map]; exact hlen
      have hlt : i < N'.length := by
        rcases Nat.lt_trichotomy i N'.length with z | z | z
        · exact z
        · exfalso
          have e1' : (N' ++ [gx])[i]? = some x := e1
          rw [z, List.getElem?_append_right (Nat.le_refl _), Nat.sub_self] at e1'
          have : gx = x := by simpa using e1'
          subst this
          have e3' : Vis (relabel scope X.env) gx := e3
          rcases e3' with q | q | q <;> rw [hgx] at q <;> cases q
        · exfalso
          have e1' : (N' ++ [gx])[i]? = some x := e1
          rw [List.getElem?_eq_none (by simp; omega)] at e1'
          cases e1'
      have e1 : N'[i]? = some x := by have q : (N' ++ [gx])[i]? = some x := e1; rwa [List.getElem?_append_left hlt] at q
      have e2 : (bT cap σ)[i]? = some (some v) := by rwa [List.getElem?_append_left (by rw [lenS]; exact hlt)] at e2
      obtain ⟨j, h1, h2⟩ := mQ e2
      obtain ⟨hN, hv, hnl, hk⟩ := hcap i j x h1 e1
      obtain ⟨m, _, hl⟩ := I3.loc
      obtain ⟨u, r, lk⟩ := hl j x v hN h2 hv
      refine ⟨u, r, .inr ⟨hk, ?_⟩⟩
      obtain ⟨a, ha⟩ := hhas x hk
      rcases lk with ⟨z, _⟩ | ⟨_, a', z1, z2⟩
      · exact absurd z hnl
      · have : a' = a := by have q := hcl x a ha; rw [z1] at q; exact Option.some.inj q
        subst this
        obtain ⟨o, ho, hd⟩ := z2
        exact ⟨a', ha, o, kept3 _ _ ho, hd⟩
    · obtain ⟨v, o, ho, hd⟩ := I3.cell x a (hcl x a h)
      exact ⟨v, o, kept3 _ _ ho, hd⟩
    · have hp' : p ∈ X.pn ++ pins := List.mem_append_left _ (by simpa using (show p ∈ X.pn ++ [] from hp))
      obtain ⟨z1, z2, z3, z4, z5⟩ := I3'.pin p hp'
      refine ⟨kept3 _ _ (by rw [← heap3]; exact z1), z2, (show p.1 ≠ s3.heap.objs.size from Nat.ne_of_lt (Heap.lt_size z1)), fun z => ?_, z5⟩
      rcases List.mem_cons.mp (I3'.sG p.1 z) with e | e
      · exact z3 e
      · exact z4 e
    · show (bT cap σ ++ [some V.non]).length = (N' ++ [gx]).length
      unfold bT
      rw [List.length_append, List.length_append, List.length_map, hlen]
      rfl
  have hμ1 : μ1 s2.heap.objs.size = none := S1.mu.free hfree2
  have sub1 : ∀ ys a ds, μ1 a = some ds → aP μ1 s2.heap.objs.size ys a = some ds := fun ys a ds e => by
    have : a ≠ s2.heap.objs.size := fun z => by rw [z, hμ1] at e; cases e
    rw [dF this]; exact e
  obtain ⟨G, hG⟩ : ∃ G : PQ, G = fun K _ μ H => eh K μ H ρ σ := ⟨_, rfl⟩
  have hGr : ∀ u μ H, G X.K u μ H → eh X.K μ H ρ σ := fun u μ H h => by rw [hG] at h; exact h
  have S3r : St0 X.K H3 ρ μ1 σ := by rw [hH3]; exact S1.new hfree2
  have loop : codeAny (model X.prog X.w) X.A (.compLoop (.ListComp elt [⟨tg, iter, [], 0⟩] scope pos) 0 (.ref it) (.ref s2.heap.objs.size) (bp X (N' ++ [gx]) scope cl fp s3 H3).env)
      (compPost (model X.prog X.w) X.A X.xe none (EP X pins σ Q) (.ref s2.heap.objs.size) hp3.objs.size) { s2 with heap := h₁, toks := s2.toks + ([] : List (Str × Value)).length } := by
    refine jO (fun n s' => ∃ (i : Nat) (σc : St) (Hc : Hp), n = xs.length - i ∧ i ≤ xs.length ∧ Inv (bp X (N' ++ [gx]) scope cl fp s3 H3) [] σc Hc s' ∧ tn i s'.heap ∧ (∀ b ∈ fp, Hc b = none) ∧
      St0 X.K Hc (bT cap ρ ++ [some (D.q G)]) (aP μ1 s2.heap.objs.size ((List.range i).map f)) σc ∧ Ext X.K μ1 H2 (aP μ1 s2.heap.objs.size ((List.range i).map f)) Hc) ?_ xs.length
      ⟨0, bT cap σ ++ [some .non], H3, by simp, Nat.zero_le _, I4, T.keep 0 _ _ st2 (fun b hb o e => kept3 b o (old3 b o e)), fun b hb => ?_, ?_, ?_⟩
    · rintro n s' ⟨i, σc, Hc, rfl, hi, Ic, tc, frc, Sc, Ec⟩
      have stat : ∀ {Hd : Hp}, (∀ b ∈ fp, Hd b = none) → ∀ b ∈ fp, yF (bp X (N' ++ [gx]) scope cl fp s3 H3) [] Hd b := fun hn b hb =>
        ⟨hn b hb, (okc.exf b hb).1, fpst b hb, .inl hb, fun x a h => (okc.exf b hb).2 x a h, fun p hp => (f2 b hb).2.2.2.2.2 p (List.mem_append_left _ (by simpa using (show p ∈ X.pn ++ [] from hp)))⟩
      obtain ⟨go, stop⟩ := itok _ Hc Ec Sc.mu i
      by_cases hlt : i < xs.length
      · obtain ⟨g1, y1⟩ := go hlt
        refine thn (T.item (bp X (N' ++ [gx]) scope cl fp s3 H3) rfl rfl rfl (fun z => z) i [] s' σc Hc (fun _ _ => False) Ic (stat frc) tc g1) fun r s4 ⟨u, hr, h4⟩ => ?_
        subst hr
        refine thn h4 fun _ s5 ⟨x, H5, I5, r5, y5, st5, fr5⟩ => ?_
        obtain ⟨d, hd, sm, rd⟩ := y1 x H5 y5
        have I5' := I5.pinned (stat fr5) (T.obj _ _ st5)
        have e5 : Ext X.K _ Hc _ H5 := .of_same (μ := aP μ1 s2.heap.objs.size ((List.range i).map f)) sm
        have S5 : St0 X.K H5 (bT cap ρ ++ [some (D.q G)]) (aP μ1 s2.heap.objs.size ((List.range i).map f)) σc := ⟨Sc.mu.Hk e5 sm, Sc.rho.ext Sc.mu e5⟩
        obtain ⟨gt, pg, lg⟩ := hg fp s3 H3
        have hmem : d ∈ xs := List.mem_of_getElem? hd
        refine thn (pg _ s5 σc H5 x u (fun σ' H' => ∃ ρ' μ', Ext X.K (aP μ1 s2.heap.objs.size ((List.range i).map f)) H5 μ' H' ∧ St0 X.K H' ρ' μ' σ' ∧ Le (bT cap ρ ++ [some (D.q G)]) ρ' ∧ te ρ G ρ' μ' fun d' μ4 => μ4 = aP μ1 s2.heap.objs.size ((List.range i).map f) ∧ d' = .v (f i)) I5' r5
          (lg σc H5 (bT cap ρ ++ [some (D.q G)]) _ d x _ _ S5 rd (body G i d hd _ (sub1 _)) fun σ' ρ' μ' H' e' S' q => ⟨ρ', μ', e', S', q⟩)) fun _ s6 ⟨σ6, H6, I6, ρ6, μ6, e6, S6, le6, q6⟩ => ?_
        have again : ∀ {H9 : Hp} {s9 : Shared}, Inv (bp X (N' ++ [gx]) scope cl fp s3 H3) ([] ++ sD fp s5.heap) σ6 H9 s9 → bE X.K (aP μ1 s2.heap.objs.size ((List.range (i + 1)).map f)) H9 → eh X.K (aP μ1 s2.heap.objs.size ((List.range (i + 1)).map f)) H9 (bT cap ρ ++ [some (D.q G)]) σ6 →
            Ext X.K μ1 H2 (aP μ1 s2.heap.objs.size ((List.range (i + 1)).map f)) H9 → ∃ m, m < xs.length - i ∧ ∃ (i : Nat) (σc : St) (Hc : Hp), m = xs.length - i ∧ i ≤ xs.length ∧ Inv (bp X (N' ++ [gx]) scope cl fp s3 H3) [] σc Hc s9 ∧ tn i s9.heap ∧ (∀ b ∈ fp, Hc b = none) ∧
              St0 X.K Hc (bT cap ρ ++ [some (D.q G)]) (aP μ1 s2.heap.objs.size ((List.range i).map f)) σc ∧ Ext X.K μ1 H2 (aP μ1 s2.heap.objs.size ((List.range i).map f)) Hc := fun {H9 s9} I9 m9 r9 e9 => by
          refine ⟨xs.length - (i + 1), by omega, i + 1, σ6, H9, rfl, hlt, I9.kJ, T.keep _ _ _ st5 fun b hb o e => (I9.pin (b, o) (List.mem_append_right _ (List.mem_append_right _ (fA hb e)))).1, fun b hb => ?_, ⟨m9, r9⟩, e9⟩
          obtain ⟨o, e, _⟩ := T.obj _ _ st5 b hb
          exact (I9.pin (b, o) (List.mem_append_right _ (List.mem_append_right _ (fA hb e)))).2.1
        refine wpAny_tests_nil (yf ?_)
        · skip
          obtain ⟨t8, p8, l8⟩ := he fp s3 H3 pins σ ρ μ1 G I3' S3r (fun b hb x a h => (f2 b hb).2.2.2.2.1 x a h) hGr
          refine thn (p8 _ s6 σ6 H6 (fun v H' => ∃ y, Ext X.K μ6 H6 (aP μ1 s2.heap.objs.size ((List.range i).map f)) H' ∧ St0 X.K H' ρ6 (aP μ1 s2.heap.objs.size ((List.range i).map f)) σ6 ∧ Rp X.K (aP μ1 s2.heap.objs.size ((List.range i).map f)) H' y v ∧ f i = y) I6
            (l8 σ6 H6 ρ6 μ6 _ _ S6 q6 fun d' v μ8 H8 e8 S8 r8 q8 => ?_)) fun v s8 ⟨v8, H8, I8, r8, y, e8, S8, ry, fy⟩ => ?_
          · obtain ⟨rfl, rfl⟩ := q8
            exact ⟨_, e8, S8, r8, rfl⟩
          · obtain ⟨us, hacc, rus⟩ := S8.mu s2.heap.objs.size _ aQ
            have hle : ((List.range i).map f).length ≤ 1000 := by rw [List.length_map, List.length_range]; omega
            refine thn (rS (X := bp X (N' ++ [gx]) scope cl fp s3 H3) _ s8 σ6 H8 (.ref s2.heap.objs.size) [v8] (.ref s2.heap.objs.size) [v] (fun _ H' => H' = upd H8 s2.heap.objs.size (.lst (us ++ [v8]))) I8 rfl (.cons r8 .nil) ⟨_, us, v8, rfl, rfl, hacc, by rw [← rus.length]; exact fS hle, rfl⟩) fun _ s9 ⟨_, H9, I9, _, e9⟩ => ?_
            subst e9
            have et : (List.range (i + 1)).map f = (List.range i).map f ++ [y] := by rw [List.range_succ, List.map_append, ← fy]; rfl
            have mset : aP (aP μ1 s2.heap.objs.size ((List.range i).map f)) s2.heap.objs.size ((List.range (i + 1)).map f) = aP μ1 s2.heap.objs.size ((List.range (i + 1)).map f) := rZ
            have ex : Ext X.K (aP μ1 s2.heap.objs.size ((List.range i).map f)) H8 (aP μ1 s2.heap.objs.size ((List.range (i + 1)).map f)) (upd H8 s2.heap.objs.size (.lst (us ++ [v8]))) := by
              rw [← mset]
              exact qF aQ
            refine again I9 ?_ ((S8.rho.le le6).ext S8.mu ex) (Ec.trans (e5.trans (e6.trans (e8.trans ex))))
            rw [← mset]
            refine S8.mu.set aQ ?_
            rw [et]
            exact rus.append (.cons ry .nil)
      · have ei : i = xs.length := by omega
        subst ei
        refine thn (T.done (bp X (N' ++ [gx]) scope cl fp s3 H3) rfl rfl rfl (fun z => z) _ [] s' σc Hc (fun _ _ => False) Ic (stat frc) tc (stop rfl)) fun r s4 ⟨hr, I5⟩ => ?_
        subst hr
        obtain ⟨m, hn, _⟩ := I5.loc
        refine ⟨m, (by have z : s4.heap.Ns s3.heap.objs.size m := hn; rw [heap3] at z; exact z), fun h' hs' => ?_⟩
        have kp : ∀ b o, b < s2.heap.objs.size → s4.heap.get? b = some o → h'.get? b = some o := fun b o hb e => hs'.extBut b o (by rw [hsz3]; exact Nat.ne_of_lt (Nat.lt_succ_of_lt hb)) e
        have hcC : Hc hp3.objs.size = none := by have z : Hc s3.heap.objs.size = none := I5.free; rw [heap3] at z; exact z
        have hok' : HOk X.prog X.w Hc h' := fun b ob e => by
          refine (I5.hok b ob e).u0 (fun cc v hcc q => hs'.extBut cc v ?_ q) (fun _ q => q) fun _ _ q => q
          rintro rfl
          rcases hcc with z | z
          · rw [← z, hcC] at e; cases e
          · rw [hcC] at z; cases z
        have u1 : Un (frs X.stack) fp H2 H3 s2.heap s3.heap := by rw [heap3, hH3]; exact Un.laid old3 (Nat.le_refl _) hfree2
        have u2 : Un (frs X.stack) fp H3 Hc s3.heap s4.heap := I5.base
        have If : Inv X pins σ Hc { s4 with heap := h' } := I2.zD (ch := fp) (by show s4.os = s2.os; have z : s4.os = s3.os := I5.os; rw [z, hs3]) (Un.after (u1.trans u2) kp) hok' I5.bare fun b hb => ⟨(f2 b hb).2.2.2.1, (f2 b hb).2.1, (f2 b hb).2.2.2.2.1, (f2 b hb).2.2.2.2.2⟩
        obtain ⟨us, hacc, rus⟩ := Sc.mu s2.heap.objs.size _ aQ
        have shr : ∀ a, aP μ1 s2.heap.objs.size ((List.range xs.length).map f) a = none → μ1 a = none := fun a e => by
          by_cases ha : a = s2.heap.objs.size
          · rw [ha]; exact hμ1
          · rw [dF ha] at e; exact e
        have eF : Ext X.K μ1 H2 μ1 Hc := ⟨Ec.keep, Ec.tb, fun _ ds q => ⟨ds, q⟩, fun _ q _ => q⟩
        have mF : bE X.K μ1 Hc := ⟨fun a ds q => by
          obtain ⟨ys, z1, z2⟩ := Sc.mu a ds (sub1 _ a ds q)
          exact ⟨ys, z1, z2.shrink shr⟩, Sc.mu.tab⟩
        exact ⟨.ref s2.heap.objs.size, Hc, If, rfl, k (.v (.list ((List.range xs.length).map f))) _ μ1 Hc (e1.trans eF) ⟨mF, S1.rho.ext S1.mu eF⟩ (Rp.list hacc hμ1 (rus.shrink shr)) fin⟩
    · have z : b ≠ s2.heap.objs.size := Nat.ne_of_lt (fplt b hb)
      rw [hH3, aZ z]
      exact (f2 b hb).1
    · have ex := nL (o := .lst []) (ds := []) S1.mu hfree2 hK2
      rw [hH3]
      exact ⟨S1.mu.mut .nil hfree2 hK2, GK (S1.rho.ext S1.mu ex).cap (fun μ' H' e' => by rw [hG]; exact (S1.rho.ext S1.mu ex).ext (S1.mu.mut .nil hfree2 hK2) e')⟩
    · rw [hH3]
      exact nL (o := .lst []) (ds := []) S1.mu hfree2 hK2
  have envE : (bp X (N' ++ [gx]) scope cl fp s3 H3).env = compEnvC scope cl hp3.objs.size X.env := by show compEnvC scope cl s3.heap.objs.size X.env = _; rw [heap3]
  rw [envE] at loop
  exact codeAny_compStart_list loop (T.self X.A 0 _ _ _ (T.keep 0 _ _ st2 (fun b hb o e => kept3 b o (old3 b o e))) loop)
open PySem PySem.Spec PyProof.Rows
structure BZ where
  P : PQ
  cap : List (Option Nat)
  tx : DTX
  nm : PyData
def FU (ρo : Rho) (G : PQ) (gi vi : Nat) (tb : List BZ) : DTE := fun ρ μ Q => ρ[gi]? = some (some (.q G)) ∧ ∃ e ∈ tb, ρ[vi]? = some (some (.q e.P)) ∧ e.tx (bT e.cap ρo) μ fun μ' => Q (.v e.nm) μ'
def BG (X : Cx) (k : Nat) (f : Addr) (fd : FuncData) (dn : Str) (e : BZ) : Prop :=
  ∃ (C : Value) (q : Str) (params : Arguments) (body : Expr) (lsc : Scope) (cl : List (Str × Addr)) (N' : List Str) (nm : Str), e.nm = .str nm ∧ e.P = GZ q params body lsc cl ∧ vG X.prog X.w X.K X.mg X.base k f fd dn C nm ∧
    (∀ (A' : Around) (outer' : List Env) (s' : Shared) (H' : Hp) (fa c1 : Addr) (E : XK), eT (k - 1) (lZ X.prog X.w X.K X.mg X.base N' lsc cl (aN q) fa c1 A' outer' s' H' E).A → XE (lZ X.prog X.w X.K X.mg X.base N' lsc cl (aN q) fa c1 A' outer' s' H' E) E C body e.tx) ∧
    (∀ (pm ctv : Value) (c1 : Addr), bindArgs (PySem.W.kla_fn "<lambda>" (aN q) params body lsc cl pm (.ref c1) ctv) ⟨[], []⟩ = pure []) ∧ lsc.kind = .function ∧ lsc.isCoroutine = false ∧ lsc.isGenerator = false ∧ (∀ y ∈ lsc.names, y.2 ≠ .cell) ∧
    (∀ x a, cl.lookup x = some a → X.env.cells.lookup x = some a) ∧ (∀ x, lsc.names.lookup x = some .cell ∨ lsc.names.lookup x = some .free → ∃ a, cl.lookup x = some a) ∧ e.cap.length = N'.length ∧
    (∀ (i j : Nat) (x : Str), e.cap[i]? = some (some j) → N'[i]? = some x → X.N[j]? = some x ∧ Vis X.env.scope x ∧ X.env.kindOf x ≠ some .local ∧ lsc.names.lookup x = some .free)
theorem zl {X : Cx} {k : Nat} {f : Addr} {fd : FuncData} {dn q nm : Str} {C : Value} {params : Arguments} {body : Expr} {lsc : Scope} {cl : List (Str × Addr)} {N' : List Str} {cap : List (Option Nat)} {tx : DTX}
    (R : vG X.prog X.w X.K X.mg X.base k f fd dn C nm) (he : ∀ (A' : Around) (outer' : List Env) (s' : Shared) (H' : Hp) (fa c1 : Addr) (E : XK), eT (k - 1) (lZ X.prog X.w X.K X.mg X.base N' lsc cl (aN q) fa c1 A' outer' s' H' E).A → XE (lZ X.prog X.w X.K X.mg X.base N' lsc cl (aN q) fa c1 A' outer' s' H' E) E C body tx)
    (hbind : ∀ (pm ctv : Value) (c1 : Addr), bindArgs (PySem.W.kla_fn "<lambda>" (aN q) params body lsc cl pm (.ref c1) ctv) ⟨[], []⟩ = pure [])
    (hkind : lsc.kind = .function) (hco : lsc.isCoroutine = false) (hgen : lsc.isGenerator = false) (hcell : ∀ y ∈ lsc.names, y.2 ≠ .cell) (hcl : ∀ x a, cl.lookup x = some a → X.env.cells.lookup x = some a) (hhas : ∀ x, lsc.names.lookup x = some .cell ∨ lsc.names.lookup x = some .free → ∃ a, cl.lookup x = some a)
    (hlen : cap.length = N'.length) (hcap : ∀ (i j : Nat) (x : Str), cap[i]? = some (some j) → N'[i]? = some x → X.N[j]? = some x ∧ Vis X.env.scope x ∧ X.env.kindOf x ≠ some .local ∧ lsc.names.lookup x = some .free) :
    BG X k f fd dn ⟨GZ q params body lsc cl, cap, tx, .str nm⟩ := ⟨C, q, params, body, lsc, cl, N', nm, rfl, rfl, R, he, hbind, hkind, hco, hgen, hcell, hcl, hhas, hlen, hcap⟩
def xK (X : Cx) (k : Nat) (f : Addr) (fd : FuncData) (dn : Str) (tb : List BZ) : Prop := ∀ e ∈ tb, BG X k f fd dn e
theorem Gd {X : Cx} {k : Nat} {f : Addr} {fd : FuncData} {dn : Str} : xK X k f fd dn [] := fun _ h => nomatch h
theorem kX {X : Cx} {k : Nat} {f : Addr} {fd : FuncData} {dn : Str} {e : BZ} {tb : List BZ} (h : BG X k f fd dn e) (t : xK X k f fd dn tb) : xK X k f fd dn (e :: tb) := fun x hx => by
  rcases List.mem_cons.mp hx with rfl | hx
  · exact h
  · exact t x hx
theorem Bx {X : Cx} {k : Nat} {f : Addr} {fd : FuncData} {dn rn vn : Str} {N₁ : List Str} {scope : Scope} {cl₀ : List (Str × Addr)} {fp : List Addr} {s₃ : Shared} {H₃ : Hp} {pins : List (Addr × Obj)} {σ : St} {ρo : Rho} {G : PQ} {gi vi : Nat} {tb : List BZ} {p pv pos : Pos}
    (I3 : Inv X pins σ H₃ s₃) (hfp : ∀ b ∈ fp, ∀ x a, X.env.cells.lookup x = some a → a ≠ b) (hG : ∀ u μ H, G X.K u μ H → eh X.K μ H ρo σ) (T : xK X k f fd dn tb)
    (hr : eT (k + 1) X.A) (hk0 : 0 < k) (hg : Gl (bp X N₁ scope cl₀ fp s₃ H₃) rn) (hm : X.mg rn = some (.ref f)) (hk : PySem.W.keepIn X.K (.ref f) = true) (hb : Binds X.K fd [dn] [])
    (hN : N₁[vi]? = some vn) (hv : Vis (bp X N₁ scope cl₀ fp s₃ H₃).env.scope vn)
    (hdb : (rn == ("__debug__" : Str)) = false := by decide) (hd : (vn == ("__debug__" : Str)) = false := by decide) (hcd : (vn == ("__classdict__" : Str)) = false := by decide)
    (hst : starEach [.Name vn pv] (bp X N₁ scope cl₀ fp s₃ H₃).env = [(false, eval (.Name vn pv) (bp X N₁ scope cl₀ fp s₃ H₃).env)] := by rfl) :
    DE (bp X N₁ scope cl₀ fp s₃ H₃) (.Call (.Name rn p) [.Name vn pv] [] pos) (FU ρo G gi vi tb) := by
  refine CY fun pins' s' σ' H' ρ' μ' Qd Q I S h kk => ?_
  obtain ⟨hgi, e, he, hvi, htx⟩ := h
  obtain ⟨C, q, params, body, lsc, cl, N', nm, hnm, hP, R, hbody, hbind, hkind, hco, hgen, hcell, hcl, hhas, hlen, hcap⟩ := T e he
  obtain ⟨ug, hug, rg⟩ := S.rho.2 gi _ hgi
  have rr : eh X.K μ' H' ρo σ := hG ug μ' H' (rg μ' H' .refl)
  obtain ⟨ul, hul, rl⟩ := S.rho.2 vi _ hvi
  rw [hP] at rl
  rw [hnm] at htx
  obtain ⟨fa, c1, rfl, hfa, hc1, n1, n2⟩ := rl μ' H' .refl
  refine wpAny_Call_Name_kw (nN I hg hm ?_ hdb)
  have pa : PA (bp X N₁ scope cl₀ fp s₃ H₃) [.Name vn pv] (Iw (JE vi) LG) := ip (Ci hN hv hd hcd) oO (by rw [hst]; rfl)
  refine PySem.W.callWith_K (h₀ := X.base) I.ok.mod.kin hk (thn (pa pos pins' s' σ' H' (fun xs H1 => xs = [.ref fa] ∧ H1 = H') I ⟨.ref fa, hul, rfl, rfl⟩) fun us s1 ⟨vs, H1, I1, r, z1, z2⟩ => ⟨I1.kIn, ?_⟩) (by rw [hst]; rfl) rfl
  subst z1 z2
  obtain rfl : us = [.ref fa] := by
    cases r with
    | cons r1 r2 => cases r2; cases r1; rfl
  refine wpAny_call (codeAny_mono (R.run X.A X.stack s1 H1 fa (fun H' => ∃ μ'', Ext X.K μ' H1 μ'' H' ∧ bE X.K μ'' H' ∧ Qd (.v (.str nm)) μ'') Q hr I1.GW (hb s1 [.ref fa] I1.kIn rfl) (fun A' outer' s' hr' e0' un => ?_) fun H' ⟨μ'', e', ok', q'⟩ => ?_) fun r s' hq' => ?_)
  · obtain ⟨⟨pm, ctv, ho'⟩, _, _⟩ := e0'.hok fa _ hfa
    refine ⟨⟨_, _, _, _, ho'⟩, ?_⟩
    obtain ⟨k', rfl⟩ : ∃ k', k = k' + 1 := ⟨k - 1, by omega⟩
    obtain ⟨t, pe, l⟩ := hbody A' outer' s' H1 fa c1 (fun cls _ H' => cls = C ∧ ∃ μ'', Ext X.K μ' H1 μ'' H' ∧ bE X.K μ'' H' ∧ Qd (.v (.str nm)) μ'') (hr'.deeper _)
    have base : Un (bp X N₁ scope cl₀ fp s₃ H₃).fs fp H₃ H1 s₃.heap s1.heap := I1.base
    have nfp : ∀ x cc, X.env.cells.lookup x = some cc → cc ∉ fp := fun x cc hx z => hfp cc z x cc hx rfl
    have frC : ∀ x cc, X.env.cells.lookup x = some cc → H1 cc = none := fun x cc hx => by
      obtain ⟨v, oc, ec, dc⟩ := I3.cell x cc hx
      exact base.free cc oc ec (I3.gI x cc hx) (nfp x cc hx)
    have cellK : ∀ x cc v, X.env.cells.lookup x = some cc → s₃.heap.IsCell cc v → s'.heap.IsCell cc v := fun x cc v hx ⟨oc, ec, dc⟩ => by
      obtain ⟨sl, e2⟩ := base.any ec (I3.gI x cc hx) (nfp x cc hx)
      obtain ⟨sl', e3⟩ := un.any e2 (frC x cc hx) (fun z => nomatch z)
      exact ⟨_, e3, dc⟩
    refine Aq (σ := bT e.cap σ) (N := N') hkind hco hgen hcell hr' e0' ho' hc1 (hbind pm ctv c1) ⟨fun x cc hx => ?_, fun x cc hx => frC x cc (hcl x cc hx), fun x y cc h1 h2 => I3.ok.inj x y cc (hcl x cc h1) (hcl y cc h2), hhas, fun i x v h1 h2 h3 => ?_, ?_⟩ pe (l _ H1 (bT e.cap ρo) μ' (fun μ'' => Qd (.v (.str nm)) μ'') _ ⟨S.mu, rr.cap⟩ htx fun μ'' H' e' ok' q' => ⟨rfl, μ'', e', ok', q'⟩)
    · obtain ⟨v, hv⟩ := I3.cell x cc (hcl x cc hx)
      exact ⟨v, cellK x cc v (hcl x cc hx) hv⟩
    · obtain ⟨j, j1, j2⟩ := mQ h2
      obtain ⟨hN, hv, hnl, hfree⟩ := hcap i j x j1 h1
      obtain ⟨m, _, hll⟩ := I3.loc
      obtain ⟨u, ru, lk⟩ := hll j x v hN j2 hv
      obtain ⟨a, ha⟩ := hhas x (.inr hfree)
      rcases lk with ⟨z, _⟩ | ⟨_, a', z1, z2⟩
      · exact absurd z hnl
      · obtain rfl : a' = a := by have qq := hcl x a ha; rw [z1] at qq; exact Option.some.inj qq
        exact ⟨u, a', ru, hfree, ha, cellK x a' _ z1 z2⟩
    · unfold bT; rw [List.length_map]; exact hlen
  · exact ⟨μ'', ok', fun H'' e'' ok'' => kk (.v (.str nm)) (.str nm) μ'' H'' (e'.trans e'') ⟨ok'', S.rho.ext S.mu (e'.trans e'')⟩ (Rp.str nm) q'⟩
  · cases r with
    | error e => exact hq'.elim
    | ok fl =>
      cases fl with
      | ret u => exact I1.after hq'
      | next => exact hq'.elim
      | brk => exact hq'.elim
      | cont => exact hq'.elim
def xOr (tx ty : DTX) : DTX := fun ρ μ Xk => tx ρ μ Xk ∨ ty ρ μ Xk
theorem Ji {X : Cx} {E : XK} {C : Value} {sts : List Stmt} {tx ty : DTX} (h1 : XSs X E C sts tx) (h2 : XSs X E C sts ty) : XSs X E C sts (xOr tx ty) := by
  obtain ⟨t1, p1, l1⟩ := h1
  obtain ⟨t2, p2, l2⟩ := h2
  refine ⟨fun D σ H => t1 D σ H ∨ t2 D σ H, fun pins s σ H D I h => h.elim (p1 pins s σ H D I) (p2 pins s σ H D I), fun σ H ρ μ Xk D S h wsh => ?_⟩
  rcases h with h | h
  · exact .inl (l1 σ H ρ μ Xk D S h wsh)
  · exact .inr (l2 σ H ρ μ Xk D S h wsh)
theorem KQ {tx ty : DTX} {ρ : Rho} {μ : Mu} {Xk : Mu → Prop} : xOr tx ty ρ μ Xk = (tx ρ μ Xk ∨ ty ρ μ Xk) := propext Iff.rfl
theorem DM {ρ : Rho} {μ : Mu} {Q : DK} {i : Nat} {tb : List BZ} {nm : Str} (hi : ρ[i]? = some (some (.q (QL (tb.map fun e => .q e.P))))) (hl : tb.length ≤ 1000) (hnm : ∀ e ∈ tb, e.nm = .str nm) (hs : SeqAt.shaped (.str nm) = true)
    (htx : ∀ e ∈ tb, ∀ μ' : Mu, (∀ a es, μ a = some es → μ' a = some es) → ∀ Xk : Mu → Prop, Xk μ' → e.tx (bT e.cap ρ) μ' Xk) (q : Q (.v (.list ((List.range tb.length).map fun _ => .bool true))) μ) :
    yG [none] (ag i) (av 0) (fun ρo G => dOp (cW false) (FU ρo G 1 0 tb) (dC (.str nm))) ρ μ Q := by
  unfold yG diQ ag
  rw [hi]
  refine ⟨_, rfl, by rw [List.length_map]; exact hl, fun _ => .bool true, fun G j x hx μ' sub => ⟨⟨rfl, trivial⟩, rfl, ?_⟩, by rw [List.length_map]; exact q⟩
  rw [List.getElem?_map] at hx
  cases he : tb[j]? with
  | none => rw [he] at hx; cases hx
  | some e =>
    rw [he] at hx
    cases hx
    have hm := List.mem_of_getElem? he
    refine ⟨e, hm, rfl, htx e hm μ' sub _ ?_⟩
    rw [hnm e hm]
    exact ⟨hs, hs, rfl, by rw [SeqAt.eqv_refl _ (SeqAt.canLay_of_shaped hs)]; rfl⟩
theorem Mt {P : PQ} {ρ : Rho} {μ : Mu} {Q : DK} : dKq P ρ μ Q = Q (.q P) μ := propext Iff.rfl
theorem JB {t : DTA} {ρ : Rho} {μ : Mu} {Q : DK} : El t ρ μ Q = t ρ μ fun ds μ1 => Q (.q (QL ds)) μ1 := propext Iff.rfl
open PySem PySem.Spec PyProof.Rows
section
variable {X : Cx} {o e : Expr} {to te : DTE} {apos cpos : Pos}
end
section
variable {X : Cx} {E : XK} {C : Value} {a b : Expr} {tx : DTX} {pos : Pos}
end
section
variable {X : Cx}
end
open PySem PySem.Spec PyProof.Rows
section
variable {X : Cx}
end
open PySem PySem.Spec PyProof.Rows
mutual
theorem Rp.sub {K : PySem.W.Frag} {μ μ1 : Mu} {H : Hp} (h : ∀ a, μ1 a = none → μ a = none) : ∀ {d : PyData} {u : V}, Rp K μ1 H d u → Rp K μ H d u
  | _, _, .none => .none
  | _, _, .bool b => .bool b
  | _, _, .int i => .int i
  | _, _, .str x => .str x
  | _, _, .list a b c => .list a (h _ b) (RpL.sub h c)
  | _, _, .tuple a c => .tuple a (RpL.sub h c)
theorem RpL.sub {K : PySem.W.Frag} {μ μ1 : Mu} {H : Hp} (h : ∀ a, μ1 a = none → μ a = none) : ∀ {ds : List PyData} {us : List V}, RpL K μ1 H ds us → RpL K μ H ds us
  | _, _, .nil => .nil
  | _, _, .cons a b => .cons (Rp.sub h a) (RpL.sub h b)
end
open PySem PySem.Spec PyProof.Rows
theorem Kx {X : Cx} {E : XK} {C : Value} {e tg : Expr} {tx : DTX} {g : DTG} {pos : Pos} (h : XE X E C e tx) (hg : DG X tg g) (hs : swapsWithSole [tg] e pos.line X.env = pure false := by rfl) (hw : swappedStores [tg] e X.env = pure none := by rfl)
    (h1 : (assignEach [tg] X.env).map (·.2) = [assign tg X.env] := by rfl) : XS X E C (.Assign [tg] e pos) tx := by
  obtain ⟨t1, p1, l1⟩ := h
  obtain ⟨t2, p2, l2⟩ := hg
  exact ⟨_, FH p1 p2 hs hw h1, fun σ H ρ μ Xk D S h wsh => l1 σ H ρ μ Xk _ S h wsh⟩
def fj (μ μ' : Mu) : Prop := ∀ b ds, μ b = some ds → μ' b = some ds
theorem fj.refl {μ : Mu} : fj μ μ := fun _ _ e => e
theorem fj.trans {μ μ1 μ2 : Mu} (h : fj μ μ1) (g : fj μ1 μ2) : fj μ μ2 := fun b ds e => g b ds (h b ds e)
theorem fj.set {μ μ' : Mu} {p : Addr} {ds : List PyData} (h : fj μ μ') (n : μ p = none) : fj μ (aP μ' p ds) := fun b es e => by
  have : b ≠ p := fun z => by rw [z, n] at e; cases e
  rw [dF this]; exact h b es e
theorem fj.none {μ μ' : Mu} (h : fj μ μ') {b : Addr} (e : μ' b = none) : μ b = none := by
  cases z : μ b with
  | none => rfl
  | some ds => rw [h b ds z] at e; cases e
def frz (μ : Mu) (Qd : DK) : DK := fun d μ' => match d with
  | .v x => fj μ μ' ∧ Qd (.v x) μ
  | .m a => (μ a = none ∧ fj μ μ') ∧ ∃ es, μ' a = some es ∧ Qd (.v (.list es)) μ
  | _ => False
theorem zC {K : PySem.W.Frag} {μ μ' : Mu} {H : Hp} (ok : bE K μ' H) (s : fj μ μ') : bE K μ H := ⟨fun a ds z => by
  obtain ⟨xs, h1, h2⟩ := ok.lst a ds (s a ds z)
  exact ⟨xs, h1, h2.sub fun b hb => s.none hb⟩, ok.tab⟩
theorem xM {P : Program} {w : World} {K : PySem.W.Frag} {mg : Str → Option Value} {base : Heap} {CX : CXT} {k : Nat} {f : Addr} {fd : FuncData} {ps : List Str} {sp sp' : DSp} (F : bB P w K mg base CX k f fd ps (spD K sp))
    (h : ∀ ds μ Qd, sp' ds μ Qd → sp ds μ (frz μ Qd)) : bB P w K mg base CX k f fd ps (spD K sp') := by
  refine F.imp fun vs H Q E h' => ?_
  obtain ⟨ds, μ, Qd, ok, r, s, kk⟩ := h'
  refine ⟨ds, μ, _, ok, r, h _ _ _ s, fun d u μ' H' e ok' rd q => ?_⟩
  cases d with
  | v x =>
    obtain ⟨sb, q⟩ := q
    exact kk (.v x) u μ H' ⟨e.keep, e.tb, fun b ds z => ⟨ds, z⟩, fun _ z _ => z⟩ (zC ok' sb) (show Rp K μ H' x u from (show Rp K μ' H' x u from rd).sub fun b hb => sb.none hb) q
  | m a =>
    obtain ⟨⟨n, sb⟩, es, he, q⟩ := q
    obtain ⟨rfl, _⟩ := rd
    obtain ⟨xs, h1, h2⟩ := ok'.lst a es he
    exact kk (.v (.list es)) (.ref a) μ H' ⟨e.keep, e.tb, fun b ds z => ⟨ds, z⟩, fun _ z _ => z⟩ (zC ok' sb) (show Rp K μ H' (.list es) (.ref a) from .list h1 n (h2.sub fun b hb => sb.none hb)) q
  | s ns => exact q.elim
  | o a => exact q.elim
  | q p => exact q.elim
def K5 : R2 := fun x y H Q => y = .non ∧ ((x = .non ∧ Q (.bl true) H) ∨ (∃ a, x = .ref a ∧ Q (.bl false) H))
theorem HL {X : Cx} : OpR X (compareOp .Is) K5 := by
  intro pins s σ H x y v u Q I rx ry h
  obtain ⟨rfl, ⟨rfl, q⟩ | ⟨i, rfl, q⟩⟩ := h
  · cases rx; cases ry
    exact wpAny_is_plain rfl ⟨.bl true, H, I, rfl, q⟩
  · cases rx
    cases ry
    exact wpAny_is_plain rfl ⟨.bl false, H, I, rfl, q⟩
def AE : D → D → Mu → DK → Prop := fun x y μ Q => match x, y with
  | .v .none, .v .none => Q (.v (.bool true)) μ
  | .v (.list _), .v .none => Q (.v (.bool false)) μ
  | _, _ => False
theorem Jr {K : PySem.W.Frag} : jV K K5 AE := by
  intro x y ux uy H μ Qd Q ok rx ry h k
  unfold AE at h
  split at h
  · cases rx; cases ry; exact ⟨rfl, .inl ⟨rfl, k (.v _) _ μ H .refl ok (Rp.bool _) h⟩⟩
  · cases rx; cases ry; exact ⟨rfl, .inr ⟨_, rfl, k (.v _) _ μ H .refl ok (Rp.bool _) h⟩⟩
  · exact h.elim
theorem JN {μ : Mu} {Q : DK} : AE (.v .none) (.v .none) μ Q = Q (.v (.bool true)) μ := propext Iff.rfl
theorem JY {μ : Mu} {Q : DK} {xs : List PyData} : AE (.v (.list xs)) (.v .none) μ Q = Q (.v (.bool false)) μ := propext Iff.rfl
end L2.DL
set_option linter.all false
set_option maxRecDepth 100000
set_option maxHeartbeats 1000000
namespace NM
section
variable {d : Int} {x y z k s o : N3} {A B C A' B' C' P Q R E F G : Int}
end
end NM
set_option linter.all false
set_option maxRecDepth 100000
set_option maxHeartbeats 4000000
namespace NM
section
variable {d : Int} {x y z : N3}
section
variable {f : N3}
end
end
end NM
set_option linter.all false
set_option maxRecDepth 100000
set_option maxHeartbeats 4000000
namespace NM
def Ht (d : Int) (n : Nat) (x : N3) : Prop := ∃ a b e f : Int, Sz n a ∧ Sz n b ∧ Sz n e ∧ Sz n f ∧ e * e - d * f * f ≠ 0 ∧ x.a * e + d * x.b * f = a * x.c ∧ x.a * f + x.b * e = b * x.c
section
variable {d : Int} {n m : Nat} {x y : N3}
theorem Ht.mono (h : Ht d n x) (l : n ≤ m) : Ht d m x := by
  obtain ⟨a, b, e, f, h1, h2, h3, h4, r⟩ := h
  exact ⟨a, b, e, f, h1.mono l, h2.mono l, h3.mono l, h4.mono l, r⟩
theorem sz0 : Sz n 0 := Sz.of (by simp; exact Nat.pos_of_ne_zero (by simp))
theorem Ej (h : aO d) (ox : Ok x) (oy : Ok y) (hx : x = dj ∨ sg d x.a x.b = 1) (hy : sg d y.a y.b = 1) : sg d (plus x y).a (plus x y).b = 1 := by
  have e : sg d (plus x y).a (plus x y).b = sg d (x.a * y.c + y.a * x.c) (x.b * y.c + y.b * x.c) := Cy h (Int.mul_pos ox.c oy.c)
  rw [e]
  rcases hx with rfl | hx
  · have e1 : dj.a * y.c + y.a * dj.c = y.a := by show 0 * y.c + y.a * 1 = y.a; omega
    have e2 : dj.b * y.c + y.b * dj.c = y.b := by show 0 * y.c + y.b * 1 = y.b; omega
    rw [e1, e2]; exact hy
  · have p1 : P d (y.c * x.a) (y.c * x.b) := (dy h).mp (by rw [ix h oy.c]; exact hx)
    have p2 : P d (x.c * y.a) (x.c * y.b) := (dy h).mp (by rw [ix h ox.c]; exact hy)
    have := (dy h).mpr (II h p1 p2)
    have e1 : x.a * y.c + y.a * x.c = y.c * x.a + x.c * y.a := by grind
    have e2 : x.b * y.c + y.b * x.c = y.c * x.b + x.c * y.b := by grind
    rw [e1, e2]; exact this
end
end NM
set_option linter.all false
set_option maxRecDepth 100000
set_option maxHeartbeats 4000000
namespace NM
section
variable {d : Int} {x y z : N3}
def gtL (d : Int) (k o : N3) : Prop := ((CS d o).a.natAbs : Int) * (CS d k).c < ((CS d k).a.natAbs : Int) * (CS d o).c
instance : Decidable (gtL d x y) := by unfold gtL; infer_instance
end
end NM
set_option linter.all false
set_option maxRecDepth 100000
set_option maxHeartbeats 400000
namespace NM
section
variable {d : Int} {x y z k s o f : N3}
end
end NM
set_option linter.all false
set_option maxRecDepth 100000
set_option maxHeartbeats 400000
namespace NM
section
variable {d : Int} {x y z k s o f : N3}
end
end NM
set_option Elab.async false
set_option linter.all false
set_option maxHeartbeats 4000000
namespace NM
section
variable {d : Int} {x y z u p q s t w h p' q' s' t' w' h' : N3}
def hf (d : Int) (p q h : N3) : N3 := plus (times d p h) (times d q (BQ h))
end
end NM
set_option linter.all false
set_option maxRecDepth 100000
set_option maxHeartbeats 400000
namespace NM
section
variable {d : Int} {x y z k s o f u v : N3}
end
end NM
set_option Elab.async false
set_option linter.all false
set_option maxRecDepth 100000
set_option maxHeartbeats 4000000
namespace L2.DL
open PySem PySem.Spec PyProof.Rows NM
theorem eX {n m : Nat} {i j : Int} (h : Sz n i) (g : Sz m j) (l : n + m ≤ 100000) : IntMulOk i j := by
  have b1 : ∀ {k : Nat} {z : Int}, Sz k z → Builtin.Int.intBits z ≤ k := fun {k z} hz => by
    unfold Builtin.Int.intBits
    split
    · exact Nat.zero_le _
    · rename_i q
      have hz' : z.natAbs ≠ 0 := by simp at q; omega
      have := (Nat.log2_lt hz').mpr hz.lt
      omega
  have e1 := b1 h
  have e2 := b1 g
  unfold IntMulOk
  intro z
  simp only [Bool.and_eq_true] at z
  have z3 := z.2
  unfold Builtin.Int.intTooBig at z3
  simp only [decide_eq_true_eq] at z3
  have : (100000 : Int) ≤ bitsLine := by decide
  omega
theorem wO {n : Nat} {i j : Int} (h0 : j ≠ 0) (h : Sz n j) (l : n ≤ 8900) : pN i j := by
  refine ⟨h0, PyProof.noPylong_of_log2 ?_⟩
  have hz' : j.natAbs ≠ 0 := by omega
  have := (Nat.log2_lt hz').mpr h.lt
  omega
theorem divC {i j : Int} (h0 : j ≠ 0) (h1 : j.natAbs < 1073741824) : pN i j := ⟨h0, PyProof.noPylong_small h1⟩
theorem mulL {i j : Int} (h : i.natAbs < 2 ^ 64) : IntMulOk i j := Hu.ok (.inl (by omega))
theorem mulR {i j : Int} (h : j.natAbs < 2 ^ 64) : IntMulOk i j := Hu.ok (.inr (by omega))
def dN (x : N3) : PyData := .tuple [.int x.a, .int x.b, .int x.c]
def isWhole (d : PyData) : Bool := isT "int" d && !isT "bool" d
def isNum : PyData → Bool
  | .tuple [.int a, .int b, .int c] => decide (1 ≤ c) && (g3 a b c == 1)
  | _ => false
def nS : DSp := fun ds μ Q => ∃ d, ds = [.v d] ∧ Q (.v (.bool (isWhole d))) μ
def qe : DSp := fun ds μ Q => ∃ a b : Int, ds = [.v (.int a), .v (.int b)] ∧ Q (.v (.int (Int.gcd a b : Nat))) μ
def vB : DSp := fun ds μ Q => ∃ a b c : Int, ds = [.v (.int a), .v (.int b), .v (.int c)] ∧ Q (.v (.int (g3 a b c : Nat))) μ
def Few : PyData → Prop
  | .tuple xs => xs.length ≤ 1000
  | _ => True
def xE : DSp := fun ds μ Q => ∃ d, ds = [.v d] ∧ Few d ∧ Q (.v (.bool (isNum d))) μ
def cB : DSp := fun ds μ Q => ∃ a b c : Int, ds = [.v (.int a), .v (.int b), .v (.int c)] ∧ c ≠ 0 ∧ Sz 8800 c ∧ Q (.v (dN (low a b c))) μ
def lM : DSp := fun ds μ Q => ∃ x : N3, ds = [.v (dN x)] ∧ Q (.v (dN (minus x))) μ
def sp2 (f : N3 → N3 → N3) : DSp := fun ds μ Q => ∃ x y : N3, ds = [.v (dN x), .v (dN y)] ∧ Ok x ∧ Ok y ∧ Bd 4300 x ∧ Bd 4300 y ∧ Q (.v (dN (f x y))) μ
abbrev iD : DSp := sp2 plus
abbrev k8 : DSp := sp2 less
def iY : DSp := fun ds μ Q => ∃ (d : Int) (x y : N3), ds = [.v (.int d), .v (dN x), .v (dN y)] ∧ Sz 5 d ∧ Ok x ∧ Ok y ∧ Bd 4300 x ∧ Bd 4300 y ∧ Q (.v (dN (times d x y))) μ
def fB : DSp := fun ds μ Q => ∃ (d : Int) (x : N3), ds = [.v (.int d), .v (dN x)] ∧ Sz 5 d ∧ norm d x ≠ 0 ∧ Bd 4300 x ∧ Q (.v (dN (bz d x))) μ
def o6 : DSp := fun ds μ Q => ∃ (d : Int) (x y : N3), ds = [.v (.int d), .v (dN x), .v (dN y)] ∧ aO d ∧ Ok x ∧ Ok y ∧ y ≠ dj ∧ Bd 2100 x ∧ Bd 2100 y ∧ Q (.v (dN (times d x (bz d y)))) μ
def qZ : DSp := fun ds μ Q => ∃ d a b : Int, ds = [.v (.int d), .v (.int a), .v (.int b)] ∧ Sz 5 d ∧ Sz 9900 a ∧ Sz 9900 b ∧ Q (.v (.int (sg d a b))) μ
def mK : DSp := fun ds μ Q => ∃ (d : Int) (x : N3), ds = [.v (.int d), .v (dN x)] ∧ aO d ∧ Bd 8900 x ∧ Q (.v (.int (sg d x.a x.b))) μ
def dif (d : Int) (x y : N3) : Int := sg d (x.a * y.c - y.a * x.c) (x.b * y.c - y.b * x.c)
def uf : DSp := fun ds μ Q => ∃ (d : Int) (x y : N3), ds = [.v (.int d), .v (dN x), .v (dN y)] ∧ aO d ∧ Bd 4400 x ∧ Bd 4400 y ∧ Q (.v (.bool (decide (dif d x y = 1)))) μ
def ub : DSp := fun ds μ Q => ∃ (d : Int) (x y : N3), ds = [.v (.int d), .v (dN x), .v (dN y)] ∧ aO d ∧ Ok x ∧ Ok y ∧ Bd 4300 x ∧ Bd 4300 y ∧ Q (.v (.bool (decide (dif d y x = 1)))) μ
def Bag (μ : Mu) (a : Addr) : Prop := ∃ g m : Int, μ a = some [.int g, .int m] ∧ 0 ≤ g ∧ 0 ≤ m ∧ m < 2147483648
def Step (a : Addr) (μ μ' : Mu) : Prop := Bag μ' a ∧ ∀ b, b ≠ a → μ' b = μ b
def Dg : DSp := fun ds μ Q => ∃ (ns : List Int) (k : Int), ds = [.s ns, .v (.int k)] ∧ 0 ≤ k ∧ k ≤ 1000 ∧ ∀ p μ', μ p = none → Step p μ μ' → Q (.m p) μ'
def cH : DSp := fun ds μ Q => ∃ (a : Addr) (n : Int), ds = [.m a, .v (.int n)] ∧ 1 ≤ n ∧ n ≤ 1000000000 ∧ Bag μ a ∧ ∀ r μ', 0 ≤ r → r < n → Step a μ μ' → Q (.v (.int r)) μ'
def nR : DSp := fun ds μ Q => ∃ a : Addr, ds = [.m a] ∧ Bag μ a ∧ ∀ x μ', Ok x → Bd 20 x → Step a μ μ' → Q (.v (dN x)) μ'
def um : DSp := fun ds μ Q => ∃ a : Addr, ds = [.m a] ∧ Bag μ a ∧ ∀ d μ', aO d → Step a μ μ' → Q (.v (.int d)) μ'
theorem Step.trans {a : Addr} {μ μ1 μ2 : Mu} (h : Step a μ μ1) (g : Step a μ1 μ2) : Step a μ μ2 := ⟨g.1, fun b n => (g.2 b n).trans (h.2 b n)⟩
theorem Step.set {a : Addr} {μ : Mu} {g m : Int} (h1 : 0 ≤ g) (h2 : 0 ≤ m) (h3 : m < 2147483648) : Step a μ (aP μ a [.int g, .int m]) := ⟨⟨g, m, aQ, h1, h2, h3⟩, fun b n => dF n⟩
local macro_rules | `(tactic| walk_at "rd") => `(tactic| simp only [↓Fp, ↓FR, ↓E8, ↓vc, ↓Ey, ↓Fc, ↓Gm, ↓E9, ↓GG, ↓Ff, ↓Cr, ↓q_c, ↓E6, ↓q_B, ↓K6, ↓ID, ↓Ia, ↓uR, ↓Iu, ↓ED, ↓GA, ↓Ik, ↓Gs, ↓LH, ↓pV, ↓lN, ↓zh, ↓zm, ↓EK, ↓zk, ↓A2, ↓AL, ↓HY, ↓IE, ↓Ir, ↓H0, ↓vJ, ↓Gp, ↓FZ, ↓Bn, ↓B1, ↓Ca, ↓EW, ↓zo, ↓w5, ↓IF, ↓IT, ↓Ib, ↓Fs, ↓FP, ↓Ew, ↓EZ, ↓FY, ↓K8, ↓zw, ↓Em, ↓Ig, ↓IU, ↓IH, ↓Gw, ↓vm, ↓Fw, ↓Gk, ↓EL, ↓IQ, ↓LR, ↓Gz, ↓Fv, ↓C8, ↓Di, ↓GH, ↓HZ, ↓Im, ↓Io, ↓jM, ↓Es, ↓Dh, ↓FV, ↓FC, ↓zu, ↓Iv, ↓FX, ↓q5, ↓AD, ↓FT, ↓zI, ↓Cw, ↓Fq, ↓Iy, ↓Iz, ↓Fl, ↓Dk, ↓EI, ↓Bf, ↓Dj, ↓Ba, ↓Ah, ↓Cs, ↓zM, ↓zx, ↓A4, ↓IJ, FD, ↓FL, ↓yR, Fx, EN, Ie, IK, IM, Option.bind_none, Option.bind_some, Option.join_some, List.getElem?_cons_zero, List.getElem?_cons_succ, aI, dN, tf, zS, Au, CD, FN, List.map, List.append, List.replicate, List.length_cons, List.length_nil, Nat.reduceAdd, Nat.reduceSub, List.nil_append, List.cons_append, List.set_cons_zero, List.set_cons_succ, Option.map_some, ↓reduceIte, Bool.not_true, Bool.not_false, Bool.false_eq_true, Bool.true_eq_false, Bool.xor_false, Bool.false_xor])
def mW : DTS :=
  (bC (xf (EY "int" (ag 0)) (wZ (EY "bool" (ag 0)))))
def gB : DTS :=
  (aL (rX (dB (dOp (cW true) (ag 1) (dC (.int 0)))) (pW 0 1 (ae (ag 1) (ae (vx (ag 0) (ag 1)) aj))))
  (bC (dCB qo (ae (ag 0) aj))))
def gh : DTS :=
  (bC (aB qe (ae (aB qe (ae (ag 2) (ae (ag 0) aj))) (ae (ag 1) aj))))
def jn : DTS :=
  (aL (pW 0 1 (ae (dCB qo (ae (ag 0) aj)) (ae (dCB qo (ae (ag 1) aj)) aj)))
  (aL (rX (dB (dOp rGt (ag 1) (dC (.int 0)))) (pW 0 1 (ae (ag 1) (ae (vx (ag 0) (ag 1)) aj))))
  (bC (ag 0))))
section
theorem Cn (x : Int) {y : Int} (h : y ≠ 0) : (x.fmod y).natAbs < y.natAbs := by
  have e := Int.mul_fdiv_add_fmod x y
  have := Int.fmod_def x y
  rcases Int.lt_or_gt_of_ne h with h | h
  · have k := Int.neg_fmod_neg (a := x) (b := y)
    have h1 := Int.fmod_nonneg_of_pos (-x) (show 0 < -y by omega)
    have h2 := Int.fmod_lt_of_pos (-x) (show 0 < -y by omega)
    omega
  · have h1 := Int.fmod_nonneg_of_pos x h
    have h2 := Int.fmod_lt_of_pos x h
    omega
theorem zW (x y : Int) : Int.gcd y (x.fmod y) = Int.gcd x y := by
  have e := Int.mul_fdiv_add_fmod x y
  have e' : x.fmod y = x + y * (-(x.fdiv y)) := by rw [Int.mul_neg]; omega
  rw [e', Int.gcd_add_mul_left_right, Int.gcd_comm]
theorem AR {μ Qd ds} (h : nS ds μ Qd) : mW { nx := fun _ μ' => Qd (.v .none) μ', rt := Qd } (aI ["thing"] ds) μ := by
  obtain ⟨d, rfl, q⟩ := h
  unfold mW
  walk_at "rd"
  unfold isWhole at q
  cases hb : isT "int" d <;> simp_all
theorem qk {μ Qd ds} (h : qe ds μ Qd) : gB { nx := fun _ μ' => Qd (.v .none) μ', rt := Qd } (aI ["a", "b"] ds) μ := by
  obtain ⟨a, b, rfl, q⟩ := h
  unfold gB
  walk_at "rd"
  refine ⟨fun m ρ μ' => ∃ x y : Int, ρ = [some (.v (.int x)), some (.v (.int y))] ∧ m = y.natAbs ∧ Int.gcd x y = Int.gcd a b ∧ μ' = μ, ⟨_, a, b, rfl, rfl, rfl, rfl⟩, ?_⟩
  rintro m ρ μ' ⟨x, y, rfl, rfl, hg, rfl⟩
  walk_at "rd"
  by_cases hy : y = 0
  · subst hy
    have e : Int.gcd x 0 = x.natAbs := Int.gcd_zero_right x
    rw [← hg, e] at q
    simpa using q
  · have z : (true ^^ decide (y = 0)) = true := by simp [hy]
    rw [if_pos z]
    exact ⟨hy, _, Cn x hy, y, x.fmod y, rfl, rfl, (zW x y).trans hg, trivial⟩
theorem vN {μ Qd ds} (h : qe ds μ Qd) : jn { nx := fun _ μ' => Qd (.v .none) μ', rt := Qd } (aI ["_law_one", "_law_other"] ds) μ := by
  obtain ⟨a, b, rfl, q⟩ := h
  unfold jn
  walk_at "rd"
  refine ⟨fun m ρ μ' => ∃ x y : Int, ρ = [some (.v (.int x)), some (.v (.int y))] ∧ m = y.natAbs ∧ 0 ≤ x ∧ 0 ≤ y ∧ Int.gcd x y = Int.gcd a b ∧ μ' = μ, ⟨_, _, _, rfl, rfl, by omega, by omega, by simp [Int.gcd], rfl⟩, ?_⟩
  rintro m ρ μ' ⟨x, y, rfl, rfl, hx, hy, hg, rfl⟩
  walk_at "rd"
  by_cases h0 : 0 < y
  · rw [if_pos (by simpa using h0)]
    have hy' : y ≠ 0 := by omega
    exact ⟨hy', _, Cn x hy', y, x.fmod y, rfl, rfl, by omega, Int.fmod_nonneg_of_pos x h0, (zW x y).trans hg, trivial⟩
  · rw [if_neg (by simpa using h0)]
    have e : y = 0 := by omega
    subst e
    rw [Int.gcd_zero_right] at hg
    have : x = ((Int.gcd a b : Nat) : Int) := by omega
    rw [this]
    exact q
theorem qT {μ Qd ds} (h : vB ds μ Qd) : gh { nx := fun _ μ' => Qd (.v .none) μ', rt := Qd } (aI ["a", "b", "c"] ds) μ := by
  obtain ⟨a, b, c, rfl, q⟩ := h
  unfold gh
  walk_at "rd"
  rw [← GI] at q
  exact ⟨c, a, rfl, _, b, rfl, q⟩
end
open PySem PySem.Spec PyProof.Rows NM
def rR : DTS :=
  (aL (dY (dB (dOp (cW false) (ag 2) (dC (.int 0)))) mH cg)
  (aL (bo (aB vB (ae (ag 0) (ae (ag 1) (ae (ag 2) aj)))) (av 3))
  (aL (dY (dB (dOp rLt (ag 2) (dC (.int 0)))) (bo (rq (ag 3)) (av 3)) cg)
  (bC (aW (ae (rH (ag 0) (ag 3)) (ae (rH (ag 1) (ag 3)) (ae (rH (ag 2) (ag 3)) aj))))))))
def nA : DTS :=
  (aL (bo (bI (aB qe (ae (aB qe (ae (ag 0) (ae (ag 1) aj))) (ae (ag 2) aj))) (dOp aA (kN (ae (dC (.int 1)) (ae (rq (dC (.int 1))) aj))) (dCB oF (ae (dOp rLt (ag 2) (dC (.int 0))) aj)))) (av 3))
  (bC (aW (ae (rH (ag 0) (ag 3)) (ae (rH (ag 1) (ag 3)) (ae (rH (ag 2) (ag 3)) aj))))))
def kq : DTS :=
  (bC (aW (ae (mi (dC (.int 0)) (dOp aA (ag 0) (dC (.int 0)))) (ae (mi (dC (.int 0)) (dOp aA (ag 0) (dC (.int 1)))) (ae (dOp aA (ag 0) (dC (.int 2))) aj)))))
def yd : DTS :=
  (bC (aB cB (ae (ka (bI (dOp aA (ag 0) (dC (.int 0))) (dOp aA (ag 1) (dC (.int 2)))) (bI (dOp aA (ag 1) (dC (.int 0))) (dOp aA (ag 0) (dC (.int 2))))) (ae (ka (bI (dOp aA (ag 0) (dC (.int 1))) (dOp aA (ag 1) (dC (.int 2)))) (bI (dOp aA (ag 1) (dC (.int 1))) (dOp aA (ag 0) (dC (.int 2))))) (ae (bI (dOp aA (ag 0) (dC (.int 2))) (dOp aA (ag 1) (dC (.int 2)))) aj)))))
def qA : DTS :=
  (bC (aB cB (ae (ka (bI (dOp aA (ag 0) (dC (.int 0))) (dOp aA (ag 1) (dC (.int 2)))) (bI (dOp aA (ag 1) (dC (.int 0))) (dOp aA (ag 0) (dC (.int 2))))) (ae (ka (bI (dOp aA (ag 0) (dC (.int 1))) (dOp aA (ag 1) (dC (.int 2)))) (bI (dOp aA (ag 1) (dC (.int 1))) (dOp aA (ag 0) (dC (.int 2))))) (ae (bI (dOp aA (ag 0) (dC (.int 2))) (dOp aA (ag 1) (dC (.int 2)))) aj)))))
def yp : DTS :=
  (bC (aB cB (ae (mi (bI (dOp aA (ag 0) (dC (.int 0))) (dOp aA (ag 1) (dC (.int 2)))) (bI (dOp aA (ag 1) (dC (.int 0))) (dOp aA (ag 0) (dC (.int 2))))) (ae (mi (bI (dOp aA (ag 0) (dC (.int 1))) (dOp aA (ag 1) (dC (.int 2)))) (bI (dOp aA (ag 1) (dC (.int 1))) (dOp aA (ag 0) (dC (.int 2))))) (ae (bI (dOp aA (ag 0) (dC (.int 2))) (dOp aA (ag 1) (dC (.int 2)))) aj)))))
def vQ : DTS :=
  (bC (aB cB (ae (ka (bI (dOp aA (ag 1) (dC (.int 0))) (dOp aA (ag 2) (dC (.int 0)))) (bI (bI (ag 0) (dOp aA (ag 1) (dC (.int 1)))) (dOp aA (ag 2) (dC (.int 1))))) (ae (ka (bI (dOp aA (ag 1) (dC (.int 0))) (dOp aA (ag 2) (dC (.int 1)))) (bI (dOp aA (ag 1) (dC (.int 1))) (dOp aA (ag 2) (dC (.int 0))))) (ae (bI (dOp aA (ag 1) (dC (.int 2))) (dOp aA (ag 2) (dC (.int 2)))) aj)))))
def oG : DTS :=
  (bC (aB cB (ae (ka (bI (dOp aA (ag 1) (dC (.int 0))) (dOp aA (ag 2) (dC (.int 0)))) (bI (bI (ag 0) (dOp aA (ag 1) (dC (.int 1)))) (dOp aA (ag 2) (dC (.int 1))))) (ae (ka (bI (dOp aA (ag 1) (dC (.int 0))) (dOp aA (ag 2) (dC (.int 1)))) (bI (dOp aA (ag 1) (dC (.int 1))) (dOp aA (ag 2) (dC (.int 0))))) (ae (bI (dOp aA (ag 1) (dC (.int 2))) (dOp aA (ag 2) (dC (.int 2)))) aj)))))
def nB : DTS :=
  (aL (bo (mi (bI (dOp aA (ag 1) (dC (.int 0))) (dOp aA (ag 1) (dC (.int 0)))) (bI (bI (ag 0) (dOp aA (ag 1) (dC (.int 1)))) (dOp aA (ag 1) (dC (.int 1))))) (av 2))
  (bC (aB cB (ae (bI (dOp aA (ag 1) (dC (.int 2))) (dOp aA (ag 1) (dC (.int 0)))) (ae (bI (rq (dOp aA (ag 1) (dC (.int 2)))) (dOp aA (ag 1) (dC (.int 1)))) (ae (ag 2) aj))))))
def gX : DTS :=
  (bC (aB cB (ae (bI (dOp aA (ag 1) (dC (.int 0))) (dOp aA (ag 1) (dC (.int 2)))) (ae (mi (dC (.int 0)) (bI (dOp aA (ag 1) (dC (.int 1))) (dOp aA (ag 1) (dC (.int 2))))) (ae (mi (bI (dOp aA (ag 1) (dC (.int 0))) (dOp aA (ag 1) (dC (.int 0)))) (bI (bI (ag 0) (dOp aA (ag 1) (dC (.int 1)))) (dOp aA (ag 1) (dC (.int 1))))) aj)))))
def yk : DTS :=
  (aL (dY (dB (dOp (cW false) (ag 2) (dC (.tuple [.int 0, .int 0, .int 1])))) mH cg)
  (bC (aB iY (ae (ag 0) (ae (ag 1) (ae (aB fB (ae (ag 0) (ae (ag 2) aj))) aj))))))
section
variable {μ : Mu} {Qd : DK} {ds : List D}
theorem Ms (i j : Int) : PyData.eqv (.int i) (.int j) = decide (i = j) := by simp [PyData.eqv]; rfl
theorem gdv {a b c : Int} (h : Sz 8800 c) (hc : c ≠ 0) : Sz 8800 ((g3 a b c : Nat) : Int) := by
  have h1 := (Ek a b c).2.2
  have h2 := Int.natAbs_dvd_natAbs.mpr h1
  exact h.le (Nat.le_of_dvd (by omega) h2)
theorem Dv (h : cB ds μ Qd) : rR { nx := fun _ μ' => Qd (.v .none) μ', rt := Qd } (aI ["a", "b", "c", "divisor"] ds) μ := by
  obtain ⟨a, b, c, rfl, hc, hz, q⟩ := h
  unfold rR
  walk_at "rd"
  rw [decide_eq_false hc]
  simp only [Bool.xor_false, Bool.false_eq_true, ↓reduceIte]
  refine ⟨a, b, c, rfl, ?_⟩
  walk_at "rd"
  have hp := xj (a := a) (b := b) hc
  have hg := gdv (a := a) (b := b) hz hc
  unfold low NM.dv dN at q
  simp only at q
  by_cases hn : c < 0
  · rw [if_pos (by simpa using hn)]
    rw [if_pos hn] at q
    have o : ∀ i : Int, pN i (-((g3 a b c : Nat) : Int)) := fun i => wO (by omega) hg.neg (by decide)
    exact ⟨o _, o _, o _, q⟩
  · rw [if_neg (by simpa using hn)]
    rw [if_neg hn] at q
    have o : ∀ i : Int, pN i ((g3 a b c : Nat) : Int) := fun i => wO (by omega) hg (by decide)
    exact ⟨o _, o _, o _, q⟩
theorem AO (h : cB ds μ Qd) : nA { nx := fun _ μ' => Qd (.v .none) μ', rt := Qd } (aI ["_law_a", "_law_b", "_law_c", "_law_common"] ds) μ := by
  obtain ⟨a, b, c, rfl, hc, hz, q⟩ := h
  unfold nA
  walk_at "rd"
  refine ⟨a, b, rfl, _, c, rfl, ?_⟩
  walk_at "rd"
  have hp := xj (a := a) (b := b) hc
  have hg := gdv (a := a) (b := b) hz hc
  unfold low NM.dv dN at q
  simp only at q
  by_cases hn : c < 0
  · simp only [hn, decide_true, ↓reduceIte, Au]
    rw [if_pos hn] at q
    have e : ((Int.gcd (Int.gcd a b : Nat) c : Nat) : Int) * -1 = -((g3 a b c : Nat) : Int) := by unfold g3; omega
    walk_at "rd"
    rw [e]
    have o : ∀ i : Int, pN i (-((g3 a b c : Nat) : Int)) := fun i => wO (by omega) hg.neg (by decide)
    exact ⟨mulR (by decide), o _, o _, o _, q⟩
  · simp only [hn, decide_false, Bool.false_eq_true, ↓reduceIte, zS]
    rw [if_neg hn] at q
    have e : ((Int.gcd (Int.gcd a b : Nat) c : Nat) : Int) * 1 = ((g3 a b c : Nat) : Int) := by unfold g3; omega
    walk_at "rd"
    rw [e]
    have o : ∀ i : Int, pN i ((g3 a b c : Nat) : Int) := fun i => wO (by omega) hg (by decide)
    exact ⟨mulR (by decide), o _, o _, o _, q⟩
theorem wo (h : lM ds μ Qd) : kq { nx := fun _ μ' => Qd (.v .none) μ', rt := Qd } (aI ["_law_x"] ds) μ := by
  obtain ⟨x, rfl, q⟩ := h
  unfold kq
  walk_at "rd"
  simp only [Int.zero_sub]
  exact q
theorem Co (h : iD ds μ Qd) : yd { nx := fun _ μ' => Qd (.v .none) μ', rt := Qd } (aI ["x", "y"] ds) μ := by
  obtain ⟨x, y, rfl, ox, oy, bx, by', q⟩ := h
  unfold yd
  walk_at "rd"
  have m : ∀ {i j : Int}, Sz 4300 i → Sz 4300 j → IntMulOk i j := fun h g => eX h g (by decide)
  exact ⟨m bx.a by'.c, m by'.a bx.c, m bx.b by'.c, m by'.b bx.c, m bx.c by'.c, _, _, _, rfl, tE ox oy, (bx.c.mul by'.c).mono (by decide), q⟩
theorem yZ (h : iD ds μ Qd) : qA { nx := fun _ μ' => Qd (.v .none) μ', rt := Qd } (aI ["_law_x", "_law_y"] ds) μ := Co h
theorem G2 (h : k8 ds μ Qd) : yp { nx := fun _ μ' => Qd (.v .none) μ', rt := Qd } (aI ["x", "y"] ds) μ := by
  obtain ⟨x, y, rfl, ox, oy, bx, by', q⟩ := h
  unfold yp
  walk_at "rd"
  have m : ∀ {i j : Int}, Sz 4300 i → Sz 4300 j → IntMulOk i j := fun h g => eX h g (by decide)
  exact ⟨m bx.a by'.c, m by'.a bx.c, m bx.b by'.c, m by'.b bx.c, m bx.c by'.c, _, _, _, rfl, tE ox oy, (bx.c.mul by'.c).mono (by decide), q⟩
theorem zR (h : iY ds μ Qd) : vQ { nx := fun _ μ' => Qd (.v .none) μ', rt := Qd } (aI ["d", "x", "y"] ds) μ := by
  obtain ⟨d, x, y, rfl, hd, ox, oy, bx, by', q⟩ := h
  unfold vQ
  walk_at "rd"
  have m : ∀ {i j : Int}, Sz 4300 i → Sz 4300 j → IntMulOk i j := fun h g => eX h g (by decide)
  exact ⟨m bx.a by'.a, eX hd bx.b (by decide), eX (hd.mul bx.b) by'.b (by decide), m bx.a by'.b, m bx.b by'.a, m bx.c by'.c, _, _, _, rfl, tE ox oy, (bx.c.mul by'.c).mono (by decide), q⟩
theorem wx (h : iY ds μ Qd) : oG { nx := fun _ μ' => Qd (.v .none) μ', rt := Qd } (aI ["_law_d", "_law_x", "_law_y"] ds) μ := zR h
theorem zT (h : fB ds μ Qd) : nB { nx := fun _ μ' => Qd (.v .none) μ', rt := Qd } (aI ["d", "x", "norm"] ds) μ := by
  obtain ⟨d, x, rfl, hd, hn, bx, q⟩ := h
  unfold nB
  walk_at "rd"
  have m : ∀ {i j : Int}, Sz 4300 i → Sz 4300 j → IntMulOk i j := fun h g => eX h g (by decide)
  exact ⟨m bx.a bx.a, eX hd bx.b (by decide), eX (hd.mul bx.b) bx.b (by decide), m bx.c bx.a, m bx.c.neg bx.b, _, _, _, rfl, hn, (yJ hd bx).mono (by decide), q⟩
theorem rO (h : fB ds μ Qd) : gX { nx := fun _ μ' => Qd (.v .none) μ', rt := Qd } (aI ["_law_d", "_law_x"] ds) μ := by
  obtain ⟨d, x, rfl, hd, hn, bx, q⟩ := h
  unfold gX
  walk_at "rd"
  have m : ∀ {i j : Int}, Sz 4300 i → Sz 4300 j → IntMulOk i j := fun h g => eX h g (by decide)
  refine ⟨m bx.a bx.c, m bx.b bx.c, m bx.a bx.a, eX hd bx.b (by decide), eX (hd.mul bx.b) bx.b (by decide), _, _, _, rfl, hn, (yJ hd bx).mono (by decide), ?_⟩
  have e1 : x.a * x.c = x.c * x.a := Int.mul_comm ..
  have e2 : 0 - x.b * x.c = -x.c * x.b := by grind
  rw [e1, e2]
  exact q
theorem KW (a b c a' b' c' : Int) : PyData.eqv (.tuple [.int a, .int b, .int c]) (.tuple [.int a', .int b', .int c']) = decide (a = a' ∧ b = b' ∧ c = c') := by
  simp [PyData.eqv, PyData.eqvAll]
  rfl
theorem He (h : o6 ds μ Qd) : yk { nx := fun _ μ' => Qd (.v .none) μ', rt := Qd } (aI ["d", "x", "y"] ds) μ := by
  obtain ⟨d, x, y, rfl, hd, ox, oy, hy, bx, by', q⟩ := h
  unfold yk
  walk_at "rd"
  refine ⟨rfl, rfl, ?_⟩
  have hn : ¬ (y.a = 0 ∧ y.b = 0 ∧ y.c = 1) := fun z => hy (N3.ext' z.1 z.2.1 z.2.2)
  rw [KW, decide_eq_false hn]
  simp only [Bool.xor_false, Bool.false_eq_true, ↓reduceIte]
  have s5 := wj hd.1 hd.2.1
  have nz := hd.norm oy hy
  exact ⟨d, y, rfl, s5, nz, by'.mono (by decide), d, x, _, rfl, s5, ox, du nz, bx.mono (by decide), (nu s5 nz by').mono (by decide), q⟩
end
open PySem PySem.Spec PyProof.Rows NM
def hJ : DTS :=
  (aL (dY (tq (dB (dOp (cW false) (ag 1) (dC (.int 0)))) (dB (dOp (cW false) (ag 2) (dC (.int 0))))) (bC (dC (.int 0))) cg)
  (aL (dY (tq (dB (dOp rGe (ag 1) (dC (.int 0)))) (dB (dOp rGe (ag 2) (dC (.int 0))))) (bC (dC (.int 1))) cg)
  (aL (dY (tq (dB (dOp rLe (ag 1) (dC (.int 0)))) (dB (dOp rLe (ag 2) (dC (.int 0))))) (bC (rq (dC (.int 1)))) cg)
  (aL (bo (dIf (dB (dOp rGt (bI (ag 1) (ag 1)) (bI (bI (ag 0) (ag 2)) (ag 2)))) (ag 1) (ag 2)) (av 3))
  (bC (dIf (dB (dOp rGt (ag 3) (dC (.int 0)))) (dC (.int 1)) (rq (dC (.int 1)))))))))
def pA : DTS :=
  (bC (aB qZ (ae (ag 0) (ae (dOp aA (ag 1) (dC (.int 0))) (ae (dOp aA (ag 1) (dC (.int 1))) aj)))))
def nk : DTS :=
  (aL (bo (mi (bI (dOp aA (ag 1) (dC (.int 0))) (dOp aA (ag 2) (dC (.int 2)))) (bI (dOp aA (ag 2) (dC (.int 0))) (dOp aA (ag 1) (dC (.int 2))))) (av 3))
  (aL (bo (mi (bI (dOp aA (ag 1) (dC (.int 1))) (dOp aA (ag 2) (dC (.int 2)))) (bI (dOp aA (ag 2) (dC (.int 1))) (dOp aA (ag 1) (dC (.int 2))))) (av 4))
  (bC (dOp (cW false) (aB qZ (ae (ag 0) (ae (ag 3) (ae (ag 4) aj)))) (dC (.int 1))))))
def lp : DTS :=
  (aL (pW 2 3 (ae (bI (dOp aA (ag 1) (dC (.int 0))) (dOp aA (ag 1) (dC (.int 0)))) (ae (bI (bI (ag 0) (dOp aA (ag 1) (dC (.int 1)))) (dOp aA (ag 1) (dC (.int 1)))) aj)))
  (aL (bo (kN (ae (mi (dCB oF (ae (dOp rGt (dOp aA (ag 1) (dC (.int 0))) (dC (.int 0))) aj)) (dCB oF (ae (dOp rLt (dOp aA (ag 1) (dC (.int 0))) (dC (.int 0))) aj))) (ae (mi (dCB oF (ae (dOp rGt (dOp aA (ag 1) (dC (.int 1))) (dC (.int 0))) aj)) (dCB oF (ae (dOp rLt (dOp aA (ag 1) (dC (.int 1))) (dC (.int 0))) aj))) aj))) (av 4))
  (aL (dY (dB (dOp rGe (bI (dOp aA (ag 4) (dC (.int 0))) (dOp aA (ag 4) (dC (.int 1)))) (dC (.int 0)))) (bC (dIf (dB (dOp (cW true) (dOp aA (ag 4) (dC (.int 0))) (dC (.int 0)))) (dOp aA (ag 4) (dC (.int 0))) (dOp aA (ag 4) (dC (.int 1))))) cg)
  (bC (dIf (dB (dOp rGt (ag 2) (ag 3))) (dOp aA (ag 4) (dC (.int 0))) (dOp aA (ag 4) (dC (.int 1))))))))
def kb : DTS :=
  (bC (dOp rGt (aB mK (ae (ag 0) (ae (aB iD (ae (ag 2) (ae (aB lM (ae (ag 1) aj)) aj))) aj))) (dC (.int 0))))
section
variable {μ : Mu} {Qd : DK} {ds : List D}
theorem si (h : qZ ds μ Qd) : hJ { nx := fun _ μ' => Qd (.v .none) μ', rt := Qd } (aI ["d", "a", "b", "prevailing"] ds) μ := by
  obtain ⟨d, a, b, rfl, hd, ha, hb, q⟩ := h
  unfold hJ
  walk_at "rd"
  have m1 : MulOk a a := eX ha ha (by decide)
  have m2 : MulOk d b := eX hd hb (by decide)
  have m3 : MulOk (d * b) b := eX (hd.mul hb) hb (by decide)
  unfold sg at q
  by_cases h1 : a = 0
  · by_cases h2 : b = 0
    · subst h1 h2; simpa using q
    · subst h1
      rcases Int.lt_or_gt_of_ne h2 with h3 | h3
      · have e : ¬ (0 ≤ b) := by omega
        have e' : b ≤ 0 := by omega
        simp only [h2, e, e', and_false, true_and, if_true, if_false, decide_true, decide_false, Int.le_refl, ↓reduceIte, Bool.false_eq_true] at q ⊢
        exact q
      · have e : (0 ≤ b) := by omega
        simp only [h2, e, and_false, true_and, if_true, if_false, decide_true, decide_false, Int.le_refl, ↓reduceIte, Bool.false_eq_true] at q ⊢
        exact q
  · by_cases h3 : 0 ≤ a <;> by_cases h4 : 0 ≤ b <;> by_cases h5 : a ≤ 0 <;> by_cases h6 : b ≤ 0 <;> by_cases h7 : d * b * b < a * a <;> (try (exfalso; omega)) <;>
      simp only [h1, h3, h4, h5, h6, h7, and_false, false_and, and_true, true_and, if_true, if_false, decide_true, decide_false, ↓reduceIte, Bool.false_eq_true, and_self, m1, m2, m3, gt_iff_lt] at q ⊢ <;> (try exact q)
    all_goals
      first
      | (by_cases h8 : 0 < a <;> simp only [h8, if_true, if_false, decide_true, decide_false, ↓reduceIte, Bool.false_eq_true] at q ⊢ <;> exact q)
      | (by_cases h8 : 0 < b <;> simp only [h8, if_true, if_false, decide_true, decide_false, ↓reduceIte, Bool.false_eq_true] at q ⊢ <;> exact q)
theorem BR (h : mK ds μ Qd) : pA { nx := fun _ μ' => Qd (.v .none) μ', rt := Qd } (aI ["d", "x"] ds) μ := by
  obtain ⟨d, x, rfl, hd, bx, q⟩ := h
  unfold pA
  walk_at "rd"
  exact ⟨d, x.a, x.b, rfl, wj hd.1 hd.2.1, bx.a.mono (by decide), bx.b.mono (by decide), q⟩
theorem Ac (h : uf ds μ Qd) : nk { nx := fun _ μ' => Qd (.v .none) μ', rt := Qd } (aI ["d", "x", "y", "a", "b"] ds) μ := by
  obtain ⟨d, x, y, rfl, hd, bx, by', q⟩ := h
  unfold nk
  walk_at "rd"
  have m : ∀ {i j : Int}, Sz 4400 i → Sz 4400 j → IntMulOk i j := fun h g => eX h g (by decide)
  refine ⟨m bx.a by'.c, m by'.a bx.c, m bx.b by'.c, m by'.b bx.c, d, _, _, rfl, wj hd.1 hd.2.1, ((bx.a.mul by'.c).sub (by'.a.mul bx.c)).mono (by decide), ((bx.b.mul by'.c).sub (by'.b.mul bx.c)).mono (by decide), ?_⟩
  walk_at "rd"
  exact q
theorem JU {d a b sa sb : Int} (ha : (a < 0 ∧ sa = -1) ∨ (a = 0 ∧ sa = 0) ∨ (0 < a ∧ sa = 1)) (hb : (b < 0 ∧ sb = -1) ∨ (b = 0 ∧ sb = 0) ∨ (0 < b ∧ sb = 1)) :
    sg d a b = if 0 ≤ sa * sb then (if sa ≠ 0 then sa else sb) else if d * b * b < a * a then sa else sb := by
  unfold sg
  by_cases h7 : d * b * b < a * a <;> rcases ha with ⟨h1, rfl⟩ | ⟨h1, rfl⟩ | ⟨h1, rfl⟩ <;> rcases hb with ⟨h2, rfl⟩ | ⟨h2, rfl⟩ | ⟨h2, rfl⟩ <;> simp only [h7, ↓reduceIte] <;> (repeat' split) <;> omega
theorem xV (h : mK ds μ Qd) : lp { nx := fun _ μ' => Qd (.v .none) μ', rt := Qd } (aI ["_law_d", "_law_x", "_law_first", "_law_second", "_law_sides"] ds) μ := by
  obtain ⟨d, x, rfl, hd, bx, q⟩ := h
  unfold lp
  walk_at "rd"
  have s5 := wj hd.1 hd.2.1
  refine ⟨eX bx.a bx.a (by decide), eX s5 bx.b (by decide), eX (s5.mul bx.b) bx.b (by decide), ?_⟩
  have sd : ∀ u : Int, (u < 0 ∧ ((if decide (0 < u) = true then 1 else 0) - if decide (u < 0) = true then 1 else 0 : Int) = -1) ∨ (u = 0 ∧ ((if decide (0 < u) = true then 1 else 0) - if decide (u < 0) = true then 1 else 0 : Int) = 0) ∨ (0 < u ∧ ((if decide (0 < u) = true then 1 else 0) - if decide (u < 0) = true then 1 else 0 : Int) = 1) := fun u => by
    simp only [decide_eq_true_eq]
    split <;> split <;> omega
  have ha := sd x.a
  have hb := sd x.b
  generalize ((if decide (0 < x.a) = true then 1 else 0) - if decide (x.a < 0) = true then 1 else 0 : Int) = sa at ha ⊢
  generalize ((if decide (0 < x.b) = true then 1 else 0) - if decide (x.b < 0) = true then 1 else 0 : Int) = sb at hb ⊢
  rw [JU ha hb] at q
  refine ⟨mulL (by omega), ?_⟩
  by_cases c1 : 0 ≤ sa * sb <;> by_cases c2 : sa = 0 <;> by_cases c3 : d * x.b * x.b < x.a * x.a <;> simp only [c1, c2, c3, decide_true, decide_false, ↓reduceIte, Bool.false_eq_true, Bool.xor_false, Bool.xor_true, Bool.not_true, ne_eq, not_true_eq_false, not_false_eq_true, Int.zero_mul, Int.le_refl] at q ⊢ <;> exact q
theorem wF (h : ub ds μ Qd) : kb { nx := fun _ μ' => Qd (.v .none) μ', rt := Qd } (aI ["_law_d", "_law_x", "_law_y"] ds) μ := by
  obtain ⟨d, x, y, rfl, hd, ox, oy, bx, by', q⟩ := h
  unfold kb
  walk_at "rd"
  refine ⟨x, rfl, y, minus x, rfl, oy, gf ox, by'.mono (by decide), (mw bx).mono (by decide), d, plus y (minus x), rfl, hd, (CB oy (gf ox) by' (mw bx)).mono (by decide), ?_⟩
  walk_at "rd"
  have e : sg d (plus y (minus x)).a (plus y (minus x)).b = dif d y x := by
    obtain ⟨k, hk, hs, p1, p2, p3, _⟩ := kR (y.a * (minus x).c + (minus x).a * y.c) (y.b * (minus x).c + (minus x).b * y.c) (tE oy (gf ox))
    have hk0 : 0 < k := hs.mpr (Int.mul_pos oy.c (gf ox).c)
    unfold dif
    have e1 : y.a * x.c - x.a * y.c = k * (plus y (minus x)).a := by rw [show k * (plus y (minus x)).a = _ from p1.symm]; show _ = y.a * x.c + -x.a * y.c; grind
    have e2 : y.b * x.c - x.b * y.c = k * (plus y (minus x)).b := by rw [show k * (plus y (minus x)).b = _ from p2.symm]; show _ = y.b * x.c + -x.b * y.c; grind
    rw [e1, e2, ix hd hk0]
  rw [e]
  have t := sC d (y.a * x.c - x.a * y.c) (y.b * x.c - x.b * y.c)
  have f : decide (0 < dif d y x) = decide (dif d y x = 1) := by unfold dif; rcases t with z | z | z <;> rw [z] <;> decide
  rw [f]
  exact q
end
open PySem PySem.Spec PyProof.Rows NM
def nj : DTS :=
  (aL (bo (dC (.int 0)) (av 2))
  (aL (dY (dB (dOp rLt (ag 1) (dCB ky (ae (ag 0) aj)))) (bo (dOp aA (ag 0) (ag 1)) (av 2)) cg)
  (aL (bo (dC (.int 0)) (av 3))
  (aL (dY (dB (dOp rGe (dCB qo (ae (ag 2) aj)) (HG (dC (.int 10)) (dC (.int 18))))) (bo (dCB qo (ae (ag 2) aj)) (av 3)) cg)
  (aL (bo (kN (ae (dC (.int 2147483647)) (ae (dC (.int 2147483629)) (ae (dC (.int 2147483587)) (ae (dC (.int 2147483579)) (ae (dC (.int 2147483563)) (ae (dC (.int 2147483549)) (ae (dC (.int 2147483543)) (ae (dC (.int 2147483497)) aj))))))))) (av 4))
  (aL (bo (ka (ka (ka (bI (vx (ag 2) (dC (.int 2147483647))) (dC (.int 69623))) (bI (bI (dC (.int 104729)) (ag 1)) (ag 1))) (bI (dC (.int 7919)) (ag 1))) (dC (.int 12345))) (av 5))
  (bC (vC (ae (ag 3) (ae (vx (ag 5) (dOp aA (ag 4) (vx (ag 1) (dC (.int 8))))) aj))))))))))
def lz : DTS :=
  (aL (dY (dB (dOp rGt (dOp aA (ag 0) (dC (.int 0))) (dC (.int 0)))) (aL (bo (vx (dOp aA (ag 0) (dC (.int 0))) (ag 1)) (av 2))
  (aL (bo (rH (dOp aA (ag 0) (dC (.int 0))) (ag 1)) (CM (ag 0) (dC (.int 0))))
  (bC (ag 2)))) cg)
  (aL (bo (vx (ka (bI (dOp aA (ag 0) (dC (.int 1))) (dC (.int 48271))) (dC (.int 2531011))) (dC (.int 2147483647))) (CM (ag 0) (dC (.int 1))))
  (bC (vx (rH (vx (HG (dOp aA (ag 0) (dC (.int 1))) (dC (.int 3))) (dC (.int 2147483629))) (dC (.int 64))) (ag 1)))))
section
variable {μ : Mu} {Qd : DK} {ds : List D}
theorem ur {α : Type} {xs : List α} {i : Int} (h0 : 0 ≤ i) (h : i < (xs.length : Nat)) : ∃ d, atI xs i = some d ∧ d ∈ xs := by
  have hj : i.toNat < xs.length := by omega
  have e := uo (xs := xs) (j := i.toNat) (v := xs[i.toNat]) (by simp [hj])
  rw [show ((i.toNat : Nat) : Int) = i by omega] at e
  exact ⟨_, e, List.getElem_mem _⟩
theorem mx (x : Int) {y : Int} (h : 0 < y) : 0 ≤ x.fmod y ∧ x.fmod y < y := ⟨Int.fmod_nonneg_of_pos x h, Int.fmod_lt_of_pos x h⟩
theorem GN {x y : Int} (hx : 0 ≤ x) (hy : 0 < y) : 0 ≤ x.fdiv y := by rw [Int.fdiv_eq_ediv_of_nonneg _ (by omega)]; exact Int.ediv_nonneg hx (by omega)
def nP : List PyData := [.int 2147483647, .int 2147483629, .int 2147483587, .int 2147483579, .int 2147483563, .int 2147483549, .int 2147483543, .int 2147483497]
theorem zP (h : Dg ds μ Qd) : nj { nx := fun _ μ' => Qd (.v .none) μ', rt := Qd } (aI ["_law_script", "_law_at", "_law_cell", "_law_great", "_law_primes", "_law_mixed"] ds) μ := by
  obtain ⟨ns, k, rfl, h0, h1, q⟩ := h
  unfold nj
  have hp : ∃ pr : Int, atI nP (k.fmod 8) = some (.int pr) ∧ 0 < pr ∧ pr < 2147483648 := by
    obtain ⟨h2, h3⟩ := mx k (show (0 : Int) < 8 by decide)
    obtain ⟨p, e, hm⟩ := ur (xs := nP) h2 (by exact h3)
    simp only [nP, List.mem_cons, List.not_mem_nil, or_false] at hm
    rcases hm with rfl | rfl | rfl | rfl | rfl | rfl | rfl | rfl <;> exact ⟨_, e, by decide, by decide⟩
  obtain ⟨pr, hpe, hp0, hp1⟩ := hp
  unfold nP at hpe
  walk_at "rd"
  rw [hpe]
  walk_at "rd"
  have c1 : Kq 10 18 := ⟨by decide, by decide, by decide⟩
  have z1 : (2147483647 : Int) ≠ 0 := by decide
  have z2 : (8 : Int) ≠ 0 := by decide
  have m1 : ∀ i : Int, MulOk i 69623 := fun i => mulR (by decide)
  have m2 : MulOk 104729 k := mulL (by decide)
  have m3 : MulOk (104729 * k) k := mulR (by omega)
  have m4 : MulOk 7919 k := mulL (by decide)
  have z3 : pr ≠ 0 := by omega
  have fin : ∀ G x : Int, 0 ≤ G → ∀ p, μ p = none → Qd (.m p) (aP μ p [.int G, .int (x.fmod pr)]) := fun G x hG p hp => by
    obtain ⟨h2, h3⟩ := mx x hp0
    exact q p _ hp (Step.set hG h2 (by omega))
  by_cases hk : k < (ns.length : Nat)
  · rw [if_pos (by simpa using hk)]
    obtain ⟨c, hc, _⟩ := ur h0 hk
    rw [hc]
    walk_at "rd"
    refine ⟨c1, ?_⟩
    split
    · exact ⟨z1, m1 _, m2, m3, m4, z2, z3, fin _ _ (by omega)⟩
    · exact ⟨z1, m1 _, m2, m3, m4, z2, z3, fin _ _ (by omega)⟩
  · rw [if_neg (by simpa using hk)]
    refine ⟨c1, ?_⟩
    split
    · exact ⟨z1, m1 _, m2, m3, m4, z2, z3, fin _ _ (by omega)⟩
    · exact ⟨z1, m1 _, m2, m3, m4, z2, z3, fin _ _ (by omega)⟩
theorem xX (h : cH ds μ Qd) : lz { nx := fun _ μ' => Qd (.v .none) μ', rt := Qd } (aI ["_law_bag_here", "_law_many", "_law_digit"] ds) μ := by
  obtain ⟨a, n, rfl, h0, h1, ⟨g, m, hb, hg, hm, hm'⟩, q⟩ := h
  unfold lz
  walk_at "rd"
  rw [hb]
  walk_at "rd"
  rw [hb]
  walk_at "rd"
  have n0 : n ≠ 0 := by omega
  have i0 : ixN 2 0 = some 0 := by rfl
  have i1 : ixN 2 1 = some 1 := by rfl
  by_cases hg0 : 0 < g
  · rw [if_pos (by simpa using hg0)]
    simp only [hb]
    walk_at "rd"
    obtain ⟨r0, r1⟩ := mx g (show 0 < n by omega)
    refine ⟨n0, ?_⟩
    simp only [hb]
    walk_at "rd"
    refine ⟨divC n0 (by omega), ?_⟩
    simp only [hb, List.length_cons, List.length_nil, Nat.reduceAdd, i0, List.set_cons_zero]
    exact q _ _ r0 r1 (Step.set (GN hg (by omega)) hm hm')
  · rw [if_neg (by simpa using hg0)]
    simp only [hb, i1, aQ]
    walk_at "rd"
    obtain ⟨s0, s1⟩ := mx (m * 48271 + 2531011) (show (0 : Int) < 2147483647 by decide)
    generalize (m * 48271 + 2531011).fmod 2147483647 = w at s0 s1 ⊢
    obtain ⟨r0, r1⟩ := mx ((((w ^ Int.toNat 3).fmod 2147483629).fdiv 64)) (show 0 < n by omega)
    refine ⟨mulL (by omega), by decide, ?_⟩
    refine ⟨⟨by decide, by decide, by omega⟩, (by show (2147483629 : Int) ≠ 0; decide), divC (by decide) (by decide), n0, ?_⟩
    exact q _ _ r0 r1 (Step.set hg s0 (by omega))
end
open PySem PySem.Spec PyProof.Rows NM
section
variable {μ : Mu} {Qd : DK} {ds : List D}
end
open PySem PySem.Spec PyProof.Rows NM
def lK : DTS :=
  (aL (dY (GB (oA (dB (EY "tuple" (ag 0)))) (dB (dOp (cW true) (dCB ky (ae (ag 0) aj)) (dC (.int 3))))) (bC (dC (.bool false))) cg)
  (aL (bo (ag 0) (i6 3 (bW (av 1) (bW (av 2) (bW (av 3) jX)))))
  (aL (dY (GB (oA (dB (aB nS (ae (ag 1) aj)))) (GB (oA (dB (aB nS (ae (ag 2) aj)))) (oA (dB (aB nS (ae (ag 3) aj)))))) (bC (dC (.bool false))) cg)
  (bC (xf (dOp rGe (ag 3) (dC (.int 1))) (dOp (cW false) (aB vB (ae (ag 1) (ae (ag 2) (ae (ag 3) aj)))) (dC (.int 1))))))))
section
variable {μ : Mu} {Qd : DK} {ds : List D}
def CU (i : Int) : Bool := decide (2 ≤ i) && decide (i ≤ 30) && !(decide (i = 4) || decide (i = 9) || decide (i = 16) || decide (i = 25))
theorem kc (d : PyData) : (∃ i, d = .int i ∧ isWhole d = true) ∨ ((∀ i, d ≠ .int i) ∧ isWhole d = false) := by
  cases d <;> first | exact .inl ⟨_, rfl, rfl⟩ | exact .inr ⟨fun _ z => (by cases z), rfl⟩
theorem HA (d : PyData) : (∃ xs, d = .tuple xs ∧ isT "tuple" d = true) ∨ ((∀ xs, d ≠ .tuple xs) ∧ isT "tuple" d = false) := by
  cases d <;> first | exact .inl ⟨_, rfl, rfl⟩ | exact .inr ⟨fun _ z => (by cases z), rfl⟩
theorem DF {d : PyData} (h : ∀ xs, d ≠ .tuple xs) : isNum d = false := by cases d <;> first | rfl | exact absurd rfl (h _)
theorem DB {xs : List PyData} (h : xs.length ≠ 3) : isNum (.tuple xs) = false := by
  unfold isNum
  split
  · rename_i e; cases e; exact absurd rfl h
  · rfl
theorem three {α : Type} {xs : List α} (h : xs.length = 3) : ∃ a b c, xs = [a, b, c] := by
  match xs, h with
  | [a, b, c], _ => exact ⟨a, b, c, rfl⟩
theorem ya (h : xE ds μ Qd) : lK { nx := fun _ μ' => Qd (.v .none) μ', rt := Qd } (aI ["thing", "a", "b", "c"] ds) μ := by
  obtain ⟨d, rfl, _, q⟩ := h
  unfold lK
  walk_at "rd"
  rcases HA d with ⟨xs, rfl, e⟩ | ⟨hn, e⟩
  · rw [e]
    walk_at "rd"
    by_cases hl : xs.length = 3
    · obtain ⟨a, b, c, rfl⟩ := three hl
      have e3 : decide ((([a, b, c].length : Nat) : Int) = 3) = true := rfl
      have e3' : [a, b, c].length = 3 := rfl
      simp only [e3, Bool.xor_self, Bool.false_eq_true, ↓reduceIte]
      refine ⟨rfl, ?_⟩
      walk_at "rd"
      refine ⟨a, rfl, ?_⟩
      rcases kc a with ⟨i, rfl, e⟩ | ⟨hn, e⟩
      · rw [e]
        walk_at "rd"
        refine ⟨b, rfl, ?_⟩
        rcases kc b with ⟨j, rfl, e⟩ | ⟨hn, e⟩
        · rw [e]
          walk_at "rd"
          refine ⟨c, rfl, ?_⟩
          rcases kc c with ⟨k, rfl, e⟩ | ⟨hn, e⟩
          · rw [e]
            walk_at "rd"
            have q' : Qd (.v (.bool (decide (1 ≤ k) && (g3 i j k == 1)))) μ := q
            by_cases hk : 1 ≤ k
            · rw [if_pos (by simpa using hk)]
              refine ⟨i, j, k, rfl, ?_⟩
              walk_at "rd"
              have ee : decide (((g3 i j k : Nat) : Int) = 1) = (decide (1 ≤ k) && (g3 i j k == 1)) := by
                rw [decide_eq_true hk, Bool.true_and, Bool.eq_iff_iff]; simp; omega
              rw [ee]
              exact q'
            · rw [if_neg (by simpa using hk)]
              rw [decide_eq_false hk] at q'
              exact q'
          · rw [e]
            walk_at "rd"
            have : isNum (.tuple [.int i, .int j, c]) = false := by cases c <;> first | rfl | exact absurd rfl (hn _)
            rw [this] at q
            exact q
        · rw [e]
          walk_at "rd"
          have : isNum (.tuple [.int i, b, c]) = false := by cases b <;> first | rfl | exact absurd rfl (hn _)
          rw [this] at q
          exact q
      · rw [e]
        walk_at "rd"
        have : isNum (.tuple [a, b, c]) = false := by cases a <;> first | rfl | exact absurd rfl (hn _)
        rw [this] at q
        exact q
    · rw [DB hl] at q
      have : decide (((xs.length : Nat) : Int) = 3) = false := by simp; omega
      rw [this]
      simp only [Bool.xor_false, ↓reduceIte]
      exact q
  · rw [e]
    rw [DF hn] at q
    walk_at "rd"
    exact q
end
open PySem PySem.Spec PyProof.Rows NM
def jr : DTS :=
  (aL (bo (dOp aA (kN (ae (dC (.int 4)) (ae (dC (.int 10)) (ae (dC (.int 100)) (ae (dC (.int 1000000)) aj))))) (aB cH (ae (ag 0) (ae (dC (.int 4)) aj)))) (av 1))
  (aL (pW 2 3 (ae (mi (aB cH (ae (ag 0) (ae (ag 1) aj))) (rH (ag 1) (dC (.int 2)))) (ae (mi (aB cH (ae (ag 0) (ae (ag 1) aj))) (rH (ag 1) (dC (.int 2)))) aj)))
  (aL (bo (ka (dC (.int 1)) (aB cH (ae (ag 0) (ae (mi (ag 1) (dC (.int 1))) aj)))) (av 4))
  (aL (bo (aB cH (ae (ag 0) (ae (dC (.int 8)) aj))) (av 5))
  (bC (aB cB (ae (dOp aA (kN (ae (ag 2) (ae (ag 2) (ae (ag 2) (ae (ag 2) (ae (ag 2) (ae (ag 2) (ae (ag 2) (ae (dC (.int 0)) aj))))))))) (ag 5)) (ae (dOp aA (kN (ae (ag 3) (ae (ag 3) (ae (ag 3) (ae (ag 3) (ae (ag 3) (ae (dC (.int 0)) (ae (dC (.int 0)) (ae (ag 3) aj))))))))) (ag 5)) (ae (dOp aA (kN (ae (ag 4) (ae (ag 4) (ae (dC (.int 1)) (ae (ag 4) (ae (dC (.int 1)) (ae (ag 4) (ae (dC (.int 1)) (ae (ag 4) aj))))))))) (ag 5)) aj)))))))))
section
variable {μ : Mu} {Qd : DK} {ds : List D}
theorem pick {P : PyData → Prop} {xs : List PyData} {i : Int} (h0 : 0 ≤ i) (h1 : i < (xs.length : Nat)) (h : ∀ x ∈ xs, P x) : ∃ d, atI xs i = some d ∧ P d := let ⟨d, e, m⟩ := ur h0 h1; ⟨d, e, h d m⟩
theorem Step.refl {a : Addr} (h : Bag μ a) : Step a μ μ := ⟨h, fun _ _ => rfl⟩
theorem ze {i : Int} (h1 : -1048576 < i) (h2 : i < 1048576) : Sz 20 i := Sz.of (by show i.natAbs < 1048576; omega)
theorem uz (h : nR ds μ Qd) : jr { nx := fun _ μ' => Qd (.v .none) μ', rt := Qd } (aI ["_law_bag_here", "_law_wide", "_law_a", "_law_b", "_law_c", "_law_way"] ds) μ := by
  obtain ⟨a, rfl, hb, q⟩ := h
  unfold jr
  walk_at "rd"
  refine ⟨a, 4, rfl, by decide, by decide, hb, fun r0 μ1 h0 h1 s1 => ?_⟩
  walk_at "rd"
  obtain ⟨w, e, i, rfl, w0, w1⟩ := pick (P := fun d => ∃ i : Int, d = .int i ∧ 4 ≤ i ∧ i ≤ 1000000) (xs := [PyData.int 4, PyData.int 10, PyData.int 100, PyData.int 1000000]) h0 (by exact h1) (by
    intro x hx
    simp only [List.mem_cons, List.not_mem_nil, or_false] at hx
    rcases hx with rfl | rfl | rfl | rfl <;> exact ⟨_, rfl, by decide, by decide⟩)
  rw [e]
  walk_at "rd"
  refine ⟨a, i, rfl, by omega, by omega, s1.1, fun r1 μ2 h2 h3 s2 => ?_⟩
  walk_at "rd"
  refine ⟨divC (by decide) (by decide), a, i, rfl, by omega, by omega, s2.1, fun r2 μ3 h4 h5 s3 => ?_⟩
  walk_at "rd"
  refine ⟨divC (by decide) (by decide), a, i - 1, rfl, by omega, by omega, s3.1, fun r3 μ4 h6 h7 s4 => ?_⟩
  walk_at "rd"
  refine ⟨a, 8, rfl, by decide, by decide, s4.1, fun r4 μ5 h8 h9 s5 => ?_⟩
  walk_at "rd"
  have ef : i.fdiv 2 = i / 2 := Int.fdiv_eq_ediv_of_nonneg _ (by omega)
  rw [ef]
  have za : Sz 20 (r1 - i / 2) := ze (by omega) (by omega)
  have zb : Sz 20 (r2 - i / 2) := ze (by omega) (by omega)
  have zc : Sz 20 (1 + r3) := ze (by omega) (by omega)
  have z0 : Sz 20 0 := ze (by omega) (by omega)
  have z1 : Sz 20 1 := ze (by omega) (by omega)
  obtain ⟨d1, e1, i1, rfl, b1⟩ := pick (P := fun d => ∃ i : Int, d = .int i ∧ Sz 20 i) (xs := [PyData.int (r1 - i / 2), PyData.int (r1 - i / 2), PyData.int (r1 - i / 2), PyData.int (r1 - i / 2), PyData.int (r1 - i / 2), PyData.int (r1 - i / 2), PyData.int (r1 - i / 2), PyData.int 0]) h8 (by exact h9) (by
    intro x hx
    simp only [List.mem_cons, List.not_mem_nil, or_false] at hx
    rcases hx with rfl | rfl | rfl | rfl | rfl | rfl | rfl | rfl <;> exact ⟨_, rfl, by assumption⟩)
  rw [e1]
  walk_at "rd"
  obtain ⟨d2, e2, i2, rfl, b2⟩ := pick (P := fun d => ∃ i : Int, d = .int i ∧ Sz 20 i) (xs := [PyData.int (r2 - i / 2), PyData.int (r2 - i / 2), PyData.int (r2 - i / 2), PyData.int (r2 - i / 2), PyData.int (r2 - i / 2), PyData.int 0, PyData.int 0, PyData.int (r2 - i / 2)]) h8 (by exact h9) (by
    intro x hx
    simp only [List.mem_cons, List.not_mem_nil, or_false] at hx
    rcases hx with rfl | rfl | rfl | rfl | rfl | rfl | rfl | rfl <;> exact ⟨_, rfl, by assumption⟩)
  rw [e2]
  walk_at "rd"
  obtain ⟨d3, e3, i3, rfl, b3, p3⟩ := pick (P := fun d => ∃ i : Int, d = .int i ∧ Sz 20 i ∧ 0 < i) (xs := [PyData.int (1 + r3), PyData.int (1 + r3), PyData.int 1, PyData.int (1 + r3), PyData.int 1, PyData.int (1 + r3), PyData.int 1, PyData.int (1 + r3)]) h8 (by exact h9) (by
    intro x hx
    simp only [List.mem_cons, List.not_mem_nil, or_false] at hx
    rcases hx with rfl | rfl | rfl | rfl | rfl | rfl | rfl | rfl <;> exact ⟨_, rfl, by assumption, by omega⟩)
  rw [e3]
  walk_at "rd"
  have n3 : i3 ≠ 0 := by omega
  exact ⟨i1, i2, i3, rfl, n3, b3.mono (by decide), q _ _ (mI _ _ n3) (sA n3 b1 b2 b3) (s1.trans (s2.trans (s3.trans (s4.trans s5))))⟩
end
open PySem PySem.Spec PyProof.Rows NM
def lA : DTS :=
  (aL (dY (dB (dOp (cW false) (aB cH (ae (ag 0) (ae (dC (.int 2)) aj))) (dC (.int 0)))) (bC (dOp aA (kN (ae (dC (.int 2)) (ae (dC (.int 3)) (ae (dC (.int 5)) aj)))) (aB cH (ae (ag 0) (ae (dC (.int 3)) aj))))) cg)
  (aL (bo (kn [none] (Bo (ae (dC (.int 2)) (ae (dC (.int 31)) aj))) (av 0) (dB (dOp (HE true) (ag 0) (kN (ae (dC (.int 4)) (ae (dC (.int 9)) (ae (dC (.int 16)) (ae (dC (.int 25)) aj))))))) (ag 0)) (av 1))
  (bC (dOp aA (ag 1) (aB cH (ae (ag 0) (ae (dC (.int 25)) aj)))))))
def mC : DTS :=
  (aL (bo (kN (ae (dC .none) (ae (dC (.bool true)) (ae (dC (.bool false)) (ae (dC (.str "1")) (ae (dC (.str "")) (ae (rq (dC (.int 1))) (ae (dC (.int 0)) (ae (dC (.int 1)) (ae (HG (dC (.int 10)) (dC (.int 59))) (ae (aW aj) (ae (kN aj) (ae (kN (ae (dC (.int 0)) aj)) (ae (aW (ae (dC (.int 0)) (ae (dC (.int 0)) aj))) (ae (aW (ae (dC (.int 1)) (ae (dC (.int 0)) (ae (dC (.int 0)) aj)))) (ae (aW (ae (dC (.int 2)) (ae (dC (.int 0)) (ae (dC (.int 2)) aj)))) (ae (aW (ae (dC (.int 1)) (ae (dC (.bool true)) (ae (dC (.int 1)) aj)))) (ae (aW (ae (dC (.int 1)) (ae (dC (.int 1)) (ae (rq (dC (.int 1))) aj)))) (ae (kN (ae (dC (.int 1)) (ae (dC (.int 0)) (ae (dC (.int 1)) aj)))) (ae (aW (ae (dC (.int 1)) (ae (dC (.int 0)) aj))) (ae (dC (.str "a")) aj))))))))))))))))))))) (av 1))
  (bC (dOp aA (ag 1) (aB cH (ae (ag 0) (ae (dC (.int 20)) aj))))))
def j6 : DTS :=
  (aL (bo (aB nR (ae (ag 0) aj)) (av 2))
  (aL (bo (aB mK (ae (ag 1) (ae (ag 2) aj))) (av 3))
  (aL (dY (dB (dOp (cW false) (ag 3) (dC (.int 0)))) (bC (aW (ae (ka (dC (.int 1)) (aB cH (ae (ag 0) (ae (dC (.int 5)) aj)))) (ae (dC (.int 0)) (ae (dC (.int 1)) aj))))) cg)
  (bC (dIf (dB (dOp rGt (ag 3) (dC (.int 0)))) (ag 2) (aB lM (ae (ag 2) aj)))))))
section
variable {μ : Mu} {Qd : DK} {ds : List D}
theorem GS {lo : Int} {n : Nat} {x : PyData} (h : x ∈ mO lo n) : ∃ i : Int, x = .int i ∧ lo ≤ i ∧ i < lo + n := by
  unfold mO at h
  obtain ⟨k, hk, rfl⟩ := List.mem_map.mp h
  have := List.mem_range.mp hk
  exact ⟨_, rfl, by omega, by omega⟩
def zU : PyData → Option PyData
  | .int i => if CU i then some (.int i) else none
  | _ => none
def yI : List PyData := [2, 3, 5, 6, 7, 8, 10, 11, 12, 13, 14, 15, 17, 18, 19, 20, 21, 22, 23, 24, 26, 27, 28, 29, 30].map PyData.int
theorem in4 (i : Int) : (List.any [PyData.int 4, PyData.int 9, PyData.int 16, PyData.int 25] fun b => PyData.eqv b (.int i)) = (decide (i = 4) || decide (i = 9) || decide (i = 16) || decide (i = 25)) := by
  have ev : ∀ j : Int, PyData.eqv (.int j) (.int i) = decide (i = j) := fun j => by rw [Ms]; simp [eq_comm]
  simp only [List.any_cons, List.any_nil, ev, Bool.or_false, Bool.or_assoc]
theorem xW (h : um ds μ Qd) : lA { nx := fun _ μ' => Qd (.v .none) μ', rt := Qd } (aI ["_law_bag_here", "_law_some"] ds) μ := by
  obtain ⟨a, rfl, hb, q⟩ := h
  unfold lA
  walk_at "rd"
  refine ⟨a, 2, rfl, by decide, by decide, hb, fun r0 μ1 h0 h1 s1 => ?_⟩
  walk_at "rd"
  by_cases hr : r0 = 0
  · rw [if_pos (by simpa using hr)]
    refine ⟨a, 3, rfl, by decide, by decide, s1.1, fun r1 μ2 h2 h3 s2 => ?_⟩
    walk_at "rd"
    obtain ⟨w, e, i, rfl, w0⟩ := pick (P := fun d => ∃ i : Int, d = .int i ∧ aO i) (xs := [PyData.int 2, PyData.int 3, PyData.int 5]) h2 (by exact h3) (by
      intro x hx
      simp only [List.mem_cons, List.not_mem_nil, or_false] at hx
      rcases hx with rfl | rfl | rfl <;> exact ⟨_, rfl, by unfold aO; omega⟩)
    rw [e]
    exact q _ _ w0 (s1.trans s2)
  · rw [if_neg (by simpa using hr)]
    refine ⟨⟨by decide, by decide, by decide, by decide⟩, by decide, fun p hp => ⟨fun i acc μ' => acc = ((mO 2 29).take i).filterMap zU ∧ μ' = aP μ1 p acc, ⟨rfl, rfl⟩, ?_, ?_⟩⟩
    · rintro i x acc μ' hx hpa ⟨e0, e1⟩
      obtain ⟨k, rfl, i0, i1⟩ := GS (List.mem_of_getElem? hx)
      refine ⟨trivial, rfl, rfl, by show 0 ≤ 60; decide, ?_⟩
      rw [in4]
      have i1' : k < 31 := by simpa using i1
      have e : zU (.int k) = if CU k then some (.int k) else none := rfl
      have e2 : CU k = !(decide (k = 4) || decide (k = 9) || decide (k = 16) || decide (k = 25)) := by
        unfold CU
        rw [decide_eq_true i0, decide_eq_true (show k ≤ 30 by omega)]
        rfl
      have ft : ((mO 2 29).take (i + 1)).filterMap zU = ((mO 2 29).take i).filterMap zU ++ (zU (.int k)).toList := Kc hx
      rw [e, e2] at ft
      cases hh : (decide (k = 4) || decide (k = 9) || decide (k = 16) || decide (k = 25))
      · rw [hh] at ft
        simp only [Bool.true_xor, Bool.not_false, ↓reduceIte] at ft ⊢
        refine ⟨hpa, ?_, ?_⟩
        · rw [ft, e0]; rfl
        · rw [e1, rZ]
      · rw [hh] at ft
        simp only [Bool.true_xor, Bool.not_true, ↓reduceIte, Bool.false_eq_true] at ft ⊢
        refine ⟨hpa, ?_, e1⟩
        rw [ft, e0]; simp
    rintro acc μ' ⟨e0, e1⟩ _
    have ed : gJ μ' p = μ1 := by rw [e1]; exact wM hp
    rw [ed]
    have e0' : acc = yI := by rw [e0]; rfl
    rw [e0']
    refine ⟨a, 25, rfl, by decide, by decide, s1.1, fun r1 μ2 h2 h3 s2 => ?_⟩
    walk_at "rd"
    obtain ⟨w, e, i, rfl, w0⟩ := pick (P := fun d => ∃ i : Int, d = .int i ∧ aO i) (xs := yI) h2 (by exact h3) (by
      intro x hx
      unfold yI at hx
      obtain ⟨k, hk, rfl⟩ := List.mem_map.mp hx
      refine ⟨_, rfl, ?_⟩
      simp only [List.mem_cons, List.not_mem_nil, or_false] at hk
      unfold aO
      omega)
    rw [e]
    exact q _ _ w0 (s1.trans s2)
def pO : List PyData := [.none, .bool true, .bool false, .str "1", .str "", .int (-1), .int 0, .int 1, .int (10 ^ Int.toNat 59), .tuple [], .list [], .list [.int 0], .tuple [.int 0, .int 0], .tuple [.int 1, .int 0, .int 0], .tuple [.int 2, .int 0, .int 2], .tuple [.int 1, .bool true, .int 1], .tuple [.int 1, .int 1, .int (-1)], .list [.int 1, .int 0, .int 1], .tuple [.int 1, .int 0], .str "a"]
def CH : DSp := fun ds μ Q => ∃ a : Addr, ds = [.m a] ∧ Bag μ a ∧ ∀ d μ', d ∈ pO → Step a μ μ' → Q (.v d) μ'
theorem Ak (h : CH ds μ Qd) : mC { nx := fun _ μ' => Qd (.v .none) μ', rt := Qd } (aI ["_law_bag_here", "_law_some"] ds) μ := by
  obtain ⟨a, rfl, hb, q⟩ := h
  unfold mC
  walk_at "rd"
  refine ⟨⟨by decide, by decide, by decide⟩, a, 20, rfl, by decide, by decide, hb, fun r0 μ1 h0 h1 s1 => ?_⟩
  walk_at "rd"
  obtain ⟨d, e, m⟩ := ur (xs := pO) h0 (by exact h1)
  unfold pO at e
  rw [e]
  exact q d _ m s1
def kC : DSp := fun ds μ Q => ∃ (a : Addr) (d : Int), ds = [.m a, .v (.int d)] ∧ aO d ∧ Bag μ a ∧ ∀ x μ', Ok x → Bd 20 x → sg d x.a x.b = 1 → Step a μ μ' → Q (.v (dN x)) μ'
theorem vS (h : kC ds μ Qd) : j6 { nx := fun _ μ' => Qd (.v .none) μ', rt := Qd } (aI ["_law_bag_here", "_law_d", "_law_x", "_law_sign_here"] ds) μ := by
  obtain ⟨a, d, rfl, hd, hb, q⟩ := h
  unfold j6
  walk_at "rd"
  refine ⟨a, rfl, hb, fun x μ1 ox bx s1 => ?_⟩
  walk_at "rd"
  refine ⟨d, x, rfl, hd, bx.mono (by decide), ?_⟩
  walk_at "rd"
  have t := sC d x.a x.b
  by_cases h0 : sg d x.a x.b = 0
  · rw [if_pos (by simpa using h0)]
    refine ⟨a, 5, rfl, by decide, by decide, s1.1, fun r μ2 r0 r1 s2 => ?_⟩
    walk_at "rd"
    have ok : Ok ⟨1 + r, 0, 1⟩ := ⟨by show (0 : Int) < 1; decide, by unfold g3; simp⟩
    refine q ⟨1 + r, 0, 1⟩ μ2 ok ⟨ze (by show -1048576 < 1 + r; omega) (by show 1 + r < 1048576; omega), ze (by show -1048576 < (0 : Int); decide) (by show (0 : Int) < 1048576; decide), ze (by show -1048576 < (1 : Int); decide) (by show (1 : Int) < 1048576; decide)⟩ ?_ (s1.trans s2)
    show sg d (1 + r) 0 = 1
    unfold sg
    rw [if_neg (by omega), if_pos (by omega)]
  · rw [if_neg (by simpa using h0)]
    by_cases h1 : 0 < sg d x.a x.b
    · rw [if_pos (by simpa using h1)]
      exact q x μ1 ox bx (by omega) s1
    · rw [if_neg (by simpa using h1)]
      refine ⟨x, rfl, ?_⟩
      refine q (minus x) μ1 (gf ox) (mw bx) ?_ s1
      show sg d (-x.a) (-x.b) = 1
      rw [uB hd]
      omega
end
open PySem PySem.Spec PyProof.Rows NM
section
variable {μ : Mu} {Q : DK} {ds : List D}
def uI : DSp := fun ds μ Q => ∃ ns : List Int, ds = [.s ns] ∧ ns.length ≤ 63 ∧ ∀ μ', Q (.v (.bool true)) μ'
theorem zB (h : nS ds μ Q) : ds.length = 1 := by obtain ⟨_, rfl, _⟩ := h; rfl
theorem w9 (h : qe ds μ Q) : ds.length = 2 := by obtain ⟨_, _, rfl, _⟩ := h; rfl
theorem Cj (h : vB ds μ Q) : ds.length = 3 := by obtain ⟨_, _, _, rfl, _⟩ := h; rfl
theorem Bw (h : xE ds μ Q) : ds.length = 1 := by obtain ⟨_, rfl, _⟩ := h; rfl
theorem qa (h : cB ds μ Q) : ds.length = 3 := by obtain ⟨_, _, _, rfl, _⟩ := h; rfl
theorem zq (h : lM ds μ Q) : ds.length = 1 := by obtain ⟨_, rfl, _⟩ := h; rfl
theorem uJ (h : iD ds μ Q) : ds.length = 2 := by obtain ⟨_, _, rfl, _⟩ := h; rfl
theorem vw (h : k8 ds μ Q) : ds.length = 2 := by obtain ⟨_, _, rfl, _⟩ := h; rfl
theorem tu (h : iY ds μ Q) : ds.length = 3 := by obtain ⟨_, _, _, rfl, _⟩ := h; rfl
theorem mr (h : fB ds μ Q) : ds.length = 2 := by obtain ⟨_, _, rfl, _⟩ := h; rfl
theorem vo (h : o6 ds μ Q) : ds.length = 3 := by obtain ⟨_, _, _, rfl, _⟩ := h; rfl
theorem zF (h : qZ ds μ Q) : ds.length = 3 := by obtain ⟨_, _, _, rfl, _⟩ := h; rfl
theorem vI (h : mK ds μ Q) : ds.length = 2 := by obtain ⟨_, _, rfl, _⟩ := h; rfl
theorem AF (h : uf ds μ Q) : ds.length = 3 := by obtain ⟨_, _, _, rfl, _⟩ := h; rfl
theorem Am (h : ub ds μ Q) : ds.length = 3 := by obtain ⟨_, _, _, rfl, _⟩ := h; rfl
theorem Ed (h : Dg ds μ Q) : ds.length = 2 := by obtain ⟨_, _, rfl, _⟩ := h; rfl
theorem BC (h : cH ds μ Q) : ds.length = 2 := by obtain ⟨_, _, rfl, _⟩ := h; rfl
theorem wu (h : nR ds μ Q) : ds.length = 1 := by obtain ⟨_, rfl, _⟩ := h; rfl
theorem zf (h : um ds μ Q) : ds.length = 1 := by obtain ⟨_, rfl, _⟩ := h; rfl
theorem D4 (h : CH ds μ Q) : ds.length = 1 := by obtain ⟨_, rfl, _⟩ := h; rfl
theorem yS (h : kC ds μ Q) : ds.length = 2 := by obtain ⟨_, _, rfl, _⟩ := h; rfl
theorem Dq (h : uI ds μ Q) : ds.length = 1 := by obtain ⟨_, rfl, _⟩ := h; rfl
end
structure KL (K : PySem.W.Frag) (mg : Str → Option Value) (x : Str) (g : Addr) (a b c : Int) : Prop where
  m : mg x = some (.ref g)
  l : ∃ (od : Option Addr) (n : Nat) (sl : Array (Option Value)) (t u v : Tok), K.lookup g = some ⟨.type "tuple", od, .seq #[.int a t, .int b u, .int c v] n, sl⟩
theorem kP {X : Cx} {x : Str} {g : Addr} {a b c : Int} {pos : Pos} (hg : Gl X x) (h : KL X.K X.mg x g a b c) (hd : (x == ("__debug__" : Str)) = false := by decide) : DE X (.Name x pos) (dC (.tuple [.int a, .int b, .int c])) := by
  obtain ⟨od, n, sl, t, u, v, e⟩ := h.l
  refine xk (u := .ref g) hg h.m rfl (fun μ H _ => Rp.tuple (xs := [.int a, .int b, .int c]) (.inr ⟨_, _, _, e, rfl, rfl, (by show 3 ≤ sizeLine; decide), .cons ⟨t, rfl⟩ (.cons ⟨u, rfl⟩ (.cons ⟨v, rfl⟩ .nil))⟩) (.cons (.int a) (.cons (.int b) (.cons (.int c) .nil)))) hd
theorem DH {K : PySem.W.Frag} {H : Hp} {a : Addr} {ns : List Int} (hl : ns.length ≤ 63) (hT : wz K H) (hS : SqL K H a (ns.map V.int)) : spD K uI [.ref a] H (fun v _ => v = .bl true) fun _ _ _ => False := by
  refine ⟨[.s ns], fun _ => none, fun d _ => d = .v (.bool true), ⟨fun a ds h => (by cases h), hT⟩, .cons ⟨a, rfl, hS, rfl⟩ .nil, ⟨ns, rfl, hl, fun _ => rfl⟩, fun d u μ' H' _ _ r q => ?_⟩
  subst q
  cases r
  rfl
open PySem PySem.Spec PyProof.Rows NM
section
variable {μ : Mu} {Q : DK} {ds : List D} {x y : N3}
theorem K9 (a b c : Int) : PyData.tuple [.int a, .int b, .int c] = dN ⟨a, b, c⟩ := rfl
theorem JW : aA (.v (dN x)) (.v (.int 0)) μ Q = Q (.v (.int x.a)) μ := by unfold dN; rw [Bn]
theorem Jf : aA (.v (dN x)) (.v (.int 1)) μ Q = Q (.v (.int x.b)) μ := by unfold dN; rw [B1]
theorem Ky : aA (.v (dN x)) (.v (.int 2)) μ Q = Q (.v (.int x.c)) μ := by unfold dN; rw [Ca]
theorem eqN : PyData.eqv (dN x) (dN y) = decide (x = y) := by
  unfold dN
  rw [KW, Bool.eq_iff_iff]
  simp only [decide_eq_true_eq]
  exact ⟨fun h => N3.ext' h.1 h.2.1 h.2.2, fun h => by subst h; exact ⟨rfl, rfl, rfl⟩⟩
theorem KY {neg : Bool} : cW neg (.v (dN x)) (.v (dN y)) μ Q = Q (.v (.bool (neg ^^ decide (x = y)))) μ := by
  rw [Ge, eqN]
  exact propext ⟨fun h => h.2.2, fun h => ⟨rfl, rfl, h⟩⟩
theorem ET (h : Ok x) : isNum (dN x) = true := by
  have := h.c
  show (decide (1 ≤ x.c) && (g3 x.a x.b x.c == 1)) = true
  rw [h.g]
  simp; omega
theorem Ip : Few (dN x) := by simp [dN, Few]
theorem yW {d a b c : Int} (h : aO d) (hc : 0 < c) : sg d (low a b c).a (low a b c).b = sg d a b := by
  obtain ⟨k, hk, hs, p1, p2, p3, _⟩ := kR a b (show c ≠ 0 by omega)
  have e := ix (a := (low a b c).a) (b := (low a b c).b) h (hs.mpr hc)
  rw [← p1, ← p2] at e
  exact e.symm
theorem uN {d : Int} (h : aO d) (ox : Ok x) (oy : Ok y) : sg d (times d x y).a (times d x y).b = sg d x.a x.b * sg d y.a y.b := by
  unfold times
  rw [yW h (Int.mul_pos ox.c oy.c), Bp h]
theorem Hx {d : Int} (h : aO d) (ox : Ok x) (oy : Ok y) : sg d (less x y).a (less x y).b = dif d x y := by
  unfold less dif
  rw [yW h (Int.mul_pos ox.c oy.c)]
theorem AX {lo : Int} {n i : Nat} {x : PyData} (h : (mO lo n)[i]? = some x) : x = .int (lo + i) ∧ i < n := by
  unfold mO at h
  rw [List.getElem?_map] at h
  by_cases hi : i < n
  · rw [List.getElem?_range hi] at h
    cases h
    exact ⟨rfl, hi⟩
  · rw [List.getElem?_eq_none (by simpa using hi)] at h
    cases h
theorem o8 {lo : Int} {n : Nat} : (mO lo n).length = n := by unfold mO; simp
end
end L2.DL
set_option Elab.async false
set_option linter.all false
set_option maxRecDepth 100000
set_option maxHeartbeats 4000000
namespace NM
inductive Euc : Nat → Nat → List Nat → Prop
  | nil (r : Nat) : Euc r 0 []
  | cons {r s : Nat} {cs : List Nat} : 0 < s → Euc s (r % s) cs → Euc r s (r / s :: cs)
theorem Euc.eq {r s : Nat} {cs cs' : List Nat} (h : Euc r s cs) : Euc r s cs' → cs = cs' := by
  induction h generalizing cs' with
  | nil r =>
    intro g
    cases g with
    | nil => rfl
    | cons h _ => exact absurd h (by decide)
  | cons hs _ ih =>
    intro g
    cases g with
    | nil => exact absurd hs (by decide)
    | cons _ g => rw [ih g]
theorem EX : ∀ (n r s : Nat), s ≤ r → r * s < 2 ^ n → ∃ cs, Euc r s cs ∧ cs.length ≤ n
  | 0, r, s, h, hn => by
    have : s = 0 := by
      rcases Nat.eq_zero_or_pos s with z | z
      · exact z
      · have := Nat.mul_le_mul (Nat.le_trans z h : 1 ≤ r) (z : 1 ≤ s)
        simp at hn this; omega
    subst this
    exact ⟨[], .nil r, Nat.le_refl _⟩
  | n + 1, r, s, h, hn => by
    rcases Nat.eq_zero_or_pos s with z | z
    · subst z; exact ⟨[], .nil r, Nat.zero_le _⟩
    · have hm := Nat.mod_lt r z
      have h2 : 2 * (r % s) ≤ r := by
        have e := Nat.div_add_mod r s
        have d1 : 1 ≤ r / s := Nat.div_pos h z
        have := Nat.mul_le_mul_left s d1
        omega
      have hb : s * (r % s) < 2 ^ n := by
        have e1 : 2 * (s * (r % s)) = s * (2 * (r % s)) := by rw [Nat.mul_left_comm]
        have e2 : s * (2 * (r % s)) ≤ s * r := Nat.mul_le_mul_left s h2
        rw [Nat.mul_comm r s, Nat.pow_succ] at hn
        omega
      obtain ⟨cs, g, l⟩ := EX n s (r % s) (Nat.le_of_lt hm) hb
      exact ⟨_, .cons z g, by simpa using l⟩
def Good : List Nat → Bool → Nat → Nat → Prop
  | [], _, _, _ => True
  | c :: cs, true, a, b => b ≤ a ∧ 0 < b ∧ c * b ≤ a ∧ Good cs false (a - c * b) b
  | c :: cs, false, a, b => a < b ∧ 0 < a ∧ c * a ≤ b ∧ Good cs true a (b - c * a)
theorem qh : ∀ (cs : List Nat) (a b : Nat), (b ≤ a → Euc a b cs → Good cs true a b) ∧ (a < b → Euc b a cs → Good cs false a b)
  | [], _, _ => ⟨fun _ _ => trivial, fun _ _ => trivial⟩
  | c :: cs, a, b => by
    constructor
    · intro h g
      cases g with
      | cons hb g =>
        have e := Nat.div_add_mod a b
        have e1 : a / b * b = b * (a / b) := Nat.mul_comm _ _
        refine ⟨h, hb, by omega, ?_⟩
        rw [show a - a / b * b = a % b by omega]
        exact (qh cs (a % b) b).2 (Nat.mod_lt a hb) g
    · intro h g
      cases g with
      | cons ha g =>
        have e := Nat.div_add_mod b a
        have e1 : b / a * a = a * (b / a) := Nat.mul_comm _ _
        refine ⟨h, ha, by omega, ?_⟩
        rw [show b - b / a * a = b % a by omega]
        exact (qh cs a (b % a)).1 (Nat.le_of_lt (Nat.mod_lt b ha)) g
theorem AV {a b : Nat} {cs : List Nat} (h : Euc (max a b) (min a b) cs) : Good cs (decide (b ≤ a)) a b := by
  by_cases z : b ≤ a
  · rw [decide_eq_true z]
    rw [Nat.max_eq_left z, Nat.min_eq_right z] at h
    exact (qh cs a b).1 z h
  · rw [decide_eq_false z]
    have z' : a < b := by omega
    rw [Nat.max_eq_right (by omega), Nat.min_eq_left (by omega)] at h
    exact (qh cs a b).2 z' h
abbrev T3 := Nat × Nat × Nat
def mq (β : Bool) (c i j s : Nat) : List T3 := (List.range c).map fun k => if β = true then (i + k * s, j, s) else (i, j + k * s, s)
def yz : List Nat → Bool → Nat → Nat → Nat → Nat → List T3
  | [], _, _, _, _, _ => []
  | c :: cs, true, i, j, a, b => mq true c i j b ++ yz cs false (i + c * b) j (a - c * b) b
  | c :: cs, false, i, j, a, b => mq false c i j a ++ yz cs true i (j + c * a) a (b - c * a)
theorem nD {β : Bool} {c i j s : Nat} : (mq β c i j s).length = c := by unfold mq; simp
theorem uu : ∀ (cs : List Nat) (β : Bool) (i j a b : Nat), (yz cs β i j a b).length = cs.sum
  | [], _, _, _, _, _ => rfl
  | c :: cs, true, i, j, a, b => by rw [yz]; rw [List.length_append, nD, uu cs, List.sum_cons]
  | c :: cs, false, i, j, a, b => by rw [yz]; rw [List.length_append, nD, uu cs, List.sum_cons]
def Uq (d : Int) (u : N3) (i : Nat) : N3 := times d u ⟨(i : Int), 0, 1⟩
section
variable {d : Int} {u : N3} {i j : Nat}
theorem AI (i : Int) : Ok ⟨i, 0, 1⟩ := ⟨by show (0 : Int) < 1; decide, by show Int.gcd (Int.gcd i 0) 1 = 1; exact Int.gcd_one_right _⟩
theorem cE (ou : Ok u) : Ok (Uq d u i) := eV ou (AI i)
theorem K1 {n m : Nat} (hd : Sz 5 d) (ou : Ok u) (bu : Bd n u) (hi : i < 2 ^ m) (hm : 1 ≤ m) : Bd (n + m + 6) (Uq d u i) := by
  have p : 2 ≤ 2 ^ m := Nat.le_trans (by decide : 2 ≤ 2 ^ 1) (Nat.pow_le_pow_right (by decide) hm)
  exact qi hd ou (AI i) bu ⟨Sz.of (by show (i : Int).natAbs < _; rw [Int.natAbs_natCast]; exact hi), Sz.of (by show (0 : Int).natAbs < _; simp; omega), Sz.of (by show (1 : Int).natAbs < _; simp; omega)⟩
theorem oS (ou : Ok u) : Rep (Uq d u i) (u.a * i) (u.b * i) u.c := by
  have h := (bM ou).times (d := d) ou (AI i) (bM (AI i))
  have e1 : u.a * (i : Int) + d * u.b * 0 = u.a * i := by rw [Int.mul_zero, Int.add_zero]
  have e2 : u.a * 0 + u.b * (i : Int) = u.b * i := by rw [Int.mul_zero, Int.zero_add]
  have h' : Rep (Uq d u i) (u.a * (i : Int) + d * u.b * 0) (u.a * 0 + u.b * (i : Int)) (u.c * 1) := h
  rw [e1, e2, Int.mul_one] at h'
  exact h'
theorem xP (ou : Ok u) : plus (Uq d u i) (Uq d u j) = Uq d u (i + j) :=
  Rep.eq (p5 (cE ou) (cE ou)) (cE ou) ((oS ou).plus (cE ou) (cE ou) (oS ou)) (oS ou) (by rw [Int.natCast_add]; grind) (by rw [Int.natCast_add]; grind)
theorem uw (ou : Ok u) (h : j ≤ i) : less (Uq d u i) (Uq d u j) = Uq d u (i - j) :=
  Rep.eq (tZ (cE ou) (cE ou)) (cE ou) ((oS ou).less (cE ou) (cE ou) (oS ou)) (oS ou) (by rw [Int.natCast_sub h]; grind) (by rw [Int.natCast_sub h]; grind)
theorem yX (ou : Ok u) : Uq d u 0 = dj :=
  Rep.eq (cE ou) rC (oS ou) (bM rC) (by show u.a * (0 : Nat) * 1 = 0 * u.c; simp) (by show u.b * (0 : Nat) * 1 = 0 * u.c; simp)
theorem Kg (hd : aO d) (ou : Ok u) (su : sg d u.a u.b = 1) (h : 0 < i) : sg d (Uq d u i).a (Uq d u i).b = 1 := by
  unfold Uq
  rw [wV hd ou (AI i), su]
  have : sg d (i : Int) 0 = 1 := (dy hd).mpr (.inl ⟨by omega, by omega, by omega⟩)
  rw [this]; rfl
end
end NM
set_option Elab.async false
set_option linter.all false
set_option maxRecDepth 100000
set_option maxHeartbeats 4000000
namespace L2.DL
open PySem PySem.Spec PyProof.Rows NM
local macro_rules | `(tactic| walk_at "rn") => `(tactic| simp only [↓Fp, ↓FR, ↓E8, ↓vc, ↓Ey, ↓Fc, ↓Gm, ↓E9, ↓GG, ↓Ff, ↓Cr, ↓q_c, ↓E6, ↓q_B, ↓K6, ↓ID, ↓Ia, ↓uR, ↓Iu, ↓ED, ↓GA, ↓Ik, ↓Gs, ↓LH, ↓pV, ↓lN, ↓zh, ↓zm, ↓EK, ↓zk, ↓A2, ↓AL, ↓HY, ↓IE, ↓Ir, ↓H0, ↓vJ, ↓Gp, ↓FZ, ↓Bn, ↓B1, ↓Ca, ↓EW, ↓zo, ↓w5, ↓IF, ↓IT, ↓Ib, ↓Fs, ↓FP, ↓Ew, ↓EZ, ↓FY, ↓K8, ↓zw, ↓Em, ↓Ig, ↓IU, ↓IH, ↓Gw, ↓vm, ↓Fw, ↓Gk, ↓EL, ↓IQ, ↓LR, ↓Gz, ↓Fv, ↓C8, ↓Di, ↓GH, ↓HZ, ↓Im, ↓Io, ↓jM, ↓Es, ↓Dh, ↓FV, ↓FC, ↓zu, ↓Iv, ↓FX, ↓q5, ↓AD, ↓FT, ↓zI, ↓Cw, ↓Fq, ↓Iy, ↓Iz, ↓Fl, ↓Dk, ↓EI, ↓Bf, ↓Dj, ↓Ba, ↓Ah, ↓Cs, ↓zM, ↓zx, ↓A4, ↓IJ, FD, ↓FL, ↓yR, Fx, EN, Ie, IK, IM, Option.bind_none, Option.bind_some, Option.join_some, List.getElem?_cons_zero, List.getElem?_cons_succ, aI, K9, JW, Jf, Ky, KY, tf, zS, Au, CD, FN, List.map, List.append, List.replicate, List.length_cons, List.length_nil, Nat.reduceAdd, Nat.reduceSub, List.nil_append, List.cons_append, List.set_cons_zero, List.set_cons_succ, Option.map_some, ↓reduceIte, Bool.not_true, Bool.not_false, Bool.false_eq_true, Bool.true_eq_false, Bool.xor_false, Bool.false_xor])
def mv (d : Int) : PyData → Bool
  | .tuple [.int a, .int b, .int c] => isNum (.tuple [.int a, .int b, .int c]) && decide (sg d a b = 1)
  | _ => false
def mE : DSp := fun ds μ Q => ∃ (d : Int) (t : PyData), ds = [.v (.int d), .v t] ∧ aO d ∧ Few t ∧ (∀ x, t = dN x → Bd 8900 x) ∧ Q (.v (.bool (mv d t))) μ
theorem yo {μ : Mu} {Q : DK} {ds : List D} (h : mE ds μ Q) : ds.length = 2 := by obtain ⟨_, _, rfl, _⟩ := h; rfl
def fO : DSp := fun ds μ Q => ∃ (d : Int) (x : N3), ds = [.v (.int d), .v (dN x)] ∧ aO d ∧ Ok x ∧ Bd 8900 x ∧ sg d x.a x.b = 1 ∧ Q (.v .none) μ
theorem tH {μ : Mu} {Q : DK} {ds : List D} (h : fO ds μ Q) : ds.length = 2 := by obtain ⟨_, _, rfl, _⟩ := h; rfl
def kW : XSp := fun ds μ Xk => ∃ (d : Int) (t : PyData), ds = [.v (.int d), .v t] ∧ aO d ∧ Few t ∧ (∀ x, t = dN x → Bd 8900 x) ∧ mv d t = false ∧ Xk μ
theorem vP {ds : List D} {μ : Mu} {Xk : Mu → Prop} (h : kW ds μ Xk) : ds.length = 2 := by obtain ⟨_, _, rfl, _⟩ := h; rfl
def lH : DSp := fun ds μ Q => ∃ (a : Addr) (d : Int), ds = [.m a, .v (.int d)] ∧ aO d ∧ Bag μ a ∧ ∀ t μ', Few t → (∀ x, t = dN x → Bd 8900 x) → mv d t = false → Step a μ μ' → Q (.v t) μ'
theorem uF {ds : List D} {μ : Mu} {Q : DK} (h : lH ds μ Q) : ds.length = 2 := by obtain ⟨_, _, rfl, _⟩ := h; rfl
def fi : DTS :=
  (bC (xf (aB xE (ae (ag 1) aj)) (dOp (cW false) (aB mK (ae (ag 0) (ae (ag 1) aj))) (dC (.int 1)))))
def dq : DTS :=
  (dY (oA (dB (aB mE (ae (ag 0) (ae (ag 1) aj))))) mH cg)
def bJ : DTX :=
  (xIf (oA (dB (aB mE (ae (ag 0) (ae (ag 1) aj))))) (fun _ μ Xk => Xk μ) yA)
def eR (ea : Addr) : DTS :=
  (aL (bo (kN (ae (aW (ae (dC (.str "NoRoot")) (ae (cC ea false (ag 1)) aj))) (ae (aW (ae (dC (.str "NoNumber")) (ae (cC ea true (ag 1)) aj))) (ae (aW (ae (dC (.str "NoLaying")) (ae (cC ea false (ag 1)) aj))) (ae (aW (ae (dC (.str "NoTile")) (ae (cC ea false (ag 1)) aj))) (ae (aW (ae (dC (.str "NoFit")) (ae (cC ea false (ag 1)) aj))) (ae (aW (ae (dC (.str "NoKinds")) (ae (cC ea false (ag 1)) aj))) (ae (aW (ae (dC (.str "NoPlan")) (ae (cC ea false (ag 1)) aj))) (ae (aW (ae (dC (.str "NoSpot")) (ae (cC ea false (ag 1)) aj))) (ae (aW (ae (dC (.str "NoNet")) (ae (cC ea false (ag 1)) aj))) (ae (aW (ae (dC (.str "NoText")) (ae (cC ea false (ag 1)) aj))) (ae (aW (ae (dC (.str "NoSaying")) (ae (cC ea false (ag 1)) aj))) (ae (aW (ae (dC (.str "NoName")) (ae (cC ea false (ag 1)) aj))) (ae (aW (ae (dC (.str "TooMany")) (ae (cC ea false (ag 1)) aj))) aj)))))))))))))) (av 2))
  (aL (bo (kn [none, none] (lF (ag 2)) (i6 2 (bW (av 0) (bW (av 1) jX))) (dB (ag 1)) (ag 0)) (av 3))
  (aL (dY (tq (dB (dOp (cW false) (dCB ky (ae (ag 3) aj)) (dC (.int 1)))) (dB (cC ea true (ag 1)))) (bC (dOp aA (ag 3) (dC (.int 0)))) cg)
  (bC (dC (.str "several"))))))
def gK (ea : Addr) : DTS :=
  (aL (bo (kN (ae (aW (ae (dC (.str "NoRoot")) (ae (cC ea false (ag 1)) aj))) (ae (aW (ae (dC (.str "NoNumber")) (ae (cC ea false (ag 1)) aj))) (ae (aW (ae (dC (.str "NoLaying")) (ae (cC ea false (ag 1)) aj))) (ae (aW (ae (dC (.str "NoTile")) (ae (cC ea false (ag 1)) aj))) (ae (aW (ae (dC (.str "NoFit")) (ae (cC ea true (ag 1)) aj))) (ae (aW (ae (dC (.str "NoKinds")) (ae (cC ea false (ag 1)) aj))) (ae (aW (ae (dC (.str "NoPlan")) (ae (cC ea false (ag 1)) aj))) (ae (aW (ae (dC (.str "NoSpot")) (ae (cC ea false (ag 1)) aj))) (ae (aW (ae (dC (.str "NoNet")) (ae (cC ea false (ag 1)) aj))) (ae (aW (ae (dC (.str "NoText")) (ae (cC ea false (ag 1)) aj))) (ae (aW (ae (dC (.str "NoSaying")) (ae (cC ea false (ag 1)) aj))) (ae (aW (ae (dC (.str "NoName")) (ae (cC ea false (ag 1)) aj))) (ae (aW (ae (dC (.str "TooMany")) (ae (cC ea false (ag 1)) aj))) aj)))))))))))))) (av 2))
  (aL (bo (kn [none, none] (lF (ag 2)) (i6 2 (bW (av 0) (bW (av 1) jX))) (dB (ag 1)) (ag 0)) (av 3))
  (aL (dY (tq (dB (dOp (cW false) (dCB ky (ae (ag 3) aj)) (dC (.int 1)))) (dB (cC ea true (ag 1)))) (bC (dOp aA (ag 3) (dC (.int 0)))) cg)
  (bC (dC (.str "several"))))))
def fK (ea : Addr) : DTS :=
  (aL (bo (kN (ae (aW (ae (dC (.str "NoRoot")) (ae (cC ea false (ag 1)) aj))) (ae (aW (ae (dC (.str "NoNumber")) (ae (cC ea false (ag 1)) aj))) (ae (aW (ae (dC (.str "NoLaying")) (ae (cC ea false (ag 1)) aj))) (ae (aW (ae (dC (.str "NoTile")) (ae (cC ea false (ag 1)) aj))) (ae (aW (ae (dC (.str "NoFit")) (ae (cC ea false (ag 1)) aj))) (ae (aW (ae (dC (.str "NoKinds")) (ae (cC ea false (ag 1)) aj))) (ae (aW (ae (dC (.str "NoPlan")) (ae (cC ea false (ag 1)) aj))) (ae (aW (ae (dC (.str "NoSpot")) (ae (cC ea false (ag 1)) aj))) (ae (aW (ae (dC (.str "NoNet")) (ae (cC ea false (ag 1)) aj))) (ae (aW (ae (dC (.str "NoText")) (ae (cC ea false (ag 1)) aj))) (ae (aW (ae (dC (.str "NoSaying")) (ae (cC ea false (ag 1)) aj))) (ae (aW (ae (dC (.str "NoName")) (ae (cC ea false (ag 1)) aj))) (ae (aW (ae (dC (.str "TooMany")) (ae (cC ea true (ag 1)) aj))) aj)))))))))))))) (av 2))
  (aL (bo (kn [none, none] (lF (ag 2)) (i6 2 (bW (av 0) (bW (av 1) jX))) (dB (ag 1)) (ag 0)) (av 3))
  (aL (dY (tq (dB (dOp (cW false) (dCB ky (ae (ag 3) aj)) (dC (.int 1)))) (dB (cC ea true (ag 1)))) (bC (dOp aA (ag 3) (dC (.int 0)))) cg)
  (bC (dC (.str "several"))))))
def gD : DTS :=
  (aL (bo (aB kC (ae (ag 0) (ae (ag 1) aj))) (av 2))
  (aL (bo (kN (ae (aB CH (ae (ag 0) aj)) (ae (aB lM (ae (ag 2) aj)) (ae (aW (ae (dC (.int 0)) (ae (dC (.int 0)) (ae (dC (.int 1)) aj)))) (ae (aW (ae (bI (dOp aA (ag 2) (dC (.int 0))) (dC (.int 2))) (ae (bI (dOp aA (ag 2) (dC (.int 1))) (dC (.int 2))) (ae (bI (dOp aA (ag 2) (dC (.int 2))) (dC (.int 2))) aj)))) (ae (aW (ae (dOp aA (ag 2) (dC (.int 0))) (ae (dOp aA (ag 2) (dC (.int 1))) (ae (mi (dC (.int 0)) (dOp aA (ag 2) (dC (.int 2)))) aj)))) (ae (dCB pK (ae (ag 2) aj)) (ae (dSl (ag 2) tY (CZ (dC (.int 2)))) (ae (dOp qE (ag 2) (aW (ae (dC (.int 1)) aj))) (ae (aW (ae (dOp aA (ag 2) (dC (.int 0))) (ae (dC .none) (ae (dOp aA (ag 2) (dC (.int 2))) aj)))) (ae (aW (ae (dC (.bool true)) (ae (dC (.int 0)) (ae (dC (.int 1)) aj)))) (ae (aW (ae (dC (.int 1)) (ae (dC (.int 0)) (ae (dC (.bool true)) aj)))) (ae (aW (ae (ag 2) aj)) aj))))))))))))) (av 3))
  (bC (dOp aA (ag 3) (aB cH (ae (ag 0) (ae (dC (.int 12)) aj)))))))
section
variable {μ : Mu} {Qd : DK} {ds : List D}
theorem pX {d : Int} {x : N3} (ox : Ok x) : mv d (dN x) = decide (sg d x.a x.b = 1) := by
  show (isNum (dN x) && decide (sg d x.a x.b = 1)) = _
  rw [ET ox, Bool.true_and]
theorem jd {d : Int} {t : PyData} (h : isNum t = false) : mv d t = false := by
  unfold mv
  split
  · rw [h, Bool.false_and]
  · rfl
theorem B6 {t : PyData} (h : isNum t = true) : ∃ x : N3, t = dN x ∧ Ok x := by
  unfold isNum at h
  split at h
  · rename_i a b c
    simp only [Bool.and_eq_true, decide_eq_true_eq, beq_iff_eq] at h
    exact ⟨⟨a, b, c⟩, rfl, by show 0 < c; omega, h.2⟩
  · cases h
theorem o5 (h : mE ds μ Qd) : fi { nx := fun _ μ' => Qd (.v .none) μ', rt := Qd } (aI ["d", "thing"] ds) μ := by
  obtain ⟨d, t, rfl, hd, ft, bt, q⟩ := h
  unfold fi
  walk_at "rn"
  refine ⟨t, rfl, ft, ?_⟩
  walk_at "rn"
  cases e : isNum t with
  | true =>
    walk_at "rn"
    obtain ⟨x, rfl, ox⟩ := B6 e
    refine ⟨d, x, rfl, hd, bt x rfl, ?_⟩
    walk_at "rn"
    rw [pX ox] at q
    exact q
  | false =>
    walk_at "rn"
    rw [jd e] at q
    exact q
theorem kY (h : fO ds μ Qd) : dq { nx := fun _ μ' => Qd (.v .none) μ', rt := Qd } (aI ["d", "thing"] ds) μ := by
  obtain ⟨d, x, rfl, hd, ox, bx, hx, q⟩ := h
  unfold dq
  walk_at "rn"
  refine ⟨d, dN x, rfl, hd, Ip, fun y e => ?_, ?_⟩
  · have : y = x := by
      simp only [dN, PyData.tuple.injEq, List.cons.injEq, PyData.int.injEq, and_true] at e
      exact N3.ext' e.1.symm e.2.1.symm e.2.2.symm
    rw [this]; exact bx
  · walk_at "rn"
    rw [pX ox, hx]
    simp only [decide_true, Bool.not_true, Bool.false_eq_true, ↓reduceIte]
    exact q
theorem fT {Xk : Mu → Prop} (h : kW ds μ Xk) : bJ (aI ["d", "thing"] ds) μ Xk := by
  obtain ⟨d, t, rfl, hd, ft, bt, ht, q⟩ := h
  unfold bJ
  rw [FG]
  walk_at "rn"
  refine ⟨d, t, rfl, hd, ft, bt, ?_⟩
  rw [ht]
  exact q
theorem ki {ea fa : Addr} (q : Qd (.v (.str "NoNumber")) μ) : eR ea { nx := fun _ _ => False, rt := Qd } [some (.o fa), some (.o ea), none, none] μ := by
  unfold eR
  simp only [↓q5, ↓zu, ↓zm, ↓zh, ↓lN, ↓pV, ↓q_c, ↓rN, ↓zk, ↓A2, ↓jM, Option.map_some, List.set_cons_zero, List.set_cons_succ]
  refine uV (ns := [("NoRoot", false), ("NoNumber", true), ("NoLaying", false), ("NoTile", false), ("NoFit", false), ("NoKinds", false), ("NoPlan", false), ("NoSpot", false), ("NoNet", false), ("NoText", false), ("NoSaying", false), ("NoName", false), ("TooMany", false)]) rfl (by decide) ?_
  simp only [↓jM, ↓q5, List.set_cons_zero, List.set_cons_succ, List.map_cons, List.map_nil, List.filterMap_cons, List.filterMap_nil, BA, Bool.false_eq_true, ↓reduceIte]
  simp only [↓zI, ↓uR, ↓q_B, ↓E6, ↓Gw, ↓lN, ↓pV, ↓vc, ↓vm, ↓q_c, ↓AL, ↓rN, ↓AD, ↓vJ, List.getElem?_cons_zero, List.getElem?_cons_succ, List.length_cons, List.length_nil]
  exact q
theorem zE {x : PyData} (h : SeqAt.shaped x = true) : x.eqv x = true := SeqAt.eqv_refl _ (SeqAt.canLay_of_shaped h)
theorem eq_str {μ : Mu} {Qd : DK} {s : Str} (h : SeqAt.shaped (.str s) = true) (q : Qd (.v (.bool true)) μ) : cW false (.v (.str s)) (.v (.str s)) μ Qd := ⟨h, h, by rw [zE h]; exact q⟩
theorem JS {x y : N3} (e : dN x = dN y) : x = y := by
  simp only [dN, PyData.tuple.injEq, List.cons.injEq, PyData.int.injEq, and_true] at e
  exact N3.ext' e.1 e.2.1 e.2.2
def Bz (d : Int) (t : PyData) : Prop := Few t ∧ (∀ x, t = dN x → Bd 8900 x) ∧ mv d t = false
theorem Hg {d : Int} {t : PyData} (h : t ∈ pO) : Bz d t := by
  unfold pO at h
  simp only [List.mem_cons, List.not_mem_nil, or_false] at h
  rcases h with rfl | rfl | rfl | rfl | rfl | rfl | rfl | rfl | rfl | rfl | rfl | rfl | rfl | rfl | rfl | rfl | rfl | rfl | rfl | rfl
  all_goals
    refine ⟨by simp [Few], ?_, by first | rfl | exact jd (by decide +kernel)⟩
    (intro x e
     simp only [dN, PyData.tuple.injEq, List.cons.injEq, PyData.int.injEq, and_true, reduceCtorEq, false_and, and_false, List.nil_eq] at e
     try (obtain ⟨e1, e2, e3⟩ := e
          exact ⟨Sz.of (by rw [← e1]; decide +kernel), Sz.of (by rw [← e2]; decide +kernel), Sz.of (by rw [← e3]; decide +kernel)⟩))
theorem CK {d : Int} {x : N3} (b : Bd 8900 x) (h : mv d (dN x) = false) : Bz d (dN x) := ⟨Ip, fun y e => by rw [← JS e]; exact b, h⟩
theorem lL {d : Int} {t : PyData} (f : Few t) (h : ∀ x, t ≠ dN x) (n : isNum t = false) : Bz d t := ⟨f, fun x e => absurd e (h x), jd n⟩
theorem qQ (h : lH ds μ Qd) : gD { nx := fun _ μ' => Qd (.v .none) μ', rt := Qd } (aI ["_law_bag_here", "_law_d", "_law_x", "_law_some"] ds) μ := by
  obtain ⟨a, d, rfl, hd, hb, q⟩ := h
  unfold gD
  walk_at "rn"
  refine ⟨a, d, rfl, hd, hb, fun x μ1 ox bx hx s1 => ?_⟩
  walk_at "rn"
  refine ⟨a, rfl, s1.1, fun o μ2 ho s2 => ?_⟩
  have m2 : ∀ z : Int, MulOk z 2 := fun z => mulR (by decide)
  refine ⟨x, rfl, m2 _, m2 _, m2 _, ?_⟩
  simp only [pK, dN]
  walk_at "rn"
  refine ⟨by decide, a, 12, rfl, by decide, by decide, s2.1, fun r μ3 r0 r1 s3 => ?_⟩
  walk_at "rn"
  have om := gf ox
  have b2 : Bd 30 ⟨x.a * 2, x.b * 2, x.c * 2⟩ := ⟨(bx.a.mul (Sz.of (n := 2) (by decide))).mono (by decide), (bx.b.mul (Sz.of (n := 2) (by decide))).mono (by decide), (bx.c.mul (Sz.of (n := 2) (by decide))).mono (by decide)⟩
  have bn : Bd 30 ⟨x.a, x.b, 0 - x.c⟩ := ⟨bx.a.mono (by decide), bx.b.mono (by decide), by rw [show 0 - x.c = -x.c by omega]; exact bx.c.neg.mono (by decide)⟩
  obtain ⟨t, e, f1, f2, f3⟩ := pick (P := Bz d) (xs := [o, dN { a := (minus x).a, b := (minus x).b, c := (minus x).c }, dN { a := 0, b := 0, c := 1 },
              dN { a := x.a * 2, b := x.b * 2, c := x.c * 2 }, dN { a := x.a, b := x.b, c := 0 - x.c },
              PyData.list [PyData.int x.a, PyData.int x.b, PyData.int x.c],
              PyData.tuple (oJ [PyData.int x.a, PyData.int x.b, PyData.int x.c] none (some 2)),
              PyData.tuple [PyData.int x.a, PyData.int x.b, PyData.int x.c, PyData.int 1],
              PyData.tuple [PyData.int x.a, PyData.none, PyData.int x.c],
              PyData.tuple [PyData.bool true, PyData.int 0, PyData.int 1],
              PyData.tuple [PyData.int 1, PyData.int 0, PyData.bool true],
              PyData.tuple [dN { a := x.a, b := x.b, c := x.c }]]) r0 (by exact r1) (by
    intro u hu
    simp only [List.mem_cons, List.not_mem_nil, or_false] at hu
    rcases hu with rfl | rfl | rfl | rfl | rfl | rfl | rfl | rfl | rfl | rfl | rfl | rfl
    · exact Hg ho
    · refine CK ((mw bx).mono (by decide)) ?_
      have es : sg d (minus x).a (minus x).b = -1 := by show sg d (-x.a) (-x.b) = -1; rw [uB hd, hx]
      rw [show ({ a := (minus x).a, b := (minus x).b, c := (minus x).c } : N3) = minus x from rfl, pX om, es]
      decide
    · refine CK ⟨Sz.of (by decide +kernel), Sz.of (by decide +kernel), Sz.of (by decide +kernel)⟩ ?_
      rw [show dN ⟨0, 0, 1⟩ = dN dj from rfl, pX rC, show sg d dj.a dj.b = 0 from eo.mpr ⟨rfl, rfl⟩]
      decide
    · refine CK (b2.mono (by decide)) (jd ?_)
      have g := Cc x.a x.b x.c 2
      rw [ox.g] at g
      simp [dN, isNum, g]
    · refine CK (bn.mono (by decide)) (jd ?_)
      have := ox.c
      have h : ¬ (1 ≤ 0 - x.c) := by omega
      simp only [dN, isNum, decide_eq_false h, Bool.false_and]
    · exact lL trivial (fun y e => by cases e) rfl
    · exact lL (by show 2 ≤ 1000; decide) (fun y e => by have e2 : PyData.tuple [PyData.int x.a, PyData.int x.b] = dN y := e; simp [dN] at e2) rfl
    · exact lL (by show 4 ≤ 1000; decide) (fun y e => by simp [dN] at e) rfl
    · exact lL (by show 3 ≤ 1000; decide) (fun y e => by simp [dN] at e) rfl
    · exact lL (by show 3 ≤ 1000; decide) (fun y e => by simp [dN] at e) rfl
    · exact lL (by show 3 ≤ 1000; decide) (fun y e => by simp [dN] at e) rfl
    · exact lL (by show 1 ≤ 1000; decide) (fun y e => by simp [dN] at e) rfl)
  rw [e]
  exact q t _ f1 f2 f3 (s1.trans (s2.trans s3))
theorem mj {μ : Mu} {Qd : DK} {ea fa : Addr} (q : Qd (.v (.str "NoFit")) μ) : gK ea { nx := fun _ _ => False, rt := Qd } [some (.o fa), some (.o ea), none, none] μ := by
  unfold gK
  simp only [↓q5, ↓zu, ↓zm, ↓zh, ↓lN, ↓pV, ↓q_c, ↓rN, ↓zk, ↓A2, ↓jM, Option.map_some, List.set_cons_zero, List.set_cons_succ]
  refine uV (ns := [("NoRoot", false), ("NoNumber", false), ("NoLaying", false), ("NoTile", false), ("NoFit", true), ("NoKinds", false), ("NoPlan", false), ("NoSpot", false), ("NoNet", false), ("NoText", false), ("NoSaying", false), ("NoName", false), ("TooMany", false)]) rfl (by decide) ?_
  simp only [↓jM, ↓q5, List.set_cons_zero, List.set_cons_succ, List.map_cons, List.map_nil, List.filterMap_cons, List.filterMap_nil, BA, Bool.false_eq_true, ↓reduceIte]
  simp only [↓zI, ↓uR, ↓q_B, ↓E6, ↓Gw, ↓lN, ↓pV, ↓vc, ↓vm, ↓q_c, ↓AL, ↓rN, ↓AD, ↓vJ, List.getElem?_cons_zero, List.getElem?_cons_succ, List.length_cons, List.length_nil]
  exact q
theorem kx {μ : Mu} {Qd : DK} {ea fa : Addr} (q : Qd (.v (.str "TooMany")) μ) : fK ea { nx := fun _ _ => False, rt := Qd } [some (.o fa), some (.o ea), none, none] μ := by
  unfold fK
  simp only [↓q5, ↓zu, ↓zm, ↓zh, ↓lN, ↓pV, ↓q_c, ↓rN, ↓zk, ↓A2, ↓jM, Option.map_some, List.set_cons_zero, List.set_cons_succ]
  refine uV (ns := [("NoRoot", false), ("NoNumber", false), ("NoLaying", false), ("NoTile", false), ("NoFit", false), ("NoKinds", false), ("NoPlan", false), ("NoSpot", false), ("NoNet", false), ("NoText", false), ("NoSaying", false), ("NoName", false), ("TooMany", true)]) rfl (by decide) ?_
  simp only [↓jM, ↓q5, List.set_cons_zero, List.set_cons_succ, List.map_cons, List.map_nil, List.filterMap_cons, List.filterMap_nil, BA, Bool.false_eq_true, ↓reduceIte]
  simp only [↓zI, ↓uR, ↓q_B, ↓E6, ↓Gw, ↓lN, ↓pV, ↓vc, ↓vm, ↓q_c, ↓AL, ↓rN, ↓AD, ↓vJ, List.getElem?_cons_zero, List.getElem?_cons_succ, List.length_cons, List.length_nil]
  exact q
end
open PySem PySem.Spec PyProof.Rows NM
def iG (cs : List Nat) : List PyData := cs.map fun c => .int (c : Nat)
def sE : DSp := fun ds μ Q => ∃ (p q : Nat) (cs : List Nat), ds = [.v (dN ⟨p, 0, q⟩)] ∧ p < 2 ^ 192 ∧ q < 2 ^ 192 ∧ Euc (max p q) (min p q) cs ∧ cs.length ≤ 900 ∧ ∀ a μ', μ a = none → fj μ μ' → μ' a = some (iG cs) → Q (.m a) μ'
theorem we {ds : List D} {μ : Mu} {Q : DK} (h : sE ds μ Q) : ds.length = 1 := by obtain ⟨_, _, _, rfl, _⟩ := h; rfl
def vF : DSp := fun ds μ Q => ∃ (p q : Nat) (cs : List Nat), ds = [.v (dN ⟨p, 0, q⟩)] ∧ p < 2 ^ 192 ∧ q < 2 ^ 192 ∧ Euc (max p q) (min p q) cs ∧ cs.length ≤ 900 ∧ Q (.v (.list (iG cs))) μ
theorem vY {ds : List D} {μ : Mu} {Qd : DK} (h : vF ds μ Qd) : sE ds μ (frz μ Qd) := by
  obtain ⟨p, q, cs, rfl, h1, h2, h, l, k⟩ := h
  exact ⟨p, q, cs, rfl, h1, h2, h, l, fun a μ' n s e => ⟨⟨n, s⟩, _, e, k⟩⟩
def ue : DSp := fun ds μ Q => ∃ x : N3, ds = [.v (dN x)] ∧ ∀ t, Q (.v t) μ
theorem Ad {ds : List D} {μ : Mu} {Q : DK} (h : ue ds μ Q) : ds.length = 1 := by obtain ⟨_, rfl, _⟩ := h; rfl
structure j0 (d : Int) (w h : N3) : Prop where
  rt : aO d
  ow : Ok w
  oh : Ok h
  bw : Bd 60 w
  bh : Bd 60 h
  sw : sg d w.a w.b = 1
  sh : sg d h.a h.b = 1
def shp (d : Int) (w h : N3) : N3 := times d h (bz d w)
structure tG (d : Int) (w h : N3) (p q : Nat) (cs : List Nat) : Prop where
  e : shp d w h = ⟨p, 0, q⟩
  p0 : 0 < p
  q0 : 0 < q
  pb : p < 2 ^ 192
  qb : q < 2 ^ 192
  g : Euc (max p q) (min p q) cs
  l : cs.length ≤ 400
def pJ : DSp := fun ds μ Q => ∃ (d : Int) (w h : N3), ds = [.v (.int d), .v (dN w), .v (dN h)] ∧ j0 d w h ∧ ((shp d w h).b ≠ 0 → Q (.v .none) μ) ∧ (∀ p q cs, tG d w h p q cs → ∀ a μ', μ a = none → fj μ μ' → μ' a = some (iG cs) → Q (.m a) μ')
theorem uZ {ds : List D} {μ : Mu} {Q : DK} (h : pJ ds μ Q) : ds.length = 3 := by obtain ⟨_, _, _, rfl, _⟩ := h; rfl
def nO : DSp := fun ds μ Q => ∃ (d : Int) (w h : N3), ds = [.v (.int d), .v (dN w), .v (dN h)] ∧ j0 d w h ∧ ((shp d w h).b ≠ 0 → Q (.v .none) μ) ∧ (∀ p q cs, tG d w h p q cs → Q (.v (.list (iG cs))) μ)
theorem tM {ds : List D} {μ : Mu} {Qd : DK} (h : nO ds μ Qd) : pJ ds μ (frz μ Qd) := by
  obtain ⟨d, w, h, rfl, s, k1, k2⟩ := h
  exact ⟨d, w, h, rfl, s, fun z => ⟨fj.refl, k1 z⟩, fun p q cs f a μ' n s e => ⟨⟨n, s⟩, _, e, k2 p q cs f⟩⟩
def lS : DTS :=
  (bC (aB iD (ae (ag 0) (ae (aB lM (ae (ag 1) aj)) aj))))
def lE : DTS :=
  (bC (aB iY (ae (ag 0) (ae (ag 1) (ae (aB fB (ae (ag 0) (ae (ag 2) aj))) aj)))))
def fu : DTS :=
  (aL (bo (dIf (dB (dOp rGt (dOp aA (ag 0) (dC (.int 1))) (dC (.int 0)))) (dC (.int 1)) (rq (dC (.int 1)))) (av 1))
  (bC (aW (ae (dC (.tuple [.int 1, .int 0, .int 1])) (ae (aW (ae (dC (.tuple [.int 0, .int 0, .int 1])) (ae (aW (ae (ag 1) (ae (dC (.int 0)) (ae (dC (.int 1)) aj)))) (ae (aW (ae (rq (ag 1)) (ae (dC (.int 0)) (ae (dC (.int 1)) aj)))) (ae (dC (.tuple [.int 0, .int 0, .int 1])) aj))))) aj)))))
def lq : DTS :=
  (aL (bo (dCB (vM min) (ae (dOp aA (ag 0) (dC (.int 0))) (ae (dOp aA (ag 0) (dC (.int 2))) aj))) (av 1))
  (aL (bo (dCB (vM max) (ae (dOp aA (ag 0) (dC (.int 0))) (ae (dOp aA (ag 0) (dC (.int 2))) aj))) (av 2))
  (aL (bo (vC aj) (av 3))
  (aL (rX (dB (dOp (cW true) (ag 1) (dC (.int 0)))) (aL (pS (D5 (ag 3) (rH (ag 2) (ag 1))))
  (pW 2 1 (ae (ag 1) (ae (vx (ag 2) (ag 1)) aj)))))
  (bC (ag 3))))))
def jx : DTS :=
  (aL (bo (aB o6 (ae (ag 0) (ae (ag 2) (ae (ag 1) aj)))) (av 3))
  (aL (dY (dB (dOp (cW true) (dOp aA (ag 3) (dC (.int 1))) (dC (.int 0)))) (bC (dC .none)) cg)
  (aL (bo (vC aj) (av 4))
  (aL (pW 5 6 (ae (dOp aA (ag 3) (dC (.int 0))) (ae (dOp aA (ag 3) (dC (.int 2))) aj)))
  (aL (rX (dB (dOp rGt (bI (ag 5) (ag 6)) (dC (.int 0)))) (aL (pW 7 8 (ae (dCB (vM min) (ae (ag 5) (ae (ag 6) aj))) (ae (dCB (vM max) (ae (ag 5) (ae (ag 6) aj))) aj)))
  (aL (pS (D5 (ag 4) (rH (ag 8) (ag 7))))
  (dY (dB (dOp rGe (ag 6) (ag 5))) (bo (mi (ag 6) (bI (ag 7) (dOp aA (ag 4) (rq (dC (.int 1)))))) (av 6)) (bo (mi (ag 5) (bI (ag 7) (dOp aA (ag 4) (rq (dC (.int 1)))))) (av 5))))))
  (bC (ag 4)))))))
section
variable {μ : Mu} {Qd : DK} {ds : List D}
theorem szN {n i : Nat} (h : i < 2 ^ n) : Sz n (i : Int) := Sz.of (by rw [Int.natAbs_natCast]; exact h)
theorem Cq {l : List PyData} {v : PyData} : atI (l ++ [v]) (-1) = some v := by
  unfold atI ixN
  have e : (l ++ [v]).length = l.length + 1 := by simp
  rw [e]
  split
  · omega
  · rw [if_pos (by omega)]
    have z : (-1 + ((l.length + 1 : Nat) : Int)).toNat = l.length := by omega
    simp only [Option.bind_some]
    rw [z]
    simp
theorem zv {cs ds : List Nat} : iG (cs ++ ds) = iG cs ++ iG ds := List.map_append
theorem IP (r s : Nat) : (r : Int).fdiv (s : Int) = ((r / s : Nat) : Int) := by rw [Int.fdiv_eq_ediv_of_nonneg _ (Int.natCast_nonneg s)]; rfl
theorem LF (r s : Nat) : (r : Int).fmod (s : Int) = ((r % s : Nat) : Int) := by rw [Int.fmod_eq_emod_of_nonneg _ (Int.natCast_nonneg s)]; rfl
theorem LI (p q : Nat) : min (p : Int) (q : Int) = ((min p q : Nat) : Int) := by omega
theorem La (p q : Nat) : max (p : Int) (q : Int) = ((max p q : Nat) : Int) := by omega
theorem xm (h : k8 ds μ Qd) : lS { nx := fun _ μ' => Qd (.v .none) μ', rt := Qd } (aI ["_law_x", "_law_y"] ds) μ := by
  obtain ⟨x, y, rfl, ox, oy, bx, by_, q⟩ := h
  unfold lS
  walk_at "rn"
  refine ⟨y, rfl, x, minus y, rfl, ox, gf oy, bx.mono (by decide), (mw by_).mono (by decide), ?_⟩
  have e : plus x (minus y) = less x y := Rep.eq (p5 ox (gf oy)) (tZ ox oy) ((bM ox).plus ox (gf oy) (bM oy).minus) ((bM ox).less ox oy (bM oy)) (by grind) (by grind)
  rw [e]
  exact q
theorem yL (h : o6 ds μ Qd) : lE { nx := fun _ μ' => Qd (.v .none) μ', rt := Qd } (aI ["_law_d", "_law_x", "_law_y"] ds) μ := by
  obtain ⟨d, x, y, rfl, hd, ox, oy, yn, bx, by_, q⟩ := h
  have s5 := wj hd.1 hd.2.1
  have ny := hd.norm oy yn
  unfold lE
  walk_at "rn"
  refine ⟨d, y, rfl, s5, ny, by_.mono (by decide), ?_⟩
  exact ⟨d, x, _, rfl, s5, ox, du ny, bx.mono (by decide), (nu s5 ny by_).mono (by decide), q⟩
theorem o9 (h : ue ds μ Qd) : fu { nx := fun _ μ' => Qd (.v .none) μ', rt := Qd } (aI ["shape", "skew"] ds) μ := by
  obtain ⟨x, rfl, q⟩ := h
  unfold fu
  walk_at "rn"
  by_cases c : 0 < x.b
  · rw [if_pos (by simpa using c)]
    exact q _
  · rw [if_neg (by simpa using c)]
    exact q _
theorem x5 (h : sE ds μ Qd) : lq { nx := fun _ μ' => Qd (.v .none) μ', rt := Qd } (aI ["shape", "short", "rest", "counts"] ds) μ := by
  obtain ⟨p, q, cs, rfl, pb, qb, g, l, k⟩ := h
  unfold lq
  walk_at "rn"
  intro a ha
  rw [LI, La, CG]
  refine ⟨fun m ρ μ' => ∃ (r s : Nat) (done rem : List Nat), ρ = [some (.v (dN ⟨p, 0, q⟩)), some (.v (.int (s : Nat))), some (.v (.int (r : Nat))), some (.m a)] ∧ m = s ∧ done ++ rem = cs ∧ Euc r s rem ∧ s < 2 ^ 192 ∧ fj μ μ' ∧ μ' a = some (iG done),
    ⟨_, _, _, [], cs, rfl, rfl, rfl, g, by omega, fj.refl.set ha, aQ⟩, ?_⟩
  rintro m ρ μ' ⟨r, s, dn, rem, rfl, rfl, hc, g', hsb, sb, hm⟩
  walk_at "rn"
  cases g' with
  | nil =>
    rw [List.append_nil] at hc
    subst hc
    simp only [Int.natCast_zero, decide_true, Bool.xor_true, Bool.not_true, Bool.false_eq_true, ↓reduceIte]
    exact k a μ' ha sb hm
  | @cons _ _ rem hs g' =>
    have sn : (m : Int) ≠ 0 := by omega
    rw [if_pos (by simp; omega)]
    have hl : dn.length ≤ 900 := by have := congrArg List.length hc; simp at this; omega
    rw [hm]
    simp only [IP, LF]
    have dk : pN (r : Int) (m : Int) := wO sn (szN hsb) (by decide)
    refine ⟨dk, by unfold iG; rw [List.length_map]; omega, sn, _, Nat.mod_lt r hs, m, r % m, dn ++ [r / m], rem, rfl, rfl, by rw [← hc]; simp, g', Nat.lt_trans (Nat.mod_lt r hs) hsb, sb.set ha, ?_⟩
    rw [aQ, zv]
    rfl
theorem Hh {d a : Int} (hd : aO d) (h : sg d a 0 = 1) : 0 < a := by
  rcases (dy hd).mp h with z | z | z
  · omega
  · omega
  · omega
theorem CP {d : Int} {w h : N3} (s : j0 d w h) (hb : (shp d w h).b = 0) : ∃ p q cs, tG d w h p q cs := by
  have s5 := wj s.rt.1 s.rt.2.1
  have nw := u4 s.rt s.ow s.sw
  have oc := du nw
  have os : Ok (shp d w h) := eV s.oh oc
  have bs : Bd 192 (shp d w h) := (qi s5 s.oh oc s.bh (nu s5 nw s.bw)).mono (by decide)
  have ss : sg d (shp d w h).a (shp d w h).b = 1 := by
    show sg d (times d h (bz d w)).a (times d h (bz d w)).b = 1
    rw [uN s.rt s.oh oc, s.sh, Ao s.rt s.ow s.sw]; rfl
  rw [hb] at ss
  have ap := Hh s.rt ss
  have cp := os.c
  generalize hx : shp d w h = x at os bs hb ap cp
  obtain ⟨a, b, c⟩ := x
  simp only at hb ap cp
  subst hb
  obtain ⟨p, rfl⟩ : ∃ p : Nat, a = p := ⟨a.toNat, by omega⟩
  obtain ⟨q, rfl⟩ : ∃ q : Nat, c = q := ⟨c.toNat, by omega⟩
  have pb : p < 2 ^ 192 := by have := bs.a.lt; simpa using this
  have qb : q < 2 ^ 192 := by have := bs.c.lt; simpa using this
  have hm : max p q * min p q < 2 ^ 384 := by
    have e : max p q * min p q = p * q := by
      rcases Nat.le_total p q with z | z
      · rw [Nat.max_eq_right z, Nat.min_eq_left z, Nat.mul_comm]
      · rw [Nat.max_eq_left z, Nat.min_eq_right z]
    rw [e, show 2 ^ 384 = 2 ^ 192 * 2 ^ 192 by rw [← Nat.pow_add]]
    exact Nat.mul_lt_mul'' pb qb
  obtain ⟨cs, g, l⟩ := EX 384 (max p q) (min p q) (Nat.le_trans (Nat.min_le_left p q) (Nat.le_max_left p q)) hm
  exact ⟨p, q, cs, hx, by omega, by omega, pb, qb, g, by omega⟩
theorem u7 (h : pJ ds μ Qd) : jx { nx := fun _ μ' => Qd (.v .none) μ', rt := Qd } (aI ["_law_d", "_law_width", "_law_height", "_law_shape", "_law_found", "_law_high", "_law_wide", "_law_less_side", "_law_more_side"] ds) μ := by
  obtain ⟨d, w, h, rfl, s, k1, k2⟩ := h
  unfold jx
  walk_at "rn"
  have wn : w ≠ dj := fun z => by have := s.sw; rw [z] at this; rw [show sg d dj.a dj.b = 0 from eo.mpr ⟨rfl, rfl⟩] at this; cases this
  refine ⟨d, h, w, rfl, s.rt, s.oh, s.ow, wn, s.bh.mono (by decide), s.bw.mono (by decide), ?_⟩
  walk_at "rn"
  rw [show times d h (bz d w) = shp d w h from rfl]
  by_cases hb : (shp d w h).b = 0
  · rw [if_neg (by simp [hb])]
    intro a ha
    obtain ⟨p, q, cs, F⟩ := CP s hb
    rw [F.e]
    walk_at "rn"
    rw [CG]
    refine ⟨fun m ρ μ' => ∃ (x y : Nat) (dn rem : List Nat) (r7 r8 : Option D), ρ = [some (.v (.int d)), some (.v (dN w)), some (.v (dN h)), some (.v (dN ⟨p, 0, q⟩)), some (.m a), some (.v (.int (x : Nat))), some (.v (.int (y : Nat))), r7, r8] ∧ m = rem.length ∧ dn ++ rem = cs ∧ Euc (max x y) (min x y) rem ∧ x < 2 ^ 192 ∧ y < 2 ^ 192 ∧ fj μ μ' ∧ μ' a = some (iG dn),
      ⟨_, p, q, [], cs, _, _, rfl, rfl, rfl, F.g, F.pb, F.qb, fj.refl.set ha, aQ⟩, ?_⟩
    rintro m ρ μ' ⟨x, y, dn, rem, r7, r8, rfl, rfl, hc, g', xb, yb, sb, hm⟩
    walk_at "rn"
    refine ⟨eX (szN xb) (szN yb) (by decide), ?_⟩
    by_cases hz : 0 < (x : Int) * (y : Int)
    · rw [if_pos (by simpa using hz)]
      have x0 : 0 < x := Nat.pos_of_ne_zero fun z => by rw [z] at hz; simp at hz
      have y0 : 0 < y := Nat.pos_of_ne_zero fun z => by rw [z] at hz; simp at hz
      rw [LI, La]
      obtain ⟨c, rem', rfl, rfl, g''⟩ : ∃ c rem', rem = c :: rem' ∧ c = max x y / min x y ∧ Euc (min x y) (max x y % min x y) rem' := by
        generalize hM : max x y = M at g'
        generalize hN : min x y = N at g'
        cases g' with
        | nil => omega
        | cons hs g' => exact ⟨_, _, rfl, rfl, g'⟩
      have hl : dn.length ≤ 400 := by have := congrArg List.length hc; have := F.l; simp at *; omega
      have mn : ((min x y : Nat) : Int) ≠ 0 := by omega
      have mb : min x y < 2 ^ 192 := by omega
      refine ⟨wO mn (szN mb) (by decide), ?_⟩
      rw [hm, IP]
      refine ⟨by unfold iG; rw [List.length_map]; omega, ?_⟩
      rw [aQ]
      have hmem : aP μ' a (iG dn ++ [PyData.int ((max x y / min x y : Nat) : Int)]) a = some (iG (dn ++ [max x y / min x y])) := by rw [aQ, zv]; rfl
      have hc' : dn ++ [max x y / min x y] ++ rem' = cs := by rw [← hc]; simp
      have em := Nat.div_add_mod (max x y) (min x y)
      by_cases hxy : x ≤ y
      · rw [if_pos (decide_eq_true (by omega))]
        dsimp only
        rw [Cq]
        walk_at "rn"
        have e1 : max x y = y := by omega
        have e2 : min x y = x := by omega
        rw [e1, e2] at g'' hc' hmem em ⊢
        have ey : (y : Int) - (x : Int) * ((y / x : Nat) : Int) = ((y % x : Nat) : Int) := by rw [← Int.natCast_mul]; omega
        have lt := Nat.mod_lt y x0
        rw [ey]
        refine ⟨eX (szN xb) (szN (Nat.lt_of_le_of_lt (Nat.div_le_self y x) yb)) (by decide), _, Nat.lt_succ_self _, x, y % x, _, rem', _, _, rfl, rfl, hc', ?_, xb, by omega, sb.set ha, hmem⟩
        rw [Nat.max_eq_left (by omega), Nat.min_eq_right (by omega)]
        exact g''
      · rw [if_neg (by rw [decide_eq_true_eq]; omega)]
        dsimp only
        rw [Cq]
        walk_at "rn"
        have e1 : max x y = x := by omega
        have e2 : min x y = y := by omega
        rw [e1, e2] at g'' hc' hmem em ⊢
        have ex : (x : Int) - (y : Int) * ((x / y : Nat) : Int) = ((x % y : Nat) : Int) := by rw [← Int.natCast_mul]; omega
        have lt := Nat.mod_lt x y0
        rw [ex]
        refine ⟨eX (szN yb) (szN (Nat.lt_of_le_of_lt (Nat.div_le_self x y) xb)) (by decide), _, Nat.lt_succ_self _, x % y, y, _, rem', _, _, rfl, rfl, hc', ?_, by omega, yb, sb.set ha, hmem⟩
        rw [Nat.max_eq_right (by omega), Nat.min_eq_left (by omega)]
        exact g''
    · rw [if_neg (by simpa using hz)]
      have z : min x y = 0 := by
        rcases Nat.eq_zero_or_pos x with q | q
        · omega
        · rcases Nat.eq_zero_or_pos y with q' | q'
          · omega
          · exact absurd (Int.mul_pos (by omega) (by omega)) hz
      rw [z] at g'
      generalize max x y = M at g'
      cases g' with
      | cons hs _ => exact absurd hs (by decide)
      | nil =>
        rw [List.append_nil] at hc
        subst hc
        exact k2 p q dn F a μ' ha sb hm
  · rw [if_pos (by simp [hb])]
    exact k1 hb
end
open PySem PySem.Spec PyProof.Rows NM
def l4 (d : Int) (u : N3) (t : T3) : PyData := .tuple [dN (Uq d u t.1), dN (Uq d u t.2.1), dN (Uq d u t.2.2), dN (Uq d u t.2.2)]
structure Dl (d : Int) (u : N3) (q p : Nat) : Prop where
  rt : aO d
  ou : Ok u
  su : sg d u.a u.b = 1
  bu : Bd 300 u
  qb : q < 2 ^ 192
  pb : p < 2 ^ 192
def BM (q p : Nat) (cs : List Nat) : List T3 := yz cs (decide (p ≤ q)) 0 0 q p
def sj : DSp := fun ds μ Q => ∃ (d : Int) (u : N3) (q p : Nat) (cs : List Nat), ds = [.v (.int d), .v (dN (Uq d u q)), .v (dN (Uq d u p)), .v (.list (iG cs))] ∧ Dl d u q p ∧ Good cs (decide (p ≤ q)) q p ∧ cs.sum ≤ 60 ∧ ∀ a μ', μ a = none → fj μ μ' → μ' a = some ((BM q p cs).map (l4 d u)) → Q (.m a) μ'
theorem vU {ds : List D} {μ : Mu} {Q : DK} (h : sj ds μ Q) : ds.length = 4 := by obtain ⟨_, _, _, _, _, rfl, _⟩ := h; rfl
def uC : DSp := fun ds μ Q => ∃ (d : Int) (u : N3) (q p : Nat) (cs : List Nat), ds = [.v (.int d), .v (dN (Uq d u q)), .v (dN (Uq d u p)), .v (.list (iG cs))] ∧ Dl d u q p ∧ Good cs (decide (p ≤ q)) q p ∧ cs.sum ≤ 60 ∧ Q (.v (.list ((BM q p cs).map (l4 d u)))) μ
theorem nZ {ds : List D} {μ : Mu} {Qd : DK} (h : uC ds μ Qd) : sj ds μ (frz μ Qd) := by
  obtain ⟨d, u, q, p, cs, rfl, h1, h2, h3, k⟩ := h
  exact ⟨d, u, q, p, cs, rfl, h1, h2, h3, fun a μ' n s e => ⟨⟨n, s⟩, _, e, k⟩⟩
def jh (d : Int) (w : N3) (q : Nat) : N3 := times d w (low 1 0 q)
def nh : DSp := fun ds μ Q => ∃ (d : Int) (w h : N3) (q p : Nat) (cs : List Nat), ds = [.v (.int d), .v (dN w), .v (dN h)] ∧ j0 d w h ∧ tG d w h p q cs ∧ cs.sum ≤ 60 ∧ ∀ μ', fj μ μ' → Q (.v (.tuple ((BM q p cs).map (l4 d (jh d w q))))) μ'
theorem tW {ds : List D} {μ : Mu} {Q : DK} (h : nh ds μ Q) : ds.length = 3 := by obtain ⟨_, _, _, _, _, _, rfl, _⟩ := h; rfl
def pd : DSp := fun ds μ Q => ∃ (d : Int) (w h : N3) (q p : Nat) (cs : List Nat), ds = [.v (.int d), .v (dN w), .v (dN h)] ∧ j0 d w h ∧ tG d w h p q cs ∧ cs.sum ≤ 60 ∧ Q (.v (.tuple ((BM q p cs).map (l4 d (jh d w q))))) μ
theorem sL {ds : List D} {μ : Mu} {Qd : DK} (h : pd ds μ Qd) : nh ds μ (frz μ Qd) := by
  obtain ⟨d, w, h, q, p, cs, rfl, s, f, l, k⟩ := h
  exact ⟨d, w, h, q, p, cs, rfl, s, f, l, fun μ' s => ⟨s, k⟩⟩
def fq : DTS :=
  (aL (bo (dC (.tuple [.int 0, .int 0, .int 1])) (av 4))
  (aL (bo (dC (.tuple [.int 0, .int 0, .int 1])) (av 5))
  (aL (bo (wZ (aB uf (ae (ag 0) (ae (ag 2) (ae (ag 1) aj))))) (av 6))
  (aL (bo (vC aj) (av 7))
  (aL (yg (lF (ag 3)) (av 8) (aL (bo (dIf (dB (ag 6)) (ag 2) (ag 1)) (av 9))
  (aL (yg (pI (ae (ag 8) aj)) (av 10) (aL (pS (D5 (ag 7) (aW (ae (ag 4) (ae (ag 5) (ae (ag 9) (ae (ag 9) aj)))))))
  (dY (dB (ag 6)) (aL (bo (aB iD (ae (ag 4) (ae (ag 9) aj))) (av 4))
  (bo (aB k8 (ae (ag 1) (ae (ag 9) aj))) (av 1))) (aL (bo (aB iD (ae (ag 5) (ae (ag 9) aj))) (av 5))
  (bo (aB k8 (ae (ag 2) (ae (ag 9) aj))) (av 2))))))
  (bo (wZ (ag 6)) (av 6)))))
  (bC (ag 7)))))))
def iH : DTS :=
  (aL (bo (aW (ae (aW (ae (dC (.int 0)) (ae (dC (.int 0)) (ae (dC (.int 1)) aj)))) (ae (aW (ae (dC (.int 0)) (ae (dC (.int 0)) (ae (dC (.int 1)) aj)))) aj))) (i6 2 (bW (av 3) (bW (av 4) jX))))
  (aL (bo (vC aj) (av 5))
  (aL (yg (lF (aB nO (ae (ag 0) (ae (ag 1) (ae (ag 2) aj))))) (av 6) (aL (pW 7 8 (ae (aB k8 (ae (ag 1) (ae (ag 3) aj))) (ae (aB k8 (ae (ag 2) (ae (ag 4) aj))) aj)))
  (aL (bo (wZ (aB ub (ae (ag 0) (ae (ag 7) (ae (ag 8) aj))))) (av 9))
  (aL (bo (dIf (dB (ag 9)) (ag 8) (ag 7)) (av 10))
  (yg (pI (ae (ag 6) aj)) (av 11) (aL (pS (D5 (ag 5) (aW (ae (ag 3) (ae (ag 4) (ae (ag 10) (ae (ag 10) aj)))))))
  (dY (dB (ag 9)) (bo (aB iD (ae (ag 3) (ae (ag 10) aj))) (av 3)) (bo (aB iD (ae (ag 4) (ae (ag 10) aj))) (av 4)))))))))
  (bC (dCB jK (ae (ag 5) aj))))))
section
variable {μ : Mu} {Qd : DK} {ds : List D}
theorem IB {d : Int} {u : N3} {i j : Nat} (hd : aO d) (ou : Ok u) (su : sg d u.a u.b = 1) : decide (dif d (Uq d u i) (Uq d u j) = 1) = decide (j < i) := by
  have key : ∀ {i j : Nat}, j ≤ i → dif d (Uq d u i) (Uq d u j) = if j < i then 1 else 0 := fun {i j} h => by
    rw [← Hx hd (cE ou) (cE ou), uw ou h]
    by_cases z : j < i
    · rw [if_pos z, Kg hd ou su (by omega)]
    · rw [if_neg z, show i - j = 0 by omega, yX ou]
      exact eo.mpr ⟨rfl, rfl⟩
  by_cases h : j < i
  · rw [key (by omega), if_pos h, decide_eq_true h]; rfl
  · rw [decide_eq_false h, decide_eq_false]
    intro e
    have k2 := key (i := j) (j := i) (by omega)
    have e2 : dif d (Uq d u j) (Uq d u i) = -1 := by
      unfold dif at e ⊢
      have n1 : (Uq d u j).a * (Uq d u i).c - (Uq d u i).a * (Uq d u j).c = -((Uq d u i).a * (Uq d u j).c - (Uq d u j).a * (Uq d u i).c) := by omega
      have n2 : (Uq d u j).b * (Uq d u i).c - (Uq d u i).b * (Uq d u j).c = -((Uq d u i).b * (Uq d u j).c - (Uq d u j).b * (Uq d u i).c) := by omega
      rw [n1, n2, uB hd, e]
    rw [e2] at k2
    split at k2 <;> omega
theorem bdU {d : Int} {u : N3} {q p i : Nat} (h : Dl d u q p) (hi : i < 2 ^ 192) : Bd 4300 (Uq d u i) := (K1 (wj h.rt.1 h.rt.2.1) h.ou h.bu hi (by decide)).mono (by decide)
theorem rf {β : Bool} {t i j s : Nat} : mq β (t + 1) i j s = mq β t i j s ++ [if β = true then (i + t * s, j, s) else (i, j + t * s, s)] := by
  unfold mq
  rw [List.range_succ, List.map_append]
  rfl
theorem FO {cs : List Nat} {k : Nat} {x : PyData} (h : (iG cs)[k]? = some x) : ∃ c, cs[k]? = some c ∧ x = .int (c : Nat) ∧ cs.drop k = c :: cs.drop (k + 1) := by
  unfold iG at h
  rw [List.getElem?_map] at h
  cases e : cs[k]? with
  | none => rw [e] at h; cases h
  | some c =>
    rw [e] at h
    refine ⟨c, rfl, by simpa using h.symm, ?_⟩
    obtain ⟨hk, e'⟩ := List.getElem?_eq_some_iff.mp e
    rw [List.drop_eq_getElem_cons hk, e']
structure Lay (cs : List Nat) (q p : Nat) (rem : List Nat) (β : Bool) (i j a b : Nat) (acc : List T3) : Prop where
  g : Good rem β a b
  hi : i + a = q
  hj : j + b = p
  full : acc ++ yz rem β i j a b = BM q p cs
theorem Lay.t {cs : List Nat} {q p : Nat} {c : Nat} {rem : List Nat} {i j a b : Nat} {acc : List T3} (h : Lay cs q p (c :: rem) true i j a b acc) : b ≤ a ∧ 0 < b ∧ c * b ≤ a ∧ Lay cs q p rem false (i + c * b) j (a - c * b) b (acc ++ mq true c i j b) := by
  obtain ⟨⟨g1, g2, g3, g4⟩, hi, hj, hf⟩ := h
  exact ⟨g1, g2, g3, g4, by omega, hj, by rw [List.append_assoc]; exact hf⟩
theorem Lay.f {cs : List Nat} {q p : Nat} {c : Nat} {rem : List Nat} {i j a b : Nat} {acc : List T3} (h : Lay cs q p (c :: rem) false i j a b acc) : a < b ∧ 0 < a ∧ c * a ≤ b ∧ Lay cs q p rem true i (j + c * a) a (b - c * a) (acc ++ mq false c i j a) := by
  obtain ⟨⟨g1, g2, g3, g4⟩, hi, hj, hf⟩ := h
  exact ⟨g1, g2, g3, g4, hi, by omega, by rw [List.append_assoc]; exact hf⟩
theorem Lay.len {cs : List Nat} {q p : Nat} {rem : List Nat} {β : Bool} {i j a b : Nat} {acc : List T3} (h : Lay cs q p rem β i j a b acc) : acc.length + rem.sum = cs.sum := by
  have := congrArg List.length h.full
  unfold BM at this
  rw [List.length_append, uu, uu] at this
  exact this
theorem pM (h : sj ds μ Qd) : fq { nx := fun _ μ' => Qd (.v .none) μ', rt := Qd } (aI ["d", "width", "height", "counts", "x", "y", "beside", "tiles", "many", "side", "square"] ds) μ := by
  obtain ⟨d, u, q, p, cs, rfl, hu, hg, hs, k⟩ := h
  have pb := hu.pb
  have qb := hu.qb
  unfold fq
  walk_at "rn"
  refine ⟨d, _, _, rfl, hu.rt, (bdU hu pb).mono (by decide), (bdU hu qb).mono (by decide), ?_⟩
  rw [IB hu.rt hu.ou hu.su]
  walk_at "rn"
  intro m hm
  rw [show (!decide (q < p)) = decide (p ≤ q) by rw [← decide_not]; exact decide_eq_decide.mpr (by omega)]
  rw [qJ]
  walk_at "rn"
  refine ⟨fun kk ρ μ' => ∃ (β : Bool) (i j a b : Nat) (acc : List T3) (r8 r9 r10 : Option D), ρ = [some (.v (.int d)), some (.v (dN (Uq d u a))), some (.v (dN (Uq d u b))), some (.v (.list (iG cs))), some (.v (dN (Uq d u i))), some (.v (dN (Uq d u j))), some (.v (.bool β)), some (.m m), r8, r9, r10] ∧ Lay cs q p (cs.drop kk) β i j a b acc ∧ fj μ μ' ∧ μ' m = some (acc.map (l4 d u)),
    ⟨decide (p ≤ q), 0, 0, q, p, [], _, _, _, by rw [yX hu.ou]; rfl, ⟨hg, by omega, by omega, rfl⟩, fj.refl.set hm, aQ⟩, ?_, ?_⟩
  · rintro kk x ρ μ1 hx ⟨β, i, j, a, b, acc, r8, r9, r10, rfl, L, sb, hm1⟩
    obtain ⟨c, hc, rfl, hd⟩ := FO hx
    rw [hd] at L
    have ll := L.len
    rw [List.sum_cons] at ll
    cases β with
    | true =>
      obtain ⟨g1, g2, g3, L'⟩ := L.t
      have hi := L.hi
      have hj := L.hj
      walk_at "rn"
      rw [qJ]
      walk_at "rn"
      refine ⟨⟨by omega, by omega⟩, fun t ρ μ' => ∃ (r10 : Option D), ρ = [some (.v (.int d)), some (.v (dN (Uq d u (a - t * b)))), some (.v (dN (Uq d u b))), some (.v (.list (iG cs))), some (.v (dN (Uq d u (i + t * b)))), some (.v (dN (Uq d u j))), some (.v (.bool true)), some (.m m), some (.v (.int (c : Nat))), some (.v (dN (Uq d u b))), r10] ∧ fj μ μ' ∧ μ' m = some ((acc ++ mq true t i j b).map (l4 d u)),
        ⟨r10, by simp, sb, by rw [hm1]; simp [mq]⟩, ?_, ?_⟩
      · rintro t y ρ μ2 hy ⟨r10, rfl, sb2, hm2⟩
        obtain ⟨rfl, ht⟩ := AX hy
        have ht' : t < c := by omega
        have tb : (t + 1) * b ≤ c * b := Nat.mul_le_mul_right b ht'
        have e1 : (t + 1) * b = t * b + b := Nat.succ_mul t b
        walk_at "rn"
        rw [hm2]
        refine ⟨by rw [List.length_map, List.length_append, nD]; omega, ?_⟩
        refine ⟨_, _, rfl, cE hu.ou, cE hu.ou, bdU hu (by omega), bdU hu (by omega), ?_⟩
        rw [xP hu.ou]
        walk_at "rn"
        refine ⟨_, _, rfl, cE hu.ou, cE hu.ou, bdU hu (by omega), bdU hu (by omega), ?_⟩
        rw [uw hu.ou (by omega)]
        refine ⟨_, by rw [show i + (t + 1) * b = i + t * b + b by omega, show a - (t + 1) * b = a - t * b - b by omega], sb2.set hm, ?_⟩
        rw [aQ, rf, ← List.append_assoc, List.map_append (l₂ := [_])]
        rfl
      · rintro ρ μ2 ⟨r10, rfl, sb2, hm2⟩
        rw [o8] at *
        walk_at "rn"
        rw [show (c : Int).toNat = c by omega] at *
        exact ⟨false, _, _, _, _, _, _, _, _, rfl, L', sb2, hm2⟩
    | false =>
      obtain ⟨g1, g2, g3, L'⟩ := L.f
      have hi := L.hi
      have hj := L.hj
      walk_at "rn"
      rw [qJ]
      walk_at "rn"
      refine ⟨⟨by omega, by omega⟩, fun t ρ μ' => ∃ (r10 : Option D), ρ = [some (.v (.int d)), some (.v (dN (Uq d u a))), some (.v (dN (Uq d u (b - t * a)))), some (.v (.list (iG cs))), some (.v (dN (Uq d u i))), some (.v (dN (Uq d u (j + t * a)))), some (.v (.bool false)), some (.m m), some (.v (.int (c : Nat))), some (.v (dN (Uq d u a))), r10] ∧ fj μ μ' ∧ μ' m = some ((acc ++ mq false t i j a).map (l4 d u)),
        ⟨r10, by simp, sb, by rw [hm1]; simp [mq]⟩, ?_, ?_⟩
      · rintro t y ρ μ2 hy ⟨r10, rfl, sb2, hm2⟩
        obtain ⟨rfl, ht⟩ := AX hy
        have ht' : t < c := by omega
        have tb : (t + 1) * a ≤ c * a := Nat.mul_le_mul_right a ht'
        have e1 : (t + 1) * a = t * a + a := Nat.succ_mul t a
        walk_at "rn"
        rw [hm2]
        refine ⟨by rw [List.length_map, List.length_append, nD]; omega, ?_⟩
        refine ⟨_, _, rfl, cE hu.ou, cE hu.ou, bdU hu (by omega), bdU hu (by omega), ?_⟩
        rw [xP hu.ou]
        walk_at "rn"
        refine ⟨_, _, rfl, cE hu.ou, cE hu.ou, bdU hu (by omega), bdU hu (by omega), ?_⟩
        rw [uw hu.ou (by omega)]
        refine ⟨_, by rw [show j + (t + 1) * a = j + t * a + a by omega, show b - (t + 1) * a = b - t * a - a by omega], sb2.set hm, ?_⟩
        rw [aQ, rf, ← List.append_assoc, List.map_append (l₂ := [_])]
        rfl
      · rintro ρ μ2 ⟨r10, rfl, sb2, hm2⟩
        rw [o8] at *
        walk_at "rn"
        rw [show (c : Int).toNat = c by omega] at *
        exact ⟨true, _, _, _, _, _, _, _, _, rfl, L', sb2, hm2⟩
  · rintro ρ μ1 ⟨β, i, j, a, b, acc, r8, r9, r10, rfl, L, sb, hm1⟩
    have : (iG cs).length = cs.length := List.length_map _
    rw [this, List.drop_length] at L
    have hf := L.full
    simp only [yz, List.append_nil] at hf
    rw [hf] at hm1
    exact k m μ1 hm sb hm1
theorem CV {d : Int} {w h : N3} {p q : Nat} {cs : List Nat} (s : j0 d w h) (F : tG d w h p q cs) : Dl d (jh d w q) q p ∧ Uq d (jh d w q) q = w ∧ Uq d (jh d w q) p = h := by
  have hd := s.rt
  have s5 := wj hd.1 hd.2.1
  have q0 : (q : Int) ≠ 0 := by have := F.q0; omega
  have ol : Ok (low 1 0 q) := mI 1 0 q0
  have bl : Bd 192 (low 1 0 q) := sA q0 (Sz.of (by show (1 : Int).natAbs < _; decide +kernel)) (Sz.of (by show (0 : Int).natAbs < _; decide +kernel)) (szN F.qb)
  have sl : sg d (low 1 0 (q : Int)).a (low 1 0 (q : Int)).b = 1 := by
    rw [yW hd (by have := F.q0; omega)]
    exact (dy hd).mpr (.inl ⟨by omega, by omega, by omega⟩)
  have ou : Ok (jh d w q) := eV s.ow ol
  have su : sg d (jh d w q).a (jh d w q).b = 1 := by
    show sg d (times d w (low 1 0 q)).a (times d w (low 1 0 q)).b = 1
    rw [uN hd s.ow ol, s.sw, sl]; rfl
  have ru : Rep (jh d w q) w.a w.b (w.c * q) := by
    have h := (bM s.ow).times (d := d) s.ow ol (nI (a := 1) (b := 0) q0)
    simp only [Int.mul_one, Int.mul_zero, Int.add_zero, Int.zero_add] at h
    exact h
  have rU : ∀ i : Nat, Rep (Uq d (jh d w q) i) (w.a * i) (w.b * i) (w.c * q) := fun i => by
    have h := ru.times (d := d) ou (AI i) (bM (AI i))
    have h' : Rep (Uq d (jh d w q) i) (w.a * (i : Int) + d * w.b * 0) (w.a * 0 + w.b * (i : Int)) (w.c * q * 1) := h
    simp only [Int.mul_one, Int.mul_zero, Int.add_zero, Int.zero_add] at h'
    exact h'
  have nw := u4 hd s.ow s.sw
  have oc := du nw
  have os : Ok (shp d w h) := eV s.oh oc
  refine ⟨⟨hd, ou, su, (qi s5 s.ow ol s.bw bl).mono (by decide), F.qb, F.pb⟩, ?_, ?_⟩
  · exact Rep.eq (cE ou) s.ow (rU q) (bM s.ow) (by grind) (by grind)
  · have e1 : Uq d (jh d w q) p = times d w (shp d w h) := by
      rw [F.e]
      have of : Ok ⟨(p : Int), 0, (q : Int)⟩ := by rw [← F.e]; exact os
      have r2 := (bM s.ow).times (d := d) s.ow of (bM of)
      refine Rep.eq (cE ou) (eV s.ow of) (rU p) r2 ?_ ?_
      · show w.a * p * (w.c * q) = (w.a * p + d * w.b * 0) * (w.c * q); rw [Int.mul_zero, Int.add_zero]
      · show w.b * p * (w.c * q) = (w.a * 0 + w.b * p) * (w.c * q); rw [Int.mul_zero, Int.zero_add]
    have r3 := (bM s.ow).times (d := d) s.ow os ((bM s.oh).times (d := d) s.oh oc ((bM s.ow).bz s.ow nw))
    rw [e1]
    exact Rep.eq (eV s.ow os) s.oh r3 (bM s.oh) (by grind) (by grind)
theorem tX (h : nh ds μ Qd) : iH { nx := fun _ μ' => Qd (.v .none) μ', rt := Qd } (aI ["_law_d", "_law_width", "_law_height", "_law_left", "_law_low_here", "_law_found", "_law_count", "_law_wide", "_law_high", "_law_is_wide", "_law_side", "_law_turn"] ds) μ := by
  obtain ⟨d, w, h, q, p, cs, rfl, s, F, hs, k⟩ := h
  obtain ⟨hu, eq, ep⟩ := CV s F
  have pb := hu.pb
  have qb := hu.qb
  generalize hU : jh d w q = u at hu eq ep k
  have bw : Bd 4300 w := s.bw.mono (by decide)
  have bh : Bd 4300 h := s.bh.mono (by decide)
  unfold iH
  walk_at "rn"
  refine ⟨trivial, ?_⟩
  intro m hm
  rw [qJ]
  walk_at "rn"
  refine ⟨d, w, h, rfl, s, fun z => absurd (by rw [F.e]) z, fun p' q' cs' F' => ?_⟩
  obtain ⟨rfl, rfl⟩ : p' = p ∧ q' = q := by
    have e := F'.e.symm.trans F.e
    simp only [N3.mk.injEq] at e
    omega
  obtain rfl := F'.g.eq F.g
  walk_at "rn"
  refine ⟨fun kk ρ μ' => ∃ (β : Bool) (i j a b : Nat) (acc : List T3) (r6 r7 r8 r9 r10 r11 : Option D), ρ = [some (.v (.int d)), some (.v (dN w)), some (.v (dN h)), some (.v (dN (Uq d u i))), some (.v (dN (Uq d u j))), some (.m m), r6, r7, r8, r9, r10, r11] ∧ Lay cs' q' p' (cs'.drop kk) β i j a b acc ∧ fj μ μ' ∧ μ' m = some (acc.map (l4 d u)),
    ⟨decide (p' ≤ q'), 0, 0, q', p', [], _, _, _, _, _, _, by rw [yX hu.ou]; rfl, ⟨AV (by rw [Nat.max_comm, Nat.min_comm]; exact F.g), by omega, by omega, rfl⟩, fj.refl.set hm, aQ⟩, ?_, ?_⟩
  · rintro kk x ρ μ1 hx ⟨β, i, j, a, b, acc, r6, r7, r8, r9, r10, r11, rfl, L, sb, hm1⟩
    obtain ⟨c, hc, rfl, hd⟩ := FO hx
    rw [hd] at L
    have ll := L.len
    rw [List.sum_cons] at ll
    have hi := L.hi
    have hj := L.hj
    walk_at "rn"
    have ea : less w (Uq d u i) = Uq d u a := by rw [← eq, uw hu.ou (by omega), show q' - i = a by omega]
    have eb : less h (Uq d u j) = Uq d u b := by rw [← ep, uw hu.ou (by omega), show p' - j = b by omega]
    refine ⟨w, _, rfl, s.ow, cE hu.ou, bw, bdU hu (by omega), h, _, rfl, s.oh, cE hu.ou, bh, bdU hu (by omega), ?_⟩
    rw [ea, eb]
    walk_at "rn"
    refine ⟨d, _, _, rfl, hu.rt, cE hu.ou, cE hu.ou, bdU hu (by omega), bdU hu (by omega), ?_⟩
    rw [IB hu.rt hu.ou hu.su]
    cases β with
    | true =>
      obtain ⟨g1, g2, g3, L'⟩ := L.t
      rw [decide_eq_false (by omega)]
      walk_at "rn"
      rw [qJ]
      walk_at "rn"
      refine ⟨⟨by omega, by omega⟩, fun t ρ μ' => ∃ (r11 : Option D), ρ = [some (.v (.int d)), some (.v (dN w)), some (.v (dN h)), some (.v (dN (Uq d u (i + t * b)))), some (.v (dN (Uq d u j))), some (.m m), some (.v (.int (c : Nat))), some (.v (dN (Uq d u a))), some (.v (dN (Uq d u b))), some (.v (.bool true)), some (.v (dN (Uq d u b))), r11] ∧ fj μ μ' ∧ μ' m = some ((acc ++ mq true t i j b).map (l4 d u)),
        ⟨r11, by simp, sb, by rw [hm1]; simp [mq]⟩, ?_, ?_⟩
      · rintro t y ρ μ2 hy ⟨r11, rfl, sb2, hm2⟩
        obtain ⟨rfl, ht⟩ := AX hy
        have ht' : t < c := by omega
        have tb : (t + 1) * b ≤ c * b := Nat.mul_le_mul_right b ht'
        have e1 : (t + 1) * b = t * b + b := Nat.succ_mul t b
        walk_at "rn"
        rw [hm2]
        refine ⟨by rw [List.length_map, List.length_append, nD]; omega, ?_⟩
        refine ⟨_, _, rfl, cE hu.ou, cE hu.ou, bdU hu (by omega), bdU hu (by omega), ?_⟩
        rw [xP hu.ou]
        refine ⟨_, by rw [show i + (t + 1) * b = i + t * b + b by omega], sb2.set hm, ?_⟩
        rw [aQ, rf, ← List.append_assoc, List.map_append (l₂ := [_])]
        rfl
      · rintro ρ μ2 ⟨r11, rfl, sb2, hm2⟩
        rw [o8] at *
        rw [show (c : Int).toNat = c by omega] at *
        exact ⟨_, _, _, _, _, _, _, _, _, _, _, _, rfl, L', sb2, hm2⟩
    | false =>
      obtain ⟨g1, g2, g3, L'⟩ := L.f
      rw [decide_eq_true (by omega)]
      walk_at "rn"
      rw [qJ]
      walk_at "rn"
      refine ⟨⟨by omega, by omega⟩, fun t ρ μ' => ∃ (r11 : Option D), ρ = [some (.v (.int d)), some (.v (dN w)), some (.v (dN h)), some (.v (dN (Uq d u i))), some (.v (dN (Uq d u (j + t * a)))), some (.m m), some (.v (.int (c : Nat))), some (.v (dN (Uq d u a))), some (.v (dN (Uq d u b))), some (.v (.bool false)), some (.v (dN (Uq d u a))), r11] ∧ fj μ μ' ∧ μ' m = some ((acc ++ mq false t i j a).map (l4 d u)),
        ⟨r11, by simp, sb, by rw [hm1]; simp [mq]⟩, ?_, ?_⟩
      · rintro t y ρ μ2 hy ⟨r11, rfl, sb2, hm2⟩
        obtain ⟨rfl, ht⟩ := AX hy
        have ht' : t < c := by omega
        have tb : (t + 1) * a ≤ c * a := Nat.mul_le_mul_right a ht'
        have e1 : (t + 1) * a = t * a + a := Nat.succ_mul t a
        walk_at "rn"
        rw [hm2]
        refine ⟨by rw [List.length_map, List.length_append, nD]; omega, ?_⟩
        refine ⟨_, _, rfl, cE hu.ou, cE hu.ou, bdU hu (by omega), bdU hu (by omega), ?_⟩
        rw [xP hu.ou]
        refine ⟨_, by rw [show j + (t + 1) * a = j + t * a + a by omega], sb2.set hm, ?_⟩
        rw [aQ, rf, ← List.append_assoc, List.map_append (l₂ := [_])]
        rfl
      · rintro ρ μ2 ⟨r11, rfl, sb2, hm2⟩
        rw [o8] at *
        rw [show (c : Int).toNat = c by omega] at *
        exact ⟨_, _, _, _, _, _, _, _, _, _, _, _, rfl, L', sb2, hm2⟩
  · rintro ρ μ1 ⟨β, i, j, a, b, acc, r6, r7, r8, r9, r10, r11, rfl, L, sb, hm1⟩
    have : (iG cs').length = cs'.length := List.length_map _
    rw [this, List.drop_length] at L
    have hf := L.full
    simp only [yz, List.append_nil] at hf
    rw [hf] at hm1
    walk_at "rn"
    rw [hm1]
    exact k μ1 sb
end
open PySem PySem.Spec PyProof.Rows NM
def rz : DSp := fun ds μ Q => ∃ (d : Int) (w h : N3), ds = [.v (.int d), .v (dN w), .v (dN h)] ∧ j0 d w h ∧ ((shp d w h).b ≠ 0 → ∀ t, Q (.v (.tuple [.str "bar", t])) μ) ∧ (∀ p q cs, tG d w h p q cs → Q (.v (.tuple [.str "squares", .list (iG cs)])) μ)
theorem BY {ds : List D} {μ : Mu} {Q : DK} (h : rz ds μ Q) : ds.length = 3 := by obtain ⟨_, _, _, rfl, _⟩ := h; rfl
def eN : XSp := fun ds μ Xk => ∃ (d : Int) (t u : PyData), ds = [.v (.int d), .v t, .v u] ∧ aO d ∧ (Bz d t ∨ ∃ w, t = dN w ∧ Ok w ∧ Bd 8900 w ∧ sg d w.a w.b = 1 ∧ Bz d u) ∧ Xk μ
theorem tj {ds : List D} {μ : Mu} {Xk : Mu → Prop} (h : eN ds μ Xk) : ds.length = 3 := by obtain ⟨_, _, _, rfl, _⟩ := h; rfl
def xx : XSp := fun ds μ Xk => ∃ (d : Int) (w h : N3), ds = [.v (.int d), .v (dN w), .v (dN h)] ∧ j0 d w h ∧ (shp d w h).b ≠ 0 ∧ Xk μ
theorem Ai {ds : List D} {μ : Mu} {Xk : Mu → Prop} (h : xx ds μ Xk) : ds.length = 3 := by obtain ⟨_, _, _, rfl, _⟩ := h; rfl
def xJ : XSp := fun ds μ Xk => ∃ (d : Int) (w h : N3) (p q : Nat) (cs : List Nat), ds = [.v (.int d), .v (dN w), .v (dN h)] ∧ j0 d w h ∧ tG d w h p q cs ∧ 60 < cs.sum ∧ Xk μ
theorem AG {ds : List D} {μ : Mu} {Xk : Mu → Prop} (h : xJ ds μ Xk) : ds.length = 3 := by obtain ⟨_, _, _, _, _, _, rfl, _⟩ := h; rfl
def C1 (d : Int) (w h : N3) (p q : Nat) (cs : List Nat) : PyData := .tuple [dN w, dN h, .tuple ((BM q p cs).map (l4 d (jh d w q)))]
def pQ : DSp := fun ds μ Q => ∃ (d : Int) (w h : N3) (p q : Nat) (cs : List Nat), ds = [.v (.int d), .v (dN w), .v (dN h)] ∧ j0 d w h ∧ tG d w h p q cs ∧ cs.sum ≤ 60 ∧ Q (.v (C1 d w h p q cs)) μ
theorem xl {ds : List D} {μ : Mu} {Q : DK} (h : pQ ds μ Q) : ds.length = 3 := by obtain ⟨_, _, _, _, _, _, rfl, _⟩ := h; rfl
def ua : DSp := fun ds μ Q => ∃ (a : Addr) (d : Int), ds = [.m a, .v (.int d)] ∧ aO d ∧ Bag μ a ∧ ∀ w h μ', j0 d w h → Step a μ μ' → Q (.v (.tuple [dN w, dN h])) μ'
theorem AW {ds : List D} {μ : Mu} {Q : DK} (h : ua ds μ Q) : ds.length = 2 := by obtain ⟨_, _, rfl, _⟩ := h; rfl
def kT : DSp := fun ds μ Q => ∃ (d : Int) (w h : N3), ds = [.v (.int d), .v (dN w), .v (dN h)] ∧ j0 d w h ∧ Q (.v (.bool true)) μ
theorem yr {ds : List D} {μ : Mu} {Q : DK} (h : kT ds μ Q) : ds.length = 3 := by obtain ⟨_, _, _, rfl, _⟩ := h; rfl
structure Sh (t : PyData) : Prop where
  lay : t.canLay0 = true
  dep : t.depth ≤ 60
theorem Sh.shaped {t : PyData} (h : Sh t) : SeqAt.shaped t = true := by
  unfold SeqAt.shaped
  rw [h.lay, Bool.true_and, decide_eq_true_eq]
  have := h.dep; omega
structure Lt (n : Nat) (t : PyData) : Prop where
  lay : t.canLay0 = true
  dep : t.depth ≤ n
theorem Lt.sh {n : Nat} {t : PyData} (h : Lt n t) (hn : n ≤ 60) : Sh t := ⟨h.lay, Nat.le_trans h.dep hn⟩
theorem Lt.mono {n k : Nat} {t : PyData} (h : Lt n t) (hn : n ≤ k) : Lt k t := ⟨h.lay, Nat.le_trans h.dep hn⟩
theorem GP {xs : List PyData} (h : ∀ x ∈ xs, x.canLay0 = true) : PyData.canLayAll0 xs = true := by
  induction xs with
  | nil => rfl
  | cons x r ih => rw [PyData.canLayAll0, h x (by simp), ih (fun y hy => h y (by simp [hy]))]; rfl
theorem Dx {xs : List PyData} {n : Nat} (h : ∀ x ∈ xs, x.depth ≤ n) : PyData.depthAll xs ≤ n := by
  induction xs with
  | nil => exact Nat.zero_le _
  | cons x r ih =>
    rw [PyData.depthAll]
    have h1 := h x (by simp)
    have h2 := ih (fun y hy => h y (by simp [hy]))
    omega
theorem ve {xs : List PyData} {n : Nat} (h : ∀ x ∈ xs, Lt n x) : Lt (n + 1) (.tuple xs) :=
  ⟨by rw [PyData.canLay0]; exact GP fun x hx => (h x hx).lay, by rw [PyData.depth]; have := Dx (n := n) fun x hx => (h x hx).dep; omega⟩
theorem lt_int {n : Nat} {i : Int} : Lt n (.int i) := ⟨rfl, Nat.zero_le _⟩
def kg : DTS :=
  (aL (pS (aB fO (ae (ag 0) (ae (ag 1) aj))))
  (aL (pS (aB fO (ae (ag 0) (ae (ag 2) aj))))
  (aL (bo (aB o6 (ae (ag 0) (ae (ag 2) (ae (ag 1) aj)))) (av 3))
  (aL (dY (dB (dOp (cW true) (dOp aA (ag 3) (dC (.int 1))) (dC (.int 0)))) (bC (aW (ae (dC (.str "bar")) (ae (aB ue (ae (ag 3) aj)) aj)))) cg)
  (bC (aW (ae (dC (.str "squares")) (ae (aB vF (ae (ag 3) aj)) aj))))))))
def cU : DTX :=
  (xOr (l7 kW (ae (ag 0) (ae (ag 1) aj)))
  (DN (pS (aB fO (ae (ag 0) (ae (ag 1) aj))))
  (l7 kW (ae (ag 0) (ae (ag 2) aj)))))
def iN : DTS :=
  (aL (bo (aB rz (ae (ag 0) (ae (ag 1) (ae (ag 2) aj)))) (i6 2 (bW (av 3) (bW (av 4) jX))))
  (aL (dY (dB (dOp (cW false) (ag 3) (dC (.str "bar")))) mH cg)
  (aL (dY (dB (dOp rGt (dCB uK (ae (ag 4) aj)) (dC (.int 60)))) mH cg)
  (bC (aW (ae (ag 1) (ae (ag 2) (ae (dCB jK (ae (aB uC (ae (ag 0) (ae (ag 1) (ae (ag 2) (ae (ag 4) aj))))) aj)) aj))))))))
def cI : DTX :=
  (l7 eN (ae (ag 0) (ae (ag 1) (ae (ag 2) aj))))
def dA : DTX :=
  (DN (bo (aB rz (ae (ag 0) (ae (ag 1) (ae (ag 2) aj)))) (i6 2 (bW (av 3) (bW (av 4) jX))))
  (xIf (dB (dOp (cW false) (ag 3) (dC (.str "bar")))) (fun _ μ Xk => Xk μ) yA))
def cR : DTX :=
  (DN (bo (aB rz (ae (ag 0) (ae (ag 1) (ae (ag 2) aj)))) (i6 2 (bW (av 3) (bW (av 4) jX))))
  (DN (dY (dB (dOp (cW false) (ag 3) (dC (.str "bar")))) mH cg)
  (xIf (dB (dOp rGt (dCB uK (ae (ag 4) aj)) (dC (.int 60)))) (fun _ μ Xk => Xk μ) yA)))
section
variable {μ : Mu} {Qd : DK} {ds : List D} {Xk : Mu → Prop}
theorem tG.same {d : Int} {w h : N3} {p q p' q' : Nat} {cs cs' : List Nat} (F : tG d w h p q cs) (G : tG d w h p' q' cs') : p' = p ∧ q' = q ∧ cs' = cs := by
  have e := G.e.symm.trans F.e
  simp only [N3.mk.injEq] at e
  have e1 : p' = p := by omega
  have e2 : q' = q := by omega
  subst e1 e2
  exact ⟨rfl, rfl, G.g.eq F.g⟩
theorem EU : SeqAt.shaped (.str "bar") = true := by decide +kernel
theorem IA : SeqAt.shaped (.str "squares") = true := by decide +kernel
theorem IG : PyData.eqv (.str "squares") (.str "bar") = false := by decide +kernel
theorem va (l : List Nat) : fg (iG l) = some (l.map fun c => ((c : Nat) : Int)) := by
  unfold iG
  induction l with
  | nil => rfl
  | cons x l ih =>
    rw [List.map_cons]
    unfold fg
    rw [ih]
    rfl
theorem xZ (l : List Nat) : (l.map fun c => ((c : Nat) : Int)).sum = ((l.sum : Nat) : Int) := by
  induction l with
  | nil => rfl
  | cons x l ih => rw [List.map_cons, List.sum_cons, List.sum_cons, ih]; omega
theorem wq (h : rz ds μ Qd) : kg { nx := fun _ μ' => Qd (.v .none) μ', rt := Qd } (aI ["d", "width", "height", "shape"] ds) μ := by
  obtain ⟨d, w, h, rfl, s, k1, k2⟩ := h
  unfold kg
  walk_at "rn"
  have wn : w ≠ dj := fun z => by have := s.sw; rw [z] at this; rw [show sg d dj.a dj.b = 0 from eo.mpr ⟨rfl, rfl⟩] at this; cases this
  refine ⟨d, w, rfl, s.rt, s.ow, s.bw.mono (by decide), s.sw, ?_⟩
  refine ⟨d, h, rfl, s.rt, s.oh, s.bh.mono (by decide), s.sh, ?_⟩
  refine ⟨d, h, w, rfl, s.rt, s.oh, s.ow, wn, s.bh.mono (by decide), s.bw.mono (by decide), ?_⟩
  walk_at "rn"
  rw [show times d h (bz d w) = shp d w h from rfl]
  by_cases hb : (shp d w h).b = 0
  · rw [if_neg (by simp [hb])]
    obtain ⟨p, q, cs, F⟩ := CP s hb
    rw [F.e]
    refine ⟨p, q, cs, rfl, F.pb, F.qb, F.g, by have := F.l; omega, ?_⟩
    exact k2 p q cs F
  · rw [if_pos (by simp [hb])]
    exact ⟨_, rfl, fun t => k1 hb t⟩
theorem kU (h : eN ds μ Xk) : cU (aI ["d", "width", "height", "shape"] ds) μ Xk := by
  obtain ⟨d, t, u, rfl, hd, hb, q⟩ := h
  unfold cU
  rw [KQ]
  rcases hb with hb | ⟨w, rfl, ow, bw, sw, hb⟩
  · left
    rw [qy]
    walk_at "rn"
    exact ⟨d, t, rfl, hd, hb.1, hb.2.1, hb.2.2, q⟩
  · right
    rw [xO]
    walk_at "rn"
    refine ⟨d, w, rfl, hd, ow, bw, sw, ?_⟩
    dsimp only
    rw [qy]
    walk_at "rn"
    exact ⟨d, u, rfl, hd, hb.1, hb.2.1, hb.2.2, q⟩
theorem jD (h : eN ds μ Xk) : cI (aI ["d", "width", "height", "word", "counts"] ds) μ Xk := by
  obtain ⟨d, t, u, rfl, g⟩ := h
  unfold cI
  rw [qy]
  walk_at "rn"
  exact ⟨d, t, u, rfl, g⟩
theorem lY (h : xx ds μ Xk) : dA (aI ["d", "width", "height", "word", "counts"] ds) μ Xk := by
  obtain ⟨d, w, h, rfl, s, hb, q⟩ := h
  unfold dA
  rw [xO]
  walk_at "rn"
  refine ⟨d, w, h, rfl, s, fun _ t => ?_, fun p' q' cs' F' => absurd (by rw [F'.e]) hb⟩
  walk_at "rn"
  refine ⟨trivial, ?_⟩
  rw [FG]
  walk_at "rn"
  exact eq_str EU q
theorem j5 (h : xJ ds μ Xk) : cR (aI ["d", "width", "height", "word", "counts"] ds) μ Xk := by
  obtain ⟨d, w, h, p, q, cs, rfl, s, F, hs, k⟩ := h
  unfold cR
  rw [xO]
  walk_at "rn"
  refine ⟨d, w, h, rfl, s, fun z => absurd (by rw [F.e]) z, fun p' q' cs' F' => ?_⟩
  obtain ⟨rfl, rfl, rfl⟩ := F.same F'
  walk_at "rn"
  refine ⟨trivial, ?_⟩
  rw [xO]
  walk_at "rn"
  refine ⟨IA, EU, ?_⟩
  rw [IG]
  walk_at "rn"
  rw [FG]
  walk_at "rn"
  rw [Fh, va]
  dsimp only
  rw [xZ]
  walk_at "rn"
  rw [if_pos (by simp; omega)]
  exact k
theorem tJ (h : pQ ds μ Qd) : iN { nx := fun _ μ' => Qd (.v .none) μ', rt := Qd } (aI ["d", "width", "height", "word", "counts"] ds) μ := by
  obtain ⟨d, w, h, p, q, cs, rfl, s, F, hs, k⟩ := h
  unfold iN
  walk_at "rn"
  refine ⟨d, w, h, rfl, s, fun z => absurd (by rw [F.e]) z, fun p' q' cs' F' => ?_⟩
  obtain ⟨rfl, rfl, rfl⟩ := F.same F'
  walk_at "rn"
  refine ⟨trivial, IA, EU, ?_⟩
  rw [IG]
  walk_at "rn"
  rw [Fh, va]
  dsimp only
  rw [xZ]
  walk_at "rn"
  rw [if_neg (by simp; omega)]
  obtain ⟨hu, eq, ep⟩ := CV s F'
  refine ⟨d, jh d w q', q', p', cs', by rw [eq, ep], hu, AV (by rw [Nat.max_comm, Nat.min_comm]; exact F'.g), hs, ?_⟩
  exact k
end
open PySem PySem.Spec PyProof.Rows NM
def eO : DTS :=
  (aL (bo (aB cH (ae (ag 0) (ae (dC (.int 8)) aj))) (av 2))
  (aL (bo (aB kC (ae (ag 0) (ae (ag 1) aj))) (av 3))
  (aL (dY (dB (dOp (cW false) (ag 2) (dC (.int 0)))) (bC (aW (ae (ag 3) (ae (aB kC (ae (ag 0) (ae (ag 1) aj))) aj)))) cg)
  (aL (dY (dB (dOp (cW false) (ag 2) (dC (.int 1)))) (bC (aW (ae (ag 3) (ae (aB iD (ae (ag 3) (ae (aW (ae (dC (.int 1)) (ae (dC (.int 0)) (ae (ka (dC (.int 1)) (aB cH (ae (ag 0) (ae (dC (.int 9)) aj)))) aj)))) aj))) aj)))) cg)
  (aL (pW 4 5 (ae (ka (dC (.int 1)) (aB cH (ae (ag 0) (ae (dC (.int 12)) aj)))) (ae (ka (dC (.int 1)) (aB cH (ae (ag 0) (ae (dC (.int 12)) aj)))) aj)))
  (aL (dY (dB (dOp (cW false) (ag 2) (dC (.int 2)))) (pW 4 5 (ae (ka (dC (.int 1)) (aB cH (ae (ag 0) (ae (dC (.int 999999)) aj)))) (ae (ka (dC (.int 1)) (aB cH (ae (ag 0) (ae (dC (.int 999999)) aj)))) aj))) cg)
  (aL (dY (dB (dOp (cW false) (ag 2) (dC (.int 3)))) (aL (bo (aW (ae (dC (.int 1)) (ae (dC (.int 1)) aj))) (i6 2 (bW (av 4) (bW (av 5) jX))))
  (yg (pI (ae (aB cH (ae (ag 0) (ae (dC (.int 26)) aj))) aj)) (av 6) (pW 4 5 (ae (ag 5) (ae (ka (ag 4) (ag 5)) aj))))) cg)
  (aL (dY (dB (dOp (cW false) (ag 2) (dC (.int 4)))) (bo (dOp aA (kN (ae (aW (ae (dC (.int 1)) (ae (dC (.int 60)) aj))) (ae (aW (ae (dC (.int 60)) (ae (dC (.int 1)) aj))) (ae (aW (ae (dC (.int 1)) (ae (dC (.int 61)) aj))) (ae (aW (ae (dC (.int 61)) (ae (dC (.int 1)) aj))) (ae (aW (ae (dC (.int 59)) (ae (dC (.int 58)) aj))) (ae (aW (ae (dC (.int 2)) (ae (dC (.int 59)) aj))) aj))))))) (aB cH (ae (ag 0) (ae (dC (.int 6)) aj)))) (i6 2 (bW (av 4) (bW (av 5) jX)))) cg)
  (bC (aW (ae (ag 3) (ae (aB iY (ae (ag 1) (ae (ag 3) (ae (aB cB (ae (ag 4) (ae (dC (.int 0)) (ae (ag 5) aj)))) aj)))) aj))))))))))))
def iA : DTS :=
  (aL (bo (aB nO (ae (ag 0) (ae (ag 1) (ae (ag 2) aj)))) (av 3))
  (aL (dY (dB (dOp AE (ag 3) (dC .none))) (bC (dOp (cW false) (ui [some 0, some 1, some 2] (l7 xx (ae (ag 0) (ae (ag 1) (ae (ag 2) aj)))) "NoFit") (dC (.str "NoFit")))) cg)
  (aL (dY (dB (dOp rGt (dCB uK (ae (ag 3) aj)) (dC (.int 60)))) (bC (dOp (cW false) (ui [some 0, some 1, some 2] (l7 xJ (ae (ag 0) (ae (ag 1) (ae (ag 2) aj)))) "TooMany") (dC (.str "TooMany")))) cg)
  (bC (dOp (cW false) (aB pQ (ae (ag 0) (ae (ag 1) (ae (ag 2) aj)))) (aW (ae (ag 1) (ae (ag 2) (ae (aB pd (ae (ag 0) (ae (ag 1) (ae (ag 2) aj)))) aj)))))))))
def BN (P0 : PQ) (P1 : PQ) (P2 : PQ) (P3 : PQ) (P4 : PQ) : DTS :=
  (aL (yg (pI (ae (dCB (vM max) (ae (dC (.int 2)) (ae (dCB (vM min) (ae (dC (.int 4)) (ae (dCB ky (ae (ag 0) aj)) aj))) aj))) aj)) (av 1) (aL (bo (aB Dg (ae (ag 0) (ae (ag 1) aj))) (av 2))
  (aL (bo (aB um (ae (ag 2) aj)) (av 3))
  (aL (bo (kn [none, some 2, some 3] (pI (ae (dC (.int 3)) aj)) (av 0) Fo (aB ua (ae (ag 1) (ae (ag 2) aj)))) (av 4))
  (yg (lF (dOp qE (ag 4) (dSl (ag 4) tY (CZ (dC (.int 1)))))) (i6 2 (bW (av 5) (bW (av 6) jX))) (aL (dY (oA (dB (aB kT (ae (ag 3) (ae (ag 5) (ae (ag 6) aj)))))) (bC (dC (.bool false))) cg)
  (aL (bo (aB lH (ae (ag 2) (ae (ag 3) aj))) (av 7))
  (aL (bo (El (ae (dKq P0) (ae (dKq P1) (ae (dKq P2) (ae (dKq P3) (ae (dKq P4) aj)))))) (av 8))
  (dY (oA (dB (dCB Aa (ae (yG [none] (ag 8) (av 0) (fun ρo G => (dOp (cW false) (FU ρo G 1 0 [⟨P0, [some 3, some 7, some 6], (l7 eN (ae (ag 0) (ae (ag 1) (ae (ag 2) aj)))), .str "NoNumber"⟩, ⟨P1, [some 3, some 5, some 7], (l7 eN (ae (ag 0) (ae (ag 1) (ae (ag 2) aj)))), .str "NoNumber"⟩, ⟨P2, [some 3, some 7, some 6], (l7 eN (ae (ag 0) (ae (ag 1) (ae (ag 2) aj)))), .str "NoNumber"⟩, ⟨P3, [some 3, some 5, some 7], (l7 eN (ae (ag 0) (ae (ag 1) (ae (ag 2) aj)))), .str "NoNumber"⟩, ⟨P4, [some 3, some 7], (l7 eN (ae (ag 0) (ae (ag 1) (ae (ag 1) aj)))), .str "NoNumber"⟩]) (dC (.str "NoNumber"))))) aj)))) (bC (dC (.bool false))) cg)))))))))
  (bC (xf (aB kT (ae (dC (.int 2)) (ae (aW (ae (dC (.int 60)) (ae (dC (.int 0)) (ae (dC (.int 1)) aj)))) (ae (aW (ae (dC (.int 1)) (ae (dC (.int 0)) (ae (dC (.int 1)) aj)))) aj)))) (aB kT (ae (dC (.int 2)) (ae (aW (ae (dC (.int 1)) (ae (dC (.int 0)) (ae (dC (.int 1)) aj)))) (ae (aW (ae (dC (.int 61)) (ae (dC (.int 0)) (ae (dC (.int 1)) aj)))) aj)))))))
section
variable {μ : Mu} {Qd : DK} {ds : List D} {ρ : Rho}
theorem Eg {d : Int} {w : N3} {p q : Int} (hd : aO d) (ow : Ok w) (bw : Bd 20 w) (sw : sg d w.a w.b = 1) (p0 : 0 < p) (q0 : 0 < q) (pb : p < 2 ^ 27) (qb : q < 2 ^ 27) : Ok (low p 0 q) ∧ Bd 27 (low p 0 q) ∧ j0 d w (times d w (low p 0 q)) := by
  have s5 := wj hd.1 hd.2.1
  have qn : q ≠ 0 := by omega
  have ol := mI p 0 qn
  have bl : Bd 27 (low p 0 q) := sA qn (Sz.of (by show p.natAbs < 134217728; omega)) sz0 (Sz.of (by show q.natAbs < 134217728; omega))
  have sl : sg d (low p 0 q).a (low p 0 q).b = 1 := by
    rw [yW hd q0]
    exact (dy hd).mpr (.inl ⟨by omega, by omega, by omega⟩)
  exact ⟨ol, bl, hd, ow, eV ow ol, bw.mono (by decide), (qi s5 ow ol bw bl).mono (by decide), sw, by rw [uN hd ow ol, sw, sl]; rfl⟩
theorem nX (h : ua ds μ Qd) : eO { nx := fun _ μ' => Qd (.v .none) μ', rt := Qd } (aI ["_law_bag_here", "_law_d", "_law_way", "_law_width", "_law_p", "_law_q", "_law_turn"] ds) μ := by
  obtain ⟨a, d, rfl, hd, hb, q⟩ := h
  have s5 := wj hd.1 hd.2.1
  unfold eO
  walk_at "rn"
  refine ⟨a, 8, rfl, by decide, by decide, hb, fun way μ1 w0 w1 s1 => ?_⟩
  walk_at "rn"
  refine ⟨a, d, rfl, hd, s1.1, fun w μ2 ow bw sw s2 => ?_⟩
  walk_at "rn"
  have s12 := s1.trans s2
  by_cases c0 : way = 0
  · rw [if_pos (by simp [c0])]
    refine ⟨a, d, rfl, hd, s2.1, fun h μ3 oh bh sh s3 => ?_⟩
    exact q w h μ3 ⟨hd, ow, oh, bw.mono (by decide), bh.mono (by decide), sw, sh⟩ (s12.trans s3)
  · rw [if_neg (by simp [c0])]
    by_cases c1 : way = 1
    · rw [if_pos (by simp [c1])]
      refine ⟨a, 9, rfl, by decide, by decide, s2.1, fun t μ3 t0 t1 s3 => ?_⟩
      walk_at "rn"
      have of : Ok ⟨1, 0, 1 + t⟩ := ⟨by show (0 : Int) < 1 + t; omega, by show Int.gcd (Int.gcd 1 0) (1 + t) = 1; rw [show ((Int.gcd 1 0 : Nat) : Int) = 1 from rfl]; exact Int.gcd_one_left _⟩
      have bf : Bd 4 ⟨1, 0, 1 + t⟩ := ⟨Sz.of (by show (1 : Int).natAbs < 16; decide), Sz.of (by show (0 : Int).natAbs < 16; decide), Sz.of (by show (1 + t).natAbs < 16; omega)⟩
      have sf : sg d 1 0 = 1 := (dy hd).mpr (.inl ⟨by omega, by omega, by omega⟩)
      refine ⟨w, ⟨1, 0, 1 + t⟩, rfl, ow, of, bw.mono (by decide), bf.mono (by decide), ?_⟩
      exact q _ _ μ3 ⟨hd, ow, p5 ow of, bw.mono (by decide), (CB ow of bw bf).mono (by decide), sw, Ej hd ow of (.inr sw) sf⟩ (s12.trans s3)
    · rw [if_neg (by simp [c1])]
      refine ⟨a, 12, rfl, by decide, by decide, s2.1, fun p μ3 p0 p1 s3 => ?_⟩
      walk_at "rn"
      refine ⟨a, 12, rfl, by decide, by decide, s3.1, fun r μ4 r0 r1 s4 => ?_⟩
      walk_at "rn"
      have s14 := s12.trans (s3.trans s4)
      have fin : ∀ (x y : Int) (μ' : Mu), 0 < x → 0 < y → x < 2 ^ 27 → y < 2 ^ 27 → Step a μ μ' → cB [.v (.int x), .v (.int 0), .v (.int y)] μ' (fun z μ1 => iY [.v (.int d), .v (dN w), z] μ1 fun z μ1 => match Option.map (fun z => dN w :: z) (cJ [z]) with | some xs => Qd (.v (.tuple xs)) μ1 | none => False) := fun x y μ' x0 y0 xb yb st => by
        obtain ⟨ol, bl, S⟩ := Eg hd ow bw sw x0 y0 xb yb
        refine ⟨x, 0, y, rfl, by omega, (Sz.of (n := 27) (by show y.natAbs < 134217728; omega)).mono (by decide), ?_⟩
        exact ⟨d, w, _, rfl, s5, ow, ol, bw.mono (by decide), bl.mono (by decide), q _ _ μ' S st⟩
      by_cases c2 : way = 2
      · subst c2
        rw [if_pos (by decide)]
        refine ⟨a, 999999, rfl, by decide, by decide, s4.1, fun p' μ5 p0' p1' s5' => ?_⟩
        walk_at "rn"
        refine ⟨a, 999999, rfl, by decide, by decide, s5'.1, fun r' μ6 r0' r1' s6 => ?_⟩
        walk_at "rn"
        rw [if_neg (by decide), if_neg (by decide)]
        exact fin _ _ μ6 (by omega) (by omega) (by omega) (by omega) (s14.trans (s5'.trans s6))
      · rw [if_neg (by simp [c2])]
        by_cases c3 : way = 3
        · subst c3
          rw [if_pos (by decide)]
          refine ⟨trivial, ?_⟩
          rw [qJ]
          walk_at "rn"
          refine ⟨a, 26, rfl, by decide, by decide, s4.1, fun n μ5 n0 n1 s5' => ?_⟩
          walk_at "rn"
          refine ⟨⟨by omega, by omega⟩, fun i ρ μ' => ∃ (x y : Int) (r6 : Option D), ρ = [some (.m a), some (.v (.int d)), some (.v (.int 3)), some (.v (dN w)), some (.v (.int x)), some (.v (.int y)), r6] ∧ 0 < x ∧ 0 < y ∧ x ≤ 2 ^ i ∧ y ≤ 2 ^ i ∧ μ' = μ5, ⟨1, 1, _, rfl, by decide, by decide, by decide, by decide, rfl⟩, ?_, ?_⟩
          · rintro i v ρ μ' hv ⟨x, y, r6, rfl, x0, y0, xb, yb, rfl⟩
            walk_at "rn"
            have e : (2 : Int) ^ (i + 1) = 2 ^ i * 2 := Int.pow_succ 2 i
            exact ⟨y, x + y, _, rfl, y0, by omega, by omega, by omega, trivial⟩
          · rintro ρ μ' ⟨x, y, r6, rfl, x0, y0, xb, yb, rfl⟩
            rw [o8] at xb yb
            walk_at "rn"
            rw [if_neg (by decide)]
            have hp : (2 : Int) ^ n.toNat ≤ 2 ^ 26 := by
              have h := Nat.pow_le_pow_right (show 0 < 2 by decide) (show n.toNat ≤ 26 by omega)
              have h2 : ((2 ^ n.toNat : Nat) : Int) ≤ ((2 ^ 26 : Nat) : Int) := by exact_mod_cast h
              simpa using h2
            exact fin x y _ x0 y0 (by omega) (by omega) (s14.trans s5')
        · rw [if_neg (by simp [c3])]
          by_cases c4 : way = 4
          · subst c4
            rw [if_pos (by decide)]
            refine ⟨a, 6, rfl, by decide, by decide, s4.1, fun n μ5 n0 n1 s5' => ?_⟩
            walk_at "rn"
            obtain ⟨_, e, x, y, rfl, x0, y0, xb, yb⟩ := pick (P := fun v => ∃ x y : Int, v = .tuple [.int x, .int y] ∧ 0 < x ∧ 0 < y ∧ x < 2 ^ 27 ∧ y < 2 ^ 27) (xs := [.tuple [.int 1, .int 60], .tuple [.int 60, .int 1], .tuple [.int 1, .int 61], .tuple [.int 61, .int 1], .tuple [.int 59, .int 58], .tuple [.int 2, .int 59]]) n0 (by exact n1) (by
              intro v hv
              simp only [List.mem_cons, List.not_mem_nil, or_false] at hv
              rcases hv with rfl | rfl | rfl | rfl | rfl | rfl <;> exact ⟨_, _, rfl, by decide, by decide, by decide, by decide⟩)
            rw [e]
            walk_at "rn"
            exact ⟨trivial, fin x y _ x0 y0 xb yb (s14.trans s5')⟩
          · rw [if_neg (by simp [c4])]
            exact fin _ _ μ4 (by omega) (by omega) (by omega) (by omega) s14
theorem G5 {d : Int} {u : N3} {t : T3} : Lt 2 (l4 d u t) := by
  have hN : ∀ x : N3, Lt 1 (dN x) := fun x => ve (n := 0) fun y hy => by
    simp only [List.mem_cons, List.not_mem_nil, or_false] at hy
    rcases hy with rfl | rfl | rfl <;> exact lt_int
  exact ve fun y hy => by
    simp only [List.mem_cons, List.not_mem_nil, or_false] at hy
    rcases hy with rfl | rfl | rfl | rfl <;> exact hN _
theorem yM {d : Int} {w h : N3} {p q : Nat} {cs : List Nat} : SeqAt.shaped (C1 d w h p q cs) = true := by
  have hN : ∀ x : N3, Lt 3 (dN x) := fun x => (ve (n := 0) fun y hy => by
    simp only [List.mem_cons, List.not_mem_nil, or_false] at hy
    rcases hy with rfl | rfl | rfl <;> exact lt_int).mono (by decide)
  refine (Lt.sh (n := 4) (ve fun y hy => ?_) (by decide)).shaped
  simp only [List.mem_cons, List.not_mem_nil, or_false] at hy
  rcases hy with rfl | rfl | rfl
  · exact hN _
  · exact hN _
  · exact ve fun z hz => by obtain ⟨t, _, rfl⟩ := List.mem_map.mp hz; exact G5
theorem tT (h : kT ds μ Qd) : iA { nx := fun _ μ' => Qd (.v .none) μ', rt := Qd } (aI ["_law_d", "_law_width", "_law_height", "_law_counts_here"] ds) μ := by
  obtain ⟨d, w, h, rfl, s, k⟩ := h
  unfold iA
  walk_at "rn"
  refine ⟨d, w, h, rfl, s, fun hb => ?_, fun p q cs F => ?_⟩
  · walk_at "rn"
    rw [JN]
    walk_at "rn"
    rw [AB, qy]
    walk_at "rn"
    refine ⟨d, w, h, rfl, s, hb, ?_⟩
    exact eq_str (by decide +kernel) k
  · walk_at "rn"
    rw [JY]
    walk_at "rn"
    rw [Fh, va]
    dsimp only
    rw [xZ]
    walk_at "rn"
    by_cases hs : 60 < cs.sum
    · rw [if_pos (by simp; omega)]
      rw [AB, qy]
      walk_at "rn"
      refine ⟨d, w, h, p, q, cs, rfl, s, F, hs, ?_⟩
      exact eq_str (by decide +kernel) k
    · rw [if_neg (by simp; omega)]
      refine ⟨d, w, h, p, q, cs, rfl, s, F, by omega, ?_⟩
      walk_at "rn"
      refine ⟨d, w, h, q, p, cs, rfl, s, F, by omega, ?_⟩
      walk_at "rn"
      show cW false (.v (C1 d w h p q cs)) (.v (C1 d w h p q cs)) μ Qd
      refine ⟨yM, yM, ?_⟩
      rw [zE yM]
      exact k
theorem GL {α : Type} (xs : List α) (lo hi : Option Int) : (oJ xs lo hi).length ≤ xs.length := by
  unfold oJ
  rw [List.length_take, List.length_drop]
  omega
theorem GY {xs : List PyData} {lo hi : Option Int} {x : PyData} (h : x ∈ oJ xs lo hi) : x ∈ xs := by
  unfold oJ at h
  exact List.mem_of_mem_drop (List.mem_of_mem_take h)
theorem s_num : SeqAt.shaped (.str "NoNumber") = true := by decide +kernel
def FlD (d : Int) (x : PyData) : Prop := ∃ w h, x = .tuple [dN w, dN h] ∧ j0 d w h
theorem Kh (P0 P1 P2 P3 P4 : PQ) (h : uI ds μ Qd) : BN P0 P1 P2 P3 P4 { nx := fun _ μ' => Qd (.v .none) μ', rt := Qd } (aI ["_law_script", "_law_k", "_law_bag_here", "_law_d", "_law_floors", "_law_width", "_law_height", "_law_bad", "_law_deeds"] ds) μ := by
  obtain ⟨ns, rfl, h63, q⟩ := h
  unfold BN
  rw [q5, qJ]
  walk_at "rn"
  have hm : (-(2 ^ 62) ≤ max 2 (min 4 ((ns.length : Nat) : Int)) ∧ max 2 (min 4 ((ns.length : Nat) : Int)) < 2 ^ 62) := by omega
  refine ⟨hm, fun i ρ μ' => ∃ r1 r2 r3 r4 r5 r6 r7 r8, ρ = [some (.s ns), r1, r2, r3, r4, r5, r6, r7, r8], ⟨_, _, _, _, _, _, _, _, rfl⟩, ?_, ?_⟩
  · rintro i x ρ μ0 hx ⟨r1, r2, r3, r4, r5, r6, r7, r8, rfl⟩
    obtain ⟨rfl, hi⟩ := AX hx
    walk_at "rn"
    refine ⟨ns, _, rfl, by omega, by omega, fun a μ1 ha s1 => ?_⟩
    walk_at "rn"
    refine ⟨a, rfl, s1.1, fun d μ2 hd s2 => ?_⟩
    walk_at "rn"
    refine ⟨⟨by decide, by decide⟩, by rw [o8]; decide, fun p hp => ⟨fun j acc μ' => acc.length = j ∧ (∀ x ∈ acc, FlD d x) ∧ Bag μ' a, ⟨rfl, (fun _ z => nomatch z), ?_⟩, ?_, ?_⟩⟩
    · obtain ⟨g, w, e, z⟩ := s2.1
      exact ⟨g, w, by rw [dF (fun z' => by rw [z', hp] at e; cases e)]; exact e, z⟩
    · rintro j x acc μ' hx hacc ⟨hl, hf, hb⟩
      have hpa : a ≠ p := fun z => by have hb' := hb; have h2 := s2.1; obtain ⟨g, w, e, _⟩ := h2; rw [z, hp] at e; cases e
      refine ⟨⟨trivial, trivial, trivial⟩, a, d, rfl, hd, hb, fun w h μ4 S s4 => ⟨by rw [s4.2 p (fun z => hpa z.symm)]; exact hacc, by simp [hl], fun x hx => ?_, ?_⟩⟩
      · rcases List.mem_append.mp hx with z | z
        · exact hf x z
        · rw [List.mem_singleton.mp z]; exact ⟨w, h, rfl, S⟩
      · obtain ⟨g, w, e, z⟩ := s4.1
        exact ⟨g, w, by rw [dF hpa]; exact e, z⟩
    · rintro acc μ3 ⟨hl, hf, hb⟩ hacc
      have hpa : a ≠ p := fun z => by have h2 := s2.1; obtain ⟨g, w, e, _⟩ := h2; rw [z, hp] at e; cases e
      have hb' : Bag (gJ μ3 p) a := by obtain ⟨g, w, e, z⟩ := hb; exact ⟨g, w, by rw [Gq hpa]; exact e, z⟩
      rw [qJ]
      walk_at "rn"
      have hl3 : acc.length = 3 := by rw [hl, o8]; rfl
      refine ⟨?_, fun j ρ μ' => ∃ r5 r6 r7 r8, ρ = [some (.s ns), some (.v (.int (0 + (i : Int)))), some (.m a), some (.v (.int d)), some (.v (.list acc)), r5, r6, r7, r8] ∧ Bag μ' a, ⟨_, _, _, _, rfl, hb'⟩, ?_, ?_⟩
      · have := GL acc none (some 1)
        simp; omega
      · rintro j x ρ μ4 hx ⟨r5, r6, r7, r8, rfl, hb4⟩
        obtain ⟨w, h, rfl, S⟩ : FlD d x := by
          rcases List.mem_append.mp (List.mem_of_getElem? hx) with z | z
          · exact hf x z
          · exact hf x (GY z)
        walk_at "rn"
        refine ⟨trivial, d, w, h, rfl, S, ?_⟩
        walk_at "rn"
        refine ⟨a, d, rfl, hd, hb4, fun t μ5 f1 f2 f3 s5 => ?_⟩
        have bt : Bz d t := ⟨f1, f2, f3⟩
        walk_at "rn"
        simp only [↓JB, ↓lN, ↓pV, ↓Mt]
        refine DM rfl (by show 5 ≤ 1000; decide) (fun e he => ?_) s_num (fun e he μ' sub Xk hx => ?_) ?_
        · simp only [List.mem_cons, List.not_mem_nil, or_false] at he
          rcases he with rfl | rfl | rfl | rfl | rfl <;> rfl
        · simp only [List.mem_cons, List.not_mem_nil, or_false] at he
          rcases he with rfl | rfl | rfl | rfl | rfl
          · exact (show eN [.v (.int d), .v t, .v (dN h)] μ' Xk from ⟨d, _, _, rfl, hd, .inl bt, hx⟩)
          · exact (show eN [.v (.int d), .v (dN w), .v t] μ' Xk from ⟨d, _, _, rfl, hd, .inr ⟨w, rfl, S.ow, S.bw.mono (by decide), S.sw, bt⟩, hx⟩)
          · exact (show eN [.v (.int d), .v t, .v (dN h)] μ' Xk from ⟨d, _, _, rfl, hd, .inl bt, hx⟩)
          · exact (show eN [.v (.int d), .v (dN w), .v t] μ' Xk from ⟨d, _, _, rfl, hd, .inr ⟨w, rfl, S.ow, S.bw.mono (by decide), S.sw, bt⟩, hx⟩)
          · exact (show eN [.v (.int d), .v t, .v t] μ' Xk from ⟨d, _, _, rfl, hd, .inl bt, hx⟩)
        · rw [GH]
          exact ⟨_, _, _, _, rfl, s5.1⟩
      · rintro ρ μ4 ⟨r5, r6, r7, r8, rfl, hb4⟩
        exact ⟨_, _, _, _, _, _, _, _, rfl⟩
  · rintro ρ μ0 ⟨r1, r2, r3, r4, r5, r6, r7, r8, rfl⟩
    have h2 : aO 2 := ⟨by decide, by decide, by decide, by decide, by decide, by decide⟩
    have S : ∀ i : Int, 0 < i → i < 1000 → Ok ⟨i, 0, 1⟩ ∧ Bd 60 ⟨i, 0, 1⟩ ∧ sg 2 i 0 = 1 := fun i h1 h3 => ⟨AI i, ⟨(Sz.of (n := 10) (by show i.natAbs < 1024; omega)).mono (by decide), (Sz.of (n := 10) (by show (0 : Int).natAbs < 1024; decide)).mono (by decide), (Sz.of (n := 10) (by show (1 : Int).natAbs < 1024; decide)).mono (by decide)⟩, (dy h2).mpr (.inl ⟨by omega, by omega, by omega⟩)⟩
    obtain ⟨o60, b60, s60⟩ := S 60 (by decide) (by decide)
    obtain ⟨o61, b61, s61⟩ := S 61 (by decide) (by decide)
    obtain ⟨o1, b1, s1⟩ := S 1 (by decide) (by decide)
    refine ⟨2, ⟨60, 0, 1⟩, ⟨1, 0, 1⟩, rfl, ⟨h2, o60, o1, b60, b1, s60, s1⟩, ?_⟩
    walk_at "rn"
    exact ⟨2, ⟨1, 0, 1⟩, ⟨61, 0, 1⟩, rfl, ⟨h2, o1, o61, b1, b61, s1, s61⟩, q _⟩
end
end L2.DL
set_option Elab.async false
set_option linter.all false
set_option maxRecDepth 100000
set_option maxHeartbeats 4000000
namespace K20
open PySem L2 L2.DL
structure Adr where
  lu : Addr
  oR : FuncData
  eK : Addr
  hW : FuncData
  jH : Addr
  my : FuncData
  eA : Addr
  ib : FuncData
  qp : Addr
  uL : FuncData
  yh : Addr
  BB : FuncData
  xD : Addr
  Bl : FuncData
  uh : Addr
  x6 : FuncData
  yH : Addr
  B0 : FuncData
  lR : Addr
  oX : FuncData
  nE : Addr
  rD : FuncData
  eZ : Addr
  iK : FuncData
  ly : Addr
  oV : FuncData
  dZ : Addr
  gq : FuncData
  bO : Addr
  cm : FuncData
  gm : Addr
  iZ : FuncData
  d4 : Addr
  gG : FuncData
  jF : Addr
  ml : FuncData
  cD : Addr
  cS : FuncData
  d0 : Addr
  gu : FuncData
  il : Addr
  ko : FuncData
  jT : Addr
  mJ : FuncData
  iQ : Addr
  lV : FuncData
  k6 : Addr
  oZ : FuncData
  iu : Addr
  kf : FuncData
  ff : Addr
  iO : FuncData
  jR : Addr
  mZ : FuncData
  jS : Addr
  mT : FuncData
  iW : Addr
  k9 : FuncData
  iV : Addr
  lr : FuncData
  jG : Addr
  nC : FuncData
  cT : Addr
  d9 : FuncData
  lJ : Addr
  o7 : FuncData
  jZ : Addr
  mm : FuncData
  jW : Addr
  nq : FuncData
  dz : Addr
  fk : FuncData
  iU : Addr
  lX : FuncData
  ij : Addr
  j8 : FuncData
  en : Addr
  gZ : FuncData
  lI : Addr
  ph : FuncData
  gn : Addr
  i8 : FuncData
  gc : Addr
  gy : FuncData
  CJ : Addr
  Cz : FuncData
  wm : Tok
  D7 : Addr
  Ka : Addr
  bL : Addr
  dP : Addr
  ak : Addr
  cw : Addr
  dH : Addr
  az : Addr
  cQ : Addr
  dI : Addr
  dJ : Addr
  eU : Addr
  dR : Addr
  cu : Addr
  dM : Addr
  aw : Addr
  cO : Addr
  d6 : Addr
  rL : Addr
  A1 : Addr
structure Txt (K : PySem.W.Frag) (mg : Str → Option Value) (t : Adr) : Prop where
  Bq : Fun K "is_whole" "is_whole" g0 t.lu t.oR
  oM : mg "is_whole" = some (.ref t.lu)
  pj : PySem.W.keepIn K (.ref t.lu) = true
  pD : Binds K t.oR ["thing"] []
  rB : Fun K "common_divisor" "common_divisor" cy t.eK t.hW
  ku : mg "common_divisor" = some (.ref t.eK)
  kv : PySem.W.keepIn K (.ref t.eK) = true
  kK : Binds K t.hW ["a", "b"] []
  AQ : Fun K "is_number" "is_number" fP t.jH t.my
  A7 : mg "is_number" = some (.ref t.jH)
  AY : PySem.W.keepIn K (.ref t.jH) = true
  A0 : Binds K t.my ["thing"] []
  sM : Fun K "divisor_of_all" "divisor_of_all" cx t.eA t.ib
  kL : mg "divisor_of_all" = some (.ref t.eA)
  kH : PySem.W.keepIn K (.ref t.eA) = true
  kF : Binds K t.ib ["a", "b", "c"] []
  Gx : Fun K "number" "number" kz t.qp t.uL
  ql : mg "number" = some (.ref t.qp)
  qU : PySem.W.keepIn K (.ref t.qp) = true
  qH : Binds K t.uL ["a", "b", "c"] []
  Ja : Fun K "plus" "plus" rT t.yh t.BB
  EJ : mg "plus" = some (.ref t.yh)
  EF : PySem.W.keepIn K (.ref t.yh) = true
  Eo : Binds K t.BB ["x", "y"] []
  Jl : Fun K "less" "less" rp t.xD t.Bl
  Ft : mg "less" = some (.ref t.xD)
  Eh : PySem.W.keepIn K (.ref t.xD) = true
  Fn : Binds K t.Bl ["x", "y"] []
  HP : Fun K "times" "times" nJ t.uh t.x6
  GX : mg "times" = some (.ref t.uh)
  G7 : PySem.W.keepIn K (.ref t.uh) = true
  Hj : Binds K t.x6 ["d", "x", "y"] []
  Kt : Fun K "over" "over" sF t.yH t.B0
  JH : mg "over" = some (.ref t.yH)
  Js : PySem.W.keepIn K (.ref t.yH) = true
  Jm : Binds K t.B0 ["d", "x", "y"] []
  Bt : Fun K "contrary" "contrary" ic t.lR t.oX
  BO : mg "contrary" = some (.ref t.lR)
  BU : PySem.W.keepIn K (.ref t.lR) = true
  Cd : Binds K t.oX ["d", "x"] []
  DX : Fun K "sign_of" "sign_of" i4 t.nE t.rD
  D1 : mg "sign_of" = some (.ref t.nE)
  Dt : PySem.W.keepIn K (.ref t.nE) = true
  Ds : Binds K t.rD ["d", "x"] []
  tP : Fun K "sign_of_parts" "sign_of_parts" cN t.eZ t.iK
  md : mg "sign_of_parts" = some (.ref t.eZ)
  mh : PySem.W.keepIn K (.ref t.eZ) = true
  l6 : Binds K t.iK ["d", "a", "b"] []
  B9 : Fun K "is_above" "is_above" gR t.ly t.oV
  Bv : mg "is_above" = some (.ref t.ly)
  BS : PySem.W.keepIn K (.ref t.ly) = true
  Bi : Binds K t.oV ["d", "x", "y"] []
  qL : Fun K "is_above_nought" "is_above_nought" bZ t.dZ t.gq
  jY : mg "is_above_nought" = some (.ref t.dZ)
  jN : PySem.W.keepIn K (.ref t.dZ) = true
  jE : Binds K t.gq ["d", "thing"] []
  gz : Fun K "must_be_above_nought" "must_be_above_nought" bA t.bO t.cm
  bP : mg "must_be_above_nought" = some (.ref t.bO)
  bQ : PySem.W.keepIn K (.ref t.bO) = true
  bR : Binds K t.cm ["d", "thing"] []
  qf : Fun K "squares_of" "squares_of" eI t.gm t.iZ
  eE : mg "squares_of" = some (.ref t.gm)
  el : PySem.W.keepIn K (.ref t.gm) = true
  ej : Binds K t.iZ ["d", "width", "height"] []
  p6 : Fun K "bar_for_squares" "bar_for_squares" cf t.d4 t.gG
  qO : mg "bar_for_squares" = some (.ref t.d4)
  qY : PySem.W.keepIn K (.ref t.d4) = true
  pZ : Binds K t.gG ["shape"] []
  AK : Fun K "counts_of" "counts_of" fI t.jF t.ml
  Aw : mg "counts_of" = some (.ref t.jF)
  AZ : PySem.W.keepIn K (.ref t.jF) = true
  Ax : Binds K t.ml ["shape"] []
  gC : Fun K "squares_laid" "squares_laid" dm t.cD t.cS
  df : mg "squares_laid" = some (.ref t.cD)
  de : PySem.W.keepIn K (.ref t.cD) = true
  cX : Binds K t.cS ["d", "width", "height"] []
  qu : Fun K "tiles_by_counts" "tiles_by_counts" cj t.d0 t.gu
  qD : mg "tiles_by_counts" = some (.ref t.d0)
  qI : PySem.W.keepIn K (.ref t.d0) = true
  qG : Binds K t.gu ["d", "width", "height", "counts"] []
  vW : Fun K "_law_counts" "_law_counts" dQ t.il t.ko
  oo : mg "_law_counts" = some (.ref t.il)
  oE : PySem.W.keepIn K (.ref t.il) = true
  oB : Binds K t.ko ["_law_d", "_law_width", "_law_height"] []
  zN : Fun K "_law_over" "_law_over" fH t.jT t.mJ
  AM : mg "_law_over" = some (.ref t.jT)
  AA : PySem.W.keepIn K (.ref t.jT) = true
  Ar : Binds K t.mJ ["_law_d", "_law_x", "_law_y"] []
  xS : Fun K "_law_times" "_law_times" eu t.iQ t.lV
  qm : mg "_law_times" = some (.ref t.iQ)
  qK : PySem.W.keepIn K (.ref t.iQ) = true
  rm : Binds K t.lV ["_law_d", "_law_x", "_law_y"] []
  Bs : Fun K "_law_low" "_law_low" gP t.k6 t.oZ
  jf : mg "_law_low" = some (.ref t.k6)
  jB : PySem.W.keepIn K (.ref t.k6) = true
  jm : Binds K t.oZ ["_law_a", "_law_b", "_law_c"] []
  wd : Fun K "_law_shared" "_law_shared" dO t.iu t.kf
  n9 : mg "_law_shared" = some (.ref t.iu)
  oj : PySem.W.keepIn K (.ref t.iu) = true
  ot : Binds K t.kf ["_law_one", "_law_other"] []
  tV : Fun K "_law_contrary" "_law_contrary" cL t.ff t.iO
  tR : mg "_law_contrary" = some (.ref t.ff)
  tF : PySem.W.keepIn K (.ref t.ff) = true
  tK : Binds K t.iO ["_law_d", "_law_x"] []
  zZ : Fun K "_law_less" "_law_less" fG t.jR t.mZ
  sY : mg "_law_less" = some (.ref t.jR)
  sP : PySem.W.keepIn K (.ref t.jR) = true
  sW : Binds K t.mZ ["_law_x", "_law_y"] []
  zp : Fun K "_law_plus" "_law_plus" fQ t.jS t.mT
  iz : mg "_law_plus" = some (.ref t.jS)
  iy : PySem.W.keepIn K (.ref t.jS) = true
  iw : Binds K t.mT ["_law_x", "_law_y"] []
  yv : Fun K "_law_minus" "_law_minus" eC t.iW t.k9
  iR : mg "_law_minus" = some (.ref t.iW)
  iS : PySem.W.keepIn K (.ref t.iW) = true
  iT : Binds K t.k9 ["_law_x"] []
  yU : Fun K "_law_below" "_law_below" eB t.iV t.lr
  xI : mg "_law_below" = some (.ref t.iV)
  yB : PySem.W.keepIn K (.ref t.iV) = true
  xU : Binds K t.lr ["_law_d", "_law_x", "_law_y"] []
  Ay : Fun K "_law_sign" "_law_sign" fM t.jG t.nC
  tw : mg "_law_sign" = some (.ref t.jG)
  tD : PySem.W.keepIn K (.ref t.jG) = true
  sU : Binds K t.nC ["_law_d", "_law_x"] []
  jz : Fun K "_law_refusal" "_law_refusal" dh t.cT t.d9
  jv : mg "_law_refusal" = some (.ref t.cT)
  jc : PySem.W.keepIn K (.ref t.cT) = true
  jw : Binds K t.d9 ["_law_deed"] []
  BF : Fun K "_law_bag" "_law_bag" gN t.lJ t.o7
  BJ : mg "_law_bag" = some (.ref t.lJ)
  BL : PySem.W.keepIn K (.ref t.lJ) = true
  B2 : Binds K t.o7 ["_law_script", "_law_at"] []
  A8 : Fun K "_law_root" "_law_root" fL t.jZ t.mm
  Ab : mg "_law_root" = some (.ref t.jZ)
  zL : PySem.W.keepIn K (.ref t.jZ) = true
  Af : Binds K t.mm ["_law_bag_here"] []
  A5 : Fun K "_law_take" "_law_take" fR t.jW t.nq
  aS : mg "_law_take" = some (.ref t.jW)
  aU : PySem.W.keepIn K (.ref t.jW) = true
  aT : Binds K t.nq ["_law_bag_here", "_law_many"] []
  oN : Fun K "_law_floor_sides" "_law_floor_sides" bV t.dz t.fk
  o3 : mg "_law_floor_sides" = some (.ref t.dz)
  oH : PySem.W.keepIn K (.ref t.dz) = true
  oQ : Binds K t.fk ["_law_bag_here", "_law_d"] []
  xy : Fun K "_law_above" "_law_above" ez t.iU t.lX
  lj : mg "_law_above" = some (.ref t.iU)
  lW : PySem.W.keepIn K (.ref t.iU) = true
  lU : Binds K t.lX ["_law_bag_here", "_law_d"] []
  wG : Fun K "_law_number" "_law_number" dG t.ij t.j8
  wD : mg "_law_number" = some (.ref t.ij)
  wg : PySem.W.keepIn K (.ref t.ij) = true
  v5 : Binds K t.j8 ["_law_bag_here"] []
  rY : Fun K "_law_bad_above" "_law_bad_above" cA t.en t.gZ
  sI : mg "_law_bad_above" = some (.ref t.en)
  sk : PySem.W.keepIn K (.ref t.en) = true
  rJ : Binds K t.gZ ["_law_bag_here", "_law_d"] []
  Ce : Fun K "_law_odd" "_law_odd" g8 t.lI t.ph
  Cf : mg "_law_odd" = some (.ref t.lI)
  BD : PySem.W.keepIn K (.ref t.lI) = true
  B5 : Binds K t.ph ["_law_bag_here"] []
  vp : Fun K "_law_squares" "_law_squares" da t.gn t.i8
  uS : mg "_law_squares" = some (.ref t.gn)
  vH : PySem.W.keepIn K (.ref t.gn) = true
  vL : Binds K t.i8 ["_law_d", "_law_width", "_law_height"] []
  uX : Fun K "_law_is_told" "_law_is_told" cV t.gc t.gy
  jb : mg "_law_is_told" = some (.ref t.gc)
  js : PySem.W.keepIn K (.ref t.gc) = true
  i9 : Binds K t.gy ["_law_d", "_law_width", "_law_height"] []
  Ls : Fun K "law" "law" oD t.CJ t.Cz
  MB : mg "law" = some (.ref t.CJ)
  MC : PySem.W.keepIn K (.ref t.CJ) = true
  MD : Binds K t.Cz ["_law_script"] []
  ar : mg "isinstance" = none
  wL : mg "int" = none
  Kk : mg "bool" = none
  Az : mg "abs" = none
  xQ : mg "tuple" = none
  xh : mg "len" = none
  Er : mg "min" = none
  E5 : mg "max" = none
  Gf : mg "sum" = none
  nH : mg "range" = none
  lO : mg "ValueError" = none
  JF : mg "list" = none
  Lh : mg "all" = none
  pY : mg "MOST_TILES" = some (.int 60 t.wm)
  nr : KL K mg "NOUGHT" t.D7 0 0 1
  L1 : KL K mg "ONE" t.Ka 1 0 1
  lP : mg "FloorError" = some (.ref t.bL)
  vE : mg "NoRoot" = some (.ref t.dP)
  lh : mg "NoNumber" = some (.ref t.ak)
  oK : mg "NoLaying" = some (.ref t.cw)
  vq : mg "NoTile" = some (.ref t.dH)
  uq : mg "NoFit" = some (.ref t.az)
  rW : mg "NoKinds" = some (.ref t.cQ)
  vh : mg "NoPlan" = some (.ref t.dI)
  vf : mg "NoSpot" = some (.ref t.dJ)
  yx : mg "NoNet" = some (.ref t.eU)
  vk : mg "NoText" = some (.ref t.dR)
  o4 : mg "NoSaying" = some (.ref t.cu)
  uY : mg "NoName" = some (.ref t.dM)
  nU : mg "TooMany" = some (.ref t.aw)
  pF : PySem.W.excIn K (t.ak) bmV "ValueError.__new__" = true
  pL : PySem.W.exmOne K (.ref t.ak) (.ref t.bL) = some true
  fY : PySem.W.kitOne K (.ref t.ak) (.ref t.dP) = some false
  eM : PySem.W.kitOne K (.ref t.ak) (.ref t.ak) = some true
  eQ : PySem.W.kitOne K (.ref t.ak) (.ref t.cw) = some false
  gj : PySem.W.kitOne K (.ref t.ak) (.ref t.dH) = some false
  gY : PySem.W.kitOne K (.ref t.ak) (.ref t.az) = some false
  fD : PySem.W.kitOne K (.ref t.ak) (.ref t.cQ) = some false
  gH : PySem.W.kitOne K (.ref t.ak) (.ref t.dI) = some false
  fW : PySem.W.kitOne K (.ref t.ak) (.ref t.dJ) = some false
  g7 : PySem.W.kitOne K (.ref t.ak) (.ref t.eU) = some false
  fX : PySem.W.kitOne K (.ref t.ak) (.ref t.dR) = some false
  eP : PySem.W.kitOne K (.ref t.ak) (.ref t.cu) = some false
  gF : PySem.W.kitOne K (.ref t.ak) (.ref t.dM) = some false
  fm : PySem.W.kitOne K (.ref t.ak) (.ref t.aw) = some false
  k7 : PySem.W.kitOne K (.ref t.ak) (.type "ValueError") = some true
  xp : PySem.W.excIn K (t.az) bmV "ValueError.__new__" = true
  xC : PySem.W.exmOne K (.ref t.az) (.ref t.bL) = some true
  jA : PySem.W.kitOne K (.ref t.az) (.ref t.dP) = some false
  ie : PySem.W.kitOne K (.ref t.az) (.ref t.ak) = some false
  gQ : PySem.W.kitOne K (.ref t.az) (.ref t.cw) = some false
  jj : PySem.W.kitOne K (.ref t.az) (.ref t.dH) = some false
  kd : PySem.W.kitOne K (.ref t.az) (.ref t.az) = some true
  iB : PySem.W.kitOne K (.ref t.az) (.ref t.cQ) = some false
  jy : PySem.W.kitOne K (.ref t.az) (.ref t.dI) = some false
  jk : PySem.W.kitOne K (.ref t.az) (.ref t.dJ) = some false
  j9 : PySem.W.kitOne K (.ref t.az) (.ref t.eU) = some false
  je : PySem.W.kitOne K (.ref t.az) (.ref t.dR) = some false
  gW : PySem.W.kitOne K (.ref t.az) (.ref t.cu) = some false
  ji : PySem.W.kitOne K (.ref t.az) (.ref t.dM) = some false
  iJ : PySem.W.kitOne K (.ref t.az) (.ref t.aw) = some false
  sr : PySem.W.kitOne K (.ref t.az) (.type "ValueError") = some true
  sy : PySem.W.excIn K (t.aw) bmV "ValueError.__new__" = true
  sJ : PySem.W.exmOne K (.ref t.aw) (.ref t.bL) = some true
  ia : PySem.W.kitOne K (.ref t.aw) (.ref t.dP) = some false
  fv : PySem.W.kitOne K (.ref t.aw) (.ref t.ak) = some false
  fo : PySem.W.kitOne K (.ref t.aw) (.ref t.cw) = some false
  gM : PySem.W.kitOne K (.ref t.aw) (.ref t.dH) = some false
  iM : PySem.W.kitOne K (.ref t.aw) (.ref t.az) = some false
  gb : PySem.W.kitOne K (.ref t.aw) (.ref t.cQ) = some false
  g9 : PySem.W.kitOne K (.ref t.aw) (.ref t.dI) = some false
  gU : PySem.W.kitOne K (.ref t.aw) (.ref t.dJ) = some false
  iF : PySem.W.kitOne K (.ref t.aw) (.ref t.eU) = some false
  hV : PySem.W.kitOne K (.ref t.aw) (.ref t.dR) = some false
  fz : PySem.W.kitOne K (.ref t.aw) (.ref t.cu) = some false
  gS : PySem.W.kitOne K (.ref t.aw) (.ref t.dM) = some false
  fZ : PySem.W.kitOne K (.ref t.aw) (.ref t.aw) = some true
  mD : PySem.W.kitOne K (.ref t.aw) (.type "ValueError") = some true
  bN : rG K t.ak
  d5 : rG K t.az
  bY : rG K t.aw
  mG : G3 K mg t.cO t.d6 "_law_is_told"
  l5 : t.gy.code = .ref t.cO
  AH : G3 K mg t.rL t.A1 "law"
  uT : t.Cz.code = .ref t.rL
structure EQ where
  P : Program
  w : World
  K : PySem.W.Frag
  mg : Str → Option Value
  base : Heap
  t : Adr
abbrev TX (e : EQ) : Prop := Txt e.K e.mg e.t
abbrev sX (e : EQ) : Prop := bB e.P e.w e.K e.mg e.base CX0 1 e.t.lu e.t.oR ["thing"] (spD e.K nS)
abbrev jL (e : EQ) : Prop := bB e.P e.w e.K e.mg e.base CX0 1 e.t.eK e.t.hW ["a", "b"] (spD e.K qe)
abbrev qv (e : EQ) : Prop := bB e.P e.w e.K e.mg e.base CX0 3 e.t.jH e.t.my ["thing"] (spD e.K xE)
abbrev gg (e : EQ) : Prop := bB e.P e.w e.K e.mg e.base CX0 2 e.t.eA e.t.ib ["a", "b", "c"] (spD e.K vB)
abbrev kS (e : EQ) : Prop := bB e.P e.w e.K e.mg e.base CX0 3 e.t.qp e.t.uL ["a", "b", "c"] (spD e.K cB)
abbrev CI (e : EQ) : Prop := bB e.P e.w e.K e.mg e.base CX0 4 e.t.yh e.t.BB ["x", "y"] (spD e.K iD)
abbrev CN (e : EQ) : Prop := bB e.P e.w e.K e.mg e.base CX0 4 e.t.xD e.t.Bl ["x", "y"] (spD e.K k8)
abbrev zO (e : EQ) : Prop := bB e.P e.w e.K e.mg e.base CX0 4 e.t.uh e.t.x6 ["d", "x", "y"] (spD e.K iY)
abbrev C7 (e : EQ) : Prop := bB e.P e.w e.K e.mg e.base CX0 5 e.t.yH e.t.B0 ["d", "x", "y"] (spD e.K o6)
abbrev tm (e : EQ) : Prop := bB e.P e.w e.K e.mg e.base CX0 4 e.t.lR e.t.oX ["d", "x"] (spD e.K fB)
abbrev u6 (e : EQ) : Prop := bB e.P e.w e.K e.mg e.base CX0 2 e.t.nE e.t.rD ["d", "x"] (spD e.K mK)
abbrev hE (e : EQ) : Prop := bB e.P e.w e.K e.mg e.base CX0 1 e.t.eZ e.t.iK ["d", "a", "b"] (spD e.K qZ)
abbrev sR (e : EQ) : Prop := bB e.P e.w e.K e.mg e.base CX0 2 e.t.ly e.t.oV ["d", "x", "y"] (spD e.K uf)
abbrev fw (e : EQ) : Prop := bB e.P e.w e.K e.mg e.base CX0 4 e.t.dZ e.t.gq ["d", "thing"] (spD e.K mE)
abbrev cZ (e : EQ) : Prop := bB e.P e.w e.K e.mg e.base CX0 5 e.t.bO e.t.cm ["d", "thing"] (spD e.K fO)
abbrev ik (e : EQ) : Prop := bB e.P e.w e.K e.mg e.base CX0 6 e.t.gm e.t.iZ ["d", "width", "height"] (spD e.K rz)
abbrev i7 (e : EQ) : Prop := bB e.P e.w e.K e.mg e.base CX0 1 e.t.d4 e.t.gG ["shape"] (spD e.K ue)
abbrev pP (e : EQ) : Prop := bB e.P e.w e.K e.mg e.base CX0 1 e.t.jF e.t.ml ["shape"] (spD e.K vF)
abbrev me (e : EQ) : Prop := bB e.P e.w e.K e.mg e.base CX0 7 e.t.cD e.t.cS ["d", "width", "height"] (spD e.K pQ)
abbrev jg (e : EQ) : Prop := bB e.P e.w e.K e.mg e.base CX0 5 e.t.d0 e.t.gu ["d", "width", "height", "counts"] (spD e.K uC)
abbrev jt (e : EQ) : Prop := bB e.P e.w e.K e.mg e.base CX0 5 e.t.il e.t.ko ["_law_d", "_law_width", "_law_height"] (spD e.K nO)
abbrev qV (e : EQ) : Prop := bB e.P e.w e.K e.mg e.base CX0 4 e.t.jT e.t.mJ ["_law_d", "_law_x", "_law_y"] (spD e.K o6)
abbrev km (e : EQ) : Prop := bB e.P e.w e.K e.mg e.base CX0 3 e.t.iQ e.t.lV ["_law_d", "_law_x", "_law_y"] (spD e.K iY)
abbrev fF (e : EQ) : Prop := bB e.P e.w e.K e.mg e.base CX0 2 e.t.k6 e.t.oZ ["_law_a", "_law_b", "_law_c"] (spD e.K cB)
abbrev mX (e : EQ) : Prop := bB e.P e.w e.K e.mg e.base CX0 1 e.t.iu e.t.kf ["_law_one", "_law_other"] (spD e.K qe)
abbrev kB (e : EQ) : Prop := bB e.P e.w e.K e.mg e.base CX0 3 e.t.ff e.t.iO ["_law_d", "_law_x"] (spD e.K fB)
abbrev qS (e : EQ) : Prop := bB e.P e.w e.K e.mg e.base CX0 4 e.t.jR e.t.mZ ["_law_x", "_law_y"] (spD e.K k8)
abbrev gv (e : EQ) : Prop := bB e.P e.w e.K e.mg e.base CX0 3 e.t.jS e.t.mT ["_law_x", "_law_y"] (spD e.K iD)
abbrev eS (e : EQ) : Prop := bB e.P e.w e.K e.mg e.base CX0 1 e.t.iW e.t.k9 ["_law_x"] (spD e.K lM)
abbrev oi (e : EQ) : Prop := bB e.P e.w e.K e.mg e.base CX0 4 e.t.iV e.t.lr ["_law_d", "_law_x", "_law_y"] (spD e.K ub)
abbrev kZ (e : EQ) : Prop := bB e.P e.w e.K e.mg e.base CX0 1 e.t.jG e.t.nC ["_law_d", "_law_x"] (spD e.K mK)
abbrev sQ (e : EQ) : Prop := bB e.P e.w e.K e.mg e.base CX0 1 e.t.lJ e.t.o7 ["_law_script", "_law_at"] (spD e.K Dg)
abbrev qB (e : EQ) : Prop := bB e.P e.w e.K e.mg e.base CX0 2 e.t.jZ e.t.mm ["_law_bag_here"] (spD e.K um)
abbrev dw (e : EQ) : Prop := bB e.P e.w e.K e.mg e.base CX0 1 e.t.jW e.t.nq ["_law_bag_here", "_law_many"] (spD e.K cH)
abbrev iP (e : EQ) : Prop := bB e.P e.w e.K e.mg e.base CX0 5 e.t.dz e.t.fk ["_law_bag_here", "_law_d"] (spD e.K ua)
abbrev j4 (e : EQ) : Prop := bB e.P e.w e.K e.mg e.base CX0 4 e.t.iU e.t.lX ["_law_bag_here", "_law_d"] (spD e.K kC)
abbrev mz (e : EQ) : Prop := bB e.P e.w e.K e.mg e.base CX0 3 e.t.ij e.t.j8 ["_law_bag_here"] (spD e.K nR)
abbrev j3 (e : EQ) : Prop := bB e.P e.w e.K e.mg e.base CX0 5 e.t.en e.t.gZ ["_law_bag_here", "_law_d"] (spD e.K lH)
abbrev sZ (e : EQ) : Prop := bB e.P e.w e.K e.mg e.base CX0 2 e.t.lI e.t.ph ["_law_bag_here"] (spD e.K CH)
abbrev mf (e : EQ) : Prop := bB e.P e.w e.K e.mg e.base CX0 6 e.t.gn e.t.i8 ["_law_d", "_law_width", "_law_height"] (spD e.K pd)
abbrev ma (e : EQ) : Prop := bB e.P e.w e.K e.mg e.base CX0 10 e.t.gc e.t.gy ["_law_d", "_law_width", "_law_height"] (spD e.K kT)
abbrev Gh (e : EQ) : Prop := bB e.P e.w e.K e.mg e.base CX0 11 e.t.CJ e.t.Cz ["_law_script"] (spD e.K uI)
abbrev cG (e : EQ) : Prop := bB e.P e.w e.K e.mg e.base (CX1 e.P e.w) 5 e.t.bO e.t.cm ["d", "thing"] (spX e.K (.ref e.t.ak) kW)
abbrev cY (e : EQ) : Prop := bB e.P e.w e.K e.mg e.base (CX1 e.P e.w) 6 e.t.gm e.t.iZ ["d", "width", "height"] (spX e.K (.ref e.t.ak) eN)
abbrev eL (e : EQ) : Prop := bB e.P e.w e.K e.mg e.base (CX1 e.P e.w) 7 e.t.cD e.t.cS ["d", "width", "height"] (spX e.K (.ref e.t.ak) eN)
abbrev fV (e : EQ) : Prop := bB e.P e.w e.K e.mg e.base (CX1 e.P e.w) 7 e.t.cD e.t.cS ["d", "width", "height"] (spX e.K (.ref e.t.az) xx)
abbrev eW (e : EQ) : Prop := bB e.P e.w e.K e.mg e.base (CX1 e.P e.w) 7 e.t.cD e.t.cS ["d", "width", "height"] (spX e.K (.ref e.t.aw) xJ)
abbrev qM (e : EQ) : Prop := vG e.P e.w e.K e.mg e.base 8 e.t.cT e.t.d9 "_law_deed" (.ref e.t.ak) "NoNumber"
abbrev wR (e : EQ) : Prop := vG e.P e.w e.K e.mg e.base 8 e.t.cT e.t.d9 "_law_deed" (.ref e.t.az) "NoFit"
abbrev sV (e : EQ) : Prop := vG e.P e.w e.K e.mg e.base 8 e.t.cT e.t.d9 "_law_deed" (.ref e.t.aw) "TooMany"
section
variable {e : EQ}
theorem A6 : aD ["thing"] ["thing"] (au g0) := ⟨rfl, rfl, rfl, by decide +kernel, rfl, by decide +kernel, by decide +kernel⟩
theorem zY (T : TX e)  : sX e := by
  have S := A6
  exact T.Bq.okD S (fun ds μ Q h => zB h) (fun cdv A outer s H E hr => ⟨mW, (aq (aE (yj (BE (HV _) rfl T.ar rfl T.wL PyProof.Rows.Boot.«int» (dv 0)) (yT (xR (BE (E1 _) rfl T.ar rfl T.Kk PyProof.Rows.Boot.«bool» (dv 0))))))), fun ds μ Qd h => AR h⟩)
theorem qr : aD ["a", "b"] ["a", "b"] (au cy) := ⟨rfl, rfl, rfl, by decide +kernel, rfl, by decide +kernel, by decide +kernel⟩
theorem p4 (T : TX e)  : jL e := by
  have S := qr
  exact T.rB.okD S (fun ds μ Q h => w9 h) (fun cdv A outer s H E hr => ⟨gB, (ai (q9 PassesOwn.never (aR (rM hr.units) bK (dv 1) af (aJ _)) (aq (iC (i := 0) (j := 1) rfl S.nd rfl rfl (by decide) rfl rfl (aa (dv 1) (aa (j7 (dv 0) (dv 1)) ah)) rfl)))
    (aq (aE (uU rfl T.Az (aa (dv 0) ah))))), fun ds μ Qd h => qk h⟩)
theorem rQ : aD ["d", "a", "b", "prevailing"] ["d", "a", "b"] (au cN) := ⟨rfl, rfl, rfl, by decide +kernel, rfl, by decide +kernel, by decide +kernel⟩
theorem sH (T : TX e)  : hE e := by
  have S := rQ
  exact T.tP.okD S (fun ds μ Q h => zF h) (fun cdv A outer s H E hr => ⟨hJ, (ai (bX (DW.dt (rV (aR (cq hr.units) bK (dv 1) af (aJ _)) (nG (aR (cq hr.units) bK (dv 2) af (aJ _))))) (aq (aE af)) ba)
    (ai (bX (DW.dt (rV (aR xc hZ (dv 1) af (aJ _)) (nG (aR xc hZ (dv 2) af (aJ _))))) (aq (aE af)) ba)
    (ai (bX (DW.dt (rV (aR IL hZ (dv 1) af (aJ _)) (nG (aR IL hZ (dv 2) af (aJ _))))) (aq (aE (jq af))) ba)
    (ai (aK (i := 3) S.nd rfl (Or.inl rfl) (sS (aR jI hZ (aH (dv 1) (dv 1)) (aH (aH (dv 0) (dv 2)) (dv 2)) (aJ _)) (dv 1) (dv 2)))
    (aq (aE (sS (aR jI hZ (dv 3) af (aJ _)) af (jq af)))))))), fun ds μ Qd h => si h⟩)
theorem pH : aD ["shape", "skew"] ["shape"] (au cf) := ⟨rfl, rfl, rfl, by decide +kernel, rfl, by decide +kernel, by decide +kernel⟩
theorem pC (T : TX e)  : i7 e := by
  have S := pH
  exact T.p6.okD S (fun ds μ Q h => Ad h) (fun cdv A outer s H E hr => ⟨fu, (ai (aK (i := 1) S.nd rfl (Or.inl rfl) (sS (aR jI hZ (ax (dv 0) af (fun _ _ => rfl)) af (aJ _)) af (jq af)))
    (aq (aE (ay (aa (kP rfl T.L1) (aa (ay (aa (kP rfl T.nr) (aa (ay (aa (dv 1) (aa af (aa af ah)))) (aa (ay (aa (jq (dv 1)) (aa af (aa af ah)))) (aa (kP rfl T.nr) ah))))) ah)))))), fun ds μ Qd h => o9 h⟩)
theorem xT : aD ["shape", "short", "rest", "counts"] ["shape"] (au fI) := ⟨rfl, rfl, rfl, by decide +kernel, rfl, by decide +kernel, by decide +kernel⟩
theorem xB (T : TX e)  : pP e := by
  have S := xT
  exact xM (T.AK.okD S (fun ds μ Q h => we h) (fun cdv A outer s H E hr => ⟨lq, (ai (aK (i := 1) S.nd rfl (Or.inl rfl) (Cb rfl rfl T.Er (aa (ax (dv 0) af (fun _ _ => rfl)) (aa (ax (dv 0) af (fun _ _ => rfl)) ah))))
    (ai (aK (i := 2) S.nd rfl (Or.inl rfl) (Cg rfl rfl T.E5 (aa (ax (dv 0) af (fun _ _ => rfl)) (aa (ax (dv 0) af (fun _ _ => rfl)) ah))))
    (ai (aK (i := 3) S.nd rfl (Or.inl rfl) (qc ah))
    (ai (q9 PassesOwn.never (aR (rM hr.units) bK (dv 1) af (aJ _)) (ai (lG (nF (dv 3) (iE (dv 2) (dv 1))))
    (aq (iC (i := 2) (j := 1) rfl S.nd rfl rfl (by decide) rfl rfl (aa (dv 1) (aa (j7 (dv 2) (dv 1)) ah)) rfl))))
    (aq (aE (dv 3))))))), fun ds μ Qd h => x5 h⟩)) (fun ds μ Qd h => vY h)
theorem vA : aD ["_law_one", "_law_other"] ["_law_one", "_law_other"] (au dO) := ⟨rfl, rfl, rfl, by decide +kernel, rfl, by decide +kernel, by decide +kernel⟩
theorem vt (T : TX e)  : mX e := by
  have S := vA
  exact T.wd.okD S (fun ds μ Q h => w9 h) (fun cdv A outer s H E hr => ⟨jn, (ai (iC (i := 0) (j := 1) rfl S.nd rfl rfl (by decide) rfl rfl (aa (uU rfl T.Az (aa (dv 0) ah)) (aa (uU rfl T.Az (aa (dv 1) ah)) ah)) rfl)
    (ai (q9 PassesOwn.never (aR jI hZ (dv 1) af (aJ _)) (aq (iC (i := 0) (j := 1) rfl S.nd rfl rfl (by decide) rfl rfl (aa (dv 1) (aa (j7 (dv 0) (dv 1)) ah)) rfl)))
    (aq (aE (dv 0))))), fun ds μ Qd h => vN h⟩)
theorem wc : aD ["_law_x"] ["_law_x"] (au eC) := ⟨rfl, rfl, rfl, by decide +kernel, rfl, by decide +kernel, by decide +kernel⟩
theorem wk (T : TX e)  : eS e := by
  have S := wc
  exact T.yv.okD S (fun ds μ Q h => zq h) (fun cdv A outer s H E hr => ⟨kq, (aq (aE (ay (aa (d8 af (ax (dv 0) af (fun _ _ => rfl))) (aa (d8 af (ax (dv 0) af (fun _ _ => rfl))) (aa (ax (dv 0) af (fun _ _ => rfl)) ah)))))), fun ds μ Qd h => wo h⟩)
theorem yK : aD ["_law_d", "_law_x", "_law_first", "_law_second", "_law_sides"] ["_law_d", "_law_x"] (au fM) := ⟨rfl, rfl, rfl, by decide +kernel, rfl, by decide +kernel, by decide +kernel⟩
theorem yN (T : TX e)  : kZ e := by
  have S := yK
  exact T.Ay.okD S (fun ds μ Q h => vI h) (fun cdv A outer s H E hr => ⟨lp, (ai (iC (i := 2) (j := 3) rfl S.nd rfl rfl (by decide) rfl rfl (aa (aH (ax (dv 1) af (fun _ _ => rfl)) (ax (dv 1) af (fun _ _ => rfl))) (aa (aH (aH (dv 0) (ax (dv 1) af (fun _ _ => rfl))) (ax (dv 1) af (fun _ _ => rfl))) ah)) rfl)
    (ai (aK (i := 4) S.nd rfl (Or.inl rfl) (dW (aa (d8 (ng rfl T.wL (aa (gw jI hZ (ax (dv 1) af (fun _ _ => rfl)) af (aJ _)) ah)) (ng rfl T.wL (aa (gw zJ hZ (ax (dv 1) af (fun _ _ => rfl)) af (aJ _)) ah))) (aa (d8 (ng rfl T.wL (aa (gw jI hZ (ax (dv 1) af (fun _ _ => rfl)) af (aJ _)) ah)) (ng rfl T.wL (aa (gw zJ hZ (ax (dv 1) af (fun _ _ => rfl)) af (aJ _)) ah))) ah))))
    (ai (bX (aR xc hZ (aH (ax (dv 4) af (fun _ _ => rfl)) (ax (dv 4) af (fun _ _ => rfl))) af (aJ _)) (aq (aE (sS (aR (rM hr.units) bK (ax (dv 4) af (fun _ _ => rfl)) af (aJ _)) (ax (dv 4) af (fun _ _ => rfl)) (ax (dv 4) af (fun _ _ => rfl))))) ba)
    (aq (aE (sS (aR jI hZ (dv 2) (dv 3) (aJ _)) (ax (dv 4) af (fun _ _ => rfl)) (ax (dv 4) af (fun _ _ => rfl)))))))), fun ds μ Qd h => xV h⟩)
theorem zg : aD ["_law_script", "_law_at", "_law_cell", "_law_great", "_law_primes", "_law_mixed"] ["_law_script", "_law_at"] (au gN) := ⟨rfl, rfl, rfl, by decide +kernel, rfl, by decide +kernel, by decide +kernel⟩
theorem A3 (T : TX e)  : sQ e := by
  have S := zg
  exact T.BF.okD S (fun ds μ Q h => Ed h) (fun cdv A outer s H E hr => ⟨nj, (ai (aK (i := 2) S.nd rfl (Or.inl rfl) af)
    (ai (bX (aR zJ hZ (dv 1) (rF rfl T.xh (aa (dv 0) ah)) (aJ _)) (aq (aK (i := 2) S.nd rfl (Or.inl rfl) (ax (dv 0) (dv 1) (fun _ _ => rfl)))) ba)
    (ai (aK (i := 3) S.nd rfl (Or.inl rfl) af)
    (ai (bX (aR xc hZ (uU rfl T.Az (aa (dv 2) ah)) (Bm af af) (aJ _)) (aq (aK (i := 3) S.nd rfl (Or.inl rfl) (uU rfl T.Az (aa (dv 2) ah)))) ba)
    (ai (aK (i := 4) S.nd rfl (Or.inl rfl) (dW (aa af (aa af (aa af (aa af (aa af (aa af (aa af (aa af ah))))))))))
    (ai (aK (i := 5) S.nd rfl (Or.inl rfl) (dg (dg (dg (aH (j7 (dv 2) af) af) (aH (aH af (dv 1)) (dv 1))) (aH af (dv 1))) af))
    (aq (aE (qc (aa (dv 3) (aa (j7 (dv 5) (ax (dv 4) (j7 (dv 1) af) (fun _ _ => rfl))) ah))))))))))), fun ds μ Qd h => zP h⟩)
theorem xF : aD ["_law_bag_here", "_law_many", "_law_digit"] ["_law_bag_here", "_law_many"] (au fR) := ⟨rfl, rfl, rfl, by decide +kernel, rfl, by decide +kernel, by decide +kernel⟩
theorem yP (T : TX e)  : dw e := by
  have S := xF
  exact T.A5.okD S (fun ds μ Q h => BC h) (fun cdv A outer s H E hr => ⟨lz, (ai (bX (aR jI hZ (ax (dv 0) af (fun _ _ => rfl)) af (aJ _)) (ai (aK (i := 2) S.nd rfl (Or.inl rfl) (j7 (ax (dv 0) af (fun _ _ => rfl)) (dv 1)))
    (ai (lQ (iE (ax (dv 0) af (fun _ _ => rfl)) (dv 1)) (Ex (dv 0) af))
    (aq (aE (dv 2))))) ba)
    (ai (lQ (j7 (dg (aH (ax (dv 0) af (fun _ _ => rfl)) af) af) af) (Ex (dv 0) af))
    (aq (aE (j7 (iE (j7 (Bm (ax (dv 0) af (fun _ _ => rfl)) af) af) af) (dv 1)))))), fun ds μ Qd h => xX h⟩)
theorem qw : aD ["a", "b", "c"] ["a", "b", "c"] (au cx) := ⟨rfl, rfl, rfl, by decide +kernel, rfl, by decide +kernel, by decide +kernel⟩
theorem pT (T : TX e) (eD : jL e) : gg e := by
  have S := qw
  exact T.sM.okD S (fun ds μ Q h => Cj h) (fun cdv A outer s H E hr => ⟨gh, (aq (aE (ao eD (hr.mono (by decide)) rfl T.ku T.kv T.kK (aa (ao eD (hr.mono (by decide)) rfl T.ku T.kv T.kK (aa (dv 2) (aa (dv 0) ah))) (aa (dv 1) ah))))), fun ds μ Qd h => qT h⟩)
theorem BK : aD ["d", "x"] ["d", "x"] (au i4) := ⟨rfl, rfl, rfl, by decide +kernel, rfl, by decide +kernel, by decide +kernel⟩
theorem B3 (T : TX e) (cK : hE e) : u6 e := by
  have S := BK
  exact T.DX.okD S (fun ds μ Q h => vI h) (fun cdv A outer s H E hr => ⟨pA, (aq (aE (ao cK (hr.mono (by decide)) rfl T.md T.mh T.l6 (aa (dv 0) (aa (ax (dv 1) af (fun _ _ => rfl)) (aa (ax (dv 1) af (fun _ _ => rfl)) ah)))))), fun ds μ Qd h => BR h⟩)
theorem Bb : aD ["d", "x", "y", "a", "b"] ["d", "x", "y"] (au gR) := ⟨rfl, rfl, rfl, by decide +kernel, rfl, by decide +kernel, by decide +kernel⟩
theorem AN (T : TX e) (cK : hE e) : sR e := by
  have S := Bb
  exact T.B9.okD S (fun ds μ Q h => AF h) (fun cdv A outer s H E hr => ⟨nk, (ai (aK (i := 3) S.nd rfl (Or.inl rfl) (d8 (aH (ax (dv 1) af (fun _ _ => rfl)) (ax (dv 2) af (fun _ _ => rfl))) (aH (ax (dv 2) af (fun _ _ => rfl)) (ax (dv 1) af (fun _ _ => rfl)))))
    (ai (aK (i := 4) S.nd rfl (Or.inl rfl) (d8 (aH (ax (dv 1) af (fun _ _ => rfl)) (ax (dv 2) af (fun _ _ => rfl))) (aH (ax (dv 2) af (fun _ _ => rfl)) (ax (dv 1) af (fun _ _ => rfl)))))
    (aq (aE (gw (cq hr.units) bK (ao cK (hr.mono (by decide)) rfl T.md T.mh T.l6 (aa (dv 0) (aa (dv 3) (aa (dv 4) ah)))) af (aJ _)))))), fun ds μ Qd h => Ac h⟩)
theorem Av : aD ["_law_a", "_law_b", "_law_c", "_law_common"] ["_law_a", "_law_b", "_law_c"] (au gP) := ⟨rfl, rfl, rfl, by decide +kernel, rfl, by decide +kernel, by decide +kernel⟩
theorem Bc (T : TX e) (ir : mX e) : fF e := by
  have S := Av
  exact T.Bs.okD S (fun ds μ Q h => qa h) (fun cdv A outer s H E hr => ⟨nA, (ai (aK (i := 3) S.nd rfl (Or.inl rfl) (aH (ao ir (hr.mono (by decide)) rfl T.n9 T.oj T.ot (aa (ao ir (hr.mono (by decide)) rfl T.n9 T.oj T.ot (aa (dv 0) (aa (dv 1) ah))) (aa (dv 2) ah))) (ax (dW (aa af (aa (jq af) ah))) (ng rfl T.wL (aa (gw zJ hZ (dv 2) af (aJ _)) ah)) (fun _ _ => rfl))))
    (aq (aE (ay (aa (iE (dv 0) (dv 3)) (aa (iE (dv 1) (dv 3)) (aa (iE (dv 2) (dv 3)) ah))))))), fun ds μ Qd h => AO h⟩)
theorem xt : aD ["_law_bag_here", "_law_some"] ["_law_bag_here"] (au fL) := ⟨rfl, rfl, rfl, by decide +kernel, rfl, by decide +kernel, by decide +kernel⟩
theorem xo (T : TX e) (aC : dw e) : qB e := by
  have S := xt
  exact T.A8.okD S (fun ds μ Q h => zf h) (fun cdv A outer s H E hr => ⟨lA, (ai (bX (aR (cq hr.units) bK (ao aC (hr.mono (by decide)) rfl T.aS T.aU T.aT (aa (dv 0) (aa af ah))) af (aJ _)) (aq (aE (ax (dW (aa af (aa af (aa af ah)))) (ao aC (hr.mono (by decide)) rfl T.aS T.aU T.aT (aa (dv 0) (aa af ah))) (fun _ _ => rfl)))) ba)
    (ai (qP (i := 1) (N' := ["_law_d"]) (cap := [none]) S.nd rfl rfl rfl (Hz rfl T.nH (aa af (aa af ah))) (fun _ _ _ => (aY (i := 0) (show List.Nodup (["_law_d"] : List Str) by decide +kernel) rfl (Or.inl rfl))) (fun _ _ _ => (qX (aR (D8 hr.units) Kw (dv 0) (dW (aa af (aa af (aa af (aa af ah))))) (by with_unfolding_all rfl)))) (fun _ _ _ => (dv 0)) rfl (by decide +kernel) rfl (by decide +kernel) (by intro _ _ h; first | exact h | exact cl1 h | exact cl2 (by decide +kernel) h | exact cl3 (by decide +kernel) h | exact aV (aF rfl bS) _ _ h | exact aV (aF rfl (aF rfl bS)) _ _ h | exact aV (aF rfl (aF rfl (aF rfl bS))) _ _ h | cases h) (hR rfl) rfl (mP trivial))
    (aq (aE (ax (dv 1) (ao aC (hr.mono (by decide)) rfl T.aS T.aU T.aT (aa (dv 0) (aa af ah))) (fun _ _ => rfl)))))), fun ds μ Qd h => xW h⟩)
theorem Ap : aD ["_law_bag_here", "_law_some"] ["_law_bag_here"] (au g8) := ⟨rfl, rfl, rfl, by decide +kernel, rfl, by decide +kernel, by decide +kernel⟩
theorem zy (T : TX e) (aC : dw e) : sZ e := by
  have S := Ap
  exact T.Ce.okD S (fun ds μ Q h => D4 h) (fun cdv A outer s H E hr => ⟨mC, (ai (aK (i := 1) S.nd rfl (Or.inl rfl) (dW (aa yu (aa qN (aa qN (aa aM (aa aM (aa (jq af) (aa af (aa af (aa (Bm af af) (aa (ay ah) (aa (dW ah) (aa (dW (aa af ah)) (aa (ay (aa af (aa af ah))) (aa (ay (aa af (aa af (aa af ah)))) (aa (ay (aa af (aa af (aa af ah)))) (aa (ay (aa af (aa qN (aa af ah)))) (aa (ay (aa af (aa af (aa (jq af) ah)))) (aa (dW (aa af (aa af (aa af ah)))) (aa (ay (aa af (aa af ah))) (aa aM ah))))))))))))))))))))))
    (aq (aE (ax (dv 1) (ao aC (hr.mono (by decide)) rfl T.aS T.aU T.aT (aa (dv 0) (aa af ah))) (fun _ _ => rfl))))), fun ds μ Qd h => Ak h⟩)
theorem xu : aD ["thing", "a", "b", "c"] ["thing"] (au fP) := ⟨rfl, rfl, rfl, by decide +kernel, rfl, by decide +kernel, by decide +kernel⟩
theorem yt (T : TX e) (ju : sX e) (cz : gg e) : qv e := by
  have S := xu
  exact T.AQ.okD S (fun ds μ Q h => Bw h) (fun cdv A outer s H E hr => ⟨lK, (ai (bX (DW.dt (Eu (mR (dU (BE (kit_tuple _) rfl T.ar rfl T.xQ PyProof.Rows.Boot.«tuple» (dv 0)))) (GC (aR (rM hr.units) bK (rF rfl T.xh (aa (dv 0) ah)) af (aJ _))))) (aq (aE qN)) ba)
    (ai (lQ (dv 0) (iI (n := 3) rfl (bj (aY (i := 1) S.nd rfl (Or.inl rfl)) (bj (aY (i := 2) S.nd rfl (Or.inl rfl)) (bj (aY (i := 3) S.nd rfl (Or.inl rfl)) fb)))))
    (ai (bX (DW.dt (Eu (mR (dU (ao ju (hr.mono (by decide)) rfl T.oM T.pj T.pD (aa (dv 1) ah)))) (Eu (mR (dU (ao ju (hr.mono (by decide)) rfl T.oM T.pj T.pD (aa (dv 2) ah)))) (GC (mR (dU (ao ju (hr.mono (by decide)) rfl T.oM T.pj T.pD (aa (dv 3) ah)))))))) (aq (aE qN)) ba)
    (aq (aE (yj (gw xc hZ (dv 3) af (aJ _)) (yT (gw (cq hr.units) bK (ao cz (hr.mono (by decide)) rfl T.kL T.kH T.kF (aa (dv 1) (aa (dv 2) (aa (dv 3) ah)))) af (aJ _))))))))), fun ds μ Qd h => ya h⟩)
theorem DR : aD ["a", "b", "c", "divisor"] ["a", "b", "c"] (au kz) := ⟨rfl, rfl, rfl, by decide +kernel, rfl, by decide +kernel, by decide +kernel⟩
theorem DP (T : TX e) (cz : gg e) : kS e := by
  have S := DR
  exact T.Gx.okD S (fun ds μ Q h => qa h) (fun cdv A outer s H E hr => ⟨rR, (ai (bX (aR (cq hr.units) bK (dv 2) af (aJ _)) (aq kI) ba)
    (ai (aK (i := 3) S.nd rfl (Or.inl rfl) (ao cz (hr.mono (by decide)) rfl T.kL T.kH T.kF (aa (dv 0) (aa (dv 1) (aa (dv 2) ah)))))
    (ai (bX (aR zJ hZ (dv 2) af (aJ _)) (aq (aK (i := 3) S.nd rfl (Or.inl rfl) (jq (dv 3)))) ba)
    (aq (aE (ay (aa (iE (dv 0) (dv 3)) (aa (iE (dv 1) (dv 3)) (aa (iE (dv 2) (dv 3)) ah))))))))), fun ds μ Qd h => Dv h⟩)
theorem vX : aD ["_law_d", "_law_x", "_law_y"] ["_law_d", "_law_x", "_law_y"] (au eu) := ⟨rfl, rfl, rfl, by decide +kernel, rfl, by decide +kernel, by decide +kernel⟩
theorem wA (T : TX e) (bG : fF e) : km e := by
  have S := vX
  exact T.xS.okD S (fun ds μ Q h => tu h) (fun cdv A outer s H E hr => ⟨oG, (aq (aE (ao bG (hr.mono (by decide)) rfl T.jf T.jB T.jm (aa (dg (aH (ax (dv 1) af (fun _ _ => rfl)) (ax (dv 2) af (fun _ _ => rfl))) (aH (aH (dv 0) (ax (dv 1) af (fun _ _ => rfl))) (ax (dv 2) af (fun _ _ => rfl)))) (aa (dg (aH (ax (dv 1) af (fun _ _ => rfl)) (ax (dv 2) af (fun _ _ => rfl))) (aH (ax (dv 1) af (fun _ _ => rfl)) (ax (dv 2) af (fun _ _ => rfl)))) (aa (aH (ax (dv 1) af (fun _ _ => rfl)) (ax (dv 2) af (fun _ _ => rfl))) ah)))))), fun ds μ Qd h => wx h⟩)
theorem sN : aD ["_law_d", "_law_x"] ["_law_d", "_law_x"] (au cL) := ⟨rfl, rfl, rfl, by decide +kernel, rfl, by decide +kernel, by decide +kernel⟩
theorem rK (T : TX e) (bG : fF e) : kB e := by
  have S := sN
  exact T.tV.okD S (fun ds μ Q h => mr h) (fun cdv A outer s H E hr => ⟨gX, (aq (aE (ao bG (hr.mono (by decide)) rfl T.jf T.jB T.jm (aa (aH (ax (dv 1) af (fun _ _ => rfl)) (ax (dv 1) af (fun _ _ => rfl))) (aa (d8 af (aH (ax (dv 1) af (fun _ _ => rfl)) (ax (dv 1) af (fun _ _ => rfl)))) (aa (d8 (aH (ax (dv 1) af (fun _ _ => rfl)) (ax (dv 1) af (fun _ _ => rfl))) (aH (aH (dv 0) (ax (dv 1) af (fun _ _ => rfl))) (ax (dv 1) af (fun _ _ => rfl)))) ah)))))), fun ds μ Qd h => rO h⟩)
theorem yO : aD ["_law_x", "_law_y"] ["_law_x", "_law_y"] (au fQ) := ⟨rfl, rfl, rfl, by decide +kernel, rfl, by decide +kernel, by decide +kernel⟩
theorem xq (T : TX e) (bG : fF e) : gv e := by
  have S := yO
  exact T.zp.okD S (fun ds μ Q h => uJ h) (fun cdv A outer s H E hr => ⟨qA, (aq (aE (ao bG (hr.mono (by decide)) rfl T.jf T.jB T.jm (aa (dg (aH (ax (dv 0) af (fun _ _ => rfl)) (ax (dv 1) af (fun _ _ => rfl))) (aH (ax (dv 1) af (fun _ _ => rfl)) (ax (dv 0) af (fun _ _ => rfl)))) (aa (dg (aH (ax (dv 0) af (fun _ _ => rfl)) (ax (dv 1) af (fun _ _ => rfl))) (aH (ax (dv 1) af (fun _ _ => rfl)) (ax (dv 0) af (fun _ _ => rfl)))) (aa (aH (ax (dv 0) af (fun _ _ => rfl)) (ax (dv 1) af (fun _ _ => rfl))) ah)))))), fun ds μ Qd h => yZ h⟩)
theorem uG : aD ["_law_bag_here", "_law_wide", "_law_a", "_law_b", "_law_c", "_law_way"] ["_law_bag_here"] (au dG) := ⟨rfl, rfl, rfl, by decide +kernel, rfl, by decide +kernel, by decide +kernel⟩
theorem vO (T : TX e) (aC : dw e) (bG : fF e) : mz e := by
  have S := uG
  exact T.wG.okD S (fun ds μ Q h => wu h) (fun cdv A outer s H E hr => ⟨jr, (ai (aK (i := 1) S.nd rfl (Or.inl rfl) (ax (dW (aa af (aa af (aa af (aa af ah))))) (ao aC (hr.mono (by decide)) rfl T.aS T.aU T.aT (aa (dv 0) (aa af ah))) (fun _ _ => rfl)))
    (ai (iC (i := 2) (j := 3) rfl S.nd rfl rfl (by decide) rfl rfl (aa (d8 (ao aC (hr.mono (by decide)) rfl T.aS T.aU T.aT (aa (dv 0) (aa (dv 1) ah))) (iE (dv 1) af)) (aa (d8 (ao aC (hr.mono (by decide)) rfl T.aS T.aU T.aT (aa (dv 0) (aa (dv 1) ah))) (iE (dv 1) af)) ah)) rfl)
    (ai (aK (i := 4) S.nd rfl (Or.inl rfl) (dg af (ao aC (hr.mono (by decide)) rfl T.aS T.aU T.aT (aa (dv 0) (aa (d8 (dv 1) af) ah)))))
    (ai (aK (i := 5) S.nd rfl (Or.inl rfl) (ao aC (hr.mono (by decide)) rfl T.aS T.aU T.aT (aa (dv 0) (aa af ah))))
    (aq (aE (ao bG (hr.mono (by decide)) rfl T.jf T.jB T.jm (aa (ax (dW (aa (dv 2) (aa (dv 2) (aa (dv 2) (aa (dv 2) (aa (dv 2) (aa (dv 2) (aa (dv 2) (aa af ah))))))))) (dv 5) (fun _ _ => rfl)) (aa (ax (dW (aa (dv 3) (aa (dv 3) (aa (dv 3) (aa (dv 3) (aa (dv 3) (aa af (aa af (aa (dv 3) ah))))))))) (dv 5) (fun _ _ => rfl)) (aa (ax (dW (aa (dv 4) (aa (dv 4) (aa af (aa (dv 4) (aa af (aa (dv 4) (aa af (aa (dv 4) ah))))))))) (dv 5) (fun _ _ => rfl)) ah)))))))))), fun ds μ Qd h => uz h⟩)
theorem GU : aD ["x", "y"] ["x", "y"] (au rT) := ⟨rfl, rfl, rfl, by decide +kernel, rfl, by decide +kernel, by decide +kernel⟩
theorem p5 (T : TX e) (dE : kS e) : CI e := by
  have S := GU
  exact T.Ja.okD S (fun ds μ Q h => uJ h) (fun cdv A outer s H E hr => ⟨yd, (aq (aE (ao dE (hr.mono (by decide)) rfl T.ql T.qU T.qH (aa (dg (aH (ax (dv 0) af (fun _ _ => rfl)) (ax (dv 1) af (fun _ _ => rfl))) (aH (ax (dv 1) af (fun _ _ => rfl)) (ax (dv 0) af (fun _ _ => rfl)))) (aa (dg (aH (ax (dv 0) af (fun _ _ => rfl)) (ax (dv 1) af (fun _ _ => rfl))) (aH (ax (dv 1) af (fun _ _ => rfl)) (ax (dv 0) af (fun _ _ => rfl)))) (aa (aH (ax (dv 0) af (fun _ _ => rfl)) (ax (dv 1) af (fun _ _ => rfl))) ah)))))), fun ds μ Qd h => Co h⟩)
theorem HC : aD ["x", "y"] ["x", "y"] (au rp) := ⟨rfl, rfl, rfl, by decide +kernel, rfl, by decide +kernel, by decide +kernel⟩
theorem tZ (T : TX e) (dE : kS e) : CN e := by
  have S := HC
  exact T.Jl.okD S (fun ds μ Q h => vw h) (fun cdv A outer s H E hr => ⟨yp, (aq (aE (ao dE (hr.mono (by decide)) rfl T.ql T.qU T.qH (aa (d8 (aH (ax (dv 0) af (fun _ _ => rfl)) (ax (dv 1) af (fun _ _ => rfl))) (aH (ax (dv 1) af (fun _ _ => rfl)) (ax (dv 0) af (fun _ _ => rfl)))) (aa (d8 (aH (ax (dv 0) af (fun _ _ => rfl)) (ax (dv 1) af (fun _ _ => rfl))) (aH (ax (dv 1) af (fun _ _ => rfl)) (ax (dv 0) af (fun _ _ => rfl)))) (aa (aH (ax (dv 0) af (fun _ _ => rfl)) (ax (dv 1) af (fun _ _ => rfl))) ah)))))), fun ds μ Qd h => G2 h⟩)
theorem Fy : aD ["d", "x", "y"] ["d", "x", "y"] (au nJ) := ⟨rfl, rfl, rfl, by decide +kernel, rfl, by decide +kernel, by decide +kernel⟩
theorem eV (T : TX e) (dE : kS e) : zO e := by
  have S := Fy
  exact T.HP.okD S (fun ds μ Q h => tu h) (fun cdv A outer s H E hr => ⟨vQ, (aq (aE (ao dE (hr.mono (by decide)) rfl T.ql T.qU T.qH (aa (dg (aH (ax (dv 1) af (fun _ _ => rfl)) (ax (dv 2) af (fun _ _ => rfl))) (aH (aH (dv 0) (ax (dv 1) af (fun _ _ => rfl))) (ax (dv 2) af (fun _ _ => rfl)))) (aa (dg (aH (ax (dv 1) af (fun _ _ => rfl)) (ax (dv 2) af (fun _ _ => rfl))) (aH (ax (dv 1) af (fun _ _ => rfl)) (ax (dv 2) af (fun _ _ => rfl)))) (aa (aH (ax (dv 1) af (fun _ _ => rfl)) (ax (dv 2) af (fun _ _ => rfl))) ah)))))), fun ds μ Qd h => zR h⟩)
theorem Ae : aD ["d", "x", "norm"] ["d", "x"] (au ic) := ⟨rfl, rfl, rfl, by decide +kernel, rfl, by decide +kernel, by decide +kernel⟩
theorem du (T : TX e) (dE : kS e) : tm e := by
  have S := Ae
  exact T.Bt.okD S (fun ds μ Q h => mr h) (fun cdv A outer s H E hr => ⟨nB, (ai (aK (i := 2) S.nd rfl (Or.inl rfl) (d8 (aH (ax (dv 1) af (fun _ _ => rfl)) (ax (dv 1) af (fun _ _ => rfl))) (aH (aH (dv 0) (ax (dv 1) af (fun _ _ => rfl))) (ax (dv 1) af (fun _ _ => rfl)))))
    (aq (aE (ao dE (hr.mono (by decide)) rfl T.ql T.qU T.qH (aa (aH (ax (dv 1) af (fun _ _ => rfl)) (ax (dv 1) af (fun _ _ => rfl))) (aa (aH (jq (ax (dv 1) af (fun _ _ => rfl))) (ax (dv 1) af (fun _ _ => rfl))) (aa (dv 2) ah))))))), fun ds μ Qd h => zT h⟩)
theorem oP : aD ["d", "thing"] ["d", "thing"] (au bZ) := ⟨rfl, rfl, rfl, by decide +kernel, rfl, by decide +kernel, by decide +kernel⟩
theorem oU (T : TX e) (mB : qv e) (sx : u6 e) : fw e := by
  have S := oP
  exact T.qL.okD S (fun ds μ Q h => yo h) (fun cdv A outer s H E hr => ⟨fi, (aq (aE (yj (ao mB (hr.mono (by decide)) rfl T.A7 T.AY T.A0 (aa (dv 1) ah)) (yT (gw (cq hr.units) bK (ao sx (hr.mono (by decide)) rfl T.D1 T.Dt T.Ds (aa (dv 0) (aa (dv 1) ah))) af (aJ _)))))), fun ds μ Qd h => o5 h⟩)
theorem x9 : aD ["_law_d", "_law_x", "_law_y"] ["_law_d", "_law_x", "_law_y"] (au fH) := ⟨rfl, rfl, rfl, by decide +kernel, rfl, by decide +kernel, by decide +kernel⟩
theorem yq (T : TX e) (eJ : km e) (iL : kB e) : qV e := by
  have S := x9
  exact T.zN.okD S (fun ds μ Q h => vo h) (fun cdv A outer s H E hr => ⟨lE, (aq (aE (ao eJ (hr.mono (by decide)) rfl T.qm T.qK T.rm (aa (dv 0) (aa (dv 1) (aa (ao iL (hr.mono (by decide)) rfl T.tR T.tF T.tK (aa (dv 0) (aa (dv 2) ah))) ah)))))), fun ds μ Qd h => yL h⟩)
theorem yD : aD ["_law_x", "_law_y"] ["_law_x", "_law_y"] (au fG) := ⟨rfl, rfl, rfl, by decide +kernel, rfl, by decide +kernel, by decide +kernel⟩
theorem yy (T : TX e) (bH : gv e) (bF : eS e) : qS e := by
  have S := yD
  exact T.zZ.okD S (fun ds μ Q h => vw h) (fun cdv A outer s H E hr => ⟨lS, (aq (aE (ao bH (hr.mono (by decide)) rfl T.iz T.iy T.iw (aa (dv 0) (aa (ao bF (hr.mono (by decide)) rfl T.iR T.iS T.iT (aa (dv 1) ah)) ah))))), fun ds μ Qd h => xm h⟩)
theorem v7 : aD ["_law_d", "_law_x", "_law_y"] ["_law_d", "_law_x", "_law_y"] (au eB) := ⟨rfl, rfl, rfl, by decide +kernel, rfl, by decide +kernel, by decide +kernel⟩
theorem wB (T : TX e) (fE : kZ e) (bH : gv e) (bF : eS e) : oi e := by
  have S := v7
  exact T.yU.okD S (fun ds μ Q h => Am h) (fun cdv A outer s H E hr => ⟨kb, (aq (aE (gw jI hZ (ao fE (hr.mono (by decide)) rfl T.tw T.tD T.sU (aa (dv 0) (aa (ao bH (hr.mono (by decide)) rfl T.iz T.iy T.iw (aa (dv 2) (aa (ao bF (hr.mono (by decide)) rfl T.iR T.iS T.iT (aa (dv 1) ah)) ah))) ah))) af (aJ _)))), fun ds μ Qd h => wF h⟩)
theorem vR : aD ["_law_bag_here", "_law_d", "_law_x", "_law_sign_here"] ["_law_bag_here", "_law_d"] (au ez) := ⟨rfl, rfl, rfl, by decide +kernel, rfl, by decide +kernel, by decide +kernel⟩
theorem wt (T : TX e) (kh : mz e) (fE : kZ e) (aC : dw e) (bF : eS e) : j4 e := by
  have S := vR
  exact T.xy.okD S (fun ds μ Q h => yS h) (fun cdv A outer s H E hr => ⟨j6, (ai (aK (i := 2) S.nd rfl (Or.inl rfl) (ao kh (hr.mono (by decide)) rfl T.wD T.wg T.v5 (aa (dv 0) ah)))
    (ai (aK (i := 3) S.nd rfl (Or.inl rfl) (ao fE (hr.mono (by decide)) rfl T.tw T.tD T.sU (aa (dv 1) (aa (dv 2) ah))))
    (ai (bX (aR (cq hr.units) bK (dv 3) af (aJ _)) (aq (aE (ay (aa (dg af (ao aC (hr.mono (by decide)) rfl T.aS T.aU T.aT (aa (dv 0) (aa af ah)))) (aa af (aa af ah)))))) ba)
    (aq (aE (sS (aR jI hZ (dv 3) af (aJ _)) (dv 2) (ao bF (hr.mono (by decide)) rfl T.iR T.iS T.iT (aa (dv 2) ah)))))))), fun ds μ Qd h => vS h⟩)
theorem HU : aD ["d", "x", "y"] ["d", "x", "y"] (au sF) := ⟨rfl, rfl, rfl, by decide +kernel, rfl, by decide +kernel, by decide +kernel⟩
theorem HF (T : TX e) (ye : zO e) (pq : tm e) : C7 e := by
  have S := HU
  exact T.Kt.okD S (fun ds μ Q h => vo h) (fun cdv A outer s H E hr => ⟨yk, (ai (bX (aR (cq hr.units) bK (dv 2) (kP rfl T.nr) (aJ _)) (aq kI) ba)
    (aq (aE (ao ye (hr.mono (by decide)) rfl T.GX T.G7 T.Hj (aa (dv 0) (aa (dv 1) (aa (ao pq (hr.mono (by decide)) rfl T.BO T.BU T.Cd (aa (dv 0) (aa (dv 2) ah))) ah))))))), fun ds μ Qd h => He h⟩)
theorem fJ : aD ["d", "thing"] ["d", "thing"] (au bA) := ⟨rfl, rfl, rfl, by decide +kernel, rfl, by decide +kernel, by decide +kernel⟩
theorem fU (T : TX e) (cb : fw e) : cG e := by
  have S := fJ
  exact T.gz.okX S (fun ds μ Xk h => vP h) (fun cdv A outer s H E hr => ⟨bJ, (gA (Et (mR (dU (ao cb (hr.mono (by decide)) rfl T.jY T.jN T.jE (aa (dv 0) (aa (dv 1) ah))))) (gA (vD nM rfl T.lh T.pF)) se)), fun ds μ Xk h => fT h⟩)
theorem kD (T : TX e) (cb : fw e) : cZ e := by
  have S := fJ
  exact T.gz.okD S (fun ds μ Q h => tH h) (fun cdv A outer s H E hr => ⟨dq, (aq (bX (mR (dU (ao cb (hr.mono (by decide)) rfl T.jY T.jN T.jE (aa (dv 0) (aa (dv 1) ah))))) (aq kI) ba)), fun ds μ Qd h => kY h⟩)
theorem oI : aD ["d", "width", "height", "counts", "x", "y", "beside", "tiles", "many", "side", "square"] ["d", "width", "height", "counts"] (au cj) := ⟨rfl, rfl, rfl, by decide +kernel, rfl, by decide +kernel, by decide +kernel⟩
theorem pB (T : TX e) (oW : sR e) (yC : CI e) (xA : CN e) : jg e := by
  have S := oI
  exact xM (T.qu.okD S (fun ds μ Q h => vU h) (fun cdv A outer s H E hr => ⟨fq, (ai (aK (i := 4) S.nd rfl (Or.inl rfl) (kP rfl T.nr))
    (ai (aK (i := 5) S.nd rfl (Or.inl rfl) (kP rfl T.nr))
    (ai (aK (i := 6) S.nd rfl (Or.inl rfl) (xR (ao oW (hr.mono (by decide)) rfl T.Bv T.BS T.Bi (aa (dv 0) (aa (dv 2) (aa (dv 1) ah))))))
    (ai (aK (i := 7) S.nd rfl (Or.inl rfl) (qc ah))
    (ai (pf PassesOwn.never rfl (nW (dv 3)) (aY (i := 8) S.nd rfl (Or.inl rfl)) (ai (aK (i := 9) S.nd rfl (Or.inl rfl) (sS (dU (dv 6)) (dv 2) (dv 1)))
    (ai (pf PassesOwn.never rfl (qR rfl T.nH (aa (dv 8) ah)) (aY (i := 10) S.nd rfl (Or.inl rfl)) (ai (lG (nF (dv 7) (ay (aa (dv 4) (aa (dv 5) (aa (dv 9) (aa (dv 9) ah)))))))
    (aq (bX (dU (dv 6)) (ai (aK (i := 4) S.nd rfl (Or.inl rfl) (ao yC (hr.mono (by decide)) rfl T.EJ T.EF T.Eo (aa (dv 4) (aa (dv 9) ah))))
    (aq (aK (i := 1) S.nd rfl (Or.inl rfl) (ao xA (hr.mono (by decide)) rfl T.Ft T.Eh T.Fn (aa (dv 1) (aa (dv 9) ah)))))) (ai (aK (i := 5) S.nd rfl (Or.inl rfl) (ao yC (hr.mono (by decide)) rfl T.EJ T.EF T.Eo (aa (dv 5) (aa (dv 9) ah))))
    (aq (aK (i := 2) S.nd rfl (Or.inl rfl) (ao xA (hr.mono (by decide)) rfl T.Ft T.Eh T.Fn (aa (dv 2) (aa (dv 9) ah))))))))))
    (aq (aK (i := 6) S.nd rfl (Or.inl rfl) (xR (dv 6)))))))
    (aq (aE (dv 7)))))))), fun ds μ Qd h => pM h⟩)) (fun ds μ Qd h => nZ h)
theorem vy : aD ["_law_d", "_law_width", "_law_height", "_law_shape", "_law_found", "_law_high", "_law_wide", "_law_less_side", "_law_more_side"] ["_law_d", "_law_width", "_law_height"] (au dQ) := ⟨rfl, rfl, rfl, by decide +kernel, rfl, by decide +kernel, by decide +kernel⟩
theorem vg (T : TX e) (mV : qV e) : jt e := by
  have S := vy
  exact xM (T.vW.okD S (fun ds μ Q h => uZ h) (fun cdv A outer s H E hr => ⟨jx, (ai (aK (i := 3) S.nd rfl (Or.inl rfl) (ao mV (hr.mono (by decide)) rfl T.AM T.AA T.Ar (aa (dv 0) (aa (dv 2) (aa (dv 1) ah)))))
    (ai (bX (aR (rM hr.units) bK (ax (dv 3) af (fun _ _ => rfl)) af (aJ _)) (aq (aE yu)) ba)
    (ai (aK (i := 4) S.nd rfl (Or.inl rfl) (qc ah))
    (ai (iC (i := 5) (j := 6) rfl S.nd rfl rfl (by decide) rfl rfl (aa (ax (dv 3) af (fun _ _ => rfl)) (aa (ax (dv 3) af (fun _ _ => rfl)) ah)) rfl)
    (ai (q9 PassesOwn.never (aR jI hZ (aH (dv 5) (dv 6)) af (aJ _)) (ai (iC (i := 7) (j := 8) rfl S.nd rfl rfl (by decide) rfl rfl (aa (Cb rfl rfl T.Er (aa (dv 5) (aa (dv 6) ah))) (aa (Cg rfl rfl T.E5 (aa (dv 5) (aa (dv 6) ah))) ah)) rfl)
    (ai (lG (nF (dv 4) (iE (dv 8) (dv 7))))
    (aq (bX (aR xc hZ (dv 6) (dv 5) (aJ _)) (aq (aK (i := 6) S.nd rfl (Or.inl rfl) (d8 (dv 6) (aH (dv 7) (ax (dv 4) (jq af) (fun _ _ => rfl)))))) (aq (aK (i := 5) S.nd rfl (Or.inl rfl) (d8 (dv 5) (aH (dv 7) (ax (dv 4) (jq af) (fun _ _ => rfl)))))))))))
    (aq (aE (dv 4)))))))), fun ds μ Qd h => u7 h⟩)) (fun ds μ Qd h => tM h)
theorem n6 : aD ["_law_bag_here", "_law_d", "_law_way", "_law_width", "_law_p", "_law_q", "_law_turn"] ["_law_bag_here", "_law_d"] (au bV) := ⟨rfl, rfl, rfl, by decide +kernel, rfl, by decide +kernel, by decide +kernel⟩
theorem n8 (T : TX e) (aC : dw e) (dD : j4 e) (bH : gv e) (eJ : km e) (bG : fF e) : iP e := by
  have S := n6
  exact T.oN.okD S (fun ds μ Q h => AW h) (fun cdv A outer s H E hr => ⟨eO, (ai (aK (i := 2) S.nd rfl (Or.inl rfl) (ao aC (hr.mono (by decide)) rfl T.aS T.aU T.aT (aa (dv 0) (aa af ah))))
    (ai (aK (i := 3) S.nd rfl (Or.inl rfl) (ao dD (hr.mono (by decide)) rfl T.lj T.lW T.lU (aa (dv 0) (aa (dv 1) ah))))
    (ai (bX (aR (cq hr.units) bK (dv 2) af (aJ _)) (aq (aE (ay (aa (dv 3) (aa (ao dD (hr.mono (by decide)) rfl T.lj T.lW T.lU (aa (dv 0) (aa (dv 1) ah))) ah))))) ba)
    (ai (bX (aR (cq hr.units) bK (dv 2) af (aJ _)) (aq (aE (ay (aa (dv 3) (aa (ao bH (hr.mono (by decide)) rfl T.iz T.iy T.iw (aa (dv 3) (aa (ay (aa af (aa af (aa (dg af (ao aC (hr.mono (by decide)) rfl T.aS T.aU T.aT (aa (dv 0) (aa af ah)))) ah)))) ah))) ah))))) ba)
    (ai (iC (i := 4) (j := 5) rfl S.nd rfl rfl (by decide) rfl rfl (aa (dg af (ao aC (hr.mono (by decide)) rfl T.aS T.aU T.aT (aa (dv 0) (aa af ah)))) (aa (dg af (ao aC (hr.mono (by decide)) rfl T.aS T.aU T.aT (aa (dv 0) (aa af ah)))) ah)) rfl)
    (ai (bX (aR (cq hr.units) bK (dv 2) af (aJ _)) (aq (iC (i := 4) (j := 5) rfl S.nd rfl rfl (by decide) rfl rfl (aa (dg af (ao aC (hr.mono (by decide)) rfl T.aS T.aU T.aT (aa (dv 0) (aa af ah)))) (aa (dg af (ao aC (hr.mono (by decide)) rfl T.aS T.aU T.aT (aa (dv 0) (aa af ah)))) ah)) rfl)) ba)
    (ai (bX (aR (cq hr.units) bK (dv 2) af (aJ _)) (ai (lQ (ay (aa af (aa af ah))) (iI (n := 2) rfl (bj (aY (i := 4) S.nd rfl (Or.inl rfl)) (bj (aY (i := 5) S.nd rfl (Or.inl rfl)) fb))))
    (aq (pf PassesOwn.never rfl (qR rfl T.nH (aa (ao aC (hr.mono (by decide)) rfl T.aS T.aU T.aT (aa (dv 0) (aa af ah))) ah)) (aY (i := 6) S.nd rfl (Or.inl rfl)) (aq (iC (i := 4) (j := 5) rfl S.nd rfl rfl (by decide) rfl rfl (aa (dv 5) (aa (dg (dv 4) (dv 5)) ah)) rfl))))) ba)
    (ai (bX (aR (cq hr.units) bK (dv 2) af (aJ _)) (aq (lQ (ax (dW (aa (ay (aa af (aa af ah))) (aa (ay (aa af (aa af ah))) (aa (ay (aa af (aa af ah))) (aa (ay (aa af (aa af ah))) (aa (ay (aa af (aa af ah))) (aa (ay (aa af (aa af ah))) ah))))))) (ao aC (hr.mono (by decide)) rfl T.aS T.aU T.aT (aa (dv 0) (aa af ah))) (fun _ _ => rfl)) (iI (n := 2) rfl (bj (aY (i := 4) S.nd rfl (Or.inl rfl)) (bj (aY (i := 5) S.nd rfl (Or.inl rfl)) fb))))) ba)
    (aq (aE (ay (aa (dv 3) (aa (ao eJ (hr.mono (by decide)) rfl T.qm T.qK T.rm (aa (dv 1) (aa (dv 3) (aa (ao bG (hr.mono (by decide)) rfl T.jf T.jB T.jm (aa (dv 4) (aa af (aa (dv 5) ah)))) ah)))) ah))))))))))))), fun ds μ Qd h => nX h⟩)
theorem rk : aD ["_law_bag_here", "_law_d", "_law_x", "_law_some"] ["_law_bag_here", "_law_d"] (au cA) := ⟨rfl, rfl, rfl, by decide +kernel, rfl, by decide +kernel, by decide +kernel⟩
theorem qd (T : TX e) (dD : j4 e) (pG : sZ e) (bF : eS e) (aC : dw e) : j3 e := by
  have S := rk
  exact T.rY.okD S (fun ds μ Q h => uF h) (fun cdv A outer s H E hr => ⟨gD, (ai (aK (i := 2) S.nd rfl (Or.inl rfl) (ao dD (hr.mono (by decide)) rfl T.lj T.lW T.lU (aa (dv 0) (aa (dv 1) ah))))
    (ai (aK (i := 3) S.nd rfl (Or.inl rfl) (dW (aa (ao pG (hr.mono (by decide)) rfl T.Cf T.BD T.B5 (aa (dv 0) ah)) (aa (ao bF (hr.mono (by decide)) rfl T.iR T.iS T.iT (aa (dv 2) ah)) (aa (ay (aa af (aa af (aa af ah)))) (aa (ay (aa (aH (ax (dv 2) af (fun _ _ => rfl)) af) (aa (aH (ax (dv 2) af (fun _ _ => rfl)) af) (aa (aH (ax (dv 2) af (fun _ _ => rfl)) af) ah)))) (aa (ay (aa (ax (dv 2) af (fun _ _ => rfl)) (aa (ax (dv 2) af (fun _ _ => rfl)) (aa (d8 af (ax (dv 2) af (fun _ _ => rfl))) ah)))) (aa (HJ rfl T.JF (aa (dv 2) ah)) (aa (Be (dv 2) Cp (Cm af)) (aa (CA (dv 2) (ay (aa af ah))) (aa (ay (aa (ax (dv 2) af (fun _ _ => rfl)) (aa yu (aa (ax (dv 2) af (fun _ _ => rfl)) ah)))) (aa (ay (aa qN (aa af (aa af ah)))) (aa (ay (aa af (aa af (aa qN ah)))) (aa (ay (aa (dv 2) ah)) ah))))))))))))))
    (aq (aE (ax (dv 3) (ao aC (hr.mono (by decide)) rfl T.aS T.aU T.aT (aa (dv 0) (aa af ah))) (fun _ _ => rfl)))))), fun ds μ Qd h => qQ h⟩)
theorem oq : aD ["d", "width", "height", "shape"] ["d", "width", "height"] (au eI) := ⟨rfl, rfl, rfl, by decide +kernel, rfl, by decide +kernel, by decide +kernel⟩
theorem kQ (T : TX e) (br : cG e) (bc : cZ e) : cY e := by
  have S := oq
  exact T.qf.okX S (fun ds μ Xk h => tj h) (fun cdv A outer s H E hr => ⟨cU, (Ji (gA (CC (ig br (hr.mono (by decide)) rfl T.bP T.bQ T.bR nM (aa (dv 0) (aa (dv 1) ah)))))
    (pU (lG (ao bc (hr.mono (by decide)) rfl T.bP T.bQ T.bR (aa (dv 0) (aa (dv 1) ah))))
    (gA (CC (ig br (hr.mono (by decide)) rfl T.bP T.bQ T.bR nM (aa (dv 0) (aa (dv 2) ah))))))), fun ds μ Xk h => kU h⟩)
theorem vZ (T : TX e) (bc : cZ e) (By : C7 e) (gk : i7 e) (mL : pP e) : ik e := by
  have S := oq
  exact T.qf.okD S (fun ds μ Q h => BY h) (fun cdv A outer s H E hr => ⟨kg, (ai (lG (ao bc (hr.mono (by decide)) rfl T.bP T.bQ T.bR (aa (dv 0) (aa (dv 1) ah))))
    (ai (lG (ao bc (hr.mono (by decide)) rfl T.bP T.bQ T.bR (aa (dv 0) (aa (dv 2) ah))))
    (ai (aK (i := 3) S.nd rfl (Or.inl rfl) (ao By (hr.mono (by decide)) rfl T.JH T.Js T.Jm (aa (dv 0) (aa (dv 2) (aa (dv 1) ah)))))
    (ai (bX (aR (rM hr.units) bK (ax (dv 3) af (fun _ _ => rfl)) af (aJ _)) (aq (aE (ay (aa aM (aa (ao gk (hr.mono (by decide)) rfl T.qO T.qY T.pZ (aa (dv 3) ah)) ah))))) ba)
    (aq (aE (ay (aa aM (aa (ao mL (hr.mono (by decide)) rfl T.Aw T.AZ T.Ax (aa (dv 3) ah)) ah))))))))), fun ds μ Qd h => wq h⟩)
theorem tN : aD ["_law_d", "_law_width", "_law_height", "_law_left", "_law_low_here", "_law_found", "_law_count", "_law_wide", "_law_high", "_law_is_wide", "_law_side", "_law_turn"] ["_law_d", "_law_width", "_law_height"] (au da) := ⟨rfl, rfl, rfl, by decide +kernel, rfl, by decide +kernel, by decide +kernel⟩
theorem tI (T : TX e) (dS : jt e) (jQ : qS e) (lT : oi e) (bH : gv e) : mf e := by
  have S := tN
  exact xM (T.vp.okD S (fun ds μ Q h => tW h) (fun cdv A outer s H E hr => ⟨iH, (ai (lQ (ay (aa (ay (aa af (aa af (aa af ah)))) (aa (ay (aa af (aa af (aa af ah)))) ah))) (iI (n := 2) rfl (bj (aY (i := 3) S.nd rfl (Or.inl rfl)) (bj (aY (i := 4) S.nd rfl (Or.inl rfl)) fb))))
    (ai (aK (i := 5) S.nd rfl (Or.inl rfl) (qc ah))
    (ai (pf PassesOwn.never rfl (nW (ao dS (hr.mono (by decide)) rfl T.oo T.oE T.oB (aa (dv 0) (aa (dv 1) (aa (dv 2) ah))))) (aY (i := 6) S.nd rfl (Or.inl rfl)) (ai (iC (i := 7) (j := 8) rfl S.nd rfl rfl (by decide) rfl rfl (aa (ao jQ (hr.mono (by decide)) rfl T.sY T.sP T.sW (aa (dv 1) (aa (dv 3) ah))) (aa (ao jQ (hr.mono (by decide)) rfl T.sY T.sP T.sW (aa (dv 2) (aa (dv 4) ah))) ah)) rfl)
    (ai (aK (i := 9) S.nd rfl (Or.inl rfl) (xR (ao lT (hr.mono (by decide)) rfl T.xI T.yB T.xU (aa (dv 0) (aa (dv 7) (aa (dv 8) ah))))))
    (ai (aK (i := 10) S.nd rfl (Or.inl rfl) (sS (dU (dv 9)) (dv 8) (dv 7)))
    (aq (pf PassesOwn.never rfl (qR rfl T.nH (aa (dv 6) ah)) (aY (i := 11) S.nd rfl (Or.inl rfl)) (ai (lG (nF (dv 5) (ay (aa (dv 3) (aa (dv 4) (aa (dv 10) (aa (dv 10) ah)))))))
    (aq (bX (dU (dv 9)) (aq (aK (i := 3) S.nd rfl (Or.inl rfl) (ao bH (hr.mono (by decide)) rfl T.iz T.iy T.iw (aa (dv 3) (aa (dv 10) ah))))) (aq (aK (i := 4) S.nd rfl (Or.inl rfl) (ao bH (hr.mono (by decide)) rfl T.iz T.iy T.iw (aa (dv 4) (aa (dv 10) ah))))))))))))))
    (aq (aE (zQ rfl T.xQ (aa (dv 5) ah))))))), fun ds μ Qd h => tX h⟩)) (fun ds μ Qd h => sL h)
theorem fe : aD ["d", "width", "height", "word", "counts"] ["d", "width", "height"] (au dm) := ⟨rfl, rfl, rfl, by decide +kernel, rfl, by decide +kernel, by decide +kernel⟩
theorem jC (T : TX e) (bb : cY e) : eL e := by
  have S := fe
  exact T.gC.okX S (fun ds μ Xk h => tj h) (fun cdv A outer s H E hr => ⟨cI, (gA (Kx (ig bb (hr.mono (by decide)) rfl T.eE T.el T.ej nM (aa (dv 0) (aa (dv 1) (aa (dv 2) ah)))) (iI (n := 2) rfl (bj (aY (i := 3) S.nd rfl (Or.inl rfl)) (bj (aY (i := 4) S.nd rfl (Or.inl rfl)) fb))))), fun ds μ Xk h => jD h⟩)
theorem lD (T : TX e) (ck : ik e) : fV e := by
  have S := fe
  exact T.gC.okX S (fun ds μ Xk h => Ai h) (fun cdv A outer s H E hr => ⟨dA, (pU (lQ (ao ck (hr.mono (by decide)) rfl T.eE T.el T.ej (aa (dv 0) (aa (dv 1) (aa (dv 2) ah)))) (iI (n := 2) rfl (bj (aY (i := 3) S.nd rfl (Or.inl rfl)) (bj (aY (i := 4) S.nd rfl (Or.inl rfl)) fb))))
    (gA (Et (aR (cq hr.units) bK (dv 3) aM (aJ _)) (gA (vD nM rfl T.uq T.xp)) se))), fun ds μ Xk h => lY h⟩)
theorem kj (T : TX e) (ck : ik e) : eW e := by
  have S := fe
  exact T.gC.okX S (fun ds μ Xk h => AG h) (fun cdv A outer s H E hr => ⟨cR, (pU (lQ (ao ck (hr.mono (by decide)) rfl T.eE T.el T.ej (aa (dv 0) (aa (dv 1) (aa (dv 2) ah)))) (iI (n := 2) rfl (bj (aY (i := 3) S.nd rfl (Or.inl rfl)) (bj (aY (i := 4) S.nd rfl (Or.inl rfl)) fb))))
    (pU (bX (aR (cq hr.units) bK (dv 3) aM (aJ _)) (aq kI) ba)
    (gA (Et (aR jI hZ (Br rfl rfl T.Gf (aa (dv 4) ah)) (xk (u := .int 60) rfl T.pY ⟨_, rfl⟩ (fun _ _ _ => Rp.int 60)) (aJ _)) (gA (vD nM rfl T.nU T.sy)) se)))), fun ds μ Xk h => j5 h⟩)
theorem tO (T : TX e) (ck : ik e) (gE : jg e) : me e := by
  have S := fe
  exact T.gC.okD S (fun ds μ Q h => xl h) (fun cdv A outer s H E hr => ⟨iN, (ai (lQ (ao ck (hr.mono (by decide)) rfl T.eE T.el T.ej (aa (dv 0) (aa (dv 1) (aa (dv 2) ah)))) (iI (n := 2) rfl (bj (aY (i := 3) S.nd rfl (Or.inl rfl)) (bj (aY (i := 4) S.nd rfl (Or.inl rfl)) fb))))
    (ai (bX (aR (cq hr.units) bK (dv 3) aM (aJ _)) (aq kI) ba)
    (ai (bX (aR jI hZ (Br rfl rfl T.Gf (aa (dv 4) ah)) (xk (u := .int 60) rfl T.pY ⟨_, rfl⟩ (fun _ _ _ => Rp.int 60)) (aJ _)) (aq kI) ba)
    (aq (aE (ay (aa (dv 1) (aa (dv 2) (aa (zQ rfl T.xQ (aa (ao gE (hr.mono (by decide)) rfl T.qD T.qI T.qG (aa (dv 0) (aa (dv 1) (aa (dv 2) (aa (dv 4) ah))))) ah)) ah))))))))), fun ds μ Qd h => tJ h⟩)
theorem cM : aD ["_law_deed", "e", "_law_some", "_law_names"] ["_law_deed"] (au dh) := ⟨rfl, rfl, rfl, by decide +kernel, rfl, by decide +kernel, by decide +kernel⟩
theorem ym (T : TX e) : qM e := by
  have S := cM
  exact BX (k := 7) T.jz cM rfl rfl rfl rfl T.lP T.pL (by decide) (by decide) (by decide) (fun _ => rfl) (fun cdv A outer s H ea oe hc hr => (ai (aK (i := 2) S.nd rfl (Or.inl rfl) (dW (aa (ay (aa aM (aa (bg (ea := ea) (oe := oe) T.bN (List.mem_cons_self) hc T.fY rfl T.ar rfl T.vE (dv 1)) ah))) (aa (ay (aa aM (aa (bg (ea := ea) (oe := oe) T.bN (List.mem_cons_self) hc T.eM rfl T.ar rfl T.lh (dv 1)) ah))) (aa (ay (aa aM (aa (bg (ea := ea) (oe := oe) T.bN (List.mem_cons_self) hc T.eQ rfl T.ar rfl T.oK (dv 1)) ah))) (aa (ay (aa aM (aa (bg (ea := ea) (oe := oe) T.bN (List.mem_cons_self) hc T.gj rfl T.ar rfl T.vq (dv 1)) ah))) (aa (ay (aa aM (aa (bg (ea := ea) (oe := oe) T.bN (List.mem_cons_self) hc T.gY rfl T.ar rfl T.uq (dv 1)) ah))) (aa (ay (aa aM (aa (bg (ea := ea) (oe := oe) T.bN (List.mem_cons_self) hc T.fD rfl T.ar rfl T.rW (dv 1)) ah))) (aa (ay (aa aM (aa (bg (ea := ea) (oe := oe) T.bN (List.mem_cons_self) hc T.gH rfl T.ar rfl T.vh (dv 1)) ah))) (aa (ay (aa aM (aa (bg (ea := ea) (oe := oe) T.bN (List.mem_cons_self) hc T.fW rfl T.ar rfl T.vf (dv 1)) ah))) (aa (ay (aa aM (aa (bg (ea := ea) (oe := oe) T.bN (List.mem_cons_self) hc T.g7 rfl T.ar rfl T.yx (dv 1)) ah))) (aa (ay (aa aM (aa (bg (ea := ea) (oe := oe) T.bN (List.mem_cons_self) hc T.fX rfl T.ar rfl T.vk (dv 1)) ah))) (aa (ay (aa aM (aa (bg (ea := ea) (oe := oe) T.bN (List.mem_cons_self) hc T.eP rfl T.ar rfl T.o4 (dv 1)) ah))) (aa (ay (aa aM (aa (bg (ea := ea) (oe := oe) T.bN (List.mem_cons_self) hc T.gF rfl T.ar rfl T.uY (dv 1)) ah))) (aa (ay (aa aM (aa (bg (ea := ea) (oe := oe) T.bN (List.mem_cons_self) hc T.fm rfl T.ar rfl T.nU (dv 1)) ah))) ah)))))))))))))))
    (ai (qP (i := 3) (N' := ["_law_name", "_law_is_so"]) (cap := [none, none]) S.nd rfl rfl rfl (nW (dv 2)) (fun _ _ _ => (iI (n := 2) rfl (bj (aY (i := 0) (show List.Nodup (["_law_name", "_law_is_so"] : List Str) by decide +kernel) rfl (Or.inl rfl)) (bj (aY (i := 1) (show List.Nodup (["_law_name", "_law_is_so"] : List Str) by decide +kernel) rfl (Or.inl rfl)) fb)))) (fun _ _ _ => (qX (dU (dv 1)))) (fun _ _ _ => (dv 0)) rfl (by decide +kernel) rfl (by decide +kernel) (by intro _ _ h; first | exact h | exact cl1 h | exact cl2 (by decide +kernel) h | exact cl3 (by decide +kernel) h | exact aV (aF rfl bS) _ _ h | exact aV (aF rfl (aF rfl bS)) _ _ h | exact aV (aF rfl (aF rfl (aF rfl bS))) _ _ h | cases h) (hR rfl) rfl (mP trivial))
    (ai (bX (DW.dt (rV (aR (cq hr.units) bK (rF rfl T.xh (aa (dv 3) ah)) af (aJ _)) (nG (dU (x8 (ea := ea) (oe := oe) (T := "ValueError") T.bN (List.mem_cons_self) hc T.k7 rfl T.ar rfl T.lO PyProof.Rows.Boot.«ValueError» (dv 1)))))) (aq (aE (ax (dv 3) af (fun _ _ => rfl)))) ba)
    (aq (aE aM)))))) (fun ea fa μ Qd h => ki h)
theorem Ef (T : TX e) : wR e := by
  have S := cM
  exact BX (k := 7) T.jz cM rfl rfl rfl rfl T.lP T.xC (by decide) (by decide) (by decide) (fun _ => rfl) (fun cdv A outer s H ea oe hc hr => (ai (aK (i := 2) S.nd rfl (Or.inl rfl) (dW (aa (ay (aa aM (aa (bg (ea := ea) (oe := oe) T.d5 (List.mem_cons_self) hc T.jA rfl T.ar rfl T.vE (dv 1)) ah))) (aa (ay (aa aM (aa (bg (ea := ea) (oe := oe) T.d5 (List.mem_cons_self) hc T.ie rfl T.ar rfl T.lh (dv 1)) ah))) (aa (ay (aa aM (aa (bg (ea := ea) (oe := oe) T.d5 (List.mem_cons_self) hc T.gQ rfl T.ar rfl T.oK (dv 1)) ah))) (aa (ay (aa aM (aa (bg (ea := ea) (oe := oe) T.d5 (List.mem_cons_self) hc T.jj rfl T.ar rfl T.vq (dv 1)) ah))) (aa (ay (aa aM (aa (bg (ea := ea) (oe := oe) T.d5 (List.mem_cons_self) hc T.kd rfl T.ar rfl T.uq (dv 1)) ah))) (aa (ay (aa aM (aa (bg (ea := ea) (oe := oe) T.d5 (List.mem_cons_self) hc T.iB rfl T.ar rfl T.rW (dv 1)) ah))) (aa (ay (aa aM (aa (bg (ea := ea) (oe := oe) T.d5 (List.mem_cons_self) hc T.jy rfl T.ar rfl T.vh (dv 1)) ah))) (aa (ay (aa aM (aa (bg (ea := ea) (oe := oe) T.d5 (List.mem_cons_self) hc T.jk rfl T.ar rfl T.vf (dv 1)) ah))) (aa (ay (aa aM (aa (bg (ea := ea) (oe := oe) T.d5 (List.mem_cons_self) hc T.j9 rfl T.ar rfl T.yx (dv 1)) ah))) (aa (ay (aa aM (aa (bg (ea := ea) (oe := oe) T.d5 (List.mem_cons_self) hc T.je rfl T.ar rfl T.vk (dv 1)) ah))) (aa (ay (aa aM (aa (bg (ea := ea) (oe := oe) T.d5 (List.mem_cons_self) hc T.gW rfl T.ar rfl T.o4 (dv 1)) ah))) (aa (ay (aa aM (aa (bg (ea := ea) (oe := oe) T.d5 (List.mem_cons_self) hc T.ji rfl T.ar rfl T.uY (dv 1)) ah))) (aa (ay (aa aM (aa (bg (ea := ea) (oe := oe) T.d5 (List.mem_cons_self) hc T.iJ rfl T.ar rfl T.nU (dv 1)) ah))) ah)))))))))))))))
    (ai (qP (i := 3) (N' := ["_law_name", "_law_is_so"]) (cap := [none, none]) S.nd rfl rfl rfl (nW (dv 2)) (fun _ _ _ => (iI (n := 2) rfl (bj (aY (i := 0) (show List.Nodup (["_law_name", "_law_is_so"] : List Str) by decide +kernel) rfl (Or.inl rfl)) (bj (aY (i := 1) (show List.Nodup (["_law_name", "_law_is_so"] : List Str) by decide +kernel) rfl (Or.inl rfl)) fb)))) (fun _ _ _ => (qX (dU (dv 1)))) (fun _ _ _ => (dv 0)) rfl (by decide +kernel) rfl (by decide +kernel) (by intro _ _ h; first | exact h | exact cl1 h | exact cl2 (by decide +kernel) h | exact cl3 (by decide +kernel) h | exact aV (aF rfl bS) _ _ h | exact aV (aF rfl (aF rfl bS)) _ _ h | exact aV (aF rfl (aF rfl (aF rfl bS))) _ _ h | cases h) (hR rfl) rfl (mP trivial))
    (ai (bX (DW.dt (rV (aR (cq hr.units) bK (rF rfl T.xh (aa (dv 3) ah)) af (aJ _)) (nG (dU (x8 (ea := ea) (oe := oe) (T := "ValueError") T.d5 (List.mem_cons_self) hc T.sr rfl T.ar rfl T.lO PyProof.Rows.Boot.«ValueError» (dv 1)))))) (aq (aE (ax (dv 3) af (fun _ _ => rfl)))) ba)
    (aq (aE aM)))))) (fun ea fa μ Qd h => mj h)
theorem Al (T : TX e) : sV e := by
  have S := cM
  exact BX (k := 7) T.jz cM rfl rfl rfl rfl T.lP T.sJ (by decide) (by decide) (by decide) (fun _ => rfl) (fun cdv A outer s H ea oe hc hr => (ai (aK (i := 2) S.nd rfl (Or.inl rfl) (dW (aa (ay (aa aM (aa (bg (ea := ea) (oe := oe) T.bY (List.mem_cons_self) hc T.ia rfl T.ar rfl T.vE (dv 1)) ah))) (aa (ay (aa aM (aa (bg (ea := ea) (oe := oe) T.bY (List.mem_cons_self) hc T.fv rfl T.ar rfl T.lh (dv 1)) ah))) (aa (ay (aa aM (aa (bg (ea := ea) (oe := oe) T.bY (List.mem_cons_self) hc T.fo rfl T.ar rfl T.oK (dv 1)) ah))) (aa (ay (aa aM (aa (bg (ea := ea) (oe := oe) T.bY (List.mem_cons_self) hc T.gM rfl T.ar rfl T.vq (dv 1)) ah))) (aa (ay (aa aM (aa (bg (ea := ea) (oe := oe) T.bY (List.mem_cons_self) hc T.iM rfl T.ar rfl T.uq (dv 1)) ah))) (aa (ay (aa aM (aa (bg (ea := ea) (oe := oe) T.bY (List.mem_cons_self) hc T.gb rfl T.ar rfl T.rW (dv 1)) ah))) (aa (ay (aa aM (aa (bg (ea := ea) (oe := oe) T.bY (List.mem_cons_self) hc T.g9 rfl T.ar rfl T.vh (dv 1)) ah))) (aa (ay (aa aM (aa (bg (ea := ea) (oe := oe) T.bY (List.mem_cons_self) hc T.gU rfl T.ar rfl T.vf (dv 1)) ah))) (aa (ay (aa aM (aa (bg (ea := ea) (oe := oe) T.bY (List.mem_cons_self) hc T.iF rfl T.ar rfl T.yx (dv 1)) ah))) (aa (ay (aa aM (aa (bg (ea := ea) (oe := oe) T.bY (List.mem_cons_self) hc T.hV rfl T.ar rfl T.vk (dv 1)) ah))) (aa (ay (aa aM (aa (bg (ea := ea) (oe := oe) T.bY (List.mem_cons_self) hc T.fz rfl T.ar rfl T.o4 (dv 1)) ah))) (aa (ay (aa aM (aa (bg (ea := ea) (oe := oe) T.bY (List.mem_cons_self) hc T.gS rfl T.ar rfl T.uY (dv 1)) ah))) (aa (ay (aa aM (aa (bg (ea := ea) (oe := oe) T.bY (List.mem_cons_self) hc T.fZ rfl T.ar rfl T.nU (dv 1)) ah))) ah)))))))))))))))
    (ai (qP (i := 3) (N' := ["_law_name", "_law_is_so"]) (cap := [none, none]) S.nd rfl rfl rfl (nW (dv 2)) (fun _ _ _ => (iI (n := 2) rfl (bj (aY (i := 0) (show List.Nodup (["_law_name", "_law_is_so"] : List Str) by decide +kernel) rfl (Or.inl rfl)) (bj (aY (i := 1) (show List.Nodup (["_law_name", "_law_is_so"] : List Str) by decide +kernel) rfl (Or.inl rfl)) fb)))) (fun _ _ _ => (qX (dU (dv 1)))) (fun _ _ _ => (dv 0)) rfl (by decide +kernel) rfl (by decide +kernel) (by intro _ _ h; first | exact h | exact cl1 h | exact cl2 (by decide +kernel) h | exact cl3 (by decide +kernel) h | exact aV (aF rfl bS) _ _ h | exact aV (aF rfl (aF rfl bS)) _ _ h | exact aV (aF rfl (aF rfl (aF rfl bS))) _ _ h | cases h) (hR rfl) rfl (mP trivial))
    (ai (bX (DW.dt (rV (aR (cq hr.units) bK (rF rfl T.xh (aa (dv 3) ah)) af (aJ _)) (nG (dU (x8 (ea := ea) (oe := oe) (T := "ValueError") T.bY (List.mem_cons_self) hc T.mD rfl T.ar rfl T.lO PyProof.Rows.Boot.«ValueError» (dv 1)))))) (aq (aE (ax (dv 3) af (fun _ _ => rfl)))) ba)
    (aq (aE aM)))))) (fun ea fa μ Qd h => kx h)
theorem tL : aD ["_law_d", "_law_width", "_law_height", "_law_counts_here"] ["_law_d", "_law_width", "_law_height"] (au cV) := ⟨rfl, rfl, rfl, by decide +kernel, rfl, by decide +kernel, by decide +kernel⟩
theorem tU (T : TX e) (dS : jt e) (uP : wR e) (dX : fV e) (pE : sV e) (dr : eW e) (ja : me e) (jl : mf e) : ma e := by
  have S := tL
  exact T.uX.LB S (fun ds μ Q h => yr h) (fun cdv hcv A outer s H E hr => ⟨iA, (ai (aK (i := 3) S.nd rfl (Or.inl rfl) (ao dS (hr.mono (by decide)) rfl T.oo T.oE T.oB (aa (dv 0) (aa (dv 1) (aa (dv 2) ah)))))
    (ai (bX (aR HL Jr (dv 3) yu (aJ _)) (aq (aE (gw (cq hr.units) bK (xa (N' := (["_law_d", "_law_width", "_law_height"] : List Str)) (cap := [some 0, some 1, some 2]) uP (hr.mono (by decide)) rfl T.jv T.jc T.jw T.mG (hcv.symm.trans T.l5) rfl (by decide) (fun A' outer' s' H' fa c1 E hrL => (ig dX (hrL.mono (by decide)) rfl T.df T.de T.cX lC (aa (dv 0) (aa (dv 1) (aa (dv 2) ah))))) rfl rfl (fun _ _ _ => rfl) rfl rfl rfl (by decide +kernel) (by intro _ _ h; first | exact h | exact cl1 h | exact cl2 (by decide +kernel) h | exact cl3 (by decide +kernel) h | exact aV (aF rfl bS) _ _ h | exact aV (aF rfl (aF rfl bS)) _ _ h | exact aV (aF rfl (aF rfl (aF rfl bS))) _ _ h | exact aV (aF rfl (aF rfl (aF rfl (aF rfl bS)))) _ _ h | cases h) (hR rfl) rfl (jP ⟨fN, ⟨fN, ⟨fN, trivial⟩⟩⟩)) aM (aJ _)))) ba)
    (ai (bX (aR jI hZ (Br rfl rfl T.Gf (aa (dv 3) ah)) af (aJ _)) (aq (aE (gw (cq hr.units) bK (xa (N' := (["_law_d", "_law_width", "_law_height"] : List Str)) (cap := [some 0, some 1, some 2]) pE (hr.mono (by decide)) rfl T.jv T.jc T.jw T.mG (hcv.symm.trans T.l5) rfl (by decide) (fun A' outer' s' H' fa c1 E hrL => (ig dr (hrL.mono (by decide)) rfl T.df T.de T.cX lC (aa (dv 0) (aa (dv 1) (aa (dv 2) ah))))) rfl rfl (fun _ _ _ => rfl) rfl rfl rfl (by decide +kernel) (by intro _ _ h; first | exact h | exact cl1 h | exact cl2 (by decide +kernel) h | exact cl3 (by decide +kernel) h | exact aV (aF rfl bS) _ _ h | exact aV (aF rfl (aF rfl bS)) _ _ h | exact aV (aF rfl (aF rfl (aF rfl bS))) _ _ h | exact aV (aF rfl (aF rfl (aF rfl (aF rfl bS)))) _ _ h | cases h) (hR rfl) rfl (jP ⟨fN, ⟨fN, ⟨fN, trivial⟩⟩⟩)) aM (aJ _)))) ba)
    (aq (aE (gw (cq hr.units) bK (ao ja (hr.mono (by decide)) rfl T.df T.de T.cX (aa (dv 0) (aa (dv 1) (aa (dv 2) ah)))) (ay (aa (dv 1) (aa (dv 2) (aa (ao jl (hr.mono (by decide)) rfl T.uS T.vH T.vL (aa (dv 0) (aa (dv 1) (aa (dv 2) ah)))) ah)))) (aJ _))))))), fun ds μ Qd h => tT h⟩)
theorem Ke : aD ["_law_script", "_law_k", "_law_bag_here", "_law_d", "_law_floors", "_law_width", "_law_height", "_law_bad", "_law_deeds"] ["_law_script"] (au oD) := ⟨rfl, rfl, rfl, by decide +kernel, rfl, by decide +kernel, by decide +kernel⟩
theorem IY (T : TX e) (pk : sQ e) (mU : qB e) (fh : iP e) (eg : ma e) (gL : j3 e) (d7 : qM e) (bb : cY e) (bD : eL e) : Gh e := by
  have S := Ke
  exact T.Ls.LB S (fun ds μ Q h => Dq h) (fun cdv hcv A outer s H E hr => ⟨BN _ _ _ _ _, (ai (pf PassesOwn.never rfl (qR rfl T.nH (aa (Cg rfl rfl T.E5 (aa af (aa (Cb rfl rfl T.Er (aa af (aa (rF rfl T.xh (aa (dv 0) ah)) ah))) ah))) ah)) (aY (i := 1) S.nd rfl (Or.inl rfl)) (ai (aK (i := 2) S.nd rfl (Or.inr rfl) (ao pk (hr.mono (by decide)) rfl T.BJ T.BL T.B2 (aa (dv 0) (aa (dv 1) ah))))
    (ai (aK (i := 3) S.nd rfl (Or.inr rfl) (ao mU (hr.mono (by decide)) rfl T.Ab T.zL T.Af (aa (dv 2) ah)))
    (ai (qP (i := 4) (N' := ["_law_turn", "_law_bag_here", "_law_d"]) (cap := [none, some 2, some 3]) S.nd rfl rfl rfl (qR rfl T.nH (aa af ah)) (fun _ _ _ => (aY (i := 0) (show List.Nodup (["_law_turn", "_law_bag_here", "_law_d"] : List Str) by decide +kernel) rfl (Or.inl rfl))) (fun _ _ _ => EO) (fun _ _ _ => (ao fh (hr.mono (by decide)) rfl T.o3 T.oH T.oQ (aa (dv 1) (aa (dv 2) ah)))) rfl (by decide +kernel) rfl (by decide +kernel) (by intro _ _ h; first | exact h | exact cl1 h | exact cl2 (by decide +kernel) h | exact cl3 (by decide +kernel) h | exact aV (aF rfl bS) _ _ h | exact aV (aF rfl (aF rfl bS)) _ _ h | exact aV (aF rfl (aF rfl (aF rfl bS))) _ _ h | cases h) (hR rfl) rfl (mP ⟨K0, ⟨K0, trivial⟩⟩))
    (aq (pf PassesOwn.never rfl (nW (CA (dv 4) (Be (dv 4) Cp (Cm af)))) (iI (n := 2) rfl (bj (aY (i := 5) S.nd rfl (Or.inr rfl)) (bj (aY (i := 6) S.nd rfl (Or.inr rfl)) fb))) (ai (bX (mR (dU (ao eg (hr.mono (by decide)) rfl T.jb T.js T.i9 (aa (dv 3) (aa (dv 5) (aa (dv 6) ah)))))) (aq (aE qN)) ba)
    (ai (aK (i := 7) S.nd rfl (Or.inr rfl) (ao gL (hr.mono (by decide)) rfl T.sI T.sk T.rJ (aa (dv 2) (aa (dv 3) ah))))
    (ai (aK (i := 8) S.nd rfl (Or.inl rfl) (HH (aa (u9 T.AH (hcv.symm.trans T.uT) rfl rfl rfl) (aa (u9 T.AH (hcv.symm.trans T.uT) rfl rfl rfl) (aa (u9 T.AH (hcv.symm.trans T.uT) rfl rfl rfl) (aa (u9 T.AH (hcv.symm.trans T.uT) rfl rfl rfl) (aa (u9 T.AH (hcv.symm.trans T.uT) rfl rfl rfl) ah)))))))
    (aq (bX (mR (dU (JD rfl rfl T.Lh (aa (Fj (N' := ["_law_deed"]) (gx := ".") (cap := [none]) rfl (dv 8) (fun _ _ _ => (aY (i := 0) (show List.Nodup (["_law_deed", "."] : List Str) by decide +kernel) rfl (Or.inl rfl))) (fun fp s₃ H₃ pins σ ρo μ₁ G I3 S3 hfp hG => (gw (cq hr.units) bK (Bx (gi := 1) (vi := 0) I3 hfp hG (kX (zl (N' := (["_law_d", "_law_bad", "_law_height"] : List Str)) (cap := [some 3, some 7, some 6]) d7 (fun A' outer' s' H' fa c1 E hrL => (ig bb (hrL.mono (by decide)) rfl T.eE T.el T.ej lC (aa (dv 0) (aa (dv 1) (aa (dv 2) ah))))) (fun _ _ _ => rfl) rfl rfl rfl (by decide +kernel) (by intro _ _ h; first | exact aV (aF rfl (aF rfl (aF rfl bS))) _ _ h | exact h | exact cl1 h | exact cl2 (by decide +kernel) h | exact cl3 (by decide +kernel) h | exact aV (aF rfl bS) _ _ h | exact aV (aF rfl (aF rfl bS)) _ _ h | exact aV (aF rfl (aF rfl (aF rfl bS))) _ _ h | exact aV (aF rfl (aF rfl (aF rfl (aF rfl bS)))) _ _ h | exact aV bS _ _ h | cases h) (hR rfl) rfl (jP ⟨fN, ⟨fN, ⟨fN, trivial⟩⟩⟩)) (kX (zl (N' := (["_law_d", "_law_width", "_law_bad"] : List Str)) (cap := [some 3, some 5, some 7]) d7 (fun A' outer' s' H' fa c1 E hrL => (ig bb (hrL.mono (by decide)) rfl T.eE T.el T.ej lC (aa (dv 0) (aa (dv 1) (aa (dv 2) ah))))) (fun _ _ _ => rfl) rfl rfl rfl (by decide +kernel) (by intro _ _ h; first | exact aV (aF rfl (aF rfl (aF rfl bS))) _ _ h | exact h | exact cl1 h | exact cl2 (by decide +kernel) h | exact cl3 (by decide +kernel) h | exact aV (aF rfl bS) _ _ h | exact aV (aF rfl (aF rfl bS)) _ _ h | exact aV (aF rfl (aF rfl (aF rfl bS))) _ _ h | exact aV (aF rfl (aF rfl (aF rfl (aF rfl bS)))) _ _ h | exact aV bS _ _ h | cases h) (hR rfl) rfl (jP ⟨fN, ⟨fN, ⟨fN, trivial⟩⟩⟩)) (kX (zl (N' := (["_law_d", "_law_bad", "_law_height"] : List Str)) (cap := [some 3, some 7, some 6]) d7 (fun A' outer' s' H' fa c1 E hrL => (ig bD (hrL.mono (by decide)) rfl T.df T.de T.cX lC (aa (dv 0) (aa (dv 1) (aa (dv 2) ah))))) (fun _ _ _ => rfl) rfl rfl rfl (by decide +kernel) (by intro _ _ h; first | exact aV (aF rfl (aF rfl (aF rfl bS))) _ _ h | exact h | exact cl1 h | exact cl2 (by decide +kernel) h | exact cl3 (by decide +kernel) h | exact aV (aF rfl bS) _ _ h | exact aV (aF rfl (aF rfl bS)) _ _ h | exact aV (aF rfl (aF rfl (aF rfl bS))) _ _ h | exact aV (aF rfl (aF rfl (aF rfl (aF rfl bS)))) _ _ h | exact aV bS _ _ h | cases h) (hR rfl) rfl (jP ⟨fN, ⟨fN, ⟨fN, trivial⟩⟩⟩)) (kX (zl (N' := (["_law_d", "_law_width", "_law_bad"] : List Str)) (cap := [some 3, some 5, some 7]) d7 (fun A' outer' s' H' fa c1 E hrL => (ig bD (hrL.mono (by decide)) rfl T.df T.de T.cX lC (aa (dv 0) (aa (dv 1) (aa (dv 2) ah))))) (fun _ _ _ => rfl) rfl rfl rfl (by decide +kernel) (by intro _ _ h; first | exact aV (aF rfl (aF rfl (aF rfl bS))) _ _ h | exact h | exact cl1 h | exact cl2 (by decide +kernel) h | exact cl3 (by decide +kernel) h | exact aV (aF rfl bS) _ _ h | exact aV (aF rfl (aF rfl bS)) _ _ h | exact aV (aF rfl (aF rfl (aF rfl bS))) _ _ h | exact aV (aF rfl (aF rfl (aF rfl (aF rfl bS)))) _ _ h | exact aV bS _ _ h | cases h) (hR rfl) rfl (jP ⟨fN, ⟨fN, ⟨fN, trivial⟩⟩⟩)) (kX (zl (N' := (["_law_d", "_law_bad"] : List Str)) (cap := [some 3, some 7]) d7 (fun A' outer' s' H' fa c1 E hrL => (ig bD (hrL.mono (by decide)) rfl T.df T.de T.cX lC (aa (dv 0) (aa (dv 1) (aa (dv 1) ah))))) (fun _ _ _ => rfl) rfl rfl rfl (by decide +kernel) (by intro _ _ h; first | exact aV (aF rfl (aF rfl bS)) _ _ h | exact h | exact cl1 h | exact cl2 (by decide +kernel) h | exact cl3 (by decide +kernel) h | exact aV (aF rfl bS) _ _ h | exact aV (aF rfl (aF rfl bS)) _ _ h | exact aV (aF rfl (aF rfl (aF rfl bS))) _ _ h | exact aV (aF rfl (aF rfl (aF rfl (aF rfl bS)))) _ _ h | exact aV bS _ _ h | cases h) (hR rfl) rfl (jP ⟨fN, ⟨fN, trivial⟩⟩)) Gd))))) (hr.mono (by decide)) (by decide) rfl T.jv T.jc T.jw rfl (Or.inl rfl)) aM (aJ _))) rfl (by decide +kernel) rfl (by decide +kernel) (by intro _ _ h; first | exact h | exact cl1 h | exact cl2 (by decide +kernel) h | exact cl3 (by decide +kernel) h | exact aV (aF rfl bS) _ _ h | exact aV (aF rfl (aF rfl bS)) _ _ h | exact aV (aF rfl (aF rfl (aF rfl bS))) _ _ h | exact aV (aF rfl (aF rfl (aF rfl (aF rfl bS)))) _ _ h | exact aV bS _ _ h | cases h) (hR rfl) rfl (mP trivial) rfl) ah)))) (aq (aE qN)) ba)))))))))))
    (aq (aE (yj (ao eg (hr.mono (by decide)) rfl T.jb T.js T.i9 (aa af (aa (ay (aa af (aa af (aa af ah)))) (aa (ay (aa af (aa af (aa af ah)))) ah)))) (yT (ao eg (hr.mono (by decide)) rfl T.jb T.js T.i9 (aa af (aa (ay (aa af (aa af (aa af ah)))) (aa (ay (aa af (aa af (aa af ah)))) ah))))))))), fun ds μ Qd h => Kh _ _ _ _ _ h⟩)
theorem KN (T : TX e) : Gh e := by
  have ju := zY T
  have eD := p4 T
  have cK := sH T
  have gk := pC T
  have mL := xB T
  have ir := vt T
  have bF := wk T
  have fE := yN T
  have pk := A3 T
  have aC := yP T
  have cz := pT T eD
  have sx := B3 T cK
  have oW := AN T cK
  have bG := Bc T ir
  have mU := xo T aC
  have pG := zy T aC
  have mB := yt T ju cz
  have dE := DP T cz
  have eJ := wA T bG
  have iL := rK T bG
  have bH := xq T bG
  have kh := vO T aC bG
  have yC := p5 T dE
  have xA := tZ T dE
  have ye := eV T dE
  have pq := du T dE
  have cb := oU T mB sx
  have mV := yq T eJ iL
  have jQ := yy T bH bF
  have lT := wB T fE bH bF
  have dD := wt T kh fE aC bF
  have By := HF T ye pq
  have br := fU T cb
  have bc := kD T cb
  have gE := pB T oW yC xA
  have dS := vg T mV
  have fh := n8 T aC dD bH eJ bG
  have gL := qd T dD pG bF aC
  have bb := kQ T br bc
  have ck := vZ T bc By gk mL
  have jl := tI T dS jQ lT bH
  have bD := jC T bb
  have dX := lD T ck
  have dr := kj T ck
  have ja := tO T ck gE
  have d7 := ym T
  have uP := Ef T
  have pE := Al T
  have eg := tU T dS uP dX pE dr ja jl
  exact IY T pk mU fh eg gL d7 bb bD
end
theorem all_mk {l : PySem.W.OpenLaw} {w : World} {K : PySem.W.Frag} {h : Heap} {mg : Str → Option Value} {fa : Addr} (X : K.In h) (G : h.Ns mainGlobals mg) (hfa : mg "law" = some (.ref fa))
    {f0 c0 f1 c1 f2 c2 f3 c3 f4 c4 f5 c5 f6 c6 f7 c7 f8 c8 f9 c9 f10 c10 f11 c11 f12 c12 f13 c13 f14 c14 f15 c15 f16 c16 f17 c17 f18 c18 f19 c19 f20 c20 f21 c21 f22 c22 f23 c23 f24 c24 f25 c25 f26 c26 f27 c27 f28 c28 f29 c29 f30 c30 f31 c31 f32 c32 f33 c33 f34 c34 f35 c35 f36 c36 f37 c37 f38 c38 f39 c39 f40 c40 f41 c41 f42 c42 : Addr} {t0 t1 t2 t3 t4 t5 t6 t7 t8 t9 t10 t11 t12 t13 t14 t15 t16 t17 t18 t19 t20 t21 t22 t23 t24 t25 t26 t27 t28 t29 t30 t31 t32 t33 t34 t35 t36 t37 t38 t39 t40 t41 t42 : Tok} {m0 m1 m2 m3 m4 m5 m6 m7 m8 m9 m10 m11 m12 m13 m14 m15 m16 m17 m18 m19 m20 m21 m22 m23 m24 m25 m26 m27 m28 m29 m30 m31 m32 m33 m34 m35 m36 m37 m38 m39 m40 m41 m42 : Str} {q0 : Tok} {g1 : Addr} {go1 : Option Addr} {q1a q1b q1c : Tok} {gn1 : Nat} {gs1 : Array (Option Value)} {g2 : Addr} {go2 : Option Addr} {q2a q2b q2c : Tok} {gn2 : Nat} {gs2 : Array (Option Value)} {bL : Addr} {dP : Addr} {ak : Addr} {cw : Addr} {dH : Addr} {az : Addr} {cQ : Addr} {dI : Addr} {dJ : Addr} {eU : Addr} {dR : Addr} {cu : Addr} {dM : Addr} {aw : Addr} {bm : Addr} {bsl : Array (Option Value)} {cO d6 : Addr} {rL A1 : Addr}
    (a0 : FQ K "is_whole" g0 f0 c0 t0 m0)
    (a1 : FQ K "common_divisor" cy f1 c1 t1 m1)
    (a2 : FQ K "is_number" fP f2 c2 t2 m2)
    (a3 : FQ K "divisor_of_all" cx f3 c3 t3 m3)
    (a4 : FQ K "number" kz f4 c4 t4 m4)
    (a5 : FQ K "plus" rT f5 c5 t5 m5)
    (a6 : FQ K "less" rp f6 c6 t6 m6)
    (a7 : FQ K "times" nJ f7 c7 t7 m7)
    (a8 : FQ K "over" sF f8 c8 t8 m8)
    (a9 : FQ K "contrary" ic f9 c9 t9 m9)
    (a10 : FQ K "sign_of" i4 f10 c10 t10 m10)
    (a11 : FQ K "sign_of_parts" cN f11 c11 t11 m11)
    (a12 : FQ K "is_above" gR f12 c12 t12 m12)
    (a13 : FQ K "is_above_nought" bZ f13 c13 t13 m13)
    (a14 : FQ K "must_be_above_nought" bA f14 c14 t14 m14)
    (a15 : FQ K "squares_of" eI f15 c15 t15 m15)
    (a16 : FQ K "bar_for_squares" cf f16 c16 t16 m16)
    (a17 : FQ K "counts_of" fI f17 c17 t17 m17)
    (a18 : FQ K "squares_laid" dm f18 c18 t18 m18)
    (a19 : FQ K "tiles_by_counts" cj f19 c19 t19 m19)
    (a20 : FQ K "_law_counts" dQ f20 c20 t20 m20)
    (a21 : FQ K "_law_over" fH f21 c21 t21 m21)
    (a22 : FQ K "_law_times" eu f22 c22 t22 m22)
    (a23 : FQ K "_law_low" gP f23 c23 t23 m23)
    (a24 : FQ K "_law_shared" dO f24 c24 t24 m24)
    (a25 : FQ K "_law_contrary" cL f25 c25 t25 m25)
    (a26 : FQ K "_law_less" fG f26 c26 t26 m26)
    (a27 : FQ K "_law_plus" fQ f27 c27 t27 m27)
    (a28 : FQ K "_law_minus" eC f28 c28 t28 m28)
    (a29 : FQ K "_law_below" eB f29 c29 t29 m29)
    (a30 : FQ K "_law_sign" fM f30 c30 t30 m30)
    (a31 : FQ K "_law_refusal" dh f31 c31 t31 m31)
    (a32 : FQ K "_law_bag" gN f32 c32 t32 m32)
    (a33 : FQ K "_law_root" fL f33 c33 t33 m33)
    (a34 : FQ K "_law_take" fR f34 c34 t34 m34)
    (a35 : FQ K "_law_floor_sides" bV f35 c35 t35 m35)
    (a36 : FQ K "_law_above" ez f36 c36 t36 m36)
    (a37 : FQ K "_law_number" dG f37 c37 t37 m37)
    (a38 : FQ K "_law_bad_above" cA f38 c38 t38 m38)
    (a39 : FQ K "_law_odd" g8 f39 c39 t39 m39)
    (a40 : FQ K "_law_squares" da f40 c40 t40 m40)
    (a41 : FQ K "_law_is_told" cV f41 c41 t41 m41)
    (a42 : FQ K "law" oD f42 c42 t42 m42)
    (z0 : PySem.W.nsIn K mainGlobals "isinstance" = some none)
    (z1 : PySem.W.nsIn K mainGlobals "int" = some none)
    (z2 : PySem.W.nsIn K mainGlobals "bool" = some none)
    (z3 : PySem.W.nsIn K mainGlobals "abs" = some none)
    (z4 : PySem.W.nsIn K mainGlobals "tuple" = some none)
    (z5 : PySem.W.nsIn K mainGlobals "len" = some none)
    (z6 : PySem.W.nsIn K mainGlobals "min" = some none)
    (z7 : PySem.W.nsIn K mainGlobals "max" = some none)
    (z8 : PySem.W.nsIn K mainGlobals "sum" = some none)
    (z9 : PySem.W.nsIn K mainGlobals "range" = some none)
    (z10 : PySem.W.nsIn K mainGlobals "ValueError" = some none)
    (z11 : PySem.W.nsIn K mainGlobals "list" = some none)
    (z12 : PySem.W.nsIn K mainGlobals "all" = some none)
    (v0 : PySem.W.nsIn K mainGlobals "MOST_TILES" = some (some (.int 60 q0)))
    (v1 : PySem.W.nsIn K mainGlobals "NOUGHT" = some (some (.ref g1))) (w1 : K.lookup g1 = some ⟨.type "tuple", go1, .seq #[.int 0 q1a, .int 0 q1b, .int 1 q1c] gn1, gs1⟩)
    (v2 : PySem.W.nsIn K mainGlobals "ONE" = some (some (.ref g2))) (w2 : K.lookup g2 = some ⟨.type "tuple", go2, .seq #[.int 1 q2a, .int 0 q2b, .int 1 q2c] gn2, gs2⟩)
    (y0 : PySem.W.nsIn K mainGlobals "FloorError" = some (some (.ref bL)))
    (y1 : PySem.W.nsIn K mainGlobals "NoRoot" = some (some (.ref dP)))
    (y2 : PySem.W.nsIn K mainGlobals "NoNumber" = some (some (.ref ak)))
    (y3 : PySem.W.nsIn K mainGlobals "NoLaying" = some (some (.ref cw)))
    (y4 : PySem.W.nsIn K mainGlobals "NoTile" = some (some (.ref dH)))
    (y5 : PySem.W.nsIn K mainGlobals "NoFit" = some (some (.ref az)))
    (y6 : PySem.W.nsIn K mainGlobals "NoKinds" = some (some (.ref cQ)))
    (y7 : PySem.W.nsIn K mainGlobals "NoPlan" = some (some (.ref dI)))
    (y8 : PySem.W.nsIn K mainGlobals "NoSpot" = some (some (.ref dJ)))
    (y9 : PySem.W.nsIn K mainGlobals "NoNet" = some (some (.ref eU)))
    (y10 : PySem.W.nsIn K mainGlobals "NoText" = some (some (.ref dR)))
    (y11 : PySem.W.nsIn K mainGlobals "NoSaying" = some (some (.ref cu)))
    (y12 : PySem.W.nsIn K mainGlobals "NoName" = some (some (.ref dM)))
    (y13 : PySem.W.nsIn K mainGlobals "TooMany" = some (some (.ref aw)))
    (pF : PySem.W.excIn K (ak) bmV "ValueError.__new__" = true)
    (pL : PySem.W.exmOne K (.ref ak) (.ref bL) = some true)
    (z1_NoNumber : PySem.W.findIn K (.ref ak) "__getattribute__" = some (some (.builtin "BaseException.__getattribute__")))
    (z2_NoNumber : PySem.W.findIn K (.ref ak) "__getattr__" = some none)
    (z3_NoNumber : PySem.W.findIn K (.ref ak) "__class__" = some (some (.builtin "object.__class__")))
    (z4_NoNumber : PySem.W.mroIn K ak (.type "object") = some true)
    (z5_NoNumber : PySem.W.mroIn K ak (.type "BaseException") = some true)
    (z6_NoNumber : (PySem.W.clsIn K ak).isSome = true)
    (fY : PySem.W.kitOne K (.ref ak) (.ref dP) = some false)
    (eM : PySem.W.kitOne K (.ref ak) (.ref ak) = some true)
    (eQ : PySem.W.kitOne K (.ref ak) (.ref cw) = some false)
    (gj : PySem.W.kitOne K (.ref ak) (.ref dH) = some false)
    (gY : PySem.W.kitOne K (.ref ak) (.ref az) = some false)
    (fD : PySem.W.kitOne K (.ref ak) (.ref cQ) = some false)
    (gH : PySem.W.kitOne K (.ref ak) (.ref dI) = some false)
    (fW : PySem.W.kitOne K (.ref ak) (.ref dJ) = some false)
    (g7 : PySem.W.kitOne K (.ref ak) (.ref eU) = some false)
    (fX : PySem.W.kitOne K (.ref ak) (.ref dR) = some false)
    (eP : PySem.W.kitOne K (.ref ak) (.ref cu) = some false)
    (gF : PySem.W.kitOne K (.ref ak) (.ref dM) = some false)
    (fm : PySem.W.kitOne K (.ref ak) (.ref aw) = some false)
    (k7 : PySem.W.kitOne K (.ref ak) (.type "ValueError") = some true)
    (xp : PySem.W.excIn K (az) bmV "ValueError.__new__" = true)
    (xC : PySem.W.exmOne K (.ref az) (.ref bL) = some true)
    (z1_NoFit : PySem.W.findIn K (.ref az) "__getattribute__" = some (some (.builtin "BaseException.__getattribute__")))
    (z2_NoFit : PySem.W.findIn K (.ref az) "__getattr__" = some none)
    (z3_NoFit : PySem.W.findIn K (.ref az) "__class__" = some (some (.builtin "object.__class__")))
    (z4_NoFit : PySem.W.mroIn K az (.type "object") = some true)
    (z5_NoFit : PySem.W.mroIn K az (.type "BaseException") = some true)
    (z6_NoFit : (PySem.W.clsIn K az).isSome = true)
    (jA : PySem.W.kitOne K (.ref az) (.ref dP) = some false)
    (ie : PySem.W.kitOne K (.ref az) (.ref ak) = some false)
    (gQ : PySem.W.kitOne K (.ref az) (.ref cw) = some false)
    (jj : PySem.W.kitOne K (.ref az) (.ref dH) = some false)
    (kd : PySem.W.kitOne K (.ref az) (.ref az) = some true)
    (iB : PySem.W.kitOne K (.ref az) (.ref cQ) = some false)
    (jy : PySem.W.kitOne K (.ref az) (.ref dI) = some false)
    (jk : PySem.W.kitOne K (.ref az) (.ref dJ) = some false)
    (j9 : PySem.W.kitOne K (.ref az) (.ref eU) = some false)
    (je : PySem.W.kitOne K (.ref az) (.ref dR) = some false)
    (gW : PySem.W.kitOne K (.ref az) (.ref cu) = some false)
    (ji : PySem.W.kitOne K (.ref az) (.ref dM) = some false)
    (iJ : PySem.W.kitOne K (.ref az) (.ref aw) = some false)
    (sr : PySem.W.kitOne K (.ref az) (.type "ValueError") = some true)
    (sy : PySem.W.excIn K (aw) bmV "ValueError.__new__" = true)
    (sJ : PySem.W.exmOne K (.ref aw) (.ref bL) = some true)
    (z1_TooMany : PySem.W.findIn K (.ref aw) "__getattribute__" = some (some (.builtin "BaseException.__getattribute__")))
    (z2_TooMany : PySem.W.findIn K (.ref aw) "__getattr__" = some none)
    (z3_TooMany : PySem.W.findIn K (.ref aw) "__class__" = some (some (.builtin "object.__class__")))
    (z4_TooMany : PySem.W.mroIn K aw (.type "object") = some true)
    (z5_TooMany : PySem.W.mroIn K aw (.type "BaseException") = some true)
    (z6_TooMany : (PySem.W.clsIn K aw).isSome = true)
    (ia : PySem.W.kitOne K (.ref aw) (.ref dP) = some false)
    (fv : PySem.W.kitOne K (.ref aw) (.ref ak) = some false)
    (fo : PySem.W.kitOne K (.ref aw) (.ref cw) = some false)
    (gM : PySem.W.kitOne K (.ref aw) (.ref dH) = some false)
    (iM : PySem.W.kitOne K (.ref aw) (.ref az) = some false)
    (gb : PySem.W.kitOne K (.ref aw) (.ref cQ) = some false)
    (g9 : PySem.W.kitOne K (.ref aw) (.ref dI) = some false)
    (gU : PySem.W.kitOne K (.ref aw) (.ref dJ) = some false)
    (iF : PySem.W.kitOne K (.ref aw) (.ref eU) = some false)
    (hV : PySem.W.kitOne K (.ref aw) (.ref dR) = some false)
    (fz : PySem.W.kitOne K (.ref aw) (.ref cu) = some false)
    (gS : PySem.W.kitOne K (.ref aw) (.ref dM) = some false)
    (fZ : PySem.W.kitOne K (.ref aw) (.ref aw) = some true)
    (mD : PySem.W.kitOne K (.ref aw) (.type "ValueError") = some true)
    (bb1 : PySem.W.nsIn K mainGlobals "__builtins__" = some (some (.ref bm))) (bb2 : bm ≠ builtinsNs) (bb3 : K.lookup bm = some ⟨.type "module", some builtinsNs, .plain, bsl⟩)
    (lo__law_is_told : (K.lookup cO).bind bq = some (d6, ("_law_is_told" : Str))) (l1__law_is_told : ∀ c2 o2 q2, K.lookup c2 = some o2 → bq o2 = some (d6, q2) → q2 = "_law_is_told") (lc__law_is_told : c41 = cO)
    (lo_law : (K.lookup rL).bind bq = some (A1, ("law" : Str))) (l1_law : ∀ c2 o2 q2, K.lookup c2 = some o2 → bq o2 = some (A1, q2) → q2 = "law") (lc_law : c42 = rL) :
    ∃ fd : FuncData, (∀ (s : Shared) (v : Value), BindsTo s fd ⟨[v], []⟩ [("_law_script", v)]) ∧ ∀ base : Heap, K.In base → base.Ns mainGlobals mg → bB l.prog w K mg base CX0 11 fa fd ["_law_script"] (spD K uI) := by
  have e := hfa.symm.trans (PySem.W.mg_of X G a42.1)
  cases e
  have F0 := aX (st := g0) a0.2.1 a0.2.2.1 a0.2.2.2
  have b0 := F0.binds (ps := ["thing"]) fun _ _ _ _ _ _ us hl => match us, hl with | [_], _ => rfl
  have F1 := aX (st := cy) a1.2.1 a1.2.2.1 a1.2.2.2
  have b1 := F1.binds (ps := ["a", "b"]) fun _ _ _ _ _ _ us hl => match us, hl with | [_, _], _ => rfl
  have F2 := aX (st := fP) a2.2.1 a2.2.2.1 a2.2.2.2
  have b2 := F2.binds (ps := ["thing"]) fun _ _ _ _ _ _ us hl => match us, hl with | [_], _ => rfl
  have F3 := aX (st := cx) a3.2.1 a3.2.2.1 a3.2.2.2
  have b3 := F3.binds (ps := ["a", "b", "c"]) fun _ _ _ _ _ _ us hl => match us, hl with | [_, _, _], _ => rfl
  have F4 := aX (st := kz) a4.2.1 a4.2.2.1 a4.2.2.2
  have b4 := F4.binds (ps := ["a", "b", "c"]) fun _ _ _ _ _ _ us hl => match us, hl with | [_, _, _], _ => rfl
  have F5 := aX (st := rT) a5.2.1 a5.2.2.1 a5.2.2.2
  have b5 := F5.binds (ps := ["x", "y"]) fun _ _ _ _ _ _ us hl => match us, hl with | [_, _], _ => rfl
  have F6 := aX (st := rp) a6.2.1 a6.2.2.1 a6.2.2.2
  have b6 := F6.binds (ps := ["x", "y"]) fun _ _ _ _ _ _ us hl => match us, hl with | [_, _], _ => rfl
  have F7 := aX (st := nJ) a7.2.1 a7.2.2.1 a7.2.2.2
  have b7 := F7.binds (ps := ["d", "x", "y"]) fun _ _ _ _ _ _ us hl => match us, hl with | [_, _, _], _ => rfl
  have F8 := aX (st := sF) a8.2.1 a8.2.2.1 a8.2.2.2
  have b8 := F8.binds (ps := ["d", "x", "y"]) fun _ _ _ _ _ _ us hl => match us, hl with | [_, _, _], _ => rfl
  have F9 := aX (st := ic) a9.2.1 a9.2.2.1 a9.2.2.2
  have b9 := F9.binds (ps := ["d", "x"]) fun _ _ _ _ _ _ us hl => match us, hl with | [_, _], _ => rfl
  have F10 := aX (st := i4) a10.2.1 a10.2.2.1 a10.2.2.2
  have b10 := F10.binds (ps := ["d", "x"]) fun _ _ _ _ _ _ us hl => match us, hl with | [_, _], _ => rfl
  have F11 := aX (st := cN) a11.2.1 a11.2.2.1 a11.2.2.2
  have b11 := F11.binds (ps := ["d", "a", "b"]) fun _ _ _ _ _ _ us hl => match us, hl with | [_, _, _], _ => rfl
  have F12 := aX (st := gR) a12.2.1 a12.2.2.1 a12.2.2.2
  have b12 := F12.binds (ps := ["d", "x", "y"]) fun _ _ _ _ _ _ us hl => match us, hl with | [_, _, _], _ => rfl
  have F13 := aX (st := bZ) a13.2.1 a13.2.2.1 a13.2.2.2
  have b13 := F13.binds (ps := ["d", "thing"]) fun _ _ _ _ _ _ us hl => match us, hl with | [_, _], _ => rfl
  have F14 := aX (st := bA) a14.2.1 a14.2.2.1 a14.2.2.2
  have b14 := F14.binds (ps := ["d", "thing"]) fun _ _ _ _ _ _ us hl => match us, hl with | [_, _], _ => rfl
  have F15 := aX (st := eI) a15.2.1 a15.2.2.1 a15.2.2.2
  have b15 := F15.binds (ps := ["d", "width", "height"]) fun _ _ _ _ _ _ us hl => match us, hl with | [_, _, _], _ => rfl
  have F16 := aX (st := cf) a16.2.1 a16.2.2.1 a16.2.2.2
  have b16 := F16.binds (ps := ["shape"]) fun _ _ _ _ _ _ us hl => match us, hl with | [_], _ => rfl
  have F17 := aX (st := fI) a17.2.1 a17.2.2.1 a17.2.2.2
  have b17 := F17.binds (ps := ["shape"]) fun _ _ _ _ _ _ us hl => match us, hl with | [_], _ => rfl
  have F18 := aX (st := dm) a18.2.1 a18.2.2.1 a18.2.2.2
  have b18 := F18.binds (ps := ["d", "width", "height"]) fun _ _ _ _ _ _ us hl => match us, hl with | [_, _, _], _ => rfl
  have F19 := aX (st := cj) a19.2.1 a19.2.2.1 a19.2.2.2
  have b19 := F19.binds (ps := ["d", "width", "height", "counts"]) fun _ _ _ _ _ _ us hl => match us, hl with | [_, _, _, _], _ => rfl
  have F20 := aX (st := dQ) a20.2.1 a20.2.2.1 a20.2.2.2
  have b20 := F20.binds (ps := ["_law_d", "_law_width", "_law_height"]) fun _ _ _ _ _ _ us hl => match us, hl with | [_, _, _], _ => rfl
  have F21 := aX (st := fH) a21.2.1 a21.2.2.1 a21.2.2.2
  have b21 := F21.binds (ps := ["_law_d", "_law_x", "_law_y"]) fun _ _ _ _ _ _ us hl => match us, hl with | [_, _, _], _ => rfl
  have F22 := aX (st := eu) a22.2.1 a22.2.2.1 a22.2.2.2
  have b22 := F22.binds (ps := ["_law_d", "_law_x", "_law_y"]) fun _ _ _ _ _ _ us hl => match us, hl with | [_, _, _], _ => rfl
  have F23 := aX (st := gP) a23.2.1 a23.2.2.1 a23.2.2.2
  have b23 := F23.binds (ps := ["_law_a", "_law_b", "_law_c"]) fun _ _ _ _ _ _ us hl => match us, hl with | [_, _, _], _ => rfl
  have F24 := aX (st := dO) a24.2.1 a24.2.2.1 a24.2.2.2
  have b24 := F24.binds (ps := ["_law_one", "_law_other"]) fun _ _ _ _ _ _ us hl => match us, hl with | [_, _], _ => rfl
  have F25 := aX (st := cL) a25.2.1 a25.2.2.1 a25.2.2.2
  have b25 := F25.binds (ps := ["_law_d", "_law_x"]) fun _ _ _ _ _ _ us hl => match us, hl with | [_, _], _ => rfl
  have F26 := aX (st := fG) a26.2.1 a26.2.2.1 a26.2.2.2
  have b26 := F26.binds (ps := ["_law_x", "_law_y"]) fun _ _ _ _ _ _ us hl => match us, hl with | [_, _], _ => rfl
  have F27 := aX (st := fQ) a27.2.1 a27.2.2.1 a27.2.2.2
  have b27 := F27.binds (ps := ["_law_x", "_law_y"]) fun _ _ _ _ _ _ us hl => match us, hl with | [_, _], _ => rfl
  have F28 := aX (st := eC) a28.2.1 a28.2.2.1 a28.2.2.2
  have b28 := F28.binds (ps := ["_law_x"]) fun _ _ _ _ _ _ us hl => match us, hl with | [_], _ => rfl
  have F29 := aX (st := eB) a29.2.1 a29.2.2.1 a29.2.2.2
  have b29 := F29.binds (ps := ["_law_d", "_law_x", "_law_y"]) fun _ _ _ _ _ _ us hl => match us, hl with | [_, _, _], _ => rfl
  have F30 := aX (st := fM) a30.2.1 a30.2.2.1 a30.2.2.2
  have b30 := F30.binds (ps := ["_law_d", "_law_x"]) fun _ _ _ _ _ _ us hl => match us, hl with | [_, _], _ => rfl
  have F31 := aX (st := dh) a31.2.1 a31.2.2.1 a31.2.2.2
  have b31 := F31.binds (ps := ["_law_deed"]) fun _ _ _ _ _ _ us hl => match us, hl with | [_], _ => rfl
  have F32 := aX (st := gN) a32.2.1 a32.2.2.1 a32.2.2.2
  have b32 := F32.binds (ps := ["_law_script", "_law_at"]) fun _ _ _ _ _ _ us hl => match us, hl with | [_, _], _ => rfl
  have F33 := aX (st := fL) a33.2.1 a33.2.2.1 a33.2.2.2
  have b33 := F33.binds (ps := ["_law_bag_here"]) fun _ _ _ _ _ _ us hl => match us, hl with | [_], _ => rfl
  have F34 := aX (st := fR) a34.2.1 a34.2.2.1 a34.2.2.2
  have b34 := F34.binds (ps := ["_law_bag_here", "_law_many"]) fun _ _ _ _ _ _ us hl => match us, hl with | [_, _], _ => rfl
  have F35 := aX (st := bV) a35.2.1 a35.2.2.1 a35.2.2.2
  have b35 := F35.binds (ps := ["_law_bag_here", "_law_d"]) fun _ _ _ _ _ _ us hl => match us, hl with | [_, _], _ => rfl
  have F36 := aX (st := ez) a36.2.1 a36.2.2.1 a36.2.2.2
  have b36 := F36.binds (ps := ["_law_bag_here", "_law_d"]) fun _ _ _ _ _ _ us hl => match us, hl with | [_, _], _ => rfl
  have F37 := aX (st := dG) a37.2.1 a37.2.2.1 a37.2.2.2
  have b37 := F37.binds (ps := ["_law_bag_here"]) fun _ _ _ _ _ _ us hl => match us, hl with | [_], _ => rfl
  have F38 := aX (st := cA) a38.2.1 a38.2.2.1 a38.2.2.2
  have b38 := F38.binds (ps := ["_law_bag_here", "_law_d"]) fun _ _ _ _ _ _ us hl => match us, hl with | [_, _], _ => rfl
  have F39 := aX (st := g8) a39.2.1 a39.2.2.1 a39.2.2.2
  have b39 := F39.binds (ps := ["_law_bag_here"]) fun _ _ _ _ _ _ us hl => match us, hl with | [_], _ => rfl
  have F40 := aX (st := da) a40.2.1 a40.2.2.1 a40.2.2.2
  have b40 := F40.binds (ps := ["_law_d", "_law_width", "_law_height"]) fun _ _ _ _ _ _ us hl => match us, hl with | [_, _, _], _ => rfl
  have F41 := aX (st := cV) a41.2.1 a41.2.2.1 a41.2.2.2
  have b41 := F41.binds (ps := ["_law_d", "_law_width", "_law_height"]) fun _ _ _ _ _ _ us hl => match us, hl with | [_, _, _], _ => rfl
  have F42 := aX (st := oD) a42.2.1 a42.2.2.1 a42.2.2.2
  have b42 := F42.binds (ps := ["_law_script"]) fun _ _ _ _ _ _ us hl => match us, hl with | [_], _ => rfl
  have T : Txt K mg ⟨f0, fd "is_whole" g0 t0 m0 c0, f1, fd "common_divisor" cy t1 m1 c1, f2, fd "is_number" fP t2 m2 c2, f3, fd "divisor_of_all" cx t3 m3 c3, f4, fd "number" kz t4 m4 c4, f5, fd "plus" rT t5 m5 c5, f6, fd "less" rp t6 m6 c6, f7, fd "times" nJ t7 m7 c7, f8, fd "over" sF t8 m8 c8, f9, fd "contrary" ic t9 m9 c9, f10, fd "sign_of" i4 t10 m10 c10, f11, fd "sign_of_parts" cN t11 m11 c11, f12, fd "is_above" gR t12 m12 c12, f13, fd "is_above_nought" bZ t13 m13 c13, f14, fd "must_be_above_nought" bA t14 m14 c14, f15, fd "squares_of" eI t15 m15 c15, f16, fd "bar_for_squares" cf t16 m16 c16, f17, fd "counts_of" fI t17 m17 c17, f18, fd "squares_laid" dm t18 m18 c18, f19, fd "tiles_by_counts" cj t19 m19 c19, f20, fd "_law_counts" dQ t20 m20 c20, f21, fd "_law_over" fH t21 m21 c21, f22, fd "_law_times" eu t22 m22 c22, f23, fd "_law_low" gP t23 m23 c23, f24, fd "_law_shared" dO t24 m24 c24, f25, fd "_law_contrary" cL t25 m25 c25, f26, fd "_law_less" fG t26 m26 c26, f27, fd "_law_plus" fQ t27 m27 c27, f28, fd "_law_minus" eC t28 m28 c28, f29, fd "_law_below" eB t29 m29 c29, f30, fd "_law_sign" fM t30 m30 c30, f31, fd "_law_refusal" dh t31 m31 c31, f32, fd "_law_bag" gN t32 m32 c32, f33, fd "_law_root" fL t33 m33 c33, f34, fd "_law_take" fR t34 m34 c34, f35, fd "_law_floor_sides" bV t35 m35 c35, f36, fd "_law_above" ez t36 m36 c36, f37, fd "_law_number" dG t37 m37 c37, f38, fd "_law_bad_above" cA t38 m38 c38, f39, fd "_law_odd" g8 t39 m39 c39, f40, fd "_law_squares" da t40 m40 c40, f41, fd "_law_is_told" cV t41 m41 c41, fa, fd "law" oD t42 m42 c42, q0, g1, g2, bL, dP, ak, cw, dH, az, cQ, dI, dJ, eU, dR, cu, dM, aw, cO, d6, rL, A1⟩ := ⟨F0, PySem.W.mg_of X G a0.1, a0.2.2.2, b0, F1, PySem.W.mg_of X G a1.1, a1.2.2.2, b1, F2, PySem.W.mg_of X G a2.1, a2.2.2.2, b2, F3, PySem.W.mg_of X G a3.1, a3.2.2.2, b3, F4, PySem.W.mg_of X G a4.1, a4.2.2.2, b4, F5, PySem.W.mg_of X G a5.1, a5.2.2.2, b5, F6, PySem.W.mg_of X G a6.1, a6.2.2.2, b6, F7, PySem.W.mg_of X G a7.1, a7.2.2.2, b7, F8, PySem.W.mg_of X G a8.1, a8.2.2.2, b8, F9, PySem.W.mg_of X G a9.1, a9.2.2.2, b9, F10, PySem.W.mg_of X G a10.1, a10.2.2.2, b10, F11, PySem.W.mg_of X G a11.1, a11.2.2.2, b11, F12, PySem.W.mg_of X G a12.1, a12.2.2.2, b12, F13, PySem.W.mg_of X G a13.1, a13.2.2.2, b13, F14, PySem.W.mg_of X G a14.1, a14.2.2.2, b14, F15, PySem.W.mg_of X G a15.1, a15.2.2.2, b15, F16, PySem.W.mg_of X G a16.1, a16.2.2.2, b16, F17, PySem.W.mg_of X G a17.1, a17.2.2.2, b17, F18, PySem.W.mg_of X G a18.1, a18.2.2.2, b18, F19, PySem.W.mg_of X G a19.1, a19.2.2.2, b19, F20, PySem.W.mg_of X G a20.1, a20.2.2.2, b20, F21, PySem.W.mg_of X G a21.1, a21.2.2.2, b21, F22, PySem.W.mg_of X G a22.1, a22.2.2.2, b22, F23, PySem.W.mg_of X G a23.1, a23.2.2.2, b23, F24, PySem.W.mg_of X G a24.1, a24.2.2.2, b24, F25, PySem.W.mg_of X G a25.1, a25.2.2.2, b25, F26, PySem.W.mg_of X G a26.1, a26.2.2.2, b26, F27, PySem.W.mg_of X G a27.1, a27.2.2.2, b27, F28, PySem.W.mg_of X G a28.1, a28.2.2.2, b28, F29, PySem.W.mg_of X G a29.1, a29.2.2.2, b29, F30, PySem.W.mg_of X G a30.1, a30.2.2.2, b30, F31, PySem.W.mg_of X G a31.1, a31.2.2.2, b31, F32, PySem.W.mg_of X G a32.1, a32.2.2.2, b32, F33, PySem.W.mg_of X G a33.1, a33.2.2.2, b33, F34, PySem.W.mg_of X G a34.1, a34.2.2.2, b34, F35, PySem.W.mg_of X G a35.1, a35.2.2.2, b35, F36, PySem.W.mg_of X G a36.1, a36.2.2.2, b36, F37, PySem.W.mg_of X G a37.1, a37.2.2.2, b37, F38, PySem.W.mg_of X G a38.1, a38.2.2.2, b38, F39, PySem.W.mg_of X G a39.1, a39.2.2.2, b39, F40, PySem.W.mg_of X G a40.1, a40.2.2.2, b40, F41, PySem.W.mg_of X G a41.1, a41.2.2.2, b41, F42, PySem.W.mg_of X G a42.1, a42.2.2.2, b42, PySem.W.mg_none_of X G z0, PySem.W.mg_none_of X G z1, PySem.W.mg_none_of X G z2, PySem.W.mg_none_of X G z3, PySem.W.mg_none_of X G z4, PySem.W.mg_none_of X G z5, PySem.W.mg_none_of X G z6, PySem.W.mg_none_of X G z7, PySem.W.mg_none_of X G z8, PySem.W.mg_none_of X G z9, PySem.W.mg_none_of X G z10, PySem.W.mg_none_of X G z11, PySem.W.mg_none_of X G z12, PySem.W.mg_of X G v0, ⟨PySem.W.mg_of X G v1, ⟨_, _, _, _, _, _, w1⟩⟩, ⟨PySem.W.mg_of X G v2, ⟨_, _, _, _, _, _, w2⟩⟩, PySem.W.mg_of X G y0, PySem.W.mg_of X G y1, PySem.W.mg_of X G y2, PySem.W.mg_of X G y3, PySem.W.mg_of X G y4, PySem.W.mg_of X G y5, PySem.W.mg_of X G y6, PySem.W.mg_of X G y7, PySem.W.mg_of X G y8, PySem.W.mg_of X G y9, PySem.W.mg_of X G y10, PySem.W.mg_of X G y11, PySem.W.mg_of X G y12, PySem.W.mg_of X G y13, pF, pL, fY, eM, eQ, gj, gY, fD, gH, fW, g7, fX, eP, gF, fm, k7, xp, xC, jA, ie, gQ, jj, kd, iB, jy, jk, j9, je, gW, ji, iJ, sr, sy, sJ, ia, fv, fo, gM, iM, gb, g9, gU, iF, hV, fz, gS, fZ, mD, ⟨z1_NoNumber, z2_NoNumber, z3_NoNumber, z4_NoNumber, z5_NoNumber, z6_NoNumber⟩, ⟨z1_NoFit, z2_NoFit, z3_NoFit, z4_NoFit, z5_NoFit, z6_NoFit⟩, ⟨z1_TooMany, z2_TooMany, z3_TooMany, z4_TooMany, z5_TooMany, z6_TooMany⟩, ⟨uj lo__law_is_told, l1__law_is_told, E4 (PySem.W.mg_of X G bb1) bb2 bb3⟩, congrArg Value.ref lc__law_is_told, ⟨uj lo_law, l1_law, E4 (PySem.W.mg_of X G bb1) bb2 bb3⟩, congrArg Value.ref lc_law⟩
  exact ⟨_, fun s v => .of_eq rfl, fun base _ _ => KN (e := ⟨l.prog, w, K, mg, base, _⟩) T⟩
theorem walk {l : PySem.W.OpenLaw} {q : Program} {loose : List Str} {XP : (Str → Option Value) → Heap → Prop} {YP : World → Heap → Prop} {d : DefRec} {K : Params → PySem.W.Frag} (tabs : List Addr) (hn : l.most = some 63) (hdf : d.params.defaults = [])
    (hY : ∀ (w : World) (h : Heap), YP w h → (K w.params).In h ∧ (∀ p ∈ tabs, h.get? p = some (PySem.W.tabObj #[]) ∧ (K w.params).lookup p = none) ∧ (∀ p ∈ tabs, isCodeTable h p))
    (hA2 : ∀ (w : World) c o p q, (K w.params).lookup c = some o → bq o = some (p, q) → p ∈ tabs)
    (F : ∀ (w : World) (mg : Str → Option Value) (fa : Addr) (h : Heap), (K w.params).In h → h.Ns mainGlobals mg → mg d.name = some (.ref fa) →
      ∃ fd : FuncData, (∀ (s : Shared) (u : Value), BindsTo s fd ⟨[u], []⟩ [("_law_script", u)]) ∧ ∀ base : Heap, (K w.params).In base → base.Ns mainGlobals mg → bB l.prog w (K w.params) mg base CX0 11 fa fd ["_law_script"] (spD (K w.params) uI)) :
    PySem.W.WalkO q loose XP YP l.row.toRowW d [] (fun f vs => PySem.call f vs) :=
  L2.FK (n := 63) (k := 11) (x := "_law_script") (CX := fun _ => CX0) (sp := fun w => spD (K w.params) uI) tabs hn (by decide) hdf ⟨rfl, by decide, by decide⟩ hY hA2 F (fun w H a ns hl hT hS => DH hl hT hS) fun _ _ _ _ _ z => z
end K20
open PySem PySem.W PyProof.Rows L2.DL in
set_option maxRecDepth 100000 in
set_option maxHeartbeats 0 in
theorem PySem.Challenge.cw_matefloors_k20_squares_laid_holds : PySem.Challenge.rw_matefloors_k20_squares_laid.Holds :=
  holds_law K20.H.ws fun said => holds_open (XP := XL K20.H.V []) (YP := K20.H.HK.says) (d := K20.H.D) (kwd := []) K20.H.left K20.H.HK.of K20.H.HK.keeps (fun s e => xl_of s (Bool.and_eq_true_iff.mp e).1) XL.keeps (by kernel_rfl) (by kernel_rfl) (by kernel_rfl)
    (fun s e => recFacts_of (Bool.and_eq_true_iff.mp e).2) (by kernel_rfl) said (by kernel_rfl) ⟨by kernel_rfl, by kernel_rfl, by kernel_rfl, by kernel_rfl, by kernel_rfl, by kernel_rfl⟩ ⟨[.list []], by kernel_rfl, by kernel_rfl⟩
    (K20.walk (l := PySem.Challenge.rw_matefloors_k20_squares_laid) (K := K20.H.K) K20.H.tabs (by kernel_rfl) (by kernel_rfl) (fun w h Y => by
      have Y : (K20.H.KF w.params).In h := Y
      refine ⟨yY Y, fun p hp => ?_, fun p hp => ?_⟩
      · rcases List.mem_cons.mp hp with rfl | hp
        · exact ⟨Y _ _ (K20.H.kM w.params).1, (K20.H.kM w.params).2⟩
        rcases List.mem_cons.mp hp with rfl | hp
        · exact ⟨Y _ _ (K20.H.CT w.params).1, (K20.H.CT w.params).2⟩
        exact nomatch hp
      · rcases List.mem_cons.mp hp with rfl | hp
        · obtain ⟨o, e1, e2⟩ := uj (K20.H.jJ w.params); exact wW (yY Y) e1 e2
        rcases List.mem_cons.mp hp with rfl | hp
        · obtain ⟨o, e1, e2⟩ := uj (K20.H.A9 w.params); exact wW (yY Y) e1 e2
        exact nomatch hp) (fun w c o p q e e2 => by
      have h := yV (K20.H.Bj w.params) e e2
      have h2 := List.mem_map_of_mem (f := fun x : Addr × Str => x.1) h
      exact h2) fun w mg fa h KX G hmg => by
      obtain ⟨h0, h1, h2, h3, h4, h5, h6, h7, h8, h9, h10, h11, h12, h13, h14, h15, h16, h17, h18, h19, h20, h21, h22, h23, h24, h25, h26, h27, h28, h29, h30, h31, h32, h33, h34, h35, h36, h37, h38, h39, h40, h41, h42, h43, h44, h45, h46, h47, h48, h49, h50, h51, h52, h53, h54, h55, h56, h57, h58, h59, h60, h61, h62, h63, h64, h65, h66, h67, h68, h69, h70, h71, h72, h73, h74, h75, h76, h77, h78, h79, h80, h81, h82, h83, h84, h85, h86, h87, h88, h89, h90, h91, h92, h93, h94, h95, h96, h97, h98, h99, h100, h101, h102, h103, h104, h105, h106, h107, h108, h109, h110, h111, h112, h113, h114, h115, h116, h117, h118, h119, h120, h121, h122, h123, h124, h125, h126, h127, h128, h129, h130, h131, h132, h133, h134, h135, h136, h137, h138, h139⟩ := K20.H.facts w.params
      exact K20.all_mk KX G hmg h0 h1 h2 h3 h4 h5 h6 h7 h8 h9 h10 h11 h12 h13 h14 h15 h16 h17 h18 h19 h20 h21 h22 h23 h24 h25 h26 h27 h28 h29 h30 h31 h32 h33 h34 h35 h36 h37 h38 h39 h40 h41 h42 h43 h44 h45 h46 h47 h48 h49 h50 h51 h52 h53 h54 h55 h56 h57.1 h57.2 h58.1 h58.2 h59 h60 h61 h62 h63 h64 h65 h66 h67 h68 h69 h70 h71 h72 h73 h74 h75 h76 h77 h78 h79 h80 h81 h82 h83 h84 h85 h86 h87 h88 h89 h90 h91 h92 h93 h94 h95 h96 h97 h98 h99 h100 h101 h102 h103 h104 h105 h106 h107 h108 h109 h110 h111 h112 h113 h114 h115 h116 h117 h118 h119 h120 h121 h122 h123 h124 h125 h126 h127 h128 h129 h130 h131 h132 h133 h134 h135 h136 h137 h138 h139.1 h139.2.1 h139.2.2 (K20.H.jJ w.params) (fun c2 o2 q2 e e2 => K20.H.pR (yV (K20.H.Bj w.params) e e2)) rfl (K20.H.A9 w.params) (fun c2 o2 q2 e e2 => K20.H.E3 (yV (K20.H.Bj w.params) e e2)) rfl)
