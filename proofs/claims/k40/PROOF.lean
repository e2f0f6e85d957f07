import PyProof.Rows.All
import Wide.All
import OpenK.AllK
import Wide.FinOn
import Lean
import PyProof.EqAt
import PyProof.EqKinds
import PyProof.TupleCall
import KE.KLam
import PyProof.ExcBaseAll.ValueError
import PyProof.ExcAttrAll.ValueError
import PyProof.EnumMake
import PyProof.WalksEnum
import PyProof.Rows.SetFrom
import PyProof.SetRoads
import KE.KFind
import PySem.Challenge.RW_matefloors_k40_laid_or_not
set_option Elab.async false
set_option linter.all false
set_option maxRecDepth 100000
set_option maxHeartbeats 4000000
namespace L2
open PySem PySem.W
def mh : Sem Fin → Bool
  | .choose .. => false
  | .os .. => false
  | _ => true
theorem NR {den : Code → Sem Fin} {p : Program} {w : World} {os : OsState} {s s' : Shared} {t t' : Thread} (h : mh t.cur = true) (e : step den p ⟨fun _ _ => 0, w.params⟩ s t = .go s' t') :
    step den p w { s with os := os } t = .go { s' with os := os } t' := by
  obtain ⟨heap, gens, drawn, toks, os0⟩ := s
  obtain ⟨cur, code, pos, stack⟩ := t
  cases cur <;> simp only [step, finish, mh] at e h ⊢ <;> (try (cases h; done)) <;> (repeat' split at e) <;> simp_all <;> (try (obtain ⟨rfl, rfl⟩ := e; simp_all)) <;> (try (obtain ⟨h1, h2⟩ := e; subst h1; rfl))
def sY (tb : String → Option Builtin) (p : Program) (P : Params) (n₀ : Nat) (ann : Option Value) : Nat → Shared → Thread → Option Shared
  | 0, _, _ => none
  | n + 1, s, t => match through t with
    | true => some s
    | false => match stepOk n₀ ann t && mh t.cur with
      | false => none
      | true => match step (denote tb) p ⟨fun _ _ => 0, P⟩ s t with
        | .go s' t' => sY tb p P n₀ ann n s' t'
        | .halt _ _ => none
theorem wK {tb : String → Option Builtin} {p : Program} {w : World} {n₀ : Nat} {ann : Option Value} {os : OsState} : ∀ {n : Nat} {s s' : Shared} {t : Thread}, sY tb p w.params n₀ ann n s t = some s' → topRun tb p w n₀ ann n { s with os := os } t = some { s' with os := os }
  | 0, _, _, _, h => by cases h
  | n + 1, s, s', t, h => by
    unfold sY at h
    unfold topRun
    cases ht : through t with
    | true => rw [ht] at h; cases h; rfl
    | false =>
      rw [ht] at h
      cases hk : (stepOk n₀ ann t && mh t.cur) with
      | false => rw [hk] at h; cases h
      | true =>
        rw [hk] at h
        obtain ⟨k1, k2⟩ := Bool.and_eq_true_iff.mp hk
        cases hs : step (denote tb) p ⟨fun _ _ => 0, w.params⟩ s t with
        | halt o s₂ => rw [hs] at h; cases h
        | go s₂ t₂ =>
          rw [hs] at h
          rw [k1, NR (os := os) k2 hs]
          exact wK h
noncomputable def wd (p : Program) (P : Params) (n₀ : Nat) (ann : Option Value) : Nat → Shared → Thread → Option Shared
  | 0, _, _ => none
  | n + 1, s, t => match through t with
    | true => some s
    | false => match Fast.tw6613529449190102663 n₀ ann t && mh t.cur with
      | false => none
      | true => match Fast.tw8437177126325714943 (Fast.tw11892475500146522536 Fast.tw14364793385576792824) p ⟨fun _ _ => 0, P⟩ s t with
        | .go s' t' => wd p P n₀ ann n s' t'
        | .halt _ _ => none
theorem wz {p : Program} {P : Params} {n₀ : Nat} {ann : Option Value} : ∀ (n : Nat) (s : Shared) (t : Thread), wd p P n₀ ann n s t = sY treeTable p P n₀ ann n s t
  | 0, _, _ => rfl
  | n + 1, s, t => by
    unfold wd sY
    rw [← Fast.te6613529449190102663, ← Fast.te8437177126325714943, ← Fast.te11892475500146522536, ← Fast.te14364793385576792824]
    cases through t with
    | true => rfl
    | false =>
      cases (stepOk n₀ ann t && mh t.cur) with
      | false => rfl
      | true =>
        cases step (denote treeTable) p ⟨fun _ _ => 0, P⟩ s t with
        | halt o s₂ => rfl
        | go s₂ t₂ => exact wz n s₂ t₂
end L2
namespace L2
open PySem
def qc (s : Stmt) : Arguments := match s with
  | .FunctionDef _ a _ _ _ _ _ _ _ _ => a
  | _ => { posonlyargs := [], args := [], vararg := none, kwonlyargs := [], kw_defaults := [], kwarg := none, defaults := [] }
def kI (s : Stmt) : List Stmt := match s with
  | .FunctionDef _ _ b _ _ _ _ _ _ _ => b
  | _ => []
def az (s : Stmt) : Scope := match s with
  | .FunctionDef _ _ _ _ _ _ sc _ _ _ => sc
  | _ => { kind := .function, names := [], isGenerator := false, isCoroutine := false }
end L2
namespace L2.DL
open PySem
def Kq : List Str := ["law", "_law_is_right", "_law_is_put", "_law_are_refused", "_law_is_told", "_law_said", "_law_is_plan_told"]
def ec (o : Obj) : Option (Addr × Str) := match o.cls, o.data with
  | .type c, .fields vs => if c = "code" then (match vs[1]?, vs[7]?, vs[9]?, vs[10]?, vs[11]?, vs[18]? with
    | some (Value.str q _), some (Value.int _ _), some (Value.bool _), some (Value.int _ _), some (Value.ref P), some (Value.str _ _) => if Kq.contains q = true then some (P, q) else none
    | _, _, _, _, _, _ => none) else none
  | _, _ => none
end L2.DL
namespace K40
open PySem L2
def top (i : Nat) : Stmt := PySem.Challenge.pw_matefloors_k40_laid_or_not.main.body.getD i (.Pass ⟨0, 0, 0, 0⟩)
abbrev iI : Stmt := top 7
abbrev dk : Stmt := top 8
abbrev gR : Stmt := top 9
abbrev dn : Stmt := top 10
abbrev mC : Stmt := top 11
abbrev uN : Stmt := top 12
abbrev vd : Stmt := top 13
abbrev uM : Stmt := top 14
abbrev p6 : Stmt := top 15
abbrev vh : Stmt := top 16
abbrev iN : Stmt := top 17
abbrev jZ : Stmt := top 18
abbrev dH : Stmt := top 19
abbrev cZ : Stmt := top 20
abbrev bT : Stmt := top 21
abbrev iH : Stmt := top 24
abbrev dG : Stmt := top 25
abbrev dI : Stmt := top 27
abbrev fQ : Stmt := top 29
abbrev gZ : Stmt := top 30
abbrev iC : Stmt := top 31
abbrev j4 : Stmt := top 32
abbrev uJ : Stmt := top 33
abbrev cY : Stmt := top 34
abbrev dr : Stmt := top 35
abbrev fP : Stmt := top 36
abbrev gP : Stmt := top 38
abbrev jW : Stmt := top 39
abbrev fB : Stmt := top 40
abbrev fD : Stmt := top 41
abbrev fL : Stmt := top 42
abbrev eB : Stmt := top 43
abbrev cw : Stmt := top 44
abbrev cK : Stmt := top 45
abbrev iE : Stmt := top 47
abbrev gQ : Stmt := top 48
abbrev eM : Stmt := top 49
abbrev iS : Stmt := top 50
abbrev gX : Stmt := top 51
abbrev fU : Stmt := top 52
abbrev g9 : Stmt := top 53
abbrev fM : Stmt := top 54
abbrev dF : Stmt := top 55
abbrev gU : Stmt := top 56
abbrev fE : Stmt := top 57
abbrev hJ : Stmt := top 58
abbrev eO : Stmt := top 59
abbrev fH : Stmt := top 60
abbrev fO : Stmt := top 61
abbrev cW : Stmt := top 62
abbrev cf : Stmt := top 63
abbrev gS : Stmt := top 64
abbrev fN : Stmt := top 65
abbrev dJ : Stmt := top 66
abbrev eC : Stmt := top 67
abbrev g8 : Stmt := top 68
abbrev cJ : Stmt := top 69
abbrev el : Stmt := top 70
abbrev qC : Stmt := top 71
abbrev fd (n : Str) (s : Stmt) (tk : Tok) (m : Str) (cd : Addr) : FuncData := PySem.W.fnOf n n (qc s) (kI s) (az s) .none .none .none (.str m tk) none (.ref cd) .none
abbrev FQ (K : PySem.W.Frag) (n : Str) (s : Stmt) (a cd : Addr) (tk : Tok) (m : Str) : Prop := PySem.W.nsIn K mainGlobals n = some (some (.ref a)) ∧ K.lookup a = some ⟨.type "function", none, .func (fd n s tk m cd), #[]⟩ ∧ PySem.W.codeIn K (.ref cd) n = true ∧ PySem.W.keepIn K (.ref a) = true
end K40
namespace K40.H
open PySem PySem.W PyProof.Rows L2 L2.DL
set_option maxRecDepth 100000
set_option maxHeartbeats 0
abbrev R : OpenLaw := PySem.Challenge.rw_matefloors_k40_laid_or_not
noncomputable def sT (P : Params) : Option Shared := wd R.row.prog P 11 (some (.ref 6)) 20000 { heap := boot_heap P, gens := #[], drawn := boot_drawn, toks := boot_toks, os := default } (topStub R.row.prog)
noncomputable def hT (P : Params) : Heap := (sT P).elim default (·.heap)
def isNm : Stmt → Bool
  | .Assign [.Name x _] _ _ => x == "__name__"
  | _ => false
def V : Program := { R.row.prog with main := { R.row.prog.main with body := R.row.prog.main.body.filter fun s => !isNm s } }
def as : List Addr := [3, 60, 59, 67, 66, 74, 73, 81, 80, 88, 87, 95, 94, 102, 101, 109, 108, 116, 115, 123, 122, 130, 129, 137, 136, 144, 143, 151, 150, 158, 157, 163, 162, 170, 169, 177, 176, 182, 181, 189, 188, 196, 195, 203, 202, 210, 209, 217, 216, 224, 223, 231, 230, 238, 237, 245, 244, 252, 251, 257, 256, 264, 263, 271, 270, 278, 277, 285, 284, 292, 291, 299, 298, 306, 305, 313, 312, 320, 319, 327, 326, 334, 333, 341, 340, 348, 347, 355, 354, 362, 361, 367, 366, 374, 373, 381, 380, 388, 387, 395, 394, 402, 401, 407, 406, 414, 413, 421, 420, 426, 425, 433, 432, 440, 439, 447, 446, 452, 451, 52, 53]
def tabs : List Addr := [442, 449]
noncomputable def K (P : Params) : Frag := as.map fun a => (a, ((hT P).get? a).getD default)
noncomputable def TF (P : Params) : Frag := tabs.map fun a => (a, ((hT P).get? a).getD default)
noncomputable def KF (P : Params) : Frag := K P ++ TF P
theorem kAs (P : Params) : as ++ tabs = (KF P).map (·.1) := by
  unfold KF K TF
  rw [List.map_append, List.map_map, List.map_map]
  exact congr (congrArg HAppend.hAppend (List.map_id _).symm) (List.map_id _).symm
noncomputable def HK : Hook := kHook KF (as ++ tabs) kAs
def posOf : Stmt → Pos
  | .FunctionDef _ _ _ _ _ _ _ _ _ p => p
  | _ => ⟨0, 0, 0, 0⟩
def D : DefRec := ⟨"law", qc K40.qC, kI K40.qC, az K40.qC, posOf K40.qC⟩
def Xt : Shared → Bool := fun s => xlAt V [] s && recOk R.row.records s
theorem runC (P : Params) : (sT P).map (fun s => (s.gens, s.drawn, s.toks)) = some (#[], {}, 820) := by kernel_rfl
theorem run (w : World) (os : OsState) : topRun treeTable R.row.prog w 11 (some (.ref 6)) 20000 { heap := boot_heap w.params, gens := #[], drawn := boot_drawn, toks := boot_toks, os := os } (topStub R.row.prog) = some { heap := hT w.params, gens := #[], drawn := {}, toks := 820, os := os } := by
  have h := runC w.params
  cases e : sT w.params with
  | none => rw [e] at h; cases h
  | some s =>
    rw [e] at h
    obtain ⟨heap, gens, drawn, toks, os0⟩ := s
    have hh : hT w.params = heap := by unfold hT; rw [e]; rfl
    have h' : some (gens, drawn, toks) = some ((#[] : Array GenState), ({} : Drawn), 820) := h
    cases h'
    rw [hh]
    exact wK (w := w) (os := os) ((wz _ _ _).symm.trans e)
theorem Pw (w : World) (os : OsState) : (staticsOk (importedModules R.row.prog.main.body) (boot_heap w.params) (hT w.params) && namesBound R.row.prog (hT w.params) && gensDone { heap := hT w.params, gens := #[], drawn := {}, toks := 820, os := os } && laidKept (boot_heap w.params) (hT w.params)) = true := by kernel_rfl
theorem Nr (w : World) (os : OsState) : (openSeen V [] (importedModules R.row.prog.main.body) Xt true { heap := hT w.params, gens := #[], drawn := {}, toks := 820, os := os }).1 = (openGood V []).1 := by kernel_rfl
theorem Od (w : World) (os : OsState) : (openSeen V [] (importedModules R.row.prog.main.body) Xt true { heap := hT w.params, gens := #[], drawn := {}, toks := 820, os := os }).2.1 = (openGood V []).2.1 := by kernel_rfl
theorem MU (w : World) (os : OsState) : (openSeen V [] (importedModules R.row.prog.main.body) Xt true { heap := hT w.params, gens := #[], drawn := {}, toks := 820, os := os }).2.2.1 = (openGood V []).2.2.1 := by kernel_rfl
theorem NP (w : World) (os : OsState) : (openSeen V [] (importedModules R.row.prog.main.body) Xt true { heap := hT w.params, gens := #[], drawn := {}, toks := 820, os := os }).2.2.2.1 = (openGood V []).2.2.2.1 := by kernel_rfl
theorem MM (w : World) (os : OsState) : (openSeen V [] (importedModules R.row.prog.main.body) Xt true { heap := hT w.params, gens := #[], drawn := {}, toks := 820, os := os }).2.2.2.2.1 = (openGood V []).2.2.2.2.1 := by kernel_rfl
theorem Nn (w : World) (os : OsState) : (openSeen V [] (importedModules R.row.prog.main.body) Xt true { heap := hT w.params, gens := #[], drawn := {}, toks := 820, os := os }).2.2.2.2.2.1 = (openGood V []).2.2.2.2.2.1 := by kernel_rfl
theorem Na (w : World) (os : OsState) : (openSeen V [] (importedModules R.row.prog.main.body) Xt true { heap := hT w.params, gens := #[], drawn := {}, toks := 820, os := os }).2.2.2.2.2.2.1 = (openGood V []).2.2.2.2.2.2.1 := by kernel_rfl
theorem NA (w : World) (os : OsState) : (openSeen V [] (importedModules R.row.prog.main.body) Xt true { heap := hT w.params, gens := #[], drawn := {}, toks := 820, os := os }).2.2.2.2.2.2.2.1 = (openGood V []).2.2.2.2.2.2.2.1 := by kernel_rfl
theorem M6 (w : World) (os : OsState) : (openSeen V [] (importedModules R.row.prog.main.body) Xt true { heap := hT w.params, gens := #[], drawn := {}, toks := 820, os := os }).2.2.2.2.2.2.2.2 = (openGood V []).2.2.2.2.2.2.2.2 := by kernel_rfl
theorem Ot (w : World) (os : OsState) : openSeen V [] (importedModules R.row.prog.main.body) Xt true { heap := hT w.params, gens := #[], drawn := {}, toks := 820, os := os } = openGood V [] := Prod.ext (Nr w os) (Prod.ext (Od w os) (Prod.ext (MU w os) (Prod.ext (NP w os) (Prod.ext (MM w os) (Prod.ext (Nn w os) (Prod.ext (Na w os) (Prod.ext (NA w os) (M6 w os))))))))
theorem Oz (w : World) (os : OsState) : HK.obs { heap := hT w.params, gens := #[], drawn := {}, toks := 820, os := os } = HK.val w := by kernel_rfl
theorem seen (w : World) : (fun os => (staticsOk (importedModules R.row.prog.main.body) (boot_heap w.params) (hT w.params) && namesBound R.row.prog (hT w.params) && gensDone { heap := hT w.params, gens := #[], drawn := {}, toks := 820, os := os } && laidKept (boot_heap w.params) (hT w.params),
    openSeen V [] (importedModules R.row.prog.main.body) Xt true { heap := hT w.params, gens := #[], drawn := {}, toks := 820, os := os }, HK.obs { heap := hT w.params, gens := #[], drawn := {}, toks := 820, os := os })) = fun _ : OsState => (true, openGood V [], HK.val w) :=
  funext fun os => Prod.ext (Pw w os) (Prod.ext (Ot w os) (Oz w os))
theorem ws : R.wellSaid = true := by kernel_rfl
theorem facts (P : Params) : FQ (K P) "is_whole" iI 60 59 239 "matefloors.numbers" ∧ FQ (K P) "common_divisor" dk 67 66 239 "matefloors.numbers" ∧ FQ (K P) "is_number" gR 74 73 239 "matefloors.numbers" ∧ FQ (K P) "divisor_of_all" dn 81 80 239 "matefloors.numbers" ∧ FQ (K P) "number" mC 88 87 239 "matefloors.numbers" ∧ FQ (K P) "mate" uN 95 94 239 "matefloors.numbers" ∧ FQ (K P) "plus" vd 102 101 239 "matefloors.numbers" ∧ FQ (K P) "less" uM 109 108 239 "matefloors.numbers" ∧ FQ (K P) "times" p6 116 115 239 "matefloors.numbers" ∧ FQ (K P) "over" vh 123 122 239 "matefloors.numbers" ∧ FQ (K P) "contrary" iN 130 129 239 "matefloors.numbers" ∧ FQ (K P) "sign_of" jZ 137 136 239 "matefloors.numbers" ∧ FQ (K P) "sign_of_parts" dH 144 143 239 "matefloors.numbers" ∧ FQ (K P) "is_above_nought" cZ 151 150 239 "matefloors.numbers" ∧ FQ (K P) "must_be_above_nought" bT 158 157 239 "matefloors.numbers" ∧ FQ (K P) "is_kinds" iH 163 162 377 "matefloors.layings" ∧ FQ (K P) "must_be_kinds" dG 170 169 377 "matefloors.layings" ∧ FQ (K P) "lean_fraction" dI 177 176 395 "matefloors.leaning" ∧ FQ (K P) "mixture_of" fQ 182 181 406 "matefloors.mixtures" ∧ FQ (K P) "shares_of" gZ 189 188 406 "matefloors.mixtures" ∧ FQ (K P) "is_share" iC 196 195 406 "matefloors.mixtures" ∧ FQ (K P) "bar_for" j4 203 202 406 "matefloors.mixtures" ∧ FQ (K P) "skew" uJ 210 209 406 "matefloors.mixtures" ∧ FQ (K P) "plan_of_mixture" cY 217 216 406 "matefloors.mixtures" ∧ FQ (K P) "plan_of_shares" dr 224 223 406 "matefloors.mixtures" ∧ FQ (K P) "share_plan" fP 231 230 406 "matefloors.mixtures" ∧ FQ (K P) "wish_told" gP 238 237 487 "matefloors.wishes" ∧ FQ (K P) "is_laid" jW 245 244 487 "matefloors.wishes" ∧ FQ (K P) "leans_most" fB 252 251 487 "matefloors.wishes" ∧ FQ (K P) "mate_signs" fD 257 256 487 "matefloors.wishes" ∧ FQ (K P) "leans_more" fL 264 263 487 "matefloors.wishes" ∧ FQ (K P) "plan_by_both" eB 271 270 487 "matefloors.wishes" ∧ FQ (K P) "with_greater_mate" cw 278 277 487 "matefloors.wishes" ∧ FQ (K P) "has_greater_mate" cK 285 284 487 "matefloors.wishes" ∧ FQ (K P) "_law_bag" iE 292 291 577 "law_matefloors_k40_laid_or_not" ∧ FQ (K P) "_law_take" gQ 299 298 577 "law_matefloors_k40_laid_or_not" ∧ FQ (K P) "_law_shared" eM 306 305 577 "law_matefloors_k40_laid_or_not" ∧ FQ (K P) "_law_low" iS 313 312 577 "law_matefloors_k40_laid_or_not" ∧ FQ (K P) "_law_plus" gX 320 319 577 "law_matefloors_k40_laid_or_not" ∧ FQ (K P) "_law_minus" fU 327 326 577 "law_matefloors_k40_laid_or_not" ∧ FQ (K P) "_law_mate" g9 334 333 577 "law_matefloors_k40_laid_or_not" ∧ FQ (K P) "_law_times" fM 341 340 577 "law_matefloors_k40_laid_or_not" ∧ FQ (K P) "_law_contrary" dF 348 347 577 "law_matefloors_k40_laid_or_not" ∧ FQ (K P) "_law_sign" gU 355 354 577 "law_matefloors_k40_laid_or_not" ∧ FQ (K P) "_law_below" fE 362 361 577 "law_matefloors_k40_laid_or_not" ∧ FQ (K P) "_law_root" hJ 367 366 577 "law_matefloors_k40_laid_or_not" ∧ FQ (K P) "_law_number" eO 374 373 577 "law_matefloors_k40_laid_or_not" ∧ FQ (K P) "_law_above" fH 381 380 577 "law_matefloors_k40_laid_or_not" ∧ FQ (K P) "_law_kinds" fO 388 387 577 "law_matefloors_k40_laid_or_not" ∧ FQ (K P) "_law_plan_shape" cW 395 394 577 "law_matefloors_k40_laid_or_not" ∧ FQ (K P) "_law_lean_fraction" cf 402 401 577 "law_matefloors_k40_laid_or_not" ∧ FQ (K P) "_law_plan" gS 407 406 577 "law_matefloors_k40_laid_or_not" ∧ FQ (K P) "_law_shape" fN 414 413 577 "law_matefloors_k40_laid_or_not" ∧ FQ (K P) "_law_fraction" dJ 421 420 577 "law_matefloors_k40_laid_or_not" ∧ FQ (K P) "_law_is_laid" eC 426 425 577 "law_matefloors_k40_laid_or_not" ∧ FQ (K P) "_law_wide" g8 433 432 577 "law_matefloors_k40_laid_or_not" ∧ FQ (K P) "_law_wide_shapes" cJ 440 439 577 "law_matefloors_k40_laid_or_not" ∧ FQ (K P) "_law_is_told" el 447 446 577 "law_matefloors_k40_laid_or_not" ∧ FQ (K P) "law" qC 452 451 577 "law_matefloors_k40_laid_or_not" ∧ nsIn (K P) mainGlobals "isinstance" = some none ∧ nsIn (K P) mainGlobals "int" = some none ∧ nsIn (K P) mainGlobals "bool" = some none ∧ nsIn (K P) mainGlobals "abs" = some none ∧ nsIn (K P) mainGlobals "tuple" = some none ∧ nsIn (K P) mainGlobals "len" = some none ∧ nsIn (K P) mainGlobals "all" = some none ∧ nsIn (K P) mainGlobals "range" = some none ∧ nsIn (K P) mainGlobals "any" = some none ∧ nsIn (K P) mainGlobals "set" = some none ∧ nsIn (K P) mainGlobals "max" = some none ∧ nsIn (K P) mainGlobals "min" = some none ∧ nsIn (K P) mainGlobals "MOST_KINDS" = some (some (.int 3 379)) ∧ (nsIn (K P) mainGlobals "NOUGHT" = some (some (.ref 52)) ∧ (K P).lookup 52 = some ⟨.type "tuple", none, .seq #[.int 0 241, .int 0 242, .int 1 243] 0, #[]⟩) ∧ (nsIn (K P) mainGlobals "ONE" = some (some (.ref 53)) ∧ (K P).lookup 53 = some ⟨.type "tuple", none, .seq #[.int 1 245, .int 0 246, .int 1 247] 0, #[]⟩) :=
  ⟨⟨by kernel_rfl, by kernel_rfl, by kernel_rfl, by kernel_rfl⟩, ⟨by kernel_rfl, by kernel_rfl, by kernel_rfl, by kernel_rfl⟩, ⟨by kernel_rfl, by kernel_rfl, by kernel_rfl, by kernel_rfl⟩, ⟨by kernel_rfl, by kernel_rfl, by kernel_rfl, by kernel_rfl⟩, ⟨by kernel_rfl, by kernel_rfl, by kernel_rfl, by kernel_rfl⟩, ⟨by kernel_rfl, by kernel_rfl, by kernel_rfl, by kernel_rfl⟩, ⟨by kernel_rfl, by kernel_rfl, by kernel_rfl, by kernel_rfl⟩, ⟨by kernel_rfl, by kernel_rfl, by kernel_rfl, by kernel_rfl⟩, ⟨by kernel_rfl, by kernel_rfl, by kernel_rfl, by kernel_rfl⟩, ⟨by kernel_rfl, by kernel_rfl, by kernel_rfl, by kernel_rfl⟩, ⟨by kernel_rfl, by kernel_rfl, by kernel_rfl, by kernel_rfl⟩, ⟨by kernel_rfl, by kernel_rfl, by kernel_rfl, by kernel_rfl⟩, ⟨by kernel_rfl, by kernel_rfl, by kernel_rfl, by kernel_rfl⟩, ⟨by kernel_rfl, by kernel_rfl, by kernel_rfl, by kernel_rfl⟩, ⟨by kernel_rfl, by kernel_rfl, by kernel_rfl, by kernel_rfl⟩, ⟨by kernel_rfl, by kernel_rfl, by kernel_rfl, by kernel_rfl⟩, ⟨by kernel_rfl, by kernel_rfl, by kernel_rfl, by kernel_rfl⟩, ⟨by kernel_rfl, by kernel_rfl, by kernel_rfl, by kernel_rfl⟩, ⟨by kernel_rfl, by kernel_rfl, by kernel_rfl, by kernel_rfl⟩, ⟨by kernel_rfl, by kernel_rfl, by kernel_rfl, by kernel_rfl⟩, ⟨by kernel_rfl, by kernel_rfl, by kernel_rfl, by kernel_rfl⟩, ⟨by kernel_rfl, by kernel_rfl, by kernel_rfl, by kernel_rfl⟩, ⟨by kernel_rfl, by kernel_rfl, by kernel_rfl, by kernel_rfl⟩, ⟨by kernel_rfl, by kernel_rfl, by kernel_rfl, by kernel_rfl⟩, ⟨by kernel_rfl, by kernel_rfl, by kernel_rfl, by kernel_rfl⟩, ⟨by kernel_rfl, by kernel_rfl, by kernel_rfl, by kernel_rfl⟩, ⟨by kernel_rfl, by kernel_rfl, by kernel_rfl, by kernel_rfl⟩, ⟨by kernel_rfl, by kernel_rfl, by kernel_rfl, by kernel_rfl⟩, ⟨by kernel_rfl, by kernel_rfl, by kernel_rfl, by kernel_rfl⟩, ⟨by kernel_rfl, by kernel_rfl, by kernel_rfl, by kernel_rfl⟩, ⟨by kernel_rfl, by kernel_rfl, by kernel_rfl, by kernel_rfl⟩, ⟨by kernel_rfl, by kernel_rfl, by kernel_rfl, by kernel_rfl⟩, ⟨by kernel_rfl, by kernel_rfl, by kernel_rfl, by kernel_rfl⟩, ⟨by kernel_rfl, by kernel_rfl, by kernel_rfl, by kernel_rfl⟩, ⟨by kernel_rfl, by kernel_rfl, by kernel_rfl, by kernel_rfl⟩, ⟨by kernel_rfl, by kernel_rfl, by kernel_rfl, by kernel_rfl⟩, ⟨by kernel_rfl, by kernel_rfl, by kernel_rfl, by kernel_rfl⟩, ⟨by kernel_rfl, by kernel_rfl, by kernel_rfl, by kernel_rfl⟩, ⟨by kernel_rfl, by kernel_rfl, by kernel_rfl, by kernel_rfl⟩, ⟨by kernel_rfl, by kernel_rfl, by kernel_rfl, by kernel_rfl⟩, ⟨by kernel_rfl, by kernel_rfl, by kernel_rfl, by kernel_rfl⟩, ⟨by kernel_rfl, by kernel_rfl, by kernel_rfl, by kernel_rfl⟩, ⟨by kernel_rfl, by kernel_rfl, by kernel_rfl, by kernel_rfl⟩, ⟨by kernel_rfl, by kernel_rfl, by kernel_rfl, by kernel_rfl⟩, ⟨by kernel_rfl, by kernel_rfl, by kernel_rfl, by kernel_rfl⟩, ⟨by kernel_rfl, by kernel_rfl, by kernel_rfl, by kernel_rfl⟩, ⟨by kernel_rfl, by kernel_rfl, by kernel_rfl, by kernel_rfl⟩, ⟨by kernel_rfl, by kernel_rfl, by kernel_rfl, by kernel_rfl⟩, ⟨by kernel_rfl, by kernel_rfl, by kernel_rfl, by kernel_rfl⟩, ⟨by kernel_rfl, by kernel_rfl, by kernel_rfl, by kernel_rfl⟩, ⟨by kernel_rfl, by kernel_rfl, by kernel_rfl, by kernel_rfl⟩, ⟨by kernel_rfl, by kernel_rfl, by kernel_rfl, by kernel_rfl⟩, ⟨by kernel_rfl, by kernel_rfl, by kernel_rfl, by kernel_rfl⟩, ⟨by kernel_rfl, by kernel_rfl, by kernel_rfl, by kernel_rfl⟩, ⟨by kernel_rfl, by kernel_rfl, by kernel_rfl, by kernel_rfl⟩, ⟨by kernel_rfl, by kernel_rfl, by kernel_rfl, by kernel_rfl⟩, ⟨by kernel_rfl, by kernel_rfl, by kernel_rfl, by kernel_rfl⟩, ⟨by kernel_rfl, by kernel_rfl, by kernel_rfl, by kernel_rfl⟩, ⟨by kernel_rfl, by kernel_rfl, by kernel_rfl, by kernel_rfl⟩, by kernel_rfl, by kernel_rfl, by kernel_rfl, by kernel_rfl, by kernel_rfl, by kernel_rfl, by kernel_rfl, by kernel_rfl, by kernel_rfl, by kernel_rfl, by kernel_rfl, by kernel_rfl, by kernel_rfl, ⟨by kernel_rfl, by kernel_rfl⟩, ⟨by kernel_rfl, by kernel_rfl⟩⟩
theorem En (P : Params) : ((K P).filterMap fun p => ec p.2) = [(442, ("_law_is_told" : Str)), (449, ("law" : Str))] ∧ ((K P).lookup 446).bind ec = some (442, ("_law_is_told" : Str)) ∧ ((K P).lookup 451).bind ec = some (449, ("law" : Str)) ∧ (KF P).lookup 442 = some (tabObj #[]) ∧ (KF P).lookup 449 = some (tabObj #[]) ∧ (K P).lookup 442 = none ∧ (K P).lookup 449 = none := ⟨by kernel_rfl, by kernel_rfl, by kernel_rfl, by kernel_rfl, by kernel_rfl, by kernel_rfl, by kernel_rfl⟩
theorem Nj (P : Params) : ((K P).filterMap fun p => ec p.2) = [(442, ("_law_is_told" : Str)), (449, ("law" : Str))] := (En P).1
theorem tw (P : Params) : ((K P).lookup 446).bind ec = some (442, ("_law_is_told" : Str)) := (En P).2.1
theorem GV {q2 : Str} (h : ((442 : Addr), q2) ∈ ([(442, ("_law_is_told" : Str)), (449, ("law" : Str))] : List (Addr × Str))) : q2 = "_law_is_told" := by simpa using h
theorem Kn (P : Params) : ((K P).lookup 451).bind ec = some (449, ("law" : Str)) := (En P).2.2.1
theorem Pj {q2 : Str} (h : ((449 : Addr), q2) ∈ ([(442, ("_law_is_told" : Str)), (449, ("law" : Str))] : List (Addr × Str))) : q2 = "law" := by simpa using h
theorem mn (P : Params) : (KF P).lookup 442 = some (tabObj #[]) ∧ (K P).lookup 442 = none := ⟨(En P).2.2.2.1, (En P).2.2.2.2.2.1⟩
theorem Gq (P : Params) : (KF P).lookup 449 = some (tabObj #[]) ∧ (K P).lookup 449 = none := ⟨(En P).2.2.2.2.1, (En P).2.2.2.2.2.2⟩
theorem left : LeftO R.row.prog V [] Xt HK.obs HK.val 20000 :=
  LeftO.of_pieces (H₀ := boot_heap) (H₁ := hT) (gs₀ := #[]) (gs₁ := #[]) (d₀ := boot_drawn) (d₁ := {}) (k₀ := boot_toks) (k₁ := 820) (m₀ := 11) (ann := some (.ref 6)) (M := 20000)
    (boot_open (by kernel_rfl) (by kernel_rfl) (fun s => by kernel_rfl)) (fun w => by kernel_rfl) run (by kernel_rfl) seen
end K40.H
set_option Elab.async false
set_option linter.all false
set_option maxRecDepth 100000
namespace L2
open PySem PySem.Spec PyProof.Rows
def iW (A : Around) (h : Heap) : Prop := A.handled = none ∨ ∃ (e : Addr) (oe : Obj) (vs : Array Value), A.handled = some (.ref e) ∧ h.get? e = some oe ∧ oe.data = .fields vs ∧ vs[2]? = some .none
theorem yi : entryFor table "proto.unchain" = some Builtin.«proto.unchain» := entryFor_of_tree (by kernel_rfl)
section
variable {prog : Program} {w : World} {A : Around} {E : Value → Shared → Prop} {s : Shared}
theorem AA {x e : Addr} {oe : Obj} {vs : Array Value} {Q : Value → Shared → Prop} (he : s.heap.get? e = some oe) (hd : oe.data = .fields vs) (h2 : vs[2]? = some .none) (h : Q .none s) :
    wpAny (model prog w) A (runValue (.builtin "proto.unchain" ⟨[.ref x, .ref e, .ref e, .bool false], []⟩)) Q E s := by
  refine wpAny_runValue (codeAny_builtin yi ?_)
  unfold Builtin.«proto.unchain»
  dsimp only
  refine wpAny_bind (wpAny_field he hd h2 ?_)
  rw [if_pos (by rfl)]
  exact wpAny_pure h
theorem wO {α : Type} {a : Addr} {oa : Obj} {ws : Array Value} {Q : α → Shared → Prop} (q : iW A s.heap) (ha : s.heap.get? a = some oa) (hda : oa.data = .fields ws) (hz : 2 < ws.size)
    (hnew : ∀ e oe, A.handled = some (.ref e) → s.heap.get? e = some oe → e ≠ a)
    (h : ∀ h', Heap.ExtBut a s.heap h' → (∃ o', h'.get? a = some o' ∧ o'.cls = oa.cls) → E (.ref a) { s with heap := h' }) : wpAny (model prog w) A (raiseNew (.ref a) : Sem α) Q E s := by
  unfold raiseNew
  refine wpAny_bind (wpAny_handled ?_)
  rcases q with q | ⟨e, oe, vs, q, he, hd, h2⟩
  · rw [q]
    exact wpAny_bind (wpAny_pure (wpAny_throw (h s.heap (fun b o _ z => z) ⟨oa, ha, rfl⟩)))
  · rw [q]
    have ne : e ≠ a := hnew e oe q he
    dsimp only
    rw [if_pos (by simp [ne])]
    refine wpAny_bind (wpAny_holding (AA he hd h2 ?_))
    refine wpAny_bind ?_
    refine wpAny_setField ha hda hz (wpAny_throw ?_)
    have hd' := Obj.data_mapFields hda (·.setIfInBounds 2 (Value.ref e))
    exact h _ (Heap.SameBut.update ..).extBut ⟨_, Heap.get?_update_self _ ha (Obj.isFreed_of_fields hd'), Obj.cls_mapFields ..⟩
theorem wD {it : Addr} {α : Type} {h0 : Heap} {Q : α → Shared → Prop} (q : iW A s.heap) (k : Heap.ExtBut it h0 s.heap) (kl : ∀ e oe, A.handled = some (.ref e) → s.heap.get? e = some oe → True)
    (h : ∀ h' a, Heap.ExtBut it h0 h' → (∃ o', h'.get? a = some o' ∧ o'.cls = .type "StopIteration") → E (.ref a) { s with heap := h' }) : wpAny (model prog w) A (newExc (.type "StopIteration") [] >>= fun e => (raiseNew e : Sem α)) Q E s := by
  refine wpAny_bind ?_; simp only [newExc, newTuple]
  refine wpAny_bind (wpAny_newObj_type ?_ (by size_fits)); refine wpAny_bind (m := firstArgMember _ _) (wpAny_of_eq (a := Value.none) (by first | rfl | (simp only [firstArgMember]; rfl)) ?_); refine wpAny_newObj_type ?_ (by size_fits)
  have q' : ∀ o1 o2 : Obj, iW A ((s.heap.push o1).push o2) := fun o1 o2 => by
    rcases q with q | ⟨e, oe, vs, q, he, r⟩
    · exact .inl q
    · exact .inr ⟨e, oe, vs, q, Heap.get?_push_of_some _ (Heap.get?_push_of_some _ he), r⟩
  refine wO (q' _ _) (Heap.get?_push_size _ rfl) rfl (by rw [Array.size_append]; exact Nat.lt_of_lt_of_le (by decide : 2 < 6) (Nat.le_add_right _ _)) (fun e oe hq he z => ?_) fun h' hx ⟨o', ho', hc'⟩ => h h' _ (fun b o hb e => hx b o ?_ (Heap.get?_push_of_some _ (Heap.get?_push_of_some _ (k b o hb e)))) ⟨o', ho', hc'⟩
  · rcases q with q | ⟨e1, oe1, vs, q, he1, r⟩
    · rw [q] at hq; cases hq
    · rw [q] at hq; cases hq
      exact absurd (Heap.lt_size he1) (by rw [z]; simp)
  · exact Nat.ne_of_lt (Nat.lt_of_lt_of_le (Heap.lt_size (k b o hb e)) (by simp))
theorem sX {it : Addr} {o : Obj} {ws : Array Value} {f : Array Value → Array Value} (q : iW A s.heap) (ho : s.heap.get? it = some o) (hd : o.data = .fields ws) (hn : ∀ e, A.handled = some (.ref e) → e ≠ it) : iW A (s.heap.update it (Obj.mapFields f)) := by
  rcases q with q | ⟨e, oe, vs, q, he, r⟩
  · exact .inl q
  · exact .inr ⟨e, oe, vs, q, by rw [Heap.get?_update_other _ _ (Ne.symm (hn e q))]; exact he, r⟩
theorem yz {it l : Addr} {i : Nat} {items} {Q : Option Value → Shared → Prop} (q : iW A s.heap) (hn : ∀ e, A.handled = some (.ref e) → e ≠ it) (hit : s.heap.IsListIter it l i) (hl : s.heap.IsList l items) (hx : items[i]? = none)
    (hQ : ∀ h', Heap.ExtBut it s.heap h' → Q none { s with heap := h' }) : wpAny (model prog w) A (pyNext (.ref it)) Q E s := by
  obtain ⟨o, ho, hc, hd⟩ := id hit
  obtain ⟨ol, hol, _, nl, hdl⟩ := hl; unfold pyNext
  refine wpAny_bind (wpAny_attempt (wpAny_callSpecial?_slot (name := Str.ofString "__next__") hit.typeIs slot_listiter_next (wpAny_call_entry slot_listiter_next hit.typeIs entry_listiter_next ?_ (args_listiter_next _))))
  show wpAny _ _ (field (.ref it) 0 >>= _) _ _ s; refine wpAny_bind (wpAny_field ho hd (x := .ref l) rfl ?_)
  show wpAny _ _ (if (Value.ref l == Value.none) = true then _ else _) _ _ s; rw [if_neg (show ¬ ((Value.ref l == Value.none) = true) from Bool.false_ne_true)]
  show wpAny _ _ (field (.ref it) 1 >>= _) _ _ s; refine wpAny_bind (wpAny_field ho hd (x := .int i 0) rfl ?_)
  show wpAny _ _ (seqItems? (.ref l) >>= _) _ _ s; refine wpAny_bind (wpAny_seqItems hol hdl ?_); simp only [Int.toNat_natCast, hx]
  refine wpAny_bind (wpAny_rule (wpAny_bind (wpAny_setField ho hd (by simp) ?_)))
  refine wD (it := it) (h0 := s.heap) (A := A.in1) (sX (A := A.in1) q ho hd hn) (Heap.SameBut.update ..).extBut (fun _ _ _ _ => trivial) fun h' a hx' ⟨o', ho', hc'⟩ => ?_
  refine wpAny_bind (wpAny_isInstance (T := "StopIteration") (b := true) ⟨_, ho', hc'⟩ isSubtype_stop ?_); exact wpAny_pure (hQ _ hx')
theorem tq {it t : Addr} {i : Nat} {items} {Q : Option Value → Shared → Prop} (q : iW A s.heap) (hn : ∀ e, A.handled = some (.ref e) → e ≠ it) (hit : IsTupIter s.heap it t i) (ht : IsTup s.heap t items) (hx : items[i]? = none)
    (hQ : ∀ h', Heap.ExtBut it s.heap h' → Q none { s with heap := h' }) : wpAny (model prog w) A (pyNext (.ref it)) Q E s := by
  obtain ⟨o, ho, hc, hd⟩ := id hit
  obtain ⟨ol, hol, _, nl, hdl⟩ := ht; unfold pyNext
  refine wpAny_bind (wpAny_attempt (wpAny_callSpecial?_slot (name := Str.ofString "__next__") hit.typeIs slot_tupleiter_next (wpAny_call_entry slot_tupleiter_next hit.typeIs entry_tupleiter_next ?_ (args_tupleiter_next _))))
  show wpAny _ _ (field (.ref it) 0 >>= _) _ _ s; refine wpAny_bind (wpAny_field ho hd (x := .ref t) rfl ?_)
  show wpAny _ _ (if (Value.ref t == Value.none) = true then _ else _) _ _ s; rw [if_neg (show ¬ ((Value.ref t == Value.none) = true) from Bool.false_ne_true)]
  show wpAny _ _ (field (.ref it) 1 >>= _) _ _ s; refine wpAny_bind (wpAny_field ho hd (x := .int i 0) rfl ?_)
  show wpAny _ _ (seqItems? (.ref t) >>= _) _ _ s; refine wpAny_bind (wpAny_seqItems hol hdl ?_); simp only [Int.toNat_natCast, hx]
  refine wpAny_bind (wpAny_rule (wpAny_bind (wpAny_setField ho hd (by simp) ?_)))
  refine wD (it := it) (h0 := s.heap) (A := A.in1) (sX (A := A.in1) q ho hd hn) (Heap.SameBut.update ..).extBut (fun _ _ _ _ => trivial) fun h' a hx' ⟨o', ho', hc'⟩ => ?_
  refine wpAny_bind (wpAny_isInstance (T := "StopIteration") (b := true) ⟨_, ho', hc'⟩ isSubtype_stop ?_); exact wpAny_pure (hQ _ hx')
theorem yS {env : Env} {elts : List Expr} {x1} {pos : Pos} {t : Addr} {items : Array Value} {Q : Unit → Shared → Prop} (q : iW A s.heap) (ht : IsTup s.heap t items) (hn : (assignEach elts env).length = items.size)
    (hstar : (assignEach elts env).findIdx? (·.1) = none) (h : ∀ h', Heap.ExtBut s.heap.objs.size s.heap h' → wpAny (model prog w) A (assignInOrder ((assignEach elts env).map (·.2)) items.toList) Q E { s with heap := h' }) :
    wpAny (model prog w) A (assign (.Tuple elts x1 pos) env (.ref t)) Q E s := by
  rw [assign_Tuple]
  refine wpAny_bind (wpAny_standAt ?_)
  unfold unpack; rw [hn, hstar]
  refine wpAny_bind (wpAny_holding ?_)
  have hlt : t ≠ s.heap.objs.size := by obtain ⟨o, ho, _⟩ := ht; exact Nat.ne_of_lt (Heap.lt_size ho)
  unfold unpackItems; refine wpAny_bind ?_
  unfold notIterableAtAll; refine wpAny_bind (wpAny_specialOf ht.typeIs slot_tuple_iter.lookup ?_); refine wpAny_pure ?_; simp only [Bool.false_eq_true, if_false]
  refine wpAny_bind (wpAny_holding (iter_tuple ht ?_))
  refine wpAny_bind (wpAny_holding (draw_tuple hlt items.size 0 _ _ ⟨_, Heap.get?_push_size _ rfl, rfl, rfl⟩ (ht.push _) (by omega) fun h₁ hit₁ hs₁ => ?_))
  rw [show List.take items.size (List.drop 0 items.toList) = items.toList from by rw [List.drop_zero]; exact List.take_of_length_le (by simp), if_neg (by simp)]
  have fr : ∀ e, A.handled = some (.ref e) → e ≠ s.heap.objs.size := fun e hq => by
    rcases q with q | ⟨e1, oe1, vs, q, he1, r⟩
    · rw [q] at hq; cases hq
    · rw [q] at hq; cases hq; exact Nat.ne_of_lt (Heap.lt_size he1)
  have q1 : iW A h₁ := by
    rcases q with q | ⟨e, oe, vs, q, he, r⟩
    · exact .inl q
    · exact .inr ⟨e, oe, vs, q, hs₁.extBut e oe (fr e q) (Heap.get?_push_of_some _ he), r⟩
  refine wpAny_bind (wpAny_holding (tq q1 fr hit₁ ((ht.push _).extBut hs₁.extBut hlt) (by simp) fun h₂ he₂ => ?_)); simp only [Option.isSome_none, Bool.false_eq_true, if_false]
  exact wpAny_pure (h h₂ fun b o hb e => he₂ b o hb (hs₁.extBut b o hb (Heap.get?_push_of_some _ e)))
end
end L2
set_option Elab.async false
set_option linter.all false
set_option maxRecDepth 100000
namespace L2
open PySem PySem.Spec PyProof.Rows
abbrev Key := Sum Int Str
def Mc : Key → Value → Bool
  | .inl k, v => Value.isInt k v
  | .inr x, v => Value.isStrOf x v
def Qf (w : World) : Key → Int
  | .inl k => hashInt k
  | .inr x => hashStr w x
theorem dQ : ∀ {k : Key} {v : Value}, Mc k v = true → (∃ i t, k = Sum.inl i ∧ v = Value.int i t) ∨ (∃ x t, k = Sum.inr x ∧ v = Value.str x t)
  | .inl i, v, h => by
    obtain ⟨t, e⟩ := Value.isInt_shape (k := i) (v := v) h
    exact .inl ⟨i, t, rfl, e⟩
  | .inr x, v, h => by
    obtain ⟨t, e⟩ := Value.isStrOf_shape (x := x) (v := v) h
    exact .inr ⟨x, t, rfl, e⟩
theorem MC (a b : Int) : decide ((Sum.inl a : Key) = Sum.inl b) = (a == b) := by
  by_cases e : a = b
  · subst e; simp
  · have h : ¬ (Sum.inl a : Key) = Sum.inl b := fun q => e (Sum.inl.inj q)
    rw [decide_eq_false h]
    exact (beq_eq_false_iff_ne.mpr e).symm
theorem N9 (a b : Str) : decide ((Sum.inr a : Key) = Sum.inr b) = decide (a = b) := by
  by_cases e : a = b
  · subst e; simp
  · have h : ¬ (Sum.inr a : Key) = Sum.inr b := fun q => e (Sum.inr.inj q)
    rw [decide_eq_false h, decide_eq_false e]
theorem NG (a : Int) (b : Str) : decide ((Sum.inl a : Key) = Sum.inr b) = false := decide_eq_false (fun q => nomatch q)
theorem MD (a : Str) (b : Int) : decide ((Sum.inr a : Key) = Sum.inl b) = false := decide_eq_false (fun q => nomatch q)
def Gk (prog : Program) (w : World) : PySem.KeyKind prog w Key where
  is := Mc
  hash := Qf w
  inj := fun v a b ha hb => by
    rcases dQ ha with ⟨i, t, rfl, rfl⟩ | ⟨x, t, rfl, rfl⟩
    · rcases dQ hb with ⟨j, u, rfl, e⟩ | ⟨y, u, rfl, e⟩
      · injection e with e1 _; rw [e1]
      · exact nomatch e
    · rcases dQ hb with ⟨j, u, rfl, e⟩ | ⟨y, u, rfl, e⟩
      · exact nomatch e
      · injection e with e1 _; rw [e1]
  byValue := fun k v h => by
    rcases dQ h with ⟨i, t, rfl, rfl⟩ | ⟨x, t, rfl, rfl⟩ <;> rfl
  pyHash := fun hv h => by
    rcases dQ hv with ⟨i, t, rfl, rfl⟩ | ⟨x, t, rfl, rfl⟩
    · exact wpAny_pyHash_int h
    · exact wpAny_pyHash_str h
  eqBool := fun hu hv h => by
    rcases dQ hu with ⟨i, t, rfl, rfl⟩ | ⟨x, t, rfl, rfl⟩
    · rcases dQ hv with ⟨j, u, rfl, rfl⟩ | ⟨y, u, rfl, rfl⟩
      · rw [MC] at h; exact wpAny_eqBool_int h
      · rw [NG] at h; exact SeqAt.EqAt.int_str i t y u _ _ _ _ h
    · rcases dQ hv with ⟨j, u, rfl, rfl⟩ | ⟨y, u, rfl, rfl⟩
      · rw [MD] at h; exact SeqAt.EqAt.str_int x t j u _ _ _ _ h
      · rw [N9] at h; exact wpAny_eqBool_str h
  «strs» := fun k x t v h => by
    rcases dQ h with ⟨i, u, rfl, e⟩ | ⟨y, u, rfl, e⟩
    · exact nomatch e
    · injection e with e1 _
      subst e1
      cases v <;> rfl
end L2
namespace L2
open PySem PySem.Spec PyProof.Rows
inductive V where
  | non | bl (b : Bool) | int (i : Int) | str (x : Str) | byt (b : Array UInt8) | flt (b : UInt64) | ref (a : Addr) | ty (n : String)
  deriving DecidableEq
def RelV : V → Value → Prop
  | .non, u => u = Value.none
  | .bl b, u => u = Value.bool b
  | .int i, u => ∃ t, u = Value.int i t
  | .str x, u => ∃ t, u = Value.str x t
  | .byt b, u => ∃ t, u = Value.bytes b t
  | .flt b, u => ∃ t, u = Value.float b t
  | .ref a, u => u = Value.ref a
  | .ty n, u => u = Value.type n
abbrev Vals : List V → List Value → Prop := Paired RelV
theorem Vals.length {xs : List V} {us : List Value} (r : Vals xs us) : xs.length = us.length := Paired.length r
theorem Vals.get : ∀ {xs : List V} {us : List Value} {i : Nat} {x : V}, Vals xs us → xs[i]? = some x → ∃ u, us[i]? = some u ∧ RelV x u
  | _, _, _, _, .nil, e => by simp at e
  | _, _, 0, _, .cons r _, e => by simp at e; subst e; exact ⟨_, rfl, r⟩
  | _, _, i + 1, x, .cons _ t, e => by
    obtain ⟨u, h1, h2⟩ := Vals.get (i := i) (x := x) t (by simpa using e)
    exact ⟨u, by simpa using h1, h2⟩
theorem Vals.set {x : V} {u : Value} (r : RelV x u) : ∀ {xs : List V} {us : List Value} (i : Nat), Vals xs us → Vals (xs.set i x) (us.set i u)
  | _, _, _, .nil => .nil
  | _, _, 0, .cons _ t => .cons r t
  | _, _, i + 1, .cons q t => .cons q (Vals.set r i t)
theorem Vals.append : ∀ {xs ys : List V} {us ws : List Value}, Vals xs us → Vals ys ws → Vals (xs ++ ys) (us ++ ws)
  | _, _, _, _, .nil, s => s
  | _, _, _, _, .cons r t, s => .cons r (Vals.append t s)
theorem Vals.take : ∀ {xs : List V} {us : List Value} (n : Nat), Vals xs us → Vals (xs.take n) (us.take n)
  | _, _, 0, _ => .nil
  | _, _, _ + 1, .nil => .nil
  | _, _, n + 1, .cons r t => .cons r (Vals.take n t)
theorem Vals.drop : ∀ {xs : List V} {us : List Value} (n : Nat), Vals xs us → Vals (xs.drop n) (us.drop n)
  | _, _, 0, r => r
  | _, _, _ + 1, .nil => .nil
  | _, _, n + 1, .cons _ t => Vals.drop n t
def Oj : Option V → Option Value → Prop
  | some v, some u => RelV v u
  | none, none => True
  | _, _ => False
def KV {κ : Type} : List (κ × V) → List (κ × Value) → Prop := Paired fun (p : κ × V) (q : κ × Value) => p.1 = q.1 ∧ RelV p.2 q.2
def kV : Key → V
  | .inl i => .int i
  | .inr x => .str x
inductive HO where
  /-- a list -/
  | lst (xs : List V)
  /-- a tuple (never changes) -/
  | tup (xs : List V)
  /-- a dict whose keys are ints and texts; one whose keys are tuples of ints and texts (the empty one is both) -/
  | dK (kvs : List (Key × V)) | dT (kvs : List (List Key × V))
  /-- a set of ints: its members, its size -/
  | set (S : Int → Bool) (n : Nat)
  /-- an instance of the class at C, its dict at dx, its attributes -/
  | ins (C dx : Addr) (fs : List (Str × V))
  /-- the dict of the instance at x -/
  | own (x : Addr)
  /-- the dict of an exception -/
  | xd (fs : List (Str × V))
  /-- a bound method, f of x -/
  | met (f x : Addr)
  /-- a range object lo, lo + 1, .. below hi -/
  | rng (lo hi : Int)
  /-- a thing that is known to the object (the script; a dict while a loop walks it): read, never written while it is so -/
  | frz (o : Obj) (u : HO)
  /-- a code object's table -/
  | tbl (ps : Array Value)
  /-- any other thing, by what is true of its one object (a def of one's own: SetO a S n := HO.ext fun h => ..) -/
  | ext (φ : Heap → Prop)
abbrev Hp := Addr → Option HO
def upd (H : Hp) (a : Addr) (o : HO) : Hp := fun b => if b = a then some o else H b
theorem ja {H : Hp} {a : Addr} {o : HO} : upd H a o a = some o := by unfold upd; rw [if_pos rfl]
theorem cF {H : Hp} {a b : Addr} {o : HO} (h : b ≠ a) : upd H a o b = H b := by unfold upd; rw [if_neg h]
theorem dw {H : Hp} {a b : Addr} {o : HO} (h : H a = some o) (h' : H b = none) : a ≠ b := by
  intro e; subst e; rw [h] at h'; cases h'
section
variable (P : Program) (w : World)
def mf (H : Hp) (h : Heap) (a : Addr) : HO → Prop
  | .lst xs => xs.length ≤ sizeLine ∧ ∃ (its : List Value) (n : Nat), Vals xs its ∧ h.get? a = some { cls := .type "list", data := .seq its.toArray n }
  | .tup xs => xs.length ≤ sizeLine ∧ ∃ its : List Value, Vals xs its ∧ IsTup h a its.toArray
  | .dK kvs => kvs.length ≤ sizeLine ∧ (a == sysModules) = false ∧ ∃ vs, KV kvs vs ∧ h.DictOf (Gk P w) a vs
  | .dT kvs => kvs.length ≤ sizeLine ∧ (a == sysModules) = false ∧ ∃ xs : List (List Key × Addr × Value),
      Paired (fun (p : List Key × V) (q : List Key × Addr × Value) => p.1 = q.1 ∧ H q.2.1 = some (.tup (p.1.map kV)) ∧ RelV p.2 q.2.2) kvs xs ∧
      ∃ o es ep, h.get? a = some o ∧ o.ExactDict ∧ o.data = .dict es ep ∧ es.toList = xs.map (entryOfKey (tupleKind (Gk P w))) ∧ (xs.map (·.1)).Nodup
  | .set S n => h.SetOf (intKind P w) a S n
  | .ins C dx fs => H dx = some (.own a) ∧ fs.length ≤ 1000 ∧ dx ≠ a ∧ h.get? a = some (PySem.W.instObj C dx) ∧
      ∃ mA, h.Ns1 dx mA ∧ (∀ f, Oj (fs.lookup f) (mA f)) ∧ PySem.Within mA (fs.map (·.1))
  | .own _ => ∃ o, h.get? a = some o
  | .xd fs => ∃ mA, h.Ns1 a mA ∧ ∀ f, Oj (fs.lookup f) (mA f)
  | .rng lo hi => ∃ t u v, h.get? a = some { cls := .type "range", data := .fields #[.int lo t, .int hi u, .int 1 v] }
  | .frz o u => h.get? a = some o ∧ mf H h a u
  | .tbl ps => h.get? a = some { cls := .none, data := .fields ps }
  | .met f x => h.get? a = some (PySem.W.methodObj (.ref f) (.ref x))
  | .ext φ => φ h ∧ (∃ o, h.get? a = some o) ∧ ∀ h1 h2 : Heap, φ h1 → (∀ o, h1.get? a = some o → h2.get? a = some o) → φ h2
def HOk (H : Hp) (h : Heap) : Prop := ∀ a o, H a = some o → mf P w H h a o
end
section
variable {P : Program} {w : World} {H H' : Hp} {h h' : Heap} {a : Addr} {o : HO}
theorem mf.lt (x : mf P w H h a o) : a < h.objs.size := by
  cases o with
  | lst xs => obtain ⟨_, _, _, _, e⟩ := x; exact Heap.lt_size e
  | tup xs => obtain ⟨_, _, _, p⟩ := x; exact p.lt
  | dK kvs => obtain ⟨_, _, _, _, o, _, _, e, _⟩ := x; exact Heap.lt_size e
  | dT kvs => obtain ⟨_, _, _, _, o, _, _, e, _⟩ := x; exact Heap.lt_size e
  | set S n => obtain ⟨o, _, _, _, e, _⟩ := x; exact Heap.lt_size e
  | ins C dx fs => obtain ⟨_, _, _, e, _⟩ := x; exact Heap.lt_size e
  | own y => obtain ⟨_, e⟩ := x; exact Heap.lt_size e
  | xd fs => obtain ⟨_, ⟨_, _, _, e, _⟩, _⟩ := x; exact Heap.lt_size e
  | rng lo hi => obtain ⟨_, _, _, e⟩ := x; exact Heap.lt_size e
  | frz ob u => obtain ⟨e, _⟩ := x; exact Heap.lt_size e
  | tbl ps => exact Heap.lt_size (show h.get? a = some _ from x)
  | met f y => exact Heap.lt_size (show h.get? a = some _ from x)
  | ext φ => obtain ⟨_, ⟨_, e⟩, _⟩ := x; exact Heap.lt_size e
theorem Paired.OG {α β : Type} {F G : α → β → Prop} : ∀ {l₁ : List α} {l₂ : List β}, Paired F l₁ l₂ → (∀ a b, F a b → G a b) → Paired G l₁ l₂
  | _, _, .nil, _ => .nil
  | _, _, .cons r t, f => .cons (f _ _ r) (Paired.OG t f)
theorem mf.yU (x : mf P w H h a o) (k : ∀ b u, (b = a ∨ H b = some (.own a)) → h.get? b = some u → h'.get? b = some u)
    (ho : ∀ b, H b = some (.own a) → H' b = some (.own a)) (ht : ∀ b xs, H b = some (.tup xs) → H' b = some (.tup xs)) : mf P w H' h' a o := by
  induction o with
  | lst xs => obtain ⟨z, its, n, r, e⟩ := x; exact ⟨z, its, n, r, k _ _ (.inl rfl) e⟩
  | tup xs => obtain ⟨z, its, r, ob, e, c⟩ := x; exact ⟨z, its, r, ob, k _ _ (.inl rfl) e, c⟩
  | dK kvs => obtain ⟨z, y, vs, r, ob, es, ep, e, c⟩ := x; exact ⟨z, y, vs, r, ob, es, ep, k _ _ (.inl rfl) e, c⟩
  | dT kvs =>
    obtain ⟨z, y, xs, r, ob, es, ep, e, c⟩ := x
    exact ⟨z, y, xs, Paired.OG r fun p q z => ⟨z.1, ht _ _ z.2.1, z.2.2⟩, ob, es, ep, k _ _ (.inl rfl) e, c⟩
  | set S n => obtain ⟨ob, es, ep, t, e, c⟩ := x; exact ⟨ob, es, ep, t, k _ _ (.inl rfl) e, c⟩
  | ins C dx fs =>
    obtain ⟨d, z, ne, e, mA, ⟨od, es, ep, e2, c⟩, r⟩ := x
    exact ⟨ho _ d, z, ne, k _ _ (.inl rfl) e, mA, ⟨od, es, ep, k _ _ (.inr d) e2, c⟩, r⟩
  | own y => obtain ⟨ob, e⟩ := x; exact ⟨ob, k _ _ (.inl rfl) e⟩
  | xd fs => obtain ⟨mA, ⟨od, es, ep, e, c⟩, r⟩ := x; exact ⟨mA, ⟨od, es, ep, k _ _ (.inl rfl) e, c⟩, r⟩
  | rng lo hi => obtain ⟨t, u, v, e⟩ := x; exact ⟨t, u, v, k _ _ (.inl rfl) e⟩
  | frz ob u ih => obtain ⟨e, q⟩ := x; exact ⟨k _ _ (.inl rfl) e, ih q⟩
  | tbl ps =>
    have e : h.get? a = some { cls := .none, data := .fields ps } := x
    show h'.get? a = some { cls := .none, data := .fields ps }
    exact k a _ (.inl rfl) e
  | met f y =>
    have e : h.get? a = some (PySem.W.methodObj (.ref f) (.ref y)) := x
    show h'.get? a = some (PySem.W.methodObj (.ref f) (.ref y))
    exact k a _ (.inl rfl) e
  | ext φ => obtain ⟨p, ⟨o, e⟩, st⟩ := x; exact ⟨st _ _ p fun o q => k _ _ (.inl rfl) q, ⟨o, k _ _ (.inl rfl) e⟩, st⟩
theorem HOk.lt (x : HOk P w H h) (e : H a = some o) : a < h.objs.size := (x a o e).lt
theorem HOk.fresh (x : HOk P w H h) (e : h.objs.size ≤ a) : H a = none := by
  cases q : H a with
  | none => rfl
  | some u => exact absurd (Nat.lt_of_lt_of_le (x.lt q) e) (Nat.lt_irrefl _)
theorem HOk.kept (x : HOk P w H h) (k : ∀ b u, h.get? b = some u → h'.get? b = some u) : HOk P w H h' := fun a o e =>
  (x a o e).yU (fun b u _ q => k b u q) (fun _ q => q) fun _ _ q => q
theorem HOk.laid (x : HOk P w H h) (k : ∀ b u, h.get? b = some u → h'.get? b = some u) (hp : h.objs.size ≤ a) (new : mf P w (upd H a o) h' a o) : HOk P w (upd H a o) h' := fun b u e => by
  have hn := x.fresh hp
  by_cases hb : b = a
  · subst hb; rw [ja] at e; cases e; exact new
  · rw [cF hb] at e
    exact (x b u e).yU (fun c v _ q => k c v q) (fun c q => by rw [cF (dw q hn)]; exact q) fun c xs q => by rw [cF (dw q hn)]; exact q
end
def Rd (H : Hp) (a : Addr) (u : HO) : Prop := H a = some u ∨ ∃ o, H a = some (.frz o u)
theorem Rd.of {H : Hp} {a : Addr} {u : HO} (h : H a = some u) : Rd H a u := .inl h
theorem Rd.ok {P : Program} {w : World} {H : Hp} {h : Heap} {a : Addr} {u : HO} (r : Rd H a u) (x : HOk P w H h) : mf P w H h a u := by
  rcases r with r | ⟨o, r⟩
  · exact x a u r
  · obtain ⟨_, q⟩ := x a _ r
    exact q
def Mut : Option HO → Prop
  | some (.lst _) => True
  | some (.dK _) => True
  | some (.dT _) => True
  | some (.set _ _) => True
  | some (.ins _ _ _) => True
  | some (.ext _) => True
  | _ => False
section
variable {P : Program} {w : World} {H : Hp} {h h' : Heap} {x e : Addr} {o' : HO}
theorem HOk.write (ok : HOk P w H h) (mu : Mut (H x)) (he : e = x ∨ H e = some (.own x)) (k : ∀ b u, b ≠ e → h.get? b = some u → h'.get? b = some u) (heo : ∃ u, h'.get? e = some u)
    (new : mf P w (upd H x o') h' x o') : HOk P w (upd H x o') h' := fun b u q => by
  have nown : ∀ c y, H c = some (.own y) → c ≠ x := fun c y r z => by subst z; rw [r] at mu; exact mu
  have ntup : ∀ c xs, H c = some (.tup xs) → c ≠ x := fun c xs r z => by subst z; rw [r] at mu; exact mu
  by_cases hb : b = x
  · subst hb; rw [ja] at q; cases q; exact new
  · rw [cF hb] at q
    by_cases hbe : b = e
    · have q' : H b = some (.own x) := by
        rcases he with z | z
        · exact absurd (hbe.trans z) hb
        · rw [hbe]; exact z
      rw [q] at q'; cases q'
      obtain ⟨v, hv⟩ := heo
      exact ⟨v, by rw [hbe]; exact hv⟩
    · refine (ok b u q).yU (fun c v hc r => k c v ?_ r) (fun c r => by rw [cF (nown c b r)]; exact r) fun c xs r => by rw [cF (ntup c xs r)]; exact r
      rcases hc with rfl | hc
      · exact hbe
      · rintro rfl
        rcases he with z | z
        · exact nown c b hc z
        · rw [hc] at z; cases z; exact hb rfl
end
structure Un (fs ex : List Addr) (H H' : Hp) (h h' : Heap) : Prop where
  keep : ∀ b o, h.get? b = some o → H b = none → b ∉ fs → b ∉ ex → h'.get? b = some o
  slot : ∀ b o, h.get? b = some o → H b = none → b ∈ fs → b ∉ ex → ∃ sl, h'.get? b = some { o with slots := sl }
  free : ∀ b o, h.get? b = some o → H b = none → b ∉ ex → H' b = none
  there : ∀ b o, h.get? b = some o → b ∉ ex → ∃ o', h'.get? b = some o'
  uz : ∀ b xs, H b = some (.tup xs) → H' b = some (.tup xs)
  tM : ∀ b o u, H b = some (.frz o u) → H' b = some (.frz o u)
  tN : ∀ b ps, H b = some (.tbl ps) → ∃ more, H' b = some (.tbl (ps ++ more))
section
variable {fs fs' ex ex' : List Addr} {H H1 H2 : Hp} {h h1 h2 h' : Heap} {a x e : Addr} {o : HO}
theorem Un.any (u : Un fs ex H H1 h h1) {b : Addr} {ob : Obj} (q : h.get? b = some ob) (n : H b = none) (hx : b ∉ ex) : ∃ sl, h1.get? b = some { ob with slots := sl } := by
  by_cases hb : b ∈ fs
  · exact u.slot b ob q n hb hx
  · exact ⟨ob.slots, u.keep b ob q n hb hx⟩
theorem Un.trans (a : Un fs ex H H1 h h1) (b : Un fs ex H1 H2 h1 h2) : Un fs ex H H2 h h2 where
  keep := fun c ob q n hc hx => b.keep c ob (a.keep c ob q n hc hx) (a.free c ob q n hx) hc hx
  slot := fun c ob q n hc hx => by
    obtain ⟨sl, e1⟩ := a.slot c ob q n hc hx
    obtain ⟨sl', e2⟩ := b.slot c _ e1 (a.free c ob q n hx) hc hx
    exact ⟨sl', e2⟩
  free := fun c ob q n hx => by
    obtain ⟨o', e1⟩ := a.there c ob q hx
    exact b.free c o' e1 (a.free c ob q n hx) hx
  there := fun c ob q hx => by
    obtain ⟨o', e1⟩ := a.there c ob q hx
    exact b.there c o' e1 hx
  uz := fun c xs q => b.uz c xs (a.uz c xs q)
  tM := fun c ob xs q => b.tM c ob xs (a.tM c ob xs q)
  tN := fun c ps q => by
    obtain ⟨m1, e1⟩ := a.tN c ps q
    obtain ⟨m2, e2⟩ := b.tN c _ e1
    exact ⟨m1 ++ m2, by rw [e2, Array.append_assoc]⟩
theorem Un.kept (k : ∀ b u, h.get? b = some u → h'.get? b = some u) : Un fs ex H H h h' :=
  ⟨fun b ob q _ _ _ => k b ob q, fun b ob q _ _ _ => ⟨ob.slots, k b ob q⟩, fun _ _ _ n _ => n, fun b ob q _ => ⟨ob, k b ob q⟩, fun _ _ q => q, fun _ _ _ q => q, fun _ ps q => ⟨#[], by rw [q]; simp⟩⟩
theorem Un.refl : Un fs ex H H h h := Un.kept fun _ _ q => q
theorem Un.laid (k : ∀ b u, h.get? b = some u → h'.get? b = some u) (hp : h.objs.size ≤ a) (hn : H a = none) : Un fs ex H (upd H a o) h h' where
  keep := fun b u q _ _ _ => k b u q
  slot := fun b u q _ _ _ => ⟨u.slots, k b u q⟩
  free := fun b u q n _ => by rw [cF (Nat.ne_of_lt (Nat.lt_of_lt_of_le (Heap.lt_size q) hp))]; exact n
  there := fun b u q _ => ⟨u, k b u q⟩
  uz := fun b xs q => by rw [cF (dw q hn)]; exact q
  tM := fun b u xs q => by rw [cF (dw q hn)]; exact q
  tN := fun b ps q => ⟨#[], by rw [cF (dw q hn), q]; simp⟩
theorem Un.write (mu : Mut (H x)) (he : e = x ∨ H e = some (.own x)) (k : ∀ b u, b ≠ e → h.get? b = some u → h'.get? b = some u) (heo : ∃ u, h'.get? e = some u) : Un fs ex H (upd H x o) h h' := by
  have hx : ∀ b, H b = none → b ≠ x := fun b n z => by subst z; rw [n] at mu; exact mu
  have hb : ∀ b, H b = none → b ≠ e := fun b n z => by
    subst z
    rcases he with r | r
    · exact hx b n r
    · rw [n] at r; cases r
  have hm : ∀ b u, H b = some u → ¬ Mut (some u) → b ≠ x := fun b u q nm z => by subst z; rw [q] at mu; exact nm mu
  refine ⟨fun b u q n _ _ => k b u (hb b n) q, fun b u q n _ _ => ⟨u.slots, k b u (hb b n) q⟩, fun b u q n _ => by rw [cF (hx b n)]; exact n, fun b u q _ => ?_,
    fun b xs q => by rw [cF (hm b _ q fun z => z)]; exact q, fun b u xs q => by rw [cF (hm b _ q fun z => z)]; exact q, fun b ps q => ⟨#[], by rw [cF (hm b _ q fun z => z), q]; simp⟩⟩
  by_cases hbe : b = e
  · subst hbe; exact heo
  · exact ⟨u, k b u hbe q⟩
theorem Un.mono (u : Un fs ex H H1 h h1) (hs : ∀ b ∈ fs, b ∈ fs') (hx : ∀ b ∈ ex, b ∈ ex') : Un fs' ex' H H1 h h1 :=
  ⟨fun b ob q n hb he => u.keep b ob q n (fun z => hb (hs b z)) fun z => he (hx b z), fun _ _ q n _ he => u.any q n fun z => he (hx _ z), fun b ob q n he => u.free b ob q n fun z => he (hx b z), fun b ob q he => u.there b ob q fun z => he (hx b z), u.uz, u.tM, u.tN⟩
end
def trk (h : Heap) (H : Hp) : List Addr := (List.range h.objs.size).filter fun a => (H a).isSome
def Bw (h : Heap) (H : Hp) : Heap := PySem.W.hideAll h (trk h H)
theorem Ia (h : Heap) (H : Hp) : (Bw h H).objs.size = h.objs.size := PySem.W.hideAll_size _ _
theorem JQ {h : Heap} {H : Hp} {b : Addr} {o : Obj} (e : h.get? b = some o) (n : H b = none) : (Bw h H).get? b = some o :=
  PySem.W.hideAll_get _ e fun hm => by
    have q : (H b).isSome = true := (List.mem_filter.mp hm).2
    rw [n] at q; simp at q
theorem Lq {h : Heap} {H : Hp} {b : Addr} {o : Obj} (e : (Bw h H).get? b = some o) : h.get? b = some o ∧ H b = none := by
  have e' : h.get? b = some o := PySem.W.of_hideAll (trk h H) e
  refine ⟨e', ?_⟩
  cases q : H b with
  | none => rfl
  | some x =>
    have hm : b ∈ trk h H := List.mem_filter.mpr ⟨List.mem_range.mpr (Heap.lt_size e'), by simp [q]⟩
    have z : (Bw h H).get? b = none := PySem.W.hideAll_none (trk h H) hm
    rw [z] at e; cases e
def Lw (g h : Heap) (L : Addr) : List (Addr × Obj) := (List.range h.objs.size).filterMap fun a => if a = L ∨ (g.get? a).isSome = true then none else (h.get? a).map fun o => (a, o)
def rest (g h : Heap) (L d : Addr) : List (Addr × Obj) := (Lw g h L).filter fun p => decide (p.1 ≠ d)
end L2
namespace L2
open PySem PySem.Spec PyProof.Rows
structure Mod (K : PySem.W.Frag) (mg : Str → Option Value) (base : Heap) : Prop where
  kin : K.In base
  glob : base.Ns mainGlobals mg
  blt : ∃ mb, base.Ns builtinsNs mb ∧ ∀ x : Str, x ≠ "__name__" → mb x = bootBuiltins x
  nolimit : base.NoLimit
structure Cx where
  prog : Program
  w : World
  K : PySem.W.Frag
  mg : Str → Option Value
  base : Heap
  A : Around
  N : List Str
  s₀ : Shared
  H₀ : Hp
  env : Env
  outer : List Env
  stack : List Env
  ex : List Addr
  fn : Str → Bool
  calm : Bool
  pn : List (Addr × Obj)
  xe : Value → Shared → Prop
def frs (l : List Env) : List Addr := l.filterMap (·.frame)
abbrev Cx.fs (X : Cx) : List Addr := frs X.outer
def Vis (sc : Scope) (x : Str) : Prop := sc.names.lookup x = some .local ∨ sc.names.lookup x = some .cell ∨ sc.names.lookup x = some .free
def Loc (sc : Scope) (x : Str) : Prop := sc.names.lookup x = some .local ∨ sc.names.lookup x = some .cell
def Look (env : Env) (h : Heap) (m : Str → Option Value) (x : Str) (u : Value) : Prop :=
  (env.kindOf x = some .local ∧ m x = some u) ∨ ((env.kindOf x = some .cell ∨ env.kindOf x = some .free) ∧ ∃ c, env.cells.lookup x = some c ∧ h.IsCell c (some u))
structure Cx.Ok (X : Cx) : Prop where
  mod : Mod X.K X.mg X.base
  kind : X.env.scope.kind = .function
  glob : X.env.globals = mainGlobals
  blt : X.env.builtins = builtinsNs
  above : X.s₀.heap.objs.size ≤ X.env.locals
  inj : ∀ x y c, X.env.cells.lookup x = some c → X.env.cells.lookup y = some c → x = y
  has : ∀ x, (X.env.kindOf x = some .cell ∨ X.env.kindOf x = some .free) → ∃ c, X.env.cells.lookup x = some c
  cab : ∀ x c, X.fn x = true → X.env.cells.lookup x = some c → X.s₀.heap.objs.size ≤ c
  hd : X.calm = true → X.A.handled = none
  qt : X.A.handled = none ∨ ∃ (e : Addr) (oe : Obj) (vs : Array Value), X.A.handled = some (.ref e) ∧ (e, oe) ∈ X.pn ∧ oe.data = .fields vs ∧ vs[2]? = some .none
  frames : X.A.frames = some X.stack
  stk : X.stack = X.outer ∨ (X.stack = X.env :: X.outer ∧ X.env.frame = some X.env.locals)
  exf : ∀ b ∈ X.ex, b ≠ X.env.locals ∧ ∀ x c, X.env.cells.lookup x = some c → c ≠ b
  bs : ∀ b o, X.base.get? b = some o → X.s₀.heap.get? b = some o ∧ X.H₀ b = none
  bsz : X.base.objs.size ≤ X.s₀.heap.objs.size
  HN : ∀ b o, X.base.get? b = some o → b ∉ X.ex
  KW : ∀ b ∈ X.ex, b ∉ X.fs
  xG : X.s₀.heap.FunFrames X.base X.outer
  frf : ∀ b ∈ X.fs, X.H₀ b = none
structure Inv (X : Cx) (pins : List (Addr × Obj)) (σ : List (Option V)) (H : Hp) (s : Shared) : Prop where
  ok : X.Ok
  os : s.os = X.s₀.os
  bare : AllBare s.gens
  base : Un X.fs X.ex X.H₀ H X.s₀.heap s.heap
  loc : ∃ m, s.heap.Ns X.env.locals m ∧ ∀ (i : Nat) (x : Str) (v : V), X.N[i]? = some x → σ[i]? = some (some v) → Vis X.env.scope x → ∃ u, RelV v u ∧ Look X.env s.heap m x u
  cell : ∀ x c, X.env.cells.lookup x = some c → ∃ v, s.heap.IsCell c v
  free : H X.env.locals = none
  pJ : ∀ x c, X.env.cells.lookup x = some c → H c = none
  pin : ∀ p ∈ X.pn ++ pins, s.heap.get? p.1 = some p.2 ∧ H p.1 = none ∧ p.1 ≠ X.env.locals ∧ p.1 ∉ X.fs ∧ ∀ v, p.2.data ≠ .cell v
  hok : HOk X.prog X.w H s.heap
  len : σ.length = X.N.length
section
variable {X : Cx} {pins : List (Addr × Obj)} {σ : List (Option V)} {H H' : Hp} {s : Shared} {h' : Heap}
theorem Inv.ET (I : Inv X pins σ H s) : iW X.A s.heap := by
  rcases I.ok.qt with q | ⟨e, oe, vs, q, hp, r⟩
  · exact .inl q
  · exact .inr ⟨e, oe, vs, q, (I.pin (e, oe) (List.mem_append_left _ hp)).1, r⟩
theorem Inv.hne (I : Inv X pins σ H s) {b : Addr} (hb : ∀ p ∈ X.pn ++ pins, p.1 ≠ b) : ∀ e, X.A.handled = some (.ref e) → e ≠ b := fun e he => by
  rcases I.ok.qt with q | ⟨e1, oe, vs, q, hp, r⟩
  · rw [q] at he; cases he
  · rw [q] at he; cases he; exact hb (e, oe) (List.mem_append_left _ hp)
theorem Cx.Ok.PM (ok : X.Ok) {b : Addr} {o : Obj} (e : X.base.get? b = some o) : b ∉ X.fs := fun hb => by
  have := (ok.xG.mem hb).1
  rw [e] at this; cases this
theorem Inv.bs (I : Inv X pins σ H s) : ∀ b o, X.base.get? b = some o → s.heap.get? b = some o ∧ H b = none := fun b o e =>
  ⟨I.base.keep b o (I.ok.bs b o e).1 (I.ok.bs b o e).2 (I.ok.PM e) (I.ok.HN b o e), I.base.free b o (I.ok.bs b o e).1 (I.ok.bs b o e).2 (I.ok.HN b o e)⟩
theorem Inv.bk (I : Inv X pins σ H s) : ∀ b o, X.base.get? b = some o → s.heap.get? b = some o := fun b o e => (I.bs b o e).1
theorem Inv.mod (I : Inv X pins σ H s) : Mod X.K X.mg X.base := I.ok.mod
theorem Inv.kIn (I : Inv X pins σ H s) : X.K.In s.heap := I.ok.mod.kin.keeps I.bk
theorem Inv.lt (I : Inv X pins σ H s) : X.env.locals < s.heap.objs.size := let ⟨_, hn, _⟩ := I.loc; hn.lt
theorem Inv.sz (I : Inv X pins σ H s) : X.s₀.heap.objs.size ≤ s.heap.objs.size := Nat.le_trans I.ok.above (Nat.le_of_lt I.lt)
theorem Inv.PK (I : Inv X pins σ H s) {a : Addr} (h : s.heap.objs.size ≤ a) : a ∉ X.fs := fun hb => by
  obtain ⟨_, o, ho, _⟩ := I.ok.xG.mem hb
  exact absurd (Nat.lt_of_lt_of_le (Heap.lt_size ho) (Nat.le_trans I.sz h)) (Nat.lt_irrefl _)
theorem Inv.cne (I : Inv X pins σ H s) : ∀ x c, X.env.cells.lookup x = some c → c ≠ X.env.locals := fun x c e z => by
  obtain ⟨v, o, ho, hd⟩ := I.cell x c e
  obtain ⟨m, ⟨o', es, ep, ho', hd', _⟩, _⟩ := I.loc
  rw [z, ho'] at ho; cases ho; rw [hd'] at hd; cases hd
theorem Inv.xG (I : Inv X pins σ H s) : s.heap.FunFrames X.base X.outer := by
  have all : ∀ (l : List Env), (∀ b ∈ frs l, b ∈ X.fs) → X.s₀.heap.FunFrames X.base l → s.heap.FunFrames X.base l := by
    intro l
    induction l with
    | nil => intro _ _; trivial
    | cons env r ih =>
      intro hs hl
      obtain ⟨hk, ⟨L, o, hf, hn, ho, hd⟩, hr⟩ := hl
      have hL : L ∈ X.fs := hs L (by unfold frs; rw [List.filterMap_cons, hf]; exact List.mem_cons_self)
      obtain ⟨sl, e⟩ := I.base.slot L o ho (I.ok.frf L hL) hL fun z => I.ok.KW L z hL
      exact ⟨hk, ⟨L, _, hf, hn, e, hd⟩, ih (fun b hb => hs b (by unfold frs; rw [List.filterMap_cons, hf]; exact List.mem_cons_of_mem _ hb)) hr⟩
  exact all X.outer (fun _ hb => hb) I.ok.xG
theorem Inv.stack (I : Inv X pins σ H s) : s.heap.FunFrames X.base X.stack := by
  rcases I.ok.stk with e | ⟨e, hf⟩
  · rw [e]; exact I.xG
  · rw [e]
    obtain ⟨m, hn, _⟩ := I.loc
    refine .cons (by rw [I.ok.kind]; decide) hf hn ?_ I.xG
    exact Heap.get?_none_of_le (Nat.le_trans I.ok.bsz I.ok.above)
theorem Inv.uH (I : Inv X pins σ H s) : ∀ b ∈ frs X.stack, b ∈ X.env.locals :: X.fs := fun b hb => by
  rcases I.ok.stk with e | ⟨e, hf⟩
  · rw [e] at hb; exact List.mem_cons_of_mem _ hb
  · rw [e] at hb
    unfold frs at hb
    rw [List.filterMap_cons, hf] at hb
    exact hb
theorem Inv.BV (I : Inv X pins σ H s) : ∀ b ∈ frs X.stack, H b = none := fun b hb => by
  rcases List.mem_cons.mp (I.uH b hb) with e | hb
  · rw [e]; exact I.free
  · obtain ⟨_, o, ho, _⟩ := I.ok.xG.mem hb
    exact I.base.free b o ho (I.ok.frf b hb) fun z => I.ok.KW b z hb
theorem Inv.step {g' : Array GenState} {t' : Nat} {d' : Drawn} {ch : List Addr} (I : Inv X pins σ H s)
    (hch : ∀ b ∈ ch, (b ∈ X.ex ∨ X.s₀.heap.objs.size ≤ b) ∧ b ≠ X.env.locals ∧ (∀ x c, X.env.cells.lookup x = some c → c ≠ b) ∧ ∀ p ∈ X.pn ++ pins, p.1 ≠ b)
    (keep : ∀ b o, b ≠ X.env.locals → b ∉ X.fs → b ∉ ch → s.heap.get? b = some o → H b = none → h'.get? b = some o)
    (slot : ∀ b o, b ≠ X.env.locals → b ∈ X.fs → b ∉ ch → s.heap.get? b = some o → H b = none → ∃ sl, h'.get? b = some { o with slots := sl }) (free : ∀ b o, b ∉ ch → s.heap.get? b = some o → H b = none → H' b = none)
    (there : ∀ b o, b ∉ ch → s.heap.get? b = some o → ∃ o', h'.get? b = some o')
    (uz : ∀ b xs, H b = some (.tup xs) → H' b = some (.tup xs)) (tM : ∀ b o u, H b = some (.frz o u) → H' b = some (.frz o u)) (tN : ∀ b ps, H b = some (.tbl ps) → ∃ more, H' b = some (.tbl (ps ++ more)))
    (ns : ∀ m, s.heap.Ns X.env.locals m → h'.Ns X.env.locals m) (hok : HOk X.prog X.w H' h') (hg : AllBare g') :
    Inv X pins σ H' { s with heap := h', gens := g', drawn := d', toks := t' } := by
  have neL : ∀ b o, X.s₀.heap.get? b = some o → b ≠ X.env.locals := fun b o e => Nat.ne_of_lt (Nat.lt_of_lt_of_le (Heap.lt_size e) I.ok.above)
  have neC : ∀ b o, X.s₀.heap.get? b = some o → b ∉ X.ex → b ∉ ch := fun b o e hx hb => by
    rcases (hch b hb).1 with z | z
    · exact hx z
    · exact absurd (Nat.lt_of_lt_of_le (Heap.lt_size e) z) (Nat.lt_irrefl _)
  have cellK : ∀ x c, X.env.cells.lookup x = some c → ∀ v, s.heap.IsCell c v → h'.IsCell c v := fun x c e v ⟨o, ho, hd⟩ => by
    have nch : c ∉ ch := fun z => (hch c z).2.2.1 x c e rfl
    by_cases hc : c ∈ X.fs
    · obtain ⟨sl, q⟩ := slot c o (I.cne x c e) hc nch ho (I.pJ x c e)
      exact ⟨_, q, hd⟩
    · exact ⟨o, keep c o (I.cne x c e) hc nch ho (I.pJ x c e), hd⟩
  refine ⟨I.ok, I.os, hg, ⟨fun b o e n hb hx => ?_, fun b o e n hb hx => ?_, fun b o e n hx => ?_, fun b o e hx => ?_, fun b xs e => uz b xs (I.base.uz b xs e), fun b o xs e => tM b o xs (I.base.tM b o xs e), fun b ps e => ?_⟩, ?_, fun x c e => ?_, ?_, fun x c e => ?_, fun p hp => ?_, hok, I.len⟩
  · exact keep b o (neL b o e) hb (neC b o e hx) (I.base.keep b o e n hb hx) (I.base.free b o e n hx)
  · obtain ⟨sl, e1⟩ := I.base.slot b o e n hb hx
    obtain ⟨sl', e2⟩ := slot b _ (neL b o e) hb (neC b o e hx) e1 (I.base.free b o e n hx)
    exact ⟨sl', e2⟩
  · obtain ⟨o', e1⟩ := I.base.there b o e hx
    exact free b o' (neC b o e hx) e1 (I.base.free b o e n hx)
  · obtain ⟨o', e1⟩ := I.base.there b o e hx
    exact there b o' (neC b o e hx) e1
  · obtain ⟨m1, e1⟩ := I.base.tN b ps e
    obtain ⟨m2, e2⟩ := tN b _ e1
    exact ⟨m1 ++ m2, by rw [e2, Array.append_assoc]⟩
  · obtain ⟨m, hn, hl⟩ := I.loc
    refine ⟨m, ns m hn, fun i x v e1 e2 e3 => ?_⟩
    obtain ⟨u, r, l⟩ := hl i x v e1 e2 e3
    refine ⟨u, r, ?_⟩
    rcases l with l | ⟨k, c, e, z⟩
    · exact .inl l
    · exact .inr ⟨k, c, e, cellK x c e _ z⟩
  · obtain ⟨v, z⟩ := I.cell x c e
    exact ⟨v, cellK x c e v z⟩
  · obtain ⟨m, ⟨o, _, _, ho, _⟩, _⟩ := I.loc
    exact free _ o (fun z => (hch _ z).2.1 rfl) ho I.free
  · obtain ⟨v, o, ho, hd⟩ := I.cell x c e
    exact free c o (fun z => (hch c z).2.2.1 x c e rfl) ho (I.pJ x c e)
  · obtain ⟨e, n, ne, nf, d⟩ := I.pin p hp
    have nch : p.1 ∉ ch := fun z => (hch p.1 z).2.2.2 p hp rfl
    exact ⟨keep p.1 p.2 ne nf nch e n, free p.1 p.2 nch e n, ne, nf, d⟩
theorem Inv.un {t' : Nat} (I : Inv X pins σ H s) (u : Un X.fs [] H H' s.heap h') (hok : HOk X.prog X.w H' h') : Inv X pins σ H' { s with heap := h', toks := t' } := by
  obtain ⟨m, ⟨o, es, ep, ho, r⟩, _⟩ := id I.loc
  obtain ⟨sl, hL⟩ := u.any ho I.free (by simp)
  exact I.step (g' := s.gens) (d' := s.drawn) (ch := []) (fun _ z => nomatch z) (fun b o _ hb _ e n => u.keep b o e n hb (by simp)) (fun b o _ hb _ e n => u.slot b o e n hb (by simp)) (fun b o _ e n => u.free b o e n (by simp)) (fun b o _ e => u.there b o e (by simp)) u.uz u.tM u.tN (fun m' hm => by
    obtain ⟨o', es', ep', ho', r'⟩ := hm
    rw [ho] at ho'; cases ho'
    exact ⟨_, es', ep', hL, r'⟩) hok I.bare
theorem Inv.call {g' : Array GenState} {t' : Nat} {d' : Drawn} {ch : List Addr} (I : Inv X pins σ H s) (u : Un (frs X.stack) ch H H' s.heap h') (hok : HOk X.prog X.w H' h') (hg : AllBare g')
    (hch : ∀ b ∈ ch, (b ∈ X.ex ∨ X.s₀.heap.objs.size ≤ b) ∧ b ≠ X.env.locals ∧ (∀ x c, X.env.cells.lookup x = some c → c ≠ b) ∧ ∀ p ∈ X.pn ++ pins, p.1 ≠ b) :
    Inv X pins σ H' { s with heap := h', gens := g', drawn := d', toks := t' } := by
  obtain ⟨m, ⟨o, es, ep, ho, r⟩, _⟩ := id I.loc
  obtain ⟨sl, hL⟩ := u.any ho I.free fun z => (hch _ z).2.1 rfl
  exact I.step (ch := ch) hch (fun b o hL hb hc e n => u.keep b o e n (fun z => (List.mem_cons.mp (I.uH b z)).elim hL hb) hc) (fun b o _ _ hc e n => u.any e n hc) (fun b o hc e n => u.free b o e n hc) (fun b o hc e => u.there b o e hc) u.uz u.tM u.tN (fun m' hm => by
    obtain ⟨o', es', ep', ho', r'⟩ := hm
    rw [ho] at ho'; cases ho'
    exact ⟨_, es', ep', hL, r'⟩) hok hg
theorem Inv.turned {t' : Nat} {it : Addr} (I : Inv X pins σ H s) (k : ∀ b o, b ≠ it → s.heap.get? b = some o → h'.get? b = some o) (hn : H it = none) (hL : it ≠ X.env.locals)
    (h1 : it ∈ X.ex ∨ X.s₀.heap.objs.size ≤ it) (h2 : ∀ x c, X.env.cells.lookup x = some c → c ≠ it) (h3 : ∀ p ∈ X.pn ++ pins, p.1 ≠ it) : Inv X pins σ H { s with heap := h', toks := t' } := by
  have nit : ∀ b u, H b = some u → b ≠ it := fun b u e z => by rw [z, hn] at e; cases e
  refine I.step (g' := s.gens) (d' := s.drawn) (ch := [it]) (fun b hb => ?_) (fun b o _ _ hc e _ => k b o (fun z => hc (by simp [z])) e) (fun b o _ _ hc e _ => ⟨o.slots, k b o (fun z => hc (by simp [z])) e⟩) (fun _ _ _ _ n => n)
    (fun b o hc e => ⟨o, k b o (fun z => hc (by simp [z])) e⟩) (fun _ _ e => e) (fun _ _ _ e => e) (fun b ps e => ⟨#[], by rw [e]; simp⟩) (fun m hm => ?_) (fun b u e => ?_) I.bare
  · have e : b = it := by simpa using hb
    subst e
    exact ⟨h1, hL, h2, h3⟩
  · obtain ⟨o, es, ep, ho, r⟩ := hm
    exact ⟨o, es, ep, k _ o (Ne.symm hL) ho, r⟩
  · refine (I.hok b u e).yU (fun c v hc q => k c v ?_ q) (fun _ q => q) fun _ _ q => q
    rcases hc with z | z
    · rw [z]; exact nit b u e
    · exact nit c _ z
theorem Inv.tok (I : Inv X pins σ H s) (t : Nat) : Inv X pins σ H { s with toks := t } := I.un (h' := s.heap) (t' := t) Un.refl I.hok
theorem Inv.kept {t' : Nat} (I : Inv X pins σ H s) (k : ∀ b u, s.heap.get? b = some u → h'.get? b = some u) : Inv X pins σ H { s with heap := h', toks := t' } := I.un (Un.kept k) (I.hok.kept k)
theorem Inv.laid {a : Addr} {o : HO} {t' : Nat} (I : Inv X pins σ H s) (k : ∀ b u, s.heap.get? b = some u → h'.get? b = some u) (hp : s.heap.objs.size ≤ a) (new : mf X.prog X.w (upd H a o) h' a o) :
    Inv X pins σ (upd H a o) { s with heap := h', toks := t' } := I.un (Un.laid k hp (I.hok.fresh hp)) (I.hok.laid k hp new)
theorem Inv.write {x e : Addr} {o : HO} {t' : Nat} (I : Inv X pins σ H s) (mu : Mut (H x)) (he : e = x ∨ H e = some (.own x)) (k : ∀ b u, b ≠ e → s.heap.get? b = some u → h'.get? b = some u) (heo : ∃ u, h'.get? e = some u)
    (new : mf X.prog X.w (upd H x o) h' x o) : Inv X pins σ (upd H x o) { s with heap := h', toks := t' } := I.un (Un.write mu he k heo) (I.hok.write mu he k heo new)
theorem Inv.Gz {pins' : List (Addr × Obj)} (I : Inv X pins σ H s) (h : ∀ p ∈ pins', s.heap.get? p.1 = some p.2 ∧ H p.1 = none ∧ p.1 ≠ X.env.locals ∧ p.1 ∉ X.fs ∧ ∀ v, p.2.data ≠ .cell v) : Inv X pins' σ H s :=
  ⟨I.ok, I.os, I.bare, I.base, I.loc, I.cell, I.free, I.pJ, fun p hp => (List.mem_append.mp hp).elim (fun z => I.pin p (List.mem_append_left _ z)) (h p), I.hok, I.len⟩
theorem Cv {N : List Str} (hN : N.Nodup) {i j : Nat} {x : Str} (a : N[i]? = some x) (b : N[j]? = some x) : i = j := by
  obtain ⟨h1, e1⟩ := List.getElem?_eq_some_iff.mp a
  obtain ⟨h2, e2⟩ := List.getElem?_eq_some_iff.mp b
  exact (List.getElem_inj hN).mp (e1.trans e2.symm)
theorem Hs {M : Model} {A : Around} {E : Value → Shared → Prop} {i : Nat} {x : Str} {v : V} {u : Value} {Q : Unit → Shared → Prop} (I : Inv X pins σ H s) (hN : X.N.Nodup) (hi : X.N[i]? = some x) (hx : Loc X.env.scope x) (r : RelV v u)
    (h : ∀ s', Inv X pins (σ.set i (some v)) H s' → (∃ a, Heap.SameBut a s.heap s'.heap ∧ (a = X.env.locals ∨ X.env.cells.lookup x = some a)) → Q () s') (hf : X.fn x = true ∨ X.env.scope.names.lookup x = some .local := by first | exact .inl rfl | exact .inr rfl | assumption) : wpAny M A (storeName X.env x u) Q E s := by
  obtain ⟨m, hn, hl⟩ := id I.loc
  have hcls : (X.env.scope.kind == .class || (X.env.scope.kind == .module && X.env.locals != X.env.globals)) = false := by rw [I.ok.kind]; rfl
  have hiσ : i < σ.length := by rw [I.len]; exact (List.getElem?_eq_some_iff.mp hi).1
  have cne := I.cne
  have tracked : ∀ {a : Addr} {h' : Heap}, (∃ o, s.heap.get? a = some o ∧ H a = none) → Heap.SameBut a s.heap h' → HOk X.prog X.w H h' := fun {a h'} ha hs b ob e => by
    obtain ⟨_, _, hfree⟩ := ha
    refine (I.hok b ob e).yU (fun c w' hc q => (hs.2 c ?_).trans q) (fun _ q => q) fun _ _ q => q
    rintro rfl
    rcases hc with rfl | hc
    · rw [hfree] at e; cases e
    · rw [hfree] at hc; cases hc
  rcases hx with hk | hk
  · refine wpAny_storeName_local hk hn (fun h' hn' hs => ?_) hcls
    obtain ⟨oL, _, _, hoL, _⟩ := id hn
    refine h _ ⟨I.ok, I.os, I.bare, ⟨fun b o e n hb hx => ?_, fun b o e n hb hx => ?_, I.base.free, fun b o e hx => ?_, I.base.uz, I.base.tM, I.base.tN⟩, ⟨_, hn', fun j y v' e1 e2 e3 => ?_⟩, fun y c e => ?_, I.free, I.pJ, fun p hp => ?_, tracked ⟨oL, hoL, I.free⟩ hs, by simpa using I.len⟩ ⟨_, hs, .inl rfl⟩
    · exact (hs.2 b (Nat.ne_of_lt (Nat.lt_of_lt_of_le (Heap.lt_size e) I.ok.above))).trans (I.base.keep b o e n hb hx)
    · obtain ⟨sl, e1⟩ := I.base.slot b o e n hb hx
      exact ⟨sl, (hs.2 b (Nat.ne_of_lt (Nat.lt_of_lt_of_le (Heap.lt_size e) I.ok.above))).trans e1⟩
    · obtain ⟨o', e1⟩ := I.base.there b o e hx
      exact ⟨o', (hs.2 b (Nat.ne_of_lt (Nat.lt_of_lt_of_le (Heap.lt_size e) I.ok.above))).trans e1⟩
    · by_cases hj : j = i
      · subst hj
        rw [hi] at e1; cases e1
        rw [List.getElem?_set_self hiσ] at e2
        cases e2
        exact ⟨u, r, .inl ⟨hk, by simp⟩⟩
      · rw [List.getElem?_set_ne (Ne.symm hj)] at e2
        obtain ⟨u', r', q⟩ := hl j y v' e1 e2 e3
        refine ⟨u', r', ?_⟩
        rcases q with ⟨k, e⟩ | ⟨k, c, e, z⟩
        · refine .inl ⟨k, ?_⟩
          have : y ≠ x := fun e => hj (Cv hN e1 (e ▸ hi))
          simp [this, e]
        · exact .inr ⟨k, c, e, z.sameBut hs (cne y c e)⟩
    · obtain ⟨w', z⟩ := I.cell y c e
      exact ⟨w', z.sameBut hs (cne y c e)⟩
    · obtain ⟨e, n, ne, nf, d⟩ := I.pin p hp
      exact ⟨(hs.2 p.1 ne).trans e, n, ne, nf, d⟩
  · have hfn : X.fn x = true := by
      rcases hf with z | z
      · exact z
      · rw [z] at hk; cases hk
    obtain ⟨c, hc⟩ := I.ok.has x (.inl hk)
    obtain ⟨w', z⟩ := I.cell x c hc
    refine wpAny_storeName_cell I.ok.kind hk hc z (fun h' hc' hs => ?_)
    obtain ⟨oc, hoc, hocd⟩ := id z
    refine h { s with heap := h' } ⟨I.ok, I.os, I.bare, ⟨fun b o e n hb hx => ?_, fun b o e n hb hx => ?_, I.base.free, fun b o e hx => ?_, I.base.uz, I.base.tM, I.base.tN⟩, ⟨m, hn.sameBut hs (Ne.symm (cne x c hc)), fun j y v' e1 e2 e3 => ?_⟩, fun y c' e => ?_, I.free, I.pJ, fun p hp => ?_, tracked ⟨oc, hoc, I.pJ x c hc⟩ hs, by simpa using I.len⟩ ⟨c, hs, .inr hc⟩
    · exact (hs.2 b (Nat.ne_of_lt (Nat.lt_of_lt_of_le (Heap.lt_size e) (I.ok.cab x c hfn hc)))).trans (I.base.keep b o e n hb hx)
    · obtain ⟨sl, e1⟩ := I.base.slot b o e n hb hx
      exact ⟨sl, (hs.2 b (Nat.ne_of_lt (Nat.lt_of_lt_of_le (Heap.lt_size e) (I.ok.cab x c hfn hc)))).trans e1⟩
    · obtain ⟨o', e1⟩ := I.base.there b o e hx
      exact ⟨o', (hs.2 b (Nat.ne_of_lt (Nat.lt_of_lt_of_le (Heap.lt_size e) (I.ok.cab x c hfn hc)))).trans e1⟩
    · by_cases hj : j = i
      · subst hj
        rw [hi] at e1; cases e1
        rw [List.getElem?_set_self hiσ] at e2
        cases e2
        exact ⟨u, r, .inr ⟨.inl hk, c, hc, hc'⟩⟩
      · rw [List.getElem?_set_ne (Ne.symm hj)] at e2
        obtain ⟨u', r', q⟩ := hl j y v' e1 e2 e3
        refine ⟨u', r', ?_⟩
        rcases q with q | ⟨k, c', e, z'⟩
        · exact .inl q
        · refine .inr ⟨k, c', e, z'.sameBut hs ?_⟩
          rintro rfl
          exact hj (Cv hN e1 (I.ok.inj _ _ _ e hc ▸ hi))
    · by_cases hcc : c' = c
      · subst hcc; exact ⟨_, hc'⟩
      · obtain ⟨w2, z2⟩ := I.cell y c' e
        exact ⟨w2, z2.sameBut hs hcc⟩
    · obtain ⟨e, n, ne, nf, d⟩ := I.pin p hp
      refine ⟨(hs.2 p.1 ?_).trans e, n, ne, nf, d⟩
      intro q
      rw [q, hoc] at e
      have q' : oc = p.2 := Option.some.inj e
      exact d w' (by rw [← q']; exact hocd)
theorem oS {M : Model} {A : Around} {E : Value → Shared → Prop} {i : Nat} {x : Str} {v : V} {u : Value} {Q : Unit → Shared → Prop} (I : Inv X pins σ H s) (hN : X.N.Nodup) (hi : X.N[i]? = some x) (hx : Loc X.env.scope x) (r : RelV v u)
    (h : ∀ s', Inv X pins (σ.set i (some v)) H s' → Q () s') (hf : X.fn x = true ∨ X.env.scope.names.lookup x = some .local := by first | exact .inl rfl | exact .inr rfl | assumption) : wpAny M A (storeName X.env x u) Q E s :=
  Hs I hN hi hx r (fun s' I' _ => h s' I') hf
theorem Inv.Jt {s' : Shared} {ch : List Addr} (I : Inv X pins σ H s) (ho : s'.os = s.os) (u : Un (frs X.stack) ch H H' s.heap s'.heap) (hok : HOk X.prog X.w H' s'.heap) (hg : AllBare s'.gens)
    (hch : ∀ b ∈ ch, (b ∈ X.ex ∨ X.s₀.heap.objs.size ≤ b) ∧ b ≠ X.env.locals ∧ (∀ x c, X.env.cells.lookup x = some c → c ≠ b) ∧ ∀ p ∈ X.pn ++ pins, p.1 ≠ b) : Inv X pins σ H' s' := by
  obtain ⟨h', g', d', t', o'⟩ := s'
  have e : o' = s.os := ho
  subst e
  exact I.call (g' := g') (t' := t') (d' := d') u hok hg hch
end
abbrev XK := Value → Option Addr → Hp → Prop
abbrev St := List (Option V)
abbrev VK := V → Hp → Prop
abbrev TE := St → Hp → VK → Prop
abbrev TT := St → Hp → (Bool → Hp → Prop) → Prop
abbrev TA := St → Hp → (List V → Hp → Prop) → Prop
structure Ends where
  nx : St → Hp → Prop
  rt : VK
  bk : St → Hp → Prop := fun _ _ => False
  ct : St → Hp → Prop := fun _ _ => False
abbrev TS := Ends → St → Hp → Prop
def EP (X : Cx) (pins : List (Addr × Obj)) (σ : St) (Q : VK) (u : Value) (s' : Shared) : Prop := ∃ v H', Inv X pins σ H' s' ∧ RelV v u ∧ Q v H'
def TP (X : Cx) (pins : List (Addr × Obj)) (σ : St) (Q : Bool → Hp → Prop) (b : Bool) (s' : Shared) : Prop := ∃ H', Inv X pins σ H' s' ∧ Q b H'
def AP (X : Cx) (pins : List (Addr × Obj)) (σ : St) (Q : List V → Hp → Prop) (us : List Value) (s' : Shared) : Prop := ∃ vs H', Inv X pins σ H' s' ∧ Vals vs us ∧ Q vs H'
def SP (X : Cx) (pins : List (Addr × Obj)) (D : Ends) (f : Flow) (s' : Shared) : Prop :=
  match f with
  | .next => ∃ σ' H', Inv X pins σ' H' s' ∧ D.nx σ' H'
  | .brk => ∃ σ' H', Inv X pins σ' H' s' ∧ D.bk σ' H'
  | .cont => ∃ σ' H', Inv X pins σ' H' s' ∧ D.ct σ' H'
  | .ret u => ∃ v σ' H', Inv X pins σ' H' s' ∧ RelV v u ∧ D.rt v H'
def PE (X : Cx) (e : Expr) (t : TE) : Prop :=
  ∀ (pins : List (Addr × Obj)) (s : Shared) (σ : St) (H : Hp) (Q : VK), Inv X pins σ H s → t σ H Q → wpAny (model X.prog X.w) X.A (eval e X.env) (EP X pins σ Q) X.xe s
def PT (X : Cx) (e : Expr) (t : TT) : Prop :=
  ∀ (pins : List (Addr × Obj)) (s : Shared) (σ : St) (H : Hp) (Q : Bool → Hp → Prop), Inv X pins σ H s → t σ H Q → wpAny (model X.prog X.w) X.A (isTrue e X.env (eval e X.env)) (TP X pins σ Q) X.xe s
def PW (X : Cx) (e : Expr) (t : TT) : Prop :=
  ∀ (whole : Sem Value) (pins : List (Addr × Obj)) (s : Shared) (σ : St) (H : Hp) (Q : Bool → Hp → Prop), Inv X pins σ H s → t σ H Q → wpAny (model X.prog X.w) X.A (isTrue e X.env whole) (TP X pins σ Q) X.xe s
theorem PW.pt {X : Cx} {e : Expr} {t : TT} (h : PW X e t) : PT X e t := h _
def PA (X : Cx) (es : List Expr) (t : TA) : Prop :=
  ∀ (pos : Pos) (pins : List (Addr × Obj)) (s : Shared) (σ : St) (H : Hp) (Q : List V → Hp → Prop), Inv X pins σ H s → t σ H Q → wpAny (model X.prog X.w) X.A (spliced (backTo pos (starEach es X.env))) (AP X pins σ Q) X.xe s
def PS (X : Cx) (st : Stmt) (t : TS) : Prop :=
  ∀ (pins : List (Addr × Obj)) (s : Shared) (σ : St) (H : Hp) (D : Ends), Inv X pins σ H s → t D σ H → wpAny (model X.prog X.w) X.A (exec st X.env) (SP X pins D) X.xe s
def PSs (X : Cx) (st : List Stmt) (t : TS) : Prop :=
  ∀ (pins : List (Addr × Obj)) (s : Shared) (σ : St) (H : Hp) (D : Ends), Inv X pins σ H s → t D σ H → wpAny (model X.prog X.w) X.A (execs st X.env) (SP X pins D) X.xe s
theorem thn {α : Type} {t : Sem α} {Q Q' : α → Shared → Prop} {M : Model} {A : Around} {E : Value → Shared → Prop} {s : Shared} (h : wpAny M A t Q E s) (hQ : ∀ a s, Q a s → Q' a s) : wpAny M A t Q' E s := wpAny_mono h hQ fun _ _ x => x
end L2
namespace L2
open PySem PySem.Spec PyProof.Rows
section
variable {X : Cx}
theorem bin {a b : Expr} {ta tb : TE} (ha : PE X a ta) (hb : PE X b tb) {pins : List (Addr × Obj)} {s : Shared} {σ : St} {H : Hp} {R : V → V → Hp → Prop} (I : Inv X pins σ H s) (h : ta σ H fun x H1 => tb σ H1 fun y H2 => R x y H2)
    {α : Type} {Q : α → Shared → Prop} {f : Value → Value → Sem α}
    (hf : ∀ v u s2 x y H2, Inv X pins σ H2 s2 → RelV x v → RelV y u → R x y H2 → wpAny (model X.prog X.w) X.A (f v u) Q X.xe s2) :
    wpAny (model X.prog X.w) X.A (eval a X.env) (fun v s₁ => wpAny (model X.prog X.w) X.A (eval b X.env) (fun u s₂ => wpAny (model X.prog X.w) X.A (f v u) Q X.xe s₂) X.xe s₁) X.xe s := by
  refine thn (ha pins s σ H _ I h) fun v s1 ⟨x, H1, I1, r1, q1⟩ => ?_
  refine thn (hb pins s1 σ H1 _ I1 q1) fun u s2 ⟨y, H2, I2, r2, q2⟩ => ?_
  exact hf v u s2 x y H2 I2 r1 r2 q2
def Mz (i : Nat) : TE := fun σ H Q => ∃ v, σ[i]? = some (some v) ∧ Q v H
def tC (v : V) : TE := fun _ H Q => Q v H
theorem JB {i : Nat} {x : Str} {pos : Pos} (hN : X.N[i]? = some x) (hv : Vis X.env.scope x) (hd : (x == ("__debug__" : Str)) = false := by decide) (hcd : (x == ("__classdict__" : Str)) = false := by decide) : PE X (.Name x pos) (Mz i) := by
  intro pins s σ H Q I h
  obtain ⟨v, e, h⟩ := h
  obtain ⟨m, hn, hl⟩ := I.loc
  obtain ⟨u, r, l⟩ := hl i x v hN e hv
  have fin : EP X pins σ Q u s := ⟨v, H, I, r, h⟩
  rcases l with ⟨hk, hm⟩ | ⟨hk, c, hc, hcell⟩
  · exact wpAny_Name (wpAny_loadName_local I.ok.kind hk hn hm fin) hd
  · rcases hk with hk | hk
    · exact wpAny_Name (wpAny_loadName_cell I.ok.kind hk hc hcell fin) hd
    · exact wpAny_Name (wpAny_loadName_free I.ok.kind hk hc hcell fin hcd) hd
theorem J1 {i j pos} : PE X (.Constant (.int i) j pos) (tC (.int i)) := fun _ _ _ H _ I h => wpAny_Constant_int ⟨.int i, H, I.tok _, ⟨_, rfl⟩, h⟩
theorem Ox {b j pos} : PE X (.Constant (.bool b) j pos) (tC (.bl b)) := fun _ _ _ H _ I h => Constant_bool ⟨.bl b, H, I, rfl, h⟩
theorem MW {j pos} : PE X (.Constant .none j pos) (tC .non) := fun _ _ _ H _ I h => Constant_none ⟨.non, H, I, rfl, h⟩
theorem MG {x j pos} : PE X (.Constant (.str x) j pos) (tC (.str x)) := fun _ _ _ H _ I h => Calls.Constant_str ⟨.str x, H, I.tok _, ⟨_, rfl⟩, h⟩
def Gl (X : Cx) (x : Str) : Prop := X.env.kindOf x = some .globalImplicit
theorem GJ {E : Value → Shared → Prop} {pins : List (Addr × Obj)} {s : Shared} {σ : St} {H : Hp} {x : Str} {u : Value} {pos : Pos} {Q : Value → Shared → Prop} (I : Inv X pins σ H s) (hg : Gl X x) (hm : X.mg x = some u) (h : Q u s)
    (hd : (x == ("__debug__" : Str)) = false := by decide) : wpAny (model X.prog X.w) X.A (eval (.Name x pos) X.env) Q E s :=
  Calls.Name_function_global I.ok.kind hg (Calls.loadGlobal_global (by rw [I.ok.glob]; exact I.mod.glob.keeps I.bk) hm h) hd
theorem xl {E : Value → Shared → Prop} {pins : List (Addr × Obj)} {s : Shared} {σ : St} {H : Hp} {x : Str} {u : Value} {pos : Pos} {Q : Value → Shared → Prop} (I : Inv X pins σ H s) (hg : Gl X x) (hm : X.mg x = none) (hv : bootBuiltins x = some u) (h : Q u s)
    (hn : x ≠ "__name__" := by decide) (hd : (x == ("__debug__" : Str)) = false := by decide) : wpAny (model X.prog X.w) X.A (eval (.Name x pos) X.env) Q E s := by
  obtain ⟨mb, h1, h2⟩ := I.mod.blt
  exact Calls.Name_function_global I.ok.kind hg (Calls.loadGlobal_builtin (by rw [I.ok.glob]; exact I.mod.glob.keeps I.bk) hm (by rw [I.ok.blt]; exact h1.keeps I.bk) ((h2 x hn).trans hv) h) hd
theorem Lg {x : Str} {v : V} {u : Value} {pos : Pos} (hg : Gl X x) (hm : X.mg x = some u) (r : RelV v u) (hd : (x == ("__debug__" : Str)) = false := by decide) : PE X (.Name x pos) (tC v) :=
  fun _ _ _ H _ I h => GJ I hg hm ⟨v, H, I, r, h⟩ hd
theorem LV {x : Str} {v : V} {u : Value} {pos : Pos} (hg : Gl X x) (hm : X.mg x = none) (hv : bootBuiltins x = some u) (r : RelV v u) (hn : x ≠ "__name__" := by decide) (hd : (x == ("__debug__" : Str)) = false := by decide) : PE X (.Name x pos) (tC v) :=
  fun _ _ _ H _ I h => xl I hg hm hv ⟨v, H, I, r, h⟩ hn hd
variable {a b : Expr} {ta tb : TE} {pos : Pos}
def PC (X : Cx) (op : CmpOp) (a b : Expr) (t : TE) : Prop :=
  ∀ (pins : List (Addr × Obj)) (s : Shared) (σ : St) (H : Hp) (Q : VK), Inv X pins σ H s → t σ H Q →
    wpAny (model X.prog X.w) X.A (eval a X.env) (fun v s₁ => wpAny (model X.prog X.w) X.A (eval b X.env) (fun u s₂ => wpAny (model X.prog X.w) X.A (compareOp op v u) (EP X pins σ Q) X.xe s₂) X.xe s₁) X.xe s
theorem Ik (b : Expr) {op : CmpOp} (h : op ≠ .In) (h2 : op ≠ .NotIn) : behindInMarks op b = false := by
  have e1 : (op == CmpOp.In) = false := by cases op <;> first | rfl | exact absurd rfl h
  have e2 : (op == CmpOp.NotIn) = false := by cases op <;> first | rfl | exact absurd rfl h2
  cases b <;> simp [behindInMarks, e1, e2]
def tB (t : TE) : TT := fun σ H Q => t σ H fun x H1 => ∃ c, x = .bl c ∧ Q c H1
theorem PX {op : CmpOp} {t : TE} (h : PC X op a b t) (h1 : behindInMarks op b = false := by first | exact Ik _ (by decide) (by decide) | rfl) : PT X (.Compare a [op] [b] pos) (tB t) := by
  intro pins s σ H Q I hw
  refine wpAny_isTrue_Compare1 (thn (h pins s σ H _ I hw) fun v s1 h1 => thn h1 fun u s2 h2 => thn h2 fun c s3 ⟨x, H1, I1, r1, q1⟩ => ?_) h1
  obtain ⟨d, rfl, q⟩ := q1
  cases r1
  exact wpAny_truthy_bool ⟨H1, I1, q⟩
theorem Mr {e : Expr} {t : TE} (h : PE X e t) (he : ∀ whole, isTrue e X.env whole = (do let v ← whole; standAt e.pos; holding [v] (truthy v)) := by intro _; rfl) : PT X e (tB t) := by
  intro pins s σ H Q I hw
  refine isTrue_plain (thn (h pins s σ H _ I hw) fun v s1 ⟨x, H1, I1, r1, q1⟩ => ?_) (he _)
  obtain ⟨d, rfl, q⟩ := q1
  cases r1
  exact wpAny_truthy_bool ⟨H1, I1, q⟩
variable {tA tB' : TT} {rest : List Expr}
def PZ (t u : TT) : TT := fun σ H Q => t σ H fun c H1 => if c = true then u σ H1 Q else Q false H1
def tOr (t u : TT) : TT := fun σ H Q => t σ H fun c H1 => if c = true then Q true H1 else u σ H1 Q
def Py (t : TT) : TT := fun σ H Q => t σ H fun c H1 => Q (!c) H1
theorem pw_and1 (ha : PT X a tA) : PW X (.BoolOp .And [a] pos) tA := by
  intro wh pins s σ H Q I h
  refine isTrue_and (thn (ha pins s σ H Q I h) fun c s1 e => ?_)
  cases c with
  | true => exact isTrue_and_nil e
  | false => exact e
theorem pw_or1 (ha : PT X a tA) : PW X (.BoolOp .Or [a] pos) tA := by
  intro wh pins s σ H Q I h
  refine isTrue_or (thn (ha pins s σ H Q I h) fun c s1 e => ?_)
  cases c with
  | false => exact isTrue_or_nil e
  | true => exact e
theorem pw_and (ha : PT X a tA) (hb : PW X (.BoolOp .And (b :: rest) pos) tB') : PW X (.BoolOp .And (a :: b :: rest) pos) (PZ tA tB') := by
  intro wh pins s σ H Q I h
  refine isTrue_and (thn (ha pins s σ H _ I h) fun c s1 ⟨H1, I1, q1⟩ => ?_)
  cases c with
  | true => exact hb wh pins s1 σ H1 Q I1 q1
  | false => exact ⟨H1, I1, q1⟩
theorem pw_or (ha : PT X a tA) (hb : PW X (.BoolOp .Or (b :: rest) pos) tB') : PW X (.BoolOp .Or (a :: b :: rest) pos) (tOr tA tB') := by
  intro wh pins s σ H Q I h
  refine isTrue_or (thn (ha pins s σ H _ I h) fun c s1 ⟨H1, I1, q1⟩ => ?_)
  cases c with
  | true => exact ⟨H1, I1, q1⟩
  | false => exact hb wh pins s1 σ H1 Q I1 q1
theorem Nc (ha : PT X a tA) : PT X (.UnaryOp .Not a pos) (Py tA) := by
  intro pins s σ H Q I h
  exact isTrue_not (ha pins s σ H (fun c H1 => Q (!c) H1) I h)
def Pq (ta tb : TE) : TE := fun σ H Q => ta σ H fun x H1 => ∃ c, x = .bl c ∧ if c = true then tb σ H1 Q else Q (.bl false) H1
def Pl (ta : TE) : TE := fun σ H Q => ta σ H fun x H1 => ∃ c, x = .bl c ∧ Q (.bl (!c)) H1
theorem M4 {op} {t : TE} (h : PE X a t) : PE X (.BoolOp op [a] pos) t := fun pins s σ H Q I hw => BoolOp_one (h pins s σ H Q I hw)
theorem Oa (ha : PE X a ta) (hb : PE X (.BoolOp .And (b :: rest) pos) tb) : PE X (.BoolOp .And (a :: b :: rest) pos) (Pq ta tb) := by
  intro pins s σ H Q I h
  refine BoolOp_and (thn (ha pins s σ H _ I h) fun v s1 ⟨x, H1, I1, r1, q1⟩ => ?_)
  obtain ⟨c, rfl, q1⟩ := q1
  cases r1
  refine wpAny_truthy_bool ?_
  cases c with
  | true => exact hb pins s1 σ H1 Q I1 q1
  | false => exact ⟨.bl false, H1, I1, rfl, q1⟩
theorem MQ (ha : PE X a ta) : PE X (.UnaryOp .Not a pos) (Pl ta) := by
  intro pins s σ H Q I h
  refine UnaryOp_ (thn (ha pins s σ H _ I h) fun v s1 ⟨x, H1, I1, r1, q1⟩ => ?_)
  obtain ⟨c, rfl, q1⟩ := q1
  cases r1
  exact not_of (wpAny_truthy_bool ⟨.bl (!c), H1, I1, rfl, q1⟩)
def tIf (t : TT) (ta tb : TE) : TE := fun σ H Q => t σ H fun c H1 => if c = true then ta σ H1 Q else tb σ H1 Q
theorem IZ {c : Expr} (hc : PT X c tA) (ha : PE X a ta) (hb : PE X b tb) : PE X (.IfExp c a b pos) (tIf tA ta tb) := by
  intro pins s σ H Q I h
  refine wpAny_IfExp (thn (hc pins s σ H _ I h) fun d s1 ⟨H1, I1, q1⟩ => ?_)
  cases d with
  | true => exact ha pins s1 σ H1 Q I1 q1
  | false => exact hb pins s1 σ H1 Q I1 q1
end
end L2
namespace L2
open PySem PySem.Spec PyProof.Rows
def SqL (K : PySem.W.Frag) (H : Hp) (a : Addr) (xs : List V) : Prop :=
  Rd H a (.lst xs) ∨
    ∃ (o : Obj) (its : Array Value) (n : Nat), K.lookup a = some o ∧ o.cls = .type "list" ∧ o.dict = none ∧ o.data = .seq its n ∧ its.size ≤ sizeLine ∧ Vals xs its.toList
def SqT (K : PySem.W.Frag) (H : Hp) (a : Addr) (xs : List V) : Prop :=
  Rd H a (.tup xs) ∨
    ∃ (o : Obj) (its : Array Value) (n : Nat), K.lookup a = some o ∧ o.cls = .type "tuple" ∧ o.data = .seq its n ∧ its.size ≤ sizeLine ∧ Vals xs its.toList
def Qy : Value → Option V
  | .none => some .non
  | .bool b => some (.bl b)
  | .int i _ => some (.int i)
  | .str x _ => some (.str x)
  | .bytes b _ => some (.byt b)
  | .float b _ => some (.flt b)
  | .ref a => some (.ref a)
  | .type n => some (.ty n)
  | _ => none
theorem RelV.abs {x : V} {u : Value} (r : RelV x u) : Qy u = some x := by
  cases x with
  | non => cases r; rfl
  | bl _ => cases r; rfl
  | int _ => obtain ⟨t, rfl⟩ := r; rfl
  | str _ => obtain ⟨t, rfl⟩ := r; rfl
  | byt _ => obtain ⟨t, rfl⟩ := r; rfl
  | flt _ => obtain ⟨t, rfl⟩ := r; rfl
  | ref _ => cases r; rfl
  | ty _ => cases r; rfl
theorem RelV.inj {x y : V} {u : Value} (r : RelV x u) (q : RelV y u) : x = y := Option.some.inj (r.abs.symm.trans q.abs)
theorem Vals.inj : ∀ {xs ys : List V} {us : List Value}, Vals xs us → Vals ys us → xs = ys
  | _, _, _, .nil, .nil => rfl
  | _, _, _, .cons r t, .cons r' t' => by rw [r.inj r', Vals.inj t t']
section
variable {X : Cx} {pins : List (Addr × Obj)} {σ : St} {H : Hp} {s : Shared} {a : Addr} {xs ys : List V}
theorem SqL.of {K : PySem.W.Frag} (h : H a = some (.lst xs)) : SqL K H a xs := .inl (.inl h)
theorem SqT.of {K : PySem.W.Frag} (h : H a = some (.tup xs)) : SqT K H a xs := .inl (.inl h)
theorem Inv.list (I : Inv X pins σ H s) (h : SqL X.K H a xs) : ∃ its : List Value, Vals xs its ∧ PlainL s.heap a its.toArray ∧ xs.length ≤ sizeLine := by
  rcases h with h | ⟨o, its, n, hk, hc, hd, hs, hz, r⟩
  · obtain ⟨z, its, n, r, e⟩ := h.ok I.hok
    exact ⟨its, r, ⟨_, n, e, rfl, rfl, rfl⟩, z⟩
  · refine ⟨its.toList, r, ⟨o, n, I.kIn a o hk, hc, hd, by simpa using hs⟩, ?_⟩
    have e := r.length
    simp only [Array.length_toList] at e
    omega
theorem Inv.tuple (I : Inv X pins σ H s) (h : SqT X.K H a xs) : ∃ its : List Value, Vals xs its ∧ IsTup s.heap a its.toArray ∧ xs.length ≤ sizeLine := by
  rcases h with h | ⟨o, its, n, hk, hc, hs, hz, r⟩
  · obtain ⟨z, its, r, p⟩ := h.ok I.hok
    exact ⟨its, r, p, z⟩
  · refine ⟨its.toList, r, ⟨o, I.kIn a o hk, hc, n, by simpa using hs⟩, ?_⟩
    have e := r.length
    simp only [Array.length_toList] at e
    omega
theorem Inv.Ji (I : Inv X pins σ H s) (h : SqL X.K H a xs) (h' : SqL X.K H a ys) : xs = ys := by
  obtain ⟨its, r, ⟨o, n, e, _, _, d⟩, _⟩ := I.list h
  obtain ⟨its', r', ⟨o', n', e', _, _, d'⟩, _⟩ := I.list h'
  rw [e] at e'; cases e'
  rw [d] at d'
  injection d' with d1 _
  have : its = its' := by simpa using congrArg Array.toList d1
  subst this
  exact r.inj r'
theorem Inv.HA (I : Inv X pins σ H s) (h : SqT X.K H a xs) (h' : SqT X.K H a ys) : xs = ys := by
  obtain ⟨its, r, ⟨o, e, _, n, d⟩, _⟩ := I.tuple h
  obtain ⟨its', r', ⟨o', e', _, n', d'⟩, _⟩ := I.tuple h'
  rw [e] at e'; cases e'
  rw [d] at d'
  injection d' with d1 _
  have : its = its' := by simpa using congrArg Array.toList d1
  subst this
  exact r.inj r'
end
abbrev Cx.yC (X : Cx) (E : Value → Shared → Prop) : Cx := { X with xe := E }
abbrev Cx.nox (X : Cx) : Cx := X.yC fun _ _ => False
theorem Cx.Ok.yC {X : Cx} (ok : X.Ok) (E : Value → Shared → Prop) : (X.yC E).Ok :=
  ⟨ok.mod, ok.kind, ok.glob, ok.blt, ok.above, ok.inj, ok.has, ok.cab, ok.hd, ok.qt, ok.frames, ok.stk, ok.exf, ok.bs, ok.bsz, ok.HN, ok.KW, ok.xG, ok.frf⟩
theorem Cx.Ok.pC {X : Cx} {E : Value → Shared → Prop} (ok : (X.yC E).Ok) : X.Ok :=
  ⟨ok.mod, ok.kind, ok.glob, ok.blt, ok.above, ok.inj, ok.has, ok.cab, ok.hd, ok.qt, ok.frames, ok.stk, ok.exf, ok.bs, ok.bsz, ok.HN, ok.KW, ok.xG, ok.frf⟩
section
variable {X : Cx} {pins : List (Addr × Obj)} {σ : St} {H : Hp} {s : Shared} {E : Value → Shared → Prop}
theorem Inv.yC (I : Inv X pins σ H s) (E : Value → Shared → Prop) : Inv (X.yC E) pins σ H s := ⟨I.ok.yC E, I.os, I.bare, I.base, I.loc, I.cell, I.free, I.pJ, I.pin, I.hok, I.len⟩
theorem Inv.pC (I : Inv (X.yC E) pins σ H s) : Inv X pins σ H s := ⟨I.ok.pC, I.os, I.bare, I.base, I.loc, I.cell, I.free, I.pJ, I.pin, I.hok, I.len⟩
theorem SP.pC {D : Ends} {f : Flow} {s' : Shared} (h : SP (X.yC E) pins D f s') : SP X pins D f s' := by
  cases f with
  | next => obtain ⟨σ', H', I, q⟩ := h; exact ⟨σ', H', I.pC, q⟩
  | brk => obtain ⟨σ', H', I, q⟩ := h; exact ⟨σ', H', I.pC, q⟩
  | cont => obtain ⟨σ', H', I, q⟩ := h; exact ⟨σ', H', I.pC, q⟩
  | ret u => obtain ⟨v, σ', H', I, r, q⟩ := h; exact ⟨v, σ', H', I.pC, r, q⟩
theorem PSs.nox {st : List Stmt} {t : TS} (h : PSs X.nox st t) : PSs X st t := fun pins s σ H D I hw =>
  wpAny_mono (h pins s σ H D (I.yC _) hw) (fun _ _ q => q.pC) fun _ _ z => False.elim z
end
section
variable {X : Cx} {st : Stmt} {rest : List Stmt} {t u : TS} {e : Expr} {te : TE} {pos : Pos}
def O3 : TS := fun D σ H => D.nx σ H
def Pb (t u : TS) : TS := fun D σ H => t { D with nx := u D } σ H
theorem Lu : PSs X [] O3 := fun _ _ σ H _ I h => wpAny_execs_nil ⟨σ, H, I, h⟩
theorem Iq (h1 : PS X st t) (h2 : PSs X rest u) : PSs X (st :: rest) (Pb t u) := by
  intro pins s σ H D I h
  refine wpAny_execs_cons (thn (h1 pins s σ H { D with nx := u D } I h) fun f s1 q => ?_)
  cases f with
  | next =>
    obtain ⟨σ', H', I', q⟩ := q
    exact h2 pins s1 σ' H' D I' q
  | ret v => exact q
  | brk => exact q
  | cont => exact q
theorem LQ (h1 : PS X st t) : PSs X [st] t := by
  intro pins s σ H D I h
  refine wpAny_execs_cons (thn (h1 pins s σ H D I h) fun f s1 q => ?_)
  cases f with
  | next => exact wpAny_execs_nil q
  | ret v => exact q
  | brk => exact q
  | cont => exact q
theorem Inv.quiet {pins : List (Addr × Obj)} {σ : St} {H : Hp} {s : Shared} (I : Inv X pins σ H s) : interactive X.env = false := by simp [interactive, I.ok.kind]
def O7 (te : TE) : TS := fun D σ H => te σ H fun _ H1 => D.nx σ H1
theorem Lv (he : PE X e te) (hs : swapsWith e none pos.line X.env = pure false := by rfl) : PS X (.Expr e pos) (O7 te) := by
  intro pins s σ H D I h
  exact wpAny_Expr_any (thn (he pins s σ H _ I h) fun v s1 ⟨x, H1, I1, r1, q1⟩ => ⟨σ, H1, I1, q1⟩) I.quiet hs
def Qc (te : TE) : TS := fun D σ H => te σ H D.rt
theorem Nb (he : PE X e te) : PS X (.Return (some e) pos) (Qc te) := by
  intro pins s σ H D I h
  exact wpAny_Return_some (thn (he pins s σ H _ I h) fun v s1 ⟨x, H1, I1, r1, q1⟩ => ⟨x, σ, H1, I1, r1, q1⟩)
def PR (c : TT) (t u : TS) : TS := fun D σ H => c σ H fun b H1 => if b = true then t D σ H1 else u D σ H1
theorem Pe {c : Expr} {a b : List Stmt} {tc : TT} (hc : PT X c tc) (ha : PSs X a t) (hb : PSs X b u) : PS X (.If c a b pos) (PR tc t u) := by
  intro pins s σ H D I h
  refine wpAny_If (thn (hc pins s σ H _ I h) fun d s1 ⟨H1, I1, q1⟩ => ?_)
  cases d with
  | true => exact ha pins s1 σ H1 D I1 q1
  | false => exact hb pins s1 σ H1 D I1 q1
end
abbrev TG := V → St → Hp → (St → Hp → Prop) → Prop
abbrev TGs := List V → St → Hp → (St → Hp → Prop) → Prop
def PG (X : Cx) (target : Expr) (t : TG) : Prop :=
  ∀ (pins : List (Addr × Obj)) (s : Shared) (σ : St) (H : Hp) (v : V) (u : Value) (Q : St → Hp → Prop), Inv X pins σ H s → RelV v u → t v σ H Q →
    wpAny (model X.prog X.w) X.A (assign target X.env u) (fun _ s' => ∃ σ' H', Inv X pins σ' H' s' ∧ Q σ' H') X.xe s
def PGs (X : Cx) (ts : List Expr) (t : TGs) : Prop :=
  ∀ (pins : List (Addr × Obj)) (s : Shared) (σ : St) (H : Hp) (vs : List V) (us : List Value) (Q : St → Hp → Prop), Inv X pins σ H s → Vals vs us → t vs σ H Q →
    wpAny (model X.prog X.w) X.A (assignInOrder ((assignEach ts X.env).map (·.2)) us) (fun _ s' => ∃ σ' H', Inv X pins σ' H' s' ∧ Q σ' H') X.xe s
abbrev MT := V → V → V → Hp → (Hp → Prop) → Prop
def OH (X : Cx) (t : MT) : Prop :=
  ∀ (pins : List (Addr × Obj)) (s : Shared) (σ : St) (H : Hp) (o i v : V) (ov iv u : Value) (Q : Hp → Prop), Inv X pins σ H s → RelV o ov → RelV i iv → RelV v u → t o i v H Q →
    wpAny (model X.prog X.w) X.A (setItem ov iv u) (fun _ s' => ∃ H', Inv X pins σ H' s' ∧ Q H') X.xe s
section
variable {X : Cx} {pos : Pos}
def JV (i : Nat) : TG := fun v σ H Q => Q (σ.set i (some v)) H
theorem Lj {i : Nat} {x : Str} (hN : X.N.Nodup) (hi : X.N[i]? = some x) (hx : Loc X.env.scope x) (hf : X.fn x = true ∨ X.env.scope.names.lookup x = some .local := by first | exact .inl rfl | exact .inr rfl | assumption) : PG X (.Name x pos) (JV i) := by
  intro pins s σ H v u Q I r h
  exact wpAny_assign_Name (oS I hN hi hx r (fun s' I' => ⟨_, H, I', h⟩) hf)
def Qq : TGs := fun vs σ H Q => vs = [] ∧ Q σ H
def OO (t : TG) (u : TGs) : TGs := fun vs σ H Q => ∃ v r, vs = v :: r ∧ t v σ H fun σ' H' => u r σ' H' Q
theorem Ln : PGs X [] Qq := by
  intro pins s σ H vs us Q I r h
  obtain ⟨e, h⟩ := h
  subst e
  cases r
  exact assignInOrder_nil ⟨σ, H, I, h⟩
theorem JC {e : Expr} {es : List Expr} {t : TG} {u : TGs} (h1 : PG X e t) (h2 : PGs X es u)
    (hs : (assignEach (e :: es) X.env).map (·.2) = assign e X.env :: (assignEach es X.env).map (·.2) := by rfl) : PGs X (e :: es) (OO t u) := by
  intro pins s σ H vs us Q I r h
  obtain ⟨v, vr, e1, h⟩ := h
  subst e1
  cases r with
  | cons r rr =>
    rw [hs]
    refine assignInOrder_cons (thn (h1 pins s σ H _ _ _ I r h) fun _ s1 ⟨σ1, H1, I1, q1⟩ => ?_)
    exact h2 pins s1 σ1 H1 _ _ Q I1 rr q1
def P7 (K : PySem.W.Frag) (n : Nat) (t : TGs) : TG := fun v σ H Q => ∃ a xs, v = .ref a ∧ SqT K H a xs ∧ xs.length = n ∧ t xs σ H Q
theorem Np {es : List Expr} {k : Nat} {t : TGs} {n : Nat} (hc : X.calm = X.calm) (h : PGs X es t)
    (hn : (assignEach es X.env).length = n := by rfl) (hst : (assignEach es X.env).findIdx? (·.1) = none := by rfl) : PG X (.Tuple es k pos) (P7 X.K n t) := by
  intro pins s σ H v u Q I r hw
  obtain ⟨a, xs, e1, hq, hl, hw⟩ := hw
  subst e1
  cases r
  obtain ⟨its, rv, ht, hz⟩ := I.tuple hq
  refine yS I.ET ht (by simp [hn, ← hl, rv.length]) hst fun h' hx => ?_
  have I1 : Inv X pins σ H { s with heap := h' } := I.kept (t' := s.toks) fun b o e => hx b o (Nat.ne_of_lt (Heap.lt_size e)) e
  exact h pins _ σ H xs _ Q I1 (by simpa using rv) hw
def PV (to ti : TE) (t : MT) : TG := fun v σ H Q => to σ H fun o H1 => ti σ H1 fun i H2 => t o i v H2 fun H3 => Q σ H3
theorem NN {o i : Expr} {to ti : TE} {t : MT} (ho : PE X o to) (hi : PE X i ti) (hs : OH X t)
    (ha : ∀ v, assign (.Subscript o i pos) X.env v = (do
      let ov ← holding [v] (eval o X.env)
      let iv ← holding [v, ov] (eval i X.env)
      standAt pos
      holding [v, ov, iv] (setItem ov iv v)
      release [v, ov, iv] []) := by intro _; rfl) : PG X (.Subscript o i pos) (PV to ti t) := by
  intro pins s σ H v u Q I r h
  rw [ha]
  refine wpAny_bind (wpAny_holding (thn (ho pins s σ H _ I h) fun ov s1 ⟨x, H1, I1, r1, q1⟩ => ?_))
  refine wpAny_bind (wpAny_holding (thn (hi pins s1 σ H1 _ I1 q1) fun iv s2 ⟨y, H2, I2, r2, q2⟩ => ?_))
  refine wpAny_bind (wpAny_standAt (wpAny_bind (wpAny_holding (thn (hs pins s2 σ H2 x y v ov iv u _ I2 r1 r2 r q2) fun _ s3 ⟨H3, I3, q3⟩ => ?_))))
  exact wpAny_release ⟨σ, H3, I3, q3⟩
def M5 (te : TE) (g : TG) : TS := fun D σ H => te σ H fun x H1 => g x σ H1 D.nx
theorem Nk {tg e : Expr} {te : TE} {g : TG} (he : PE X e te) (hg : PG X tg g) (hs : swapsWithSole [tg] e pos.line X.env = pure false := by rfl) (hw : swappedStores [tg] e X.env = pure none := by rfl)
    (h1 : (assignEach [tg] X.env).map (·.2) = [assign tg X.env] := by rfl) : PS X (.Assign [tg] e pos) (M5 te g) := by
  intro pins s σ H D I h
  refine wpAny_Assign_stores (thn (he pins s σ H _ I h) fun v s1 ⟨x, H1, I1, r1, q1⟩ => ?_) hs hw
  rw [h1]
  exact thn (hg pins s1 σ H1 x v _ I1 r1 q1) fun _ s2 q => q
theorem NL {i : Nat} {x : Str} {e : Expr} {te : TE} {pos' : Pos} (hN : X.N.Nodup) (hi : X.N[i]? = some x) (hx : Loc X.env.scope x) (he : PE X e te) (hs : swapsWith e (some (.Name x pos')) pos.line X.env = pure false := by rfl) (hf : X.fn x = true ∨ X.env.scope.names.lookup x = some .local := by first | exact .inl rfl | exact .inr rfl | assumption) :
    PS X (.Assign [.Name x pos'] e pos) (M5 te (JV i)) := by
  intro pins s σ H D I h
  refine wpAny_Assign_Name (thn (he pins s σ H _ I h) fun v s1 ⟨y, H1, I1, r1, q1⟩ => ?_) hs
  exact oS I1 hN hi hx r1 (fun s2 I2 => ⟨_, H1, I2, q1⟩) hf
def PU (i j : Nat) (ta : TA) : TS := fun D σ H => ta σ H fun vs H1 => ∃ v w, vs = [v, w] ∧ D.nx ((σ.set i (some v)).set j (some w)) H1
theorem NC {i j : Nat} {x y : Str} {a b : Expr} {ta : TA} {px py pt : Pos} {kt k2 pt2} (hc : X.calm = true) (hN : X.N.Nodup) (hi : X.N[i]? = some x) (hj : X.N[j]? = some y) (hij : i ≠ j)
    (hx : X.env.scope.names.lookup x = some .local) (hy : X.env.scope.names.lookup y = some .local) (ha : PA X [a, b] ta)
    (hw : swappedStores [.Tuple [.Name x px, .Name y py] kt pt] (.Tuple [a, b] k2 pt2) X.env = pure (some [x, y]))
    (hs : swapsWithSole [.Tuple [.Name x px, .Name y py] kt pt] (.Tuple [a, b] k2 pt2) pos.line X.env = pure false := by rfl) :
    PS X (.Assign [.Tuple [.Name x px, .Name y py] kt pt] (.Tuple [a, b] k2 pt2) pos) (PU i j ta) := by
  intro pins s σ H D I h
  rw [exec_Assign_arm]
  refine wpAny_bind (wpAny_standAt ?_)
  rw [hs]
  refine wpAny_bind (wpAny_pure ?_)
  rw [if_neg (by decide)]
  refine wpAny_bind (Tuple_ (thn (ha _ pins s σ H _ I h) fun us s1 ⟨vs, H1, I1, r1, q1⟩ => ?_))
  obtain ⟨v, w, e1, q1⟩ := q1
  subst e1
  obtain ⟨u1, u2, rfl, rv, rw'⟩ : ∃ u1 u2, us = [u1, u2] ∧ RelV v u1 ∧ RelV w u2 := by
    cases r1 with
    | cons p q =>
      cases q with
      | cons p' q' =>
        cases q'
        exact ⟨_, _, rfl, p, p'⟩
  refine wpAny_newObj_type ?_ (by show 2 ≤ sizeLine; decide)
  have I2 : Inv X pins σ H1 { s1 with heap := s1.heap.push { cls := .type "tuple", data := .seq [u1, u2].toArray } } := I1.kept (t' := s1.toks) fun b o e => Heap.get?_push_of_some _ e
  rw [hw]
  refine wpAny_bind (wpAny_pure ?_)
  show wpAny (model X.prog X.w) X.A (do rule "assign.swapped-stores"; let items ← unpackItems (.ref s1.heap.objs.size) 2 none; assignInOrder [fun v => bindName X.env y v, fun v => bindName X.env x v] items.reverse; pure Flow.next) _ _ _
  refine wpAny_bind (wpAny_rule (wpAny_bind (unpackItems_tuple (items := #[u1, u2]) (I.ok.hd hc) (IsTup.new s1.heap _) fun h' hx' => ?_)))
  have I3 := I2.kept (h' := h') (t' := s1.toks) fun b o e => hx' b o (Nat.ne_of_lt (Heap.lt_size e)) e
  show wpAny _ _ (assignInOrder [fun v => bindName X.env y v, fun v => bindName X.env x v] [u2, u1] >>= fun _ => pure Flow.next) _ _ _
  refine wpAny_bind (assignInOrder_cons (wpAny_bindName (oS I3 hN hj (.inl hy) rw' (fun s2 I4 => ?_) (.inr hy))))
  refine assignInOrder_cons (wpAny_bindName (oS I4 hN hi (.inl hx) rv (fun s3 I5 => assignInOrder_nil (wpAny_pure ?_)) (.inr hx)))
  rw [List.set_comm _ _ (Ne.symm hij)] at I5
  exact ⟨_, H1, I5, q1⟩
end
section
variable {X : Cx} {pos : Pos}
def M8 (c : TT) (tb : TS) : TS := fun D σ H => ∃ W : Nat → St → Hp → Prop, (∃ m, W m σ H) ∧ ∀ m σ H, W m σ H →
  c σ H fun b H1 => if b = true then ∃ N : St → Hp → Prop, (∀ σ' H', N σ' H' → ∃ m', m' < m ∧ W m' σ' H') ∧ tb { D with nx := N, ct := N, bk := D.nx } σ H1 else D.nx σ H1
theorem IA {c : Expr} {body : List Stmt} {tc : TT} {tb : TS} (hp : PassesOwn (model X.prog X.w) X.A X.env X.xe) (hc : PT X c tc) (hb : PSs X body tb) : PS X (.While c body [] pos) (M8 tc tb) := by
  intro pins s σ H D I h
  obtain ⟨W, ⟨m0, w0⟩, turn⟩ := h
  refine wpAny_While (codeAny_whileLoop (fun n s' => ∃ σ' H', Inv X pins σ' H' s' ∧ W n σ' H') ?_ m0 ⟨σ, H, I, w0⟩)
  rintro n s1 ⟨σ1, H1, I1, w1⟩
  refine wpAny_passesOwn hp (thn (hc pins s1 σ1 H1 _ I1 (turn n σ1 H1 w1)) fun b s2 ⟨H2, I2, q2⟩ => ?_)
  cases b with
  | true =>
    obtain ⟨N, hN, q2⟩ := q2
    rw [if_pos rfl]
    refine wpAny_passesOwn hp (thn (hb pins s2 σ1 H2 _ I2 q2) fun f s3 q3 => ?_)
    cases f with
    | next =>
      obtain ⟨σ3, H3, I3, n3⟩ := q3
      obtain ⟨m', hm, w3⟩ := hN σ3 H3 n3
      exact ⟨m', hm, σ3, H3, I3, w3⟩
    | cont =>
      obtain ⟨σ3, H3, I3, n3⟩ := q3
      obtain ⟨m', hm, w3⟩ := hN σ3 H3 n3
      exact ⟨m', hm, σ3, H3, I3, w3⟩
    | brk => exact q3
    | ret v => exact q3
  | false =>
    rw [if_neg Bool.false_ne_true]
    exact wpAny_execs_nil ⟨σ1, H2, I2, q2⟩
end
structure It where
  go : Nat → Hp → Prop
  yld : Nat → Hp → V → Hp → Prop
  stop : Nat → Hp → Prop
def BP (X : Cx) (pins : List (Addr × Obj)) (H : Hp) (b : Addr) : Prop :=
  H b = none ∧ b ≠ X.env.locals ∧ b ∉ X.fs ∧ (b ∈ X.ex ∨ X.s₀.heap.objs.size ≤ b) ∧ (∀ x c, X.env.cells.lookup x = some c → c ≠ b) ∧ ∀ p ∈ X.pn ++ pins, p.1 ≠ b
theorem Inv.Lb {X : Cx} {pins : List (Addr × Obj)} {σ : St} {H H' : Hp} {s : Shared} {b : Addr} (I : Inv X pins σ H s) (hb : s.heap.objs.size ≤ b) (hn : H' b = none) : BP X pins H' b := by
  refine ⟨hn, Nat.ne_of_gt (Nat.lt_of_lt_of_le I.lt hb), I.PK hb, .inr (Nat.le_trans I.sz hb), fun x c e z => ?_, fun p hp z => ?_⟩
  · obtain ⟨v, q⟩ := I.cell x c e
    exact absurd (Nat.lt_of_lt_of_le q.lt (by rw [z]; exact hb)) (Nat.lt_irrefl _)
  · exact absurd (Nat.lt_of_lt_of_le (Heap.lt_size (I.pin p hp).1) (by rw [z]; exact hb)) (Nat.lt_irrefl _)
structure Turn (c : Bool) (P : Program) (w : World) (K : PySem.W.Frag) (tg : Expr) (J : It) (fp : List Addr) (it : Addr) (tn : Nat → Heap → Prop) : Prop where
  mem : it ∈ fp
  obj : ∀ i h, tn i h → ∀ b ∈ fp, ∃ o, h.get? b = some o ∧ ∀ v, o.data ≠ .cell v
  keep : ∀ i h h', tn i h → (∀ b ∈ fp, ∀ o, h.get? b = some o → h'.get? b = some o) → tn i h'
  item : ∀ (X : Cx), X.prog = P → X.w = w → X.K = K → (c = true → X.calm = true) → ∀ (i : Nat) (pins : List (Addr × Obj)) (s : Shared) (σ : St) (H : Hp) (E : Value → Shared → Prop), Inv X pins σ H s → (∀ b ∈ fp, BP X pins H b) → tn i s.heap → J.go i H →
    wpAny (model P w) X.A (pyNext (.ref it)) (fun r s1 => ∃ u, r = some u ∧
      wpAny (model P w) X.A (letOwnedTupleGo tg (.ref it) u) (fun _ s2 => ∃ x H', Inv X pins σ H' s2 ∧ RelV x u ∧ J.yld i H x H' ∧ tn (i + 1) s2.heap ∧ ∀ b ∈ fp, H' b = none) E s1) E s
  done : ∀ (X : Cx), X.prog = P → X.w = w → X.K = K → (c = true → X.calm = true) → ∀ (i : Nat) (pins : List (Addr × Obj)) (s : Shared) (σ : St) (H : Hp) (E : Value → Shared → Prop), Inv X pins σ H s → (∀ b ∈ fp, BP X pins H b) → tn i s.heap → J.stop i H →
    wpAny (model P w) X.A (pyNext (.ref it)) (fun r s1 => r = none ∧ Inv X pins σ H s1) E s
  self : ∀ (A : Around) (i : Nat) (s : Shared) (Q : Value → Shared → Prop) (E : Value → Shared → Prop), tn i s.heap → Q (.ref it) s → wpAny (model P w) A (pyIter (.ref it)) Q E s
theorem Turn.calm {c : Bool} {P : Program} {w : World} {K : PySem.W.Frag} {tg : Expr} {J : It} {fp : List Addr} {it : Addr} {tn : Nat → Heap → Prop} (T : Turn true P w K tg J fp it tn) (h : c = true) : Turn c P w K tg J fp it tn := by subst h; exact T
abbrev TI := St → Hp → (It → Hp → Prop) → Prop
def PIE (X : Cx) (pins : List (Addr × Obj)) (σ : St) (tg : Expr) (R : It → Hp → Prop) (itv : Value) (s2 : Shared) : Prop :=
  ∃ (it : Addr) (fp : List Addr) (tn : Nat → Heap → Prop) (J : It) (H' : Hp), itv = .ref it ∧ Inv X pins σ H' s2 ∧ Turn X.calm X.prog X.w X.K tg J fp it tn ∧ tn 0 s2.heap ∧ (∀ b ∈ fp, BP X pins H' b) ∧ R J H'
def PI (X : Cx) (tg iter : Expr) (wi : TI) : Prop :=
  ∀ (pins : List (Addr × Obj)) (s : Shared) (σ : St) (H : Hp) (R : It → Hp → Prop), Inv X pins σ H s → wi σ H R →
    wpAny (model X.prog X.w) X.A (eval iter X.env) (fun v s1 => wpAny (model X.prog X.w) X.A (pyIter v) (PIE X pins σ tg R) X.xe s1) X.xe s
theorem KL {M : Model} {A : Around} {E : Value → Shared → Prop} {s : Shared} {tg : Expr} {it : Addr} {u : Value} {o : Obj} {n : String} {vs : Array Value} {Q : Unit → Shared → Prop} (ho : s.heap.get? it = some o) (hc : o.cls = .type n) (hd : o.data = .fields vs)
    (hn : ["enumerate", "zip", "dict_itemiterator", "dict_reverseitemiterator", "odict_iterator", "itertools.zip_longest", "itertools.pairwise"].contains n = false) (hQ : Q () s) : wpAny M A (letOwnedTupleGo tg (.ref it) u) Q E s := by
  unfold letOwnedTupleGo
  cases tg <;> first
    | exact wpAny_pure hQ
    | (cases u <;> first
        | exact wpAny_pure hQ
        | (refine wpAny_bind (wpAny_load ho ?_)
           rw [hc, hd]
           show wpAny M A (if (["enumerate", "zip", "dict_itemiterator", "dict_reverseitemiterator", "odict_iterator", "itertools.zip_longest", "itertools.pairwise"].contains n && vs[0]? == some (rawInt _)) = true then _ else _) Q E s
           rw [if_neg (by intro h; rw [hn, Bool.false_and] at h; cases h)]
           exact wpAny_pure hQ))
def Itl (K : PySem.W.Frag) (a : Addr) : It :=
  ⟨fun i H => ∃ xs x, SqL K H a xs ∧ xs[i]? = some x, fun i H x H' => H' = H ∧ ∀ xs, SqL K H a xs → xs[i]? = some x, fun i H => ∃ xs, SqL K H a xs ∧ xs.length ≤ i⟩
def Itt (K : PySem.W.Frag) (a : Addr) : It :=
  ⟨fun i H => ∃ xs x, SqT K H a xs ∧ xs[i]? = some x, fun i H x H' => H' = H ∧ ∀ xs, SqT K H a xs → xs[i]? = some x, fun i H => ∃ xs, SqT K H a xs ∧ xs.length ≤ i⟩
def Itr (lo : Int) (n : Nat) : It := ⟨fun i _ => i < n, fun i H x H' => H' = H ∧ x = .int (lo + i), fun i _ => n ≤ i⟩
theorem Hf {c : Bool} {P : Program} {w : World} {K : PySem.W.Frag} {tg : Expr} (a it : Addr) : Turn c P w K tg (Itl K a) [it] it (fun i h => h.IsListIter it a i) where
  mem := by simp
  obj := fun i h st b hb => by
    have e : b = it := by simpa using hb
    subst e
    obtain ⟨o, e, c, d⟩ := st
    exact ⟨o, e, fun v z => by rw [d] at z; cases z⟩
  keep := fun i h h' st k => st.at fun o e => k it (by simp) o e
  item := by
    intro X hP hw hK hc i pins s σ H E I hf st hg
    subst hP hw hK
    obtain ⟨xs, x, hq, hx⟩ := hg
    obtain ⟨its, rv, p, hz⟩ := I.list hq
    obtain ⟨u, hu, ru⟩ := rv.get hx
    obtain ⟨f0, f1, f2, f3, f4, f5⟩ := hf it (by simp)
    refine wpAny_pyNext_list_item st p.isList (x := u) (by simpa using hu) fun h' st' sb => ?_
    have I1 : Inv X pins σ H { s with heap := h' } := I.turned (t' := s.toks) (fun b o hb e => (sb.2 b hb).trans e) f0 f1 f3 f4 f5
    obtain ⟨o, e, c, d⟩ := id st'
    exact ⟨u, rfl, KL (s := { s with heap := h' }) e c d (by decide) ⟨x, H, I1, ru, ⟨rfl, fun ys hy => by rw [I.Ji hy hq]; exact hx⟩, st', fun b hb => (hf b hb).1⟩⟩
  done := by
    intro X hP hw hK hc i pins s σ H E I hf st hg
    subst hP hw hK
    obtain ⟨xs, hq, hx⟩ := hg
    obtain ⟨its, rv, p, hz⟩ := I.list hq
    obtain ⟨f0, f1, f2, f3, f4, f5⟩ := hf it (by simp)
    have hl := rv.length
    exact yz I.ET (I.hne f5) st p.isList (by simp; omega) fun h' eb => ⟨rfl, I.turned (t' := s.toks) (fun b o hb e => eb b o hb e) f0 f1 f3 f4 f5⟩
  self := fun _ _ _ _ _ st h => wpAny_pyIter_listiter st h
theorem Ed {c : Bool} {P : Program} {w : World} {K : PySem.W.Frag} {tg : Expr} (a it : Addr) : Turn c P w K tg (Itt K a) [it] it (fun i h => h.IsTupleIter it a i) where
  mem := by simp
  obj := fun i h st b hb => by
    have e : b = it := by simpa using hb
    subst e
    obtain ⟨o, e, c, d⟩ := st
    exact ⟨o, e, fun v z => by rw [d] at z; cases z⟩
  keep := fun i h h' st k => st.at fun o e => k it (by simp) o e
  item := by
    intro X hP hw hK hc i pins s σ H E I hf st hg
    subst hP hw hK
    obtain ⟨xs, x, hq, hx⟩ := hg
    obtain ⟨its, rv, p, hz⟩ := I.tuple hq
    obtain ⟨u, hu, ru⟩ := rv.get hx
    obtain ⟨f0, f1, f2, f3, f4, f5⟩ := hf it (by simp)
    refine wpAny_pyNext_tuple_item st (show s.heap.IsTuple a its.toArray from p) (x := u) (by simpa using hu) fun h' st' sb => ?_
    have I1 : Inv X pins σ H { s with heap := h' } := I.turned (t' := s.toks) (fun b o hb e => (sb.2 b hb).trans e) f0 f1 f3 f4 f5
    obtain ⟨o, e, c, d⟩ := id st'
    exact ⟨u, rfl, KL (s := { s with heap := h' }) e c d (by decide) ⟨x, H, I1, ru, ⟨rfl, fun ys hy => by rw [I.HA hy hq]; exact hx⟩, st', fun b hb => (hf b hb).1⟩⟩
  done := by
    intro X hP hw hK hc i pins s σ H E I hf st hg
    subst hP hw hK
    obtain ⟨xs, hq, hx⟩ := hg
    obtain ⟨its, rv, p, hz⟩ := I.tuple hq
    obtain ⟨f0, f1, f2, f3, f4, f5⟩ := hf it (by simp)
    have hl := rv.length
    exact tq I.ET (I.hne f5) st (show s.heap.IsTuple a its.toArray from p) (by simp; omega) fun h' eb => ⟨rfl, I.turned (t' := s.toks) (fun b o hb e => eb b o hb e) f0 f1 f3 f4 f5⟩
  self := fun _ _ _ _ _ st h => wpAny_pyIter_tupleiter st h
theorem EF {P : Program} {w : World} {K : PySem.W.Frag} {tg : Expr} (it : Addr) (lo : Int) (n : Nat) : Turn true P w K tg (Itr lo n) [it] it (fun i h => IsRangeIter h it (lo + (i : Nat) * 1) ((n : Int) - (i : Nat)) 1) where
  mem := by simp
  obj := fun i h st b hb => by
    have e : b = it := by simpa using hb
    subst e
    exact ⟨_, st, fun v z => by
      have z' : Data.fields _ = Data.cell v := z
      cases z'⟩
  keep := fun i h h' st k => k it (by simp) _ st
  item := by
    intro X hP hw hK hc i pins s σ H E I hf st hg
    subst hP hw hK
    obtain ⟨f0, f1, f2, f3, f4, f5⟩ := hf it (by simp)
    have W := Walks.range (prog := X.prog) (w := X.w) (I.ok.hd (hc rfl)) it lo 1 n
    refine W.item i s _ _ hg st fun v h' tk hv st' kk => ?_
    obtain ⟨t, rfl⟩ := hv
    have I1 : Inv X pins σ H { s with heap := h', toks := tk } := I.turned (fun b o hb e => kk b o (by simpa using hb) e) f0 f1 f3 f4 f5
    refine ⟨_, rfl, KL (s := { s with heap := h', toks := tk }) (n := "range_iterator") st' rfl rfl (by decide) ⟨.int (lo + i), H, I1, ⟨t, ?_⟩, ⟨rfl, rfl⟩, st', fun b hb => (hf b hb).1⟩⟩
    rw [Int.mul_one]
  done := by
    intro X hP hw hK hc i pins s σ H E I hf st hg
    subst hP hw hK
    obtain ⟨f0, f1, f2, f3, f4, f5⟩ := hf it (by simp)
    exact wpAny_pyNext_range_end (I.ok.hd (hc rfl)) st (by have : n ≤ i := hg; omega) fun h' eb => ⟨rfl, I.turned (t' := s.toks) (fun b o hb e => eb b o hb e) f0 f1 f3 f4 f5⟩
  self := fun _ _ _ _ _ st h => wpAny_pyIter_rangeiter st h
end L2
namespace L2
open PySem PySem.Spec PyProof.Rows
section
variable {X : Cx} {tg : Expr}
def OV (K : PySem.W.Frag) (tl : TE) : TI := fun σ H R => tl σ H fun x H1 => ∃ a, x = .ref a ∧ (∃ xs, SqL K H1 a xs) ∧ R (Itl K a) H1
def Qi (K : PySem.W.Frag) (tl : TE) : TI := fun σ H R => tl σ H fun x H1 => ∃ a, x = .ref a ∧ (∃ xs, SqT K H1 a xs) ∧ R (Itt K a) H1
theorem GB {l : Expr} {tl : TE} (hl : PE X l tl) : PI X tg l (OV X.K tl) := by
  intro pins s σ H R I h
  refine thn (hl pins s σ H _ I h) fun v s1 ⟨x, H1, I1, r1, q1⟩ => ?_
  obtain ⟨a, e, ⟨xs, hq⟩, q⟩ := q1
  subst e
  cases r1
  obtain ⟨its, rv, p, hz⟩ := I1.list hq
  refine wpAny_pyIter_list p.isList ?_
  refine ⟨s1.heap.objs.size, [s1.heap.objs.size], _, _, H1, rfl, I1.kept (t' := s1.toks) fun b o e => Heap.get?_push_of_some _ e, Hf a _, ⟨_, Heap.get?_push_size _ rfl, rfl, rfl⟩, fun b hb => ?_, q⟩
  have e : b = s1.heap.objs.size := by simpa using hb
  subst e
  exact I1.Lb (Nat.le_refl _) (I1.hok.fresh (Nat.le_refl _))
theorem MO {l : Expr} {tl : TE} (hl : PE X l tl) : PI X tg l (Qi X.K tl) := by
  intro pins s σ H R I h
  refine thn (hl pins s σ H _ I h) fun v s1 ⟨x, H1, I1, r1, q1⟩ => ?_
  obtain ⟨a, e, ⟨xs, hq⟩, q⟩ := q1
  subst e
  cases r1
  obtain ⟨its, rv, p, hz⟩ := I1.tuple hq
  refine wpAny_pyIter_tuple (show s1.heap.IsTuple a its.toArray from p) ?_
  refine ⟨s1.heap.objs.size, [s1.heap.objs.size], _, _, H1, rfl, I1.kept (t' := s1.toks) fun b o e => Heap.get?_push_of_some _ e, Ed a _, ⟨_, Heap.get?_push_size _ rfl, rfl, rfl⟩, fun b hb => ?_, q⟩
  have e : b = s1.heap.objs.size := by simpa using hb
  subst e
  exact I1.Lb (Nat.le_refl _) (I1.hok.fresh (Nat.le_refl _))
theorem Dz (hc : X.calm = true) {pins : List (Addr × Obj)} {σ : St} {H : Hp} {s : Shared} {R : It → Hp → Prop} {E : Value → Shared → Prop} {lo hi : Int} {t u v : Tok} {tk : Nat} (I : Inv X pins σ H s) (h1 : -(2 ^ 62) ≤ lo) (h2 : lo < 2 ^ 62) (h3 : -(2 ^ 62) ≤ hi) (h4 : hi < 2 ^ 62)
    (q : R (Itr lo (hi - lo).toNat) H) : wpAny (model X.prog X.w) X.A (pyIter (.ref s.heap.objs.size)) (PIE X pins σ tg R) E { s with heap := s.heap.push { cls := .type "range", data := .fields #[.int lo t, .int hi u, .int 1 v] }, toks := tk } := by
  refine wpAny_pyIter_range (IsRange.new ..) (small_one h1 h2 h3 h4) ?_
  have I1 : Inv X pins σ H { s with heap := s.heap.push { cls := .type "range", data := .fields #[.int lo t, .int hi u, .int 1 v] }, toks := tk } := I.kept fun b o e => Heap.get?_push_of_some _ e
  refine ⟨(s.heap.push { cls := .type "range", data := .fields #[.int lo t, .int hi u, .int 1 v] }).objs.size, [(s.heap.push { cls := .type "range", data := .fields #[.int lo t, .int hi u, .int 1 v] }).objs.size], _, _, H, rfl,
    I1.kept (t' := tk) fun b o e => Heap.get?_push_of_some _ e, (EF _ lo (hi - lo).toNat).calm hc, ?_, fun b hb => ?_, q⟩
  · have e1 : lo + ((0 : Nat) : Int) * 1 = lo := by simp
    have e2 : (((hi - lo).toNat : Nat) : Int) - ((0 : Nat) : Int) = Builtin.Range.rangeSize lo hi 1 := by rw [rangeSize_one]; split <;> omega
    show IsRangeIter _ _ (lo + ((0 : Nat) : Int) * 1) ((((hi - lo).toNat : Nat) : Int) - ((0 : Nat) : Int)) 1
    rw [e1, e2]
    exact Heap.get?_push_size _ rfl
  · have e : b = (s.heap.push { cls := .type "range", data := .fields #[.int lo t, .int hi u, .int 1 v] }).objs.size := by simpa using hb
    subst e
    exact I1.Lb (Nat.le_refl _) (I1.hok.fresh (Nat.le_refl _))
def Pu (ta : TA) : TI := fun σ H R => ta σ H fun vs H1 => ∃ j : Int, vs = [.int j] ∧ -(2 ^ 62) ≤ j ∧ j < 2 ^ 62 ∧ R (Itr 0 j.toNat) H1
def Pg (ta : TA) : TI := fun σ H R => ta σ H fun vs H1 => ∃ i j : Int, vs = [.int i, .int j] ∧ (-(2 ^ 62) ≤ i ∧ i < 2 ^ 62 ∧ -(2 ^ 62) ≤ j ∧ j < 2 ^ 62) ∧ R (Itr i (j - i).toNat) H1
theorem Hx {a : Expr} {ta : TA} {p pos : Pos} (hc : X.calm = true) (hg : Gl X "range") (hm : X.mg "range" = none) (ha : PA X [a] ta) (hs : starEach [a] X.env = [(false, eval a X.env)] := by rfl) : PI X tg (.Call (.Name "range" p) [a] [] pos) (Pu ta) := by
  intro pins s σ H R I h
  refine Call_ (xl I hg hm boot_range (PyProof.Rows.callWith_type1 (thn (ha pos pins s σ H _ I h) fun us s1 ⟨vs, H1, I1, r1, q1⟩ => ?_) hs rfl))
  obtain ⟨j, e, q1, q2, q⟩ := q1
  subst e
  cases r1 with
  | cons r rr =>
    cases rr
    obtain ⟨t, rfl⟩ := r
    exact call_range_1 (Dz hc I1 (by omega) (by omega) q1 q2 (by simpa using q))
theorem G9 {a b : Expr} {ta : TA} {p pos : Pos} (hc : X.calm = true) (hg : Gl X "range") (hm : X.mg "range" = none) (ha : PA X [a, b] ta) (hs : starEach [a, b] X.env = [(false, eval a X.env), (false, eval b X.env)] := by rfl) (hs2 : starEach [b] X.env = [(false, eval b X.env)] := by rfl) :
    PI X tg (.Call (.Name "range" p) [a, b] [] pos) (Pg ta) := by
  intro pins s σ H R I h
  refine Call_ (xl I hg hm boot_range (PyProof.Rows.callWith_type1 (thn (ha pos pins s σ H _ I h) fun us s1 ⟨vs, H1, I1, r1, q1⟩ => ?_) (by rw [hs, hs2]) (by rw [hs2]; rfl)))
  obtain ⟨i, j, e, ⟨q1, q2, q3, q4⟩, q⟩ := q1
  subst e
  cases r1 with
  | cons r rr =>
    cases rr with
    | cons r' rr =>
      cases rr
      obtain ⟨t, rfl⟩ := r
      obtain ⟨t', rfl⟩ := r'
      exact call_range_2 (Dz hc I1 q1 q2 q3 q4 q)
def P1 (wi : TI) (g : TG) (tb : TS) : TS := fun D σ H => wi σ H fun J H1 => ∃ W : Nat → Nat → St → Hp → Prop, (∃ m, W 0 m σ H1) ∧ ∀ i m σ H, W i m σ H →
  (J.stop i H ∧ D.nx σ H) ∨ (J.go i H ∧ ∃ N : St → Hp → Prop, (∀ σ' H', N σ' H' → ∃ m', m' < m ∧ W (i + 1) m' σ' H') ∧ ∀ x H', J.yld i H x H' → g x σ H' fun σ2 H2 => tb { D with nx := N, ct := N, bk := D.nx } σ2 H2)
def u4 (fp : List Addr) (h : Heap) : List (Addr × Obj) := fp.filterMap fun b => (h.get? b).map fun o => (b, o)
theorem gN {fp : List Addr} {h : Heap} {b : Addr} {o : Obj} (hb : b ∈ fp) (e : h.get? b = some o) : (b, o) ∈ u4 fp h := List.mem_filterMap.mpr ⟨b, hb, by rw [e]; rfl⟩
theorem Ii {fp : List Addr} {h : Heap} {p : Addr × Obj} (hp : p ∈ u4 fp h) : p.1 ∈ fp ∧ h.get? p.1 = some p.2 := by
  obtain ⟨b, hb, e⟩ := List.mem_filterMap.mp hp
  cases q : h.get? b with
  | none => rw [q] at e; cases e
  | some o =>
    rw [q] at e
    have e' : (b, o) = p := Option.some.inj e
    subst e'
    exact ⟨hb, q⟩
theorem Inv.pinned {pins : List (Addr × Obj)} {σ : St} {H : Hp} {s : Shared} {fp : List Addr} (I : Inv X pins σ H s) (hf : ∀ b ∈ fp, BP X pins H b) (ho : ∀ b ∈ fp, ∃ o, s.heap.get? b = some o ∧ ∀ v, o.data ≠ .cell v) : Inv X (pins ++ u4 fp s.heap) σ H s :=
  I.Gz fun p hp => (List.mem_append.mp hp).elim (fun z => I.pin p (List.mem_append_right _ z)) fun z => by
    obtain ⟨hb, e⟩ := Ii z
    obtain ⟨f0, f1, f2, _⟩ := hf p.1 hb
    obtain ⟨o, e', d⟩ := ho p.1 hb
    rw [e] at e'; cases e'
    exact ⟨e, f0, f1, f2, d⟩
theorem Inv.md {pins pl : List (Addr × Obj)} {σ : St} {H : Hp} {s : Shared} (I : Inv X (pins ++ pl) σ H s) : Inv X pins σ H s := I.Gz fun p hp => I.pin p (List.mem_append_right _ (List.mem_append_left _ hp))
theorem JL {iter : Expr} {body : List Stmt} {wi : TI} {g : TG} {tb : TS} {pos : Pos} (hp : PassesOwn (model X.prog X.w) X.A X.env X.xe) (hc : X.calm = true) (hi : PI X tg iter wi) (hg : PG X tg g) (hb : PSs X body tb)
    (hs : ∀ x, foldedSetIterable iter X.env x = pure x := by intro _; rfl) : PS X (.For tg iter body [] pos) (P1 wi g tb) := by
  intro pins s σ H D I h
  refine wpAny_For (thn (hi pins s σ H _ I h) fun v s1 h1 => thn h1 fun itv s2 h2 => ?_) hs
  obtain ⟨it, fp, tn, J, H2, e, I2, T, st2, f2, W, ⟨m0, w0⟩, turn⟩ := h2
  subst e
  have stat : ∀ {H' : Hp}, (∀ b ∈ fp, H' b = none) → ∀ b ∈ fp, BP X pins H' b := fun hn b hb => ⟨hn b hb, (f2 b hb).2⟩
  refine codeAny_forLoop_any (fun n s' => ∃ i σ' H', Inv X pins σ' H' s' ∧ tn i s'.heap ∧ (∀ b ∈ fp, H' b = none) ∧ W i n σ' H') ?_ m0 ⟨0, σ, H2, I2, st2, fun b hb => (f2 b hb).1, w0⟩
  rintro n s3 ⟨i, σ3, H3, I3, st3, fr3, w3⟩
  rcases turn i n σ3 H3 w3 with ⟨stop, qn⟩ | ⟨go, N, hN, step⟩
  · refine wpAny_passesOwn hp (thn (T.done X rfl rfl rfl (fun z => z) i pins s3 σ3 H3 X.xe I3 (stat fr3) st3 stop) fun r s4 ⟨hr, I4⟩ => ?_)
    subst hr
    exact wpAny_execs_nil ⟨σ3, H3, I4, qn⟩
  · refine wpAny_passesOwn hp (thn (T.item X rfl rfl rfl (fun z => z) i pins s3 σ3 H3 X.xe I3 (stat fr3) st3 go) fun r s4 ⟨u, hr, h4⟩ => ?_)
    subst hr
    refine wpAny_passesOwn hp (thn h4 fun _ s5 ⟨x, H5, I5, r5, y5, st5, fr5⟩ => ?_)
    have I5' := I5.pinned (stat fr5) (T.obj _ _ st5)
    refine wpAny_passesOwn hp (thn (hg _ s5 σ3 H5 x u _ I5' r5 (step x H5 y5)) fun _ s6 ⟨σ6, H6, I6, q6⟩ => ?_)
    refine wpAny_passesOwn hp (thn (hb _ s6 σ6 H6 _ I6 q6) fun f s7 q7 => ?_)
    have again : ∀ {σ7 : St} {H7 : Hp}, Inv X (pins ++ u4 fp s5.heap) σ7 H7 s7 → N σ7 H7 → ∃ m, m < n ∧ ∃ i σ' H', Inv X pins σ' H' s7 ∧ tn i s7.heap ∧ (∀ b ∈ fp, H' b = none) ∧ W i m σ' H' := fun {σ7 H7} I7 n7 => by
      obtain ⟨m', hm, w7⟩ := hN σ7 H7 n7
      refine ⟨m', hm, i + 1, σ7, H7, I7.md, T.keep _ _ _ st5 fun b hb o e => (I7.pin (b, o) (List.mem_append_right _ (List.mem_append_right _ (gN hb e)))).1, fun b hb => ?_, w7⟩
      obtain ⟨o, e, d⟩ := T.obj _ _ st5 b hb
      exact (I7.pin (b, o) (List.mem_append_right _ (List.mem_append_right _ (gN hb e)))).2.1
    cases f with
    | next => obtain ⟨σ7, H7, I7, n7⟩ := q7; exact again I7 n7
    | cont => obtain ⟨σ7, H7, I7, n7⟩ := q7; exact again I7 n7
    | brk => obtain ⟨σ7, H7, I7, q7⟩ := q7; exact ⟨σ7, H7, I7.md, q7⟩
    | ret v => obtain ⟨x7, σ7, H7, I7, r7, q7⟩ := q7; exact ⟨x7, σ7, H7, I7.md, r7, q7⟩
end
end L2
namespace L2
open PySem PySem.Spec PyProof.Rows
abbrev R2 := V → V → Hp → VK → Prop
def OpR (X : Cx) (f : Value → Value → Sem Value) (r : R2) : Prop :=
  ∀ (pins : List (Addr × Obj)) (s : Shared) (σ : St) (H : Hp) (x y : V) (v u : Value) (Q : VK), Inv X pins σ H s → RelV x v → RelV y u → r x y H Q →
    wpAny (model X.prog X.w) X.A (f v u) (EP X pins σ Q) X.xe s
def UnR (X : Cx) (f : Value → Sem Value) (r : V → Hp → VK → Prop) : Prop :=
  ∀ (pins : List (Addr × Obj)) (s : Shared) (σ : St) (H : Hp) (x : V) (v : Value) (Q : VK), Inv X pins σ H s → RelV x v → r x H Q →
    wpAny (model X.prog X.w) X.A (f v) (EP X pins σ Q) X.xe s
def hU (X : Cx) (f : Value) (r : List V → Hp → VK → Prop) : Prop :=
  ∀ (pins : List (Addr × Obj)) (s : Shared) (σ : St) (H : Hp) (xs : List V) (us : List Value) (Q : VK), Inv X pins σ H s → Vals xs us → r xs H Q →
    wpAny (model X.prog X.w) X.A (call f us) (EP X pins σ Q) X.xe s
def tOp (r : R2) (ta tb : TE) : TE := fun σ H Q => ta σ H fun x H1 => tb σ H1 fun y H2 => r x y H2 Q
def tUn (r : V → Hp → VK → Prop) (ta : TE) : TE := fun σ H Q => ta σ H fun x H1 => r x H1 Q
def rI (C : Int → Int → Prop) (g : Int → Int → V) : R2 := fun x y H Q => ∃ i j, x = .int i ∧ y = .int j ∧ C i j ∧ Q (g i j) H
def rI0 (g : Int → Int → V) : R2 := fun x y H Q => ∃ i j, x = .int i ∧ y = .int j ∧ Q (g i j) H
def rU (g : Int → V) : V → Hp → VK → Prop := fun x H Q => ∃ i, x = .int i ∧ Q (g i) H
section
variable {X : Cx} {a b c : Expr} {ta tb tc : TE} {pos : Pos}
theorem Nt (ha : PE X a ta) (hb : PE X b tb) {pins : List (Addr × Obj)} {s : Shared} {σ : St} {H : Hp} {R : V → V → Hp → Prop} (I : Inv X pins σ H s)
    (h : ta σ H fun x H1 => tb σ H1 fun y H2 => R x y H2) {Q : Value → Shared → Prop} {f : Value → Value → Sem Value}
    (hf : ∀ v u s2 x y H2, Inv X pins σ H2 s2 → RelV x v → RelV y u → R x y H2 → wpAny (model X.prog X.w) X.A (f v u) Q X.xe s2) :
    wpAny (model X.prog X.w) X.A (eval a X.env) (fun v s₁ => wpAny (model X.prog X.w) X.A (eval b X.env) (fun u s₂ => wpAny (model X.prog X.w) X.A (f v u) Q X.xe s₂) X.xe s₁) X.xe s := by
  refine thn (ha pins s σ H _ I h) fun v s1 ⟨x, H1, I1, r1, q1⟩ => ?_
  refine thn (hb pins s1 σ H1 _ I1 q1) fun u s2 ⟨y, H2, I2, r2, q2⟩ => ?_
  exact hf v u s2 x y H2 I2 r1 r2 q2
theorem OM {op : Operator} {r : R2} (ho : OpR X (binaryOp op) r) (ha : PE X a ta) (hb : PE X b tb) : PE X (.BinOp a op b pos) (tOp r ta tb) := by
  intro pins s σ H Q I h
  exact wpAny_BinOp (Nt ha hb I h fun v u s2 x y H2 I2 rx ry q => ho pins s2 σ H2 x y v u Q I2 rx ry q)
theorem Mn {op : UnaryOp} {r : V → Hp → VK → Prop} (ho : UnR X (unaryOp op) r) (ha : PE X a ta) : PE X (.UnaryOp op a pos) (tUn r ta) := by
  intro pins s σ H Q I h
  exact UnaryOp_ (thn (ha pins s σ H _ I h) fun v s1 ⟨x, H1, I1, r1, q1⟩ => ho pins s1 σ H1 x v Q I1 r1 q1)
theorem opI {f : Value → Value → Sem Value} {C : Int → Int → Prop} {g : Int → Int → Int}
    (rule : ∀ (i j : Int) (t u : Tok) (s : Shared) (Q : Value → Shared → Prop) (E : Value → Shared → Prop), C i j → Q (.int (g i j) s.toks) { s with toks := s.toks + 1 } → wpAny (model X.prog X.w) X.A (f (.int i t) (.int j u)) Q E s) :
    OpR X f (rI C fun i j => .int (g i j)) := by
  intro pins s σ H x y v u Q I rx ry h
  obtain ⟨i, j, rfl, rfl, hc, q⟩ := h
  obtain ⟨t, rfl⟩ := rx
  obtain ⟨t', rfl⟩ := ry
  exact rule i j t t' s _ _ hc ⟨.int (g i j), H, I.tok _, ⟨_, rfl⟩, q⟩
theorem O5 {f : Value → Value → Sem Value} {g : Int → Int → Int}
    (rule : ∀ (i j : Int) (t u : Tok) (s : Shared) (Q : Value → Shared → Prop) (E : Value → Shared → Prop), Q (.int (g i j) s.toks) { s with toks := s.toks + 1 } → wpAny (model X.prog X.w) X.A (f (.int i t) (.int j u)) Q E s) :
    OpR X f (rI0 fun i j => .int (g i j)) := by
  intro pins s σ H x y v u Q I rx ry h
  obtain ⟨i, j, rfl, rfl, q⟩ := h
  obtain ⟨t, rfl⟩ := rx
  obtain ⟨t', rfl⟩ := ry
  exact rule i j t t' s _ _ ⟨.int (g i j), H, I.tok _, ⟨_, rfl⟩, q⟩
theorem LF {f : Value → Value → Sem Value} {g : Int → Int → Bool}
    (rule : ∀ (i j : Int) (t u : Tok) (s : Shared) (Q : Value → Shared → Prop) (E : Value → Shared → Prop), Q (.bool (g i j)) s → wpAny (model X.prog X.w) X.A (f (.int i t) (.int j u)) Q E s) :
    OpR X f (rI0 fun i j => .bl (g i j)) := by
  intro pins s σ H x y v u Q I rx ry h
  obtain ⟨i, j, rfl, rfl, q⟩ := h
  obtain ⟨t, rfl⟩ := rx
  obtain ⟨t', rfl⟩ := ry
  exact rule i j t t' s _ _ ⟨.bl (g i j), H, I, rfl, q⟩
def Hj (i j : Int) : Prop := 0 ≤ j ∧ j ≤ 1000000 ∧ i.natAbs < 2 ^ 64
def LI (i j : Int) : Prop := (-(2 ^ 64) < i ∧ i < 2 ^ 64) ∨ (-(2 ^ 64) < j ∧ j < 2 ^ 64)
theorem LI.ok {i j : Int} (h : LI i j) : IntMulOk i j := by
  rcases h with ⟨h1, h2⟩ | ⟨h1, h2⟩
  · exact .of_left (intBits_le_64 h1 h2)
  · exact .of_right (intBits_le_64 h1 h2)
theorem Oc : OpR X (binaryOp .Add) (rI0 fun i j => .int (i + j)) := O5 fun _ _ _ _ _ _ _ q => add_int q
theorem MS : OpR X (binaryOp .Sub) (rI0 fun i j => .int (i - j)) := O5 fun _ _ _ _ _ _ _ q => sub_int q
theorem LG : OpR X (binaryOp .Mod) (rI (fun _ j => j ≠ 0) fun i j => .int (i.fmod j)) := opI fun _ _ _ _ _ _ _ hc q => mod_int' hc q
theorem Ni : OpR X (binaryOp .Pow) (rI Hj fun i j => .int (i ^ j.toNat)) := opI fun _ _ _ _ _ _ _ hc q => pow_int_small hc.1 hc.2.1 hc.2.2 q
theorem unI {f : Value → Sem Value} {g : Int → Int}
    (rule : ∀ (i : Int) (t : Tok) (s : Shared) (Q : Value → Shared → Prop) (E : Value → Shared → Prop), Q (.int (g i) s.toks) { s with toks := s.toks + 1 } → wpAny (model X.prog X.w) X.A (f (.int i t)) Q E s) :
    UnR X f (rU fun i => .int (g i)) := by
  intro pins s σ H x v Q I rx h
  obtain ⟨i, rfl, q⟩ := h
  obtain ⟨t, rfl⟩ := rx
  exact rule i t s _ _ ⟨.int (g i), H, I.tok _, ⟨_, rfl⟩, q⟩
theorem Iw : UnR X (unaryOp .USub) (rU fun i => .int (-i)) := unI fun _ _ _ _ _ q => neg_int q
end
section
variable {X : Cx} {a b c : Expr} {ta tb tc : TE} {pos : Pos}
theorem qy : OpR X (compareOp .Lt) (rI0 fun i j => .bl (decide (i < j))) := LF fun _ _ _ _ _ _ _ q => lt_int q
theorem Mm : OpR X (compareOp .LtE) (rI0 fun i j => .bl (decide (i ≤ j))) := LF fun _ _ _ _ _ _ _ q => le_int q
theorem jb : OpR X (compareOp .Gt) (rI0 fun i j => .bl (decide (j < i))) := LF fun _ _ _ _ _ _ _ q => gt_int q
theorem zH : OpR X (compareOp .GtE) (rI0 fun i j => .bl (decide (j ≤ i))) := LF fun _ _ _ _ _ _ _ q => ge_int q
theorem OpR.or {f : Value → Value → Sem Value} {r r' : R2} (h : OpR X f r) (h' : OpR X f r') : OpR X f (fun x y H Q => r x y H Q ∨ r' x y H Q) := by
  intro pins s σ H x y v u Q I rx ry q
  rcases q with q | q
  · exact h pins s σ H x y v u Q I rx ry q
  · exact h' pins s σ H x y v u Q I rx ry q
theorem aM (b : Expr) {op : CmpOp} (h : op ≠ .In := by decide) (h2 : op ≠ .NotIn := by decide) : behindInMarks op b = false := by
  have e1 : (op == CmpOp.In) = false := by cases op <;> first | rfl | exact absurd rfl h
  have e2 : (op == CmpOp.NotIn) = false := by cases op <;> first | rfl | exact absurd rfl h2
  cases b <;> simp [behindInMarks, e1, e2]
theorem KQ {op : CmpOp} {r : R2} (ho : OpR X (compareOp op) r) (ha : PE X a ta) (hb : PE X b tb) (hm : behindInMarks op b = false) : PE X (.Compare a [op] [b] pos) (tOp r ta tb) := by
  intro pins s σ H Q I h
  exact wpAny_Compare1 (Nt ha hb I h fun v u s2 x y H2 I2 rx ry q => ho pins s2 σ H2 x y v u Q I2 rx ry q) hm
def Mb (t : TE) : TT := fun σ H Q => t σ H fun x H' => ∃ k, x = .bl k ∧ Q k H'
theorem LO {op : CmpOp} {r : R2} (ho : OpR X (compareOp op) r) (ha : PE X a ta) (hb : PE X b tb) (hm : behindInMarks op b = false) : PT X (.Compare a [op] [b] pos) (Mb (tOp r ta tb)) := by
  intro pins s σ H Q I h
  refine wpAny_isTrue_Compare1 (thn (ha pins s σ H _ I h) fun v s1 ⟨x, H1, I1, r1, q1⟩ => thn (hb pins s1 σ H1 _ I1 q1) fun u s2 ⟨y, H2, I2, r2, q2⟩ =>
    thn (ho pins s2 σ H2 x y v u _ I2 r1 r2 q2) fun c s3 ⟨z, H3, I3, r3, k, e, q3⟩ => ?_) hm
  subst e
  cases r3
  exact wpAny_truthy_bool ⟨H3, I3, q3⟩
theorem xR : (sizeLine : Nat) < 2 ^ 63 := by rw [sizeLine_eq]; decide
theorem vals1 {x : V} {us : List Value} (r : Vals [x] us) : ∃ u, us = [u] ∧ RelV x u := by
  cases r with
  | cons r1 r2 => cases r2; exact ⟨_, rfl, r1⟩
theorem vals2 {x y : V} {us : List Value} (r : Vals [x, y] us) : ∃ u w', us = [u, w'] ∧ RelV x u ∧ RelV y w' := by
  cases r with
  | cons r1 r2 =>
    cases r2 with
    | cons r3 r4 => cases r4; exact ⟨_, _, rfl, r1, r3⟩
theorem IJ : hU X (.builtin "abs") (fun xs H Q => ∃ i, xs = [.int i] ∧ Q (.int (if i < 0 then -i else i)) H) := by
  intro pins s σ H xs us Q I r h
  obtain ⟨i, rfl, q⟩ := h
  obtain ⟨u, rfl, t, rfl⟩ := vals1 r
  exact call_abs_int fun u tk => ⟨.int (if i < 0 then -i else i), H, I.tok _, ⟨_, rfl⟩, q⟩
theorem HV (hc : X.calm = true) : hU X (.builtin "max") (fun xs H Q => ∃ i j, xs = [.int i, .int j] ∧ Q (.int (if j > i then j else i)) H) := by
  intro pins s σ H xs us Q I r h
  obtain ⟨i, j, rfl, q⟩ := h
  obtain ⟨u, w', rfl, ⟨t, rfl⟩, ⟨t', rfl⟩⟩ := vals2 r
  refine max_two_ints (I.ok.hd hc) fun h' tk k => ⟨_, H, I.kept k, ?_, q⟩
  by_cases hj : j > i
  · rw [if_pos hj, if_pos hj]; exact ⟨_, rfl⟩
  · rw [if_neg hj, if_neg hj]; exact ⟨_, rfl⟩
theorem HC (hc : X.calm = true) : hU X (.builtin "min") (fun xs H Q => ∃ i j, xs = [.int i, .int j] ∧ Q (.int (if j < i then j else i)) H) := by
  intro pins s σ H xs us Q I r h
  obtain ⟨i, j, rfl, q⟩ := h
  obtain ⟨u, w', rfl, ⟨t, rfl⟩, ⟨t', rfl⟩⟩ := vals2 r
  refine min_two_ints (I.ok.hd hc) fun h' tk k => ⟨_, H, I.kept k, ?_, q⟩
  by_cases hj : j < i
  · rw [if_pos hj, if_pos hj]; exact ⟨_, rfl⟩
  · rw [if_neg hj, if_neg hj]; exact ⟨_, rfl⟩
theorem HD : hU X (.type "int") (fun xs H Q => (∃ i, xs = [.int i] ∧ Q (.int i) H) ∨ ∃ k, xs = [.bl k] ∧ Q (.int (if k then 1 else 0)) H) := by
  intro pins s σ H xs us Q I r h
  rcases h with ⟨i, rfl, q⟩ | ⟨k, rfl, q⟩
  · obtain ⟨u, rfl, t, rfl⟩ := vals1 r
    exact call_int_int ⟨.int i, H, I, ⟨_, rfl⟩, q⟩
  · obtain ⟨u, rfl, r1⟩ := vals1 r
    cases r1
    exact call_int_bool ⟨.int (if k then 1 else 0), H, I.tok _, ⟨_, rfl⟩, q⟩
end
end L2
namespace L2
open PySem PySem.Spec PyProof.Rows
section
variable {prog : Program} {w : World} {A : Around} {E : Value → Shared → Prop} {s : Shared} {K : PySem.W.Frag} {x dx C f : Addr} {mA : Str → Option Value} {name : Str} {v : Value}
end
section
variable {P : Program} {w : World} {H H' : Hp} {h h' : Heap} {a C dx : Addr} {fs fs' : List (Str × V)}
end
structure Cls (K : PySem.W.Frag) (C : Addr) : Prop where
  pg : PySem.W.plainGet K C Str.empty = true
  hd : PySem.W.hasDictIn K C = true
  po : PySem.W.plainOver K C = true
  sa : PySem.W.findIn K (.ref C) "__setattr__" = some (some (.builtin "object.__setattr__"))
theorem Cls.get {K : PySem.W.Frag} {C : Addr} (c : Cls K C) (f : Str) : PySem.W.plainGet K C f = true := c.pg
section
variable {X : Cx} {pins : List (Addr × Obj)} {σ : St} {H : Hp} {s : Shared} {a C dx : Addr} {fs : List (Str × V)} {f : Str} {v : V} {A : Around} {E : Value → Shared → Prop}
theorem Inv.made (I : Inv X pins σ H s) : Inv X pins σ (upd (upd H s.heap.objs.size (.own (s.heap.objs.size + 1))) (s.heap.objs.size + 1) (.ins C s.heap.objs.size []))
    { s with heap := (s.heap.push PySem.W.emptyDict).push (PySem.W.instObj C s.heap.objs.size) } := by
  have e1 : (s.heap.push PySem.W.emptyDict).get? s.heap.objs.size = some PySem.W.emptyDict := Heap.get?_push_size s.heap rfl
  have e2 : ((s.heap.push PySem.W.emptyDict).push (PySem.W.instObj C s.heap.objs.size)).get? (s.heap.objs.size + 1) = some (PySem.W.instObj C s.heap.objs.size) := by
    have := Heap.get?_push_size (s.heap.push PySem.W.emptyDict) (o := PySem.W.instObj C s.heap.objs.size) rfl
    rwa [Heap.size_push] at this
  have e3 : (s.heap.push PySem.W.emptyDict).Ns s.heap.objs.size (fun _ => none) := ⟨PySem.W.emptyDict, #[], _, e1, rfl, (fun e he => absurd he (by simp)), fun _ => rfl⟩
  have I1 := I.laid (a := s.heap.objs.size) (o := .own (s.heap.objs.size + 1)) (h' := s.heap.push PySem.W.emptyDict) (t' := s.toks) (fun b u q => Heap.get?_push_of_some _ q) (Nat.le_refl _) ⟨_, e1⟩
  refine I1.laid (a := s.heap.objs.size + 1) (o := .ins C s.heap.objs.size []) (t' := s.toks) (fun b u q => Heap.get?_push_of_some _ q) (Nat.le_of_eq (Heap.size_push _ _)) ?_
  have ne : s.heap.objs.size ≠ s.heap.objs.size + 1 := Nat.ne_of_lt (Nat.lt_succ_self _)
  refine ⟨by rw [cF ne, ja], Nat.zero_le _, ne, e2, fun _ => none, (Heap.Ns1.of_empty e3).at fun o q => Heap.get?_push_of_some _ q, fun _ => True.intro, fun y hy => absurd rfl hy⟩
end
section
variable {X : Cx} {o e value : Expr} {f : Str} {pos pos' tpos : Pos} {ta tv : TE}
end
section
variable {X : Cx} {pins : List (Addr × Obj)} {σ : St} {H : Hp} {s : Shared} {A : Around} {E : Value → Shared → Prop} {Q : Value → Shared → Prop} {c : Value} {b : Bool}
end
end L2
namespace L2
open PySem PySem.Spec PyProof.Rows
structure mG (k : Nat) (A : Around) : Prop where
  hd : A.handled = none
  dp : A.depth + 3 * k + 5 < recursionLimit
  un : A.units + 16 * k + 200 < cLine
theorem mG.mono {j k : Nat} {A : Around} (r : mG k A) (h : j ≤ k) : mG j A := ⟨r.hd, by have := r.dp; omega, by have := r.un; omega⟩
theorem mG.deeper {k : Nat} {A : Around} (r : mG (k + 1) A) (env : Env) : mG k (A.deeper env) :=
  ⟨r.hd, by have := r.dp; show A.depth + 1 + 3 * k + 5 < _; omega, by have := r.un; show A.units + 3 + 16 * k + 200 < _; omega⟩
theorem mG.depth {k : Nat} {A : Around} (r : mG k A) : A.depth < recursionLimit := by have := r.dp; omega
theorem mG.units {k : Nat} {A : Around} (r : mG k A) : A.units + 64 < cLine := by have := r.un; omega
def P2 : TA := fun _ H Q => Q [] H
def Po (ta : TE) (tr : TA) : TA := fun σ H Q => ta σ H fun x H1 => tr σ H1 fun xs H2 => Q (x :: xs) H2
section
variable {X : Cx} {e : Expr} {es : List Expr} {te : TE} {t : TA} {pos : Pos}
theorem vj : PA X [] P2 := fun _ _ _ _ H Q I h => Calls.spliced_nil ⟨[], H, I, .nil, h⟩
theorem nr (ha : PE X e te) (hr : PA X es t) (hs : starEach (e :: es) X.env = (false, eval e X.env) :: starEach es X.env := by rfl) : PA X (e :: es) (Po te t) := by
  intro pos pins s σ H Q I h
  rw [hs]
  show wpAny _ _ (spliced ((false, eval e X.env) :: backTo pos (starEach es X.env))) _ _ s
  refine Calls.spliced_cons (thn (ha pins s σ H _ I h) fun u s1 ⟨x, H1, I1, r1, q1⟩ => ?_)
  exact thn (hr pos pins s1 σ H1 _ I1 q1) fun us s2 ⟨xs, H2, I2, r2, q2⟩ => ⟨x :: xs, H2, I2, .cons r1 r2, q2⟩
def PY (t : TA) : TE := fun σ H Q => t σ H fun xs H1 => xs.length ≤ sizeLine ∧ ∀ p, H1 p = none → Q (.ref p) (upd H1 p (.tup xs))
def P5 (t : TA) : TE := fun σ H Q => t σ H fun xs H1 => xs.length ≤ sizeLine ∧ ∀ p, H1 p = none → Q (.ref p) (upd H1 p (.lst xs))
theorem MV {x1} (h : PA X es t) : PE X (.Tuple es x1 pos) (PY t) := by
  intro pins s σ H Q I hq
  refine wpAny_Tuple_spliced (thn (h pos pins s σ H _ I hq) fun us s1 ⟨xs, H1, I1, r, z, q⟩ => ⟨by rw [← r.length]; exact z, ?_⟩)
  have hf : H1 s1.heap.objs.size = none := I1.hok.fresh (Nat.le_refl _)
  refine ⟨.ref s1.heap.objs.size, upd H1 s1.heap.objs.size (.tup xs), I1.laid (t' := s1.toks) (fun b u e => Heap.get?_push_of_some _ e) (Nat.le_refl _) ?_, rfl, q _ hf⟩
  exact ⟨z, us, r, ⟨_, Heap.get?_push_size _ rfl, rfl, _, rfl⟩⟩
theorem NJ (h : PA X es t) : PE X (.List es pos) (P5 t) := by
  intro pins s σ H Q I hq
  refine wpAny_List_spliced (thn (h pos pins s σ H _ I hq) fun us s1 ⟨xs, H1, I1, r, z, q⟩ => ⟨by rw [← r.length]; exact z, ?_⟩)
  have hf : H1 s1.heap.objs.size = none := I1.hok.fresh (Nat.le_refl _)
  refine ⟨.ref s1.heap.objs.size, upd H1 s1.heap.objs.size (.lst xs), I1.laid (t' := s1.toks) (fun b u e => Heap.get?_push_of_some _ e) (Nat.le_refl _) ?_, rfl, q _ hf⟩
  exact ⟨z, us, 0, r, Heap.get?_push_size _ rfl⟩
end
abbrev Sp := List V → Hp → VK → XK → Prop
abbrev CXT := List Env → Hp → Shared → XK → Value → Shared → Prop
structure L0 (P : Program) (w : World) (K : PySem.W.Frag) (mg : Str → Option Value) (base : Heap) (A : Around) (outer : List Env) (s : Shared) (H : Hp) : Prop where
  frames : A.frames = some outer
  mod : Mod K mg base
  bs : ∀ b o, base.get? b = some o → s.heap.get? b = some o ∧ H b = none
  bsz : base.objs.size ≤ s.heap.objs.size
  xG : s.heap.FunFrames base outer
  frf : ∀ b ∈ frs outer, H b = none
  hok : HOk P w H s.heap
  bare : AllBare s.gens
def CE (outer : List Env) (P : Program) (w : World) (H : Hp) (s : Shared) (Q : VK) (u : Value) (s' : Shared) : Prop :=
  ∃ v H', s'.os = s.os ∧ AllBare s'.gens ∧ Un (frs outer) [] H H' s.heap s'.heap ∧ HOk P w H' s'.heap ∧ RelV v u ∧ Q v H'
def CR (CX : CXT) (outer : List Env) (P : Program) (w : World) (H : Hp) (s : Shared) (Q : VK) (E : XK) (r : Result) (s' : Shared) : Prop :=
  match r with
  | .ok (.ret u) => CE outer P w H s Q u s'
  | .ok _ => False
  | .error e => CX outer H s E e s'
structure bM (P : Program) (w : World) (K : PySem.W.Frag) (mg : Str → Option Value) (base : Heap) (CX : CXT) (k : Nat) (f : Addr) (fd : FuncData) (ps : List Str) (sp : Sp) : Prop where
  len : ∀ vs H Q E, sp vs H Q E → vs.length = ps.length
  run : ∀ (A : Around) (outer : List Env) (s : Shared) (H : Hp) (args : Args) (us : List Value) (vs : List V) (Q : VK) (E : XK), mG k A → L0 P w K mg base A outer s H → BindsTo s fd args (ps.zip us) → Vals vs us → sp vs H Q E →
    codeAny (model P w) A (.call (.ref f) args) (CR CX outer P w H s Q E) s
theorem bM.mono {P : Program} {w : World} {K : PySem.W.Frag} {mg : Str → Option Value} {base : Heap} {CX : CXT} {j k : Nat} {f : Addr} {fd : FuncData} {ps : List Str} {sp : Sp} (F : bM P w K mg base CX j f fd ps sp) (h : j ≤ k) :
    bM P w K mg base CX k f fd ps sp := ⟨F.len, fun A outer s H args us vs Q E hr => F.run A outer s H args us vs Q E (hr.mono h)⟩
section
variable {X : Cx} {pins : List (Addr × Obj)} {σ : St} {H : Hp} {s s' : Shared}
theorem Inv.Qg (I : Inv X pins σ H s) : L0 X.prog X.w X.K X.mg X.base X.A X.stack s H :=
  ⟨I.ok.frames, I.ok.mod, I.bs, Nat.le_trans I.ok.bsz I.sz, I.stack, I.BV, I.hok, I.bare⟩
theorem Inv.after {Q : VK} {u : Value} (I : Inv X pins σ H s) (h : CE X.stack X.prog X.w H s Q u s') : EP X pins σ Q u s' := by
  obtain ⟨v, H', os, bare, un, hok, r, q⟩ := h
  obtain ⟨hh, g, d, t, os'⟩ := s'
  obtain rfl : os' = s.os := os
  exact ⟨v, H', I.call (h' := hh) (g' := g) (d' := d) (t' := t) (ch := []) un hok bare (fun b z => absurd z (by simp)), r, q⟩
end
def OL (sp : Sp) (dvs : List V) (E : XK) (t : TA) : TE := fun σ H Q => t σ H fun vs H1 => sp (vs ++ dvs) H1 Q E
def Binds (K : PySem.W.Frag) (fd : FuncData) (ps : List Str) (ds : List Value) : Prop :=
  ∀ (s : Shared) (us : List Value), K.In s.heap → (us ++ ds).length = ps.length → BindsTo s fd ⟨us, []⟩ (ps.zip (us ++ ds))
theorem Binds.all {K : PySem.W.Frag} {fd : FuncData} {ps : List Str} (h : ∀ us : List Value, us.length = ps.length → bindArgs fd ⟨us, []⟩ = pure (ps.zip us)) : Binds K fd ps [] := fun s us _ hl => by
  rw [List.append_nil] at hl ⊢
  exact .of_eq (h us hl)
def Passes (CX : CXT) (X : Cx) (E : XK) : Prop := ∀ (pins : List (Addr × Obj)) (σ : St) (H : Hp) (s : Shared) (e : Value) (s' : Shared), Inv X pins σ H s → CX X.stack H s E e s' → X.xe e s'
section
variable {X : Cx} {CX : CXT} {k : Nat} {f C : Addr} {fd : FuncData} {ps : List Str} {sp : Sp} {dvs : List V} {ds : List Value} {E : XK} {x m : Str} {p pos apos : Pos} {e o : Expr} {es : List Expr} {ta : TE} {t : TA}
theorem ML {pins : List (Addr × Obj)} {σ : St} {H : Hp} {s : Shared} {Q : VK} {us : List Value} {vs : List V} (F : bM X.prog X.w X.K X.mg X.base CX k f fd ps sp) (hr : mG k X.A) (hb : Binds X.K fd ps ds) (hd : Vals dvs ds) (hx : Passes CX X E)
    (I : Inv X pins σ H s) (r : Vals vs us) (h : sp (vs ++ dvs) H Q E) : wpAny (model X.prog X.w) X.A (call (.ref f) us) (EP X pins σ Q) X.xe s := by
  have r2 : Vals (vs ++ dvs) (us ++ ds) := r.append hd
  have hl : (us ++ ds).length = ps.length := by rw [← r2.length]; exact F.len _ _ _ _ h
  refine wpAny_call (codeAny_mono (F.run X.A X.stack s H ⟨us, []⟩ (us ++ ds) (vs ++ dvs) Q E hr I.Qg (hb s us I.kIn hl) r2 h) fun r s' hq => ?_)
  cases r with
  | error e => exact hx pins σ H s e s' I hq
  | ok fl =>
    cases fl with
    | ret u => exact I.after hq
    | next => exact False.elim hq
    | brk => exact False.elim hq
    | cont => exact False.elim hq
theorem Ls (F : bM X.prog X.w X.K X.mg X.base CX k f fd ps sp) (hr : mG k X.A) (hg : Gl X x) (hm : X.mg x = some (.ref f)) (hk : PySem.W.keepIn X.K (.ref f) = true) (hb : Binds X.K fd ps ds) (hd : Vals dvs ds) (hx : Passes CX X E)
    (ha : PA X (e :: es) t) (hdb : (x == ("__debug__" : Str)) = false := by decide) (he : starEach (e :: es) X.env = (false, eval e X.env) :: starEach es X.env := by rfl) (hpl : (backTo pos (starEach es X.env)).any (·.1) = false := by rfl) :
    PE X (.Call (.Name x p) (e :: es) [] pos) (OL sp dvs E t) := by
  intro pins s σ H Q I h
  refine wpAny_Call_Name_kw (GJ I hg hm ?_ hdb)
  refine PySem.W.callWith_K (h₀ := X.base) I.ok.mod.kin hk (thn (ha pos pins s σ H _ I h) fun us s1 ⟨vs, H1, I1, r, q⟩ => ⟨I1.kIn, ?_⟩) he hpl
  exact ML F hr hb hd hx I1 r q
end
section
variable {X : Cx} {CX : CXT} {k : Nat} {f C : Addr} {fd : FuncData} {ps ks : List Str} {sp : Sp} {E : XK} {x m : Str} {p pos apos kpos : Pos} {e o : Expr} {es : List Expr} {kws : List Keyword} {te ta : TE} {t tk : TA} {nm : Option Str}
variable {g : List Value → List Value → List Value} {gV : List V → List V → List V}
end
structure aG (N P : List Str) (sc : Scope) : Prop where
  kind : sc.kind = .function
  co : sc.isCoroutine = false
  gen : sc.isGenerator = false
  nd : N.Nodup
  pre : N.take P.length = P
  par : ∀ x ∈ P, sc.names.lookup x = some .local ∨ sc.names.lookup x = some .cell
  Nf : ∀ y ∈ sc.names, y.2 ≠ .free
theorem zf {kindOf : Str → Option NameKind} {x : Str} : ∀ {binds : List (Str × Value)} {m : Str → Option Value}, (∀ v, (x, v) ∉ binds) → bindL kindOf binds m x = m x
  | [], _, _ => rfl
  | (n, v) :: r, m, h => by
    unfold bindL
    rw [zf fun w hw => h w (List.mem_cons_of_mem _ hw)]
    split
    · have : x ≠ n := by rintro rfl; exact h v List.mem_cons_self
      simp [this]
    · rfl
theorem zh {kindOf : Str → Option NameKind} {x : Str} : ∀ {binds : List (Str × Value)} {m : Str → Option Value}, (∀ v, (x, v) ∉ binds) → bindC kindOf binds m x = m x
  | [], _, _ => rfl
  | (n, v) :: r, m, h => by
    unfold bindC
    rw [zh fun w hw => h w (List.mem_cons_of_mem _ hw)]
    split
    · rfl
    · have : x ≠ n := by rintro rfl; exact h v List.mem_cons_self
      simp [this]
theorem zC {kindOf : Str → Option NameKind} {x : Str} {v : Value} : ∀ {P : List Str} {vs : List Value} {i : Nat} {m : Str → Option Value}, P.Nodup → P[i]? = some x → vs[i]? = some v → kindOf x = some .local →
    bindL kindOf (P.zip vs) m x = some v
  | [], _, _, _, _, h, _, _ => by simp at h
  | _ :: _, [], _, _, _, _, h, _ => by simp at h
  | p :: P, w :: vs, 0, m, nd, h1, h2, hk => by
    simp at h1 h2; subst h1; subst h2
    show bindL kindOf ((p, w) :: P.zip vs) m p = _
    unfold bindL
    rw [zf fun v hv => (List.nodup_cons.mp nd).1 (List.of_mem_zip hv).1, if_pos hk]
    simp
  | p :: P, w :: vs, i + 1, m, nd, h1, h2, hk => by
    show bindL kindOf ((p, w) :: P.zip vs) m x = _
    unfold bindL
    exact zC (i := i) (List.nodup_cons.mp nd).2 (by simpa using h1) (by simpa using h2) hk
theorem zL {kindOf : Str → Option NameKind} {x : Str} {v : Value} : ∀ {P : List Str} {vs : List Value} {i : Nat} {m : Str → Option Value}, P.Nodup → P[i]? = some x → vs[i]? = some v → kindOf x ≠ some .local →
    bindC kindOf (P.zip vs) m x = some v
  | [], _, _, _, _, h, _, _ => by simp at h
  | _ :: _, [], _, _, _, _, h, _ => by simp at h
  | p :: P, w :: vs, 0, m, nd, h1, h2, hk => by
    simp at h1 h2; subst h1; subst h2
    show bindC kindOf ((p, w) :: P.zip vs) m p = _
    unfold bindC
    rw [zh fun v hv => (List.nodup_cons.mp nd).1 (List.of_mem_zip hv).1, if_neg hk]
    simp
  | p :: P, w :: vs, i + 1, m, nd, h1, h2, hk => by
    show bindC kindOf ((p, w) :: P.zip vs) m x = _
    unfold bindC
    exact zL (i := i) (List.nodup_cons.mp nd).2 (by simpa using h1) (by simpa using h2) hk
def start (N : List Str) (vs : List V) : St := vs.map some ++ List.replicate (N.length - vs.length) none
def E7 (CX : CXT) (P : Program) (w : World) (K : PySem.W.Frag) (mg : Str → Option Value) (base : Heap) (N : List Str) (qual : Str) (scope : Scope) (f : Addr) (cd : Value) (A : Around) (outer : List Env) (s : Shared) (H : Hp) (E : XK) : Cx where
  prog := P
  w := w
  K := K
  mg := mg
  base := base
  A := A.deeper (envOfC qual scope s.heap.objs.size f cd)
  N := N
  s₀ := s
  H₀ := H
  env := envOfC qual scope s.heap.objs.size f cd
  outer := outer
  stack := envOfC qual scope s.heap.objs.size f cd :: outer
  ex := []
  calm := true
  fn := fun _ => true
  pn := []
  xe := fun e s' => wpAny (model P w) (A.deeper (envOfC qual scope s.heap.objs.size f cd)) (leaving (envOfC qual scope s.heap.objs.size f cd) e) (fun _ s'' => CX outer H s E e s'') (fun e' s'' => CX outer H s E e' s'') s'
theorem DH {sc : Scope} {n : Nat} {x : Str} (h : sc.names.lookup x = some .cell) : ∃ c, (cellsFrom n sc.names []).lookup x = some c := by
  have q := PySem.W.cellsFrom_some sc.names n [] (.inl h)
  exact Option.isSome_iff_exists.mp q
theorem Hg {CX : CXT} {P : Program} {w : World} {K : PySem.W.Frag} {mg : Str → Option Value} {base : Heap} {N ps : List Str} {qual : Str} {scope : Scope} {f : Addr} {cd : Value} {A : Around} {outer : List Env} {s s1 : Shared} {H : Hp} {E : XK} {us : List Value} {vs : List V}
    (S : aG N ps scope) (hd : A.handled = none) (e0 : L0 P w K mg base A outer s H) (hl : vs.length = ps.length) (r : Vals vs us)
    (x : InCallC s s.heap.objs.size (bindL (envOfC qual scope s.heap.objs.size f cd).kindOf (ps.zip us) fun _ => none) (cellsFrom (s.heap.objs.size + 1) scope.names []) (bindC (envOfC qual scope s.heap.objs.size f cd).kindOf (ps.zip us) fun _ => none) s1) :
    Inv (E7 CX P w K mg base N qual scope f cd A outer s H E) [] (start N vs) H s1 := by
  have hpl : ps.length ≤ N.length := by have := congrArg List.length S.pre; rw [List.length_take] at this; omega
  obtain ⟨h1, tk, rfl, hk⟩ := x.done
  have noA : ∀ b : Addr, b ∉ (E7 CX P w K mg base N qual scope f cd A outer s H E).ex := fun b z => absurd (show b ∈ ([] : List Addr) from z) (by simp)
  refine ⟨⟨e0.mod, S.kind, rfl, rfl, Nat.le_refl _, fun y z c h1 h2 => ?_, fun y hy => ?_, fun y c _ h => ?_, fun _ => hd, .inl hd, Around.frames_deeper e0.frames, .inr ⟨rfl, rfl⟩, fun b z => absurd z (noA b), e0.bs, e0.bsz, fun b _ _ => noA b, fun b z => absurd z (noA b), e0.xG, e0.frf⟩,
    rfl, e0.bare, Un.kept hk, ⟨_, x.toInCall.ns, fun i y v h1 h2 h3 => ?_⟩, fun y c h => ⟨_, x.cell y c h⟩, e0.hok.fresh (Nat.le_refl _), fun y c h => ?_, fun p hp => absurd (show p ∈ ([] : List (Addr × Obj)) from hp) (by simp), e0.hok.kept hk, ?_⟩
  · exact name_of_addr x.apart (PySem.mem_of_lookup h1) (PySem.mem_of_lookup h2)
  · have hy : scope.names.lookup y = some .cell ∨ scope.names.lookup y = some .free := hy
    rcases hy with hy | hy
    · exact DH hy
    · exact absurd rfl (S.Nf _ (PySem.mem_of_lookup hy))
  · exact Nat.le_of_lt (x.above y c (PySem.mem_of_lookup h))
  · have hi : i < vs.length := by
      unfold start at h2
      by_cases hi : i < vs.length
      · exact hi
      · rw [List.getElem?_append_right (by simpa using hi)] at h2
        rw [List.getElem?_replicate] at h2
        split at h2 <;> cases h2
    have ha : vs[i]? = some v := by
      unfold start at h2
      rw [List.getElem?_append_left (by simpa using hi), List.getElem?_map] at h2
      cases e : vs[i]? with
      | none => rw [e] at h2; cases h2
      | some a => rw [e] at h2; cases h2; rfl
    obtain ⟨u, hu, rv⟩ := r.get ha
    have hp : ps[i]? = some y := by
      rw [← S.pre, List.getElem?_take_of_lt (by omega)]; exact h1
    have ndP : ps.Nodup := by rw [← S.pre]; exact S.nd.sublist (List.take_sublist _ _)
    refine ⟨u, rv, ?_⟩
    rcases S.par y (List.mem_of_getElem? hp) with k | k
    · exact .inl ⟨k, zC ndP hp hu k⟩
    · obtain ⟨c, e⟩ := DH (n := s.heap.objs.size + 1) k
      refine .inr ⟨.inl k, c, e, ?_⟩
      have q := x.cell y c e
      rw [zL ndP hp hu (by show scope.names.lookup y ≠ _; rw [k]; decide)] at q
      exact q
  · exact e0.hok.fresh (Nat.le_of_lt (x.above y c (PySem.mem_of_lookup h)))
  · unfold start
    show _ = N.length
    rw [List.length_append, List.length_map, List.length_replicate]
    omega
theorem Pr {CX : CXT} {P : Program} {w : World} {K : PySem.W.Frag} {mg : Str → Option Value} {base : Heap} {k : Nat} {f : Addr} {name qual : Str} {params : Arguments} {body : List Stmt} {scope : Scope} {dV kV doc pm cdv ct oc : Value} {an od : Option Addr}
    {osl : Array (Option Value)} {N ps : List Str} {sp : Sp} (lk : K.lookup f = some ⟨oc, od, .func (PySem.W.fnOf name qual params body scope dV kV doc pm an cdv ct), osl⟩) (hcd : PySem.W.codeIn K cdv qual = true) (S : aG N ps scope)
    (len : ∀ vs H Q E, sp vs H Q E → vs.length = ps.length)
    (hbody : ∀ (A : Around) (outer : List Env) (s : Shared) (H : Hp) (vs : List V) (Q : VK) (E : XK), mG k (A.deeper (envOfC qual scope s.heap.objs.size f cdv)) → sp vs H Q E →
      ∃ t, PSs (E7 CX P w K mg base N qual scope f cdv A outer s H E) body t ∧ t { nx := fun _ H' => Q .non H', rt := Q } (start N vs) H) :
    bM P w K mg base CX (k + 1) f (PySem.W.fnOf name qual params body scope dV kV doc pm an cdv ct) ps sp := by
  refine ⟨len, fun A outer s H args us vs Q E hr e0 hb r hsp => ?_⟩
  have hl := len _ _ _ _ hsp
  have KX : K.In s.heap := e0.mod.kin.keeps fun b o e => (e0.bs b o e).1
  have lim : s.heap.NoLimit := e0.mod.nolimit.keeps fun b o e => (e0.bs b o e).1
  have hkind : ∀ y ∈ ps.zip us, scope.names.lookup y.1 = some .local ∨ (scope.names.lookup y.1 = some .cell ∧ ((cellsFrom (s.heap.objs.size + 1) scope.names []).lookup y.1).isSome = true) := fun ⟨n, v⟩ hy => by
    rcases S.par n (List.of_mem_zip hy).1 with q | q
    · exact .inl q
    · exact .inr ⟨q, PySem.W.cellsFrom_some _ _ _ (.inl q)⟩
  refine codeAny_call_function hr.depth (KX _ _ lk) rfl S.co S.gen rfl (PySem.W.codeRec_of KX hcd) (hb _ _ _ _ ?_)
  refine wpAny_newFunctionEnv_cells S.kind hkind fun env he s1 x => ?_
  subst he
  refine ⟨lim.keeps x.toInCall.keep, codeAny_func ?_⟩
  obtain ⟨t, ht, hq⟩ := hbody A outer s H vs Q E (hr.deeper _) hsp
  have I : Inv (E7 CX P w K mg base N qual scope f cdv A outer s H E) [] (start N vs) H s1 := Hg S hr.hd e0 hl r x
  refine wpAny_mono (ht [] s1 (start N vs) H _ I hq) (fun fl s' hs => ?_) fun e s' hs => hs
  have fin : ∀ {σ' : St} {H' : Hp} {v : V} {u : Value}, Inv (E7 CX P w K mg base N qual scope f cdv A outer s H E) [] σ' H' s' → RelV v u → Q v H' → CE outer P w H s Q u s' :=
    fun {σ' H' v u} J rv q => ⟨v, H', J.os, J.bare, J.base, J.hok, rv, q⟩
  cases fl with
  | ret u =>
    obtain ⟨v, σ', H', J, rv, q⟩ := hs
    exact fin J rv q
  | next =>
    obtain ⟨σ', H', J, q⟩ := hs
    exact fin (v := V.non) (u := Value.none) J rfl q
  | brk =>
    obtain ⟨_, _, _, q⟩ := hs
    exact False.elim q
  | cont =>
    obtain ⟨_, _, _, q⟩ := hs
    exact False.elim q
end L2
namespace L2
open PySem PySem.Spec PyProof.Rows
section
variable {X : Cx} {x : Str} {p pos : Pos} {e : Expr} {es : List Expr} {t : TA} {id T : String} {r : List V → Hp → VK → Prop}
def tCB (r : List V → Hp → VK → Prop) (t : TA) : TE := fun σ H Q => t σ H fun vs H1 => r vs H1 Q
theorem xp (hc : hU X (.builtin id) r) (hg : Gl X x) (hm : X.mg x = none) (hv : bootBuiltins x = some (.builtin id)) (ha : PA X (e :: es) t) (hn : x ≠ "__name__" := by decide) (hdb : (x == ("__debug__" : Str)) = false := by decide)
    (he : starEach (e :: es) X.env = (false, eval e X.env) :: starEach es X.env := by rfl) (hpl : (backTo pos (starEach es X.env)).any (·.1) = false := by rfl) : PE X (.Call (.Name x p) (e :: es) [] pos) (tCB r t) := by
  intro pins s σ H Q I h
  refine wpAny_Call_Name_kw (xl I hg hm hv ?_ hn hdb)
  exact PyProof.Rows.callWith_builtin1 (thn (ha pos pins s σ H _ I h) fun us s1 ⟨vs, H1, I1, r1, q1⟩ => hc pins s1 σ H1 vs us Q I1 r1 q1) he hpl
theorem zd (hc : hU X (.type T) r) (hg : Gl X x) (hm : X.mg x = none) (hv : bootBuiltins x = some (.type T)) (ha : PA X (e :: es) t) (hn : x ≠ "__name__" := by decide) (hdb : (x == ("__debug__" : Str)) = false := by decide)
    (he : starEach (e :: es) X.env = (false, eval e X.env) :: starEach es X.env := by rfl) (hpl : (backTo pos (starEach es X.env)).any (·.1) = false := by rfl) : PE X (.Call (.Name x p) (e :: es) [] pos) (tCB r t) := by
  intro pins s σ H Q I h
  refine wpAny_Call_Name_kw (xl I hg hm hv ?_ hn hdb)
  exact PyProof.Rows.callWith_type1 (thn (ha pos pins s σ H _ I h) fun us s1 ⟨vs, H1, I1, r1, q1⟩ => hc pins s1 σ H1 vs us Q I1 r1 q1) he hpl
end
end L2
namespace HT
open PySem PyProof.Rows
section
open PySem.SeqAt
open PySem.AutoSeq1 (wpAny_loadPart')
open PySem.MeetsSeq PySem.MeetsSeq2 PySem.MeetsSeq3
end
section
variable {prog : Program} {w : World} {A : Around} {E : Value → Shared → Prop} {s : Shared}
def sIx (n d : Nat) : Option Int → Nat
  | none => d
  | some v => if v < 0 then (v + (n : Int)).toNat else min v.toNat n
theorem Of (n d : Nat) (hd : d ≤ n) (o : Option Int) : sIx n d o ≤ n := by
  cases o with
  | none => exact hd
  | some v =>
    show (if v < 0 then (v + (n : Int)).toNat else min v.toNat n) ≤ n
    by_cases hv : v < 0
    · rw [if_pos hv]; omega
    · rw [if_neg hv]; exact Nat.min_le_right _ _
theorem G2 (v : Int) (n d : Nat) : (if v < 0 then max (v + (n : Int)) 0 else min v (n : Int)) = ((sIx n d (some v) : Nat) : Int) := by
  show (if v < 0 then max (v + (n : Int)) 0 else min v (n : Int)) = (((if v < 0 then (v + (n : Int)).toNat else min v.toNat n) : Nat) : Int)
  by_cases hv : v < 0
  · simp only [if_pos hv]; omega
  · simp only [if_neg hv]; omega
theorem Eb (lo hi : Option Int) (n : Nat) : Builtin.Slice.sliceAdjust lo hi 1 (n : Int) = (((sIx n 0 lo : Nat) : Int), ((sIx n n hi : Nat) : Int)) := by
  have h1 : ¬ ((1 : Int) < 0) := by omega
  unfold Builtin.Slice.sliceAdjust
  simp only [h1, if_false]
  refine Prod.ext ?_ ?_
  · cases lo with
    | none => rfl
    | some v => exact G2 v n 0
  · cases hi with
    | none => rfl
    | some v => exact G2 v n n
theorem Et (i j : Nat) : Builtin.Slice.slicePlaces (i : Int) (j : Int) 1 = j - i := by
  unfold Builtin.Slice.slicePlaces
  have h1 : (1 : Int) > 0 := by omega
  simp only [h1, if_true, Int.ediv_one]
  split <;> omega
theorem xW {v : Value} {o : Option Int} {Q : Option Int → Shared → Prop} (p : IsPart v o) (h : Q o s) : wpAny (model prog w) A (Builtin.Slice.slicePartIndex v) Q E s := by
  cases p with
  | none => exact slicePart_none h
  | int i t => exact slicePart_int h
theorem lZ {sl : Addr} {vl vu : Value} {lo hi : Option Int} {n : Nat} {Q : Int × Int × Nat → Shared → Prop} (hs : s.heap.IsSliceOf sl vl vu .none) (pl : IsPart vl lo) (pu : IsPart vu hi)
    (h : Q (((sIx n 0 lo : Nat) : Int), 1, sIx n n hi - sIx n 0 lo) s) : wpAny (model prog w) A (Builtin.Slice.sliceApplied (.ref sl) (pure (n : Int))) Q E s := by
  obtain ⟨os, hos, hcs, hds⟩ := id hs
  unfold Builtin.Slice.sliceApplied Builtin.Slice.sliceFields
  refine wpAny_bind (wpAny_bind (wpAny_field hos hds (x := vl) rfl (wpAny_bind (wpAny_field hos hds (x := vu) rfl (wpAny_bind (wpAny_field hos hds (x := .none) rfl (wpAny_pure ?_)))))))
  refine wpAny_bind (slicePart_none ?_)
  show wpAny _ _ (if ((1 : Int) == 0) = true then _ else _) _ _ s
  rw [if_neg (by decide)]
  refine wpAny_bind (xW pl (wpAny_bind (xW pu (wpAny_bind (wpAny_pure ?_)))))
  show wpAny _ _ (match Builtin.Slice.sliceAdjust lo hi 1 (n : Int) with | (lo, hi) => pure (lo, (1 : Int), Builtin.Slice.slicePlaces lo hi 1)) _ _ s
  rw [Eb lo hi n]
  show wpAny _ _ (pure (((sIx n 0 lo : Nat) : Int), (1 : Int), Builtin.Slice.slicePlaces ((sIx n 0 lo : Nat) : Int) ((sIx n n hi : Nat) : Int) 1)) _ _ s
  rw [Et]
  exact wpAny_pure h
theorem Je (xs : Array Value) (i k : Nat) : ((List.range k).filterMap fun (m : Nat) => xs[((i : Int) + (m : Int) * 1).toNat]?).toArray = ((xs.toList.drop i).take k).toArray := by
  have e : (fun (m : Nat) => xs[((i : Int) + (m : Int) * 1).toNat]?) = fun m => xs[i + m]? := by
    funext m
    have : ((i : Int) + (m : Int) * 1).toNat = i + m := by omega
    rw [this]
  rw [e]
  have := pick_run xs i k
  rw [List.filterMap_map] at this
  have e2 : ((fun x => xs[x]?) ∘ fun x => i + x) = fun m => xs[i + m]? := rfl
  rw [e2] at this
  rw [this]
theorem sC {t sl : Addr} {items : Array Value} {vl vu : Value} {lo hi : Option Int} {Q : Value → Shared → Prop} (ht : IsTup s.heap t items) (hs : s.heap.IsSliceOf sl vl vu .none) (pl : IsPart vl lo) (pu : IsPart vu hi)
    (hw : ¬ (sIx items.size 0 lo = 0 ∧ sIx items.size items.size hi = items.size))
    (h : Q (.ref s.heap.objs.size) { s with heap := s.heap.push { cls := .type "tuple", data := .seq ((items.toList.drop (sIx items.size 0 lo)).take (sIx items.size items.size hi - sIx items.size 0 lo)).toArray } })
    (hsz : items.size ≤ sizeLine) : wpAny (model prog w) A (getItem (.ref t) (.ref sl)) Q E s := by
  have htake : sizeOk (.seq ((items.toList.drop (sIx items.size 0 lo)).take (sIx items.size items.size hi - sIx items.size 0 lo)).toArray) := by
    show ((items.toList.drop (sIx items.size 0 lo)).take (sIx items.size items.size hi - sIx items.size 0 lo)).toArray.size ≤ sizeLine
    rw [List.size_toArray, List.length_take, List.length_drop, Array.length_toList]
    omega
  have hj : sIx items.size items.size hi ≤ items.size := Of _ _ (Nat.le_refl _) hi
  obtain ⟨os, hos, hcs, hds⟩ := id hs
  have hTs : s.TypeIs (.ref sl) "slice" := ⟨os, hos, hcs⟩
  unfold getItem
  try with_reducible refine wpAny_holding ?_
  first | refine wpAny_bind (wpAny_pure ?_) | skip
  refine wpAny_bind (wpAny_sequenceKey ht.typeIs (by decide) ?_)
  refine wpAny_bind (wpAny_callSpecial?_slot (name := Str.ofString "__getitem__") ht.typeIs PyProof.Rows.slot_tuple_getitem
    (wpAny_call_entry PyProof.Rows.slot_tuple_getitem ht.typeIs entry_tuple_getitem ?_ (args_tuple_getitem _ _)))
  show wpAny _ _ (Builtin.Tuple.tupleItemsOf (.ref t) >>= _) _ _ s
  refine wpAny_bind (tupleItemsOf_ ht ?_)
  refine wpAny_bind (wpAny_typeOf hTs ?_)
  rw [if_pos (by decide)]
  refine wpAny_bind (lZ hs pl pu ?_)
  have hno : ¬ ((((sIx items.size 0 lo : Nat) : Int) == 0 && (1 : Int) == 1 && (sIx items.size items.size hi - sIx items.size 0 lo) == items.size) = true) := by
    intro q
    rw [Bool.and_eq_true, Bool.and_eq_true] at q
    have q1 : ((sIx items.size 0 lo : Nat) : Int) = 0 := eq_of_beq q.1.1
    have q2 : sIx items.size items.size hi - sIx items.size 0 lo = items.size := eq_of_beq q.2
    exact hw ⟨by omega, by omega⟩
  show wpAny _ _ (if (((sIx items.size 0 lo : Nat) : Int) == 0 && (1 : Int) == 1 && (sIx items.size items.size hi - sIx items.size 0 lo) == items.size) = true then _ else _) _ _ s
  rw [if_neg hno, Je]
  first
    | exact wpAny_bind (m := Builtin.Tuple.tupleExact _) (wpAny_newObj_type (wpAny_pure ⟨_, rfl, wpAny_pure h⟩) htake)
    | exact wpAny_bind (m := Builtin.Tuple.tupleExact _) (wpAny_newObj_type (wpAny_bind (wpAny_pure (wpAny_pure ⟨_, rfl, wpAny_pure h⟩))) htake)
    | exact wpAny_bind (wpAny_bind (m := Builtin.Tuple.tupleExact _) (wpAny_newObj_type (wpAny_pure (wpAny_pure ⟨_, rfl, wpAny_pure h⟩)) htake))
    | exact wpAny_bind (wpAny_bind (m := Builtin.Tuple.tupleExact _) (wpAny_newObj_type (wpAny_pure ⟨_, rfl, wpAny_pure h⟩) htake))
end
end HT
namespace L2
open PySem PySem.Spec PyProof.Rows
abbrev TO := St → Hp → (Option Int → Hp → Prop) → Prop
def PO (X : Cx) (e : Option Expr) (t : TO) : Prop :=
  ∀ (pins : List (Addr × Obj)) (s : Shared) (σ : St) (H : Hp) (Q : Option Int → Hp → Prop), Inv X pins σ H s → t σ H Q →
    wpAny (model X.prog X.w) X.A (evalPart e X.env) (fun u s' => ∃ o H', Inv X pins σ H' s' ∧ IsPart u o ∧ Q o H') X.xe s
def LZ : TO := fun _ H Q => Q none H
def Oi (t : TE) : TO := fun σ H Q => t σ H fun x H1 => ∃ i, x = .int i ∧ Q (some i) H1
section
variable {X : Cx} {e : Expr} {te : TE} {lo hi : Option Expr} {tl th : TO} {pos p2 : Pos}
theorem K4 : PO X none LZ := by
  intro pins s σ H Q I h
  rw [evalPart_none]
  exact wpAny_pure ⟨none, H, I, .none, h⟩
theorem LL (h : PE X e te) : PO X (some e) (Oi te) := by
  intro pins s σ H Q I hw
  rw [evalPart_some]
  refine thn (h pins s σ H _ I hw) fun u s1 ⟨x, H1, I1, r1, q1⟩ => ?_
  obtain ⟨i, rfl, q⟩ := q1
  obtain ⟨t, rfl⟩ := r1
  exact ⟨some i, H1, I1, .int i t, q⟩
def SlR (X : Cx) (r : V → Option Int → Option Int → Hp → VK → Prop) : Prop :=
  ∀ (pins : List (Addr × Obj)) (s : Shared) (σ : St) (H : Hp) (x : V) (v vl vu : Value) (lo hi : Option Int) (sl : Addr) (Q : VK), Inv X pins σ H s → RelV x v → s.heap.IsSliceOf sl vl vu .none → IsPart vl lo → IsPart vu hi → r x lo hi H Q →
    ∃ T id, typeLookup (.type T) "__getitem__" = pure (some (.builtin id)) ∧ s.TypeIs v T ∧ wpAny (model X.prog X.w) X.A (getItem v (.ref sl)) (EP X pins σ Q) X.xe s
theorem SlR.or {r r' : V → Option Int → Option Int → Hp → VK → Prop} (h : SlR X r) (h' : SlR X r') : SlR X (fun x lo hi H Q => r x lo hi H Q ∨ r' x lo hi H Q) := by
  intro pins s σ H x v vl vu lo hi sl Q I rx hs pl pu q
  rcases q with q | q
  · exact h pins s σ H x v vl vu lo hi sl Q I rx hs pl pu q
  · exact h' pins s σ H x v vl vu lo hi sl Q I rx hs pl pu q
def tSl (r : V → Option Int → Option Int → Hp → VK → Prop) (te : TE) (tl th : TO) : TE := fun σ H Q => te σ H fun x H1 => tl σ H1 fun l H2 => th σ H2 fun u H3 => r x l u H3 Q
theorem IK {r : V → Option Int → Option Int → Hp → VK → Prop} (hr : SlR X r) (he : PE X e te) (hl : PO X lo tl) (hu : PO X hi th) : PE X (.Subscript e (.Slice lo hi none p2) pos) (tSl r te tl th) := by
  intro pins s σ H Q I h
  refine Subscript_ (thn (he pins s σ H _ I h) fun v s1 ⟨x, H1, I1, r1, q1⟩ => ?_)
  refine wpAny_Slice (thn (hl pins s1 σ H1 _ I1 q1) fun vl s2 ⟨l, H2, I2, pl, q2⟩ => thn (hu pins s2 σ H2 _ I2 q2) fun vu s3 ⟨u, H3, I3, pu, q3⟩ => ?_)
  rw [evalPart_none]
  refine wpAny_pure ?_
  have I4 : Inv X pins σ H3 { s3 with heap := s3.heap.push { cls := .type "slice", data := .fields #[vl, vu, .none] } } := I3.kept (t' := s3.toks) fun b ob q => Heap.get?_push_of_some _ q
  obtain ⟨T, id, hT, ht, hg⟩ := hr pins { s3 with heap := s3.heap.push { cls := .type "slice", data := .fields #[vl, vu, .none] } } σ H3 x v vl vu l u s3.heap.objs.size Q I4 r1 (Heap.IsSliceOf.new ..) pl pu q3
  show wpAny (model X.prog X.w) X.A (subscriptTail e (.Slice lo hi none p2) v (.ref s3.heap.objs.size)) (EP X pins σ Q) X.xe { s3 with heap := s3.heap.push { cls := .type "slice", data := .fields #[vl, vu, .none] } }
  exact tail_any (ops := [.ref s3.heap.objs.size, v]) ht hT hg (by with_unfolding_all rfl)
def AJ (xs : List V) (lo hi : Option Int) : List V := (xs.drop (HT.sIx xs.length 0 lo)).take (HT.sIx xs.length xs.length hi - HT.sIx xs.length 0 lo)
theorem vA (xs : List V) (lo hi : Option Int) : (AJ xs lo hi).length ≤ xs.length := by
  unfold AJ
  rw [List.length_take, List.length_drop]
  omega
def Qr (K : PySem.W.Frag) : V → Option Int → Option Int → Hp → VK → Prop := fun x lo hi H Q => ∃ a xs, x = .ref a ∧ SqT K H a xs ∧
  ¬ (HT.sIx xs.length 0 lo = 0 ∧ HT.sIx xs.length xs.length hi = xs.length) ∧ ∀ p, H p = none → Q (.ref p) (upd H p (.tup (AJ xs lo hi)))
theorem NO : SlR X (Qr X.K) := by
  intro pins s σ H x v vl vu lo hi sl Q I rx hs pl pu h
  obtain ⟨a, xs, rfl, hx, hw, q⟩ := h
  cases rx
  obtain ⟨its, r, ht, hz⟩ := I.tuple hx
  have hlen : its.toArray.size = xs.length := by rw [List.size_toArray]; exact r.length.symm
  refine ⟨"tuple", _, PyProof.Rows.slot_tuple_getitem.lookup, ht.typeIs, ?_⟩
  refine HT.sC ht hs pl pu (by rw [hlen]; exact hw) ?_ (by rw [hlen]; exact hz)
  rw [hlen]
  refine ⟨.ref s.heap.objs.size, _, I.laid (t' := s.toks) (o := .tup (AJ xs lo hi)) (fun b ob q => Heap.get?_push_of_some _ q) (Nat.le_refl _) ?_, rfl, q _ (I.hok.fresh (Nat.le_refl _))⟩
  exact ⟨Nat.le_trans (vA xs lo hi) hz, _, (r.drop (HT.sIx xs.length 0 lo)).take (HT.sIx xs.length xs.length hi - HT.sIx xs.length 0 lo), IsTup.new _ _⟩
end
end L2
namespace L2
open PySem PySem.Spec PyProof.Rows
def ixN (n : Nat) (i : Int) : Option Nat := if 0 ≤ i then (if i < n then some i.toNat else none) else if -(n : Int) ≤ i then some (i + n).toNat else none
def atI {α : Type} (xs : List α) (i : Int) : Option α := (ixN xs.length i).bind fun j => xs[j]?
theorem Gw {n : Nat} {i : Int} {j : Nat} (h : ixN n i = some j) : seqIndex? i n = some j ∧ j < n ∧ -(n : Int) ≤ i ∧ i < n := by
  unfold ixN at h
  by_cases h0 : 0 ≤ i
  · rw [if_pos h0] at h
    by_cases h1 : i < n
    · rw [if_pos h1] at h
      have e : i.toNat = j := Option.some.inj h
      exact ⟨by rw [seqIndex_of h0 h1, e], by omega, by omega, h1⟩
    · rw [if_neg h1] at h; cases h
  · rw [if_neg h0] at h
    by_cases h1 : -(n : Int) ≤ i
    · rw [if_pos h1] at h
      have e : (i + n).toNat = j := Option.some.inj h
      exact ⟨by rw [seqIndex_neg (by omega) h1, e], by omega, h1, by omega⟩
    · rw [if_neg h1] at h; cases h
theorem Be {α : Type} {xs : List α} {i : Int} {v : α} (h : atI xs i = some v) : ∃ j, seqIndex? i xs.length = some j ∧ xs[j]? = some v ∧ j < xs.length ∧ -(xs.length : Int) ≤ i ∧ i < xs.length := by
  unfold atI at h
  cases e : ixN xs.length i with
  | none => rw [e] at h; cases h
  | some j =>
    rw [e] at h
    obtain ⟨h1, h2, h3, h4⟩ := Gw e
    exact ⟨j, h1, h, h2, h3, h4⟩
theorem jG {α : Type} {xs : List α} {j : Nat} {v : α} (h : xs[j]? = some v) : atI xs (j : Int) = some v := by
  have hj : j < xs.length := (List.getElem?_eq_some_iff.mp h).1
  have e : ixN xs.length (j : Int) = some j := by
    unfold ixN
    rw [if_pos (by omega), if_pos (by omega)]; simp
  unfold atI; rw [e]; exact h
def GS (b : Expr) : Prop := ∀ o i, subscripted b false o i = operate [o, i] (getItem o i)
def IxR (X : Cx) (r : R2) : Prop :=
  ∀ (value slice : Expr) (pins : List (Addr × Obj)) (s : Shared) (σ : St) (H : Hp) (x y : V) (v u : Value) (Q : VK), Inv X pins σ H s → RelV x v → RelV y u → r x y H Q →
    subscripted slice false v u = operate [v, u] (getItem v u) → wpAny (model X.prog X.w) X.A (subscriptTail value slice v u) (EP X pins σ Q) X.xe s
def MtR (X : Cx) (id : String) (r : V → List V → Hp → VK → Prop) : Prop :=
  ∀ (pins : List (Addr × Obj)) (s : Shared) (σ : St) (H : Hp) (x : V) (xs : List V) (v : Value) (us : List Value) (Q : VK), Inv X pins σ H s → RelV x v → Vals xs us → r x xs H Q →
    wpAny (model X.prog X.w) X.A (call (.builtin id) (v :: us)) (EP X pins σ Q) X.xe s
section
variable {X : Cx} {a b : Expr} {ta tb : TE} {pos : Pos}
theorem IxR.or {r r' : R2} (h : IxR X r) (h' : IxR X r') : IxR X (fun x y H Q => r x y H Q ∨ r' x y H Q) := by
  intro value slice pins s σ H x y v u Q I rx ry q hs
  rcases q with q | q
  · exact h value slice pins s σ H x y v u Q I rx ry q hs
  · exact h' value slice pins s σ H x y v u Q I rx ry q hs
theorem MtR.or {id : String} {r r' : V → List V → Hp → VK → Prop} (h : MtR X id r) (h' : MtR X id r') : MtR X id (fun x xs H Q => r x xs H Q ∨ r' x xs H Q) := by
  intro pins s σ H x xs v us Q I rx rs q
  rcases q with q | q
  · exact h pins s σ H x xs v us Q I rx rs q
  · exact h' pins s σ H x xs v us Q I rx rs q
theorem Ow {r : R2} (hr : IxR X r) (ha : PE X a ta) (hb : PE X b tb) (hs : GS b) : PE X (.Subscript a b pos) (tOp r ta tb) := by
  intro pins s σ H Q I h
  exact Subscript_ (Nt ha hb I h fun v u s2 x y H2 I2 rx ry q => hr a b pins s2 σ H2 x y v u Q I2 rx ry q (hs _ _))
def Oo (K : PySem.W.Frag) : R2 := fun x y H Q => ∃ p xs i v, x = .ref p ∧ y = .int i ∧ SqL K H p xs ∧ atI xs i = some v ∧ Q v H
def Pc (K : PySem.W.Frag) : R2 := fun x y H Q => ∃ p xs i v, x = .ref p ∧ y = .int i ∧ SqT K H p xs ∧ atI xs i = some v ∧ Q v H
def OE : R2 := fun x y H Q => ∃ z i c, x = .str z ∧ y = .int i ∧ z.length ≤ sizeLine ∧ atI z.cps.toList i = some c ∧ Q (.str ⟨#[c]⟩) H
theorem LB : IxR X (Oo X.K) := by
  intro value slice pins s σ H x y v u Q I rx ry h hs
  obtain ⟨p, xs, i, z, rfl, rfl, hq, he, q⟩ := h
  cases rx
  obtain ⟨t, rfl⟩ := ry
  obtain ⟨its, r, pl, hz⟩ := I.list hq
  obtain ⟨j, h1, h2, h3, h4, h5⟩ := Be he
  obtain ⟨w, ew, rw'⟩ := r.get h2
  have hl := r.length
  have hn := xR
  have fin : EP X pins σ Q w s := ⟨z, H, I, rw', q⟩
  by_cases h0 : 0 ≤ i
  · have hj : i.toNat = j := by
      rw [seqIndex_of h0 h5] at h1
      exact Option.some.inj h1
    exact item_listR pl.isList h0 (by omega) (by rw [hj]; simpa using ew) fin hs
  · have hj : (i + (its.toArray.size : Int)).toNat = j := by
      rw [seqIndex_neg (by omega) h4] at h1
      rw [List.size_toArray, ← hl]
      exact Option.some.inj h1
    exact subscriptTail_builtinR (x := w) pl.isList.typeIs slot_list_getitem.lookup
      (wpAny_getItem_list_neg (Q := fun r s' => r = w ∧ EP X pins σ Q r s') pl.isList (by omega) (by rw [List.size_toArray] <;> omega) (by omega) (by rw [hj]; simpa using ew) ⟨rfl, fin⟩) hs
theorem Ms : IxR X (Pc X.K) := by
  intro value slice pins s σ H x y v u Q I rx ry h hs
  obtain ⟨p, xs, i, z, rfl, rfl, hq, he, q⟩ := h
  cases rx
  obtain ⟨t, rfl⟩ := ry
  obtain ⟨its, r, pl, hz⟩ := I.tuple hq
  obtain ⟨j, h1, h2, h3, h4, h5⟩ := Be he
  obtain ⟨w, ew, rw'⟩ := r.get h2
  have hl := r.length
  have hn := xR
  have fin : EP X pins σ Q w s := ⟨z, H, I, rw', q⟩
  exact subscriptTail_builtinR (x := w) pl.typeIs slot_tuple_getitem.lookup
    (getItem_tuple (j := j) (Q := fun r s' => r = w ∧ EP X pins σ Q r s') pl (by omega) (by omega) (by rw [List.size_toArray, ← hl]; exact h1) (by simpa using ew) ⟨rfl, fin⟩) hs
theorem NW : IxR X OE := by
  intro value slice pins s σ H x y v u Q I rx ry h hs
  obtain ⟨z, i, c, rfl, rfl, hz, he, q⟩ := h
  obtain ⟨t, rfl⟩ := rx
  obtain ⟨t', rfl⟩ := ry
  obtain ⟨j, h1, h2, h3, h4, h5⟩ := Be he
  have hl : z.cps.toList.length = z.length := by simp [Str.length]
  rw [hl] at h1 h4 h5
  have hn := xR
  exact tail_any (typeIs_str s z t) slot_str_getitem.lookup (getItem_str (c := c) (by
    have e1 : decide (i < -(2 ^ 63 : Int)) = false := decide_eq_false (by omega)
    have e2 : decide (i ≥ 2 ^ 63) = false := decide_eq_false (by omega)
    rw [e1, e2, Bool.or_false]) (by rw [h1]; simpa using h2) ⟨.str ⟨#[c]⟩, H, I.tok _, ⟨_, rfl⟩, q⟩) hs
def rIx (K : PySem.W.Frag) : R2 := fun x y H Q => Oo K x y H Q ∨ Pc K x y H Q ∨ OE x y H Q
theorem N7 : IxR X (rIx X.K) := LB.or (Ms.or NW)
theorem Fo (its : List Value) (n j : Nat) (u : Value) : Obj.mapSeq (·.setIfInBounds j u) { cls := .type "list", data := .seq its.toArray n } = { cls := .type "list", data := .seq (its.set j u).toArray n } := by
  simp [Obj.mapSeq]
theorem Inv.lst {pins : List (Addr × Obj)} {σ : St} {H : Hp} {s : Shared} {p : Addr} {xs : List V} (I : Inv X pins σ H s) (h : H p = some (.lst xs)) :
    ∃ (its : List Value) (n : Nat), Vals xs its ∧ s.heap.get? p = some { cls := .type "list", data := .seq its.toArray n } ∧ xs.length ≤ sizeLine := by
  obtain ⟨z, its, n, r, e⟩ := I.hok p _ h
  exact ⟨its, n, r, e, z⟩
theorem Inv.NS {pins : List (Addr × Obj)} {σ : St} {H : Hp} {s : Shared} {p : Addr} {xs ys : List V} {its its' : List Value} {n n' : Nat} {f : Obj → Obj} (I : Inv X pins σ H s) (h : H p = some (.lst xs))
    (ho : s.heap.get? p = some { cls := .type "list", data := .seq its.toArray n }) (hf : f { cls := .type "list", data := .seq its.toArray n } = { cls := .type "list", data := .seq its'.toArray n' }) (r : Vals ys its') (hz : ys.length ≤ sizeLine) (t : Nat) :
    Inv X pins σ (upd H p (.lst ys)) { s with heap := s.heap.update p f, toks := t } := by
  have e : (s.heap.update p f).get? p = some { cls := .type "list", data := .seq its'.toArray n' } := by
    rw [Heap.get?_update_self f ho (by rw [hf] <;> rfl), hf]
  refine I.write (x := p) (e := p) (by rw [h]; trivial) (.inl rfl) (fun b u hb q => (Heap.get?_update_other _ _ (Ne.symm hb)).trans q) ⟨_, e⟩ ?_
  exact ⟨hz, its', n', r, e⟩
def Pp : V → V → V → Hp → (Hp → Prop) → Prop := fun o i v H Q => ∃ p xs k j, o = .ref p ∧ i = .int k ∧ H p = some (.lst xs) ∧ ixN xs.length k = some j ∧ Q (upd H p (.lst (xs.set j v)))
theorem set_list : OH X Pp := by
  intro pins s σ H o i v ov iv u Q I ro ri rv h
  obtain ⟨p, xs, k, j, rfl, rfl, hp, hj, q⟩ := h
  cases ro
  obtain ⟨t, rfl⟩ := ri
  obtain ⟨its, n, r, ho, hz⟩ := I.lst hp
  obtain ⟨h1, h2, h3, h4⟩ := Gw hj
  have hl := r.length
  have hn := xR
  have I' : Inv X pins σ (upd H p (.lst (xs.set j v))) { s with heap := s.heap.update p (Obj.mapSeq (·.setIfInBounds j u)) } :=
    I.NS hp ho (Fo its n j u) (r.set rv j) (by rw [List.length_set]; exact hz) s.toks
  by_cases h0 : 0 ≤ k
  · have hk : k.toNat = j := by
      rw [seqIndex_of h0 h4] at h1
      exact Option.some.inj h1
    exact PySem.W.ki_setAt ho h0 (by omega) (by rw [List.size_toArray, ← hl]; exact h4) (by rw [hk]; exact ⟨_, I', q⟩)
  · have hk : (k + (its.toArray.size : Int)).toNat = j := by
      rw [seqIndex_neg (by omega) h3] at h1
      rw [List.size_toArray, ← hl]
      exact Option.some.inj h1
    exact PySem.W.ki_setBack ho (by omega) (by rw [List.size_toArray, ← hl]; exact h3) (by omega) (by rw [hk]; exact ⟨_, I', q⟩)
theorem AX (lo hi : Option Int) (n : Nat) : (sliceBounds lo hi none n).1 = ((HT.sIx n 0 lo : Nat) : Int) ∧ (sliceBounds lo hi none n).2.1 = ((HT.sIx n n hi : Nat) : Int) ∧ (sliceBounds lo hi none n).2.2 = 1 := by
  refine ⟨?_, ?_, rfl⟩
  · cases lo with
    | none => simp [sliceBounds, HT.sIx]
    | some i =>
      simp only [sliceBounds, HT.sIx, Option.getD_none, show (1 : Int) > 0 by decide, if_true]
      by_cases h : i < 0
      · simp only [h, if_true] <;> omega
      · simp only [h, if_false] <;> omega
  · cases hi with
    | none => simp [sliceBounds, HT.sIx]
    | some i =>
      simp only [sliceBounds, HT.sIx, Option.getD_none, show (1 : Int) > 0 by decide, if_true]
      by_cases h : i < 0
      · simp only [h, if_true] <;> omega
      · simp only [h, if_false] <;> omega
theorem ym (its : List Value) (lo hi : Option Int) : slicePick its.toArray lo hi none = ((its.drop (HT.sIx its.length 0 lo)).take (HT.sIx its.length its.length hi - HT.sIx its.length 0 lo)).toArray := by
  obtain ⟨h1, h2, h3⟩ := AX lo hi its.toArray.size
  unfold slicePick
  rw [h1, h2, h3]
  simp only [sliceRange_one, pick_run, List.size_toArray] <;> rfl
def QC (K : PySem.W.Frag) : V → Option Int → Option Int → Hp → VK → Prop := fun x lo hi H Q => ∃ a xs, x = .ref a ∧ SqL K H a xs ∧ ∀ p, H p = none → Q (.ref p) (upd H p (.lst (AJ xs lo hi)))
theorem L1 : SlR X (QC X.K) := by
  intro pins s σ H x v vl vu lo hi sl Q I rx hs pl pu h
  obtain ⟨a, xs, rfl, hx, q⟩ := h
  cases rx
  obtain ⟨its, r, ht, hz⟩ := I.list hx
  have hlen := r.length
  refine ⟨"list", _, slot_list_getitem.lookup, ht.isList.typeIs, ?_⟩
  refine wpAny_getItem_list_slice ht.isList hs pl pu .none (by simp) ?_ (by rw [List.size_toArray] <;> omega)
  rw [ym, ← hlen]
  refine ⟨.ref s.heap.objs.size, _, I.laid (t' := s.toks) (o := .lst (AJ xs lo hi)) (fun b ob q => Heap.get?_push_of_some _ q) (Nat.le_refl _) ?_, rfl, q _ (I.hok.fresh (Nat.le_refl _))⟩
  exact ⟨Nat.le_trans (vA xs lo hi) hz, _, 0, (r.drop (HT.sIx xs.length 0 lo)).take (HT.sIx xs.length xs.length hi - HT.sIx xs.length 0 lo), Heap.get?_push_size _ rfl⟩
theorem Cd : hU X (.builtin "len") (fun xs H Q => ∃ p ys, xs = [.ref p] ∧ (SqL X.K H p ys ∨ SqT X.K H p ys) ∧ Q (.int ys.length) H) := by
  intro pins s σ H xs us Q I r h
  obtain ⟨p, ys, rfl, hq, q⟩ := h
  obtain ⟨u, rfl, rx⟩ := vals1 r
  cases rx
  have hn := xR
  rcases hq with hq | hq
  · obtain ⟨its, r', pl, hz⟩ := I.list hq
    have hlen := r'.length
    exact Calls.call_len_list pl.isList (by simp only [List.size_toArray] <;> omega) ⟨.int ys.length, H, I.tok _, ⟨s.toks + 1, by rw [List.size_toArray, hlen]⟩, q⟩
  · obtain ⟨its, r', pl, hz⟩ := I.tuple hq
    have hlen := r'.length
    exact len_tuple pl (by simp only [List.size_toArray] <;> omega) ⟨.int ys.length, H, I.tok _, ⟨s.toks + 1, by rw [List.size_toArray, hlen]⟩, q⟩
theorem hU.or {f : Value} {r r' : List V → Hp → VK → Prop} (h : hU X f r) (h' : hU X f r') : hU X f (fun xs H Q => r xs H Q ∨ r' xs H Q) := by
  intro pins s σ H xs us Q I rs q
  rcases q with q | q
  · exact h pins s σ H xs us Q I rs q
  · exact h' pins s σ H xs us Q I rs q
theorem yw : hU X (.type "tuple") (fun xs H Q => ∃ p ys, xs = [.ref p] ∧ ((SqL X.K H p ys ∧ ∀ l, H l = none → Q (.ref l) (upd H l (.tup ys))) ∨ (SqT X.K H p ys ∧ Q (.ref p) H))) := by
  intro pins s σ H xs us Q I r h
  obtain ⟨p, ys, rfl, h⟩ := h
  obtain ⟨u, rfl, rx⟩ := vals1 r
  cases rx
  rcases h with ⟨hq, q⟩ | ⟨hq, q⟩
  · obtain ⟨its, r', pl, hz⟩ := I.list hq
    have hlen := r'.length
    refine call_tuple_list pl.isList (fun h' kp => ?_) (by simp only [List.size_toArray] <;> omega)
    have I1 : Inv X pins σ H { s with heap := h' } := I.kept (t' := s.toks) kp
    have I2 : Inv X pins σ (upd H h'.objs.size (.tup ys)) { s with heap := h'.push { cls := .type "tuple", data := .seq its.toArray } } :=
      I1.laid (t' := s.toks) (fun b o e => Heap.get?_push_of_some _ e) (Nat.le_refl _) (show mf X.prog X.w _ _ _ (.tup ys) from ⟨hz, its, r', IsTup.new _ _⟩)
    exact ⟨.ref h'.objs.size, _, I2, rfl, q _ (I1.hok.fresh (Nat.le_refl _))⟩
  · obtain ⟨its, r', pl, hz⟩ := I.tuple hq
    exact call_tuple_same pl ⟨.ref p, H, I, rfl, q⟩
def tyV (K : PySem.W.Frag) (T : String) (x : V) (H : Hp) : Prop := match x with
  | .str _ => T = "str"
  | .int _ => T = "int"
  | .ref p => (T = "list" ∧ ∃ xs, SqL K H p xs) ∨ (T = "tuple" ∧ ∃ o, K.lookup p = some o ∧ o.cls = .type "tuple" ∧ o.dict = none) ∨
      (T = "dict" ∧ ((∃ kvs, H p = some (.dK kvs)) ∨ ∃ kvs, H p = some (.dT kvs))) ∨ (T = "set" ∧ ∃ S n, H p = some (.set S n))
  | _ => False
theorem Og {pins : List (Addr × Obj)} {σ : St} {H : Hp} {s : Shared} {T : String} {x : V} {v : Value} (I : Inv X pins σ H s) (r : RelV x v) (ty : tyV X.K T x H) :
    s.TypeIs v T ∧ ∀ a, v = .ref a → ∃ ob, s.heap.get? a = some ob ∧ ob.dict = none := by
  cases x with
  | str z =>
    obtain ⟨t, rfl⟩ := r
    cases (show T = "str" from ty)
    exact ⟨typeIs_str s z t, fun _ e => nomatch e⟩
  | int i =>
    obtain ⟨t, rfl⟩ := r
    cases (show T = "int" from ty)
    exact ⟨typeIs_int s i t, fun _ e => nomatch e⟩
  | ref p =>
    cases r
    rcases ty with ⟨rfl, xs, hq⟩ | ⟨rfl, o, hk, hc, hd⟩ | ⟨rfl, hk⟩ | ⟨rfl, S, n, hk⟩
    · obtain ⟨its, _, pl, _⟩ := I.list hq
      refine ⟨pl.isList.typeIs, fun a e => ?_⟩
      cases e
      obtain ⟨o, n, e, c, hd, _⟩ := pl
      exact ⟨o, e, hd⟩
    · refine ⟨⟨o, I.kIn p o hk, hc⟩, fun a e => ?_⟩
      cases e
      exact ⟨o, I.kIn _ o hk, hd⟩
    · have z : ∃ o, s.heap.get? p = some o ∧ o.ExactDict := by
        rcases hk with ⟨kvs, hk⟩ | ⟨kvs, hk⟩
        · obtain ⟨_, _, _, _, o, _, _, e, ex, _⟩ := I.hok p _ hk
          exact ⟨o, e, ex⟩
        · obtain ⟨_, _, _, _, o, _, _, e, ex, _⟩ := I.hok p _ hk
          exact ⟨o, e, ex⟩
      obtain ⟨o, e, ex⟩ := z
      refine ⟨⟨o, e, ex.1⟩, fun a e2 => ?_⟩
      cases e2
      exact ⟨o, e, ex.2.1⟩
    · obtain ⟨o, _, _, _, e, ex, _⟩ := I.hok p _ hk
      refine ⟨⟨o, e, ex.1⟩, fun a e2 => ?_⟩
      cases e2
      exact ⟨o, e, ex.2.1⟩
  | _ => exact False.elim ty
def tBM (K : PySem.W.Frag) (T : String) (r : V → List V → Hp → VK → Prop) (to : TE) (t : TA) : TE := fun σ H Q => to σ H fun x H1 => tyV K T x H1 ∧ t σ H1 fun xs H2 => r x xs H2 Q
variable {o e : Expr} {es : List Expr} {to : TE} {t : TA} {name : Str} {apos cpos : Pos} {T id : String} {r : V → List V → Hp → VK → Prop}
theorem Mj (pa : PlainAttrs T) (slot : Slot T name id) (hty : typeOf (.builtin id) = pure (.type "method_descriptor")) (hm : MtR X id r) (ho : PE X o to) (ha : PA X (e :: es) t)
    (hbase : attributeBase o name X.env (eval o X.env) = eval o X.env := by rfl)
    (hfew : ((backTo cpos (starEach (e :: es) X.env)).all (fun x => !x.1) && (backToKw cpos (keywordEach [] X.env)).all (fun x => x.1.isSome)
      && decide ((e :: es).length + ([] : List Keyword).length + (if ([] : List Keyword).isEmpty then 0 else 1) < 30)) = true := by rfl)
    (hline : (apos.endLine == cpos.line) = true := by rfl) (hs : starEach (e :: es) X.env = (false, eval e X.env) :: starEach es X.env := by rfl) (hplain : (backTo cpos (starEach es X.env)).any (·.1) = false := by rfl) :
    PE X (.Call (.Attribute o name apos) (e :: es) [] cpos) (tBM X.K T r to t) := by
  intro pins s σ H Q I h
  refine wpAny_Call_method_late hbase hfew hline rfl (thn (ho pins s σ H _ I h) fun v s1 ⟨x, H1, I1, r1, ty, q1⟩ => ?_)
  obtain ⟨h1, h2⟩ := Og I1 r1 ty
  refine ⟨T, id, pa, slot, hty, h1, h2, ?_⟩
  have hA := ha cpos pins s1 σ H1 _ I1 q1
  rw [hs] at hA ⊢
  refine Calls.callWith_builtin (by show (false || (backTo cpos (starEach es X.env)).any (·.1)) = false; rw [hplain] <;> rfl) (Calls.evalArgs_plain ?_)
  exact thn hA fun us s2 ⟨vs, H2, I2, r2, q2⟩ => hm pins s2 σ H2 x vs v us Q I2 r1 r2 q2
end
end L2
namespace L2
open PySem PySem.Spec PyProof.Rows
def MtM (X : Cx) (id : String) (r : V → List V → Hp → VK → Prop) : Prop :=
  ∀ (pins : List (Addr × Obj)) (s : Shared) (σ : St) (H : Hp) (x : V) (xs : List V) (v : Value) (us : List Value) (Q : VK), Inv X pins σ H s → RelV x v → Vals xs us → r x xs H Q →
    wpAny (model X.prog X.w) X.A (call (.builtin id) (v :: us)) (EP X pins σ Q) X.xe s
theorem Vals.one : ∀ {x : V} {us : List Value}, Vals [x] us → ∃ u, us = [u] ∧ RelV x u
  | _, _, .cons r .nil => ⟨_, rfl, r⟩
theorem Vals.two : ∀ {x y : V} {us : List Value}, Vals [x, y] us → ∃ u v, us = [u, v] ∧ RelV x u ∧ RelV y v
  | _, _, _, .cons r (.cons q .nil) => ⟨_, _, rfl, r, q⟩
theorem Vals.eraseIdx : ∀ {xs : List V} {us : List Value} (i : Nat), Vals xs us → Vals (xs.eraseIdx i) (us.eraseIdx i)
  | _, _, _, .nil => .nil
  | _, _, 0, .cons _ t => t
  | _, _, i + 1, .cons r t => .cons r (Vals.eraseIdx i t)
theorem Vals.reverse {xs : List V} {us : List Value} (h : Vals xs us) : Vals xs.reverse us.reverse := by
  induction h with
  | nil => exact .nil
  | cons r t ih => rw [List.reverse_cons, List.reverse_cons]; exact Vals.append ih (.cons r .nil)
section
variable {X : Cx} {pins : List (Addr × Obj)} {σ : St} {H : Hp} {s : Shared} {l b : Addr} {xs ys zs : List V}
theorem Inv.Qe {its its' : List Value} {n : Nat} {f : Array Value → Array Value} {t' : Nat} (I : Inv X pins σ H s) (hH : H l = some (.lst xs))
    (e : s.heap.get? l = some { cls := .type "list", data := .seq its.toArray n }) (hf : f its.toArray = its'.toArray) (hv : Vals ys its') (hz : ys.length ≤ sizeLine) :
    Inv X pins σ (upd H l (.lst ys)) { s with heap := s.heap.update l (Obj.mapSeq f), toks := t' } := by
  have q := PySem.IsL.update e f
  rw [hf] at q
  refine I.write (x := l) (e := l) (by rw [hH]; exact trivial) (.inl rfl) (fun b' u hb hu => (Heap.get?_update_other s.heap (Obj.mapSeq f) (Ne.symm hb)).trans hu) ⟨_, q⟩ ?_
  exact ⟨hz, its', _, hv, q⟩
theorem Inv.Ol (I : Inv X pins σ H s) (hH : H l = some (.lst xs)) : xs.length ≤ sizeLine ∧ ∃ (its : List Value) (n : Nat), Vals xs its ∧ xs.length = its.length ∧ s.heap.get? l = some { cls := .type "list", data := .seq its.toArray n } := by
  obtain ⟨z, its, n, r, e⟩ := I.hok l _ hH
  exact ⟨z, its, n, r, r.length, e⟩
end
section
variable {X : Cx}
def LH : V → List V → Hp → VK → Prop := fun x vs H Q => ∃ l xs y, x = .ref l ∧ vs = [y] ∧ H l = some (.lst xs) ∧ xs.length < sizeLine ∧ Q .non (upd H l (.lst (xs ++ [y])))
theorem vi : MtM X "list.append" LH := by
  intro pins s σ H x vs v us Q I rx rv h
  obtain ⟨l, xs, y, rfl, rfl, hH, hz, q⟩ := h
  cases rx
  obtain ⟨u, rfl, ru⟩ := rv.one
  obtain ⟨z, its, n, r, hl, e⟩ := I.Ol hH
  refine call_meets F.slot_list_append ⟨_, e, rfl⟩ F.entry_list_append (F.args_list_append_2 _ _) (PySem.list_append l its.toArray n u (by rw [List.size_toArray]; omega)) ⟨e, ?_⟩
  refine ⟨.non, _, I.Qe (its' := its ++ [u]) hH e (by simp) (r.append (.cons ru .nil)) ?_, rfl, q⟩
  rw [List.length_append, List.length_singleton]
  omega
end
section
variable {prog : Program} {w : World} {A : Around} {E : Value → Shared → Prop} {s : Shared}
end
section
variable {X : Cx}
end
end L2
namespace Att
open PySem PySem.W PySem.Calls PyProof.Rows
theorem vY {P : Params} {h : Heap} : ∀ (ns : List Int) (vs : List Value), WellAll P h vs (ns.map WData.int) → IntsAre vs ns := by
  intro ns
  induction ns with
  | nil =>
    intro vs w
    rw [List.map_nil] at w
    cases w
    exact .nil
  | cons n ns ih =>
    intro vs w
    rw [List.map_cons] at w
    cases w with
    | cons a b =>
      cases a
      exact .cons _ _ (ih _ b)
theorem HJ {l : OpenLaw} {n : Nat} (hn : l.most = some n) {P : Params} {h : Heap} {args : List WData} {vals : List Value}
    (hpre : l.row.toRowW.claim.pre args = true) (hwl : WellAll P h vals args) :
    ∃ a vs ns, vals = [Value.ref a] ∧ args = [WData.list (ns.map WData.int)] ∧ h.get? a = some { cls := .type "list", data := .seq vs.toArray } ∧ IntsAre vs ns ∧ ns.length ≤ n := by
  have hsh : WShape.hasAll [] args [.list .int] = true := (pre_splitW hpre).1
  have hc : l.pre.holds [] { args := args } = true := (pre_splitW hpre).2
  obtain ⟨d, r, rfl, h1, h2⟩ := hasAllW_cons hsh
  obtain rfl := hasAllW_nil h2
  obtain ⟨xs, rfl, h3⟩ := hasW_list h1
  obtain ⟨ns, rfl⟩ := items_int h3
  have hlen : ns.length ≤ n := by
    unfold OpenLaw.pre at hc
    have h4 : (WTm.not (.lt (.lit (.int (n : Int))) (.len (.arg 0)))).holds [] { args := [.list (ns.map .int)] } = true := by
      have h4 := (holds_andW hc).1
      rw [hn] at h4
      exact h4
    have h5 := condW_of h4 (w_not (w_lt w_lit (w_len_list (w_arg rfl))))
    rw [List.length_map] at h5
    refine Nat.le_of_not_lt fun q => ?_
    have q' : (n : Int) < ((ns.length : Nat) : Int) := by omega
    first
      | (rw [decide_eq_true q'] at h5; exact absurd h5 (by decide))
      | (simp at h5; omega)
  cases hwl with
  | cons w1 w2 =>
    cases w2
    cases w1 with
    | list ho hall => exact ⟨_, _, ns, rfl, rfl, ho, vY ns _ hall, hlen⟩
theorem HX (l : OpenLaw) (args : List WData) : l.row.toRowW.claim.post args (.bool true) args = true :=
  postW_of (r := l.row.toRowW) (X := (true == true))
    (show WShape.has [] (.bool true) .bool = true by first | rfl | decide | simp [WShape.has, WShape.arms, WShape.armsAll])
    (show (WTm.eq .res (.lit (.bool true))).value [] { args := args, res := some (.bool true), after := args } = some (.bool (true == true)) from w_eq_bool (w_res rfl) w_lit) rfl
theorem DY {l : OpenLaw} {n : Nat} {q : Program} {loose : List Str} {XP : (Str → Option Value) → Heap → Prop} {YP : World → Heap → Prop} {d : DefRec}
    (hn : l.most = some n) (hdf : d.params.defaults = [])
    (call : ∀ (w : World) (s₀ s₁ : Shared) (mg mb : Str → Option Value) (fa : Addr) (o : Obj) (pm cd doc : Value) (a : Addr) (vs : List Value) (ns : List Int),
      Ground q loose [] XP w s₀ mg mb s₁.heap → YP w s₁.heap →
      s₁.heap.get? fa = some o → o.data = .func (docDef d.name d.params d.body d.scope pm cd doc) → s₁.heap.CodeRec cd d.name → mg d.name = some (.ref fa) →
      s₁.heap.get? a = some { cls := .type "list", data := .seq vs.toArray } → IntsAre vs ns → ns.length ≤ n → s₁.gens = #[] →
      codeAny (model l.prog w) callerA (.call (.ref fa) ⟨[.ref a], []⟩) (fun r s' => r = .ok (.ret (.bool true)) ∧ OldK s₁.heap s'.heap ∧ s'.os = s₁.os ∧ AllBare s'.gens) s₁) :
    WalkO q loose XP YP l.row.toRowW d [] (fun f vs => PySem.call f vs) := by
  intro w s₀ s₁ mg mb G Y fa o pm cd doc dV kV ho hd hcd hD hmg hg args vals as hpre hlay hrd hwl hlo
  obtain rfl : dV = .none := Dflts.none hD hdf
  obtain rfl : kV = .none := Dflts.noKw hD
  obtain ⟨a, vs, ns, rfl, rfl, hobj, hints, hlen⟩ := HJ hn hpre hwl
  refine enter_call (codeAny_mono (call w s₀ s₁ mg mb fa o pm cd doc a vs ns G Y ho (fd_plain hd) hcd hmg hobj hints hlen hg) fun r s' hq => ?_)
  obtain ⟨rfl, h2, h3, h4⟩ := hq
  exact ⟨.inl ⟨.bool true, .bool true, [], rfl, fun _ => rfl, .bool true, HX l _, fun _ => ⟨List.Pairwise.nil, fun _ hm => (nomatch hm)⟩⟩, h2, h3, h4⟩
section
variable {prog : Program} {w : World} {A : Around} {E : Value → Shared → Prop} {s : Shared} {K : Frag}
def ledger (h : Heap) (L d : Addr) : List (Addr × Obj) := (List.range h.objs.size).filterMap fun a => if a = L ∨ a = d then none else (h.get? a).map fun o => (a, o)
end
end Att
namespace L2
open PySem PySem.Spec PyProof.Rows
theorem zk : ∀ {vs : List Value} {ns : List Int}, IntsAre vs ns → Vals (ns.map V.int) vs
  | _, _, .nil => .nil
  | _, _, .cons n t h => .cons ⟨t, rfl⟩ (zk h)
end L2
namespace L2
open PySem PySem.Spec PyProof.Rows
end L2
namespace L2
open PySem PySem.Spec PyProof.Rows
abbrev CX0 : CXT := fun _ _ _ _ _ _ => False
abbrev E0 : XK := fun _ _ _ => False
theorem Pa {X : Cx} : Passes CX0 X E0 := fun _ _ _ _ _ _ _ h => h.elim
structure Fun (K : PySem.W.Frag) (x qual : Str) (st : Stmt) (f : Addr) (fd : FuncData) : Prop where
  ex : ∃ (oc : Value) (od : Option Addr) (kV doc pm : Value) (an : Option Addr) (cdv ct : Value) (osl : Array (Option Value)),
    fd = PySem.W.fnOf x qual (qc st) (kI st) (az st) .none kV doc pm an cdv ct ∧ K.lookup f = some ⟨oc, od, .func fd, osl⟩ ∧ PySem.W.codeIn K cdv qual = true
  kp : PySem.W.keepIn K (.ref f) = true
section
variable {P : Program} {w : World} {K : PySem.W.Frag} {mg : Str → Option Value} {base : Heap}
theorem Fun.ok {x qual : Str} {st : Stmt} {f : Addr} {fd : FuncData} {N ps : List Str} {k : Nat} {sp : Sp} (F : Fun K x qual st f fd) (S : aG N ps (az st)) (len : ∀ vs H Q E, sp vs H Q E → vs.length = ps.length)
    (hbody : ∀ (cdv : Value) (A : Around) (outer : List Env) (s : Shared) (H : Hp) (vs : List V) (Q : VK) (E : XK), mG k (A.deeper (envOfC qual (az st) s.heap.objs.size f cdv)) → sp vs H Q E →
      ∃ t, PSs (E7 CX0 P w K mg base N qual (az st) f cdv A outer s H E).nox (kI st) t ∧ t { nx := fun _ H' => Q .non H', rt := Q } (start N vs) H) : bM P w K mg base CX0 (k + 1) f fd ps sp := by
  obtain ⟨oc, od, kV, doc, pm, an, cdv, ct, osl, rfl, lk, hcd⟩ := F.ex
  refine Pr lk hcd S len fun A outer s H vs Q E hr hsp => ?_
  obtain ⟨t, h, q⟩ := hbody cdv A outer s H vs Q E hr hsp
  exact ⟨t, h.nox, q⟩
theorem Fun.binds {x qual : Str} {st : Stmt} {f : Addr} {fd : FuncData} {ps : List Str} (F : Fun K x qual st f fd)
    (h : ∀ (kV doc pm : Value) (an : Option Addr) (cdv ct : Value) (us : List Value), us.length = ps.length → bindArgs (PySem.W.fnOf x qual (qc st) (kI st) (az st) .none kV doc pm an cdv ct) ⟨us, []⟩ = pure (ps.zip us)) : Binds K fd ps [] := by
  obtain ⟨oc, od, kV, doc, pm, an, cdv, ct, osl, rfl, lk, hcd⟩ := F.ex
  exact .all (h kV doc pm an cdv ct)
theorem aS {x qual : Str} {st : Stmt} {f : Addr} {oc : Value} {od an : Option Addr} {osl : Array (Option Value)} {kV doc pm cdv ct : Value} (l : K.lookup f = some ⟨oc, od, .func (PySem.W.fnOf x qual (qc st) (kI st) (az st) .none kV doc pm an cdv ct), osl⟩)
    (c : PySem.W.codeIn K cdv qual = true) (k : PySem.W.keepIn K (.ref f) = true) : Fun K x qual st f (PySem.W.fnOf x qual (qc st) (kI st) (az st) .none kV doc pm an cdv ct) := ⟨⟨oc, od, kV, doc, pm, an, cdv, ct, osl, rfl, l, c⟩, k⟩
end
theorem jY {n : Nat} (h : n ≤ 1000) : n < sizeLine := Nat.lt_of_le_of_lt h (by decide)
section
variable {X : Cx}
theorem pv (i : Nat) {x : Str} {pos : Pos} (hN : X.N[i]? = some x := by rfl) (hv : Vis X.env.scope x := by first | exact Or.inl rfl | exact Or.inr (Or.inl rfl) | exact Or.inr (Or.inr rfl)) (hd : (x == ("__debug__" : Str)) = false := by decide)
    (hcd : (x == ("__classdict__" : Str)) = false := by decide) : PE X (.Name x pos) (Mz i) := JB hN hv hd hcd
end
theorem Cg {A B : Prop} (h : B) : if false = true then A else B := by
  rw [if_neg Bool.false_ne_true]
  exact h
theorem Cm {A B : Prop} (h : A) : if true = true then A else B := by
  rw [if_pos rfl]
  exact h
def rZ (H H' : Hp) : Prop := ∀ b o, H b = some o → H' b = some o
theorem rZ.refl (H : Hp) : rZ H H := fun _ _ h => h
theorem rZ.trans {H H1 H2 : Hp} (a : rZ H H1) (b : rZ H1 H2) : rZ H H2 := fun c o h => b c o (a c o h)
theorem rZ.free {H H' : Hp} (e : rZ H H') {l : Addr} (h : H' l = Option.none) : H l = Option.none := by
  cases q : H l with
  | none => rfl
  | some o =>
    rw [e l o q] at h
    cases h
end L2
set_option linter.all false
set_option maxRecDepth 100000
set_option maxHeartbeats 4000000
namespace NM
@[irreducible] def Sz (n : Nat) (i : Int) : Prop := i.natAbs < 2 ^ n
theorem Sz.mono {n m : Nat} {i : Int} (h : Sz n i) (l : n ≤ m) : Sz m i := by unfold Sz at *; exact Nat.lt_of_lt_of_le h (Nat.pow_le_pow_right (by decide) l)
theorem Sz.mul {n m : Nat} {i j : Int} (h : Sz n i) (g : Sz m j) : Sz (n + m) (i * j) := by
  unfold Sz at *
  rw [Int.natAbs_mul, Nat.pow_add]
  exact Nat.mul_lt_mul'' h g
theorem Sz.add {n : Nat} {i j : Int} (h : Sz n i) (g : Sz n j) : Sz (n + 1) (i + j) := by
  unfold Sz at *
  have := Int.natAbs_add_le i j
  rw [Nat.pow_succ]
  omega
theorem Sz.neg {n : Nat} {i : Int} (h : Sz n i) : Sz n (-i) := by unfold Sz at *; rw [Int.natAbs_neg]; exact h
theorem Sz.sub {n : Nat} {i j : Int} (h : Sz n i) (g : Sz n j) : Sz (n + 1) (i - j) := by rw [Int.sub_eq_add_neg]; exact h.add g.neg
theorem Sz.le {n : Nat} {i j : Int} (h : Sz n i) (g : j.natAbs ≤ i.natAbs) : Sz n j := by unfold Sz at *; exact Nat.lt_of_le_of_lt g h
theorem Sz.of {n : Nat} {i : Int} (h : i.natAbs < 2 ^ n) : Sz n i := by unfold Sz; exact h
theorem Sz.lt {n : Nat} {i : Int} (h : Sz n i) : i.natAbs < 2 ^ n := by unfold Sz at h; exact h
def g3 (a b c : Int) : Nat := Int.gcd (Int.gcd a b : Nat) c
theorem LA (a b c : Int) : Int.gcd (Int.gcd c a : Nat) b = g3 a b c := by
  unfold g3
  simp only [Int.gcd, Int.natAbs_natCast]
  rw [Nat.gcd_assoc, Nat.gcd_comm]
theorem Ju (a b c : Int) : ((g3 a b c : Nat) : Int) ∣ a ∧ ((g3 a b c : Nat) : Int) ∣ b ∧ ((g3 a b c : Nat) : Int) ∣ c := by
  have h : ((g3 a b c : Nat) : Int) ∣ ((Int.gcd a b : Nat) : Int) := Int.gcd_dvd_left ..
  exact ⟨Int.dvd_trans h (Int.gcd_dvd_left ..), Int.dvd_trans h (Int.gcd_dvd_right ..), Int.gcd_dvd_right ..⟩
theorem NH {a b c : Int} {k : Nat} (h1 : (k : Int) ∣ a) (h2 : (k : Int) ∣ b) (h3 : (k : Int) ∣ c) : k ∣ g3 a b c := by
  unfold g3
  exact Int.dvd_gcd (Int.natCast_dvd_natCast.mpr (Int.dvd_gcd h1 h2)) h3
theorem BE {a b c : Int} (h : c ≠ 0) : 0 < g3 a b c := by
  unfold g3
  exact Int.gcd_pos_of_ne_zero_right _ h
theorem JA (a b c k : Int) : g3 (a * k) (b * k) (c * k) = g3 a b c * k.natAbs := by
  unfold g3
  simp only [Int.gcd, Int.natAbs_natCast, Int.natAbs_mul, Nat.gcd_mul_right]
theorem Dy (a b c : Int) : g3 a (-b) c = g3 a b c := by
  unfold g3
  rw [Int.gcd_neg]
theorem JT (a b c : Int) : g3 (-a) b c = g3 a b c := by
  unfold g3
  rw [Int.neg_gcd]
structure N3 where
  a : Int
  b : Int
  c : Int
deriving DecidableEq
theorem N3.ext' {x y : N3} (h1 : x.a = y.a) (h2 : x.b = y.b) (h3 : x.c = y.c) : x = y := by cases x; cases y; simp_all
structure Ok (x : N3) : Prop where
  c : 0 < x.c
  g : g3 x.a x.b x.c = 1
def dv (a b c : Int) : Int := if c < 0 then -(g3 a b c : Nat) else (g3 a b c : Nat)
def low (a b c : Int) : N3 := ⟨a.fdiv (dv a b c), b.fdiv (dv a b c), c.fdiv (dv a b c)⟩
theorem An {a k q : Int} (hk : k ≠ 0) (h : a = k * q) : a.fdiv k = q := by
  subst h
  exact Int.mul_fdiv_cancel_left q hk
theorem OT {a b c : Int} (h : c ≠ 0) : dv a b c ≠ 0 := by
  have := BE (a := a) (b := b) h
  unfold dv
  split <;> omega
theorem NY (a b c : Int) : dv a b c ∣ a ∧ dv a b c ∣ b ∧ dv a b c ∣ c := by
  obtain ⟨h1, h2, h3⟩ := Ju a b c
  unfold dv
  split
  · exact ⟨Int.neg_dvd.mpr h1, Int.neg_dvd.mpr h2, Int.neg_dvd.mpr h3⟩
  · exact ⟨h1, h2, h3⟩
theorem i8 (a b : Int) {c : Int} (h : c ≠ 0) : ∃ k : Int, k ≠ 0 ∧ (0 < k ↔ 0 < c) ∧ a = k * (low a b c).a ∧ b = k * (low a b c).b ∧ c = k * (low a b c).c ∧ Ok (low a b c) := by
  have hk := OT (a := a) (b := b) h
  obtain ⟨⟨p, hp⟩, ⟨q, hq⟩, ⟨r, hr⟩⟩ := NY a b c
  have ep : (low a b c).a = p := An hk hp
  have eq : (low a b c).b = q := An hk hq
  have er : (low a b c).c = r := An hk hr
  have hg := BE (a := a) (b := b) h
  have hs : 0 < dv a b c ↔ 0 < c := by unfold dv; split <;> omega
  have hr0 : 0 < r := by
    have hr' : r ≠ 0 := fun z => h (by rw [hr, z, Int.mul_zero])
    rcases Int.lt_trichotomy 0 (dv a b c) with z | z | z
    · have := hs.mp z
      rw [hr] at this
      rw [Int.mul_comm] at this
      exact Int.pos_of_mul_pos_left this z |> fun t => t
    · exact absurd z.symm hk
    · have : c < 0 := by omega
      rcases Int.lt_trichotomy 0 r with w | w | w
      · exact w
      · exact absurd w.symm hr'
      · have := Int.mul_pos_of_neg_of_neg z w
        rw [← hr] at this
        omega
  refine ⟨dv a b c, hk, hs, by rw [ep]; exact hp, by rw [eq]; exact hq, by rw [er]; exact hr, by rw [er]; exact hr0, ?_⟩
  rw [ep, eq, er]
  have e := JA p q r (dv a b c)
  rw [Int.mul_comm p, Int.mul_comm q, Int.mul_comm r, ← hp, ← hq, ← hr] at e
  have e2 : (dv a b c).natAbs = g3 a b c := by unfold dv; split <;> simp
  rw [e2] at e
  have : g3 p q r * g3 a b c = 1 * g3 a b c := by omega
  exact Nat.eq_of_mul_eq_mul_right hg this
theorem fX (a b : Int) {c : Int} (h : c ≠ 0) : Ok (low a b c) := (i8 a b h).choose_spec.2.2.2.2.2
theorem Ok.same {x y : N3} (hx : Ok x) (hy : Ok y) (h1 : x.a * y.c = y.a * x.c) (h2 : x.b * y.c = y.b * x.c) : x = y := by
  have key : ∀ {u v : N3}, Ok u → Ok v → u.a * v.c = v.a * u.c → u.b * v.c = v.b * u.c → u.c ∣ v.c := fun {u v} hu hv e1 e2 => by
    have hd : u.c.natAbs ∣ g3 (u.a * v.c) (u.b * v.c) (u.c * v.c) := NH
      (by rw [Int.natAbs_of_nonneg (Int.le_of_lt hu.c), e1]; exact Int.dvd_mul_left _ _) (by rw [Int.natAbs_of_nonneg (Int.le_of_lt hu.c), e2]; exact Int.dvd_mul_left _ _) (by rw [Int.natAbs_of_nonneg (Int.le_of_lt hu.c)]; exact Int.dvd_mul_right _ _)
    rw [JA, hu.g, Nat.one_mul] at hd
    exact Int.natAbs_dvd_natAbs.mp hd
  have hc : x.c = y.c := Int.dvd_antisymm (Int.le_of_lt hx.c) (Int.le_of_lt hy.c) (key hx hy h1 h2) (key hy hx h1.symm h2.symm)
  have hn : y.c ≠ 0 := by have := hy.c; omega
  rw [hc] at h1 h2
  exact N3.ext' (Int.eq_of_mul_eq_mul_right hn h1) (Int.eq_of_mul_eq_mul_right hn h2) hc
theorem MA {a b c a' b' c' : Int} (h : c ≠ 0) (h' : c' ≠ 0) (e1 : a * c' = a' * c) (e2 : b * c' = b' * c) : low a b c = low a' b' c' := by
  obtain ⟨k, hk, _, p1, p2, p3, o⟩ := i8 a b h
  obtain ⟨l, hl, _, q1, q2, q3, o'⟩ := i8 a' b' h'
  generalize low a b c = x at *
  generalize low a' b' c' = y at *
  subst p1 p2 p3 q1 q2 q3
  have hkl : k * l ≠ 0 := Int.mul_ne_zero hk hl
  refine o.same o' (Int.eq_of_mul_eq_mul_left hkl (by grind)) (Int.eq_of_mul_eq_mul_left hkl (by grind))
theorem Ok.low {x : N3} (h : Ok x) : low x.a x.b x.c = x := by
  have hc : x.c ≠ 0 := by have := h.c; omega
  obtain ⟨k, hk, _, p1, p2, p3, o⟩ := i8 x.a x.b hc
  refine o.same h ?_ ?_
  · exact Int.eq_of_mul_eq_mul_left hk (by grind)
  · exact Int.eq_of_mul_eq_mul_left hk (by grind)
theorem Ok.NX {x : N3} {a b c : Int} (h : Ok x) (hc : c ≠ 0) (e1 : x.a * c = a * x.c) (e2 : x.b * c = b * x.c) : x = NM.low a b c := by
  have q := MA (by have := h.c; omega) hc e1 e2
  rw [h.low] at q
  exact q
theorem J0 (a b : Int) {c : Int} (h : c ≠ 0) : (low a b c).a.natAbs ≤ a.natAbs ∧ (low a b c).b.natAbs ≤ b.natAbs ∧ (low a b c).c.natAbs ≤ c.natAbs := by
  obtain ⟨k, hk, _, p1, p2, p3, _⟩ := i8 a b h
  have hk' : 1 ≤ k.natAbs := by omega
  have le : ∀ {u v : Int}, u = k * v → v.natAbs ≤ u.natAbs := fun {u v} e => by
    rw [e, Int.natAbs_mul]
    exact Nat.le_mul_of_pos_left _ hk'
  exact ⟨le p1, le p2, le p3⟩
structure Bd (n : Nat) (x : N3) : Prop where
  a : Sz n x.a
  b : Sz n x.b
  c : Sz n x.c
theorem Bd.mono {n m : Nat} {x : N3} (h : Bd n x) (l : n ≤ m) : Bd m x := ⟨h.a.mono l, h.b.mono l, h.c.mono l⟩
theorem ji {a b c : Int} {n : Nat} (h : c ≠ 0) (ha : Sz n a) (hb : Sz n b) (hc : Sz n c) : Bd n (low a b c) := by
  obtain ⟨h1, h2, h3⟩ := J0 a b h
  exact ⟨ha.le h1, hb.le h2, hc.le h3⟩
def plus (x y : N3) : N3 := low (x.a * y.c + y.a * x.c) (x.b * y.c + y.b * x.c) (x.c * y.c)
def less (x y : N3) : N3 := low (x.a * y.c - y.a * x.c) (x.b * y.c - y.b * x.c) (x.c * y.c)
def times (d : Int) (x y : N3) : N3 := low (x.a * y.a + d * x.b * y.b) (x.a * y.b + x.b * y.a) (x.c * y.c)
def norm (d : Int) (x : N3) : Int := x.a * x.a - d * x.b * x.b
def ar (d : Int) (x : N3) : N3 := low (x.c * x.a) (-x.c * x.b) (norm d x)
def bR (x : N3) : N3 := ⟨x.a, -x.b, x.c⟩
def minus (x : N3) : N3 := ⟨-x.a, -x.b, x.c⟩
def ay : N3 := ⟨0, 0, 1⟩
def one : N3 := ⟨1, 0, 1⟩
theorem Ok.cn {x : N3} (h : Ok x) : x.c ≠ 0 := by have := h.c; omega
theorem rY {x y : N3} (h : Ok x) (g : Ok y) : x.c * y.c ≠ 0 := Int.mul_ne_zero h.cn g.cn
theorem aT {x : N3} (h : Ok x) : Ok (bR x) := ⟨h.c, by show g3 x.a (-x.b) x.c = 1; rw [Dy]; exact h.g⟩
theorem lS {x : N3} (h : Ok x) : Ok (minus x) := ⟨h.c, by show g3 (-x.a) (-x.b) x.c = 1; rw [JT, Dy]; exact h.g⟩
theorem bN {x y : N3} (h : Ok x) (g : Ok y) : Ok (plus x y) := fX _ _ (rY h g)
theorem nM {x y : N3} (h : Ok x) (g : Ok y) : Ok (less x y) := fX _ _ (rY h g)
theorem aB {d : Int} {x y : N3} (h : Ok x) (g : Ok y) : Ok (times d x y) := fX _ _ (rY h g)
theorem uQ : Ok ay := ⟨by decide, by decide⟩
theorem Km : Ok one := ⟨by decide, by decide⟩
theorem fK {n : Nat} {x : N3} (h : Bd n x) : Bd n (bR x) := ⟨h.a, h.b.neg, h.c⟩
theorem sQ {n : Nat} {x : N3} (h : Bd n x) : Bd n (minus x) := ⟨h.a.neg, h.b.neg, h.c⟩
theorem iY {n m : Nat} {x y : N3} (hx : Ok x) (hy : Ok y) (h : Bd n x) (g : Bd m y) : Bd (n + m + 1) (plus x y) :=
  ji (rY hx hy) ((h.a.mul g.c).add ((g.a.mul h.c).mono (by omega))) ((h.b.mul g.c).add ((g.b.mul h.c).mono (by omega))) ((h.c.mul g.c).mono (by omega))
theorem Lc {n m : Nat} {x y : N3} (hx : Ok x) (hy : Ok y) (h : Bd n x) (g : Bd m y) : Bd (n + m + 1) (less x y) :=
  ji (rY hx hy) ((h.a.mul g.c).sub ((g.a.mul h.c).mono (by omega))) ((h.b.mul g.c).sub ((g.b.mul h.c).mono (by omega))) ((h.c.mul g.c).mono (by omega))
theorem jr {d : Int} (h : 2 ≤ d) (h' : d ≤ 30) : Sz 5 d := by unfold Sz; omega
theorem bJ {n m : Nat} {d : Int} {x y : N3} (hd : Sz 5 d) (hx : Ok x) (hy : Ok y) (h : Bd n x) (g : Bd m y) : Bd (n + m + 6) (times d x y) :=
  ji (rY hx hy) (((h.a.mul g.a).mono (by omega)).add (((hd.mul h.b).mul g.b).mono (by omega))) ((((h.a.mul g.b).mono (by omega : n + m ≤ n + m)).add ((h.b.mul g.a).mono (by omega))).mono (by omega)) ((h.c.mul g.c).mono (by omega))
theorem sD {n : Nat} {d : Int} {x : N3} (hd : Sz 5 d) (h : Bd n x) : Sz (2 * n + 6) (norm d x) := by
  have e1 := h.a.mul h.a
  have e2 := (hd.mul h.b).mul h.b
  exact ((e1.mono (by omega : n + n ≤ 5 + n + n)).sub e2).mono (by omega)
theorem bS {n : Nat} {d : Int} {x : N3} (hd : Sz 5 d) (hn : norm d x ≠ 0) (h : Bd n x) : Bd (2 * n + 6) (ar d x) :=
  ji hn ((h.c.mul h.a).mono (by omega)) ((h.c.neg.mul h.b).mono (by omega)) (sD hd h)
def aw (d : Int) : Prop := 2 ≤ d ∧ d ≤ 30 ∧ d ≠ 4 ∧ d ≠ 9 ∧ d ≠ 16 ∧ d ≠ 25
theorem Hk {d : Nat} (h : ∀ m : Nat, m * m ≠ d) : ∀ {a b : Nat}, a * a = d * (b * b) → b = 0 := fun {a b} e => by
  rcases Nat.eq_zero_or_pos b with hb | hb
  · exact hb
  exfalso
  obtain ⟨g, p, q, hg, hc, rfl, rfl⟩ := Nat.exists_coprime' (m := a) (n := b) (Nat.gcd_pos_of_pos_right _ hb)
  have e2 : (p * p) * (g * g) = (d * (q * q)) * (g * g) := by grind
  have e3 : p * p = d * (q * q) := Nat.eq_of_mul_eq_mul_right (Nat.mul_pos hg hg) e2
  have hq : q ∣ p * p := ⟨d * q, by rw [e3]; grind⟩
  have hq1 : q ∣ p := hc.symm.dvd_of_dvd_mul_left hq
  have hq2 : q = 1 := by
    have := Nat.dvd_gcd hq1 (Nat.dvd_refl q)
    rw [hc] at this
    exact Nat.dvd_one.mp this
  subst hq2
  exact h p (by rw [e3]; simp)
theorem aw.nat {d : Int} (h : aw d) : ∀ m : Nat, m * m ≠ d.toNat := fun m e => by
  obtain ⟨h1, h2, h3, h4, h5, h6⟩ := h
  have hm : m ≤ 5 := by
    rcases Nat.lt_or_ge 5 m with z | z
    · have := Nat.mul_le_mul z z; omega
    · exact z
  have : m = 0 ∨ m = 1 ∨ m = 2 ∨ m = 3 ∨ m = 4 ∨ m = 5 := by omega
  rcases this with rfl | rfl | rfl | rfl | rfl | rfl <;> omega
theorem aw.Ez {d a b : Int} (h : aw d) (e : a * a = d * b * b) : a = 0 ∧ b = 0 := by
  have hd : d = ((d.toNat : Nat) : Int) := by have := h.1; omega
  have e1 : a.natAbs * a.natAbs = d.toNat * (b.natAbs * b.natAbs) := by
    have e2 := congrArg Int.natAbs e
    rw [Int.natAbs_mul, Int.natAbs_mul, Int.natAbs_mul] at e2
    rw [e2, Nat.mul_assoc]
    congr 1
    omega
  have hb := Hk h.nat e1
  have hb' : b = 0 := by omega
  subst hb'
  have : a * a = 0 := by rw [e]; simp
  exact ⟨by rcases Int.mul_eq_zero.mp this with z | z <;> exact z, rfl⟩
theorem aw.norm {d : Int} {x : N3} (h : aw d) (ok : Ok x) (hx : x ≠ ay) : norm d x ≠ 0 := fun e => by
  have e' : x.a * x.a = d * x.b * x.b := by unfold NM.norm at e; omega
  obtain ⟨h1, h2⟩ := h.Ez e'
  apply hx
  have hg := ok.g
  rw [h1, h2] at hg
  have hc := ok.c
  have : x.c = 1 := by
    unfold g3 at hg
    simp [Int.gcd] at hg
    omega
  exact N3.ext' h1 h2 this
theorem aE {d : Int} {x : N3} (h : NM.norm d x ≠ 0) : Ok (ar d x) := fX _ _ h
def sg (d a b : Int) : Int :=
  if a = 0 ∧ b = 0 then 0 else if 0 ≤ a ∧ 0 ≤ b then 1 else if a ≤ 0 ∧ b ≤ 0 then -1 else if (if d * b * b < a * a then a else b) > 0 then 1 else -1
theorem GC {u v : Int} (hu : 0 ≤ u) (h : u * u ≤ v * v) (hv : 0 ≤ v) : u ≤ v := by
  rcases Int.lt_or_le v u with z | z
  · have := Int.mul_lt_mul_of_pos_left z (show 0 < u by omega)
    have := Int.mul_le_mul_of_nonneg_right (Int.le_of_lt z) hv
    omega
  · exact z
theorem sq_nonneg (u : Int) : 0 ≤ u * u := by
  rcases Int.le_total 0 u with h | h
  · exact Int.mul_nonneg h h
  · exact Int.mul_nonneg_of_nonpos_of_nonpos h h
theorem sq_pos {u : Int} (h : u ≠ 0) : 0 < u * u := by
  have := sq_nonneg u
  have : u * u ≠ 0 := Int.mul_ne_zero h h
  omega
def P (d a b : Int) : Prop := (0 ≤ a ∧ 0 ≤ b ∧ ¬ (a = 0 ∧ b = 0)) ∨ (0 < a ∧ b < 0 ∧ d * b * b < a * a) ∨ (a < 0 ∧ 0 < b ∧ a * a < d * b * b)
theorem jk {d a b : Int} (h : aw d) : sg d a b = 1 ↔ P d a b := by
  unfold sg P
  have key : a * a = d * b * b → a = 0 ∧ b = 0 := h.Ez
  by_cases c1 : d * b * b < a * a
  · simp only [c1, if_true]; split <;> (try split) <;> (try split) <;> (try split) <;> simp <;> omega
  · simp only [c1, if_false]; split <;> (try split) <;> (try split) <;> (try split) <;> simp <;> omega
theorem A2 {d a b : Int} (h : aw d) : sg d (-a) (-b) = - sg d a b := by
  unfold sg
  have key : a * a = d * b * b → a = 0 ∧ b = 0 := h.Ez
  have e1 : d * -b * -b = d * b * b := by grind
  have e2 : -a * -a = a * a := by grind
  rw [e1, e2]
  by_cases c1 : d * b * b < a * a
  · simp only [c1, if_true]; split <;> split <;> (try split) <;> (try split) <;> (try split) <;> (try split) <;> (try split) <;> (try split) <;> omega
  · simp only [c1, if_false]; split <;> split <;> (try split) <;> (try split) <;> (try split) <;> (try split) <;> (try split) <;> (try split) <;> omega
theorem eW {d a b : Int} : sg d a b = 0 ↔ a = 0 ∧ b = 0 := by
  unfold sg; split <;> (try split) <;> (try split) <;> (try split) <;> omega
theorem lJ (d a b : Int) : sg d a b = 0 ∨ sg d a b = 1 ∨ sg d a b = -1 := by
  unfold sg; split <;> (try split) <;> (try split) <;> (try split) <;> omega
theorem O9 {d a b : Int} (h : aw d) : (a = 0 ∧ b = 0) ∨ P d a b ∨ P d (-a) (-b) := by
  rcases lJ d a b with e | e | e
  · exact .inl (eW.mp e)
  · exact .inr (.inl ((jk h).mp e))
  · exact .inr (.inr ((jk h).mp (by rw [A2 h, e]; rfl)))
theorem nQ {d a b : Int} (h : aw d) (n : d * b * b < a * a) : P d a b ↔ 0 < a := by
  unfold P
  have := sq_nonneg b
  have h0 : 0 ≤ d * b * b := by rw [Int.mul_assoc]; exact Int.mul_nonneg (by have := h.1; omega) this
  have ha : a ≠ 0 := fun z => by subst z; simp at n; omega
  omega
theorem ky {d a b : Int} (h : aw d) (n : a * a < d * b * b) : P d a b ↔ 0 < b := by
  unfold P
  have h0 := sq_nonneg a
  have hb : b ≠ 0 := fun z => by subst z; simp at n; omega
  omega
theorem uj {u v : Int} (h : v * v < u * u) : 0 < u + v ↔ 0 < u := by
  have hu : u ≠ 0 := fun z => by subst z; have := sq_nonneg v; simp at h; omega
  have l : v.natAbs < u.natAbs := by
    rcases Nat.lt_or_ge v.natAbs u.natAbs with z | z
    · exact z
    · have := Nat.mul_le_mul z z
      have e1 : ((u.natAbs * u.natAbs : Nat) : Int) = u * u := Int.natAbs_mul_self
      have e2 : ((v.natAbs * v.natAbs : Nat) : Int) = v * v := Int.natAbs_mul_self
      omega
  omega
theorem mul_pos_iff {u v : Int} (hu : u ≠ 0) (hv : v ≠ 0) : 0 < u * v ↔ (0 < u ↔ 0 < v) := by
  rcases Int.lt_or_gt_of_ne hu with h | h <;> rcases Int.lt_or_gt_of_ne hv with g | g
  · have := Int.mul_pos_of_neg_of_neg h g; omega
  · have := Int.mul_neg_of_neg_of_pos h g; omega
  · have := Int.mul_neg_of_pos_of_neg h g; omega
  · have := Int.mul_pos h g; omega
theorem x9 {u v s t : Int} (hu : 0 ≤ u) (h : u < v) (hs : 0 ≤ s) (g : s < t) : u * s < v * t := by
  have e1 : u * s ≤ v * s := Int.mul_le_mul_of_nonneg_right (Int.le_of_lt h) hs
  have e2 : v * s < v * t := Int.mul_lt_mul_of_pos_left g (by omega)
  omega
theorem dsq {d b : Int} (hd : 0 < d) : 0 ≤ d * b * b := by rw [Int.mul_assoc]; exact Int.mul_nonneg (Int.le_of_lt hd) (sq_nonneg b)
theorem OP {d a b p q : Int} (h : aw d) (h1 : ¬ (a = 0 ∧ b = 0)) (h2 : ¬ (p = 0 ∧ q = 0)) : P d (a * p + d * b * q) (a * q + b * p) ↔ (P d a b ↔ P d p q) := by
  have hd : 0 < d := by have := h.1; omega
  have n1 : a * a ≠ d * b * b := fun e => h1 (h.Ez e)
  have n2 : p * p ≠ d * q * q := fun e => h2 (h.Ez e)
  have pz : ∀ {u v : Int}, d * v * v < u * u → u ≠ 0 := fun {u v} e z => by subst z; have := dsq (b := v) hd; simp at e; omega
  have qz : ∀ {u v : Int}, u * u < d * v * v → v ≠ 0 := fun {u v} e z => by subst z; have := sq_nonneg u; simp at e; omega
  have id1 : (a * p + d * b * q) * (a * p + d * b * q) - d * (a * q + b * p) * (a * q + b * p) = (a * a - d * b * b) * (p * p - d * q * q) := by grind
  rcases Int.lt_or_gt_of_ne n1 with c1 | c1 <;> rcases Int.lt_or_gt_of_ne n2 with c2 | c2
  · have pp := Int.mul_pos_of_neg_of_neg (show a * a - d * b * b < 0 by omega) (show p * p - d * q * q < 0 by omega)
    rw [nQ h (by omega), ky h c1, ky h c2]
    have sq : (a * p) * (a * p) < (d * b * q) * (d * b * q) := by
      have e2 := x9 (sq_nonneg a) c1 (sq_nonneg p) c2
      grind
    rw [Int.add_comm, uj sq, Int.mul_assoc, mul_pos_iff (by omega) (Int.mul_ne_zero (qz c1) (qz c2)), mul_pos_iff (qz c1) (qz c2)]
    omega
  · have pp := Int.mul_neg_of_neg_of_pos (show a * a - d * b * b < 0 by omega) (show 0 < p * p - d * q * q by omega)
    rw [ky h (by omega), ky h c1, nQ h c2]
    have sq : (a * q) * (a * q) < (b * p) * (b * p) := by
      have e2 := x9 (sq_nonneg a) c1 (dsq (b := q) hd) c2
      have e3 : d * ((a * q) * (a * q)) < d * ((b * p) * (b * p)) := by grind
      exact Int.lt_of_mul_lt_mul_left e3 (Int.le_of_lt hd)
    rw [Int.add_comm, uj sq, mul_pos_iff (qz c1) (pz c2)]
  · have pp := Int.mul_neg_of_pos_of_neg (show 0 < a * a - d * b * b by omega) (show p * p - d * q * q < 0 by omega)
    rw [ky h (by omega), nQ h c1, ky h c2]
    have sq : (b * p) * (b * p) < (a * q) * (a * q) := by
      have e2 := x9 (dsq (b := b) hd) c1 (sq_nonneg p) c2
      have e3 : d * ((b * p) * (b * p)) < d * ((a * q) * (a * q)) := by grind
      exact Int.lt_of_mul_lt_mul_left e3 (Int.le_of_lt hd)
    rw [uj sq, mul_pos_iff (pz c1) (qz c2)]
  · have pp := Int.mul_pos (show 0 < a * a - d * b * b by omega) (show 0 < p * p - d * q * q by omega)
    rw [nQ h (by omega), nQ h c1, nQ h c2]
    have sq : (d * b * q) * (d * b * q) < (a * p) * (a * p) := by
      have e2 := x9 (dsq (b := b) hd) c1 (dsq (b := q) hd) c2
      grind
    rw [uj sq, mul_pos_iff (pz c1) (pz c2)]
theorem Oq {d A x B y : Int} (hd : 0 < d) (hA : 0 ≤ A) (hx : 0 ≤ x) (hB : 0 ≤ B) (hy : 0 ≤ y) (h1 : A * A ≤ d * B * B) (h2 : x * x ≤ d * y * y) : A * x ≤ d * (B * y) := by
  refine GC (Int.mul_nonneg hA hx) ?_ (Int.mul_nonneg (Int.le_of_lt hd) (Int.mul_nonneg hB hy))
  have := Int.mul_le_mul h1 h2 (sq_nonneg x) (dsq hd)
  grind
theorem T1 {d A x B y : Int} (hd : 0 < d) (hA : 0 ≤ A) (hx : 0 ≤ x) (hB : 0 ≤ B) (hy : 0 ≤ y) (h1 : A * A < d * B * B) (h2 : x * x < d * y * y) : (A + x) * (A + x) < d * (B + y) * (B + y) := by
  have := Oq hd hA hx hB hy (Int.le_of_lt h1) (Int.le_of_lt h2)
  grind
theorem T2 {d A x B y : Int} (hd : 0 < d) (hA : 0 ≤ A) (hx : 0 ≤ x) (hB : 0 ≤ B) (hy : 0 ≤ y) (h1 : d * B * B < A * A) (h2 : d * y * y < x * x) : d * (B + y) * (B + y) < (A + x) * (A + x) := by
  have : d * (B * y) ≤ A * x := by
    refine GC (Int.mul_nonneg (Int.le_of_lt hd) (Int.mul_nonneg hB hy)) ?_ (Int.mul_nonneg hA hx)
    have := x9 (dsq (b := B) hd) h1 (dsq (b := y) hd) h2
    grind
  grind
theorem Z1 {d x1 y1 x2 y2 : Int} (hd : 0 < d) (h1 : x1 * x1 < d * y1 * y1) (h2 : d * y2 * y2 < x2 * x2) (a1 : 0 ≤ x2) (a2 : x2 ≤ x1) (a3 : 0 ≤ y1) (a4 : y1 ≤ y2) : False := by
  have e1 := Int.mul_le_mul a2 a2 a1 (Int.le_trans a1 a2)
  have e2 := Int.mul_le_mul_of_nonneg_left (Int.mul_le_mul a4 a4 a3 (Int.le_trans a3 a4)) (Int.le_of_lt hd)
  grind
theorem Z2 {d x1 y1 x2 y2 x3 y3 : Int} (hd : 0 < d) (h1 : x1 * x1 < d * y1 * y1) (h2 : d * y2 * y2 < x2 * x2) (h3 : d * y3 * y3 < x3 * x3) (a1 : 0 ≤ x2) (a2 : 0 ≤ y2) (a3 : 0 ≤ x3) (a4 : 0 ≤ y3) (e1 : x1 = x2 + x3) (e2 : y1 = y2 + y3) : False := by
  subst e1 e2
  have := T2 hd a1 a3 a2 a4 h2 h3
  omega
theorem Z3 {d x1 y1 x2 y2 x3 y3 : Int} (hd : 0 < d) (h1 : d * y1 * y1 < x1 * x1) (h2 : x2 * x2 < d * y2 * y2) (h3 : x3 * x3 < d * y3 * y3) (a1 : 0 ≤ x2) (a2 : 0 ≤ y2) (a3 : 0 ≤ x3) (a4 : 0 ≤ y3) (e1 : x1 = x2 + x3) (e2 : y1 = y2 + y3) : False := by
  subst e1 e2
  have := T1 hd a1 a3 a2 a4 h2 h3
  omega
theorem OF {d a b p q u v : Int} (h : aw d) (h1 : P d a b) (h2 : P d p q) (h3 : P d u v) (e1 : a + p + u = 0) (e2 : b + q + v = 0) : False := by
  have hd : 0 < d := by have := h.1; omega
  unfold P at h1 h2 h3
  have x1 : ∀ {u c : Int}, u * u < c → -u * -u < c := fun {u c} e => by grind
  have x2 : ∀ {u c : Int}, c < u * u → c < -u * -u := fun {u c} e => by grind
  have x3 : ∀ {u c : Int}, c < d * u * u → c < d * -u * -u := fun {u c} e => by grind
  have x4 : ∀ {u c : Int}, d * u * u < c → d * -u * -u < c := fun {u c} e => by grind
  rcases h1 with ⟨u1, u2, u3⟩ | ⟨u1, u2, u3⟩ | ⟨u1, u2, u3⟩ <;> rcases h2 with ⟨v1, v2, v3⟩ | ⟨v1, v2, v3⟩ | ⟨v1, v2, v3⟩ <;> rcases h3 with ⟨w1, w2, w3⟩ | ⟨w1, w2, w3⟩ | ⟨w1, w2, w3⟩ <;> (try omega)
  all_goals first
    | exact Z1 hd (x1 u3) (x4 v3) (by omega) (by omega) (by omega) (by omega)
    | exact Z1 hd (x1 v3) (x4 u3) (by omega) (by omega) (by omega) (by omega)
    | exact Z1 hd (x1 u3) (x4 w3) (by omega) (by omega) (by omega) (by omega)
    | exact Z1 hd (x1 w3) (x4 u3) (by omega) (by omega) (by omega) (by omega)
    | exact Z1 hd (x1 v3) (x4 w3) (by omega) (by omega) (by omega) (by omega)
    | exact Z1 hd (x1 w3) (x4 v3) (by omega) (by omega) (by omega) (by omega)
    | exact Z2 hd (x1 u3) (x4 v3) (x4 w3) (by omega) (by omega) (by omega) (by omega) (by omega) (by omega)
    | exact Z2 hd (x1 v3) (x4 u3) (x4 w3) (by omega) (by omega) (by omega) (by omega) (by omega) (by omega)
    | exact Z2 hd (x1 w3) (x4 u3) (x4 v3) (by omega) (by omega) (by omega) (by omega) (by omega) (by omega)
    | exact Z3 hd (x4 u3) (x1 v3) (x1 w3) (by omega) (by omega) (by omega) (by omega) (by omega) (by omega)
    | exact Z3 hd (x4 v3) (x1 u3) (x1 w3) (by omega) (by omega) (by omega) (by omega) (by omega) (by omega)
    | exact Z3 hd (x4 w3) (x1 u3) (x1 v3) (by omega) (by omega) (by omega) (by omega) (by omega) (by omega)
theorem O0 {d a b p q : Int} (h : aw d) (h1 : P d a b) (h2 : P d p q) : P d (a + p) (b + q) := by
  rcases O9 (a := a + p) (b := b + q) h with ⟨e1, e2⟩ | e | e
  · have ea : p = -a := by omega
    have eb : q = -b := by omega
    subst ea eb
    have s1 := (jk h).mpr h1
    have s2 := (jk h).mpr h2
    rw [A2 h, s1] at s2
    omega
  · exact e
  · exact (OF h h1 h2 e (by omega) (by omega)).elim
theorem BQ {d a b p q : Int} (h : aw d) : sg d (a * p + d * b * q) (a * q + b * p) = sg d a b * sg d p q := by
  by_cases h1 : a = 0 ∧ b = 0
  · obtain ⟨rfl, rfl⟩ := h1
    have e : sg d (0 : Int) 0 = 0 := eW.mpr ⟨rfl, rfl⟩
    rw [e]; simp [eW]
  by_cases h2 : p = 0 ∧ q = 0
  · obtain ⟨rfl, rfl⟩ := h2
    have e : sg d (0 : Int) 0 = 0 := eW.mpr ⟨rfl, rfl⟩
    rw [e]; simp [eW]
  have k := OP h h1 h2
  have h3 : ¬ (a * p + d * b * q = 0 ∧ a * q + b * p = 0) := fun ⟨e1, e2⟩ => by
    have id1 : (a * p + d * b * q) * (a * p + d * b * q) - d * (a * q + b * p) * (a * q + b * p) = (a * a - d * b * b) * (p * p - d * q * q) := by grind
    rw [e1, e2] at id1
    simp only [Int.mul_zero, Int.sub_self] at id1
    rcases Int.mul_eq_zero.mp id1.symm with z | z
    · exact h1 (h.Ez (by omega))
    · exact h2 (h.Ez (by omega))
  rw [← jk h, ← jk h, ← jk h] at k
  have t1 := lJ d a b
  have t2 := lJ d p q
  have t3 := lJ d (a * p + d * b * q) (a * q + b * p)
  have z1 : sg d a b ≠ 0 := fun z => h1 (eW.mp z)
  have z2 : sg d p q ≠ 0 := fun z => h2 (eW.mp z)
  have z3 : sg d (a * p + d * b * q) (a * q + b * p) ≠ 0 := fun z => h3 (eW.mp z)
  rcases t1 with e | e | e <;> rcases t2 with f | f | f <;> rcases t3 with g | g | g <;> simp_all
theorem mB {d a b k : Int} (h : aw d) (hk : 0 < k) : sg d (k * a) (k * b) = sg d a b := by
  have e := BQ (a := k) (b := 0) (p := a) (q := b) h
  have e1 : sg d k 0 = 1 := by unfold sg; rw [if_neg (by omega), if_pos (by omega)]
  rw [e1] at e
  simpa using e
end NM
set_option linter.all false
set_option maxRecDepth 100000
set_option maxHeartbeats 4000000
namespace NM
structure Rep (x : N3) (A B C : Int) : Prop where
  c : C ≠ 0
  a : x.a * C = A * x.c
  b : x.b * C = B * x.c
section
variable {x y : N3} {A B C A' B' C' d : Int}
theorem av (h : Ok x) : Rep x x.a x.b x.c := ⟨h.cn, rfl, rfl⟩
theorem hZ {a b c : Int} (h : c ≠ 0) : Rep (low a b c) a b c := by
  obtain ⟨k, hk, _, p1, p2, p3, _⟩ := i8 a b h
  generalize low a b c = z at *
  exact ⟨h, by grind, by grind⟩
theorem Rep.eq (ox : Ok x) (oy : Ok y) (h : Rep x A B C) (g : Rep y A' B' C') (e1 : A * C' = A' * C) (e2 : B * C' = B' * C) : x = y := by
  have hc : C * C' ≠ 0 := Int.mul_ne_zero h.c g.c
  obtain ⟨_, h1, h2⟩ := h
  obtain ⟨_, g1, g2⟩ := g
  exact ox.same oy (Int.eq_of_mul_eq_mul_right hc (by grind)) (Int.eq_of_mul_eq_mul_right hc (by grind))
theorem Rep.bR (h : Rep x A B C) : Rep (bR x) A (-B) C := ⟨h.c, h.a, by show -x.b * C = -B * x.c; have := h.b; grind⟩
theorem Rep.minus (h : Rep x A B C) : Rep (minus x) (-A) (-B) C := ⟨h.c, by show -x.a * C = -A * x.c; have := h.a; grind, by show -x.b * C = -B * x.c; have := h.b; grind⟩
theorem Rep.plus (ox : Ok x) (oy : Ok y) (h : Rep x A B C) (g : Rep y A' B' C') : Rep (plus x y) (A * C' + A' * C) (B * C' + B' * C) (C * C') := by
  have hc := rY ox oy
  obtain ⟨_, q1, q2⟩ := hZ (a := x.a * y.c + y.a * x.c) (b := x.b * y.c + y.b * x.c) hc
  obtain ⟨hc1, h1, h2⟩ := h
  obtain ⟨hc2, g1, g2⟩ := g
  change (NM.plus x y).a * (x.c * y.c) = _ * (NM.plus x y).c at q1
  change (NM.plus x y).b * (x.c * y.c) = _ * (NM.plus x y).c at q2
  generalize NM.plus x y = z at *
  exact ⟨Int.mul_ne_zero hc1 hc2, Int.eq_of_mul_eq_mul_right hc (by grind), Int.eq_of_mul_eq_mul_right hc (by grind)⟩
theorem Rep.less (ox : Ok x) (oy : Ok y) (h : Rep x A B C) (g : Rep y A' B' C') : Rep (less x y) (A * C' - A' * C) (B * C' - B' * C) (C * C') := by
  have hc := rY ox oy
  obtain ⟨_, q1, q2⟩ := hZ (a := x.a * y.c - y.a * x.c) (b := x.b * y.c - y.b * x.c) hc
  obtain ⟨hc1, h1, h2⟩ := h
  obtain ⟨hc2, g1, g2⟩ := g
  change (NM.less x y).a * (x.c * y.c) = _ * (NM.less x y).c at q1
  change (NM.less x y).b * (x.c * y.c) = _ * (NM.less x y).c at q2
  generalize NM.less x y = z at *
  exact ⟨Int.mul_ne_zero hc1 hc2, Int.eq_of_mul_eq_mul_right hc (by grind), Int.eq_of_mul_eq_mul_right hc (by grind)⟩
theorem Rep.times (ox : Ok x) (oy : Ok y) (h : Rep x A B C) (g : Rep y A' B' C') : Rep (times d x y) (A * A' + d * B * B') (A * B' + B * A') (C * C') := by
  have hc := rY ox oy
  obtain ⟨_, q1, q2⟩ := hZ (a := x.a * y.a + d * x.b * y.b) (b := x.a * y.b + x.b * y.a) hc
  obtain ⟨hc1, h1, h2⟩ := h
  obtain ⟨hc2, g1, g2⟩ := g
  change (NM.times d x y).a * (x.c * y.c) = _ * (NM.times d x y).c at q1
  change (NM.times d x y).b * (x.c * y.c) = _ * (NM.times d x y).c at q2
  generalize NM.times d x y = z at *
  exact ⟨Int.mul_ne_zero hc1 hc2, Int.eq_of_mul_eq_mul_right hc (by grind), Int.eq_of_mul_eq_mul_right hc (by grind)⟩
theorem Rep.norm (h : Rep x A B C) : NM.norm d x * (C * C) = (A * A - d * B * B) * (x.c * x.c) := by
  obtain ⟨_, h1, h2⟩ := h
  unfold NM.norm
  have e1 : x.a * x.a * (C * C) = A * A * (x.c * x.c) := by
    have : (x.a * C) * (x.a * C) = (A * x.c) * (A * x.c) := by rw [h1]
    grind
  have e2 : x.b * x.b * (C * C) = B * B * (x.c * x.c) := by
    have : (x.b * C) * (x.b * C) = (B * x.c) * (B * x.c) := by rw [h2]
    grind
  grind
theorem Rep.ar (ox : Ok x) (hn : NM.norm d x ≠ 0) (h : Rep x A B C) : Rep (ar d x) (C * A) (-C * B) (A * A - d * B * B) := by
  have hN := h.norm (d := d)
  have hcc : x.c * x.c ≠ 0 := Int.mul_ne_zero ox.cn ox.cn
  have hN0 : A * A - d * B * B ≠ 0 := fun z => by
    rw [z, Int.zero_mul] at hN
    rcases Int.mul_eq_zero.mp hN with w | w
    · exact hn w
    · rcases Int.mul_eq_zero.mp w with w | w <;> exact h.c w
  obtain ⟨_, q1, q2⟩ := hZ (a := x.c * x.a) (b := -x.c * x.b) hn
  change (NM.ar d x).a * NM.norm d x = _ * (NM.ar d x).c at q1
  change (NM.ar d x).b * NM.norm d x = _ * (NM.ar d x).c at q2
  obtain ⟨hc1, h1, h2⟩ := h
  generalize NM.ar d x = z at *
  generalize NM.norm d x = n at *
  generalize A * A - d * B * B = m at *
  refine ⟨hN0, ?_, ?_⟩
  · have e : z.a * m * (x.c * x.c) = C * A * z.c * (x.c * x.c) := by grind
    exact Int.eq_of_mul_eq_mul_right hcc e
  · have e : z.b * m * (x.c * x.c) = -C * B * z.c * (x.c * x.c) := by grind
    exact Int.eq_of_mul_eq_mul_right hcc e
theorem Rep.sg (hd : aw d) (ox : Ok x) (h : Rep x A B C) (hC : 0 < C) : sg d x.a x.b = NM.sg d A B := by
  have e1 := mB (a := x.a) (b := x.b) hd hC
  have e2 := mB (a := A) (b := B) hd ox.c
  rw [show C * x.a = x.c * A by have := h.a; grind, show C * x.b = x.c * B by have := h.b; grind] at e1
  rw [← e1, e2]
end
end NM
set_option linter.all false
set_option maxRecDepth 100000
set_option maxHeartbeats 4000000
namespace NM
def lean (d : Int) (x : N3) : N3 := times d (bR x) (ar d x)
def aO (d : Int) (x : N3) : N3 := times d (times d (plus x (bR x)) (plus x (bR x))) (ar d (times d x (bR x)))
section
variable {d : Int} {x y z : N3}
theorem Rep.div {A B C k : Int} (hk : k ≠ 0) (h : Rep x (k * A) (k * B) (k * C)) : Rep x A B C := by
  obtain ⟨c, e1, e2⟩ := h
  exact ⟨fun z => c (by rw [z, Int.mul_zero]), Int.eq_of_mul_eq_mul_left hk (by grind), Int.eq_of_mul_eq_mul_left hk (by grind)⟩
theorem BL {a b c : Int} (h : aw d) (hc : 0 < c) : sg d (low a b c).a (low a b c).b = sg d a b := (hZ (show c ≠ 0 by omega)).sg h (fX _ _ (by omega)) hc
theorem cT (h : aw d) (ox : Ok x) (oy : Ok y) : sg d (times d x y).a (times d x y).b = sg d x.a x.b * sg d y.a y.b := by
  unfold times
  rw [BL h (Int.mul_pos ox.c oy.c), BQ h]
theorem GN : sg d one.a one.b = 1 := by
  unfold one sg
  rw [if_neg (by simp), if_pos (by simp)]
theorem aN (h : aw d) (ox : Ok x) (hx : sg d x.a x.b = 1) : norm d x ≠ 0 := h.norm ox (fun e => by subst e; have : sg d ay.a ay.b = 0 := eW.mpr ⟨rfl, rfl⟩; omega)
theorem pM (ox : Ok x) (hn : norm d x ≠ 0) : times d x (ar d x) = one := by
  have oc := aE hn
  exact ((av ox).times ox oc ((av ox).ar ox hn)).eq (aB ox oc) Km (av Km) (by simp only [one]; grind) (by simp only [one]; grind)
theorem dW (h : aw d) (ox : Ok x) (hx : sg d x.a x.b = 1) : sg d (ar d x).a (ar d x).b = 1 := by
  have hn := aN h ox hx
  have e := cT h ox (aE hn)
  rw [pM ox hn, GN, hx] at e
  omega
theorem zx : norm d (bR y) = norm d y := by unfold norm bR; grind
theorem lU (h : aw d) (ox : Ok x) (hn : norm d x ≠ 0) : norm d (times d x (bR x)) ≠ 0 := by
  refine h.norm (aB ox (aT ox)) (fun e => ?_)
  have r := (av ox).times (d := d) ox (aT ox) (av ox).bR
  rw [e] at r
  have := r.a
  simp only [ay, Int.zero_mul, Int.mul_one] at this
  apply hn
  unfold norm
  grind
theorem dU (h : aw d) (hn : norm d x ≠ 0) (ox : Ok x) : Ok (aO d x) := by
  have op := bN ox (aT ox)
  exact aB (aB op op) (aE (lU h ox hn))
theorem AN (h : aw d) (ox : Ok x) (hx : sg d x.a x.b = 1) : sg d x.a (-x.b) = sg d (norm d x) 0 := by
  have e := BQ (a := x.a) (b := x.b) (p := x.a) (q := -x.b) h
  rw [hx, Int.one_mul] at e
  rw [← e]
  unfold norm
  congr 1 <;> grind
theorem jq {n : Int} : sg d n 0 = if n = 0 then 0 else if 0 < n then 1 else -1 := by
  unfold sg
  by_cases h : n = 0
  · simp [h]
  · rcases Int.lt_or_gt_of_ne h with z | z
    · rw [if_neg (by omega), if_neg (by omega), if_pos (by omega), if_neg h, if_neg (by omega)]
    · rw [if_neg (by omega), if_pos (by omega), if_neg h, if_pos (by omega)]
theorem G5 {n : Int} : sg d 0 n = if n = 0 then 0 else if 0 < n then 1 else -1 := by
  unfold sg
  by_cases h : n = 0
  · simp [h]
  · rcases Int.lt_or_gt_of_ne h with z | z
    · rw [if_neg (by omega), if_neg (by omega), if_pos (by omega), if_neg h, if_neg (by omega)]
    · rw [if_neg (by omega), if_pos (by omega), if_neg h, if_pos (by omega)]
def W (x y : N3) : Int := x.b * y.a - x.a * y.b
def Lp (d : Int) (x y : N3) : Int := sg d (x.a * y.c - y.a * x.c) (x.b * y.c - y.b * x.c)
theorem Rep.congr {A B C A' B' C' : Int} (h : Rep x A B C) (e1 : A = A') (e2 : B = B') (e3 : C = C') : Rep x A' B' C' := by subst e1 e2 e3; exact h
theorem Rep.neg {A B C : Int} (h : Rep x A B C) : Rep x (-A) (-B) (-C) := ⟨by have := h.c; omega, by rw [Int.mul_neg, Int.neg_mul, h.a], by rw [Int.mul_neg, Int.neg_mul, h.b]⟩
theorem lf1 (a c : Int) : a * c + a * c = c * (2 * a) := by grind
theorem lf2 (b c : Int) : b * c + -b * c = c * 0 := by grind
theorem lf3 (a b d : Int) : a * a + d * b * -b = a * a - d * b * b := by grind
theorem lf4 (a b : Int) : a * -b + b * a = 0 := by grind
theorem lf5 (a c n d : Int) : (2 * a * (2 * a) + d * 0 * 0) * (c * c * n) + d * (2 * a * 0 + 0 * (2 * a)) * (-(c * c) * 0) = c * c * n * (4 * (a * a)) := by grind
theorem lf6 (a c n d : Int) : (2 * a * (2 * a) + d * 0 * 0) * (-(c * c) * 0) + (2 * a * 0 + 0 * (2 * a)) * (c * c * n) = c * c * n * 0 := by grind
theorem lf7 (c n d : Int) : c * c * (n * n - d * 0 * 0) = c * c * n * n := by grind
structure KY (z x y : N3) : Prop where
  ex : ∃ p q C : Int, 0 < p ∧ 0 < q ∧ 0 < C ∧ Rep z (p * x.a + q * y.a) (p * x.b + q * y.b) C
theorem Ig (ox : Ok x) (oy : Ok y) : KY (plus x y) x y :=
  ⟨y.c, x.c, x.c * y.c, oy.c, ox.c, Int.mul_pos ox.c oy.c, by
    have r := (av ox).plus ox oy (av oy)
    exact ⟨r.c, by have := r.a; grind, by have := r.b; grind⟩⟩
theorem KY.pos (hd : aw d) (oz : Ok z) (h : KY z x y) (hx : sg d x.a x.b = 1) (hy : sg d y.a y.b = 1) : sg d z.a z.b = 1 := by
  obtain ⟨p, q, C, hp, hq, hC, r⟩ := h.ex
  rw [r.sg hd oz hC, jk hd]
  refine O0 hd ?_ ?_
  · rw [← jk hd, mB hd hp]; exact hx
  · rw [← jk hd, mB hd hq]; exact hy
theorem my (hd : aw d) (ox : Ok x) (hn : norm d x ≠ 0) : Rep (aO d x) (4 * (x.a * x.a)) 0 (norm d x) := by
  have op := bN ox (aT ox)
  have ot := aB (d := d) ox (aT ox)
  have np := lU hd ox hn
  have r1 := (av ox).plus ox (aT ox) (av ox).bR
  have r1' : Rep (plus x (bR x)) (2 * x.a) 0 x.c := Rep.div (k := x.c) ox.cn (r1.congr (lf1 ..) (lf2 ..) rfl)
  have r2 := (av ox).times (d := d) ox (aT ox) (av ox).bR
  have r2' : Rep (times d x (bR x)) (norm d x) 0 (x.c * x.c) := r2.congr (lf3 ..) (lf4 ..) rfl
  have r3 := (r1'.times (d := d) op op r1').times (d := d) (aB op op) (aE np) (r2'.ar ot np)
  have hk : x.c * x.c * norm d x ≠ 0 := Int.mul_ne_zero (rY ox ox) hn
  exact Rep.div hk (r3.congr (lf5 ..) (lf6 ..) (lf7 ..))
end
end NM
set_option Elab.async false
set_option linter.all false
set_option maxRecDepth 100000
set_option maxHeartbeats 4000000
namespace L2.DL
open PySem PySem.Spec PyProof.Rows
abbrev Mu := Addr → Option (List PyData)
abbrev PQ := PySem.W.Frag → V → Mu → Hp → Prop
inductive D where
  | v (x : PyData)
  | m (a : Addr)
  | s (ns : List Int)
  /-- an object that is handed on -/
  | o (a : Addr)
  /-- a thing of which something is known that stays -/
  | q (P : PQ)
abbrev Rho := List (Option D)
def aV (μ : Mu) (a : Addr) (ds : List PyData) : Mu := fun b => if b = a then some ds else μ b
theorem bB {μ : Mu} {a : Addr} {ds} : aV μ a ds a = some ds := by unfold aV; rw [if_pos rfl]
theorem bL {μ : Mu} {a b : Addr} {ds} (h : b ≠ a) : aV μ a ds b = μ b := by unfold aV; rw [if_neg h]
theorem uI {μ : Mu} {a : Addr} {ds es} : aV (aV μ a ds) a es = aV μ a es := by
  funext b; unfold aV; split <;> rfl
mutual
inductive Rp (K : PySem.W.Frag) (μ : Mu) (H : Hp) : PyData → V → Prop
  | none : Rp K μ H .none .non
  | bool (b : Bool) : Rp K μ H (.bool b) (.bl b)
  | int (i : Int) : Rp K μ H (.int i) (.int i)
  | str (x : Str) : Rp K μ H (.str x) (.str x)
  | list {a : Addr} {xs : List V} {ds : List PyData} : H a = some (.lst xs) → μ a = Option.none → RpL K μ H ds xs → Rp K μ H (.list ds) (.ref a)
  | tuple {a : Addr} {xs : List V} {ds : List PyData} : SqT K H a xs → RpL K μ H ds xs → Rp K μ H (.tuple ds) (.ref a)
inductive RpL (K : PySem.W.Frag) (μ : Mu) (H : Hp) : List PyData → List V → Prop
  | nil : RpL K μ H [] []
  | cons {d : PyData} {v : V} {ds : List PyData} {vs : List V} : Rp K μ H d v → RpL K μ H ds vs → RpL K μ H (d :: ds) (v :: vs)
end
def NT : HO → Prop
  | .tbl _ => False
  | _ => True
structure Ext (K : PySem.W.Frag) (μ : Mu) (H : Hp) (μ' : Mu) (H' : Hp) : Prop where
  keep : ∀ b o, H b = some o → μ b = none → NT o → H' b = some o
  tb : ∀ b ps, H b = some (.tbl ps) → μ b = none → ∃ ps', H' b = some (.tbl ps')
  dom : ∀ b ds, μ b = some ds → ∃ es, μ' b = some es
  fresh : ∀ b, μ b = none → (H b ≠ none ∨ K.lookup b ≠ none) → μ' b = none
def RpD (K : PySem.W.Frag) (μ : Mu) (H : Hp) : D → V → Prop
  | .v x, u => Rp K μ H x u
  | .m a, u => u = .ref a ∧ ∃ ds, μ a = some ds
  | .s ns, u => ∃ a, u = .ref a ∧ SqL K H a (ns.map V.int) ∧ μ a = none
  | .o a, u => u = .ref a
  | .q P, u => ∀ μ' H', Ext K μ H μ' H' → P K u μ' H'
def codeAt (c : Addr) (q : Str) (h : Heap) : Prop := ∃ o vs t, h.get? c = some o ∧ o.data = .fields vs ∧ vs[1]? = some (.str q t)
abbrev LK (q : Str) : Str := (q ++ ".<locals>.") ++ "<lambda>"
def Qx (H : Hp) (P : Addr) (q : Str) : Prop := ∃ ps : Array Value, H P = some (.tbl ps) ∧ TriplesOk ps.toList ∧ ∀ pos cv, codeAmong pos ps.toList = some cv → ∃ c, cv = .ref c ∧ H c = some (.ext (codeAt c (LK q)))
def CO (K : PySem.W.Frag) (H : Hp) : Prop := ∀ c o P q, K.lookup c = some o → ec o = some (P, q) → Qx H P q
structure dZ (K : PySem.W.Frag) (μ : Mu) (H : Hp) : Prop where
  lst : ∀ a ds, μ a = some ds → ∃ xs, H a = some (.lst xs) ∧ RpL K μ H ds xs
  tab : CO K H
instance {K : PySem.W.Frag} {μ : Mu} {H : Hp} : CoeFun (dZ K μ H) fun _ => ∀ a ds, μ a = some ds → ∃ xs, H a = some (.lst xs) ∧ RpL K μ H ds xs := ⟨dZ.lst⟩
theorem CO.of {K : PySem.W.Frag} {H H1 : Hp} (t : CO K H) (s : ∀ b o, H b = some o → (∀ xs, o ≠ .lst xs) → H1 b = some o) : CO K H1 := fun c o P q h1 h2 => by
  obtain ⟨ps, a1, a2, a3⟩ := t c o P q h1 h2
  exact ⟨ps, s _ _ a1 (fun _ z => nomatch z), a2, fun pos cv e => let ⟨c, q1, q2⟩ := a3 pos cv e; ⟨c, q1, s _ _ q2 (fun _ z => nomatch z)⟩⟩
def jx (K : PySem.W.Frag) (μ : Mu) (H : Hp) (ρ : Rho) (σ : St) : Prop :=
  ρ.length = σ.length ∧ ∀ (i : Nat) (d : D), ρ[i]? = some (some d) → ∃ u, σ[i]? = some (some u) ∧ RpD K μ H d u
structure St0 (K : PySem.W.Frag) (H : Hp) (ρ : Rho) (μ : Mu) (σ : St) : Prop where
  mu : dZ K μ H
  rho : jx K μ H ρ σ
section
variable {K : PySem.W.Frag} {μ μ1 μ2 : Mu} {H H1 H2 : Hp}
theorem Ext.refl : Ext K μ H μ H := ⟨fun _ _ h _ _ => h, fun _ ps h _ => ⟨ps, h⟩, fun _ ds h => ⟨ds, h⟩, fun _ h _ => h⟩
theorem Ext.trans (a : Ext K μ H μ1 H1) (b : Ext K μ1 H1 μ2 H2) : Ext K μ H μ2 H2 where
  keep := fun c o h n t => b.keep c o (a.keep c o h n t) (a.fresh c n (.inl (by rw [h]; exact fun z => nomatch z))) t
  tb := fun c ps h n => by
    obtain ⟨ps1, h1⟩ := a.tb c ps h n
    exact b.tb c ps1 h1 (a.fresh c n (.inl (by rw [h]; exact fun z => nomatch z)))
  dom := fun c ds h => let ⟨es, q⟩ := a.dom c ds h; b.dom c es q
  fresh := fun c n h => by
    refine b.fresh c (a.fresh c n h) ?_
    rcases h with h | h
    · cases q : H c with
      | none => exact absurd q h
      | some o =>
        by_cases t : NT o
        · exact .inl (by rw [a.keep c o q n t]; exact fun z => nomatch z)
        · cases o with
          | tbl ps =>
            obtain ⟨ps1, h1⟩ := a.tb c ps q n
            exact .inl (by rw [h1]; exact fun z => nomatch z)
          | _ => exact absurd trivial t
    · exact .inr h
theorem Ext.of_same (s : rZ H H1) : Ext K μ H μ H1 := ⟨fun b o h _ _ => s b o h, fun b ps h _ => ⟨ps, s b _ h⟩, fun _ ds h => ⟨ds, h⟩, fun _ h _ => h⟩
theorem dZ.not {a : Addr} {o : HO} (ok : dZ K μ H) (h : H a = some o) (n : ∀ xs, o ≠ .lst xs) : μ a = none := by
  cases q : μ a with
  | none => rfl
  | some ds =>
    obtain ⟨ys, e, _⟩ := ok a ds q
    rw [h] at e
    exact absurd (Option.some.inj e) (n ys)
theorem dZ.free {a : Addr} (ok : dZ K μ H) (h : H a = none) : μ a = none := by
  cases q : μ a with
  | none => rfl
  | some ds =>
    obtain ⟨ys, e, _⟩ := ok a ds q
    rw [h] at e; cases e
theorem A9 {a : Addr} {xs : List V} (ok : dZ K μ H) (e : Ext K μ H μ1 H1) (h : SqT K H a xs) : SqT K H1 a xs := by
  rcases h with (h | ⟨o, h⟩) | h
  · exact .inl (.inl (e.keep _ _ h (ok.not h fun _ z => nomatch z) trivial))
  · exact .inl (.inr ⟨o, e.keep _ _ h (ok.not h fun _ z => nomatch z) trivial⟩)
  · exact .inr h
theorem GG {a : Addr} {xs : List V} (e : Ext K μ H μ1 H1) (h : SqL K H a xs) (n : μ a = none) : SqL K H1 a xs ∧ μ1 a = none := by
  rcases h with (h | ⟨o, h⟩) | h
  · exact ⟨.inl (.inl (e.keep _ _ h n trivial)), e.fresh _ n (.inl (by rw [h]; exact fun z => nomatch z))⟩
  · exact ⟨.inl (.inr ⟨o, e.keep _ _ h n trivial⟩), e.fresh _ n (.inl (by rw [h]; exact fun z => nomatch z))⟩
  · obtain ⟨o, its, k, hk, r⟩ := id h
    exact ⟨.inr h, e.fresh _ n (.inr (by rw [hk]; exact fun z => nomatch z))⟩
mutual
theorem Rp.ext {d : PyData} {u : V} (ok : dZ K μ H) (e : Ext K μ H μ1 H1) : Rp K μ H d u → Rp K μ1 H1 d u
  | .none => .none
  | .bool b => .bool b
  | .int i => .int i
  | .str x => .str x
  | .list h n r => .list (e.keep _ _ h n trivial) (e.fresh _ n (.inl (by rw [h]; exact fun z => nomatch z))) (RpL.ext ok e r)
  | .tuple h r => .tuple (A9 ok e h) (RpL.ext ok e r)
theorem RpL.ext {ds : List PyData} {us : List V} (ok : dZ K μ H) (e : Ext K μ H μ1 H1) : RpL K μ H ds us → RpL K μ1 H1 ds us
  | .nil => .nil
  | .cons h r => .cons (Rp.ext ok e h) (RpL.ext ok e r)
end
theorem RpD.ext {d : D} {u : V} (ok : dZ K μ H) (e : Ext K μ H μ1 H1) (r : RpD K μ H d u) : RpD K μ1 H1 d u := by
  cases d with
  | v x => exact Rp.ext ok e r
  | m a => obtain ⟨h, ds, q⟩ := r; exact ⟨h, e.dom a ds q⟩
  | s ns => obtain ⟨a, h, q, n⟩ := r; exact ⟨a, h, (GG e q n).1, (GG e q n).2⟩
  | o a => exact r
  | q P => exact fun μ' H' e' => r μ' H' (e.trans e')
theorem jx.ext {ρ : Rho} {σ : St} (ok : dZ K μ H) (e : Ext K μ H μ1 H1) (r : jx K μ H ρ σ) : jx K μ1 H1 ρ σ :=
  ⟨r.1, fun i d h => let ⟨u, h1, h2⟩ := r.2 i d h; ⟨u, h1, h2.ext ok e⟩⟩
theorem RpL.length {ds : List PyData} {us : List V} : RpL K μ H ds us → ds.length = us.length
  | .nil => rfl
  | .cons _ r => congrArg (· + 1) (RpL.length r)
theorem RpL.get {ds : List PyData} {us : List V} : ∀ {i : Nat} {d : PyData}, RpL K μ H ds us → ds[i]? = some d → ∃ u, us[i]? = some u ∧ Rp K μ H d u
  | _, _, .nil, h => by simp at h
  | 0, _, .cons r _, h => by simp at h; subst h; exact ⟨_, rfl, r⟩
  | i + 1, d, .cons _ t, h => by
    obtain ⟨u, h1, h2⟩ := RpL.get (i := i) (d := d) t (by simpa using h)
    exact ⟨u, by simpa using h1, h2⟩
theorem RpL.append {ds es : List PyData} {us ws : List V} : RpL K μ H ds us → RpL K μ H es ws → RpL K μ H (ds ++ es) (us ++ ws)
  | .nil, s => s
  | .cons r t, s => .cons r (RpL.append t s)
theorem RpL.take {ds : List PyData} {us : List V} : ∀ (n : Nat), RpL K μ H ds us → RpL K μ H (ds.take n) (us.take n)
  | 0, _ => by simp; exact .nil
  | _ + 1, .nil => by simp; exact .nil
  | n + 1, .cons r t => .cons r (RpL.take n t)
theorem RpL.drop {ds : List PyData} {us : List V} : ∀ (n : Nat), RpL K μ H ds us → RpL K μ H (ds.drop n) (us.drop n)
  | 0, r => r
  | _ + 1, .nil => by simp; exact .nil
  | n + 1, .cons _ t => RpL.drop n t
theorem RpL.reverse {ds : List PyData} {us : List V} : RpL K μ H ds us → RpL K μ H ds.reverse us.reverse
  | .nil => .nil
  | .cons r t => by rw [List.reverse_cons, List.reverse_cons]; exact (RpL.reverse t).append (.cons r .nil)
theorem RpL.set {ds : List PyData} {us : List V} {d : PyData} {u : V} (q : Rp K μ H d u) : ∀ (i : Nat), RpL K μ H ds us → RpL K μ H (ds.set i d) (us.set i u)
  | _, .nil => .nil
  | 0, .cons _ t => .cons q t
  | i + 1, .cons r t => .cons r (RpL.set q i t)
theorem Ga {ds : List PyData} {us : List V} {i : Int} {d : PyData} (r : RpL K μ H ds us) (h : atI ds i = some d) : ∃ u, atI us i = some u ∧ Rp K μ H d u := by
  unfold atI at h ⊢
  rw [← r.length]
  cases q : ixN ds.length i with
  | none => rw [q] at h; cases h
  | some j =>
    rw [q] at h
    exact r.get h
abbrev DK := D → Mu → Prop
abbrev DTE := Rho → Mu → DK → Prop
abbrev DTT := Rho → Mu → (Bool → Mu → Prop) → Prop
abbrev DTA := Rho → Mu → (List D → Mu → Prop) → Prop
structure G0 where
  nx : Rho → Mu → Prop
  rt : DK
  bk : Rho → Mu → Prop := fun _ _ => False
  ct : Rho → Mu → Prop := fun _ _ => False
abbrev DTS := G0 → Rho → Mu → Prop
inductive lB (K : PySem.W.Frag) (μ : Mu) (H : Hp) : List D → List V → Prop
  | nil : lB K μ H [] []
  | cons {d : D} {u : V} {ds : List D} {us : List V} : RpD K μ H d u → lB K μ H ds us → lB K μ H (d :: ds) (u :: us)
theorem lB.ext {ds : List D} {us : List V} (ok : dZ K μ H) (e : Ext K μ H μ1 H1) : lB K μ H ds us → lB K μ1 H1 ds us
  | .nil => .nil
  | .cons h r => .cons (h.ext ok e) (lB.ext ok e r)
theorem lB.length {ds : List D} {us : List V} : lB K μ H ds us → ds.length = us.length
  | .nil => rfl
  | .cons _ r => congrArg (· + 1) (lB.length r)
end
def tX (K : PySem.W.Frag) (t : TE) (td : DTE) : Prop := ∀ (σ : St) (H : Hp) (ρ : Rho) (μ : Mu) (Qd : DK) (Q : VK), St0 K H ρ μ σ → td ρ μ Qd →
  (∀ d u μ' H', Ext K μ H μ' H' → St0 K H' ρ μ' σ → RpD K μ' H' d u → Qd d μ' → Q u H') → t σ H Q
def Kl (K : PySem.W.Frag) (t : TT) (td : DTT) : Prop := ∀ (σ : St) (H : Hp) (ρ : Rho) (μ : Mu) (Qd : Bool → Mu → Prop) (Q : Bool → Hp → Prop), St0 K H ρ μ σ → td ρ μ Qd →
  (∀ b μ' H', Ext K μ H μ' H' → St0 K H' ρ μ' σ → Qd b μ' → Q b H') → t σ H Q
def Mq (K : PySem.W.Frag) (n : Nat) (t : TA) (td : DTA) : Prop := ∀ (σ : St) (H : Hp) (ρ : Rho) (μ : Mu) (Qd : List D → Mu → Prop) (Q : List V → Hp → Prop), St0 K H ρ μ σ → td ρ μ Qd →
  (∀ ds us μ' H', Ext K μ H μ' H' → St0 K H' ρ μ' σ → lB K μ' H' ds us → ds.length = n → Qd ds μ' → Q us H') → t σ H Q
def zJ (K : PySem.W.Frag) (t : TS) (td : DTS) : Prop := ∀ (σ : St) (H : Hp) (ρ : Rho) (μ : Mu) (Dd : G0) (De : Ends), St0 K H ρ μ σ → td Dd ρ μ →
  (∀ σ' ρ' μ' H', Ext K μ H μ' H' → St0 K H' ρ' μ' σ' → Dd.nx ρ' μ' → De.nx σ' H') →
  (∀ d u μ' H', Ext K μ H μ' H' → dZ K μ' H' → RpD K μ' H' d u → Dd.rt d μ' → De.rt u H') →
  (∀ σ' ρ' μ' H', Ext K μ H μ' H' → St0 K H' ρ' μ' σ' → Dd.bk ρ' μ' → De.bk σ' H') →
  (∀ σ' ρ' μ' H', Ext K μ H μ' H' → St0 K H' ρ' μ' σ' → Dd.ct ρ' μ' → De.ct σ' H') → t De σ H
def DE (X : Cx) (e : Expr) (td : DTE) : Prop := ∃ t, PE X e t ∧ tX X.K t td
def DT (X : Cx) (e : Expr) (td : DTT) : Prop := ∃ t, PT X e t ∧ Kl X.K t td
def DA (X : Cx) (es : List Expr) (td : DTA) : Prop := ∃ t, PA X es t ∧ Mq X.K es.length t td
def DS (X : Cx) (st : Stmt) (td : DTS) : Prop := ∃ t, PS X st t ∧ zJ X.K t td
def DSs (X : Cx) (st : List Stmt) (td : DTS) : Prop := ∃ t, PSs X st t ∧ zJ X.K t td
section
variable {X : Cx} {a b c : Expr} {ta tb tc : DTE} {pos : Pos}
def af (i : Nat) : DTE := fun ρ μ Q => match ρ[i]? with
  | some (some d) => Q d μ
  | _ => False
def dC (x : PyData) : DTE := fun _ μ Q => Q (.v x) μ
theorem JZ {K : PySem.W.Frag} (i : Nat) : tX K (Mz i) (af i) := by
  intro σ H ρ μ Qd Q S h k
  unfold af at h
  split at h
  · rename_i d e
    obtain ⟨u, h1, h2⟩ := S.rho.2 i d e
    exact ⟨u, h1, k d u μ H .refl S h2 h⟩
  · exact h.elim
theorem dv (i : Nat) {x : Str} {pos : Pos} (hN : X.N[i]? = some x := by rfl) (hv : Vis X.env.scope x := by first | exact Or.inl rfl | exact Or.inr (Or.inl rfl) | exact Or.inr (Or.inr rfl)) (hd : (x == ("__debug__" : Str)) = false := by decide)
    (hcd : (x == ("__classdict__" : Str)) = false := by decide) : DE X (.Name x pos) (af i) := ⟨_, JB hN hv hd hcd, JZ i⟩
theorem xU {K : PySem.W.Frag} {x : PyData} {u : V} (h : ∀ μ H, dZ K μ H → Rp K μ H x u) : tX K (tC u) (dC x) := fun σ H ρ μ Qd Q S q k => k (.v x) u μ H .refl S (h μ H S.mu) q
theorem ae {i j pos} : DE X (.Constant (.int i) j pos) (dC (.int i)) := ⟨_, J1, xU fun _ _ _ => .int i⟩
theorem n6 {i j pos} : DE X (.Constant (.bool i) j pos) (dC (.bool i)) := ⟨_, Ox, xU fun _ _ _ => .bool i⟩
theorem JX {j pos} : DE X (.Constant .none j pos) (dC .none) := ⟨_, MW, xU fun _ _ _ => .none⟩
theorem dz {x j pos} : DE X (.Constant (.str x) j pos) (dC (.str x)) := ⟨_, MG, xU fun _ _ _ => .str x⟩
theorem GL {x : Str} {d : PyData} {u : V} {w : Value} {pos : Pos} (hg : Gl X x) (hm : X.mg x = some w) (r : RelV u w) (h : ∀ μ H, dZ X.K μ H → Rp X.K μ H d u) (hd : (x == ("__debug__" : Str)) = false := by decide) : DE X (.Name x pos) (dC d) :=
  ⟨_, Lg hg hm r hd, xU h⟩
def mm (K : PySem.W.Frag) (rr : R2) (r : D → D → Mu → DK → Prop) : Prop := ∀ (x y : D) (ux uy : V) (H : Hp) (μ : Mu) (Qd : DK) (Q : VK), dZ K μ H → RpD K μ H x ux → RpD K μ H y uy → r x y μ Qd →
  (∀ d u μ' H', Ext K μ H μ' H' → dZ K μ' H' → RpD K μ' H' d u → Qd d μ' → Q u H') → rr ux uy H Q
def dOp (r : D → D → Mu → DK → Prop) (ta tb : DTE) : DTE := fun ρ μ Q => ta ρ μ fun x μ1 => tb ρ μ1 fun y μ2 => r x y μ2 Q
theorem wm {K : PySem.W.Frag} {rr : R2} {r} {t1 t2 : TE} (lo : mm K rr r) (la : tX K t1 ta) (lb : tX K t2 tb) : tX K (tOp rr t1 t2) (dOp r ta tb) := by
  intro σ H ρ μ Qd Q S h k
  refine la σ H ρ μ _ _ S h fun x ux μ1 H1 e1 S1 rx h1 => ?_
  refine lb σ H1 ρ μ1 _ _ S1 h1 fun y uy μ2 H2 e2 S2 ry h2 => ?_
  exact lo x y ux uy H2 μ2 _ _ S2.mu (rx.ext S1.mu e2) ry h2 fun d u μ' H' e3 ok r q => k d u μ' H' (e1.trans (e2.trans e3)) ⟨ok, S2.rho.ext S2.mu e3⟩ r q
theorem zK {op : Operator} {rr : R2} {r} (ho : OpR X (binaryOp op) rr) (lo : mm X.K rr r) (ha : DE X a ta) (hb : DE X b tb) : DE X (.BinOp a op b pos) (dOp r ta tb) := by
  obtain ⟨t1, p1, l1⟩ := ha
  obtain ⟨t2, p2, l2⟩ := hb
  exact ⟨_, OM ho p1 p2, wm lo l1 l2⟩
theorem fo {op : CmpOp} {rr : R2} {r} (ho : OpR X (compareOp op) rr) (lo : mm X.K rr r) (ha : DE X a ta) (hb : DE X b tb) (hm : behindInMarks op b = false) : DE X (.Compare a [op] [b] pos) (dOp r ta tb) := by
  obtain ⟨t1, p1, l1⟩ := ha
  obtain ⟨t2, p2, l2⟩ := hb
  exact ⟨_, KQ ho p1 p2 hm, wm lo l1 l2⟩
def dB (t : DTE) : DTT := fun ρ μ Q => t ρ μ fun d μ1 => match d with
  | .v (.bool k) => Q k μ1
  | _ => False
theorem zD {K : PySem.W.Frag} {t : TE} {td : DTE} (l : tX K t td) : Kl K (Mb t) (dB td) := by
  intro σ H ρ μ Qd Q S h k
  refine l σ H ρ μ _ _ S h fun d u μ1 H1 e1 S1 r q => ?_
  split at q
  · rename_i b
    cases r
    exact ⟨b, rfl, k b μ1 H1 e1 S1 q⟩
  · exact q.elim
theorem bA {op : CmpOp} {rr : R2} {r} (ho : OpR X (compareOp op) rr) (lo : mm X.K rr r) (ha : DE X a ta) (hb : DE X b tb) (hm : behindInMarks op b = false) : DT X (.Compare a [op] [b] pos) (dB (dOp r ta tb)) := by
  obtain ⟨t1, p1, l1⟩ := ha
  obtain ⟨t2, p2, l2⟩ := hb
  exact ⟨_, LO ho p1 p2 hm, zD (wm lo l1 l2)⟩
theorem fY {e : Expr} {td : DTE} (h : DE X e td) (he : ∀ whole, isTrue e X.env whole = (do let v ← whole; standAt e.pos; holding [v] (truthy v)) := by intro _; rfl) : DT X e (dB td) := by
  obtain ⟨t, p, l⟩ := h
  exact ⟨_, Mr p he, zD l⟩
def rII (C : Int → Int → Prop) (g : Int → Int → PyData) : D → D → Mu → DK → Prop := fun x y μ Q => match x, y with
  | .v (.int i), .v (.int j) => C i j ∧ Q (.v (g i j)) μ
  | _, _ => False
theorem LD {K : PySem.W.Frag} {C : Int → Int → Prop} {g : Int → Int → V} {gd : Int → Int → PyData} (hg : ∀ μ H i j, Rp K μ H (gd i j) (g i j)) : mm K (rI C g) (rII C gd) := by
  intro x y ux uy H μ Qd Q ok rx ry h k
  unfold rII at h
  split at h
  · rename_i i j
    cases rx; cases ry
    exact ⟨i, j, rfl, rfl, h.1, k (.v _) _ μ H .refl ok (hg μ H i j) h.2⟩
  · exact h.elim
def yD (g : Int → Int → PyData) : D → D → Mu → DK → Prop := fun x y μ Q => match x, y with
  | .v (.int i), .v (.int j) => Q (.v (g i j)) μ
  | _, _ => False
theorem Jv {K : PySem.W.Frag} {g : Int → Int → V} {gd : Int → Int → PyData} (hg : ∀ μ H i j, Rp K μ H (gd i j) (g i j)) : mm K (rI0 g) (yD gd) := by
  intro x y ux uy H μ Qd Q ok rx ry h k
  unfold yD at h
  split at h
  · rename_i i j
    cases rx; cases ry
    exact ⟨i, j, rfl, rfl, k (.v _) _ μ H .refl ok (hg μ H i j) h⟩
  · exact h.elim
abbrev jH (ta tb : DTE) : DTE := dOp (yD fun i j => .int (i + j)) ta tb
abbrev nA (ta tb : DTE) : DTE := dOp (yD fun i j => .int (i - j)) ta tb
abbrev MulOk (i j : Int) : Prop := IntMulOk i j
abbrev cg (ta tb : DTE) : DTE := dOp (rII MulOk fun i j => .int (i * j)) ta tb
abbrev uW (ta tb : DTE) : DTE := dOp (rII (fun _ j => j ≠ 0) fun i j => .int (i.fmod j)) ta tb
abbrev vx (i j : Int) : Prop := j ≠ 0 ∧ Builtin.divisionGoesByPylong i j = false
abbrev xY (ta tb : DTE) : DTE := dOp (rII vx fun i j => .int (i.fdiv j)) ta tb
abbrev wF (ta tb : DTE) : DTE := dOp (rII Hj fun i j => .int (i ^ j.toNat)) ta tb
theorem KZ : OpR X (binaryOp .Mult) (rI MulOk fun i j => .int (i * j)) := opI fun _ _ _ _ _ _ _ hc q => mul_int q hc
theorem L6 : OpR X (binaryOp .FloorDiv) (rI vx fun i j => .int (i.fdiv j)) := opI fun _ _ _ _ _ _ _ hc q => floordiv_int hc.1 q (.inl hc.2)
theorem dA (ha : DE X a ta) (hb : DE X b tb) : DE X (.BinOp a .Add b pos) (jH ta tb) := zK Oc (Jv fun _ _ _ _ => .int _) ha hb
theorem eR (ha : DE X a ta) (hb : DE X b tb) : DE X (.BinOp a .Sub b pos) (nA ta tb) := zK MS (Jv fun _ _ _ _ => .int _) ha hb
theorem aU (ha : DE X a ta) (hb : DE X b tb) : DE X (.BinOp a .Mult b pos) (cg ta tb) := zK KZ (LD fun _ _ _ _ => .int _) ha hb
theorem jm (ha : DE X a ta) (hb : DE X b tb) : DE X (.BinOp a .Mod b pos) (uW ta tb) := zK LG (LD fun _ _ _ _ => .int _) ha hb
theorem lC (ha : DE X a ta) (hb : DE X b tb) : DE X (.BinOp a .FloorDiv b pos) (xY ta tb) := zK L6 (LD fun _ _ _ _ => .int _) ha hb
theorem lA (ha : DE X a ta) (hb : DE X b tb) : DE X (.BinOp a .Pow b pos) (wF ta tb) := zK Ni (LD fun _ _ _ _ => .int _) ha hb
abbrev rLt := yD fun i j => .bool (decide (i < j))
abbrev rLe := yD fun i j => .bool (decide (i ≤ j))
abbrev rGt := yD fun i j => .bool (decide (j < i))
abbrev rGe := yD fun i j => .bool (decide (j ≤ i))
theorem fx {K : PySem.W.Frag} {p : Int → Int → Bool} : mm K (rI0 fun i j => .bl (p i j)) (yD fun i j => .bool (p i j)) := Jv fun _ _ _ _ => .bool _
def vG (ta : DTE) : DTE := fun ρ μ Q => ta ρ μ fun x μ1 => match x with
  | .v (.int i) => Q (.v (.int (-i))) μ1
  | _ => False
theorem lx (ha : DE X a ta) : DE X (.UnaryOp .USub a pos) (vG ta) := by
  obtain ⟨t1, p1, l1⟩ := ha
  refine ⟨_, Mn Iw p1, fun σ H ρ μ Qd Q S h k => ?_⟩
  refine l1 σ H ρ μ _ _ S h fun x ux μ1 H1 e1 S1 rx h1 => ?_
  split at h1
  · rename_i i
    cases rx
    exact ⟨i, rfl, k (.v _) _ μ1 H1 e1 S1 (Rp.int _) h1⟩
  · exact h1.elim
def zF (t u : DTT) : DTT := fun ρ μ Q => t ρ μ fun c μ1 => if c = true then u ρ μ1 Q else Q false μ1
def BR (t u : DTT) : DTT := fun ρ μ Q => t ρ μ fun c μ1 => if c = true then Q true μ1 else u ρ μ1 Q
def mr (t : DTT) : DTT := fun ρ μ Q => t ρ μ fun c μ1 => Q (!c) μ1
def DW (X : Cx) (e : Expr) (td : DTT) : Prop := ∃ t, PW X e t ∧ Kl X.K t td
theorem DW.dt {e : Expr} {td : DTT} (h : DW X e td) : DT X e td := let ⟨t, p, l⟩ := h; ⟨t, p.pt, l⟩
variable {tA tB' : DTT} {rest : List Expr}
theorem wq (ha : DT X a tA) : DW X (.BoolOp .And [a] pos) tA := let ⟨t, p, l⟩ := ha; ⟨t, pw_and1 p, l⟩
theorem x6 (ha : DT X a tA) : DW X (.BoolOp .Or [a] pos) tA := let ⟨t, p, l⟩ := ha; ⟨t, pw_or1 p, l⟩
theorem BW (ha : DT X a tA) (hb : DW X (.BoolOp .And (b :: rest) pos) tB') : DW X (.BoolOp .And (a :: b :: rest) pos) (zF tA tB') := by
  obtain ⟨t1, p1, l1⟩ := ha
  obtain ⟨t2, p2, l2⟩ := hb
  refine ⟨_, pw_and p1 p2, fun σ H ρ μ Qd Q S h k => ?_⟩
  refine l1 σ H ρ μ _ _ S h fun c μ1 H1 e1 S1 h1 => ?_
  cases c with
  | true =>
    refine Cm (l2 σ H1 ρ μ1 _ _ S1 (by simpa using h1) fun c μ2 H2 e2 S2 h2 => k c μ2 H2 (e1.trans e2) S2 h2)
  | false => exact Cg (k false μ1 H1 e1 S1 (by simpa using h1))
theorem x5 (ha : DT X a tA) (hb : DW X (.BoolOp .Or (b :: rest) pos) tB') : DW X (.BoolOp .Or (a :: b :: rest) pos) (BR tA tB') := by
  obtain ⟨t1, p1, l1⟩ := ha
  obtain ⟨t2, p2, l2⟩ := hb
  refine ⟨_, pw_or p1 p2, fun σ H ρ μ Qd Q S h k => ?_⟩
  refine l1 σ H ρ μ _ _ S h fun c μ1 H1 e1 S1 h1 => ?_
  cases c with
  | true => exact Cm (k true μ1 H1 e1 S1 (by simpa using h1))
  | false =>
    refine Cg (l2 σ H1 ρ μ1 _ _ S1 (by simpa using h1) fun c μ2 H2 e2 S2 h2 => k c μ2 H2 (e1.trans e2) S2 h2)
theorem kh (ha : DT X a tA) : DT X (.UnaryOp .Not a pos) (mr tA) := by
  obtain ⟨t1, p1, l1⟩ := ha
  refine ⟨_, Nc p1, fun σ H ρ μ Qd Q S h k => ?_⟩
  exact l1 σ H ρ μ _ _ S h fun c μ1 H1 e1 S1 h1 => k _ μ1 H1 e1 S1 h1
def vp (ta tb : DTE) : DTE := fun ρ μ Q => ta ρ μ fun x μ1 => match x with
  | .v (.bool c) => if c = true then tb ρ μ1 Q else Q (.v (.bool false)) μ1
  | _ => False
def Qs (ta tb : DTE) : DTE := fun ρ μ Q => ta ρ μ fun x μ1 => match x with
  | .v (.bool c) => if c = true then Q (.v (.bool true)) μ1 else tb ρ μ1 Q
  | _ => False
def Dg (ta : DTE) : DTE := fun ρ μ Q => ta ρ μ fun x μ1 => match x with
  | .v (.bool c) => Q (.v (.bool (!c))) μ1
  | _ => False
theorem uE {op} (h : DE X a ta) : DE X (.BoolOp op [a] pos) ta := let ⟨t, p, l⟩ := h; ⟨t, M4 p, l⟩
theorem uZ (ha : DE X a ta) (hb : DE X (.BoolOp .And (b :: rest) pos) tb) : DE X (.BoolOp .And (a :: b :: rest) pos) (vp ta tb) := by
  obtain ⟨t1, p1, l1⟩ := ha
  obtain ⟨t2, p2, l2⟩ := hb
  refine ⟨_, Oa p1 p2, fun σ H ρ μ Qd Q S h k => ?_⟩
  refine l1 σ H ρ μ _ _ S h fun x ux μ1 H1 e1 S1 rx h1 => ?_
  split at h1
  · rename_i c
    cases rx
    refine ⟨c, rfl, ?_⟩
    cases c with
    | true => exact Cm (l2 σ H1 ρ μ1 _ _ S1 (by simpa using h1) fun d u μ2 H2 e2 S2 r2 h2 => k d u μ2 H2 (e1.trans e2) S2 r2 h2)
    | false => exact Cg (k (.v _) _ μ1 H1 e1 S1 (Rp.bool false) (by simpa using h1))
  · exact h1.elim
theorem Fb (ha : DE X a ta) : DE X (.UnaryOp .Not a pos) (Dg ta) := by
  obtain ⟨t1, p1, l1⟩ := ha
  refine ⟨_, MQ p1, fun σ H ρ μ Qd Q S h k => ?_⟩
  refine l1 σ H ρ μ _ _ S h fun x ux μ1 H1 e1 S1 rx h1 => ?_
  split at h1
  · rename_i c
    cases rx
    exact ⟨c, rfl, k (.v _) _ μ1 H1 e1 S1 (Rp.bool _) h1⟩
  · exact h1.elim
def dIf (t : DTT) (ta tb : DTE) : DTE := fun ρ μ Q => t ρ μ fun c μ1 => if c = true then ta ρ μ1 Q else tb ρ μ1 Q
theorem qF {c : Expr} (hc : DT X c tA) (ha : DE X a ta) (hb : DE X b tb) : DE X (.IfExp c a b pos) (dIf tA ta tb) := by
  obtain ⟨t0, p0, l0⟩ := hc
  obtain ⟨t1, p1, l1⟩ := ha
  obtain ⟨t2, p2, l2⟩ := hb
  refine ⟨_, IZ p0 p1 p2, fun σ H ρ μ Qd Q S h k => ?_⟩
  refine l0 σ H ρ μ _ _ S h fun c μ1 H1 e1 S1 h1 => ?_
  cases c with
  | true => exact Cm (l1 σ H1 ρ μ1 _ _ S1 (by simpa using h1) fun d u μ2 H2 e2 S2 r2 h2 => k d u μ2 H2 (e1.trans e2) S2 r2 h2)
  | false => exact Cg (l2 σ H1 ρ μ1 _ _ S1 (by simpa using h1) fun d u μ2 H2 e2 S2 r2 h2 => k d u μ2 H2 (e1.trans e2) S2 r2 h2)
end
open PySem PySem.Spec PyProof.Rows
section
variable {K : PySem.W.Frag} {μ μ1 : Mu} {H H1 : Hp} {p : Addr}
theorem eI {o : HO} (h : H p = none) : Ext K μ H μ (upd H p o) :=
  ⟨fun b u e _ _ => by rw [cF (dw e h)]; exact e, fun b ps e _ => ⟨ps, by rw [cF (dw e h)]; exact e⟩, fun _ ds q => ⟨ds, q⟩, fun _ q _ => q⟩
theorem dZ.LN (ok : dZ K μ H) (e : Ext K μ H μ H1) (s : rZ H H1) : dZ K μ H1 := ⟨fun a ds q => by
  obtain ⟨xs, h1, h2⟩ := ok a ds q
  exact ⟨xs, s _ _ h1, h2.ext ok e⟩, ok.tab.of fun b o h _ => s b o h⟩
theorem IX {o : HO} (h : H p = none) : rZ H (upd H p o) := fun b u q => by rw [cF (dw q h)]; exact q
theorem dZ.new {o : HO} (ok : dZ K μ H) (h : H p = none) : dZ K μ (upd H p o) := ok.LN (eI h) (IX h)
theorem St0.new {o : HO} {ρ : Rho} {σ : St} (S : St0 K H ρ μ σ) (h : H p = none) : St0 K (upd H p o) ρ μ σ := ⟨S.mu.new h, S.rho.ext S.mu (eI h)⟩
theorem kc {us : List V} {ds : List PyData} (ok : dZ K μ H) (r : RpL K μ H ds us) (h : H p = none) : Rp K μ (upd H p (.tup us)) (.tuple ds) (.ref p) :=
  .tuple (SqT.of ja) (r.ext ok (eI h))
theorem kG {us : List V} {ds : List PyData} (ok : dZ K μ H) (r : RpL K μ H ds us) (h : H p = none) : Rp K μ (upd H p (.lst us)) (.list ds) (.ref p) :=
  .list ja (ok.free h) (r.ext ok (eI h))
theorem qi {o : HO} {ds : List PyData} (ok : dZ K μ H) (h : H p = none) (hk : K.lookup p = none) : Ext K μ H (aV μ p ds) (upd H p o) where
  keep := fun b u e _ _ => by rw [cF (dw e h)]; exact e
  tb := fun b ps e _ => ⟨ps, by rw [cF (dw e h)]; exact e⟩
  dom := fun b es q => by
    have : b ≠ p := fun z => by rw [z, ok.free h] at q; cases q
    exact ⟨es, by rw [bL this]; exact q⟩
  fresh := fun b n q => by
    have : b ≠ p := fun z => by
      rcases q with q | q
      · exact q (by rw [z]; exact h)
      · exact q (by rw [z]; exact hk)
    rw [bL this]; exact n
theorem dZ.mut {us : List V} {ds : List PyData} (ok : dZ K μ H) (r : RpL K μ H ds us) (h : H p = none) (hk : K.lookup p = none) : dZ K (aV μ p ds) (upd H p (.lst us)) := ⟨fun a es q => by
  have e := qi (o := .lst us) (ds := ds) ok h hk
  by_cases ha : a = p
  · subst ha
    rw [bB] at q
    cases q
    exact ⟨us, ja, r.ext ok e⟩
  · rw [bL ha] at q
    obtain ⟨xs, h1, h2⟩ := ok a es q
    exact ⟨xs, by rw [cF ha]; exact h1, h2.ext ok e⟩, ok.tab.of fun b o e _ => by rw [cF (dw e h)]; exact e⟩
theorem tP {o : HO} {ds es : List PyData} (h : μ p = some ds) : Ext K μ H (aV μ p es) (upd H p o) where
  keep := fun b u e n _ => by
    have : b ≠ p := fun z => by rw [z, h] at n; cases n
    rw [cF this]; exact e
  tb := fun b ps e n => by
    have : b ≠ p := fun z => by rw [z, h] at n; cases n
    exact ⟨ps, by rw [cF this]; exact e⟩
  dom := fun b fs q => by
    by_cases hb : b = p
    · subst hb; exact ⟨es, bB⟩
    · exact ⟨fs, by rw [bL hb]; exact q⟩
  fresh := fun b n q => by
    have : b ≠ p := fun z => by rw [z, h] at n; cases n
    rw [bL this]; exact n
theorem dZ.set {us : List V} {ds es : List PyData} (ok : dZ K μ H) (h : μ p = some ds) (r : RpL K μ H es us) : dZ K (aV μ p es) (upd H p (.lst us)) := ⟨fun a fs q => by
  have e : Ext K μ H (aV μ p es) (upd H p (.lst us)) := tP h
  by_cases ha : a = p
  · subst ha
    rw [bB] at q
    cases q
    exact ⟨us, ja, r.ext ok e⟩
  · rw [bL ha] at q
    obtain ⟨xs, h1, h2⟩ := ok a fs q
    exact ⟨xs, by rw [cF ha]; exact h1, h2.ext ok e⟩, by
  obtain ⟨ys, hy, _⟩ := ok p ds h
  exact ok.tab.of fun b o e n => by
    have : b ≠ p := fun z => by rw [z, hy] at e; exact n ys (Option.some.inj e).symm
    rw [cF this]; exact e⟩
end
def da : List D → Option (List PyData)
  | [] => some []
  | .v x :: r => (da r).map (x :: ·)
  | _ :: _ => none
theorem lB.data {K : PySem.W.Frag} {μ : Mu} {H : Hp} : ∀ {ds : List D} {us : List V} {xs : List PyData}, lB K μ H ds us → da ds = some xs → RpL K μ H xs us
  | _, _, _, .nil, e => by cases e; exact .nil
  | .v x :: r, _, xs, .cons h t, e => by
    simp only [da] at e
    cases q : da r with
    | none => rw [q] at e; cases e
    | some ys => rw [q] at e; cases e; exact .cons h (lB.data t q)
  | .m _ :: _, _, _, .cons _ _, e => by simp [da] at e
  | .s _ :: _, _, _, .cons _ _, e => by simp [da] at e
  | .o _ :: _, _, _, .cons _ _, e => by simp [da] at e
section
variable {X : Cx} {e : Expr} {es : List Expr} {te : DTE} {t : DTA} {pos : Pos}
def aj : DTA := fun _ μ Q => Q [] μ
def ab (ta : DTE) (tr : DTA) : DTA := fun ρ μ Q => ta ρ μ fun x μ1 => tr ρ μ1 fun xs μ2 => Q (x :: xs) μ2
theorem ag : DA X [] aj := ⟨_, vj, fun σ H ρ μ Qd Q S h k => k [] [] μ H .refl S .nil rfl h⟩
theorem aa (ha : DE X e te) (hr : DA X es t) (hs : starEach (e :: es) X.env = (false, eval e X.env) :: starEach es X.env := by rfl) : DA X (e :: es) (ab te t) := by
  obtain ⟨t1, p1, l1⟩ := ha
  obtain ⟨t2, p2, l2⟩ := hr
  refine ⟨_, nr p1 p2 hs, fun σ H ρ μ Qd Q S h k => ?_⟩
  refine l1 σ H ρ μ _ _ S h fun x ux μ1 H1 e1 S1 rx h1 => ?_
  refine l2 σ H1 ρ μ1 _ _ S1 h1 fun xs us μ2 H2 e2 S2 rs len h2 => ?_
  exact k (x :: xs) (ux :: us) μ2 H2 (e1.trans e2) S2 (.cons (rx.ext S1.mu e2) rs) (by rw [List.length_cons, List.length_cons, len]) h2
def cL (t : DTA) : DTE := fun ρ μ Q => t ρ μ fun ds μ1 => match da ds with
  | some xs => Q (.v (.tuple xs)) μ1
  | none => False
def oq (t : DTA) : DTE := fun ρ μ Q => t ρ μ fun ds μ1 => match da ds with
  | some xs => Q (.v (.list xs)) μ1
  | none => False
def xi (t : DTA) : DTE := fun ρ μ Q => t ρ μ fun ds μ1 => match da ds with
  | some xs => ∀ p, μ1 p = none → Q (.m p) (aV μ1 p xs)
  | none => False
theorem aZ {x1} (h : DA X es t) (hl : es.length ≤ 1000 := by decide) : DE X (.Tuple es x1 pos) (cL t) := by
  obtain ⟨t1, p1, l1⟩ := h
  refine ⟨_, MV p1, fun σ H ρ μ Qd Q S h k => ?_⟩
  refine l1 σ H ρ μ _ _ S h fun ds us μ1 H1 e1 S1 rs len h1 => ?_
  cases q : da ds with
  | none => rw [q] at h1; exact h1.elim
  | some xs =>
    rw [q] at h1
    refine ⟨Nat.le_of_lt (jY (by rw [← rs.length, len]; exact hl)), fun p hp => ?_⟩
    exact k (.v (.tuple xs)) _ μ1 _ (e1.trans (eI hp)) (S1.new hp) (kc S1.mu (rs.data q) hp) h1
theorem gg (h : DA X es t) (hl : es.length ≤ 1000 := by decide) : DE X (.List es pos) (oq t) := by
  obtain ⟨t1, p1, l1⟩ := h
  refine ⟨_, NJ p1, fun σ H ρ μ Qd Q S h k => ?_⟩
  refine l1 σ H ρ μ _ _ S h fun ds us μ1 H1 e1 S1 rs len h1 => ?_
  cases q : da ds with
  | none => rw [q] at h1; exact h1.elim
  | some xs =>
    rw [q] at h1
    refine ⟨Nat.le_of_lt (jY (by rw [← rs.length, len]; exact hl)), fun p hp => ?_⟩
    exact k (.v (.list xs)) _ μ1 _ (e1.trans (eI hp)) (S1.new hp) (kG S1.mu (rs.data q) hp) h1
def OR (K : PySem.W.Frag) (t : TA) : TE := fun σ H Q => t σ H fun xs H1 => xs.length ≤ sizeLine ∧ ∀ p, H1 p = none → K.lookup p = none → Q (.ref p) (upd H1 p (.lst xs))
theorem K6 {t : TA} (h : PA X es t) : PE X (.List es pos) (OR X.K t) := by
  intro pins s σ H Q I hq
  refine wpAny_List_spliced (thn (h pos pins s σ H _ I hq) fun us s1 ⟨xs, H1, I1, r, z, q⟩ => ⟨by rw [← r.length]; exact z, ?_⟩)
  have hf : H1 s1.heap.objs.size = none := I1.hok.fresh (Nat.le_refl _)
  have hk : X.K.lookup s1.heap.objs.size = none := by
    cases c : X.K.lookup s1.heap.objs.size with
    | none => rfl
    | some o => exact absurd (Heap.lt_size (I1.kIn _ _ c)) (Nat.lt_irrefl _)
  refine ⟨.ref s1.heap.objs.size, upd H1 s1.heap.objs.size (.lst xs), I1.laid (t' := s1.toks) (fun b u e => Heap.get?_push_of_some _ e) (Nat.le_refl _) ?_, rfl, q _ hf hk⟩
  exact ⟨z, us, 0, r, Heap.get?_push_size _ rfl⟩
theorem tI (h : DA X es t) (hl : es.length ≤ 1000 := by decide) : DE X (.List es pos) (xi t) := by
  obtain ⟨t1, p1, l1⟩ := h
  refine ⟨_, K6 p1, fun σ H ρ μ Qd Q S h k => ?_⟩
  refine l1 σ H ρ μ _ _ S h fun ds us μ1 H1 e1 S1 rs len h1 => ?_
  cases q : da ds with
  | none => rw [q] at h1; exact h1.elim
  | some xs =>
    rw [q] at h1
    refine ⟨Nat.le_of_lt (jY (by rw [← rs.length, len]; exact hl)), fun p hp hk => ?_⟩
    have ex := qi (o := .lst us) (ds := xs) S1.mu hp hk
    exact k (.m p) _ (aV μ1 p xs) _ (e1.trans ex) ⟨S1.mu.mut (rs.data q) hp hk, S1.rho.ext S1.mu ex⟩ ⟨rfl, xs, bB⟩ (h1 p (S1.mu.free hp))
end
section
variable {X : Cx} {pins : List (Addr × Obj)} {σ : St} {H : Hp} {s : Shared} {μ : Mu}
mutual
theorem hR (I : Inv X pins σ H s) : ∀ {d : PyData} {x : V} {u : Value}, Rp X.K μ H d x → RelV x u → ∃ as, Reads s.heap u d as
  | _, _, _, .none, r => by cases r; exact ⟨_, .none⟩
  | _, _, _, .bool b, r => by cases r; exact ⟨_, .bool b⟩
  | _, _, _, .int i, r => by obtain ⟨t, rfl⟩ := r; exact ⟨_, .int i t⟩
  | _, _, _, .str y, r => by obtain ⟨t, rfl⟩ := r; exact ⟨_, .str y t⟩
  | _, _, _, .list h _ q, r => by
    cases r
    obtain ⟨its, rv, ⟨o, n, ho, hc, _, hd⟩, _⟩ := I.list (SqL.of h)
    obtain ⟨as, ra⟩ := oF I q rv
    exact ⟨_, .list ho hc hd (by simpa using ra)⟩
  | _, _, _, .tuple h q, r => by
    cases r
    obtain ⟨its, rv, ⟨o, ho, hc, n, hd⟩, _⟩ := I.tuple h
    obtain ⟨as, ra⟩ := oF I q rv
    exact ⟨_, .tuple ho hc hd (by simpa using ra)⟩
theorem oF (I : Inv X pins σ H s) : ∀ {ds : List PyData} {xs : List V} {us : List Value}, RpL X.K μ H ds xs → Vals xs us → ∃ as, ReadsAll s.heap us ds as
  | _, _, _, .nil, .nil => ⟨_, .nil⟩
  | _, _, _, .cons h t, .cons r q => by
    obtain ⟨as, ra⟩ := hR I h r
    obtain ⟨bs, rb⟩ := oF I t q
    exact ⟨_, .cons ra rb⟩
end
end
section
variable {X : Cx}
def MB (K : PySem.W.Frag) (neg : Bool) : R2 := fun x y H Q => ∃ μ a b, Rp K μ H a x ∧ Rp K μ H b y ∧ SeqAt.shaped a = true ∧ SeqAt.shaped b = true ∧ Q (.bl (neg ^^ PyData.eqv a b)) H
theorem dE (hu : X.A.units + 64 < cLine) : OpR X (compareOp .Eq) (MB X.K false) := by
  intro pins s σ H x y v u Q I rx ry h
  obtain ⟨μ, a, b, ha, hb, sa, sb, q⟩ := h
  obtain ⟨as, ra⟩ := hR I ha rx
  obtain ⟨bs, rb⟩ := hR I hb ry
  exact eq_dataH ra rb sa sb hu ⟨.bl (PyData.eqv a b), H, I, rfl, by simpa using q⟩
theorem xk (hu : X.A.units + 64 < cLine) : OpR X (compareOp .NotEq) (MB X.K true) := by
  intro pins s σ H x y v u Q I rx ry h
  obtain ⟨μ, a, b, ha, hb, sa, sb, q⟩ := h
  obtain ⟨as, ra⟩ := hR I ha rx
  obtain ⟨bs, rb⟩ := hR I hb ry
  exact ne_dataH ra rb sa sb hu ⟨.bl (!PyData.eqv a b), H, I, rfl, by simpa using q⟩
def d6 (neg : Bool) : D → D → Mu → DK → Prop := fun x y μ Q => match x, y with
  | .v a, .v b => SeqAt.shaped a = true ∧ SeqAt.shaped b = true ∧ Q (.v (.bool (neg ^^ PyData.eqv a b))) μ
  | _, _ => False
theorem cI {K : PySem.W.Frag} {neg : Bool} : mm K (MB K neg) (d6 neg) := by
  intro x y ux uy H μ Qd Q ok rx ry h k
  unfold d6 at h
  split at h
  · rename_i a b
    exact ⟨μ, a, b, rx, ry, h.1, h.2.1, k (.v _) _ μ H .refl ok (Rp.bool _) h.2.2⟩
  · exact h.elim
def MN (K : PySem.W.Frag) (neg : Bool) : R2 := fun x y H Q => ∃ μ a bs, Rp K μ H a x ∧ Rp K μ H (.list bs) y ∧ PyData.canLayAll0 bs = true ∧ a.canLay0 = true ∧ PyData.depth a ≤ 60 ∧ Q (.bl (neg ^^ bs.any fun b => PyData.eqv b a)) H
theorem IH (hu : X.A.units + 64 < cLine) : OpR X (compareOp .In) (MN X.K false) := by
  intro pins s σ H x y v u Q I rx ry h
  obtain ⟨μ, a, b, ha, hb, sb, sa, dp, q⟩ := h
  obtain ⟨as, ra⟩ := hR I ha rx
  obtain ⟨bs, rb⟩ := hR I hb ry
  refine SeqAt.in_list_reads rb ra sb sa (by omega) ⟨.bl (b.any fun z => PyData.eqv z a), H, I, rfl, by simpa using q⟩
theorem HH (hu : X.A.units + 64 < cLine) : OpR X (compareOp .NotIn) (MN X.K true) := by
  intro pins s σ H x y v u Q I rx ry h
  obtain ⟨μ, a, b, ha, hb, sb, sa, dp, q⟩ := h
  obtain ⟨as, ra⟩ := hR I ha rx
  obtain ⟨bs, rb⟩ := hR I hb ry
  refine SeqAt.notIn_list_reads rb ra sb sa (by omega) ⟨.bl (!b.any fun z => PyData.eqv z a), H, I, rfl, by simpa using q⟩
def HG (neg : Bool) : D → D → Mu → DK → Prop := fun x y μ Q => match x, y with
  | .v a, .v (.list bs) => PyData.canLayAll0 bs = true ∧ a.canLay0 = true ∧ PyData.depth a ≤ 60 ∧ Q (.v (.bool (neg ^^ bs.any fun b => PyData.eqv b a))) μ
  | _, _ => False
theorem Ew {K : PySem.W.Frag} {neg : Bool} : mm K (MN K neg) (HG neg) := by
  intro x y ux uy H μ Qd Q ok rx ry h k
  unfold HG at h
  split at h
  · rename_i a b
    exact ⟨μ, a, b, rx, ry, h.1, h.2.1, h.2.2.1, k (.v _) _ μ H .refl ok (Rp.bool _) h.2.2.2⟩
  · exact h.elim
end
open PySem PySem.Spec PyProof.Rows
section
variable {X : Cx} {a b e : Expr} {es : List Expr} {ta tb te : DTE} {t : DTA} {p pos : Pos}
def aC : D → D → Mu → DK → Prop := fun x y μ Q => match x, y with
  | .v (.list xs), .v (.int i) => (match atI xs i with | some d => Q (.v d) μ | none => False)
  | .v (.tuple xs), .v (.int i) => (match atI xs i with | some d => Q (.v d) μ | none => False)
  | .m l, .v (.int i) => (match μ l with
    | some xs => (match atI xs i with | some d => Q (.v d) μ | none => False)
    | none => False)
  | .s ns, .v (.int i) => (match atI ns i with | some d => Q (.v (.int d)) μ | none => False)
  | _, _ => False
theorem O8 {K : PySem.W.Frag} : mm K (rIx K) aC := by
  intro x y ux uy H μ Qd Q ok rx ry h k
  unfold aC at h
  split at h
  · rename_i xs i
    cases ry
    cases q : atI xs i with
    | none => rw [q] at h; exact h.elim
    | some d =>
      rw [q] at h
      cases rx with
      | list hs hn r =>
        obtain ⟨u, e1, e2⟩ := Ga r q
        exact .inl ⟨_, _, i, u, rfl, rfl, SqL.of hs, e1, k (.v d) u μ H .refl ok e2 h⟩
  · rename_i xs i
    cases ry
    cases q : atI xs i with
    | none => rw [q] at h; exact h.elim
    | some d =>
      rw [q] at h
      cases rx with
      | tuple hs r =>
        obtain ⟨u, e1, e2⟩ := Ga r q
        exact .inr (.inl ⟨_, _, i, u, rfl, rfl, hs, e1, k (.v d) u μ H .refl ok e2 h⟩)
  · rename_i l i
    cases ry
    obtain ⟨rfl, ds, hm⟩ := rx
    rw [hm] at h
    simp only at h
    cases q : atI ds i with
    | none => rw [q] at h; exact h.elim
    | some d =>
      rw [q] at h
      obtain ⟨us, hl, r⟩ := ok l ds hm
      obtain ⟨u, e1, e2⟩ := Ga r q
      exact .inl ⟨_, _, i, u, rfl, rfl, SqL.of hl, e1, k (.v d) u μ H .refl ok e2 h⟩
  · rename_i ns i
    cases ry
    obtain ⟨a, rfl, hs, hn⟩ := rx
    cases q : atI ns i with
    | none => rw [q] at h; exact h.elim
    | some d =>
      rw [q] at h
      have e1 : atI (ns.map V.int) i = some (.int d) := by
        unfold atI at q ⊢
        rw [List.length_map]
        cases z : ixN ns.length i with
        | none => rw [z] at q; cases q
        | some j =>
          rw [z] at q
          simp only [Option.bind_some, List.getElem?_map] at q ⊢
          rw [q] <;> rfl
      exact .inl ⟨_, _, i, _, rfl, rfl, hs, e1, k (.v (.int d)) _ μ H .refl ok (Rp.int d) h⟩
  · exact h.elim
theorem ax (ha : DE X a ta) (hb : DE X b tb) (hs : GS b) : DE X (.Subscript a b pos) (dOp aC ta tb) := by
  obtain ⟨t1, p1, l1⟩ := ha
  obtain ⟨t2, p2, l2⟩ := hb
  exact ⟨_, Ow N7 p1 p2 hs, wm O8 l1 l2⟩
def xf (μ : Mu) : D → Option (List PyData)
  | .v (.list xs) => some xs
  | .m l => μ l
  | _ => none
def I0 : D → D → Mu → DK → Prop := fun x y μ Q => match xf μ x, xf μ y with
  | some xs, some ys => xs.length + ys.length ≤ 1000 ∧ Q (.v (.list (xs ++ ys))) μ
  | _, _ => False
def MZ : D → D → Mu → DK → Prop := fun x y μ Q => match x, y with
  | .v (.tuple xs), .v (.tuple ys) => xs.length + ys.length ≤ 1000 ∧ Q (.v (.tuple (xs ++ ys))) μ
  | _, _ => False
end
end L2.DL
set_option Elab.async false
set_option linter.all false
set_option maxRecDepth 100000
set_option maxHeartbeats 4000000
namespace HT
open PySem PyProof.Rows
section
variable {prog : Program} {w : World} {A : Around} {E : Value → Shared → Prop} {s : Shared}
theorem tV {t sl : Addr} {items : Array Value} {vl vu : Value} {lo hi : Option Int} {Q : Value → Shared → Prop} (ht : IsTup s.heap t items) (hs : s.heap.IsSliceOf sl vl vu .none) (pl : IsPart vl lo) (pu : IsPart vu hi)
    (hw : sIx items.size 0 lo = 0 ∧ sIx items.size items.size hi = items.size) (h : Q (.ref t) s) : wpAny (model prog w) A (getItem (.ref t) (.ref sl)) Q E s := by
  obtain ⟨os, hos, hcs, hds⟩ := id hs
  have hTs : s.TypeIs (.ref sl) "slice" := ⟨os, hos, hcs⟩
  unfold getItem
  try with_reducible refine wpAny_holding ?_
  first | refine wpAny_bind (wpAny_pure ?_) | skip
  refine wpAny_bind (wpAny_sequenceKey ht.typeIs (by decide) ?_)
  refine wpAny_bind (wpAny_callSpecial?_slot (name := Str.ofString "__getitem__") ht.typeIs PyProof.Rows.slot_tuple_getitem
    (wpAny_call_entry PyProof.Rows.slot_tuple_getitem ht.typeIs entry_tuple_getitem ?_ (args_tuple_getitem _ _)))
  show wpAny _ _ (Builtin.Tuple.tupleItemsOf (.ref t) >>= _) _ _ s
  refine wpAny_bind (tupleItemsOf_ ht ?_)
  refine wpAny_bind (wpAny_typeOf hTs ?_)
  rw [if_pos (by decide)]
  refine wpAny_bind (lZ hs pl pu ?_)
  have hno : ((((sIx items.size 0 lo : Nat) : Int) == 0 && (1 : Int) == 1 && (sIx items.size items.size hi - sIx items.size 0 lo) == items.size) = true) := by
    rw [hw.1, hw.2]
    simp
  show wpAny _ _ (if (((sIx items.size 0 lo : Nat) : Int) == 0 && (1 : Int) == 1 && (sIx items.size items.size hi - sIx items.size 0 lo) == items.size) = true then _ else _) _ _ s
  rw [if_pos hno]
  refine wpAny_bind ?_
  unfold Builtin.Tuple.tupleIsExact
  refine wpAny_bind (wpAny_typeOf ht.typeIs (wpAny_pure ?_))
  rw [if_pos (by decide)]
  refine wpAny_bind (wpAny_rule ?_)
  exact wpAny_pure ⟨_, rfl, wpAny_pure h⟩
theorem ES (n : Nat) : Builtin.Slice.sliceAdjust none none (-1) (n : Int) = ((n : Int) - 1, -1) := by
  unfold Builtin.Slice.sliceAdjust
  simp
theorem Eg (n : Nat) : Builtin.Slice.slicePlaces ((n : Int) - 1) (-1) (-1) = n := by
  unfold Builtin.Slice.slicePlaces
  simp
  omega
theorem u6 {sl : Addr} {t : Tok} {n : Nat} {Q : Int × Int × Nat → Shared → Prop} (hs : s.heap.IsSliceOf sl .none .none (.int (-1) t))
    (h : Q ((n : Int) - 1, -1, n) s) : wpAny (model prog w) A (Builtin.Slice.sliceApplied (.ref sl) (pure (n : Int))) Q E s := by
  obtain ⟨os, hos, hcs, hds⟩ := id hs
  unfold Builtin.Slice.sliceApplied Builtin.Slice.sliceFields
  refine wpAny_bind (wpAny_bind (wpAny_field hos hds (x := .none) rfl (wpAny_bind (wpAny_field hos hds (x := .none) rfl (wpAny_bind (wpAny_field hos hds (x := .int (-1) t) rfl (wpAny_pure ?_)))))))
  refine wpAny_bind (slicePart_int ?_)
  show wpAny _ _ (if ((-1 : Int) == 0) = true then _ else _) _ _ s
  rw [if_neg (by decide)]
  refine wpAny_bind (slicePart_none (wpAny_bind (slicePart_none (wpAny_bind (wpAny_pure ?_)))))
  show wpAny _ _ (match Builtin.Slice.sliceAdjust none none (-1) (n : Int) with | (lo, hi) => pure (lo, (-1 : Int), Builtin.Slice.slicePlaces lo hi (-1))) _ _ s
  rw [ES]
  show wpAny _ _ (pure ((n : Int) - 1, (-1 : Int), Builtin.Slice.slicePlaces ((n : Int) - 1) (-1) (-1))) _ _ s
  rw [Eg]
  exact wpAny_pure h
theorem Dc {α β : Type} {f g : α → Option β} : ∀ {l : List α}, (∀ x ∈ l, f x = g x) → l.filterMap f = l.filterMap g
  | [], _ => rfl
  | x :: r, h => by rw [List.filterMap_cons, List.filterMap_cons, h x List.mem_cons_self, Dc fun y hy => h y (List.mem_cons_of_mem _ hy)]
theorem Jc (xs : Array Value) : ((List.range xs.size).filterMap fun (m : Nat) => xs[(((xs.size : Int) - 1) + (m : Int) * (-1)).toNat]?).toArray = xs.toList.reverse.toArray := by
  have h := PySem.W.krv_pick xs
  unfold slicePick at h
  rw [PySem.W.krv_bounds] at h
  have h' : ((sliceRange ((xs.size : Int) - 1) (-1) (-1)).filterMap (xs[·]?)).toArray = xs.toList.reverse.toArray := h
  rw [PySem.W.krv_sliceRange, List.filterMap_map] at h'
  rw [← h']
  congr 1
  refine Dc fun k hk => ?_
  have := List.mem_range.mp hk
  simp only [Function.comp]
  congr 1
  omega
theorem tF {t sl : Addr} {items : Array Value} {tk : Tok} {Q : Value → Shared → Prop} (ht : IsTup s.heap t items) (hs : s.heap.IsSliceOf sl .none .none (.int (-1) tk))
    (h : Q (.ref s.heap.objs.size) { s with heap := s.heap.push { cls := .type "tuple", data := .seq items.toList.reverse.toArray } })
    (hsz : items.size ≤ sizeLine) : wpAny (model prog w) A (getItem (.ref t) (.ref sl)) Q E s := by
  have htake : sizeOk (.seq items.toList.reverse.toArray) := by
    show items.toList.reverse.toArray.size ≤ sizeLine
    rw [List.size_toArray, List.length_reverse, Array.length_toList]
    omega
  obtain ⟨os, hos, hcs, hds⟩ := id hs
  have hTs : s.TypeIs (.ref sl) "slice" := ⟨os, hos, hcs⟩
  unfold getItem
  try with_reducible refine wpAny_holding ?_
  first | refine wpAny_bind (wpAny_pure ?_) | skip
  refine wpAny_bind (wpAny_sequenceKey ht.typeIs (by decide) ?_)
  refine wpAny_bind (wpAny_callSpecial?_slot (name := Str.ofString "__getitem__") ht.typeIs PyProof.Rows.slot_tuple_getitem
    (wpAny_call_entry PyProof.Rows.slot_tuple_getitem ht.typeIs entry_tuple_getitem ?_ (args_tuple_getitem _ _)))
  show wpAny _ _ (Builtin.Tuple.tupleItemsOf (.ref t) >>= _) _ _ s
  refine wpAny_bind (tupleItemsOf_ ht ?_)
  refine wpAny_bind (wpAny_typeOf hTs ?_)
  rw [if_pos (by decide)]
  refine wpAny_bind (u6 hs ?_)
  have hno : ¬ ((((items.size : Int) - 1) == 0 && (-1 : Int) == 1 && items.size == items.size) = true) := by simp
  show wpAny _ _ (if (((items.size : Int) - 1) == 0 && (-1 : Int) == 1 && items.size == items.size) = true then _ else _) _ _ s
  rw [if_neg hno, Jc]
  first
    | exact wpAny_bind (m := Builtin.Tuple.tupleExact _) (wpAny_newObj_type (wpAny_pure ⟨_, rfl, wpAny_pure h⟩) htake)
    | exact wpAny_bind (m := Builtin.Tuple.tupleExact _) (wpAny_newObj_type (wpAny_bind (wpAny_pure (wpAny_pure ⟨_, rfl, wpAny_pure h⟩))) htake)
    | exact wpAny_bind (wpAny_bind (m := Builtin.Tuple.tupleExact _) (wpAny_newObj_type (wpAny_pure (wpAny_pure ⟨_, rfl, wpAny_pure h⟩)) htake))
    | exact wpAny_bind (wpAny_bind (m := Builtin.Tuple.tupleExact _) (wpAny_newObj_type (wpAny_pure ⟨_, rfl, wpAny_pure h⟩) htake))
end
end HT
namespace L2.DL
open PySem PySem.Spec PyProof.Rows
section
variable {X : Cx} {a b e : Expr} {lo hi : Option Expr} {ta tb te : DTE} {pos p2 : Pos}
def xn {α : Type} (xs : List α) (lo hi : Option Int) : List α := (xs.drop (HT.sIx xs.length 0 lo)).take (HT.sIx xs.length xs.length hi - HT.sIx xs.length 0 lo)
theorem RpL.cut {K : PySem.W.Frag} {μ : Mu} {H : Hp} {ds : List PyData} {us : List V} {lo hi : Option Int} (r : RpL K μ H ds us) : RpL K μ H (xn ds lo hi) (AJ us lo hi) := by
  unfold xn AJ
  rw [r.length]
  exact (r.drop _).take _
theorem KS {α : Type} {xs : List α} {lo hi : Option Int} (h : HT.sIx xs.length 0 lo = 0 ∧ HT.sIx xs.length xs.length hi = xs.length) : xn xs lo hi = xs := by
  unfold xn
  rw [h.1, h.2]
  simp
def OD (K : PySem.W.Frag) : V → Option Int → Option Int → Hp → VK → Prop := fun x lo hi H Q => ∃ a xs, x = .ref a ∧ SqT K H a xs ∧
  (HT.sIx xs.length 0 lo = 0 ∧ HT.sIx xs.length xs.length hi = xs.length → Q (.ref a) H) ∧ ∀ p, H p = none → Q (.ref p) (upd H p (.tup (AJ xs lo hi)))
theorem KU : SlR X (OD X.K) := by
  intro pins s σ H x v vl vu lo hi sl Q I rx hs pl pu h
  obtain ⟨a, xs, rfl, hx, q1, q⟩ := h
  by_cases hw : HT.sIx xs.length 0 lo = 0 ∧ HT.sIx xs.length xs.length hi = xs.length
  · cases rx
    obtain ⟨its, r, ht, hz⟩ := I.tuple hx
    have hlen : its.toArray.size = xs.length := by rw [List.size_toArray]; exact r.length.symm
    refine ⟨"tuple", _, PyProof.Rows.slot_tuple_getitem.lookup, ht.typeIs, ?_⟩
    exact HT.tV ht hs pl pu (by rw [hlen]; exact hw) ⟨.ref a, H, I, rfl, q1 hw⟩
  · exact NO pins s σ H _ v vl vu lo hi sl Q I rx hs pl pu ⟨a, xs, rfl, hx, hw, q⟩
abbrev DTO := Rho → Mu → (Option Int → Mu → Prop) → Prop
def ON (K : PySem.W.Frag) (t : TO) (td : DTO) : Prop := ∀ (σ : St) (H : Hp) (ρ : Rho) (μ : Mu) (Qd : Option Int → Mu → Prop) (Q : Option Int → Hp → Prop), St0 K H ρ μ σ → td ρ μ Qd →
  (∀ o μ' H', Ext K μ H μ' H' → St0 K H' ρ μ' σ → Qd o μ' → Q o H') → t σ H Q
def DO (X : Cx) (e : Option Expr) (td : DTO) : Prop := ∃ t, PO X e t ∧ ON X.K t td
def Am : DTO := fun _ μ Q => Q none μ
def Ks (t : DTE) : DTO := fun ρ μ Q => t ρ μ fun x μ1 => match x with
  | .v (.int i) => Q (some i) μ1
  | _ => False
theorem Lz : DO X none Am := ⟨_, K4, fun σ H ρ μ Qd Q S h k => k none μ H .refl S h⟩
theorem Lo (h : DE X e te) : DO X (some e) (Ks te) := by
  obtain ⟨t1, p1, l1⟩ := h
  refine ⟨_, LL p1, fun σ H ρ μ Qd Q S h k => ?_⟩
  refine l1 σ H ρ μ _ _ S h fun x ux μ1 H1 e1 S1 rx h1 => ?_
  split at h1
  · cases rx
    exact ⟨_, rfl, k _ μ1 H1 e1 S1 h1⟩
  · exact h1.elim
def HR (x : D) (lo hi : Option Int) (μ : Mu) (Q : DK) : Prop := match x with
  | .v (.tuple xs) => Q (.v (.tuple (xn xs lo hi))) μ
  | .v (.list xs) => Q (.v (.list (xn xs lo hi))) μ
  | .m l => (match μ l with | some xs => Q (.v (.list (xn xs lo hi))) μ | none => False)
  | _ => False
def dSl (te : DTE) (tl th : DTO) : DTE := fun ρ μ Q => te ρ μ fun x μ1 => tl ρ μ1 fun l μ2 => th ρ μ2 fun u μ3 => HR x l u μ3 Q
theorem JI {tl th : DTO} (he : DE X e te) (hl : DO X lo tl) (hu : DO X hi th) : DE X (.Subscript e (.Slice lo hi none p2) pos) (dSl te tl th) := by
  obtain ⟨t1, p1, l1⟩ := he
  obtain ⟨t2, p2, l2⟩ := hl
  obtain ⟨t3, p3, l3⟩ := hu
  refine ⟨_, IK (L1.or KU) p1 p2 p3, fun σ H ρ μ Qd Q S h k => ?_⟩
  refine l1 σ H ρ μ _ _ S h fun x ux μ1 H1 e1 S1 rx h1 => ?_
  refine l2 σ H1 ρ μ1 _ _ S1 h1 fun l μ2 H2 e2 S2 h2 => ?_
  refine l3 σ H2 ρ μ2 _ _ S2 h2 fun u μ3 H3 e3 S3 h3 => ?_
  have rx3 := (rx.ext S1.mu e2).ext S2.mu e3
  have ee := e1.trans (e2.trans e3)
  unfold HR at h3
  split at h3
  · rename_i xs
    cases id rx3 with
    | @tuple a us _ ha ra =>
      refine .inr ⟨a, us, rfl, ha, fun hw => ?_, fun p hp => ?_⟩
      · refine k (.v _) _ μ3 H3 ee S3 (show Rp _ _ _ (.tuple (xn xs l u)) _ from ?_) h3
        rw [KS (by rw [ra.length]; exact hw)]
        exact rx3
      · exact k (.v _) _ μ3 _ (ee.trans (eI hp)) (S3.new hp) (kc S3.mu ra.cut hp) h3
  · rename_i xs
    cases id rx3 with
    | @list a us _ ha hn ra => exact .inl ⟨a, us, rfl, SqL.of ha, fun p hp => k (.v _) _ μ3 _ (ee.trans (eI hp)) (S3.new hp) (kG S3.mu ra.cut hp) h3⟩
  · rename_i a
    obtain ⟨rfl, ds, hm⟩ := rx3
    rw [hm] at h3
    obtain ⟨us, ha, ra⟩ := S3.mu a ds hm
    exact .inl ⟨a, us, rfl, SqL.of ha, fun p hp => k (.v _) _ μ3 _ (ee.trans (eI hp)) (S3.new hp) (kG S3.mu ra.cut hp) h3⟩
  · exact h3.elim
def P8 (K : PySem.W.Frag) (te : TE) : TE := fun σ H Q => te σ H fun x H1 => ∃ a xs, x = .ref a ∧ ((SqL K H1 a xs ∧ ∀ p, H1 p = none → Q (.ref p) (upd H1 p (.lst xs.reverse))) ∨ (SqT K H1 a xs ∧ ∀ p, H1 p = none → Q (.ref p) (upd H1 p (.tup xs.reverse))))
theorem Vals.rev {xs : List V} {us : List Value} (h : Vals xs us) : Vals xs.reverse us.reverse := Vals.reverse h
theorem Ob {te : TE} {j : Nat} {pz q2 : Pos} (he : PE X e te) : PE X (.Subscript e (.Slice none none (some (.UnaryOp .USub (.Constant (.int 1) j pz) q2)) p2) pos) (P8 X.K te) := by
  intro pins s σ H Q I h
  refine Subscript_ (thn (he pins s σ H _ I h) fun v s1 ⟨x, H1, I1, r1, q1⟩ => ?_)
  refine wpAny_Slice ?_
  rw [evalPart_none, evalPart_some]
  refine wpAny_pure (wpAny_pure ?_)
  refine thn ((Mn Iw (J1 (X := X) (i := 1) (j := j) (pos := pz))) pins s1 σ H1 (fun u H2 => u = .int (-1) ∧ H2 = H1) I1 ⟨1, rfl, rfl, rfl⟩) fun st s2 ⟨z, H2, I2, r2, e2, e3⟩ => ?_
  subst e2 e3
  obtain ⟨tk, rfl⟩ := r2
  have I4 : Inv X pins σ H2 { s2 with heap := s2.heap.push { cls := .type "slice", data := .fields #[.none, .none, .int (-1) tk] } } := I2.kept (t' := s2.toks) fun b ob q => Heap.get?_push_of_some _ q
  obtain ⟨a, xs, rfl, q1⟩ := q1
  cases r1
  have hsl : ({ s2 with heap := s2.heap.push { cls := .type "slice", data := .fields #[.none, .none, .int (-1) tk] } } : Shared).heap.IsSliceOf s2.heap.objs.size .none .none (.int (-1) tk) := Heap.IsSliceOf.new ..
  rcases q1 with ⟨hx, q⟩ | ⟨hx, q⟩
  · obtain ⟨its, r, ht, hz⟩ := I4.list hx
    have hlen := r.length
    refine tail_any (ops := [.ref a, .ref s2.heap.objs.size]) ht.isList.typeIs slot_list_getitem.lookup ?_ (by with_unfolding_all rfl)
    refine wpAny_getItem_list_slice ht.isList hsl .none .none (.int (-1) tk) (by decide) ?_ (by rw [List.size_toArray] <;> omega)
    rw [PySem.W.krv_pick]
    refine ⟨.ref _, _, I4.laid (t' := s2.toks) (o := .lst xs.reverse) (fun b ob q => Heap.get?_push_of_some _ q) (Nat.le_refl _) ?_, rfl, q _ (I4.hok.fresh (Nat.le_refl _))⟩
    exact ⟨by rw [List.length_reverse]; exact hz, _, 0, Vals.rev r, Heap.get?_push_size _ rfl⟩
  · obtain ⟨its, r, ht, hz⟩ := I4.tuple hx
    have hlen := r.length
    refine tail_any (ops := [.ref a, .ref s2.heap.objs.size]) ht.typeIs PyProof.Rows.slot_tuple_getitem.lookup ?_ (by with_unfolding_all rfl)
    refine HT.tF ht hsl ?_ (by rw [List.size_toArray] <;> omega)
    refine ⟨.ref _, _, I4.laid (t' := s2.toks) (o := .tup xs.reverse) (fun b ob q => Heap.get?_push_of_some _ q) (Nat.le_refl _) ?_, rfl, q _ (I4.hok.fresh (Nat.le_refl _))⟩
    exact ⟨by rw [List.length_reverse]; exact hz, _, Vals.rev r, IsTup.new _ _⟩
def Mt (te : DTE) : DTE := fun ρ μ Q => te ρ μ fun x μ1 => match x with
  | .v (.tuple xs) => Q (.v (.tuple xs.reverse)) μ1
  | .v (.list xs) => Q (.v (.list xs.reverse)) μ1
  | .m l => (match μ1 l with | some xs => Q (.v (.list xs.reverse)) μ1 | none => False)
  | _ => False
theorem MJ {j : Nat} {pz q2 : Pos} (he : DE X e te) : DE X (.Subscript e (.Slice none none (some (.UnaryOp .USub (.Constant (.int 1) j pz) q2)) p2) pos) (Mt te) := by
  obtain ⟨t1, p1, l1⟩ := he
  refine ⟨_, Ob p1, fun σ H ρ μ Qd Q S h k => ?_⟩
  refine l1 σ H ρ μ _ _ S h fun x ux μ1 H1 e1 S1 rx h1 => ?_
  split at h1
  · cases rx with
    | @tuple a us _ ha ra => exact ⟨a, us, rfl, .inr ⟨ha, fun p hp => k (.v _) _ μ1 _ (e1.trans (eI hp)) (S1.new hp) (kc S1.mu ra.reverse hp) h1⟩⟩
  · cases rx with
    | @list a us _ ha hn ra => exact ⟨a, us, rfl, .inl ⟨SqL.of ha, fun p hp => k (.v _) _ μ1 _ (e1.trans (eI hp)) (S1.new hp) (kG S1.mu ra.reverse hp) h1⟩⟩
  · rename_i a
    obtain ⟨rfl, ds, hm⟩ := rx
    rw [hm] at h1
    obtain ⟨us, ha, ra⟩ := S1.mu a ds hm
    exact ⟨a, us, rfl, .inl ⟨SqL.of ha, fun p hp => k (.v _) _ μ1 _ (e1.trans (eI hp)) (S1.new hp) (kG S1.mu ra.reverse hp) h1⟩⟩
  · exact h1.elim
end
open PySem PySem.Spec PyProof.Rows
section
variable {X : Cx} {a b e : Expr} {es : List Expr} {ta tb te : DTE} {t : DTA} {p pos : Pos} {x : Str} {bid T : String}
def qw (K : PySem.W.Frag) (r : List V → Hp → VK → Prop) (rd : List D → Mu → DK → Prop) : Prop := ∀ (xs : List D) (us : List V) (H : Hp) (μ : Mu) (Qd : DK) (Q : VK), dZ K μ H → lB K μ H xs us → rd xs μ Qd →
  (∀ d u μ' H', Ext K μ H μ' H' → dZ K μ' H' → RpD K μ' H' d u → Qd d μ' → Q u H') → r us H Q
def dCB (rd : List D → Mu → DK → Prop) (t : DTA) : DTE := fun ρ μ Q => t ρ μ fun ds μ1 => rd ds μ1 Q
theorem G1 {K : PySem.W.Frag} {n : Nat} {r : List V → Hp → VK → Prop} {rd : List D → Mu → DK → Prop} {t1 : TA} (lc : qw K r rd) (l1 : Mq K n t1 t) : tX K (tCB r t1) (dCB rd t) := by
  intro σ H ρ μ Qd Q S h k
  refine l1 σ H ρ μ _ _ S h fun xs us μ1 H1 e1 S1 rs len h1 => ?_
  exact lc xs us H1 μ1 _ _ S1.mu rs h1 fun d u μ' H' e2 ok r q => k d u μ' H' (e1.trans e2) ⟨ok, S1.rho.ext S1.mu e2⟩ r q
theorem lY {r : List V → Hp → VK → Prop} {rd : List D → Mu → DK → Prop} (hc : hU X (.builtin bid) r) (lc : qw X.K r rd) (hg : Gl X x) (hm : X.mg x = none) (hv : bootBuiltins x = some (.builtin bid)) (ha : DA X (e :: es) t) (hn : x ≠ "__name__" := by decide) (hdb : (x == ("__debug__" : Str)) = false := by decide)
    (he : starEach (e :: es) X.env = (false, eval e X.env) :: starEach es X.env := by rfl) (hpl : (backTo pos (starEach es X.env)).any (·.1) = false := by rfl) : DE X (.Call (.Name x p) (e :: es) [] pos) (dCB rd t) := by
  obtain ⟨t1, p1, l1⟩ := ha
  exact ⟨_, xp hc hg hm hv p1 hn hdb he hpl, G1 lc l1⟩
theorem zI {r : List V → Hp → VK → Prop} {rd : List D → Mu → DK → Prop} (hc : hU X (.type T) r) (lc : qw X.K r rd) (hg : Gl X x) (hm : X.mg x = none) (hv : bootBuiltins x = some (.type T)) (ha : DA X (e :: es) t) (hn : x ≠ "__name__" := by decide) (hdb : (x == ("__debug__" : Str)) = false := by decide)
    (he : starEach (e :: es) X.env = (false, eval e X.env) :: starEach es X.env := by rfl) (hpl : (backTo pos (starEach es X.env)).any (·.1) = false := by rfl) : DE X (.Call (.Name x p) (e :: es) [] pos) (dCB rd t) := by
  obtain ⟨t1, p1, l1⟩ := ha
  exact ⟨_, zd hc hg hm hv p1 hn hdb he hpl, G1 lc l1⟩
def i7 : List D → Mu → DK → Prop := fun xs μ Q => match xs with
  | [.v (.list ys)] => Q (.v (.int (ys.length : Nat))) μ
  | [.v (.tuple ys)] => Q (.v (.int (ys.length : Nat))) μ
  | [.m l] => (match μ l with | some ys => Q (.v (.int (ys.length : Nat))) μ | none => False)
  | [.s ns] => Q (.v (.int (ns.length : Nat))) μ
  | _ => False
theorem M7 {K : PySem.W.Frag} : qw K (fun xs H Q => ∃ p ys, xs = [.ref p] ∧ (SqL K H p ys ∨ SqT K H p ys) ∧ Q (.int ys.length) H) i7 := by
  intro xs us H μ Qd Q ok rs h k
  unfold i7 at h
  split at h
  · cases rs with
    | cons r1 r2 =>
      cases r2
      cases r1 with
      | list hs hn r => exact ⟨_, _, rfl, .inl (SqL.of hs), k (.v _) _ μ H .refl ok (by rw [← r.length]; exact Rp.int _) h⟩
  · cases rs with
    | cons r1 r2 =>
      cases r2
      cases r1 with
      | tuple hs r => exact ⟨_, _, rfl, .inr hs, k (.v _) _ μ H .refl ok (by rw [← r.length]; exact Rp.int _) h⟩
  · cases rs with
    | cons r1 r2 =>
      cases r2
      obtain ⟨rfl, ds, hm⟩ := r1
      rw [hm] at h
      obtain ⟨us, hl, r⟩ := ok _ ds hm
      exact ⟨_, _, rfl, .inl (SqL.of hl), k (.v _) _ μ H .refl ok (by rw [← r.length]; exact Rp.int _) h⟩
  · cases rs with
    | cons r1 r2 =>
      cases r2
      obtain ⟨a, rfl, hs, hn⟩ := r1
      exact ⟨_, _, rfl, .inl hs, k (.v _) _ μ H .refl ok (by rw [List.length_map]; exact Rp.int _) h⟩
  · exact h.elim
theorem nB (hg : Gl X "len") (hm : X.mg "len" = none) (ha : DA X (e :: es) t)
    (he : starEach (e :: es) X.env = (false, eval e X.env) :: starEach es X.env := by rfl) (hpl : (backTo pos (starEach es X.env)).any (·.1) = false := by rfl) : DE X (.Call (.Name "len" p) (e :: es) [] pos) (dCB i7 t) :=
  lY Cd M7 hg hm PySem.boot_len ha (by decide) (by decide) he hpl
def oU : List D → Mu → DK → Prop := fun xs μ Q => match xs with
  | [.v (.int i)] => Q (.v (.int (i.natAbs : Nat))) μ
  | _ => False
theorem Nx {K : PySem.W.Frag} : qw K (fun xs H Q => ∃ i, xs = [.int i] ∧ Q (.int (if i < 0 then -i else i)) H) oU := by
  intro xs us H μ Qd Q ok rs h k
  unfold oU at h
  split at h
  · rename_i i
    cases rs with
    | cons r1 r2 =>
      cases r2
      cases r1
      refine ⟨i, rfl, k (.v (.int (i.natAbs : Nat))) _ μ H .refl ok ?_ h⟩
      have : (if i < 0 then -i else i) = ((i.natAbs : Nat) : Int) := by split <;> omega
      rw [this]
      exact Rp.int _
  · exact h.elim
theorem qX (hg : Gl X "abs") (hm : X.mg "abs" = none) (ha : DA X (e :: es) t)
    (he : starEach (e :: es) X.env = (false, eval e X.env) :: starEach es X.env := by rfl) (hpl : (backTo pos (starEach es X.env)).any (·.1) = false := by rfl) : DE X (.Call (.Name "abs" p) (e :: es) [] pos) (dCB oU t) :=
  lY IJ Nx hg hm PyProof.Rows.Boot.«abs» ha (by decide) (by decide) he hpl
def El (g : Int → Int → Int) : List D → Mu → DK → Prop := fun xs μ Q => match xs with
  | [.v (.int i), .v (.int j)] => Q (.v (.int (g i j))) μ
  | _ => False
theorem Mo {K : PySem.W.Frag} {g g' : Int → Int → Int} (hg : ∀ i j, g i j = g' i j) : qw K (fun xs H Q => ∃ i j, xs = [.int i, .int j] ∧ Q (.int (g i j)) H) (El g') := by
  intro xs us H μ Qd Q ok rs h k
  unfold El at h
  split at h
  · rename_i i j
    cases rs with
    | cons r1 r2 =>
      cases r2 with
      | cons r2 r3 =>
        cases r3
        cases r1
        cases r2
        exact ⟨i, j, rfl, k (.v _) _ μ H .refl ok (by rw [hg]; exact Rp.int _) h⟩
  · exact h.elim
theorem Nl (hc : X.calm = true) (hg : Gl X "max") (hm : X.mg "max" = none) (ha : DA X (e :: es) t)
    (he : starEach (e :: es) X.env = (false, eval e X.env) :: starEach es X.env := by rfl) (hpl : (backTo pos (starEach es X.env)).any (·.1) = false := by rfl) : DE X (.Call (.Name "max" p) (e :: es) [] pos) (dCB (El max) t) :=
  lY (HV hc) (Mo (fun i j => by show (if j > i then j else i) = max i j; simp only [Int.max_def]; split <;> split <;> omega)) hg hm PyProof.Rows.Boot.«max» ha (by decide) (by decide) he hpl
theorem M1 (hc : X.calm = true) (hg : Gl X "min") (hm : X.mg "min" = none) (ha : DA X (e :: es) t)
    (he : starEach (e :: es) X.env = (false, eval e X.env) :: starEach es X.env := by rfl) (hpl : (backTo pos (starEach es X.env)).any (·.1) = false := by rfl) : DE X (.Call (.Name "min" p) (e :: es) [] pos) (dCB (El min) t) :=
  lY (HC hc) (Mo (fun i j => by show (if j < i then j else i) = min i j; simp only [Int.min_def]; split <;> split <;> omega)) hg hm PyProof.Rows.Boot.«min» ha (by decide) (by decide) he hpl
def qK : List D → Mu → DK → Prop := fun xs μ Q => match xs with
  | [.v (.int i)] => Q (.v (.int i)) μ
  | [.v (.bool k)] => Q (.v (.int (if k then 1 else 0))) μ
  | _ => False
theorem Nq {K : PySem.W.Frag} : qw K (fun xs H Q => (∃ i, xs = [.int i] ∧ Q (.int i) H) ∨ ∃ k, xs = [.bl k] ∧ Q (.int (if k then 1 else 0)) H) qK := by
  intro xs us H μ Qd Q ok rs h k
  unfold qK at h
  split at h
  · rename_i i
    cases rs with
    | cons r1 r2 => cases r2; cases r1; exact .inl ⟨i, rfl, k (.v _) _ μ H .refl ok (Rp.int _) h⟩
  · rename_i b
    cases rs with
    | cons r1 r2 => cases r2; cases r1; exact .inr ⟨b, rfl, k (.v _) _ μ H .refl ok (Rp.int _) h⟩
  · exact h.elim
theorem oQ (hg : Gl X "int") (hm : X.mg "int" = none) (ha : DA X (e :: es) t)
    (he : starEach (e :: es) X.env = (false, eval e X.env) :: starEach es X.env := by rfl) (hpl : (backTo pos (starEach es X.env)).any (·.1) = false := by rfl) : DE X (.Call (.Name "int" p) (e :: es) [] pos) (dCB qK t) :=
  zI HD Nq hg hm PyProof.Rows.Boot.«int» ha (by decide) (by decide) he hpl
def Kd : List D → Mu → DK → Prop := fun xs μ Q => match xs with
  | [.v (.list ys)] => Q (.v (.list ys)) μ
  | [.v (.tuple ys)] => Q (.v (.list ys)) μ
  | _ => False
theorem xx : ∀ {bs : List Bool} {us : List Value}, Vals (bs.map V.bl) us → us = bs.map Value.bool
  | [], _, .nil => rfl
  | b :: r, _, .cons h t => by cases h; rw [xx t]; rfl
theorem HU (hc : X.calm = true) : hU X (.builtin "all") (fun xs H Q => ∃ (p : Addr) (bs : List Bool), xs = [.ref p] ∧ H p = some (.lst (bs.map V.bl)) ∧ Q (.bl (bs.all id)) H) := by
  intro pins s σ H xs us Q I r h
  obtain ⟨l, bs, rfl, hl, q⟩ := h
  obtain ⟨u, rfl, rx⟩ := vals1 r
  cases rx
  obtain ⟨its, rv, pl, _⟩ := I.list (SqL.of hl)
  have eb := xx rv
  subst eb
  have hL := pl.isList
  have hlt := pl.lt
  refine call_all_walk (wpAny_pyIter_list hL ?_)
  refine ⟨s.heap.objs.size, [s.heap.objs.size, l], [s.heap.objs.size], (bs.map Value.bool).toArray.size, _, _, fun i => (bs[i]?).getD true, rfl, Walks.list (A := X.A.in1) (by exact I.ok.hd hc) _ l (Nat.ne_of_lt hlt) (bs.map Value.bool).toArray,
    ⟨⟨_, Heap.get?_push_size _ rfl, rfl, rfl⟩, hL.push _⟩, fun i v s' Q' E' hP hQ => ?_, fun h' tk hk => ?_⟩
  · have hP' : (bs.map Value.bool)[i]? = some v := by simpa using hP
    rw [List.getElem?_map] at hP'
    cases z : bs[i]? with
    | none => rw [z] at hP'; cases hP'
    | some b =>
      rw [z] at hP'
      cases hP'
      simp only [z, Option.getD_some] at hQ
      exact wpAny_truthy_bool hQ
  · have e : ((List.range (bs.map Value.bool).toArray.size).all fun i => (bs[i]?).getD true) = bs.all id := by
      rw [List.size_toArray, List.length_map]; exact PyProof.Rows.LSm.range_all bs
    rw [e]
    exact ⟨.bl (bs.all id), H, I.kept (PyProof.Rows.LSm.kept_iter hk), rfl, q⟩
def bY : List PyData → Option (List Bool)
  | [] => some []
  | .bool b :: r => (bY r).map (b :: ·)
  | _ :: _ => none
theorem q5 {K : PySem.W.Frag} {μ : Mu} {H : Hp} : ∀ {xs : List PyData} {us : List V} {bs : List Bool}, RpL K μ H xs us → bY xs = some bs → us = bs.map V.bl
  | _, _, _, .nil, e => by cases e; rfl
  | .bool b :: r, _, bs, .cons h t, e => by
    simp only [bY] at e
    cases q : bY r with
    | none => rw [q] at e; cases e
    | some cs => rw [q] at e; cases e; cases h; rw [q5 t q]; rfl
  | .none :: r, _, bs, .cons h t, e => by simp [bY] at e
  | .int _ :: r, _, bs, .cons h t, e => by simp [bY] at e
  | .str _ :: r, _, bs, .cons h t, e => by simp [bY] at e
  | .list _ :: r, _, bs, .cons h t, e => by simp [bY] at e
  | .tuple _ :: r, _, bs, .cons h t, e => by simp [bY] at e
  | .dict _ :: r, _, bs, .cons h t, e => by simp [bY] at e
def xw : List D → Mu → DK → Prop := fun xs μ Q => match xs with
  | [.v (.list ys)] => (match bY ys with | some bs => Q (.v (.bool (bs.all id))) μ | none => False)
  | _ => False
theorem Ng {K : PySem.W.Frag} : qw K (fun xs H Q => ∃ (p : Addr) (bs : List Bool), xs = [.ref p] ∧ H p = some (.lst (bs.map V.bl)) ∧ Q (.bl (bs.all id)) H) xw := by
  intro xs us H μ Qd Q ok rs h k
  unfold xw at h
  split at h
  · rename_i ys
    cases q : bY ys with
    | none => rw [q] at h; exact h.elim
    | some bs =>
      rw [q] at h
      cases rs with
      | cons r1 r2 =>
        cases r2
        cases r1 with
        | list hs hn r => exact ⟨_, bs, rfl, by rw [hs, q5 r q], k (.v _) _ μ H .refl ok (Rp.bool _) h⟩
  · exact h.elim
theorem EE (hc : X.calm = true) (hg : Gl X "all") (hm : X.mg "all" = none) (ha : DA X (e :: es) t)
    (he : starEach (e :: es) X.env = (false, eval e X.env) :: starEach es X.env := by rfl) (hpl : (backTo pos (starEach es X.env)).any (·.1) = false := by rfl) : DE X (.Call (.Name "all" p) (e :: es) [] pos) (dCB xw t) :=
  lY (HU hc) Ng hg hm PyProof.Rows.Boot.«all» ha (by decide) (by decide) he hpl
def tyD : PyData → String
  | .none => "NoneType"
  | .bool _ => "bool"
  | .int _ => "int"
  | .str _ => "str"
  | .list _ => "list"
  | .tuple _ => "tuple"
  | .dict _ => "dict"
def isT (T : String) (d : PyData) : Bool := tyD d == T || (T == "int" && tyD d == "bool")
theorem HQ {pins : List (Addr × Obj)} {σ : St} {H : Hp} {s : Shared} {μ : Mu} {d : PyData} {u : V} {v : Value} {k : Bool} {A : Around} {E : Value → Shared → Prop} {Q : Value → Shared → Prop} (I : Inv X pins σ H s) (r : Rp X.K μ H d u) (rx : RelV u v)
    (ek : PySem.W.kitOne X.K (.type (tyD d)) (.type T) = some k) (h : ∀ tk, Q (.bool k) { s with toks := tk }) : wpAny (model X.prog X.w) A (call (.builtin "isinstance") [v, .type T]) Q E s := by
  cases r with
  | none => cases rx; exact PySem.W.kia_one PySem.W.kitx_none I.kIn True.intro ek (fun z => nomatch z) h
  | bool b => cases rx; exact PySem.W.kia_one PySem.W.kitx_bool I.kIn True.intro ek (fun z => nomatch z) h
  | int i => obtain ⟨t, rfl⟩ := rx; exact PySem.W.kia_one PySem.W.kitx_int I.kIn True.intro ek (fun z => nomatch z) h
  | str y => obtain ⟨t, rfl⟩ := rx; exact PySem.W.kia_one PySem.W.kitx_str I.kIn True.intro ek (fun z => nomatch z) h
  | list hs hn q =>
    cases rx
    obtain ⟨its, rv, ⟨o, n, h1, h2, _⟩, _⟩ := I.list (SqL.of hs)
    exact PySem.W.kia_one PySem.W.kitx_list I.kIn ⟨o, h1, h2⟩ ek (fun z => nomatch z) h
  | tuple hs q =>
    cases rx
    obtain ⟨its, rv, ⟨o, h1, h2, _⟩, _⟩ := I.tuple hs
    exact PySem.W.kia_one PySem.W.kitx_tuple I.kIn ⟨o, h1, h2⟩ ek (fun z => nomatch z) h
theorem LP (K : PySem.W.Frag) (d : PyData) : PySem.W.kitOne K (.type (tyD d)) (.type "int") = some (isT "int" d) := by cases d <;> rfl
theorem CM (K : PySem.W.Frag) (d : PyData) : PySem.W.kitOne K (.type (tyD d)) (.type "bool") = some (isT "bool" d) := by cases d <;> rfl
theorem kit_tuple (K : PySem.W.Frag) (d : PyData) : PySem.W.kitOne K (.type (tyD d)) (.type "tuple") = some (isT "tuple" d) := by cases d <;> rfl
theorem DN (kt : ∀ d, PySem.W.kitOne X.K (.type (tyD d)) (.type T) = some (isT T d)) : hU X (.builtin "isinstance") (fun xs H Q => ∃ μ d u, xs = [u, .ty T] ∧ Rp X.K μ H d u ∧ Q (.bl (isT T d)) H) := by
  intro pins s σ H xs us Q I r h
  obtain ⟨μ, d, u, rfl, rd, q⟩ := h
  obtain ⟨v, w', rfl, r1, r2⟩ := vals2 r
  cases r2
  exact HQ I rd r1 (kt d) fun tk => ⟨.bl (isT T d), H, I.tok _, rfl, q⟩
def FK (T : String) (te : DTE) : DTE := fun ρ μ Q => te ρ μ fun x μ1 => match x with
  | .v d => Q (.v (.bool (isT T d))) μ1
  | _ => False
theorem x8 {y : Str} {py : Pos} (kt : ∀ d, PySem.W.kitOne X.K (.type (tyD d)) (.type T) = some (isT T d)) (hg : Gl X "isinstance") (hm : X.mg "isinstance" = none) (hgy : Gl X y) (hmy : X.mg y = none) (hvy : bootBuiltins y = some (.type T)) (ha : DE X e te)
    (hny : y ≠ "__name__" := by decide) (hdy : (y == ("__debug__" : Str)) = false := by decide)
    (he : starEach [e, .Name y py] X.env = (false, eval e X.env) :: starEach [.Name y py] X.env := by rfl) (he2 : starEach [.Name y py] X.env = [(false, eval (.Name y py) X.env)] := by rfl) (hpl : (backTo pos (starEach [.Name y py] X.env)).any (·.1) = false := by rfl) : DE X (.Call (.Name "isinstance" p) [e, .Name y py] [] pos) (FK T te) := by
  obtain ⟨t1, p1, l1⟩ := ha
  refine ⟨_, xp (DN kt) hg hm PyProof.Rows.Boot.«isinstance» (nr p1 (nr (LV (v := .ty T) hgy hmy hvy rfl hny hdy) vj he2) he) (by decide) (by decide) he hpl, fun σ H ρ μ Qd Q S h k => ?_⟩
  refine l1 σ H ρ μ _ _ S h fun x ux μ1 H1 e1 S1 rx h1 => ?_
  split at h1
  · exact ⟨μ1, _, ux, rfl, rx, k (.v _) _ μ1 H1 e1 S1 (Rp.bool _) h1⟩
  · exact h1.elim
def isC : PyData → PyData → Option Bool
  | .bool a, .bool b => some (a == b)
  | .none, .none => some true
  | _, _ => none
def O6 : R2 := fun x y H Q => (∃ i j, x = .bl i ∧ y = .bl j ∧ Q (.bl (i == j)) H) ∨ (x = .non ∧ y = .non ∧ Q (.bl true) H)
theorem Jx : OpR X (compareOp .Is) O6 := by
  intro pins s σ H x y v u Q I rx ry h
  rcases h with ⟨i, j, rfl, rfl, q⟩ | ⟨rfl, rfl, q⟩
  · cases rx; cases ry
    exact wpAny_is_plain rfl ⟨.bl (i == j), H, I, by cases i <;> cases j <;> rfl, q⟩
  · cases rx; cases ry
    exact wpAny_is_plain rfl ⟨.bl true, H, I, rfl, q⟩
def HM : D → D → Mu → DK → Prop := fun x y μ Q => match x, y with
  | .v (.bool i), .v (.bool j) => Q (.v (.bool (i == j))) μ
  | .v .none, .v .none => Q (.v (.bool true)) μ
  | _, _ => False
theorem Mh {K : PySem.W.Frag} : mm K O6 HM := by
  intro x y ux uy H μ Qd Q ok rx ry h k
  unfold HM at h
  split at h
  · cases rx; cases ry; exact .inl ⟨_, _, rfl, rfl, k (.v _) _ μ H .refl ok (Rp.bool _) h⟩
  · cases rx; cases ry; exact .inr ⟨rfl, rfl, k (.v _) _ μ H .refl ok (Rp.bool _) h⟩
  · exact h.elim
end
open PySem PySem.Spec PyProof.Rows
section
variable {X : Cx} {a b e : Expr} {es : List Expr} {ta tb te : DTE} {t : DTA} {p pos : Pos} {st : Stmt} {rest sts : List Stmt} {td ud : DTS} {tc : DTT}
def bU : DTS := fun Dd ρ μ => Dd.nx ρ μ
def aJ (t u : DTS) : DTS := fun Dd ρ μ => t { Dd with nx := u Dd } ρ μ
def bD (te : DTE) : DTS := fun Dd ρ μ => te ρ μ Dd.rt
def mx (te : DTE) : DTS := fun Dd ρ μ => te ρ μ fun _ μ1 => Dd.nx ρ μ1
def dy (c : DTT) (t u : DTS) : DTS := fun Dd ρ μ => c ρ μ fun b μ1 => if b = true then t Dd ρ μ1 else u Dd ρ μ1
theorem bq : DSs X [] bU := ⟨_, Lu, fun σ H ρ μ Dd De S h k1 k2 k3 k4 => k1 σ ρ μ H .refl S h⟩
theorem aq (h : DS X st td) : DSs X [st] td := let ⟨t, p, l⟩ := h; ⟨t, LQ p, l⟩
theorem lift_seq {K : PySem.W.Frag} {t u : TS} (l1 : zJ K t td) (l2 : zJ K u ud) : zJ K (Pb t u) (aJ td ud) := by
  intro σ H ρ μ Dd De S h k1 k2 k3 k4
  refine l1 σ H ρ μ _ _ S h (fun σ' ρ' μ' H' e' S' h' => ?_) k2 k3 k4
  exact l2 σ' H' ρ' μ' Dd De S' h' (fun a b c d e2 => k1 a b c d (e'.trans e2)) (fun a b c d e2 => k2 a b c d (e'.trans e2)) (fun a b c d e2 => k3 a b c d (e'.trans e2)) (fun a b c d e2 => k4 a b c d (e'.trans e2))
theorem ai (h1 : DS X st td) (h2 : DSs X rest ud) : DSs X (st :: rest) (aJ td ud) := by
  obtain ⟨t1, p1, l1⟩ := h1
  obtain ⟨t2, p2, l2⟩ := h2
  exact ⟨_, Iq p1 p2, lift_seq l1 l2⟩
theorem aD (he : DE X e te) : DS X (.Return (some e) pos) (bD te) := by
  obtain ⟨t1, p1, l1⟩ := he
  exact ⟨_, Nb p1, fun σ H ρ μ Dd De S h k1 k2 k3 k4 => l1 σ H ρ μ _ _ S h fun d u μ' H' e' S' r q => k2 d u μ' H' e' S'.mu r q⟩
theorem iy (he : DE X e te) (hs : swapsWith e none pos.line X.env = pure false := by rfl) : DS X (.Expr e pos) (mx te) := by
  obtain ⟨t1, p1, l1⟩ := he
  exact ⟨_, Lv p1 hs, fun σ H ρ μ Dd De S h k1 k2 k3 k4 => l1 σ H ρ μ _ _ S h fun d u μ' H' e' S' r q => k1 σ ρ μ' H' e' S' q⟩
theorem bW {c : Expr} {x y : List Stmt} (hc : DT X c tc) (ha : DSs X x td) (hb : DSs X y ud) : DS X (.If c x y pos) (dy tc td ud) := by
  obtain ⟨t0, p0, l0⟩ := hc
  obtain ⟨t1, p1, l1⟩ := ha
  obtain ⟨t2, p2, l2⟩ := hb
  refine ⟨_, Pe p0 p1 p2, fun σ H ρ μ Dd De S h k1 k2 k3 k4 => ?_⟩
  refine l0 σ H ρ μ _ _ S h fun c μ1 H1 e1 S1 h1 => ?_
  cases c with
  | true => exact Cm (l1 σ H1 ρ μ1 Dd De S1 (by simpa using h1) (fun a b c d e2 => k1 a b c d (e1.trans e2)) (fun a b c d e2 => k2 a b c d (e1.trans e2)) (fun a b c d e2 => k3 a b c d (e1.trans e2)) (fun a b c d e2 => k4 a b c d (e1.trans e2)))
  | false => exact Cg (l2 σ H1 ρ μ1 Dd De S1 (by simpa using h1) (fun a b c d e2 => k1 a b c d (e1.trans e2)) (fun a b c d e2 => k2 a b c d (e1.trans e2)) (fun a b c d e2 => k3 a b c d (e1.trans e2)) (fun a b c d e2 => k4 a b c d (e1.trans e2)))
abbrev DTG := D → Rho → Mu → (Rho → Mu → Prop) → Prop
abbrev y7 := List PyData → Rho → Mu → (Rho → Mu → Prop) → Prop
def JN (K : PySem.W.Frag) (g : TG) (gd : DTG) : Prop := ∀ (σ : St) (H : Hp) (ρ : Rho) (μ : Mu) (d : D) (u : V) (Qd : Rho → Mu → Prop) (Q : St → Hp → Prop), St0 K H ρ μ σ → RpD K μ H d u → gd d ρ μ Qd →
  (∀ σ' ρ' μ' H', Ext K μ H μ' H' → St0 K H' ρ' μ' σ' → Qd ρ' μ' → Q σ' H') → g u σ H Q
def MR (K : PySem.W.Frag) (g : TGs) (gd : y7) : Prop := ∀ (σ : St) (H : Hp) (ρ : Rho) (μ : Mu) (ds : List PyData) (us : List V) (Qd : Rho → Mu → Prop) (Q : St → Hp → Prop), St0 K H ρ μ σ → RpL K μ H ds us → gd ds ρ μ Qd →
  (∀ σ' ρ' μ' H', Ext K μ H μ' H' → St0 K H' ρ' μ' σ' → Qd ρ' μ' → Q σ' H') → g us σ H Q
def DG (X : Cx) (tg : Expr) (gd : DTG) : Prop := ∃ g, PG X tg g ∧ JN X.K g gd
def DGs (X : Cx) (tg : List Expr) (gd : y7) : Prop := ∃ g, PGs X tg g ∧ MR X.K g gd
theorem jx.set {K : PySem.W.Frag} {μ : Mu} {H : Hp} {ρ : Rho} {σ : St} {i : Nat} {d : D} {u : V} (r : jx K μ H ρ σ) (h : RpD K μ H d u) : jx K μ H (ρ.set i (some d)) (σ.set i (some u)) := by
  refine ⟨by rw [List.length_set, List.length_set]; exact r.1, fun j d' e => ?_⟩
  by_cases hj : i = j
  · subst hj
    have hl : i < ρ.length := by
      have := (List.getElem?_eq_some_iff.mp e).1
      rw [List.length_set] at this
      exact this
    rw [List.getElem?_set_self hl] at e
    cases e
    exact ⟨u, List.getElem?_set_self (by rw [← r.1]; exact hl), h⟩
  · rw [List.getElem?_set_ne hj] at e
    obtain ⟨w, e1, e2⟩ := r.2 j d' e
    exact ⟨w, by rw [List.getElem?_set_ne hj]; exact e1, e2⟩
def au (i : Nat) : DTG := fun d ρ μ Q => Q (ρ.set i (some d)) μ
theorem wu {K : PySem.W.Frag} {i : Nat} : JN K (JV i) (au i) := fun σ H ρ μ d u Qd Q S r h k => k _ _ μ H .refl ⟨S.mu, S.rho.set r⟩ h
theorem bE {i : Nat} {x : Str} (hN : X.N.Nodup) (hi : X.N[i]? = some x) (hx : Loc X.env.scope x) (hf : X.fn x = true ∨ X.env.scope.names.lookup x = some .local := by first | exact .inl rfl | exact .inr rfl | assumption) : DG X (.Name x pos) (au i) := ⟨_, Lj hN hi hx hf, wu⟩
def sZ : y7 := fun ds ρ μ Q => match ds with
  | [] => Q ρ μ
  | _ => False
def eh (g : DTG) (gs : y7) : y7 := fun ds ρ μ Q => match ds with
  | d :: r => g (.v d) ρ μ fun ρ1 μ1 => gs r ρ1 μ1 Q
  | _ => False
theorem nu : DGs X [] sZ := ⟨_, Ln, fun σ H ρ μ ds us Qd Q S r h k => by
  cases r with
  | nil => exact ⟨rfl, k σ ρ μ H .refl S h⟩
  | cons _ _ => exact h.elim⟩
theorem cH {g : DTG} {gs : y7} (h1 : DG X e g) (h2 : DGs X es gs) (hs : (assignEach (e :: es) X.env).map (·.2) = assign e X.env :: (assignEach es X.env).map (·.2) := by rfl) : DGs X (e :: es) (eh g gs) := by
  obtain ⟨t1, p1, l1⟩ := h1
  obtain ⟨t2, p2, l2⟩ := h2
  refine ⟨_, JC p1 p2 hs, fun σ H ρ μ ds us Qd Q S r h k => ?_⟩
  cases r with
  | nil => exact h.elim
  | @cons d u ds us r1 r2 =>
    refine ⟨u, us, rfl, l1 σ H ρ μ (.v d) u _ _ S r1 h fun σ' ρ' μ' H' e1 S' h1 => ?_⟩
    exact l2 σ' H' ρ' μ' ds us _ _ S' (r2.ext S.mu e1) h1 fun a b c d e2 => k a b c d (e1.trans e2)
def qL (n : Nat) (gs : y7) : DTG := fun d ρ μ Q => match d with
  | .v (.tuple xs) => xs.length = n ∧ gs xs ρ μ Q
  | _ => False
theorem qW {k n : Nat} {gs : y7} (hc : X.calm = X.calm) (h : DGs X es gs)
    (hn : (assignEach es X.env).length = n := by rfl) (hst : (assignEach es X.env).findIdx? (·.1) = none := by rfl) : DG X (.Tuple es k pos) (qL n gs) := by
  obtain ⟨t1, p1, l1⟩ := h
  refine ⟨_, Np hc p1 hn hst, fun σ H ρ μ d u Qd Q S r h k => ?_⟩
  unfold qL at h
  split at h
  · cases r with
    | @tuple a us _ ha ra => exact ⟨a, us, rfl, ha, by rw [← ra.length]; exact h.1, l1 σ H ρ μ _ us _ _ S ra h.2 k⟩
  · exact h.elim
def GZ (to ti : DTE) : DTG := fun d ρ μ Q => to ρ μ fun o μ1 => ti ρ μ1 fun i μ2 => match o, i, d with
  | .m l, .v (.int k), .v x => (match μ2 l with
    | some xs => (match ixN xs.length k with
      | some j => Q ρ (aV μ2 l (xs.set j x))
      | none => False)
    | none => False)
  | _, _, _ => False
theorem Jk {o i : Expr} {to ti : DTE} (ho : DE X o to) (hi : DE X i ti)
    (ha : ∀ v, assign (.Subscript o i pos) X.env v = (do
      let ov ← holding [v] (eval o X.env)
      let iv ← holding [v, ov] (eval i X.env)
      standAt pos
      holding [v, ov, iv] (setItem ov iv v)
      release [v, ov, iv] []) := by intro _; rfl) : DG X (.Subscript o i pos) (GZ to ti) := by
  obtain ⟨t1, p1, l1⟩ := ho
  obtain ⟨t2, p2, l2⟩ := hi
  refine ⟨_, NN p1 p2 set_list ha, fun σ H ρ μ d u Qd Q S r h k => ?_⟩
  refine l1 σ H ρ μ _ _ S h fun x ux μ1 H1 e1 S1 rx h1 => ?_
  refine l2 σ H1 ρ μ1 _ _ S1 h1 fun y uy μ2 H2 e2 S2 ry h2 => ?_
  have r2 := (r.ext S.mu e1).ext S1.mu e2
  have rx2 := rx.ext S1.mu e2
  split at h2
  · rename_i l kk xv
    obtain ⟨rfl, ds, hm⟩ := rx2
    cases ry
    rw [hm] at h2
    obtain ⟨us, hl, rl⟩ := S2.mu l ds hm
    simp only at h2
    cases q : ixN ds.length kk with
    | none => rw [q] at h2; exact h2.elim
    | some j =>
      rw [q] at h2
      refine ⟨l, us, kk, j, rfl, rfl, hl, by rw [← rl.length]; exact q, ?_⟩
      have ex : Ext X.K μ2 H2 (aV μ2 l (ds.set j xv)) (upd H2 l (.lst (us.set j u))) := tP hm
      exact k σ ρ _ _ (e1.trans (e2.trans ex)) ⟨S2.mu.set hm (rl.set r2 j), S2.rho.ext S2.mu ex⟩ h2
  · exact h2.elim
def bC (te : DTE) (g : DTG) : DTS := fun Dd ρ μ => te ρ μ fun d μ1 => g d ρ μ1 Dd.nx
theorem DP {K : PySem.W.Frag} {t : TE} {g : TG} {gd : DTG} (l1 : tX K t te) (l2 : JN K g gd) : zJ K (M5 t g) (bC te gd) := by
  intro σ H ρ μ Dd De S h k1 k2 k3 k4
  refine l1 σ H ρ μ _ _ S h fun d u μ1 H1 e1 S1 r h1 => ?_
  exact l2 σ H1 ρ μ1 d u _ _ S1 r h1 fun a b c d e2 => k1 a b c d (e1.trans e2)
theorem pG {tg : Expr} {g : DTG} (he : DE X e te) (hg : DG X tg g) (hs : swapsWithSole [tg] e pos.line X.env = pure false := by rfl) (hw : swappedStores [tg] e X.env = pure none := by rfl)
    (h1 : (assignEach [tg] X.env).map (·.2) = [assign tg X.env] := by rfl) : DS X (.Assign [tg] e pos) (bC te g) := by
  obtain ⟨t1, p1, l1⟩ := he
  obtain ⟨t2, p2, l2⟩ := hg
  exact ⟨_, Nk p1 p2 hs hw h1, DP l1 l2⟩
theorem aI {i : Nat} {x : Str} {pos' : Pos} (hN : X.N.Nodup) (hi : X.N[i]? = some x) (hx : Loc X.env.scope x) (he : DE X e te) (hs : swapsWith e (some (.Name x pos')) pos.line X.env = pure false := by rfl) (hf : X.fn x = true ∨ X.env.scope.names.lookup x = some .local := by first | exact .inl rfl | exact .inr rfl | assumption) :
    DS X (.Assign [.Name x pos'] e pos) (bC te (au i)) := by
  obtain ⟨t1, p1, l1⟩ := he
  exact ⟨_, NL hN hi hx p1 hs hf, DP l1 wu⟩
def BU (i j : Nat) (t : DTA) : DTS := fun Dd ρ μ => t ρ μ fun ds μ1 => match ds with
  | [v, w] => Dd.nx ((ρ.set i (some v)).set j (some w)) μ1
  | _ => False
theorem rX {i j : Nat} {x y : Str} {a b : Expr} {t : DTA} {px py pt : Pos} {kt k2 pt2} (hc : X.calm = true) (hN : X.N.Nodup) (hi : X.N[i]? = some x) (hj : X.N[j]? = some y) (hij : i ≠ j)
    (hx : X.env.scope.names.lookup x = some .local) (hy : X.env.scope.names.lookup y = some .local) (ha : DA X [a, b] t)
    (hw : swappedStores [.Tuple [.Name x px, .Name y py] kt pt] (.Tuple [a, b] k2 pt2) X.env = pure (some [x, y]))
    (hs : swapsWithSole [.Tuple [.Name x px, .Name y py] kt pt] (.Tuple [a, b] k2 pt2) pos.line X.env = pure false := by rfl) :
    DS X (.Assign [.Tuple [.Name x px, .Name y py] kt pt] (.Tuple [a, b] k2 pt2) pos) (BU i j t) := by
  obtain ⟨t1, p1, l1⟩ := ha
  refine ⟨_, NC hc hN hi hj hij hx hy p1 hw hs, fun σ H ρ μ Dd De S h k1 k2 k3 k4 => ?_⟩
  refine l1 σ H ρ μ _ _ S h fun ds us μ1 H1 e1 S1 rs len h1 => ?_
  split at h1
  · cases rs with
    | cons r1 r2 =>
      cases r2 with
      | cons r2 r3 =>
        cases r3
        exact ⟨_, _, rfl, k1 _ _ μ1 H1 e1 ⟨S1.mu, (S1.rho.set r1).set r2⟩ h1⟩
  · exact h1.elim
def Eo (c : DTT) (tb : DTS) : DTS := fun Dd ρ μ => ∃ W : Nat → Rho → Mu → Prop, (∃ m, W m ρ μ) ∧ ∀ m ρ μ, W m ρ μ →
  c ρ μ fun b μ1 => if b = true then tb { Dd with nx := fun ρ' μ' => ∃ m', m' < m ∧ W m' ρ' μ', ct := fun ρ' μ' => ∃ m', m' < m ∧ W m' ρ' μ', bk := Dd.nx } ρ μ1 else Dd.nx ρ μ1
theorem CF {c : Expr} {body : List Stmt} (hp : PassesOwn (model X.prog X.w) X.A X.env X.xe) (hc : DT X c tc) (hb : DSs X body td) : DS X (.While c body [] pos) (Eo tc td) := by
  obtain ⟨t0, p0, l0⟩ := hc
  obtain ⟨t1, p1, l1⟩ := hb
  refine ⟨_, IA hp p0 p1, fun σ H ρ μ Dd De S h k1 k2 k3 k4 => ?_⟩
  obtain ⟨W, ⟨m, w0⟩, turn⟩ := h
  refine ⟨fun m σ' H' => ∃ ρ' μ', Ext X.K μ H μ' H' ∧ St0 X.K H' ρ' μ' σ' ∧ W m ρ' μ', ⟨m, ρ, μ, .refl, S, w0⟩, ?_⟩
  rintro m σ1 H1 ⟨ρ1, μ1, e1, S1, w1⟩
  refine l0 σ1 H1 ρ1 μ1 _ _ S1 (turn m ρ1 μ1 w1) fun b μ2 H2 e2 S2 h2 => ?_
  cases b with
  | true =>
    refine Cm ⟨fun σ' H' => ∃ m', m' < m ∧ ∃ ρ' μ', Ext X.K μ H μ' H' ∧ St0 X.K H' ρ' μ' σ' ∧ W m' ρ' μ', fun σ' H' ⟨m', hm, q⟩ => ⟨m', hm, q⟩, ?_⟩
    have nxt : ∀ σ' ρ' μ' H', Ext X.K μ2 H2 μ' H' → St0 X.K H' ρ' μ' σ' → (∃ m', m' < m ∧ W m' ρ' μ') → ∃ m', m' < m ∧ ∃ ρ' μ', Ext X.K μ H μ' H' ∧ St0 X.K H' ρ' μ' σ' ∧ W m' ρ' μ' :=
      fun σ' ρ' μ' H' e3 S3 ⟨m', hm, q⟩ => ⟨m', hm, ρ', μ', e1.trans (e2.trans e3), S3, q⟩
    rw [if_pos rfl] at h2
    exact l1 σ1 H2 ρ1 μ2 _ _ S2 h2 nxt (fun a b c d e3 => k2 a b c d (e1.trans (e2.trans e3))) (fun a b c d e3 => k1 a b c d (e1.trans (e2.trans e3))) nxt
  | false => exact Cg (k1 σ1 ρ1 μ2 H2 (e1.trans e2) S2 (by simpa using h2))
abbrev DTI := Rho → Mu → (List PyData → Mu → Prop) → Prop
def La (K : PySem.W.Frag) (J : It) (xs : List PyData) (μ1 : Mu) (H1 : Hp) : Prop := ∀ μ2 H2, Ext K μ1 H1 μ2 H2 → dZ K μ2 H2 → ∀ i, (i < xs.length → J.go i H2 ∧ ∀ x H', J.yld i H2 x H' → ∃ d, xs[i]? = some d ∧ rZ H2 H' ∧ Rp K μ2 H' d x) ∧ (i = xs.length → J.stop i H2)
def Pm (K : PySem.W.Frag) (wi : TI) (src : DTI) : Prop := ∀ (σ : St) (H : Hp) (ρ : Rho) (μ : Mu) (Qd : List PyData → Mu → Prop) (R : It → Hp → Prop), St0 K H ρ μ σ → src ρ μ Qd →
  (∀ xs μ1 H1 J, Ext K μ H μ1 H1 → St0 K H1 ρ μ1 σ → La K J xs μ1 H1 → Qd xs μ1 → R J H1) → wi σ H R
def DI (X : Cx) (tg iter : Expr) (src : DTI) : Prop := ∃ wi, PI X tg iter wi ∧ Pm X.K wi src
variable {tg : Expr}
def xD (te : DTE) : DTI := fun ρ μ Q => te ρ μ fun d μ1 => match d with
  | .v (.list xs) => Q xs μ1
  | _ => False
def qI (te : DTE) : DTI := fun ρ μ Q => te ρ μ fun d μ1 => match d with
  | .v (.tuple xs) => Q xs μ1
  | _ => False
theorem B1 (h : DE X e te) : DI X tg e (xD te) := by
  obtain ⟨t1, p1, l1⟩ := h
  refine ⟨_, GB p1, fun σ H ρ μ Qd R S h k => ?_⟩
  refine l1 σ H ρ μ _ _ S h fun d u μ1 H1 e1 S1 r h1 => ?_
  split at h1
  · rename_i xs
    cases r with
    | @list a us _ ha hn ra =>
      refine ⟨a, rfl, ⟨us, SqL.of ha⟩, k xs μ1 H1 _ e1 S1 (fun μ2 H2 e2 ok2 i => ⟨fun hi => ?_, fun hi => ?_⟩) h1⟩
      · have ha2 := e2.keep _ _ ha hn trivial
        have hiu : i < us.length := by rw [← ra.length]; exact hi
        refine ⟨⟨us, us[i], SqL.of ha2, by simp [hiu]⟩, fun x H' ⟨eH, hx⟩ => ?_⟩
        subst eH
        obtain ⟨u', h1', h2'⟩ := ra.get (i := i) (d := xs[i]) (by simp [hi])
        have := hx us (SqL.of ha2)
        rw [h1'] at this
        cases this
        exact ⟨xs[i], by simp [hi], rZ.refl _, h2'.ext S1.mu e2⟩
      · exact ⟨us, SqL.of (e2.keep _ _ ha hn trivial), by rw [← ra.length]; omega⟩
  · exact h1.elim
theorem rC (h : DE X e te) : DI X tg e (qI te) := by
  obtain ⟨t1, p1, l1⟩ := h
  refine ⟨_, MO p1, fun σ H ρ μ Qd R S h k => ?_⟩
  refine l1 σ H ρ μ _ _ S h fun d u μ1 H1 e1 S1 r h1 => ?_
  split at h1
  · rename_i xs
    cases r with
    | @tuple a us _ ha ra =>
      refine ⟨a, rfl, ⟨us, ha⟩, k xs μ1 H1 _ e1 S1 (fun μ2 H2 e2 ok2 i => ⟨fun hi => ?_, fun hi => ?_⟩) h1⟩
      · have ha2 := A9 S1.mu e2 ha
        have hiu : i < us.length := by rw [← ra.length]; exact hi
        refine ⟨⟨us, us[i], ha2, by simp [hiu]⟩, fun x H' ⟨eH, hx⟩ => ?_⟩
        subst eH
        obtain ⟨u', h1', h2'⟩ := ra.get (i := i) (d := xs[i]) (by simp [hi])
        have := hx us ha2
        rw [h1'] at this
        cases this
        exact ⟨xs[i], by simp [hi], rZ.refl _, h2'.ext S1.mu e2⟩
      · exact ⟨us, A9 S1.mu e2 ha, by rw [← ra.length]; omega⟩
  · exact h1.elim
def oT (lo : Int) (n : Nat) : List PyData := (List.range n).map fun (i : Nat) => PyData.int (lo + (i : Int))
theorem Kg {K : PySem.W.Frag} {lo : Int} {n : Nat} {μ : Mu} {H : Hp} : La K (Itr lo n) (oT lo n) μ H := fun μ2 H2 e2 ok2 i => by
  have hl : (oT lo n).length = n := by unfold oT; simp
  refine ⟨fun hi => ?_, fun hi => ?_⟩
  · rw [hl] at hi
    refine ⟨hi, fun x H' ⟨eH, hx⟩ => ?_⟩
    subst eH hx
    exact ⟨.int (lo + i), by unfold oT; simp [hi], rZ.refl _, .int _⟩
  · show n ≤ i
    omega
def pq (t : DTA) : DTI := fun ρ μ Q => t ρ μ fun ds μ1 => match ds with
  | [.v (.int j)] => (-(2 ^ 62) ≤ j ∧ j < 2 ^ 62) ∧ Q (oT 0 j.toNat) μ1
  | _ => False
def wN (t : DTA) : DTI := fun ρ μ Q => t ρ μ fun ds μ1 => match ds with
  | [.v (.int i), .v (.int j)] => (-(2 ^ 62) ≤ i ∧ i < 2 ^ 62 ∧ -(2 ^ 62) ≤ j ∧ j < 2 ^ 62) ∧ Q (oT i (j - i).toNat) μ1
  | _ => False
theorem qb {a : Expr} {t : DTA} {p pos : Pos} (hg : Gl X "range") (hm : X.mg "range" = none) (ha : DA X [a] t) (hs : starEach [a] X.env = [(false, eval a X.env)] := by rfl) (hc : X.calm = true := by rfl) : DI X tg (.Call (.Name "range" p) [a] [] pos) (pq t) := by
  obtain ⟨t1, p1, l1⟩ := ha
  refine ⟨_, Hx hc hg hm p1 hs, fun σ H ρ μ Qd R S h k => ?_⟩
  refine l1 σ H ρ μ _ _ S h fun ds us μ1 H1 e1 S1 rs len h1 => ?_
  split at h1
  · rename_i j
    cases rs with
    | cons r1 r2 => cases r2; cases r1; exact ⟨j, rfl, h1.1.1, h1.1.2, k _ μ1 H1 _ e1 S1 Kg h1.2⟩
  · exact h1.elim
theorem GQ {a b : Expr} {t : DTA} {p pos : Pos} (hg : Gl X "range") (hm : X.mg "range" = none) (ha : DA X [a, b] t) (hs : starEach [a, b] X.env = [(false, eval a X.env), (false, eval b X.env)] := by rfl) (hs2 : starEach [b] X.env = [(false, eval b X.env)] := by rfl) (hc : X.calm = true := by rfl) : DI X tg (.Call (.Name "range" p) [a, b] [] pos) (wN t) := by
  obtain ⟨t1, p1, l1⟩ := ha
  refine ⟨_, G9 hc hg hm p1 hs hs2, fun σ H ρ μ Qd R S h k => ?_⟩
  refine l1 σ H ρ μ _ _ S h fun ds us μ1 H1 e1 S1 rs len h1 => ?_
  split at h1
  · rename_i i j
    cases rs with
    | cons r1 r2 =>
      cases r2 with
      | cons r2 r3 => cases r3; cases r1; cases r2; exact ⟨i, j, rfl, h1.1, k _ μ1 H1 _ e1 S1 Kg h1.2⟩
  · exact h1.elim
def vk (src : DTI) (g : DTG) (tb : DTS) : DTS := fun Dd ρ μ => src ρ μ fun xs μ1 => ∃ Pv : Nat → Rho → Mu → Prop, Pv 0 ρ μ1 ∧
  (∀ i x ρ' μ', xs[i]? = some x → Pv i ρ' μ' → g (.v x) ρ' μ' fun ρ2 μ2 => tb { Dd with nx := Pv (i + 1), ct := Pv (i + 1), bk := Dd.nx } ρ2 μ2) ∧ (∀ ρ' μ', Pv xs.length ρ' μ' → Dd.nx ρ' μ')
theorem mY {iter : Expr} {body : List Stmt} {src : DTI} {g : DTG} (hp : PassesOwn (model X.prog X.w) X.A X.env X.xe) (hc : X.calm = true) (hi : DI X tg iter src) (hg : DG X tg g) (hb : DSs X body td)
    (hs : ∀ x, foldedSetIterable iter X.env x = pure x := by intro _; rfl) : DS X (.For tg iter body [] pos) (vk src g td) := by
  obtain ⟨t0, p0, l0⟩ := hi
  obtain ⟨t1, p1, l1⟩ := hg
  obtain ⟨t2, p2, l2⟩ := hb
  refine ⟨_, JL hp hc p0 p1 p2 hs, fun σ H ρ μ Dd De S h k1 k2 k3 k4 => ?_⟩
  refine l0 σ H ρ μ _ _ S h fun xs μ1 H1 J e1 S1 it h1 => ?_
  obtain ⟨Pv, pv0, turn, fin⟩ := h1
  refine ⟨fun i m σ' H' => m = xs.length - i ∧ i ≤ xs.length ∧ ∃ ρ' μ', Ext X.K μ1 H1 μ' H' ∧ St0 X.K H' ρ' μ' σ' ∧ Pv i ρ' μ', ⟨xs.length, by simp, Nat.zero_le _, ρ, μ1, .refl, S1, pv0⟩, ?_⟩
  rintro i m σ' H' ⟨rfl, hi, ρ', μ', e2, S2, pv⟩
  obtain ⟨go, stop⟩ := it μ' H' e2 S2.mu i
  by_cases hlt : i < xs.length
  · obtain ⟨g1, y1⟩ := go hlt
    refine .inr ⟨g1, fun σ2 H2 => ∃ ρ2 μ2, Ext X.K μ1 H1 μ2 H2 ∧ St0 X.K H2 ρ2 μ2 σ2 ∧ Pv (i + 1) ρ2 μ2, fun σ2 H2 q => ⟨xs.length - (i + 1), by omega, rfl, hlt, q⟩, fun x H2 yl => ?_⟩
    obtain ⟨d, hd, sm, rd⟩ := y1 x H2 yl
    have e3 : Ext X.K μ' H' μ' H2 := .of_same sm
    have S3 : St0 X.K H2 ρ' μ' σ' := ⟨S2.mu.LN e3 sm, S2.rho.ext S2.mu e3⟩
    refine l1 σ' H2 ρ' μ' (.v d) x _ _ S3 rd (turn i d ρ' μ' hd pv) fun σ4 ρ4 μ4 H4 e4 S4 h4 => ?_
    have nxt : ∀ a b c dd, Ext X.K μ4 H4 c dd → St0 X.K dd b c a → Pv (i + 1) b c → ∃ ρ2 μ2, Ext X.K μ1 H1 μ2 dd ∧ St0 X.K dd ρ2 μ2 a ∧ Pv (i + 1) ρ2 μ2 := fun a b c dd e5 S5 q => ⟨b, c, e2.trans (e3.trans (e4.trans e5)), S5, q⟩
    have ee := e1.trans (e2.trans (e3.trans e4))
    exact l2 σ4 H4 ρ4 μ4 _ _ S4 h4 nxt (fun a b c d e5 => k2 a b c d (ee.trans e5)) (fun a b c d e5 => k1 a b c d (ee.trans e5)) nxt
  · have ei : i = xs.length := by omega
    subst ei
    exact .inl ⟨stop rfl, k1 σ' ρ' μ' H' (e1.trans e2) S2 (fin ρ' μ' pv)⟩
end
abbrev DSp := List D → Mu → DK → Prop
def spD (K : PySem.W.Frag) (dsp : DSp) : Sp := fun vs H Q _ => ∃ (ds : List D) (μ : Mu) (Qd : DK), dZ K μ H ∧ lB K μ H ds vs ∧ dsp ds μ Qd ∧
  (∀ d u μ' H', Ext K μ H μ' H' → dZ K μ' H' → RpD K μ' H' d u → Qd d μ' → Q u H')
def aK (N : List Str) (ds : List D) : Rho := ds.map some ++ List.replicate (N.length - ds.length) none
theorem lB.get {K : PySem.W.Frag} {μ : Mu} {H : Hp} {ds : List D} {us : List V} : ∀ {i : Nat} {d : D}, lB K μ H ds us → ds[i]? = some d → ∃ u, us[i]? = some u ∧ RpD K μ H d u
  | _, _, .nil, h => by simp at h
  | 0, _, .cons r _, h => by simp at h; subst h; exact ⟨_, rfl, r⟩
  | i + 1, d, .cons _ t, h => by
    obtain ⟨u, h1, h2⟩ := lB.get (i := i) (d := d) t (by simpa using h)
    exact ⟨u, by simpa using h1, h2⟩
theorem Ho {K : PySem.W.Frag} {μ : Mu} {H : Hp} {N : List Str} {ds : List D} {vs : List V} (r : lB K μ H ds vs) : jx K μ H (aK N ds) (start N vs) := by
  have hl := r.length
  refine ⟨by unfold aK start; simp [hl], fun i d e => ?_⟩
  unfold aK at e
  by_cases hi : i < ds.length
  · rw [List.getElem?_append_left (by simpa using hi), List.getElem?_map] at e
    unfold start
    rw [List.getElem?_append_left (by simpa [hl] using hi), List.getElem?_map]
    cases q : ds[i]? with
    | none => rw [q] at e; cases e
    | some d' =>
      rw [q] at e
      cases e
      obtain ⟨u, h1, h2⟩ := r.get q
      exact ⟨u, by rw [h1]; rfl, h2⟩
  · rw [List.getElem?_append_right (by simpa using hi), List.getElem?_replicate] at e
    split at e <;> cases e
section
variable {P : Program} {w : World} {K : PySem.W.Frag} {mg : Str → Option Value} {base : Heap}
theorem _root_.L2.Fun.okD {x qual : Str} {st : Stmt} {f : Addr} {fd : FuncData} {N ps : List Str} {k : Nat} {dsp : DSp} (F : Fun K x qual st f fd) (S : aG N ps (az st)) (len : ∀ ds μ Q, dsp ds μ Q → ds.length = ps.length)
    (hbody : ∀ (cdv : Value) (A : Around) (outer : List Env) (s : Shared) (H : Hp) (E : XK), mG k (A.deeper (envOfC qual (az st) s.heap.objs.size f cdv)) →
      ∃ td, DSs (E7 CX0 P w K mg base N qual (az st) f cdv A outer s H E).nox (kI st) td ∧ ∀ ds μ Qd, dsp ds μ Qd → td { nx := fun _ μ' => Qd (.v .none) μ', rt := Qd } (aK N ds) μ) : bM P w K mg base CX0 (k + 1) f fd ps (spD K dsp) := by
  refine F.ok S (fun vs H Q E h => ?_) (fun cdv A outer s H vs Q E hr h => ?_)
  · obtain ⟨ds, μ, Qd, _, r, h, _⟩ := h
    rw [← r.length]
    exact len ds μ Qd h
  · obtain ⟨ds, μ, Qd, ok, r, h, fin⟩ := h
    obtain ⟨td, ⟨t, p, l⟩, rd⟩ := hbody cdv A outer s H E hr
    refine ⟨t, p, ?_⟩
    exact l (start N vs) H (aK N ds) μ _ _ ⟨ok, Ho r⟩ (rd ds μ Qd h) (fun σ' ρ' μ' H' e' S' q => fin (.v .none) .non μ' H' e' S'.mu Rp.none q) (fun d u μ' H' e' ok' r' q => fin d u μ' H' e' ok' r' q) (fun _ _ _ _ _ _ q => q) (fun _ _ _ _ _ _ q => q)
end
section
variable {X : Cx} {e : Expr} {es : List Expr} {t : DTA} {p pos : Pos} {x : Str} {k : Nat} {f : Addr} {fd : FuncData} {ps : List Str} {dsp : DSp}
def ao (dsp : DSp) (t : DTA) : DTE := fun ρ μ Q => t ρ μ fun ds μ1 => dsp ds μ1 Q
theorem ah (F : bM X.prog X.w X.K X.mg X.base CX0 k f fd ps (spD X.K dsp)) (hr : mG k X.A) (hg : Gl X x) (hm : X.mg x = some (.ref f)) (hk : PySem.W.keepIn X.K (.ref f) = true) (hb : Binds X.K fd ps [])
    (ha : DA X (e :: es) t) (hdb : (x == ("__debug__" : Str)) = false := by decide) (he : starEach (e :: es) X.env = (false, eval e X.env) :: starEach es X.env := by rfl) (hpl : (backTo pos (starEach es X.env)).any (·.1) = false := by rfl) :
    DE X (.Call (.Name x p) (e :: es) [] pos) (ao dsp t) := by
  obtain ⟨t1, p1, l1⟩ := ha
  refine ⟨_, Ls F hr hg hm hk hb .nil Pa p1 hdb he hpl, fun σ H ρ μ Qd Q S h kk => ?_⟩
  refine l1 σ H ρ μ _ _ S h fun ds us μ1 H1 e1 S1 rs len h1 => ?_
  refine ⟨ds, μ1, Qd, S1.mu, by rw [List.append_nil]; exact rs, h1, fun d u μ' H' e2 ok r q => ?_⟩
  exact kk d u μ' H' (e1.trans e2) ⟨ok, S1.rho.ext S1.mu e2⟩ r q
end
section
variable {X : Cx} {o e : Expr} {to te : DTE} {apos cpos : Pos}
def C2 (to te : DTE) : DTE := fun ρ μ Q => to ρ μ fun x μ1 => match x with
  | .m l => te ρ μ1 fun y μ2 => (match y, μ2 l with
    | .v d, some xs => xs.length < 1000 ∧ Q (.v .none) (aV μ2 l (xs ++ [d]))
    | _, _ => False)
  | _ => False
theorem ml (ho : DE X o to) (ha : DE X e te) (hbase : attributeBase o "append" X.env (eval o X.env) = eval o X.env := by rfl)
    (hfew : ((backTo cpos (starEach [e] X.env)).all (fun x => !x.1) && (backToKw cpos (keywordEach [] X.env)).all (fun x => x.1.isSome)
      && decide ([e].length + ([] : List Keyword).length + (if ([] : List Keyword).isEmpty then 0 else 1) < 30)) = true := by rfl)
    (hline : (apos.endLine == cpos.line) = true := by rfl) (hs : starEach [e] X.env = (false, eval e X.env) :: starEach [] X.env := by rfl) (hplain : (backTo cpos (starEach [] X.env)).any (·.1) = false := by rfl) :
    DE X (.Call (.Attribute o "append" apos) [e] [] cpos) (C2 to te) := by
  obtain ⟨t1, p1, l1⟩ := ho
  obtain ⟨t2, p2, l2⟩ := ha
  refine ⟨_, Mj PySem.F.plainAttrs_list PySem.F.slot_list_append PySem.F.type_list_append vi p1 (nr p2 vj hs) hbase hfew hline hs hplain, fun σ H ρ μ Qd Q S h k => ?_⟩
  refine l1 σ H ρ μ _ _ S h fun x ux μ1 H1 e1 S1 rx h1 => ?_
  cases x with
  | m l =>
    obtain ⟨rfl, ds, hm⟩ := id rx
    obtain ⟨us, hl, rl⟩ := S1.mu l ds hm
    refine ⟨.inl ⟨rfl, us, SqL.of hl⟩, ?_⟩
    refine l2 σ H1 ρ μ1 _ _ S1 h1 fun y uy μ2 H2 e2 S2 ry h2 => ?_
    obtain ⟨_, ds2, hm2⟩ := rx.ext S1.mu e2
    obtain ⟨us2, hl2, rl2⟩ := S2.mu l ds2 hm2
    rw [hm2] at h2
    cases y with
    | v d =>
      have h3 : ds2.length < 1000 ∧ Qd (.v .none) (aV μ2 l (ds2 ++ [d])) := h2
      refine ⟨l, us2, uy, rfl, rfl, hl2, by rw [← rl2.length]; exact jY (Nat.le_of_lt h3.1), ?_⟩
      have ex : Ext X.K μ2 H2 (aV μ2 l (ds2 ++ [d])) (upd H2 l (.lst (us2 ++ [uy]))) := tP hm2
      exact k (.v .none) .non _ _ (e1.trans (e2.trans ex)) ⟨S2.mu.set hm2 (rl2.append (.cons ry .nil)), S2.rho.ext S2.mu ex⟩ Rp.none h3.2
    | m _ => exact h2.elim
    | s _ => exact h2.elim
    | o _ => exact h2.elim
    | q _ => exact h2.elim
  | v d => exact h1.elim
  | s ns => exact h1.elim
  | o _ => exact h1.elim
  | q _ => exact h1.elim
def Qj (to te : DTE) : DTE := fun ρ μ Q => to ρ μ fun x μ1 => match x with
  | .m l => te ρ μ1 fun y μ2 => (match y, μ2 l with
    | .v (.list ys), some xs => xs.length + ys.length ≤ 1000 ∧ Q (.v .none) (aV μ2 l (xs ++ ys))
    | _, _ => False)
  | _ => False
def Pt (to : DTE) : DTE := fun ρ μ Q => to ρ μ fun x μ1 => match x with
  | .v (.int i) => Q (.v (.int (Builtin.Int.intBits i : Nat))) μ1
  | _ => False
end
open PySem PySem.Spec PyProof.Rows
theorem kS {prog : Program} {w : World} {A : Around} {R : Result → Shared → Prop} {s : Shared} {elt target iter : Expr} {ifs : List Expr} {scope : Scope} {pos : Pos} {it acc : Value} {env : Env} (I : Nat → Shared → Prop)
    (turn : ∀ n s, I n s → wpAny (model prog w) A (pyNext it) (fun r s₁ => match r with
      | none => R (.ok .next) s₁
      | some v => wpAny (model prog w) A (letOwnedTupleGo target it v) (fun _ s' => wpAny (model prog w) A (assign target env v) (fun _ s₂ =>
          wpAny (model prog w) A (forIn ifs true fun c r => if r = true then do let ok ← isTrue c env (eval c env); pure (ForInStep.yield ok) else pure (ForInStep.yield r)) (fun ok s₃ =>
            if ok = true then wpAny (model prog w) A (eval elt env) (fun x s₄ =>
              wpAny (model prog w) A (call (.builtin "list.append") [acc, x]) (fun _ s₅ => ∃ m, m < n ∧ I m s₅) (fun _ _ => False) s₄) (fun _ _ => False) s₃
            else ∃ m, m < n ∧ I m s₃) (fun _ _ => False) s₂) (fun _ _ => False) s') (fun _ _ => False) s₁) (fun _ _ => False) s)
    (n : Nat) (h : I n s) :
    codeAny (model prog w) A (.compLoop (.ListComp elt [⟨target, iter, ifs, 0⟩] scope pos) 0 it acc env) R s := by
  refine codeAny_loop rfl I (fun n s hI => ?_) n h
  show wpAny _ A ((compTurn (.ListComp elt [⟨target, iter, ifs, 0⟩] scope pos) 0 it acc env).onRaise (fun x => do noteFrame x env; theTreesLotGoes x)) _ _ s
  refine wpAny_noted ?_
  rw [compTurn_list]
  refine wpAny_bind (wpAny_standAt (wpAny_bind (wpAny_mono (turn n s hI) (fun r s₁ h₁ => ?_) fun _ _ h' => h'.elim)))
  cases r with
  | none => exact wpAny_pure h₁
  | some v =>
    refine wpAny_bind (wpAny_mono h₁ (fun _ s' h' => ?_) fun _ _ h' => h'.elim)
    refine wpAny_bind (wpAny_mono h' (fun _ s₂ h₂ => wpAny_bind (wpAny_mono h₂ (fun ok s₃ h₃ => ?_) fun _ _ h' => h'.elim)) fun _ _ h' => h'.elim)
    cases ok with
    | false => exact wpAny_pure ⟨rfl, h₃⟩
    | true =>
      exact wpAny_bind (wpAny_bind (wpAny_mono h₃ (fun x s₄ h₄ => wpAny_bind (wpAny_mono h₄ (fun _ s₅ h₅ => wpAny_pure (wpAny_pure ⟨rfl, h₅⟩)) fun _ _ h' => h'.elim)) fun _ _ h' => h'.elim))
section
variable {K : PySem.W.Frag} {μ μ' : Mu} {H : Hp}
mutual
theorem Rp.shrink {d : PyData} {u : V} (sub : ∀ a, μ' a = none → μ a = none) : Rp K μ' H d u → Rp K μ H d u
  | .none => .none
  | .bool b => .bool b
  | .int i => .int i
  | .str x => .str x
  | .list h n r => .list h (sub _ n) (RpL.shrink sub r)
  | .tuple h r => .tuple h (RpL.shrink sub r)
theorem RpL.shrink {ds : List PyData} {us : List V} (sub : ∀ a, μ' a = none → μ a = none) : RpL K μ' H ds us → RpL K μ H ds us
  | .nil => .nil
  | .cons h r => .cons (Rp.shrink sub h) (RpL.shrink sub r)
end
end
theorem OC {X : Cx} {e : Expr} {td : DTE} (h : ∀ (pins : List (Addr × Obj)) (s : Shared) (σ : St) (H : Hp) (ρ : Rho) (μ : Mu) (Qd : DK) (Q : VK), Inv X pins σ H s → St0 X.K H ρ μ σ → td ρ μ Qd →
    (∀ d u μ' H', Ext X.K μ H μ' H' → St0 X.K H' ρ μ' σ → RpD X.K μ' H' d u → Qd d μ' → Q u H') → wpAny (model X.prog X.w) X.A (eval e X.env) (EP X pins σ Q) X.xe s) : DE X e td :=
  ⟨fun σ H Q => ∃ ρ μ Qd, St0 X.K H ρ μ σ ∧ td ρ μ Qd ∧ (∀ d u μ' H', Ext X.K μ H μ' H' → St0 X.K H' ρ μ' σ → RpD X.K μ' H' d u → Qd d μ' → Q u H'),
    fun pins s σ H Q I ⟨ρ, μ, Qd, S, q, k⟩ => h pins s σ H ρ μ Qd Q I S q k, fun σ H ρ μ Qd Q S q k => ⟨ρ, μ, Qd, S, q, k⟩⟩
def bZ (X : Cx) (N' : List Str) (scope : Scope) (cl : List (Str × Addr)) (fp : List Addr) (s₃ : Shared) (H₃ : Hp) : Cx :=
  { X with N := N', s₀ := s₃, H₀ := H₃, env := compEnvC scope cl s₃.heap.objs.size X.env, outer := X.stack, stack := X.stack, ex := fp, fn := fun _ => false, pn := X.pn, xe := fun _ _ => False }
def Le : Rho → Rho → Prop
  | [], [] => True
  | none :: r, _ :: r' => Le r r'
  | some d :: r, some d' :: r' => d = d' ∧ Le r r'
  | _, _ => False
theorem Le.get : ∀ {ρ ρ' : Rho}, Le ρ ρ' → ρ.length = ρ'.length ∧ ∀ (i : Nat) d, ρ[i]? = some (some d) → ρ'[i]? = some (some d)
  | [], [], _ => ⟨rfl, fun _ _ h => h⟩
  | none :: r, x :: r', h => by
    obtain ⟨h1, h2⟩ := Le.get (ρ := r) (ρ' := r') h
    refine ⟨congrArg (· + 1) h1, fun i d e => ?_⟩
    cases i with
    | zero => simp at e
    | succ j => exact h2 j d (by simpa using e)
  | some d :: r, some d' :: r', h => by
    obtain ⟨rfl, h⟩ := h
    obtain ⟨h1, h2⟩ := Le.get (ρ := r) (ρ' := r') h
    refine ⟨congrArg (· + 1) h1, fun i d e => ?_⟩
    cases i with
    | zero => simpa using e
    | succ j => exact h2 j d (by simpa using e)
  | some d :: r, none :: r', h => h.elim
  | [], _ :: _, h => h.elim
  | none :: _, [], h => h.elim
  | some _ :: _, [], h => h.elim
def d7 {α : Type} (cap : List (Option Nat)) (ρ : List (Option α)) : List (Option α) := cap.map fun o => o.bind fun j => (ρ[j]?).join
def vE (cap : List (Option Nat)) (src : DTI) (g : DTG) (c : DTT) (elt : DTE) : DTE := fun ρ μ Q => src ρ μ fun xs μ1 => xs.length ≤ 1000 ∧ ∃ f : PyData → Option PyData,
  (∀ x ∈ xs, ∀ μ' : Mu, (∀ a ds, μ1 a = some ds → μ' a = some ds) → g (.v x) (d7 cap ρ) μ' fun ρ2 μ2 => Le (d7 cap ρ) ρ2 ∧ c ρ2 μ2 fun b μ3 =>
    if b = true then elt ρ2 μ3 fun d μ4 => μ4 = μ' ∧ (match d with | .v y => f x = some y | _ => False) else μ3 = μ' ∧ f x = none) ∧ Q (.v (.list (xs.filterMap f))) μ1
def JW (X : Cx) (ifs : List Expr) (c : DTT) : Prop := ∀ (pins : List (Addr × Obj)) (s : Shared) (σ : St) (H : Hp) (ρ : Rho) (μ : Mu) (Qd : Bool → Mu → Prop) (Q : Bool → Hp → Prop), Inv X pins σ H s → St0 X.K H ρ μ σ → c ρ μ Qd →
  (∀ b μ' H', Ext X.K μ H μ' H' → St0 X.K H' ρ μ' σ → Qd b μ' → Q b H') →
  wpAny (model X.prog X.w) X.A (forIn ifs true fun c r => if r = true then do let ok ← isTrue c X.env (eval c X.env); pure (ForInStep.yield ok) else pure (ForInStep.yield r)) (TP X pins σ Q) X.xe s
def qG : DTT := fun _ μ Q => Q true μ
theorem jc {X : Cx} : JW X [] qG := fun pins s σ H ρ μ Qd Q I S h k => wpAny_tests_nil ⟨H, I, k true μ H .refl S h⟩
theorem KD {X : Cx} {c : Expr} {tc : DTT} (h : DT X c tc) : JW X [c] tc := by
  obtain ⟨t, p, l⟩ := h
  exact fun pins s σ H ρ μ Qd Q I S h k => wpAny_tests_one (p pins s σ H _ I (l σ H ρ μ _ _ S h k))
theorem Un.after {fs ex : List Addr} {H H1 : Hp} {h h1 h' : Heap} (u : Un fs ex H H1 h h1) (k : ∀ b o, b < h.objs.size → h1.get? b = some o → h'.get? b = some o) : Un fs ex H H1 h h' :=
  ⟨fun b o e n hb hx => k b o (Heap.lt_size e) (u.keep b o e n hb hx), fun b o e n hb hx => let ⟨sl, q⟩ := u.slot b o e n hb hx; ⟨sl, k b _ (Heap.lt_size e) q⟩, u.free, fun b o e hx => let ⟨o', q⟩ := u.there b o e hx; ⟨o', k b _ (Heap.lt_size e) q⟩, u.uz, u.tM, u.tN⟩
theorem wM {α : Type} {cap : List (Option Nat)} {ρ : List (Option α)} {i : Nat} {d : α} (h : (d7 cap ρ)[i]? = some (some d)) : ∃ j, cap[i]? = some (some j) ∧ ρ[j]? = some (some d) := by
  unfold d7 at h
  rw [List.getElem?_map] at h
  cases q : cap[i]? with
  | none => rw [q] at h; cases h
  | some o =>
    rw [q] at h
    cases o with
    | none => cases h
    | some j =>
      refine ⟨j, rfl, ?_⟩
      simp only [Option.map_some, Option.bind_some, Option.some.injEq] at h
      cases z : ρ[j]? with
      | none => rw [z] at h; cases h
      | some y => rw [z] at h; simp only [Option.join_some] at h; rw [h]
theorem IY {α : Type} {cap : List (Option Nat)} {ρ : List (Option α)} {i j : Nat} {d : α} (h : cap[i]? = some (some j)) (e : ρ[j]? = some (some d)) : (d7 cap ρ)[i]? = some (some d) := by
  unfold d7
  rw [List.getElem?_map, h]
  simp [e]
theorem jx.cap {K : PySem.W.Frag} {μ : Mu} {H : Hp} {ρ : Rho} {σ : St} {cap : List (Option Nat)} (r : jx K μ H ρ σ) : jx K μ H (d7 cap ρ) (d7 cap σ) := by
  refine ⟨by unfold d7; simp, fun i d e => ?_⟩
  obtain ⟨j, h1, h2⟩ := wM e
  obtain ⟨u, h3, h4⟩ := r.2 j d h2
  exact ⟨u, IY h1 h3, h4⟩
theorem jx.le {K : PySem.W.Frag} {μ : Mu} {H : Hp} {ρ ρ' : Rho} {σ : St} (r : jx K μ H ρ' σ) (l : Le ρ ρ') : jx K μ H ρ σ :=
  ⟨l.get.1.trans r.1, fun i d e => r.2 i d (l.get.2 i d e)⟩
theorem AH {xs : List PyData} {f : PyData → Option PyData} {i : Nat} {d : PyData} (h : xs[i]? = some d) : (xs.take (i + 1)).filterMap f = (xs.take i).filterMap f ++ (f d).toList := by
  obtain ⟨hi, e⟩ := List.getElem?_eq_some_iff.mp h
  rw [List.take_succ_eq_append_getElem hi, List.filterMap_append, e]
  cases q : f d <;> simp [q]
theorem qg {X : Cx} {N' : List Str} {scope : Scope} {cl : List (Str × Addr)} {elt iter tg : Expr} {ifs : List Expr} {pos : Pos} {cap : List (Option Nat)} {src : DTI} {g : DTG} {c : DTT} {te : DTE} (hc : X.calm = X.calm)
    (hi : DI X tg iter src) (hg : ∀ fp s₃ H₃, DG (bZ X N' scope cl fp s₃ H₃) tg g) (hif : ∀ fp s₃ H₃, JW (bZ X N' scope cl fp s₃ H₃) ifs c) (he : ∀ fp s₃ H₃, DE (bZ X N' scope cl fp s₃ H₃) elt te)
    (hclos : closureFor scope X.env = pure cl) (hcell : ∀ y ∈ scope.names, y.2 ≠ .cell) (hkind : scope.kind = .function) (hnames : ∀ y ∈ scope.names, y.2 = .local → scope.names.lookup y.1 = some .local)
    (hcl : ∀ x a, cl.lookup x = some a → X.env.cells.lookup x = some a) (hhas : ∀ x, (relabel scope X.env).names.lookup x = some .cell ∨ (relabel scope X.env).names.lookup x = some .free → ∃ a, cl.lookup x = some a)
    (hlen : cap.length = N'.length) (hcap : ∀ (i j : Nat) (x : Str), cap[i]? = some (some j) → N'[i]? = some x → X.N[j]? = some x ∧ Vis X.env.scope x ∧ X.env.kindOf x ≠ some .local ∧ ((relabel scope X.env).names.lookup x = some .cell ∨ (relabel scope X.env).names.lookup x = some .free))
    (hs : ∀ x, foldedSetIterable iter X.env x = pure x := by intro _; rfl) : DE X (.ListComp elt [⟨tg, iter, ifs, 0⟩] scope pos) (vE cap src g c te) := by
  refine OC fun pins s σ H ρ μ Qd Q I S h k => ?_
  obtain ⟨wi, pw, li⟩ := hi
  rw [eval_ListComp]
  refine wpAny_comprehension_free (use := none) rfl hs hclos hkind hnames (thn (pw pins s σ H _ I (li σ H ρ μ _ (fun J H1 => ∃ xs μ1, Ext X.K μ H μ1 H1 ∧ St0 X.K H1 ρ μ1 σ ∧ La X.K J xs μ1 H1 ∧ xs.length ≤ 1000 ∧ ∃ f : PyData → Option PyData,
      (∀ x ∈ xs, ∀ μ' : Mu, (∀ a ds, μ1 a = some ds → μ' a = some ds) → g (.v x) (d7 cap ρ) μ' fun ρ2 μ2 => Le (d7 cap ρ) ρ2 ∧ c ρ2 μ2 fun b μ3 =>
        if b = true then te ρ2 μ3 fun d μ4 => μ4 = μ' ∧ (match d with | .v y => f x = some y | _ => False) else μ3 = μ' ∧ f x = none) ∧ Qd (.v (.list (xs.filterMap f))) μ1) S h (fun xs μ1 H1 J e1 S1 it q => ⟨xs, μ1, e1, S1, it, q⟩)))
    fun v s1 h1 => thn h1 fun itv s2 h2 => ?_)
  obtain ⟨it, fp, tn, J, H2, rfl, I2, T, st2, f2, xs, μ1, e1, S1, itok, hxs, f, body, fin⟩ := h2
  refine wpAny_newObj_type (wpAny_newFunctionEnv hcell (by intro y hy; simp at hy) (fun h₁ hns₁ hsb₁ => ?_) hkind)
  dsimp only at hns₁ hsb₁ ⊢
  have hfree2 : H2 s2.heap.objs.size = none := I2.hok.fresh (Nat.le_refl _)
  have hK2 : X.K.lookup s2.heap.objs.size = none := by
    cases z : X.K.lookup s2.heap.objs.size with
    | none => rfl
    | some o => exact absurd (Heap.lt_size (I2.kIn _ _ z)) (Nat.lt_irrefl _)
  have I3 : Inv X pins σ (upd H2 s2.heap.objs.size (.lst [])) { s2 with heap := s2.heap.push { cls := .type "list", dict := none, data := .seq ([] : List Value).toArray } } :=
    I2.laid (t' := s2.toks) (fun b u e => Heap.get?_push_of_some _ e) (Nat.le_refl _) ⟨Nat.zero_le _, [], 0, .nil, Heap.get?_push_size _ rfl⟩
  generalize hH : s2.heap.push { cls := .type "list", dict := none, data := .seq ([] : List Value).toArray } = hp3 at hns₁ hsb₁ I3 ⊢
  have hsz3 : hp3.objs.size = s2.heap.objs.size + 1 := by rw [← hH, Heap.size_push]
  have kept3 : ∀ b o, hp3.get? b = some o → h₁.get? b = some o := fun b o e => hsb₁.extBut b o (Nat.ne_of_lt (Heap.lt_size e)) (Heap.get?_push_of_some _ e)
  have old3 : ∀ b o, s2.heap.get? b = some o → hp3.get? b = some o := fun b o e => by rw [← hH]; exact Heap.get?_push_of_some _ e
  have fplt : ∀ b ∈ fp, b < s2.heap.objs.size := fun b hb => by obtain ⟨o, e, _⟩ := T.obj 0 _ st2 b hb; exact Heap.lt_size e
  have fpst : ∀ b ∈ fp, b ∉ frs X.stack := fun b hb hz => by
    rcases List.mem_cons.mp (I2.uH b hz) with e | e
    · exact (f2 b hb).2.1 e
    · exact (f2 b hb).2.2.1 e
  obtain ⟨s3, hs3⟩ : ∃ s3 : Shared, s3 = { s2 with heap := hp3 } := ⟨_, rfl⟩
  obtain ⟨H3, hH3⟩ : ∃ H3 : Hp, H3 = upd H2 s2.heap.objs.size (.lst []) := ⟨_, rfl⟩
  have heap3 : s3.heap = hp3 := by rw [hs3]
  rw [← hH3] at I3
  have I3' : Inv X pins σ H3 s3 := by rw [hs3]; exact I3
  have hloc : H3 hp3.objs.size = none := by have := I3'.hok.fresh (a := hp3.objs.size) (by rw [heap3]; exact Nat.le_refl _); exact this
  have okc : (bZ X N' scope cl fp s3 H3).Ok := by
    refine ⟨I3.ok.mod, ?_, I3.ok.glob, I3.ok.blt, Nat.le_refl _, fun x y a h1 h2 => I3.ok.inj x y a (hcl x a h1) (hcl y a h2), fun x hx => hhas x hx, fun x a h => (nomatch h), I3.ok.hd, I3.ok.qt, I3.ok.frames, .inl rfl, fun b hb => ⟨?_, fun x a h => (f2 b hb).2.2.2.2.1 x a (hcl x a h)⟩,
      I3'.bs, Nat.le_trans I3.ok.bsz I3'.sz, fun b o e hb => ?_, fun b hb => fpst b hb, I3'.stack, I3'.BV⟩
    · exact hkind
    · show b ≠ s3.heap.objs.size
      rw [heap3, hsz3]
      exact Nat.ne_of_lt (Nat.lt_succ_of_lt (fplt b hb))
    · rcases (f2 b hb).2.2.2.1 with z | z
      · exact I3.ok.HN b o e z
      · exact absurd (Nat.lt_of_lt_of_le (Heap.lt_size (I3.ok.bs b o e).1) z) (Nat.lt_irrefl _)
  have I4 : Inv (bZ X N' scope cl fp s3 H3) [] (d7 cap σ) H3 { s2 with heap := h₁, toks := s2.toks + ([] : List (Str × Value)).length } := by
    refine ⟨okc, by show s2.os = s3.os; rw [hs3], I3.bare, Un.kept (by show ∀ b o, s3.heap.get? b = some o → _; rw [heap3]; exact kept3), ⟨_, (by show h₁.Ns s3.heap.objs.size _; rw [heap3]; exact hns₁), fun i x v e1 e2 e3 => ?_⟩, fun x a h => ?_, (by show H3 s3.heap.objs.size = none; rw [heap3]; exact hloc), fun x a h => I3.pJ x a (hcl x a h), fun p hp => ?_, I3.hok.kept kept3, ?_⟩
    · obtain ⟨j, h1, h2⟩ := wM e2
      obtain ⟨hN, hv, hnl, hk⟩ := hcap i j x h1 e1
      obtain ⟨m, _, hl⟩ := I3.loc
      obtain ⟨u, r, lk⟩ := hl j x v hN h2 hv
      refine ⟨u, r, .inr ⟨hk, ?_⟩⟩
      obtain ⟨a, ha⟩ := hhas x hk
      rcases lk with ⟨z, _⟩ | ⟨_, a', z1, z2⟩
      · exact absurd z hnl
      · have : a' = a := by have q := hcl x a ha; rw [z1] at q; exact Option.some.inj q
        subst this
        obtain ⟨o, ho, hd⟩ := z2
        exact ⟨a', ha, o, kept3 _ _ ho, hd⟩
    · obtain ⟨v, o, ho, hd⟩ := I3.cell x a (hcl x a h)
      exact ⟨v, o, kept3 _ _ ho, hd⟩
    · have hp' : p ∈ X.pn ++ pins := List.mem_append_left _ (by simpa using (show p ∈ X.pn ++ [] from hp))
      obtain ⟨z1, z2, z3, z4, z5⟩ := I3'.pin p hp'
      refine ⟨kept3 _ _ (by rw [← heap3]; exact z1), z2, (show p.1 ≠ s3.heap.objs.size from Nat.ne_of_lt (Heap.lt_size z1)), fun z => ?_, z5⟩
      rcases List.mem_cons.mp (I3'.uH p.1 z) with e | e
      · exact z3 e
      · exact z4 e
    · show (d7 cap σ).length = N'.length
      unfold d7
      rw [List.length_map]
      exact hlen
  have hμ1 : μ1 s2.heap.objs.size = none := S1.mu.free hfree2
  have sub1 : ∀ ys a ds, μ1 a = some ds → aV μ1 s2.heap.objs.size ys a = some ds := fun ys a ds e => by
    have : a ≠ s2.heap.objs.size := fun z => by rw [z, hμ1] at e; cases e
    rw [bL this]; exact e
  have loop : codeAny (model X.prog X.w) X.A (.compLoop (.ListComp elt [⟨tg, iter, ifs, 0⟩] scope pos) 0 (.ref it) (.ref s2.heap.objs.size) (bZ X N' scope cl fp s3 H3).env)
      (compPost (model X.prog X.w) X.A X.xe none (EP X pins σ Q) (.ref s2.heap.objs.size) hp3.objs.size) { s2 with heap := h₁, toks := s2.toks + ([] : List (Str × Value)).length } := by
    refine kS (fun n s' => ∃ (i : Nat) (σc : St) (Hc : Hp), n = xs.length - i ∧ i ≤ xs.length ∧ Inv (bZ X N' scope cl fp s3 H3) [] σc Hc s' ∧ tn i s'.heap ∧ (∀ b ∈ fp, Hc b = none) ∧
      St0 X.K Hc (d7 cap ρ) (aV μ1 s2.heap.objs.size ((xs.take i).filterMap f)) σc ∧ Ext X.K μ1 H2 (aV μ1 s2.heap.objs.size ((xs.take i).filterMap f)) Hc) ?_ xs.length
      ⟨0, d7 cap σ, H3, by simp, Nat.zero_le _, I4, T.keep 0 _ _ st2 (fun b hb o e => kept3 b o (old3 b o e)), fun b hb => ?_, ?_, ?_⟩
    · rintro n s' ⟨i, σc, Hc, rfl, hi, Ic, tc, frc, Sc, Ec⟩
      have stat : ∀ {Hd : Hp}, (∀ b ∈ fp, Hd b = none) → ∀ b ∈ fp, BP (bZ X N' scope cl fp s3 H3) [] Hd b := fun hn b hb =>
        ⟨hn b hb, (okc.exf b hb).1, fpst b hb, .inl hb, fun x a h => (okc.exf b hb).2 x a h, fun p hp => (f2 b hb).2.2.2.2.2 p (List.mem_append_left _ (by simpa using (show p ∈ X.pn ++ [] from hp)))⟩
      obtain ⟨go, stop⟩ := itok _ Hc Ec Sc.mu i
      by_cases hlt : i < xs.length
      · obtain ⟨g1, y1⟩ := go hlt
        refine thn (T.item (bZ X N' scope cl fp s3 H3) rfl rfl rfl (fun z => z) i [] s' σc Hc (fun _ _ => False) Ic (stat frc) tc g1) fun r s4 ⟨u, hr, h4⟩ => ?_
        subst hr
        refine thn h4 fun _ s5 ⟨x, H5, I5, r5, y5, st5, fr5⟩ => ?_
        obtain ⟨d, hd, sm, rd⟩ := y1 x H5 y5
        have I5' := I5.pinned (stat fr5) (T.obj _ _ st5)
        have e5 : Ext X.K _ Hc _ H5 := .of_same (μ := aV μ1 s2.heap.objs.size ((xs.take i).filterMap f)) sm
        have S5 : St0 X.K H5 (d7 cap ρ) (aV μ1 s2.heap.objs.size ((xs.take i).filterMap f)) σc := ⟨Sc.mu.LN e5 sm, Sc.rho.ext Sc.mu e5⟩
        obtain ⟨gt, pg, lg⟩ := hg fp s3 H3
        have hmem : d ∈ xs := List.mem_of_getElem? hd
        refine thn (pg _ s5 σc H5 x u (fun σ' H' => ∃ ρ' μ', Ext X.K (aV μ1 s2.heap.objs.size ((xs.take i).filterMap f)) H5 μ' H' ∧ St0 X.K H' ρ' μ' σ' ∧ Le (d7 cap ρ) ρ' ∧ c ρ' μ' fun b μ3 =>
            if b = true then te ρ' μ3 fun d' μ4 => μ4 = aV μ1 s2.heap.objs.size ((xs.take i).filterMap f) ∧ (match d' with | .v y => f d = some y | _ => False) else μ3 = aV μ1 s2.heap.objs.size ((xs.take i).filterMap f) ∧ f d = none) I5' r5
          (lg σc H5 (d7 cap ρ) _ (.v d) x _ _ S5 rd (body d hmem _ (sub1 _)) fun σ' ρ' μ' H' e' S' q => ⟨ρ', μ', e', S', q⟩)) fun _ s6 ⟨σ6, H6, I6, ρ6, μ6, e6, S6, le6, q6⟩ => ?_
        refine thn (hif fp s3 H3 _ s6 σ6 H6 ρ6 μ6 _ (fun b H' => ∃ μ', Ext X.K μ6 H6 μ' H' ∧ St0 X.K H' ρ6 μ' σ6 ∧ if b = true then te ρ6 μ' fun d' μ4 => μ4 = aV μ1 s2.heap.objs.size ((xs.take i).filterMap f) ∧ (match d' with | .v y => f d = some y | _ => False) else μ' = aV μ1 s2.heap.objs.size ((xs.take i).filterMap f) ∧ f d = none)
          I6 S6 q6 fun b μ' H' e' S' q => ⟨μ', e', S', q⟩) fun b s7 ⟨H7, I7, μ7, e7, S7, q7⟩ => ?_
        have again : ∀ {H9 : Hp} {s9 : Shared}, Inv (bZ X N' scope cl fp s3 H3) ([] ++ u4 fp s5.heap) σ6 H9 s9 → dZ X.K (aV μ1 s2.heap.objs.size ((xs.take (i + 1)).filterMap f)) H9 → jx X.K (aV μ1 s2.heap.objs.size ((xs.take (i + 1)).filterMap f)) H9 (d7 cap ρ) σ6 →
            Ext X.K μ1 H2 (aV μ1 s2.heap.objs.size ((xs.take (i + 1)).filterMap f)) H9 → ∃ m, m < xs.length - i ∧ ∃ (i : Nat) (σc : St) (Hc : Hp), m = xs.length - i ∧ i ≤ xs.length ∧ Inv (bZ X N' scope cl fp s3 H3) [] σc Hc s9 ∧ tn i s9.heap ∧ (∀ b ∈ fp, Hc b = none) ∧
              St0 X.K Hc (d7 cap ρ) (aV μ1 s2.heap.objs.size ((xs.take i).filterMap f)) σc ∧ Ext X.K μ1 H2 (aV μ1 s2.heap.objs.size ((xs.take i).filterMap f)) Hc := fun {H9 s9} I9 m9 r9 e9 => by
          refine ⟨xs.length - (i + 1), by omega, i + 1, σ6, H9, rfl, hlt, I9.md, T.keep _ _ _ st5 fun b hb o e => (I9.pin (b, o) (List.mem_append_right _ (List.mem_append_right _ (gN hb e)))).1, fun b hb => ?_, ⟨m9, r9⟩, e9⟩
          obtain ⟨o, e, _⟩ := T.obj _ _ st5 b hb
          exact (I9.pin (b, o) (List.mem_append_right _ (List.mem_append_right _ (gN hb e)))).2.1
        cases b with
        | false =>
          have q8 : μ7 = aV μ1 s2.heap.objs.size ((xs.take i).filterMap f) ∧ f d = none := by simpa using q7
          refine Cg ?_
          have et : (xs.take (i + 1)).filterMap f = (xs.take i).filterMap f := by rw [AH hd, q8.2]; simp
          have eμ : aV μ1 s2.heap.objs.size ((xs.take (i + 1)).filterMap f) = μ7 := by rw [et, q8.1]
          refine again I7 (by rw [eμ]; exact S7.mu) (by rw [eμ]; exact S7.rho.le le6) ?_
          rw [eμ]
          exact Ec.trans (e5.trans (e6.trans e7))
        | true =>
          refine Cm ?_
          obtain ⟨t8, p8, l8⟩ := he fp s3 H3
          refine thn (p8 _ s7 σ6 H7 (fun v H' => ∃ y, Ext X.K μ7 H7 (aV μ1 s2.heap.objs.size ((xs.take i).filterMap f)) H' ∧ St0 X.K H' ρ6 (aV μ1 s2.heap.objs.size ((xs.take i).filterMap f)) σ6 ∧ Rp X.K (aV μ1 s2.heap.objs.size ((xs.take i).filterMap f)) H' y v ∧ f d = some y) I7
            (l8 σ6 H7 ρ6 μ7 _ _ S7 (by simpa using q7) fun d' v μ8 H8 e8 S8 r8 q8 => ?_)) fun v s8 ⟨v8, H8, I8, r8, y, e8, S8, ry, fy⟩ => ?_
          · obtain ⟨rfl, q8⟩ := q8
            cases d' with
            | v y => exact ⟨y, e8, S8, r8, q8⟩
            | m _ => exact q8.elim
            | s _ => exact q8.elim
            | o _ => exact q8.elim
            | q _ => exact q8.elim
          · obtain ⟨us, hacc, rus⟩ := S8.mu s2.heap.objs.size _ bB
            have hle : ((xs.take i).filterMap f).length ≤ 1000 := Nat.le_trans (List.length_filterMap_le _ _) (Nat.le_trans (by rw [List.length_take]; exact Nat.min_le_right _ _) hxs)
            refine thn (vi (X := bZ X N' scope cl fp s3 H3) _ s8 σ6 H8 (.ref s2.heap.objs.size) [v8] (.ref s2.heap.objs.size) [v] (fun _ H' => H' = upd H8 s2.heap.objs.size (.lst (us ++ [v8]))) I8 rfl (.cons r8 .nil) ⟨_, us, v8, rfl, rfl, hacc, by rw [← rus.length]; exact jY hle, rfl⟩) fun _ s9 ⟨_, H9, I9, _, e9⟩ => ?_
            subst e9
            have et : (xs.take (i + 1)).filterMap f = (xs.take i).filterMap f ++ [y] := by rw [AH hd, fy]; rfl
            have mset : aV (aV μ1 s2.heap.objs.size ((xs.take i).filterMap f)) s2.heap.objs.size ((xs.take (i + 1)).filterMap f) = aV μ1 s2.heap.objs.size ((xs.take (i + 1)).filterMap f) := uI
            have ex : Ext X.K (aV μ1 s2.heap.objs.size ((xs.take i).filterMap f)) H8 (aV μ1 s2.heap.objs.size ((xs.take (i + 1)).filterMap f)) (upd H8 s2.heap.objs.size (.lst (us ++ [v8]))) := by
              rw [← mset]
              exact tP bB
            refine again I9 ?_ ((S8.rho.le le6).ext S8.mu ex) (Ec.trans (e5.trans (e6.trans (e7.trans (e8.trans ex)))))
            rw [← mset]
            refine S8.mu.set bB ?_
            rw [et]
            exact rus.append (.cons ry .nil)
      · have ei : i = xs.length := by omega
        subst ei
        refine thn (T.done (bZ X N' scope cl fp s3 H3) rfl rfl rfl (fun z => z) _ [] s' σc Hc (fun _ _ => False) Ic (stat frc) tc (stop rfl)) fun r s4 ⟨hr, I5⟩ => ?_
        subst hr
        rw [List.take_length] at Sc Ec
        obtain ⟨m, hn, _⟩ := I5.loc
        refine ⟨m, (by have z : s4.heap.Ns s3.heap.objs.size m := hn; rw [heap3] at z; exact z), fun h' hs' => ?_⟩
        have kp : ∀ b o, b < s2.heap.objs.size → s4.heap.get? b = some o → h'.get? b = some o := fun b o hb e => hs'.extBut b o (by rw [hsz3]; exact Nat.ne_of_lt (Nat.lt_succ_of_lt hb)) e
        have hcC : Hc hp3.objs.size = none := by have z : Hc s3.heap.objs.size = none := I5.free; rw [heap3] at z; exact z
        have hok' : HOk X.prog X.w Hc h' := fun b ob e => by
          refine (I5.hok b ob e).yU (fun cc v hcc q => hs'.extBut cc v ?_ q) (fun _ q => q) fun _ _ q => q
          rintro rfl
          rcases hcc with z | z
          · rw [← z, hcC] at e; cases e
          · rw [hcC] at z; cases z
        have u1 : Un (frs X.stack) fp H2 H3 s2.heap s3.heap := by rw [heap3, hH3]; exact Un.laid old3 (Nat.le_refl _) hfree2
        have u2 : Un (frs X.stack) fp H3 Hc s3.heap s4.heap := I5.base
        have If : Inv X pins σ Hc { s4 with heap := h' } := I2.Jt (ch := fp) (by show s4.os = s2.os; have z : s4.os = s3.os := I5.os; rw [z, hs3]) (Un.after (u1.trans u2) kp) hok' I5.bare fun b hb => ⟨(f2 b hb).2.2.2.1, (f2 b hb).2.1, (f2 b hb).2.2.2.2.1, (f2 b hb).2.2.2.2.2⟩
        obtain ⟨us, hacc, rus⟩ := Sc.mu s2.heap.objs.size _ bB
        have shr : ∀ a, aV μ1 s2.heap.objs.size (xs.filterMap f) a = none → μ1 a = none := fun a e => by
          by_cases ha : a = s2.heap.objs.size
          · rw [ha]; exact hμ1
          · rw [bL ha] at e; exact e
        have eF : Ext X.K μ1 H2 μ1 Hc := ⟨Ec.keep, Ec.tb, fun _ ds q => ⟨ds, q⟩, fun _ q _ => q⟩
        have mF : dZ X.K μ1 Hc := ⟨fun a ds q => by
          obtain ⟨ys, z1, z2⟩ := Sc.mu a ds (sub1 _ a ds q)
          exact ⟨ys, z1, z2.shrink shr⟩, Sc.mu.tab⟩
        exact ⟨.ref s2.heap.objs.size, Hc, If, rfl, k (.v (.list (xs.filterMap f))) _ μ1 Hc (e1.trans eF) ⟨mF, S1.rho.ext S1.mu eF⟩ (Rp.list hacc hμ1 (rus.shrink shr)) fin⟩
    · have z : b ≠ s2.heap.objs.size := Nat.ne_of_lt (fplt b hb)
      rw [hH3, cF z]
      exact (f2 b hb).1
    · have ex := qi (o := .lst []) (ds := []) S1.mu hfree2 hK2
      rw [hH3]
      exact ⟨S1.mu.mut .nil hfree2 hK2, (S1.rho.ext S1.mu ex).cap⟩
    · rw [hH3]
      exact qi (o := .lst []) (ds := []) S1.mu hfree2 hK2
  have envE : (bZ X N' scope cl fp s3 H3).env = compEnvC scope cl hp3.objs.size X.env := by show compEnvC scope cl s3.heap.objs.size X.env = _; rw [heap3]
  rw [envE] at loop
  exact codeAny_compStart_list loop (T.self X.A 0 _ _ _ (T.keep 0 _ _ st2 (fun b hb o e => kept3 b o (old3 b o e))) loop)
open PySem PySem.Spec PyProof.Rows
section
variable {X : Cx} {a b c : Expr} {ta tb tc : DTE} {pos : Pos}
def MK (r r' : D → D → Mu → DK → Prop) (ta tb tc : DTE) : DTE := fun ρ μ Q => ta ρ μ fun x μ1 => tb ρ μ1 fun y μ2 => r x y μ2 fun z μ3 => match z with
  | .v (.bool k) => if k = true then tc ρ μ3 fun w μ4 => r' y w μ4 Q else Q (.v (.bool false)) μ3
  | _ => False
end
open PySem PySem.Spec PyProof.Rows
theorem vy {α : Type} {x : α} {xs : List α} : atI (x :: xs) 0 = some x := by unfold atI ixN; simp
theorem zj {α : Type} {x y : α} {xs : List α} : atI (x :: y :: xs) 1 = some y := by
  have h := jG (xs := x :: y :: xs) (j := 1) (v := y) rfl
  exact h
theorem Dj {α : Type} {x y z : α} {xs : List α} : atI (x :: y :: z :: xs) 2 = some z := by
  have h := jG (xs := x :: y :: z :: xs) (j := 2) (v := z) rfl
  exact h
theorem G7 {α : Type} {x y z u : α} {xs : List α} : atI (x :: y :: z :: u :: xs) 3 = some u := by
  have h := jG (xs := x :: y :: z :: u :: xs) (j := 3) (v := u) rfl
  exact h
def GW : D → D → Mu → DK → Prop := fun x y μ Q => match x, y with
  | .v (.int i), .v (.int j) => Q (.v (.int (i + j))) μ
  | .v (.tuple xs), .v (.tuple ys) => xs.length + ys.length ≤ 1000 ∧ Q (.v (.tuple (xs ++ ys))) μ
  | _, _ => I0 x y μ Q
theorem OpR.or {X : Cx} {f} {r1 r2 : R2} (h1 : OpR X f r1) (h2 : OpR X f r2) : OpR X f (fun x y H Q => r1 x y H Q ∨ r2 x y H Q) := by
  intro pins s σ H x y v u Q I rx ry h
  rcases h with h | h
  · exact h1 pins s σ H x y v u Q I rx ry h
  · exact h2 pins s σ H x y v u Q I rx ry h
section
variable {ρ : Rho} {μ : Mu} {Q : DK} {QT : Bool → Mu → Prop} {QA : List D → Mu → Prop} {QG : Rho → Mu → Prop} {QI : List PyData → Mu → Prop} {QO : Option Int → Mu → Prop} {Dd : G0} {ta tb tc : DTE} {t u : DTT} {tA : DTA} {s1 s2 : DTS} {i j : Int} {x y : PyData} {xs ys : List PyData} {d e : D}
def um : DTS := fun _ _ _ => False
theorem tL {X : Cx} {st : Stmt} : DS X st um := ⟨fun _ _ _ => False, fun _ _ _ _ _ _ h => h.elim, fun _ _ _ _ _ _ _ h => h.elim⟩
theorem D9 {o : Rho} : af 0 (some d :: o) μ Q = Q d μ := propext Iff.rfl
theorem EA {a} {o : Rho} : af 1 (a :: some d :: o) μ Q = Q d μ := propext Iff.rfl
theorem Fm {a b} {o : Rho} : af 2 (a :: b :: some d :: o) μ Q = Q d μ := propext Iff.rfl
theorem FA {a b c} {o : Rho} : af 3 (a :: b :: c :: some d :: o) μ Q = Q d μ := propext Iff.rfl
theorem E8 {a b c f} {o : Rho} : af 4 (a :: b :: c :: f :: some d :: o) μ Q = Q d μ := propext Iff.rfl
theorem E9 {a b c f g} {o : Rho} : af 5 (a :: b :: c :: f :: g :: some d :: o) μ Q = Q d μ := propext Iff.rfl
theorem Ej {a b c f g h} {o : Rho} : af 6 (a :: b :: c :: f :: g :: h :: some d :: o) μ Q = Q d μ := propext Iff.rfl
theorem Eh {a b c f g h k} {o : Rho} : af 7 (a :: b :: c :: f :: g :: h :: k :: some d :: o) μ Q = Q d μ := propext Iff.rfl
theorem EJ {a b c f g h k l} {o : Rho} : af 8 (a :: b :: c :: f :: g :: h :: k :: l :: some d :: o) μ Q = Q d μ := propext Iff.rfl
theorem Fn {a b c f g h k l m} {o : Rho} : af 9 (a :: b :: c :: f :: g :: h :: k :: l :: m :: some d :: o) μ Q = Q d μ := propext Iff.rfl
theorem Ar {a b c f g h k l m n} {o : Rho} : af 10 (a :: b :: c :: f :: g :: h :: k :: l :: m :: n :: some d :: o) μ Q = Q d μ := propext Iff.rfl
theorem q_c : dC x ρ μ Q = Q (.v x) μ := propext Iff.rfl
theorem Oe {r} : dOp r ta tb ρ μ Q = ta ρ μ fun x μ1 => tb ρ μ1 fun y μ2 => r x y μ2 Q := propext Iff.rfl
theorem q_B : dB ta ρ μ QT = ta ρ μ fun d μ1 => match d with | .v (.bool k) => QT k μ1 | _ => False := propext Iff.rfl
theorem ND {C : Int → Int → Prop} {g : Int → Int → PyData} : rII C g (.v (.int i)) (.v (.int j)) μ Q = (C i j ∧ Q (.v (g i j)) μ) := propext Iff.rfl
theorem KJ {g : Int → Int → PyData} : yD g (.v (.int i)) (.v (.int j)) μ Q = Q (.v (g i j)) μ := propext Iff.rfl
theorem JM : vG ta ρ μ Q = ta ρ μ fun x μ1 => match x with | .v (.int i) => Q (.v (.int (-i))) μ1 | _ => False := propext Iff.rfl
theorem Ge : zF t u ρ μ QT = t ρ μ fun c μ1 => if c = true then u ρ μ1 QT else QT false μ1 := propext Iff.rfl
theorem J9 : BR t u ρ μ QT = t ρ μ fun c μ1 => if c = true then QT true μ1 else u ρ μ1 QT := propext Iff.rfl
theorem ED : mr t ρ μ QT = t ρ μ fun c μ1 => QT (!c) μ1 := propext Iff.rfl
theorem FN : vp ta tb ρ μ Q = ta ρ μ fun x μ1 => match x with | .v (.bool c) => if c = true then tb ρ μ1 Q else Q (.v (.bool false)) μ1 | _ => False := propext Iff.rfl
theorem Ku : Qs ta tb ρ μ Q = ta ρ μ fun x μ1 => match x with | .v (.bool c) => if c = true then Q (.v (.bool true)) μ1 else tb ρ μ1 Q | _ => False := propext Iff.rfl
theorem EO : Dg ta ρ μ Q = ta ρ μ fun x μ1 => match x with | .v (.bool c) => Q (.v (.bool (!c))) μ1 | _ => False := propext Iff.rfl
theorem MH : dIf t ta tb ρ μ Q = t ρ μ fun c μ1 => if c = true then ta ρ μ1 Q else tb ρ μ1 Q := propext Iff.rfl
theorem KA : aj ρ μ QA = QA [] μ := propext Iff.rfl
theorem Gd : ab ta tA ρ μ QA = ta ρ μ fun x μ1 => tA ρ μ1 fun xs μ2 => QA (x :: xs) μ2 := propext Iff.rfl
theorem Kt : cL tA ρ μ Q = tA ρ μ fun ds μ1 => match da ds with | some xs => Q (.v (.tuple xs)) μ1 | none => False := propext Iff.rfl
theorem JG : oq tA ρ μ Q = tA ρ μ fun ds μ1 => match da ds with | some xs => Q (.v (.list xs)) μ1 | none => False := propext Iff.rfl
theorem Em : xi tA ρ μ Q = tA ρ μ fun ds μ1 => match da ds with | some xs => ∀ p, μ1 p = none → Q (.m p) (aV μ1 p xs) | none => False := propext Iff.rfl
theorem JY : da [] = some [] := by rw [da]
theorem Jw {r : List D} : da (.v x :: r) = (da r).map (x :: ·) := by rw [da]
theorem DJ {neg : Bool} : d6 neg (.v x) (.v y) μ Q = (SeqAt.shaped x = true ∧ SeqAt.shaped y = true ∧ Q (.v (.bool (neg ^^ PyData.eqv x y))) μ) := propext Iff.rfl
theorem Jf {neg : Bool} : d6 neg (.v (.int i)) (.v (.int j)) μ Q = Q (.v (.bool (neg ^^ decide (i = j)))) μ := by
  have e : PyData.eqv (.int i) (.int j) = decide (i = j) := by simp [PyData.eqv]; rfl
  rw [DJ, e]
  exact propext ⟨fun h => h.2.2, fun h => ⟨rfl, rfl, h⟩⟩
theorem Jz {neg : Bool} : d6 neg (.v (.tuple xs)) (.v (.tuple ys)) μ Q = (SeqAt.shaped (.tuple xs) = true ∧ SeqAt.shaped (.tuple ys) = true ∧ Q (.v (.bool (neg ^^ PyData.eqv (.tuple xs) (.tuple ys)))) μ) := propext Iff.rfl
theorem JH {neg : Bool} : d6 neg (.v (.list xs)) (.v (.list ys)) μ Q = (SeqAt.shaped (.list xs) = true ∧ SeqAt.shaped (.list ys) = true ∧ Q (.v (.bool (neg ^^ PyData.eqv (.list xs) (.list ys)))) μ) := propext Iff.rfl
theorem GP {neg a b : Bool} : d6 neg (.v (.bool a)) (.v (.bool b)) μ Q = Q (.v (.bool (neg ^^ (a == b)))) μ := by
  have e : PyData.eqv (.bool a) (.bool b) = (a == b) := by cases a <;> cases b <;> simp [PyData.eqv] <;> rfl
  rw [DJ, e]
  exact propext ⟨fun h => h.2.2, fun h => ⟨rfl, rfl, h⟩⟩
theorem Jg {neg : Bool} : HG neg (.v x) (.v (.list ys)) μ Q = (PyData.canLayAll0 ys = true ∧ x.canLay0 = true ∧ PyData.depth x ≤ 60 ∧ Q (.v (.bool (neg ^^ ys.any fun b => PyData.eqv b x))) μ) := propext Iff.rfl
theorem zA : aC (.v (.list xs)) (.v (.int i)) μ Q = (match atI xs i with | some d => Q (.v d) μ | none => False) := propext Iff.rfl
theorem xS : aC (.v (.tuple xs)) (.v (.int i)) μ Q = (match atI xs i with | some d => Q (.v d) μ | none => False) := propext Iff.rfl
theorem Jb {l : Addr} : aC (.m l) (.v (.int i)) μ Q = (match μ l with | some xs => (match atI xs i with | some d => Q (.v d) μ | none => False) | none => False) := propext Iff.rfl
theorem Kx {ns : List Int} : aC (.s ns) (.v (.int i)) μ Q = (match atI ns i with | some d => Q (.v (.int d)) μ | none => False) := propext Iff.rfl
theorem FT : aC (.v (.list (x :: xs))) (.v (.int 0)) μ Q = Q (.v x) μ := by rw [zA, vy]
theorem Ae : aC (.v (.tuple (x :: xs))) (.v (.int 0)) μ Q = Q (.v x) μ := by rw [xS, vy]
theorem Eu {z} : aC (.v (.list (z :: x :: xs))) (.v (.int 1)) μ Q = Q (.v x) μ := by rw [zA, zj]
theorem BS {z} : aC (.v (.tuple (z :: x :: xs))) (.v (.int 1)) μ Q = Q (.v x) μ := by rw [xS, zj]
theorem FR {z w} : aC (.v (.list (z :: w :: x :: xs))) (.v (.int 2)) μ Q = Q (.v x) μ := by rw [zA, Dj]
theorem B2 {z w} : aC (.v (.tuple (z :: w :: x :: xs))) (.v (.int 2)) μ Q = Q (.v x) μ := by rw [xS, Dj]
theorem Ff {z w v} : aC (.v (.tuple (z :: w :: v :: x :: xs))) (.v (.int 3)) μ Q = Q (.v x) μ := by rw [xS, G7]
theorem Kw : I0 d e μ Q = (match xf μ d, xf μ e with | some xs, some ys => xs.length + ys.length ≤ 1000 ∧ Q (.v (.list (xs ++ ys))) μ | _, _ => False) := propext Iff.rfl
theorem Fz : MZ (.v (.tuple xs)) (.v (.tuple ys)) μ Q = (xs.length + ys.length ≤ 1000 ∧ Q (.v (.tuple (xs ++ ys))) μ) := propext Iff.rfl
theorem EX : GW (.v (.int i)) (.v (.int j)) μ Q = Q (.v (.int (i + j))) μ := propext Iff.rfl
theorem EV : GW (.v (.tuple xs)) (.v (.tuple ys)) μ Q = (xs.length + ys.length ≤ 1000 ∧ Q (.v (.tuple (xs ++ ys))) μ) := propext Iff.rfl
theorem FF : GW (.v (.list xs)) (.v (.list ys)) μ Q = (xs.length + ys.length ≤ 1000 ∧ Q (.v (.list (xs ++ ys))) μ) := propext Iff.rfl
theorem FZ {a : Addr} : GW (.m a) e μ Q = I0 (.m a) e μ Q := propext Iff.rfl
theorem N2 {tl th : DTO} : dSl ta tl th ρ μ Q = ta ρ μ fun x μ1 => tl ρ μ1 fun l μ2 => th ρ μ2 fun u μ3 => HR x l u μ3 Q := propext Iff.rfl
theorem wI : Am ρ μ QO = QO none μ := propext Iff.rfl
theorem FW : Ks ta ρ μ QO = ta ρ μ fun x μ1 => match x with | .v (.int i) => QO (some i) μ1 | _ => False := propext Iff.rfl
theorem Io {lo hi : Option Int} : HR (.v (.tuple xs)) lo hi μ Q = Q (.v (.tuple (xn xs lo hi))) μ := propext Iff.rfl
theorem Jo {lo hi : Option Int} : HR (.v (.list xs)) lo hi μ Q = Q (.v (.list (xn xs lo hi))) μ := propext Iff.rfl
theorem JF : Mt ta ρ μ Q = ta ρ μ fun x μ1 => match x with | .v (.tuple xs) => Q (.v (.tuple xs.reverse)) μ1 | .v (.list xs) => Q (.v (.list xs.reverse)) μ1 | .m l => (match μ1 l with | some xs => Q (.v (.list xs.reverse)) μ1 | none => False) | _ => False := propext Iff.rfl
theorem N1 {rd} : dCB rd tA ρ μ Q = tA ρ μ fun ds μ1 => rd ds μ1 Q := propext Iff.rfl
theorem FV : i7 [.v (.list ys)] μ Q = Q (.v (.int (ys.length : Nat))) μ := propext Iff.rfl
theorem E2 : i7 [.v (.tuple ys)] μ Q = Q (.v (.int (ys.length : Nat))) μ := propext Iff.rfl
theorem Ee {ns : List Int} : i7 [.s ns] μ Q = Q (.v (.int (ns.length : Nat))) μ := propext Iff.rfl
theorem Ep {l : Addr} : i7 [.m l] μ Q = (match μ l with | some ys => Q (.v (.int (ys.length : Nat))) μ | none => False) := propext Iff.rfl
theorem Kj : oU [.v (.int i)] μ Q = Q (.v (.int (i.natAbs : Nat))) μ := propext Iff.rfl
theorem MF {g : Int → Int → Int} : El g [.v (.int i), .v (.int j)] μ Q = Q (.v (.int (g i j))) μ := propext Iff.rfl
theorem FL {k : Bool} : qK [.v (.bool k)] μ Q = Q (.v (.int (if k then 1 else 0))) μ := propext Iff.rfl
theorem FG : qK [.v (.int i)] μ Q = Q (.v (.int i)) μ := propext Iff.rfl
theorem AS : Kd [.v (.list ys)] μ Q = Q (.v (.list ys)) μ := propext Iff.rfl
theorem Aq : Kd [.v (.tuple ys)] μ Q = Q (.v (.list ys)) μ := propext Iff.rfl
theorem Iu : xw [.v (.list ys)] μ Q = (match bY ys with | some bs => Q (.v (.bool (bs.all id))) μ | none => False) := propext Iff.rfl
theorem JE {T : String} : FK T ta ρ μ Q = ta ρ μ fun x μ1 => match x with | .v d => Q (.v (.bool (isT T d))) μ1 | _ => False := propext Iff.rfl
theorem IF {a b : Bool} : HM (.v (.bool a)) (.v (.bool b)) μ Q = Q (.v (.bool (a == b))) μ := propext Iff.rfl
theorem Ky : HM (.v .none) (.v .none) μ Q = Q (.v (.bool true)) μ := propext Iff.rfl
theorem AD {n : Nat} : au n d ρ μ QG = QG (ρ.set n (some d)) μ := propext Iff.rfl
theorem E5 : sZ [] ρ μ QG = QG ρ μ := propext Iff.rfl
theorem AZ {g : DTG} {gs : y7} : eh g gs (x :: xs) ρ μ QG = g (.v x) ρ μ fun ρ1 μ1 => gs xs ρ1 μ1 QG := propext Iff.rfl
theorem FU {n : Nat} {gs : y7} : qL n gs (.v (.tuple xs)) ρ μ QG = (xs.length = n ∧ gs xs ρ μ QG) := propext Iff.rfl
theorem Gb : GZ ta tb d ρ μ QG = ta ρ μ fun o μ1 => tb ρ μ1 fun i μ2 => match o, i, d with
  | .m l, .v (.int k), .v x => (match μ2 l with
    | some xs => (match ixN xs.length k with
      | some j => QG ρ (aV μ2 l (xs.set j x))
      | none => False)
    | none => False)
  | _, _, _ => False := propext Iff.rfl
theorem IV {g : DTG} : bC ta g Dd ρ μ = ta ρ μ fun d μ1 => g d ρ μ1 Dd.nx := propext Iff.rfl
theorem JO {i j : Nat} : BU i j tA Dd ρ μ = tA ρ μ fun ds μ1 => match ds with | [v, w] => Dd.nx ((ρ.set i (some v)).set j (some w)) μ1 | _ => False := propext Iff.rfl
theorem E4 : bU Dd ρ μ = Dd.nx ρ μ := propext Iff.rfl
theorem Gs : aJ s1 s2 Dd ρ μ = s1 { Dd with nx := s2 Dd } ρ μ := propext Iff.rfl
theorem Jj : bD ta Dd ρ μ = ta ρ μ Dd.rt := propext Iff.rfl
theorem EY : mx ta Dd ρ μ = ta ρ μ fun _ μ1 => Dd.nx ρ μ1 := propext Iff.rfl
theorem JR : dy t s1 s2 Dd ρ μ = t ρ μ fun b μ1 => if b = true then s1 Dd ρ μ1 else s2 Dd ρ μ1 := propext Iff.rfl
theorem Ba : um Dd ρ μ = False := propext Iff.rfl
theorem EC {dsp : DSp} : ao dsp tA ρ μ Q = tA ρ μ fun ds μ1 => dsp ds μ1 Q := propext Iff.rfl
theorem Im : C2 ta tb ρ μ Q = ta ρ μ fun x μ1 => match x with
  | .m l => tb ρ μ1 fun y μ2 => (match y, μ2 l with
    | .v d, some xs => xs.length < 1000 ∧ Q (.v .none) (aV μ2 l (xs ++ [d]))
    | _, _ => False)
  | _ => False := propext Iff.rfl
theorem JD : Qj ta tb ρ μ Q = ta ρ μ fun x μ1 => match x with
  | .m l => tb ρ μ1 fun y μ2 => (match y, μ2 l with
    | .v (.list ys), some xs => xs.length + ys.length ≤ 1000 ∧ Q (.v .none) (aV μ2 l (xs ++ ys))
    | _, _ => False)
  | _ => False := propext Iff.rfl
theorem Ft : Pt ta ρ μ Q = ta ρ μ fun x μ1 => match x with | .v (.int i) => Q (.v (.int (Builtin.Int.intBits i : Nat))) μ1 | _ => False := propext Iff.rfl
theorem zM {r r'} : MK r r' ta tb tc ρ μ Q = ta ρ μ fun x μ1 => tb ρ μ1 fun y μ2 => r x y μ2 fun z μ3 => match z with
  | .v (.bool k) => if k = true then tc ρ μ3 fun w μ4 => r' y w μ4 Q else Q (.v (.bool false)) μ3
  | _ => False := propext Iff.rfl
theorem Fh : qG ρ μ QT = QT true μ := propext Iff.rfl
theorem xN : xD ta ρ μ QI = ta ρ μ fun d μ1 => match d with | .v (.list xs) => QI xs μ1 | _ => False := propext Iff.rfl
theorem Bn : qI ta ρ μ QI = ta ρ μ fun d μ1 => match d with | .v (.tuple xs) => QI xs μ1 | _ => False := propext Iff.rfl
theorem xy : pq tA ρ μ QI = tA ρ μ fun ds μ1 => match ds with | [.v (.int j)] => (-(2 ^ 62) ≤ j ∧ j < 2 ^ 62) ∧ QI (oT 0 j.toNat) μ1 | _ => False := propext Iff.rfl
theorem wU : wN tA ρ μ QI = tA ρ μ fun ds μ1 => match ds with | [.v (.int i), .v (.int j)] => (-(2 ^ 62) ≤ i ∧ i < 2 ^ 62 ∧ -(2 ^ 62) ≤ j ∧ j < 2 ^ 62) ∧ QI (oT i (j - i).toNat) μ1 | _ => False := propext Iff.rfl
theorem sV {src : DTI} {g : DTG} : vk src g s1 Dd ρ μ = src ρ μ fun xs μ1 => ∃ Pv : Nat → Rho → Mu → Prop, Pv 0 ρ μ1 ∧
  (∀ i x ρ' μ', xs[i]? = some x → Pv i ρ' μ' → g (.v x) ρ' μ' fun ρ2 μ2 => s1 { Dd with nx := Pv (i + 1), ct := Pv (i + 1), bk := Dd.nx } ρ2 μ2) ∧ (∀ ρ' μ', Pv xs.length ρ' μ' → Dd.nx ρ' μ') := propext Iff.rfl
theorem EH {cap : List (Option Nat)} {src : DTI} {g : DTG} : vE cap src g t ta ρ μ Q = src ρ μ fun xs μ1 => xs.length ≤ 1000 ∧ ∃ f : PyData → Option PyData,
  (∀ x ∈ xs, ∀ μ' : Mu, (∀ a ds, μ1 a = some ds → μ' a = some ds) → g (.v x) (d7 cap ρ) μ' fun ρ2 μ2 => Le (d7 cap ρ) ρ2 ∧ t ρ2 μ2 fun b μ3 =>
    if b = true then ta ρ2 μ3 fun d μ4 => μ4 = μ' ∧ (match d with | .v y => f x = some y | _ => False) else μ3 = μ' ∧ f x = none) ∧ Q (.v (.list (xs.filterMap f))) μ1 := propext Iff.rfl
theorem Es {α : Type} {r : List (Option α)} : d7 [] r = [] := rfl
theorem EW {α : Type} {o : Option Nat} {c : List (Option Nat)} {r : List (Option α)} : d7 (o :: c) r = (o.bind fun j => (r[j]?).join) :: d7 c r := rfl
theorem KI : Le [] [] = True := propext ⟨fun _ => trivial, fun h => h⟩
theorem IU {r r' : Rho} {o : Option D} : Le (none :: r) (o :: r') = Le r r' := propext Iff.rfl
theorem Kr {r r' : Rho} {d d' : D} : Le (some d :: r) (some d' :: r') = (d = d' ∧ Le r r') := propext Iff.rfl
end
theorem KO {α β : Type} [BEq α] [LawfulBEq α] {x : α} {k : β} : ∀ {l : List (α × β)}, l.lookup x = some k → (x, k) ∈ l
  | [], h => by cases h
  | (y, j) :: r, h => by
    rw [List.lookup_cons] at h
    cases e : x == y with
    | true =>
      rw [e] at h
      simp only [Option.some.injEq] at h
      have : x = y := eq_of_beq e
      subst this h
      exact List.mem_cons_self
    | false =>
      rw [e] at h
      exact List.mem_cons_of_mem _ (KO h)
def cfK : NameKind → Bool
  | .cell => true
  | .free => true
  | _ => false
theorem nI {names : List (Str × NameKind)} {cl : List (Str × Addr)} (h : (names.all fun y => !(cfK y.2) || (cl.lookup y.1).isSome) = true) (x : Str) (hx : names.lookup x = some .cell ∨ names.lookup x = some .free) : ∃ a, cl.lookup x = some a := by
  rw [List.all_eq_true] at h
  have key : ∀ k, cfK k = true → names.lookup x = some k → ∃ a, cl.lookup x = some a := fun k hk e => by
    have q := h _ (KO e)
    simp only [hk, Bool.not_true, Bool.false_or] at q
    exact Option.isSome_iff_exists.mp q
  rcases hx with e | e
  · exact key _ rfl e
  · exact key _ rfl e
def J5 (X : Cx) (sc : Scope) : List (Option Nat) → List Str → Prop
  | none :: c, _ :: n => J5 X sc c n
  | some j :: c, x :: n => (X.N[j]? = some x ∧ Vis X.env.scope x ∧ X.env.kindOf x ≠ some .local ∧ ((relabel sc X.env).names.lookup x = some .cell ∨ (relabel sc X.env).names.lookup x = some .free)) ∧ J5 X sc c n
  | _, _ => True
theorem kg {X : Cx} {sc : Scope} : ∀ {c : List (Option Nat)} {n : List Str}, J5 X sc c n → ∀ (i j : Nat) (x : Str), c[i]? = some (some j) → n[i]? = some x →
    X.N[j]? = some x ∧ Vis X.env.scope x ∧ X.env.kindOf x ≠ some .local ∧ ((relabel sc X.env).names.lookup x = some .cell ∨ (relabel sc X.env).names.lookup x = some .free)
  | [], _, _, i, j, x, h, _ => by simp at h
  | _ :: _, [], _, i, j, x, _, h => by simp at h
  | none :: c, y :: n, k, 0, j, x, h, _ => by simp at h
  | none :: c, y :: n, k, i + 1, j, x, h, g => kg (c := c) (n := n) k i j x (by simpa using h) (by simpa using g)
  | some l :: c, y :: n, k, 0, j, x, h, g => by
    simp only [List.getElem?_cons_zero, Option.some.injEq] at h g
    subst h g
    exact k.1
  | some l :: c, y :: n, k, i + 1, j, x, h, g => kg (c := c) (n := n) k.2 i j x (by simpa using h) (by simpa using g)
theorem xq {X : Cx} {sc : Scope} {j : Nat} {x : Str} (h1 : X.N[j]? = some x := by rfl) (h2 : Vis X.env.scope x := by first | exact Or.inl rfl | exact Or.inr (Or.inl rfl) | exact Or.inr (Or.inr rfl)) (h3 : X.env.kindOf x ≠ some .local := by first | (intro z; cases z) | exact (fun z => nomatch z))
    (h4 : (relabel sc X.env).names.lookup x = some .cell ∨ (relabel sc X.env).names.lookup x = some .free := by first | exact Or.inl rfl | exact Or.inr rfl) : X.N[j]? = some x ∧ Vis X.env.scope x ∧ X.env.kindOf x ≠ some .local ∧ ((relabel sc X.env).names.lookup x = some .cell ∨ (relabel sc X.env).names.lookup x = some .free) := ⟨h1, h2, h3, h4⟩
open PySem PySem.Spec PyProof.Rows
def iA (μ : Mu) (p : Addr) : Mu := fun b => if b = p then none else μ b
theorem Dv {μ : Mu} {p b : Addr} (h : b ≠ p) : iA μ p b = μ b := by unfold iA; rw [if_neg h]
def rz (cap : List (Option Nat)) (src : DTI) (g : DTG) (c : DTT) (elt : DTE) : DTE := fun ρ μ Q => src ρ μ fun xs μ1 => xs.length ≤ 1000 ∧ ∀ p, μ1 p = none → ∃ Pv : Nat → List PyData → Mu → Prop, Pv 0 [] (aV μ1 p []) ∧
  (∀ i x acc μ', xs[i]? = some x → μ' p = some acc → Pv i acc μ' → g (.v x) (d7 cap ρ) μ' fun ρ2 μ2 => Le (d7 cap ρ) ρ2 ∧ c ρ2 μ2 fun b μ3 =>
    if b = true then elt ρ2 μ3 fun d μ4 => μ4 p = some acc ∧ (match d with | .v y => Pv (i + 1) (acc ++ [y]) (aV μ4 p (acc ++ [y])) | _ => False) else μ3 p = some acc ∧ Pv (i + 1) acc μ3) ∧
  (∀ acc μ', Pv xs.length acc μ' → μ' p = some acc → Q (.v (.list acc)) (iA μ' p))
theorem Hi {X : Cx} {pos2 : Pos} {use : Option (Value → Sem Unit)} {QQ : Value → Shared → Prop} {pins : List (Addr × Obj)} {s : Shared} {σ : St} {H : Hp} {ρ : Rho} {μ : Mu} {Qd : DK} {N' : List Str} {scope : Scope} {cl : List (Str × Addr)} {elt iter tg : Expr} {ifs : List Expr} {pos : Pos} {cap : List (Option Nat)} {src : DTI} {g : DTG} {c : DTT} {te : DTE} (hc : X.calm = X.calm)
    (hi : DI X tg iter src) (hg : ∀ fp s₃ H₃, DG (bZ X N' scope cl fp s₃ H₃) tg g) (hif : ∀ fp s₃ H₃, JW (bZ X N' scope cl fp s₃ H₃) ifs c) (he : ∀ fp s₃ H₃, DE (bZ X N' scope cl fp s₃ H₃) elt te)
    (hclos : closureFor scope X.env = pure cl) (hcell : ∀ y ∈ scope.names, y.2 ≠ .cell) (hkind : scope.kind = .function) (hnames : ∀ y ∈ scope.names, y.2 = .local → scope.names.lookup y.1 = some .local)
    (hcl : ∀ x a, cl.lookup x = some a → X.env.cells.lookup x = some a) (hhas : ∀ x, (relabel scope X.env).names.lookup x = some .cell ∨ (relabel scope X.env).names.lookup x = some .free → ∃ a, cl.lookup x = some a)
    (hlen : cap.length = N'.length) (hcap : ∀ (i j : Nat) (x : Str), cap[i]? = some (some j) → N'[i]? = some x → X.N[j]? = some x ∧ Vis X.env.scope x ∧ X.env.kindOf x ≠ some .local ∧ ((relabel scope X.env).names.lookup x = some .cell ∨ (relabel scope X.env).names.lookup x = some .free))
    (hs : ∀ x, foldedSetIterable iter X.env x = pure x )
    (I : Inv X pins σ H s) (S : St0 X.K H ρ μ σ) (h : rz cap src g c te ρ μ Qd)
    (hend : ∀ (s4 : Shared) (Hc : Hp) (C pa : Addr) (m : Str → Option Value) (acc : List PyData) (μF : Mu), s4.heap.Ns C m → BP X pins Hc C → (∀ h', Heap.SameBut C s4.heap h' → Inv X pins σ Hc { s4 with heap := h' }) →
      Ext X.K μ H μF Hc → St0 X.K Hc ρ μF σ → Rp X.K μF Hc (.list acc) (.ref pa) → Qd (.v (.list acc)) μF → compPost (model X.prog X.w) X.A X.xe use QQ (.ref pa) C (.ok .next) s4) :
    wpAny (model X.prog X.w) X.A (comprehension (.ListComp elt [⟨tg, iter, ifs, 0⟩] scope pos) scope X.env pos2 (newList []) false (eval iter X.env) use) QQ X.xe s := by
  obtain ⟨wi, pw, li⟩ := hi
  refine wpAny_comprehension_free rfl hs hclos hkind hnames (thn (pw pins s σ H _ I (li σ H ρ μ _ (fun J H1 => ∃ xs μ1, Ext X.K μ H μ1 H1 ∧ St0 X.K H1 ρ μ1 σ ∧ La X.K J xs μ1 H1 ∧ xs.length ≤ 1000 ∧ ∀ p, μ1 p = none → ∃ Pv : Nat → List PyData → Mu → Prop, Pv 0 [] (aV μ1 p []) ∧
      (∀ i x acc μ', xs[i]? = some x → μ' p = some acc → Pv i acc μ' → g (.v x) (d7 cap ρ) μ' fun ρ2 μ2 => Le (d7 cap ρ) ρ2 ∧ c ρ2 μ2 fun b μ3 =>
        if b = true then te ρ2 μ3 fun d μ4 => μ4 p = some acc ∧ (match d with | .v y => Pv (i + 1) (acc ++ [y]) (aV μ4 p (acc ++ [y])) | _ => False) else μ3 p = some acc ∧ Pv (i + 1) acc μ3) ∧
      (∀ acc μ', Pv xs.length acc μ' → μ' p = some acc → Qd (.v (.list acc)) (iA μ' p))) S h (fun xs μ1 H1 J e1 S1 it q => ⟨xs, μ1, e1, S1, it, q⟩)))
    fun v s1 h1 => thn h1 fun itv s2 h2 => ?_)
  obtain ⟨it, fp, tn, J, H2, rfl, I2, T, st2, f2, xs, μ1, e1, S1, itok, hxs, allp⟩ := h2
  refine wpAny_newObj_type (wpAny_newFunctionEnv hcell (by intro y hy; simp at hy) (fun h₁ hns₁ hsb₁ => ?_) hkind)
  dsimp only at hns₁ hsb₁ ⊢
  have hfree2 : H2 s2.heap.objs.size = none := I2.hok.fresh (Nat.le_refl _)
  have hK2 : X.K.lookup s2.heap.objs.size = none := by
    cases z : X.K.lookup s2.heap.objs.size with
    | none => rfl
    | some o => exact absurd (Heap.lt_size (I2.kIn _ _ z)) (Nat.lt_irrefl _)
  have I3 : Inv X pins σ (upd H2 s2.heap.objs.size (.lst [])) { s2 with heap := s2.heap.push { cls := .type "list", dict := none, data := .seq ([] : List Value).toArray } } :=
    I2.laid (t' := s2.toks) (fun b u e => Heap.get?_push_of_some _ e) (Nat.le_refl _) ⟨Nat.zero_le _, [], 0, .nil, Heap.get?_push_size _ rfl⟩
  generalize hH : s2.heap.push { cls := .type "list", dict := none, data := .seq ([] : List Value).toArray } = hp3 at hns₁ hsb₁ I3 ⊢
  have hsz3 : hp3.objs.size = s2.heap.objs.size + 1 := by rw [← hH, Heap.size_push]
  have kept3 : ∀ b o, hp3.get? b = some o → h₁.get? b = some o := fun b o e => hsb₁.extBut b o (Nat.ne_of_lt (Heap.lt_size e)) (Heap.get?_push_of_some _ e)
  have old3 : ∀ b o, s2.heap.get? b = some o → hp3.get? b = some o := fun b o e => by rw [← hH]; exact Heap.get?_push_of_some _ e
  have fplt : ∀ b ∈ fp, b < s2.heap.objs.size := fun b hb => by obtain ⟨o, e, _⟩ := T.obj 0 _ st2 b hb; exact Heap.lt_size e
  have fpst : ∀ b ∈ fp, b ∉ frs X.stack := fun b hb hz => by
    rcases List.mem_cons.mp (I2.uH b hz) with e | e
    · exact (f2 b hb).2.1 e
    · exact (f2 b hb).2.2.1 e
  obtain ⟨s3, hs3⟩ : ∃ s3 : Shared, s3 = { s2 with heap := hp3 } := ⟨_, rfl⟩
  obtain ⟨H3, hH3⟩ : ∃ H3 : Hp, H3 = upd H2 s2.heap.objs.size (.lst []) := ⟨_, rfl⟩
  have heap3 : s3.heap = hp3 := by rw [hs3]
  rw [← hH3] at I3
  have I3' : Inv X pins σ H3 s3 := by rw [hs3]; exact I3
  have hloc : H3 hp3.objs.size = none := by have := I3'.hok.fresh (a := hp3.objs.size) (by rw [heap3]; exact Nat.le_refl _); exact this
  have okc : (bZ X N' scope cl fp s3 H3).Ok := by
    refine ⟨I3.ok.mod, ?_, I3.ok.glob, I3.ok.blt, Nat.le_refl _, fun x y a h1 h2 => I3.ok.inj x y a (hcl x a h1) (hcl y a h2), fun x hx => hhas x hx, fun x a h => (nomatch h), I3.ok.hd, I3.ok.qt, I3.ok.frames, .inl rfl, fun b hb => ⟨?_, fun x a h => (f2 b hb).2.2.2.2.1 x a (hcl x a h)⟩,
      I3'.bs, Nat.le_trans I3.ok.bsz I3'.sz, fun b o e hb => ?_, fun b hb => fpst b hb, I3'.stack, I3'.BV⟩
    · exact hkind
    · show b ≠ s3.heap.objs.size
      rw [heap3, hsz3]
      exact Nat.ne_of_lt (Nat.lt_succ_of_lt (fplt b hb))
    · rcases (f2 b hb).2.2.2.1 with z | z
      · exact I3.ok.HN b o e z
      · exact absurd (Nat.lt_of_lt_of_le (Heap.lt_size (I3.ok.bs b o e).1) z) (Nat.lt_irrefl _)
  have I4 : Inv (bZ X N' scope cl fp s3 H3) [] (d7 cap σ) H3 { s2 with heap := h₁, toks := s2.toks + ([] : List (Str × Value)).length } := by
    refine ⟨okc, by show s2.os = s3.os; rw [hs3], I3.bare, Un.kept (by show ∀ b o, s3.heap.get? b = some o → _; rw [heap3]; exact kept3), ⟨_, (by show h₁.Ns s3.heap.objs.size _; rw [heap3]; exact hns₁), fun i x v e1 e2 e3 => ?_⟩, fun x a h => ?_, (by show H3 s3.heap.objs.size = none; rw [heap3]; exact hloc), fun x a h => I3.pJ x a (hcl x a h), fun p hp => ?_, I3.hok.kept kept3, ?_⟩
    · obtain ⟨j, h1, h2⟩ := wM e2
      obtain ⟨hN, hv, hnl, hk⟩ := hcap i j x h1 e1
      obtain ⟨m, _, hl⟩ := I3.loc
      obtain ⟨u, r, lk⟩ := hl j x v hN h2 hv
      refine ⟨u, r, .inr ⟨hk, ?_⟩⟩
      obtain ⟨a, ha⟩ := hhas x hk
      rcases lk with ⟨z, _⟩ | ⟨_, a', z1, z2⟩
      · exact absurd z hnl
      · have : a' = a := by have q := hcl x a ha; rw [z1] at q; exact Option.some.inj q
        subst this
        obtain ⟨o, ho, hd⟩ := z2
        exact ⟨a', ha, o, kept3 _ _ ho, hd⟩
    · obtain ⟨v, o, ho, hd⟩ := I3.cell x a (hcl x a h)
      exact ⟨v, o, kept3 _ _ ho, hd⟩
    · have hp' : p ∈ X.pn ++ pins := List.mem_append_left _ (by simpa using (show p ∈ X.pn ++ [] from hp))
      obtain ⟨z1, z2, z3, z4, z5⟩ := I3'.pin p hp'
      refine ⟨kept3 _ _ (by rw [← heap3]; exact z1), z2, (show p.1 ≠ s3.heap.objs.size from Nat.ne_of_lt (Heap.lt_size z1)), fun z => ?_, z5⟩
      rcases List.mem_cons.mp (I3'.uH p.1 z) with e | e
      · exact z3 e
      · exact z4 e
    · show (d7 cap σ).length = N'.length
      unfold d7
      rw [List.length_map]
      exact hlen
  have hμ1 : μ1 s2.heap.objs.size = none := S1.mu.free hfree2
  obtain ⟨Pv, pv0, body, fin⟩ := allp s2.heap.objs.size hμ1
  have loop : codeAny (model X.prog X.w) X.A (.compLoop (.ListComp elt [⟨tg, iter, ifs, 0⟩] scope pos) 0 (.ref it) (.ref s2.heap.objs.size) (bZ X N' scope cl fp s3 H3).env)
      (compPost (model X.prog X.w) X.A X.xe use QQ (.ref s2.heap.objs.size) hp3.objs.size) { s2 with heap := h₁, toks := s2.toks + ([] : List (Str × Value)).length } := by
    refine kS (fun n s' => ∃ (i : Nat) (σc : St) (Hc : Hp) (acc : List PyData) (μc : Mu), n = xs.length - i ∧ i ≤ xs.length ∧ Inv (bZ X N' scope cl fp s3 H3) [] σc Hc s' ∧ tn i s'.heap ∧ (∀ b ∈ fp, Hc b = none) ∧
      acc.length ≤ i ∧ μc s2.heap.objs.size = some acc ∧ Pv i acc μc ∧ St0 X.K Hc (d7 cap ρ) μc σc ∧ Ext X.K μ1 H2 μc Hc) ?_ xs.length
      ⟨0, d7 cap σ, H3, [], aV μ1 s2.heap.objs.size [], by simp, Nat.zero_le _, I4, T.keep 0 _ _ st2 (fun b hb o e => kept3 b o (old3 b o e)), fun b hb => ?_, Nat.le_refl _, bB, pv0, ?_, ?_⟩
    · rintro n s' ⟨i, σc, Hc, acc, μc, rfl, hi, Ic, tc, frc, hal, hpa, pvi, Sc, Ec⟩
      have stat : ∀ {Hd : Hp}, (∀ b ∈ fp, Hd b = none) → ∀ b ∈ fp, BP (bZ X N' scope cl fp s3 H3) [] Hd b := fun hn b hb =>
        ⟨hn b hb, (okc.exf b hb).1, fpst b hb, .inl hb, fun x a h => (okc.exf b hb).2 x a h, fun p hp => (f2 b hb).2.2.2.2.2 p (List.mem_append_left _ (by simpa using (show p ∈ X.pn ++ [] from hp)))⟩
      obtain ⟨go, stop⟩ := itok _ Hc Ec Sc.mu i
      by_cases hlt : i < xs.length
      · obtain ⟨g1, y1⟩ := go hlt
        refine thn (T.item (bZ X N' scope cl fp s3 H3) rfl rfl rfl (fun z => z) i [] s' σc Hc (fun _ _ => False) Ic (stat frc) tc g1) fun r s4 ⟨u, hr, h4⟩ => ?_
        subst hr
        refine thn h4 fun _ s5 ⟨x, H5, I5, r5, y5, st5, fr5⟩ => ?_
        obtain ⟨d, hd, sm, rd⟩ := y1 x H5 y5
        have I5' := I5.pinned (stat fr5) (T.obj _ _ st5)
        have e5 : Ext X.K _ Hc _ H5 := .of_same (μ := μc) sm
        have S5 : St0 X.K H5 (d7 cap ρ) μc σc := ⟨Sc.mu.LN e5 sm, Sc.rho.ext Sc.mu e5⟩
        obtain ⟨gt, pg, lg⟩ := hg fp s3 H3
        refine thn (pg _ s5 σc H5 x u (fun σ' H' => ∃ ρ' μ', Ext X.K μc H5 μ' H' ∧ St0 X.K H' ρ' μ' σ' ∧ Le (d7 cap ρ) ρ' ∧ c ρ' μ' fun b μ3 =>
            if b = true then te ρ' μ3 fun d' μ4 => μ4 s2.heap.objs.size = some acc ∧ (match d' with | .v y => Pv (i + 1) (acc ++ [y]) (aV μ4 s2.heap.objs.size (acc ++ [y])) | _ => False) else μ3 s2.heap.objs.size = some acc ∧ Pv (i + 1) acc μ3) I5' r5
          (lg σc H5 (d7 cap ρ) _ (.v d) x _ _ S5 rd (body i d acc μc hd hpa pvi) fun σ' ρ' μ' H' e' S' q => ⟨ρ', μ', e', S', q⟩)) fun _ s6 ⟨σ6, H6, I6, ρ6, μ6, e6, S6, le6, q6⟩ => ?_
        refine thn (hif fp s3 H3 _ s6 σ6 H6 ρ6 μ6 _ (fun b H' => ∃ μ', Ext X.K μ6 H6 μ' H' ∧ St0 X.K H' ρ6 μ' σ6 ∧ if b = true then te ρ6 μ' fun d' μ4 => μ4 s2.heap.objs.size = some acc ∧ (match d' with | .v y => Pv (i + 1) (acc ++ [y]) (aV μ4 s2.heap.objs.size (acc ++ [y])) | _ => False) else μ' s2.heap.objs.size = some acc ∧ Pv (i + 1) acc μ')
          I6 S6 q6 fun b μ' H' e' S' q => ⟨μ', e', S', q⟩) fun b s7 ⟨H7, I7, μ7, e7, S7, q7⟩ => ?_
        have again : ∀ {H9 : Hp} {s9 : Shared} {acc' : List PyData} {μ9 : Mu}, Inv (bZ X N' scope cl fp s3 H3) ([] ++ u4 fp s5.heap) σ6 H9 s9 → acc'.length ≤ i + 1 → μ9 s2.heap.objs.size = some acc' → Pv (i + 1) acc' μ9 → dZ X.K μ9 H9 → jx X.K μ9 H9 (d7 cap ρ) σ6 →
            Ext X.K μ1 H2 μ9 H9 → ∃ m, m < xs.length - i ∧ ∃ (i : Nat) (σc : St) (Hc : Hp) (acc : List PyData) (μc : Mu), m = xs.length - i ∧ i ≤ xs.length ∧ Inv (bZ X N' scope cl fp s3 H3) [] σc Hc s9 ∧ tn i s9.heap ∧ (∀ b ∈ fp, Hc b = none) ∧
              acc.length ≤ i ∧ μc s2.heap.objs.size = some acc ∧ Pv i acc μc ∧ St0 X.K Hc (d7 cap ρ) μc σc ∧ Ext X.K μ1 H2 μc Hc := fun {H9 s9 acc' μ9} I9 l9 p9 v9 m9 r9 e9 => by
          refine ⟨xs.length - (i + 1), by omega, i + 1, σ6, H9, acc', μ9, rfl, hlt, I9.md, T.keep _ _ _ st5 fun b hb o e => (I9.pin (b, o) (List.mem_append_right _ (List.mem_append_right _ (gN hb e)))).1, fun b hb => ?_, l9, p9, v9, ⟨m9, r9⟩, e9⟩
          obtain ⟨o, e, _⟩ := T.obj _ _ st5 b hb
          exact (I9.pin (b, o) (List.mem_append_right _ (List.mem_append_right _ (gN hb e)))).2.1
        cases b with
        | false =>
          have q8 : μ7 s2.heap.objs.size = some acc ∧ Pv (i + 1) acc μ7 := by simpa using q7
          refine Cg ?_
          exact again I7 (by omega) q8.1 q8.2 S7.mu (S7.rho.le le6) (Ec.trans (e5.trans (e6.trans e7)))
        | true =>
          refine Cm ?_
          obtain ⟨t8, p8, l8⟩ := he fp s3 H3
          refine thn (p8 _ s7 σ6 H7 (fun v H' => ∃ y μ8, Ext X.K μ7 H7 μ8 H' ∧ St0 X.K H' ρ6 μ8 σ6 ∧ Rp X.K μ8 H' y v ∧ μ8 s2.heap.objs.size = some acc ∧ Pv (i + 1) (acc ++ [y]) (aV μ8 s2.heap.objs.size (acc ++ [y]))) I7
            (l8 σ6 H7 ρ6 μ7 _ _ S7 (by simpa using q7) fun d' v μ8 H8 e8 S8 r8 q8 => ?_)) fun v s8 ⟨v8, H8, I8, r8, y, μ8, e8, S8, ry, pa8, fy⟩ => ?_
          · obtain ⟨q80, q8⟩ := q8
            cases d' with
            | v y => exact ⟨y, μ8, e8, S8, r8, q80, q8⟩
            | m _ => exact q8.elim
            | s _ => exact q8.elim
            | o _ => exact q8.elim
            | q _ => exact q8.elim
          · obtain ⟨us, hacc, rus⟩ := S8.mu s2.heap.objs.size _ pa8
            have hle : acc.length ≤ 1000 := by omega
            refine thn (vi (X := bZ X N' scope cl fp s3 H3) _ s8 σ6 H8 (.ref s2.heap.objs.size) [v8] (.ref s2.heap.objs.size) [v] (fun _ H' => H' = upd H8 s2.heap.objs.size (.lst (us ++ [v8]))) I8 rfl (.cons r8 .nil) ⟨_, us, v8, rfl, rfl, hacc, by rw [← rus.length]; exact jY hle, rfl⟩) fun _ s9 ⟨_, H9, I9, _, e9⟩ => ?_
            subst e9
            have ex : Ext X.K μ8 H8 (aV μ8 s2.heap.objs.size (acc ++ [y])) (upd H8 s2.heap.objs.size (.lst (us ++ [v8]))) := tP pa8
            exact again I9 (by rw [List.length_append, List.length_singleton]; omega) bB fy (S8.mu.set pa8 (rus.append (.cons ry .nil))) ((S8.rho.le le6).ext S8.mu ex) (Ec.trans (e5.trans (e6.trans (e7.trans (e8.trans ex)))))
      · have ei : i = xs.length := by omega
        subst ei
        refine thn (T.done (bZ X N' scope cl fp s3 H3) rfl rfl rfl (fun z => z) _ [] s' σc Hc (fun _ _ => False) Ic (stat frc) tc (stop rfl)) fun r s4 ⟨hr, I5⟩ => ?_
        subst hr
        obtain ⟨m, hn, _⟩ := I5.loc
        have hcC : Hc hp3.objs.size = none := by have z : Hc s3.heap.objs.size = none := I5.free; rw [heap3] at z; exact z
        obtain ⟨us, hacc, rus⟩ := Sc.mu s2.heap.objs.size _ hpa
        have shr : ∀ a, μc a = none → iA μc s2.heap.objs.size a = none := fun a e => by
          unfold iA
          split
          · rfl
          · exact e
        have dne : ∀ a ds, iA μc s2.heap.objs.size a = some ds → μc a = some ds := fun a ds e => by
          unfold iA at e
          split at e
          · cases e
          · exact e
        have eF : Ext X.K μ1 H2 (iA μc s2.heap.objs.size) Hc := by
          refine ⟨Ec.keep, Ec.tb, fun b ds q => ?_, fun b q z => shr b (Ec.fresh b q z)⟩
          obtain ⟨es, q2⟩ := Ec.dom b ds q
          have : b ≠ s2.heap.objs.size := fun z => by rw [z, hμ1] at q; cases q
          exact ⟨es, by unfold iA; rw [if_neg this]; exact q2⟩
        have mF : dZ X.K (iA μc s2.heap.objs.size) Hc := ⟨fun a ds q => by
          obtain ⟨ys, z1, z2⟩ := Sc.mu a ds (dne a ds q)
          exact ⟨ys, z1, z2.shrink shr⟩, Sc.mu.tab⟩
        refine hend s4 Hc hp3.objs.size s2.heap.objs.size m acc (iA μc s2.heap.objs.size) (by have z : s4.heap.Ns s3.heap.objs.size m := hn; rw [heap3] at z; exact z) (I2.Lb (by rw [hsz3]; exact Nat.le_succ _) hcC) (fun h' hs' => ?_) (e1.trans eF) ⟨mF, S1.rho.ext S1.mu eF⟩ (Rp.list hacc (by unfold iA; rw [if_pos rfl]) (rus.shrink shr)) (fin acc μc pvi hpa)
        have kp : ∀ b o, b < s2.heap.objs.size → s4.heap.get? b = some o → h'.get? b = some o := fun b o hb e => hs'.extBut b o (by rw [hsz3]; exact Nat.ne_of_lt (Nat.lt_succ_of_lt hb)) e
        have hok' : HOk X.prog X.w Hc h' := fun b ob e => by
          refine (I5.hok b ob e).yU (fun cc v hcc q => hs'.extBut cc v ?_ q) (fun _ q => q) fun _ _ q => q
          rintro rfl
          rcases hcc with z | z
          · rw [← z, hcC] at e; cases e
          · rw [hcC] at z; cases z
        have u1 : Un (frs X.stack) fp H2 H3 s2.heap s3.heap := by rw [heap3, hH3]; exact Un.laid old3 (Nat.le_refl _) hfree2
        have u2 : Un (frs X.stack) fp H3 Hc s3.heap s4.heap := I5.base
        exact I2.Jt (ch := fp) (by show s4.os = s2.os; have z : s4.os = s3.os := I5.os; rw [z, hs3]) (Un.after (u1.trans u2) kp) hok' I5.bare fun b hb => ⟨(f2 b hb).2.2.2.1, (f2 b hb).2.1, (f2 b hb).2.2.2.2.1, (f2 b hb).2.2.2.2.2⟩
    · have z : b ≠ s2.heap.objs.size := Nat.ne_of_lt (fplt b hb)
      rw [hH3, cF z]
      exact (f2 b hb).1
    · have ex := qi (o := .lst []) (ds := []) S1.mu hfree2 hK2
      rw [hH3]
      exact ⟨S1.mu.mut .nil hfree2 hK2, (S1.rho.ext S1.mu ex).cap⟩
    · rw [hH3]
      exact qi (o := .lst []) (ds := []) S1.mu hfree2 hK2
  have envE : (bZ X N' scope cl fp s3 H3).env = compEnvC scope cl hp3.objs.size X.env := by show compEnvC scope cl s3.heap.objs.size X.env = _; rw [heap3]
  rw [envE] at loop
  exact codeAny_compStart_list loop (T.self X.A 0 _ _ _ (T.keep 0 _ _ st2 (fun b hb o e => kept3 b o (old3 b o e))) loop)
theorem ns_obj {h : Heap} {C : Addr} {m : Str → Option Value} (hn : h.Ns C m) : ∃ o, h.get? C = some o ∧ ∀ v, o.data ≠ .cell v := let ⟨o, es, ep, ho, hd, _⟩ := hn; ⟨o, ho, fun v z => by rw [hd] at z; cases z⟩
theorem LS {h h' : Heap} {C : Addr} {m : Str → Option Value} (hn : h.Ns C m) (e : h'.get? C = h.get? C) : h'.Ns C m := let ⟨o, es, ep, ho, r⟩ := hn; ⟨o, es, ep, e.trans ho, r⟩
theorem Ay {X : Cx} {i : Nat} {x : Str} {pos' spos : Pos} {N' : List Str} {scope : Scope} {cl : List (Str × Addr)} {elt iter tg : Expr} {ifs : List Expr} {pos : Pos} {cap : List (Option Nat)} {src : DTI} {g : DTG} {c : DTT} {te : DTE} (hN : X.N.Nodup) (hix : X.N[i]? = some x) (hx : X.env.scope.names.lookup x = some .local) (hc : X.calm = X.calm)
    (hi : DI X tg iter src) (hg : ∀ fp s₃ H₃, DG (bZ X N' scope cl fp s₃ H₃) tg g) (hif : ∀ fp s₃ H₃, JW (bZ X N' scope cl fp s₃ H₃) ifs c) (he : ∀ fp s₃ H₃, DE (bZ X N' scope cl fp s₃ H₃) elt te)
    (hclos : closureFor scope X.env = pure cl) (hcell : ∀ y ∈ scope.names, y.2 ≠ .cell) (hkind : scope.kind = .function) (hnames : ∀ y ∈ scope.names, y.2 = .local → scope.names.lookup y.1 = some .local)
    (hcl : ∀ x a, cl.lookup x = some a → X.env.cells.lookup x = some a) (hhas : ∀ x, (relabel scope X.env).names.lookup x = some .cell ∨ (relabel scope X.env).names.lookup x = some .free → ∃ a, cl.lookup x = some a)
    (hlen : cap.length = N'.length) (hcap : ∀ (i j : Nat) (x : Str), cap[i]? = some (some j) → N'[i]? = some x → X.N[j]? = some x ∧ Vis X.env.scope x ∧ X.env.kindOf x ≠ some .local ∧ ((relabel scope X.env).names.lookup x = some .cell ∨ (relabel scope X.env).names.lookup x = some .free))
    (hs : ∀ x, foldedSetIterable iter X.env x = pure x := by intro _; rfl)
    (hsw : swapsWith (.ListComp elt [⟨tg, iter, ifs, 0⟩] scope pos) (some (.Name x pos')) spos.line X.env = pure true := by rfl) : DS X (.Assign [.Name x pos'] (.ListComp elt [⟨tg, iter, ifs, 0⟩] scope pos) spos) (bC (rz cap src g c te) (au i)) := by
  refine ⟨fun D σ H => ∃ ρ μ Dd, St0 X.K H ρ μ σ ∧ bC (rz cap src g c te) (au i) Dd ρ μ ∧ (∀ σ' ρ' μ' H', Ext X.K μ H μ' H' → St0 X.K H' ρ' μ' σ' → Dd.nx ρ' μ' → D.nx σ' H'), ?_, fun σ H ρ μ Dd De S h k1 k2 k3 k4 => ⟨ρ, μ, Dd, S, h, k1⟩⟩
  rintro pins s σ H D I ⟨ρ, μ, Dd, S, h, k1⟩
  rw [exec_Assign_Name_used _ _ _ _ hsw]
  refine wpAny_bind (wpAny_standAt ?_)
  show wpAny _ _ ((comprehension (.ListComp elt [⟨tg, iter, ifs, 0⟩] scope pos) scope X.env (firstIterPos [⟨tg, iter, ifs, 0⟩] pos) (newList []) false (eval iter X.env) (some (assign (.Name x pos') X.env)) >>= fun _ => pure ()) >>= _) _ _ s
  refine wpAny_bind (wpAny_bind (Hi (Qd := fun d μ1 => au i d ρ μ1 Dd.nx) hc hi hg hif he hclos hcell hkind hnames hcl hhas hlen hcap hs I S h fun s4 Hc C pa m acc μF hn fC hI e1 S1 r q => ?_))
  have I4 : Inv X pins σ Hc s4 := hI s4.heap (Heap.SameBut.refl _ _)
  obtain ⟨oC, hoC, hdC⟩ : ∃ o, s4.heap.get? C = some o ∧ ∀ v, o.data ≠ .cell v := by
    obtain ⟨o, h1, h2⟩ := ns_obj hn
    exact ⟨o, h1, h2⟩
  have I5 := I4.pinned (fp := [C]) (fun b hb => by rw [List.mem_singleton.mp hb]; exact fC) (fun b hb => by rw [List.mem_singleton.mp hb]; exact ⟨oC, hoC, hdC⟩)
  show wpAny _ _ (assign (.Name x pos') X.env (.ref pa)) _ _ s4
  refine wpAny_assign_Name (oS I5 hN hix (Or.inl hx) (show RelV (.ref pa) (.ref pa) from rfl) (fun s' I' => ?_) (.inr hx))
  have keepC : s'.heap.get? C = some oC := (I'.pin (C, oC) (List.mem_append_right _ (List.mem_append_right _ (gN (List.mem_singleton.mpr rfl) hoC)))).1
  have hn' : s'.heap.Ns C m := LS hn (by rw [keepC, hoC])
  refine ⟨m, hn', fun h' hs' => wpAny_pure (wpAny_pure ?_)⟩
  refine ⟨σ.set i (some (.ref pa)), Hc, ?_, k1 _ _ _ _ e1 ⟨S1.mu, S1.rho.set (d := .v (.list acc)) r⟩ q⟩
  refine I'.md.Jt (ch := [C]) rfl ⟨fun b o e n hb hx => ?_, fun b o e n hb hx => ?_, fun b o e n hx => n, fun b o e hx => ?_, fun b xs e => e, fun b o u e => e, fun b ps e => ⟨#[], by rw [Array.append_empty]; exact e⟩⟩ ?_ I'.bare fun b hb => ?_
  · exact hs'.extBut b o (fun z => hx (List.mem_singleton.mpr z)) e
  · exact ⟨o.slots, hs'.extBut b o (fun z => hx (List.mem_singleton.mpr z)) e⟩
  · exact ⟨o, hs'.extBut b o (fun z => hx (List.mem_singleton.mpr z)) e⟩
  · exact fun b ob e => by
      refine (I'.hok b ob e).yU (fun cc v hcc q => hs'.extBut cc v ?_ q) (fun _ q => q) fun _ _ q => q
      rintro rfl
      rcases hcc with z | z
      · rw [← z, fC.1] at e; cases e
      · rw [fC.1] at z; cases z
  · rw [List.mem_singleton.mp hb]
    exact ⟨fC.2.2.2.1, fC.2.1, fC.2.2.2.2.1, fC.2.2.2.2.2⟩
theorem zZ {cap : List (Option Nat)} {src : DTI} {g : DTG} {t : DTT} {ta : DTE} {ρ : Rho} {μ : Mu} {Q : DK} : rz cap src g t ta ρ μ Q = src ρ μ fun xs μ1 => xs.length ≤ 1000 ∧ ∀ p, μ1 p = none → ∃ Pv : Nat → List PyData → Mu → Prop, Pv 0 [] (aV μ1 p []) ∧
  (∀ i x acc μ', xs[i]? = some x → μ' p = some acc → Pv i acc μ' → g (.v x) (d7 cap ρ) μ' fun ρ2 μ2 => Le (d7 cap ρ) ρ2 ∧ t ρ2 μ2 fun b μ3 =>
    if b = true then ta ρ2 μ3 fun d μ4 => μ4 p = some acc ∧ (match d with | .v y => Pv (i + 1) (acc ++ [y]) (aV μ4 p (acc ++ [y])) | _ => False) else μ3 p = some acc ∧ Pv (i + 1) acc μ3) ∧
  (∀ acc μ', Pv xs.length acc μ' → μ' p = some acc → Q (.v (.list acc)) (iA μ' p)) := propext Iff.rfl
theorem zy {μ : Mu} {p : Addr} {ds : List PyData} (h : μ p = none) : iA (aV μ p ds) p = μ := by
  funext b
  unfold iA aV
  by_cases e : b = p
  · rw [if_pos e, e, h]
  · rw [if_neg e, if_neg e]
theorem Nd {xs : List PyData} {f : PyData → Option PyData} {i : Nat} {d : PyData} (h : xs[i]? = some d) : (xs.take (i + 1)).filterMap f = (xs.take i).filterMap f ++ (f d).toList := AH h
open PySem PySem.Spec PyProof.Rows
section
variable {X : Cx} {es : List Expr} {x1 : Nat} {tpos : Pos}
def Ha : List PyData → List PyData → List PyData
  | x :: xs, y :: ys => .tuple [x, y] :: Ha xs ys
  | _, _ => []
def O2 (t : DTA) : DTI := fun ρ μ Q => t ρ μ fun ds μ1 => match ds with
  | [.v (.list xs), .v (.list ys)] => Q (Ha xs ys) μ1
  | _ => False
theorem Bb {t : DTA} {ρ : Rho} {μ : Mu} {Q : List PyData → Mu → Prop} : O2 t ρ μ Q = t ρ μ fun ds μ1 => match ds with | [.v (.list xs), .v (.list ys)] => Q (Ha xs ys) μ1 | _ => False := propext Iff.rfl
end
open PySem PySem.Spec PyProof.Rows
section
variable {X : Cx} {a b e : Expr} {es : List Expr} {ta tb te : DTE} {t : DTA} {p pos : Pos}
def kL : List D → Mu → DK → Prop := fun xs μ Q => match xs with
  | [.v (.list ys)] => Q (.v (.tuple ys)) μ
  | [.v (.tuple ys)] => Q (.v (.tuple ys)) μ
  | [.m l] => (match μ l with | some ys => Q (.v (.tuple ys)) μ | none => False)
  | _ => False
theorem Jy {K : PySem.W.Frag} : qw K (fun xs H Q => ∃ p ys, xs = [.ref p] ∧ ((SqL K H p ys ∧ ∀ l, H l = none → Q (.ref l) (upd H l (.tup ys))) ∨ (SqT K H p ys ∧ Q (.ref p) H))) kL := by
  intro xs us H μ Qd Q ok rs h k
  unfold kL at h
  split at h
  · cases rs with
    | cons r1 r2 =>
      cases r2
      cases r1 with
      | list hs hn r => exact ⟨_, _, rfl, .inl ⟨SqL.of hs, fun l hl => k (.v _) _ μ _ (eI hl) (ok.new hl) (kc ok r hl) h⟩⟩
  · cases rs with
    | cons r1 r2 =>
      cases r2
      cases id r1 with
      | tuple hs r => exact ⟨_, _, rfl, .inr ⟨hs, k (.v _) _ μ H .refl ok r1 h⟩⟩
  · cases rs with
    | cons r1 r2 =>
      cases r2
      obtain ⟨rfl, ds, hm⟩ := r1
      rw [hm] at h
      obtain ⟨us, hl, r⟩ := ok _ ds hm
      exact ⟨_, _, rfl, .inl ⟨SqL.of hl, fun l hl' => k (.v _) _ μ _ (eI hl') (ok.new hl') (kc ok r hl') h⟩⟩
  · exact h.elim
theorem Cy (hg : Gl X "tuple") (hm : X.mg "tuple" = none) (ha : DA X (e :: es) t)
    (he : starEach (e :: es) X.env = (false, eval e X.env) :: starEach es X.env := by rfl) (hpl : (backTo pos (starEach es X.env)).any (·.1) = false := by rfl) : DE X (.Call (.Name "tuple" p) (e :: es) [] pos) (dCB kL t) :=
  zI yw Jy hg hm PyProof.Rows.Boot.«tuple» ha (by decide) (by decide) he hpl
theorem xA {ys : List PyData} {μ : Mu} {Q : DK} : kL [.v (.list ys)] μ Q = Q (.v (.tuple ys)) μ := propext Iff.rfl
theorem wA {ys : List PyData} {μ : Mu} {Q : DK} : kL [.v (.tuple ys)] μ Q = Q (.v (.tuple ys)) μ := propext Iff.rfl
theorem wX {l : Addr} {μ : Mu} {Q : DK} : kL [.m l] μ Q = (match μ l with | some ys => Q (.v (.tuple ys)) μ | none => False) := propext Iff.rfl
def OB : D → D → Mu → DK → Prop := fun x y μ Q => match x, y with
  | .v (.list xs), .v (.int k) => (0 ≤ k ∧ k ≤ 1000 ∧ xs.length * k.toNat ≤ 1000) ∧ Q (.v (.list (List.replicate k.toNat xs).flatten)) μ
  | _, _ => False
theorem IL {xs : List PyData} {k : Int} {μ : Mu} {Q : DK} : OB (.v (.list xs)) (.v (.int k)) μ Q = ((0 ≤ k ∧ k ≤ 1000 ∧ xs.length * k.toNat ≤ 1000) ∧ Q (.v (.list (List.replicate k.toNat xs).flatten)) μ) := propext Iff.rfl
end
open PySem PySem.Spec PyProof.Rows
section
variable {prog : Program} {w : World} {A : Around} {E : Value → Shared → Prop} {s : Shared}
end
open PySem PySem.Spec PyProof.Rows
section
variable {X : Cx} {es : List Expr} {x1 : Nat} {tpos : Pos}
end
section
variable {X : Cx} {es : List Expr} {pos : Pos}
end
theorem cl1 {k : Str} {v : Addr} {r : List (Str × Addr)} {x : Str} {a : Addr} (h : List.lookup x [(k, v)] = some a) : List.lookup x ((k, v) :: r) = some a := by
  simp only [List.lookup_cons] at h ⊢
  cases e : x == k with
  | true => rw [e] at h; exact h
  | false => rw [e] at h; exact absurd h (by simp)
theorem cl2 {k k' : Str} {v v' : Addr} {r : List (Str × Addr)} {x : Str} {a : Addr} (n : (k == k') = false) (h : List.lookup x [(k, v)] = some a) : List.lookup x ((k', v') :: (k, v) :: r) = some a := by
  have g := cl1 (r := r) h
  simp only [List.lookup_cons] at h
  cases e : x == k with
  | true =>
    have e' : x = k := by simpa using e
    subst e'
    rw [List.lookup_cons, n]
    exact g
  | false => rw [e] at h; exact absurd h (by simp)
open PySem PySem.Spec PyProof.Rows
section
variable {X : Cx} {e : Expr} {es : List Expr} {t : DTA} {p pos : Pos}
def gc : List PyData → Option (List Int)
  | [] => some []
  | .int b :: r => (gc r).map (b :: ·)
  | _ :: _ => none
theorem zi {K : PySem.W.Frag} {μ : Mu} {H : Hp} : ∀ {xs : List PyData} {us : List V} {bs : List Int}, RpL K μ H xs us → gc xs = some bs → us = bs.map V.int
  | _, _, _, .nil, e => by cases e; rfl
  | .int b :: r, _, bs, .cons h t, e => by
    simp only [gc] at e
    cases q : gc r with
    | none => rw [q] at e; cases e
    | some cs => rw [q] at e; cases e; cases h; rw [zi t q]; rfl
  | .none :: r, _, bs, .cons h t, e => by simp [gc] at e
  | .bool _ :: r, _, bs, .cons h t, e => by simp [gc] at e
  | .str _ :: r, _, bs, .cons h t, e => by simp [gc] at e
  | .list _ :: r, _, bs, .cons h t, e => by simp [gc] at e
  | .tuple _ :: r, _, bs, .cons h t, e => by simp [gc] at e
  | .dict _ :: r, _, bs, .cons h t, e => by simp [gc] at e
end
section
variable {X : Cx} {e tg : Expr} {te : DTE} {td : DTS} {pos : Pos}
def IT (te : DTE) (g : DTG) (tb : DTS) : DTS := fun Dd ρ μ => te ρ μ fun d μ1 => match d with
  | .m l => ∃ xs, μ1 l = some xs ∧ ∃ Pv : Nat → Rho → Mu → Prop, Pv 0 ρ μ1 ∧ (∀ i ρ' μ', Pv i ρ' μ' → μ' l = some xs) ∧
      (∀ i x ρ' μ', xs[i]? = some x → Pv i ρ' μ' → g (.v x) ρ' μ' fun ρ2 μ2 => tb { Dd with nx := Pv (i + 1), ct := Pv (i + 1), bk := Dd.nx } ρ2 μ2) ∧ (∀ ρ' μ', Pv xs.length ρ' μ' → Dd.nx ρ' μ')
  | _ => False
theorem Ly {body : List Stmt} {g : DTG} (hp : PassesOwn (model X.prog X.w) X.A X.env X.xe) (hc : X.calm = true) (hi : DE X e te) (hg : DG X tg g) (hb : DSs X body td)
    (hs : ∀ x, foldedSetIterable e X.env x = pure x := by intro _; rfl) : DS X (.For tg e body [] pos) (IT te g td) := by
  obtain ⟨t0, p0, l0⟩ := hi
  obtain ⟨t1, p1, l1⟩ := hg
  obtain ⟨t2, p2, l2⟩ := hb
  refine ⟨_, JL hp hc (GB p0) p1 p2 hs, fun σ H ρ μ Dd De S h k1 k2 k3 k4 => ?_⟩
  refine l0 σ H ρ μ _ _ S h fun d u μ1 H1 e1 S1 r h1 => ?_
  split at h1
  · rename_i l
    obtain ⟨xs, hl, Pv, pv0, yU, turn, fin⟩ := h1
    obtain ⟨rfl, _⟩ := r
    obtain ⟨us0, hus0, _⟩ := S1.mu l xs hl
    refine ⟨l, rfl, ⟨us0, SqL.of hus0⟩, ?_⟩
    refine ⟨fun i m σ' H' => m = xs.length - i ∧ i ≤ xs.length ∧ ∃ ρ' μ', Ext X.K μ1 H1 μ' H' ∧ St0 X.K H' ρ' μ' σ' ∧ Pv i ρ' μ', ⟨xs.length, by simp, Nat.zero_le _, ρ, μ1, .refl, S1, pv0⟩, ?_⟩
    rintro i m σ' H' ⟨rfl, hi, ρ', μ', e2, S2, pv⟩
    obtain ⟨us, hus, ra⟩ := S2.mu l xs (yU i ρ' μ' pv)
    by_cases hlt : i < xs.length
    · have hiu : i < us.length := by rw [← ra.length]; exact hlt
      refine .inr ⟨⟨us, us[i], SqL.of hus, by simp [hiu]⟩, fun σ2 H2 => ∃ ρ2 μ2, Ext X.K μ1 H1 μ2 H2 ∧ St0 X.K H2 ρ2 μ2 σ2 ∧ Pv (i + 1) ρ2 μ2, fun σ2 H2 q => ⟨xs.length - (i + 1), by omega, rfl, hlt, q⟩, fun x H2 yl => ?_⟩
      obtain ⟨eH, hx⟩ := yl
      subst eH
      obtain ⟨u', h1', h2'⟩ := ra.get (i := i) (d := xs[i]) (by simp [hlt])
      have hx' := hx us (SqL.of hus)
      rw [h1'] at hx'
      cases hx'
      refine l1 σ' H2 ρ' μ' (.v xs[i]) _ _ _ S2 h2' (turn i xs[i] ρ' μ' (by simp [hlt]) pv) fun σ4 ρ4 μ4 H4 e4 S4 h4 => ?_
      have nxt : ∀ a b c dd, Ext X.K μ4 H4 c dd → St0 X.K dd b c a → Pv (i + 1) b c → ∃ ρ2 μ2, Ext X.K μ1 H1 μ2 dd ∧ St0 X.K dd ρ2 μ2 a ∧ Pv (i + 1) ρ2 μ2 := fun a b c dd e5 S5 q => ⟨b, c, e2.trans (e4.trans e5), S5, q⟩
      have ee := e1.trans (e2.trans e4)
      exact l2 σ4 H4 ρ4 μ4 _ _ S4 h4 nxt (fun a b c d e5 => k2 a b c d (ee.trans e5)) (fun a b c d e5 => k1 a b c d (ee.trans e5)) nxt
    · have ei : i = xs.length := by omega
      subst ei
      exact .inl ⟨⟨us, SqL.of hus, by rw [← ra.length]; omega⟩, k1 σ' ρ' μ' H' (e1.trans e2) S2 (fin ρ' μ' pv)⟩
  · exact h1.elim
theorem M3 {g : DTG} {tb : DTS} {Dd : G0} {ρ : Rho} {μ : Mu} : IT te g tb Dd ρ μ = te ρ μ fun d μ1 => match d with
  | .m l => ∃ xs, μ1 l = some xs ∧ ∃ Pv : Nat → Rho → Mu → Prop, Pv 0 ρ μ1 ∧ (∀ i ρ' μ', Pv i ρ' μ' → μ' l = some xs) ∧
      (∀ i x ρ' μ', xs[i]? = some x → Pv i ρ' μ' → g (.v x) ρ' μ' fun ρ2 μ2 => tb { Dd with nx := Pv (i + 1), ct := Pv (i + 1), bk := Dd.nx } ρ2 μ2) ∧ (∀ ρ' μ', Pv xs.length ρ' μ' → Dd.nx ρ' μ')
  | _ => False := propext Iff.rfl
end
section
variable {X : Cx} {a b c : Expr} {ta tb tc : DTE} {pos : Pos}
end
open PySem PySem.Spec PyProof.Rows
section
variable {X : Cx} {o e : Expr} {to te : DTE} {apos cpos pos : Pos}
theorem RpL.eraseIdx {K : PySem.W.Frag} {μ : Mu} {H : Hp} : ∀ {ds : List PyData} {us : List V} (i : Nat), RpL K μ H ds us → RpL K μ H (ds.eraseIdx i) (us.eraseIdx i)
  | _, _, _, .nil => .nil
  | _, _, 0, .cons _ t => t
  | _, _, i + 1, .cons h t => .cons h (RpL.eraseIdx i t)
def Ql (to te : DTE) : DTE := fun ρ μ Q => to ρ μ fun x μ1 => match x with
  | .m l => te ρ μ1 fun y μ2 => (match y, μ2 l with
    | .v (.int i), some xs => (0 ≤ i ∧ i < 1000) ∧ ∃ d, xs[i.toNat]? = some d ∧ Q (.v d) (aV μ2 l (xs.eraseIdx i.toNat))
    | _, _ => False)
  | _ => False
def Gn : R2 := fun x y H Q => ∃ i j, x = .bl i ∧ y = .bl j ∧ Q (.bl (!(i == j))) H
theorem HW : OpR X (compareOp .IsNot) Gn := by
  intro pins s σ H x y v u Q I rx ry h
  obtain ⟨i, j, rfl, rfl, q⟩ := h
  cases rx; cases ry
  exact wpAny_isNot_plain rfl ⟨.bl (!(i == j)), H, I, by cases i <;> cases j <;> rfl, q⟩
def wg : D → D → Mu → DK → Prop := fun x y μ Q => match x, y with
  | .v (.bool i), .v (.bool j) => Q (.v (.bool (!(i == j)))) μ
  | _, _ => False
theorem IQ {K : PySem.W.Frag} : mm K Gn wg := by
  intro x y ux uy H μ Qd Q ok rx ry h k
  unfold wg at h
  split at h
  · cases rx; cases ry; exact ⟨_, _, rfl, rfl, k (.v _) _ μ H .refl ok (Rp.bool _) h⟩
  · exact h.elim
end
section
variable {X : Cx} {e : Expr} {es : List Expr} {t : DTA} {p pos : Pos}
end
section
variable {X : Cx} {a b : Expr} {ta tb : DTE} {pos : Pos}
end
open PySem PySem.Spec PyProof.Rows
def Jh (cells : List (Str × Addr)) : List (Str × Addr) → Prop
  | [] => True
  | (k, v) :: r => cells.lookup k = some v ∧ Jh cells r
theorem iP {cells : List (Str × Addr)} : Jh cells [] := trivial
theorem cO {cells r : List (Str × Addr)} {k : Str} {v : Addr} (h : cells.lookup k = some v) (t : Jh cells r) : Jh cells ((k, v) :: r) := ⟨h, t⟩
theorem d5 {cells : List (Str × Addr)} : ∀ {cl : List (Str × Addr)}, Jh cells cl → ∀ x a, cl.lookup x = some a → cells.lookup x = some a
  | [], _, _, _, h => by simp at h
  | (k, v) :: r, c, x, a, h => by
    rw [List.lookup_cons] at h
    cases e : x == k with
    | true =>
      have e' : x = k := by simpa using e
      rw [e] at h
      subst e'
      rw [c.1]; exact h
    | false =>
      rw [e] at h
      exact d5 c.2 x a h
open PySem PySem.Spec PyProof.Rows
structure Kp (O : Addr → Prop) (fs : List Addr) (h h' : Heap) : Prop where
  keep : ∀ b o, h.get? b = some o → O b → b ∉ fs → h'.get? b = some o
  slot : ∀ b o, h.get? b = some o → (∀ vs, o.data ≠ .fields vs) → ∃ sl, h'.get? b = some { o with slots := sl }
section
variable {O : Addr → Prop} {fs : List Addr} {h h1 h2 : Heap}
theorem Kp.refl : Kp O fs h h := ⟨fun _ _ e _ _ => e, fun _ o e _ => ⟨o.slots, e⟩⟩
theorem Kp.trans (a : Kp O fs h h1) (b : Kp O fs h1 h2) : Kp O fs h h2 := ⟨fun c o e l f => b.keep c o (a.keep c o e l f) l f, fun c o e d => let ⟨_, e1⟩ := a.slot c o e d; let ⟨sl, e2⟩ := b.slot c _ e1 d; ⟨sl, e2⟩⟩
theorem Kp.of (k : ∀ b o, h.get? b = some o → h1.get? b = some o) : Kp O fs h h1 := ⟨fun b o e _ _ => k b o e, fun b o e _ => ⟨o.slots, k b o e⟩⟩
theorem Kp.frames {base : Heap} {l : List Env} (a : Kp O fs h h1) (k : h.FunFrames base l) : h1.FunFrames base l := k.of_keeps fun b o e d => let ⟨_, e1⟩ := a.slot b o e d; ⟨_, e1, rfl⟩
end
section
variable {M : Model} {A : Around} {E : Value → Shared → Prop} {s : Shared} {O : Addr → Prop} {e L : Addr} {cls fl : Value} {env : Env} {outer : List Env} {base : Heap} {Q : Unit → Shared → Prop}
end
open PySem PySem.Spec PyProof.Rows
section
variable {X : Cx} {pins : List (Addr × Obj)} {σ : St} {H : Hp} {s : Shared} {O : Addr → Prop} {ea : Addr} {cls : Value} {E : XK} {base : Heap}
end
abbrev DTX := Rho → Mu → (Mu → Prop) → Prop
abbrev XSp := List D → Mu → (Mu → Prop) → Prop
def NF (K : PySem.W.Frag) (E : XK) (C : Value) (μ : Mu) (H : Hp) (Xk : Mu → Prop) : Prop := ∀ μ' H', Ext K μ H μ' H' → dZ K μ' H' → Xk μ' → E C none H'
theorem NF.on {K : PySem.W.Frag} {E : XK} {C : Value} {μ μ1 : Mu} {H H1 : Hp} {Xk : Mu → Prop} (w : NF K E C μ H Xk) (e : Ext K μ H μ1 H1) : NF K E C μ1 H1 Xk := fun μ' H' e' => w μ' H' (e.trans e')
section
variable {X : Cx} {E : XK} {C : Value} {e : Expr} {es : List Expr} {t : DTA} {te : DTE} {tx ty : DTX} {p pos : Pos} {x : Str} {k : Nat} {f : Addr} {fd : FuncData} {ps : List Str} {dsp : XSp} {st : Stmt} {sts : List Stmt}
end
open PySem PySem.Spec PyProof.Rows
section
variable {X : Cx} {E : XK} {x : Str} {C : Addr}
end
open PySem PySem.Spec PyProof.Rows
section
variable {prog : Program} {w : World} {A : Around} {E : Value → Shared → Prop} {h : Heap} {g : Array GenState} {d : Drawn} {t : Nat} {os : OsState} {a C : Addr} {o : Obj} {K : PySem.W.Frag}
end
open PySem PySem.Spec PyProof.Rows
section
variable {X : Cx} {pins : List (Addr × Obj)} {σ : St} {H : Hp} {s : Shared}
end
open PySem PySem.Spec PyProof.Rows
section
variable {P : Program} {w : World} {K : PySem.W.Frag} {mg : Str → Option Value} {base : Heap} {N : List Str} {lsc : Scope} {cl : List (Str × Addr)} {q : Str} {fa c1 : Addr} {A : Around} {outer : List Env} {s : Shared} {H : Hp} {E : XK} {σ : St} {k : Nat} {params : Arguments} {body : Expr} {pm ctv : Value} {t : TE}
end
open PySem PySem.Spec PyProof.Rows
section
variable {X : Cx} {pins : List (Addr × Obj)} {σ : St} {H : Hp} {s : Shared} {O : Addr → Prop} {ea : Addr} {oe : Obj} {vs : Array Value}
end
open PySem PySem.Spec PyProof.Rows
open PySem PySem.Spec PyProof.Rows
section
variable {X : Cx} {e : Expr} {te : DTE} {p py pos : Pos} {y : Str} {C : Addr} {b : Bool} {ea : Addr} {oe : Obj}
end
end L2.DL
set_option Elab.async false
set_option linter.all false
set_option maxRecDepth 100000
set_option maxHeartbeats 4000000
namespace L2
open PySem PySem.Spec PyProof.Rows DL
def OA (tabs : List Addr) (H : Hp) : Prop := ∀ b, H b = none ∨ (∃ o xs, H b = some (.frz o (.lst xs))) ∨ (b ∈ tabs ∧ H b = some (.tbl #[]))
theorem Hm {P : Program} {w : World} {K : PySem.W.Frag} {mg mb : Str → Option Value} {CX : CXT} {k : Nat} {fa a : Addr} {fd : FuncData} {x : Str} {sp : Sp} {s₁ : Shared} {vs : List Value} {ns : List Int} (tabs : List Addr)
    (hT : ∀ p ∈ tabs, s₁.heap.get? p = some (PySem.W.tabObj #[]) ∧ K.lookup p = none) (hA2 : ∀ c o p q, K.lookup c = some o → ec o = some (p, q) → p ∈ tabs) (hC : ∀ p ∈ tabs, isCodeTable s₁.heap p)
    (KX : K.In s₁.heap) (hns : s₁.heap.Ns mainGlobals mg) (hb : s₁.heap.Ns builtinsNs mb) (hbb : ∀ x : Str, x ≠ "__name__" → mb x = bootBuiltins x) (hlim : s₁.heap.NoLimit) (hg : s₁.gens = #[])
    (ha : s₁.heap.get? a = some { cls := .type "list", data := .seq vs.toArray }) (hi : IntsAre vs ns) (hl : ns.length ≤ sizeLine) (hr : mG k callerA)
    (F : ∀ base : Heap, K.In base → base.Ns mainGlobals mg → bM P w K mg base CX k fa fd [x] sp) (hbind : ∀ (s : Shared) (u : Value), BindsTo s fd ⟨[u], []⟩ [(x, u)])
    (hsp : ∀ H : Hp, CO K H → SqL K H a (ns.map V.int) → sp [.ref a] H (fun v _ => v = .bl true) fun _ _ _ => False)
    (hCX : ∀ H e s', CX [] H s₁ (fun _ _ _ => False) e s' → False) :
    codeAny (model P w) callerA (.call (.ref fa) ⟨[.ref a], []⟩) (fun r s' => r = .ok (.ret (.bool true)) ∧ OldK s₁.heap s'.heap ∧ s'.os = s₁.os ∧ AllBare s'.gens) s₁ := by
  have rv := zk hi
  have lenV := hi.length
  have ant : a ∉ tabs := fun z => by have := (hT a z).1; rw [ha] at this; cases this
  have core : ∀ H : Hp, OA tabs H → SqL K H a (ns.map V.int) → HOk P w H s₁.heap → (∀ b, H b ≠ none → b = a ∨ b ∈ tabs) → (H a ≠ none → K.lookup a = none) → (∀ p ∈ tabs, H p = some (.tbl #[])) →
      codeAny (model P w) callerA (.call (.ref fa) ⟨[.ref a], []⟩) (fun r s' => r = .ok (.ret (.bool true)) ∧ OldK s₁.heap s'.heap ∧ s'.os = s₁.os ∧ AllBare s'.gens) s₁ := by
    intro H hO hS hok hA hK hP
    have base_of : ∀ {b : Addr} {o : Obj}, s₁.heap.get? b = some o → H b = none → (Bw s₁.heap H).get? b = some o := fun e n => JQ e n
    have noA : ∀ {b : Addr} {o : Obj} {es : Array DictEntry} {ep : Nat}, s₁.heap.get? b = some o → o.data = .dict es ep → H b = none := fun {b o es ep} e d => by
      cases q : H b with
      | none => rfl
      | some u =>
        rcases hA b (by rw [q]; simp) with e' | e'
        · subst e'
          rw [ha] at e; cases e
          have d' : Data.seq vs.toArray _ = Data.dict es ep := d
          cases d'
        · rw [(hT b e').1] at e; cases e
          have d' : Data.fields #[] = Data.dict es ep := d
          cases d'
    have nsK : ∀ {b : Addr} {m : Str → Option Value}, s₁.heap.Ns b m → (Bw s₁.heap H).Ns b m := fun {b m} ⟨o, es, ep, e, d, r⟩ => ⟨o, es, ep, base_of e (noA e d), d, r⟩
    have hKb : K.In (Bw s₁.heap H) := fun b o e => base_of (KX b o e) (by
      cases q : H b with
      | none => rfl
      | some u =>
        rcases hA b (by rw [q]; simp) with e' | e'
        · subst e'
          rw [hK (by rw [q]; simp)] at e; cases e
        · have e2 := e; rw [show K.lookup b = none from (hT b e').2] at e2; cases e2)
    have hM : Mod K mg (Bw s₁.heap H) := ⟨hKb, nsK hns, ⟨mb, nsK hb, hbb⟩, let ⟨mc, h1, h2⟩ := hlim; ⟨mc, nsK h1, h2⟩⟩
    have e0 : L0 P w K mg (Bw s₁.heap H) callerA [] s₁ H := ⟨rfl, hM, fun b o e => Lq e, Nat.le_of_eq (Ia _ _), trivial, fun b hb => absurd (show b ∈ ([] : List Addr) from hb) (by simp), hok, .of_eq hg⟩
    have tb : CO K H := fun c o p q h1 h2 => ⟨#[], hP p (hA2 c o p q h1 h2), trivial, fun pos cv e => by simp [codeAmong] at e⟩
    refine codeAny_mono ((F _ hKb (nsK hns)).run callerA [] s₁ H ⟨[.ref a], []⟩ [.ref a] [.ref a] _ _ hr e0 (hbind s₁ (.ref a)) (.cons rfl .nil) (hsp H tb hS)) fun r s' h => ?_
    cases r with
    | error e => exact (hCX H e s' h).elim
    | ok fl =>
      cases fl with
      | next => exact False.elim h
      | brk => exact False.elim h
      | cont => exact False.elim h
      | ret u =>
        obtain ⟨v, H', os, bare, un, hok', r', q⟩ := h
        have q' : v = .bl true := q
        subst q'
        obtain rfl : u = Value.bool true := r'
        refine ⟨rfl, ⟨fun b o e => ?_, fun b o e => un.there b o e (by simp)⟩, os, bare⟩
        cases q : H b with
        | none => exact .inl (un.keep b o e q (by intro z; exact absurd (show b ∈ ([] : List Addr) from z) (by simp)) (by simp))
        | some u =>
          rcases hO b with z | ⟨ob, xs, z⟩ | ⟨zt, z⟩
          · rw [q] at z; cases z
          · have z2 := un.tM b ob _ z
            obtain ⟨e1, _⟩ := hok b _ z
            obtain ⟨e2, _⟩ := hok' b _ z2
            rw [e] at e1; cases e1
            exact .inl e2
          · obtain ⟨more, z2⟩ := un.tN b _ z
            have e2 : s'.heap.get? b = some { cls := .none, data := .fields (#[] ++ more) } := hok' b _ z2
            have e1 := (hT b zt).1
            rw [e] at e1; cases e1
            exact .inr (.inl ⟨hC b zt, rfl, #[], more, rfl, e2⟩)
  have okT : ∀ p ∈ tabs, s₁.heap.get? p = some { cls := .none, data := .fields #[] } := fun p hp => (hT p hp).1
  cases hk : K.lookup a with
  | some o =>
    have e := KX a o hk
    rw [ha] at e
    cases e
    refine core (fun b => if b ∈ tabs then some (.tbl #[]) else none) (fun b => ?_) (.inr ⟨_, vs.toArray, _, hk, rfl, rfl, rfl, by rw [List.size_toArray, lenV]; exact hl, by simpa using rv⟩) (fun b u z => ?_) (fun b z => ?_) (fun z => absurd (if_neg ant) z) (fun p hp => if_pos hp)
    · by_cases hb : b ∈ tabs
      · exact .inr (.inr ⟨hb, if_pos hb⟩)
      · exact .inl (if_neg hb)
    · by_cases hb : b ∈ tabs
      · have z' := (if_pos hb).symm.trans z; cases z'; exact okT b hb
      · have z' := (if_neg hb).symm.trans z; cases z'
    · by_cases hb : b ∈ tabs
      · exact .inr hb
      · exact absurd (if_neg hb) z
  | none =>
    refine core (fun b => if b = a then some (.frz { cls := .type "list", data := .seq vs.toArray } (.lst (ns.map V.int))) else if b ∈ tabs then some (.tbl #[]) else none) (fun b => ?_) (.inl (.inr ⟨{ cls := .type "list", data := .seq vs.toArray }, if_pos rfl⟩)) (fun b u z => ?_) (fun b z => ?_) (fun _ => hk) (fun p hp => by
      have : p ≠ a := fun y => ant (by rw [← y]; exact hp)
      exact (if_neg this).trans (if_pos hp))
    · by_cases hb : b = a
      · exact .inr (.inl ⟨_, _, if_pos hb⟩)
      · by_cases hb2 : b ∈ tabs
        · exact .inr (.inr ⟨hb2, (if_neg hb).trans (if_pos hb2)⟩)
        · exact .inl ((if_neg hb).trans (if_neg hb2))
    · by_cases hb : b = a
      · have z' := (if_pos hb).symm.trans z
        cases z'
        subst hb
        exact ⟨ha, by rw [List.length_map]; exact hl, vs, _, rv, ha⟩
      · by_cases hb2 : b ∈ tabs
        · have z' := ((if_neg hb).trans (if_pos hb2)).symm.trans z; cases z'; exact okT b hb2
        · have z' := ((if_neg hb).trans (if_neg hb2)).symm.trans z; cases z'
    · by_cases hb : b = a
      · exact .inl hb
      · by_cases hb2 : b ∈ tabs
        · exact .inr hb2
        · exact absurd ((if_neg hb).trans (if_neg hb2)) z
theorem IS {l : PySem.W.OpenLaw} {n k : Nat} {q : Program} {loose : List Str} {XP : (Str → Option Value) → Heap → Prop} {YP : World → Heap → Prop} {d : DefRec} {K : Params → PySem.W.Frag} {CX : World → CXT} {sp : World → Sp} {x : Str} (tabs : List Addr)
    (hn : l.most = some n) (hn2 : n ≤ sizeLine) (hdf : d.params.defaults = []) (hr : mG k callerA)
    (hY : ∀ (w : World) (h : Heap), YP w h → (K w.params).In h ∧ (∀ p ∈ tabs, h.get? p = some (PySem.W.tabObj #[]) ∧ (K w.params).lookup p = none) ∧ (∀ p ∈ tabs, isCodeTable h p))
    (hA2 : ∀ (w : World) c o p q, (K w.params).lookup c = some o → ec o = some (p, q) → p ∈ tabs)
    (F : ∀ (w : World) (mg : Str → Option Value) (fa : Addr) (h : Heap), (K w.params).In h → h.Ns mainGlobals mg → mg d.name = some (.ref fa) →
      ∃ fd : FuncData, (∀ (s : Shared) (u : Value), BindsTo s fd ⟨[u], []⟩ [(x, u)]) ∧
        ∀ base : Heap, (K w.params).In base → base.Ns mainGlobals mg → bM l.prog w (K w.params) mg base (CX w) k fa fd [x] (sp w))
    (hsp : ∀ (w : World) (H : Hp) (a : Addr) (ns : List Int), ns.length ≤ n → CO (K w.params) H → SqL (K w.params) H a (ns.map V.int) → sp w [.ref a] H (fun v _ => v = .bl true) fun _ _ _ => False)
    (hCX : ∀ (w : World) (H : Hp) (s : Shared) (e : Value) (s' : Shared), CX w [] H s (fun _ _ _ => False) e s' → False) :
    PySem.W.WalkO q loose XP YP l.row.toRowW d [] (fun f vs => PySem.call f vs) := by
  refine Att.DY hn hdf fun w s₀ s₁ mg mb fa o pm cd doc a vs ns G Y ho hd hcd hmg hobj hints hlen hg => ?_
  obtain ⟨KX, hT, hC⟩ := hY w _ Y
  obtain ⟨fd, hb, hF⟩ := F w mg fa _ KX G.T.g hmg
  exact Hm tabs hT (hA2 w) hC KX G.T.g G.T.b G.T.builtins G.T.nolimit hg hobj hints (Nat.le_trans hlen hn2) hr hF hb (fun H hO hS => hsp w H a ns hlen hO hS) fun H e s' => hCX w H s₁ e s'
end L2
namespace L2.DL
open PySem PySem.Spec PyProof.Rows
theorem Lk {K : PySem.W.Frag} {l : List (Addr × Str)} (h : (K.filterMap fun p => ec p.2) = l) {c : Addr} {o : Obj} {P : Addr} {q : Str} (e : K.lookup c = some o) (e2 : ec o = some (P, q)) : (P, q) ∈ l := by
  rw [← h]
  have mem : ∀ (L : List (Addr × Obj)), List.lookup c L = some o → (c, o) ∈ L := fun L => by
    induction L with
    | nil => intro z; cases z
    | cons a r ih =>
      intro z
      rw [List.lookup_cons] at z
      by_cases y : c = a.1
      · rw [y] at z ⊢; simp at z; rw [← z]; exact List.mem_cons_self
      · rw [show (c == a.1) = false from by simpa using y] at z
        exact List.mem_cons_of_mem _ (ih z)
  exact List.mem_filterMap.mpr ⟨(c, o), mem K e, e2⟩
theorem zq {K : PySem.W.Frag} {h : Heap} {c P : Addr} {o : Obj} {q : Str} (X : K.In h) (l : K.lookup c = some o) (e : ec o = some (P, q)) : isCodeTable h P := by
  have ho := X _ _ l
  unfold ec at e
  split at e
  · rename_i cn vs hcls hd
    split at e
    · rename_i hcn
      subst hcn
      split at e
      · rename_i e11 e18
        split at e
        · cases e
          exact ⟨c, o, vs, ho, hcls, hd, by assumption⟩
        · cases e
      · cases e
    · cases e
  · cases e
theorem Gv {K : PySem.W.Frag} {c P : Addr} {q : Str} (h : (K.lookup c).bind ec = some (P, q)) : ∃ o, K.lookup c = some o ∧ ec o = some (P, q) := Option.bind_eq_some_iff.mp h
theorem B3 {K T : PySem.W.Frag} {h : Heap} (X : PySem.W.Frag.In (K ++ T) h) : K.In h := fun b o e => X b o (by
  show List.lookup b (K ++ T) = some o
  rw [List.lookup_append, show List.lookup b K = some o from e]; rfl)
open PySem PySem.Spec PyProof.Rows
section
end
open PySem PySem.Spec PyProof.Rows
theorem FC (bs : List Bool) : ((List.range bs.length).any fun i => (bs[i]?).getD false) = bs.any id := by
  rw [Bool.eq_iff_iff, List.any_eq_true, List.any_eq_true]
  constructor
  · rintro ⟨i, hi, h⟩
    have hl := List.mem_range.mp hi
    rw [List.getElem?_eq_getElem hl, Option.getD_some] at h
    exact ⟨bs[i], List.getElem_mem hl, h⟩
  · rintro ⟨b, hb, h⟩
    obtain ⟨i, hi, rfl⟩ := List.getElem_of_mem hb
    exact ⟨i, List.mem_range.mpr hi, by rw [List.getElem?_eq_getElem hi, Option.getD_some]; exact h⟩
section
variable {X : Cx} {a b e : Expr} {es : List Expr} {ta tb te : DTE} {t : DTA} {p pos : Pos} {x : Str} {bid T : String}
theorem Hz (hc : X.calm = true) : hU X (.builtin "any") (fun xs H Q => ∃ (p : Addr) (bs : List Bool), xs = [.ref p] ∧ H p = some (.lst (bs.map V.bl)) ∧ Q (.bl (bs.any id)) H) := by
  intro pins s σ H xs us Q I r h
  obtain ⟨l, bs, rfl, hl, q⟩ := h
  obtain ⟨u, rfl, rx⟩ := vals1 r
  cases rx
  obtain ⟨its, rv, pl, _⟩ := I.list (SqL.of hl)
  have eb := xx rv
  subst eb
  have hL := pl.isList
  have hlt := pl.lt
  refine call_any_walk (wpAny_pyIter_list hL ?_)
  refine ⟨s.heap.objs.size, [s.heap.objs.size, l], [s.heap.objs.size], (bs.map Value.bool).toArray.size, _, _, fun i => (bs[i]?).getD false, rfl, Walks.list (A := X.A.in1) (by exact I.ok.hd hc) _ l (Nat.ne_of_lt hlt) (bs.map Value.bool).toArray,
    ⟨⟨_, Heap.get?_push_size _ rfl, rfl, rfl⟩, hL.push _⟩, fun i v s' Q' E' hP hQ => ?_, fun h' tk hk => ?_⟩
  · have hP' : (bs.map Value.bool)[i]? = some v := by simpa using hP
    rw [List.getElem?_map] at hP'
    cases z : bs[i]? with
    | none => rw [z] at hP'; cases hP'
    | some b =>
      rw [z] at hP'
      cases hP'
      simp only [z, Option.getD_some] at hQ
      exact wpAny_truthy_bool hQ
  · have e : ((List.range (bs.map Value.bool).toArray.size).any fun i => (bs[i]?).getD false) = bs.any id := by
      rw [List.size_toArray, List.length_map]; exact FC bs
    rw [e]
    exact ⟨.bl (bs.any id), H, I.kept (PyProof.Rows.LSm.kept_iter hk), rfl, q⟩
def zp : List D → Mu → DK → Prop := fun xs μ Q => match xs with
  | [.v (.list ys)] => (match bY ys with | some bs => Q (.v (.bool (bs.any id))) μ | none => False)
  | _ => False
theorem M0 {K : PySem.W.Frag} : qw K (fun xs H Q => ∃ (p : Addr) (bs : List Bool), xs = [.ref p] ∧ H p = some (.lst (bs.map V.bl)) ∧ Q (.bl (bs.any id)) H) zp := by
  intro xs us H μ Qd Q ok rs h k
  unfold zp at h
  split at h
  · rename_i ys
    cases q : bY ys with
    | none => rw [q] at h; exact h.elim
    | some bs =>
      rw [q] at h
      cases rs with
      | cons r1 r2 =>
        cases r2
        cases r1 with
        | list hs hn r => exact ⟨_, bs, rfl, by rw [hs, q5 r q], k (.v _) _ μ H .refl ok (Rp.bool _) h⟩
  · exact h.elim
theorem IE (hc : X.calm = true) (hg : Gl X "any") (hm : X.mg "any" = none) (ha : DA X (e :: es) t)
    (he : starEach (e :: es) X.env = (false, eval e X.env) :: starEach es X.env := by rfl) (hpl : (backTo pos (starEach es X.env)).any (·.1) = false := by rfl) : DE X (.Call (.Name "any" p) (e :: es) [] pos) (dCB zp t) :=
  lY (Hz hc) M0 hg hm PyProof.Rows.Boot.«any» ha (by decide) (by decide) he hpl
theorem Mi {ys : List PyData} {μ : Mu} {Q : DK} : zp [.v (.list ys)] μ Q = (match bY ys with | some bs => Q (.v (.bool (bs.any id))) μ | none => False) := propext Iff.rfl
end
open PySem PySem.Spec PyProof.Rows
section
variable {X : Cx} {es : List Expr} {x1 : Nat} {tpos : Pos}
end
open PySem PySem.Spec PyProof.Rows
def vz (ns : List Int) : Nat := (PyProof.Rows.firstMet (fun i => ns.getD i 0) ns.length).length
def setAt (p : Addr) (n : Nat) (h : Heap) : Prop := ∃ o es ep t, h.get? p = some o ∧ o.ExactSet ∧ o.data = .set es ep t ∧ t.fits es.size = true ∧ (es.size : Int) < 2 ^ 63 ∧ es.size = n
theorem zE : ∀ {ns : List Int} {vs : List Value}, Vals (ns.map V.int) vs → IntsAre vs ns
  | [], _, .nil => .nil
  | n :: ns, _, .cons h t => by
    obtain ⟨tk, rfl⟩ := h
    exact .cons n tk (zE t)
section
variable {X : Cx} {e : Expr} {te : DTE} {p p2 pos pos2 : Pos}
theorem HL (hc : X.calm = true) : hU X (.type "set") (fun xs H Q => ∃ (l : Addr) (ns : List Int), xs = [.ref l] ∧ H l = some (.lst (ns.map V.int)) ∧ ns.length ≤ 1000 ∧ ∀ q, H q = none → Q (.ref q) (upd H q (.ext (setAt q (vz ns))))) := by
  intro pins s σ H xs us Q I r h
  obtain ⟨l, ns, rfl, hl, hn, q⟩ := h
  obtain ⟨u, rfl, rx⟩ := vals1 r
  cases rx
  obtain ⟨its, rv, pl, _⟩ := I.list (SqL.of hl)
  have hi := zE rv
  have hlen : its.length = ns.length := IntsAre.length hi
  refine PySem.call_set_list (items := its.toArray) (ns := ns) (I.ok.hd hc) pl.isList (by simpa using hi) (by unfold scanBound; simp; omega) fun h' tk hS hk => ?_
  obtain ⟨o, es, ep, t, ho, hex, hd, _, _, hb, hf, hn'⟩ := hS
  have hsz : its.toArray.size = ns.length := by simpa using hlen
  rw [hsz] at hn'
  have h63 : (es.size : Int) < 2 ^ 63 := by
    have : (es.size : Int) < 4096 := by unfold scanBound at hb; omega
    exact Int.lt_of_lt_of_le this (by decide)
  refine ⟨.ref s.heap.objs.size, _, I.laid (t' := tk) (fun b o' e' => hk b o' (Heap.lt_size e') e') (Nat.le_refl _) (o := .ext (setAt s.heap.objs.size (vz ns))) ⟨⟨o, es, ep, t, ho, hex, hd, hf, h63, hn'⟩, ⟨o, ho⟩, ?_⟩, rfl, q _ (I.hok.fresh (Nat.le_refl _))⟩
  rintro h1 h2 ⟨o, es, ep, t, ho, hex, hd, hf, h63, hn'⟩ k
  exact ⟨o, es, ep, t, k o ho, hex, hd, hf, h63, hn'⟩
theorem HZ : hU X (.builtin "len") (fun xs H Q => ∃ (q : Addr) (n : Nat), xs = [.ref q] ∧ H q = some (.ext (setAt q n)) ∧ Q (.int n) H) := by
  intro pins s σ H xs us Q I r h
  obtain ⟨q, n, rfl, hq, hQ⟩ := h
  obtain ⟨u, rfl, rx⟩ := vals1 r
  cases rx
  obtain ⟨⟨o, es, ep, t, ho, hex, hd, hf, h63, rfl⟩, _, _⟩ := I.hok q _ hq
  refine PySem.call_len_set ho hex hd hf h63 ?_
  exact ⟨.int es.size, H, I.kept (h' := s.heap) (t' := s.toks + 1 + 1) (fun _ _ e => e), ⟨_, rfl⟩, hQ⟩
def Ab (te : DTE) : DTE := fun ρ μ Q => te ρ μ fun d μ1 => match d with
  | .v (.list ys) => (match gc ys with | some ns => ns.length ≤ 1000 ∧ Q (.v (.int (vz ns))) μ1 | none => False)
  | _ => False
theorem J8 {ρ : Rho} {μ : Mu} {Q : DK} : Ab te ρ μ Q = te ρ μ fun d μ1 => match d with
  | .v (.list ys) => (match gc ys with | some ns => ns.length ≤ 1000 ∧ Q (.v (.int (vz ns))) μ1 | none => False)
  | _ => False := propext Iff.rfl
theorem Ih (hc : X.calm = true) (hg : Gl X "len") (hm : X.mg "len" = none) (hg2 : Gl X "set") (hm2 : X.mg "set" = none) (h : DE X e te)
    (he : starEach [Expr.Call (.Name "set" p2) [e] [] pos2] X.env = (false, eval (Expr.Call (.Name "set" p2) [e] [] pos2) X.env) :: starEach [] X.env := by rfl)
    (he2 : starEach [e] X.env = (false, eval e X.env) :: starEach [] X.env := by rfl) : DE X (.Call (.Name "len" p) [.Call (.Name "set" p2) [e] [] pos2] [] pos) (Ab te) := by
  obtain ⟨t1, p1, l1⟩ := h
  refine ⟨_, xp HZ hg hm PyProof.Rows.Boot.«len» (nr (zd (HL hc) hg2 hm2 PyProof.Rows.Boot.«set» (nr p1 vj he2) (by decide) (by decide) he2 rfl) vj he) (by decide) (by decide) he rfl, fun σ H ρ μ Qd Q S q k => ?_⟩
  refine l1 σ H ρ μ _ _ S q fun d u μ1 H1 e1 S1 r h1 => ?_
  split at h1
  · rename_i ys
    cases z : gc ys with
    | none => rw [z] at h1; exact h1.elim
    | some ns =>
      rw [z] at h1
      cases r with
      | @list a us _ ha hn ra =>
        have eu := zi ra z
        subst eu
        refine ⟨a, ns, rfl, ha, h1.1, fun q hq => ⟨q, vz ns, rfl, ja, ?_⟩⟩
        have ex : Ext X.K μ1 H1 μ1 (upd H1 q (.ext (setAt q (vz ns)))) := eI hq
        exact k (.v (.int (vz ns))) _ μ1 _ (e1.trans ex) ⟨S1.mu.new hq, S1.rho.ext S1.mu ex⟩ (Rp.int _) h1.2
  · exact h1.elim
end
open PySem PySem.Spec PyProof.Rows
def QT (ds : List D) : PQ := fun K u μ H => ∃ a us, u = .ref a ∧ H a = some (.tup us) ∧ lB K μ H ds us
section
variable {X : Cx} {pins : List (Addr × Obj)} {σ : St} {H : Hp} {s : Shared}
end
section
variable {K : PySem.W.Frag} {μ : Mu} {H : Hp} {a : Addr} {us : List V} {ds : List D}
end
section
variable {X : Cx} {es : List Expr} {t : DTA} {pos : Pos}
end
open PySem PySem.Spec PyProof.Rows
open PySem PySem.Spec PyProof.Rows
open PySem PySem.Spec PyProof.Rows
def xo (k : Int) : List Int → Option Nat
  | [] => none
  | x :: r => if x = k then some 0 else (xo k r).map (· + 1)
theorem wC : ∀ {is : List Int} {its : List Value}, Vals (is.map V.int) its → PySem.W.kf_ints its = true
  | [], _, .nil => rfl
  | i :: is, _, .cons r rs => by
    obtain ⟨t, rfl⟩ := r
    unfold PySem.W.kf_ints
    exact wC rs
theorem DR {k : Int} : ∀ {is : List Int} {its : List Value} {j : Nat}, Vals (is.map V.int) its → xo k is = some j → PySem.W.kf_at k its = some j
  | [], _, _, .nil, h => by cases h
  | i :: is, _, j, .cons r rs, h => by
    obtain ⟨t, rfl⟩ := r
    unfold xo at h
    unfold PySem.W.kf_at
    by_cases e : i = k
    · rw [if_pos e] at h
      cases h
      have : isInt k (.int i t) = true := by rw [e]; simp [isInt]
      rw [this]
      rfl
    · rw [if_neg e] at h
      have : isInt k (.int i t) = false := by simp [isInt]; exact e
      rw [this]
      cases q : xo k is with
      | none => rw [q] at h; cases h
      | some z =>
        rw [q] at h
        cases h
        have := DR rs q
        rw [this]
        rfl
def N6 : V → List V → Hp → VK → Prop := fun x vs H Q => ∃ l is k j, x = .ref l ∧ vs = [.int k] ∧ H l = some (.lst (is.map V.int)) ∧ xo k is = some j ∧ Q (.int (j : Nat)) H
theorem Jn {X : Cx} : MtR X "list.index" N6 := by
  intro pins s σ H x vs v us Q I rx rv h
  obtain ⟨l, is, k, j, rfl, rfl, hH, hj, q⟩ := h
  cases rx
  obtain ⟨u, rfl, ru⟩ := rv.one
  obtain ⟨t, rfl⟩ := ru
  obtain ⟨z, its, n, r, hl, e⟩ := I.Ol hH
  have a := wC r
  have b := DR r hj
  obtain ⟨c1, c2, c3⟩ := PySem.W.kf_at_spec b
  have hz : its.length ≤ sizeLine := by rw [← r.length]; exact z
  rw [sizeLine_eq] at hz
  refine call_meets PySem.F.slot_list_index ⟨_, e, rfl⟩ PySem.F.entry_list_index (PySem.F.args_list_index_2 _ _)
    (MeetsSeq.list_index l its.toArray n (.int k t) (isInt k) (fun y hy => PySem.W.kf_eq a y (by simpa using hy)) j (by simpa using c1) (by omega) (by simpa using c2) (fun i hi hlt => by simpa using c3 i (by simpa using hi) hlt)) ⟨e, ?_⟩
  exact ⟨.int j, H, I.tok _, ⟨_, rfl⟩, q⟩
section
variable {X : Cx} {o e : Expr} {to te : DTE} {apos cpos : Pos}
def Ap (to te : DTE) : DTE := fun ρ μ Q => to ρ μ fun x μ1 => match x with
  | .v (.list xs) => te ρ μ1 fun y μ2 => (match y with
    | .v (.int k) => ∃ is j, xs = is.map PyData.int ∧ xo k is = some j ∧ Q (.v (.int (j : Nat))) μ2
    | _ => False)
  | _ => False
theorem G4 {to te : DTE} {ρ : Rho} {μ : Mu} {Q : DK} : Ap to te ρ μ Q = to ρ μ fun x μ1 => match x with
  | .v (.list xs) => te ρ μ1 fun y μ2 => (match y with
    | .v (.int k) => ∃ is j, xs = is.map PyData.int ∧ xo k is = some j ∧ Q (.v (.int (j : Nat))) μ2
    | _ => False)
  | _ => False := propext Iff.rfl
theorem C8 {K : PySem.W.Frag} {μ : Mu} {H : Hp} : ∀ {is : List Int} {us : List V}, RpL K μ H (is.map PyData.int) us → us = is.map V.int
  | [], _, .nil => rfl
  | i :: is, _, .cons r rs => by cases r; rw [C8 rs]; rfl
theorem Ck (ho : DE X o to) (ha : DE X e te) (hbase : attributeBase o "index" X.env (eval o X.env) = eval o X.env := by rfl)
    (hfew : ((backTo cpos (starEach [e] X.env)).all (fun x => !x.1) && (backToKw cpos (keywordEach [] X.env)).all (fun x => x.1.isSome)
      && decide ([e].length + ([] : List Keyword).length + (if ([] : List Keyword).isEmpty then 0 else 1) < 30)) = true := by rfl)
    (hline : (apos.endLine == cpos.line) = true := by rfl) (hs : starEach [e] X.env = (false, eval e X.env) :: starEach [] X.env := by rfl) (hplain : (backTo cpos (starEach [] X.env)).any (·.1) = false := by rfl) :
    DE X (.Call (.Attribute o "index" apos) [e] [] cpos) (Ap to te) := by
  obtain ⟨t1, p1, l1⟩ := ho
  obtain ⟨t2, p2, l2⟩ := ha
  refine ⟨_, Mj PySem.F.plainAttrs_list PySem.F.slot_list_index PySem.F.type_list_index Jn p1 (nr p2 vj hs) hbase hfew hline hs hplain, fun σ H ρ μ Qd Q S h k => ?_⟩
  refine l1 σ H ρ μ _ _ S h fun x ux μ1 H1 e1 S1 rx h1 => ?_
  split at h1
  · rename_i xs
    cases rx with
    | @list a us _ ha hn ra =>
      refine ⟨.inl ⟨rfl, us, SqL.of ha⟩, l2 σ H1 ρ μ1 _ _ S1 h1 fun y uy μ2 H2 e2 S2 ry h2 => ?_⟩
      split at h2
      · rename_i kk
        obtain ⟨is, j, rfl, hj, h3⟩ := h2
        cases ry
        have ha2 := e2.keep _ _ ha hn trivial
        obtain rfl := C8 ra
        exact ⟨a, is, kk, j, rfl, rfl, ha2, hj, k (.v (.int (j : Nat))) _ μ2 H2 (e1.trans e2) S2 (Rp.int _) h3⟩
      · exact h2.elim
  · exact h1.elim
end
section
variable {X : Cx} {E : XK} {C : Value} {a b : Expr} {tx : DTX} {pos : Pos}
end
section
variable {X : Cx}
def Pk : R2 := fun x y H Q => y = .non ∧ ((x = .non ∧ Q (.bl true) H) ∨ (∃ i, x = .int i ∧ Q (.bl false) H))
theorem LX : OpR X (compareOp .Is) Pk := by
  intro pins s σ H x y v u Q I rx ry h
  obtain ⟨rfl, ⟨rfl, q⟩ | ⟨i, rfl, q⟩⟩ := h
  · cases rx; cases ry
    exact wpAny_is_plain rfl ⟨.bl true, H, I, rfl, q⟩
  · obtain ⟨t, rfl⟩ := rx
    cases ry
    exact wpAny_is_plain rfl ⟨.bl false, H, I, rfl, q⟩
def C0 : D → D → Mu → DK → Prop := fun x y μ Q => match x, y with
  | .v .none, .v .none => Q (.v (.bool true)) μ
  | .v (.int _), .v .none => Q (.v (.bool false)) μ
  | _, _ => False
theorem ME {K : PySem.W.Frag} : mm K Pk C0 := by
  intro x y ux uy H μ Qd Q ok rx ry h k
  unfold C0 at h
  split at h
  · cases rx; cases ry; exact ⟨rfl, .inl ⟨rfl, k (.v _) _ μ H .refl ok (Rp.bool _) h⟩⟩
  · cases rx; cases ry; exact ⟨rfl, .inr ⟨_, rfl, k (.v _) _ μ H .refl ok (Rp.bool _) h⟩⟩
  · exact h.elim
theorem KN {μ : Mu} {Q : DK} : C0 (.v .none) (.v .none) μ Q = Q (.v (.bool true)) μ := propext Iff.rfl
theorem Lf {μ : Mu} {Q : DK} {i : Int} : C0 (.v (.int i)) (.v .none) μ Q = Q (.v (.bool false)) μ := propext Iff.rfl
end
open PySem PySem.Spec PyProof.Rows
section
variable {X : Cx}
end
end L2.DL
set_option linter.all false
set_option maxRecDepth 100000
set_option maxHeartbeats 1000000
namespace NM
section
variable {d : Int} {x y z k s o : N3} {A B C A' B' C' P Q R E F G : Int}
theorem Rep.conv (h : Rep x A B C) (hc : C' ≠ 0) (e1 : A * C' = A' * C) (e2 : B * C' = B' * C) : Rep x A' B' C' := by
  obtain ⟨h0, h1, h2⟩ := h
  refine ⟨hc, Int.eq_of_mul_eq_mul_right h0 ?_, Int.eq_of_mul_eq_mul_right h0 ?_⟩
  · have : x.a * C' * C = (x.a * C) * C' := by grind
    rw [this, h1]
    have : A * x.c * C' = (A * C') * x.c := by grind
    rw [this, e1]
    grind
  · have : x.b * C' * C = (x.b * C) * C' := by grind
    rw [this, h2]
    have : B * x.c * C' = (B * C') * x.c := by grind
    rw [this, e2]
    grind
theorem xg (h : Rep x A B C) (ox : Ok x) : x.b = 0 ↔ B = 0 := by
  have e := h.b
  constructor
  · intro z
    rw [z, Int.zero_mul] at e
    exact (Int.mul_eq_zero.mp e.symm).resolve_right ox.cn
  · intro z
    rw [z, Int.zero_mul] at e
    exact (Int.mul_eq_zero.mp e).resolve_right h.c
theorem qN {u v : Int} (hv : v ≠ 0) : 0 ≤ u * (v * v) ↔ 0 ≤ u := by
  have h := sq_pos hv
  constructor
  · intro z
    rcases Int.lt_or_le u 0 with w | w
    · have := Int.mul_neg_of_neg_of_pos w h; omega
    · exact w
  · intro z; exact Int.mul_nonneg z (Int.le_of_lt h)
theorem ij {u v : Int} (hv : 0 < v) : 0 ≤ u * v ↔ 0 ≤ u := by
  constructor
  · intro z
    rcases Int.lt_or_le u 0 with w | w
    · have := Int.mul_neg_of_neg_of_pos w hv; omega
    · exact w
  · intro z; exact Int.mul_nonneg z (Int.le_of_lt hv)
theorem L5 {u v : Int} (hv : v < 0) : 0 ≤ u * v ↔ u ≤ 0 := by
  have := ij (u := -u) (v := -v) (by omega)
  rw [Int.neg_mul_neg] at this
  omega
def bX (d : Int) (x : N3) : Bool := decide (x.b = 0) && decide (0 ≤ sg d x.a x.b)
theorem sg0 {n : Int} : 0 ≤ sg d n 0 ↔ 0 ≤ n := by
  rw [jq]
  split
  · omega
  · split <;> omega
theorem uB (ox : Ok x) (h : Rep x A 0 C) : bX d x = true ↔ 0 ≤ A * C := by
  have hb := (xg h ox).mpr rfl
  unfold bX
  rw [hb]
  simp only [decide_true, Bool.true_and, decide_eq_true_eq, sg0]
  have e := h.a
  rw [← ij ox.c, ← qN (u := x.a * x.c) h.c]
  have e2 : x.a * x.c * (C * C) = (A * C) * (x.c * x.c) := by
    have : x.a * x.c * (C * C) = (x.a * C) * (x.c * C) := by grind
    rw [this, e]; grind
  rw [e2, qN ox.cn]
def shA (d : Int) (k s : N3) : N3 := times d s (ar d k)
def prt (d : Int) (k : N3) : N3 := times d (ar d k) (ar d k)
def shV (d : Int) (k s : N3) : N3 := low ((shA d k s).b * (prt d k).c) 0 ((shA d k s).c * (prt d k).b)
def shU (d : Int) (k s : N3) : N3 := less (shA d k s) (times d (shV d k s) (prt d k))
def qZ (d : Int) (k s : N3) : N3 := if (times d k k).b = 0 then shA d k s else shU d k s
def rn (d : Int) (k s : N3) : N3 := if (times d k k).b = 0 then ay else shV d k s
def eo (d : Int) (k s : N3) : Bool := bX d (qZ d k s) && bX d (rn d k s)
theorem Ov {a b c : Int} (hc : c ≠ 0) : (low a b c).b = 0 ↔ b = 0 := xg (hZ hc) (fX _ _ hc)
theorem gn (ok : Ok k) : (times d k k).b = 0 ↔ k.a * k.b = 0 := by
  unfold times
  rw [Ov (rY ok ok)]
  have : k.a * k.b + k.b * k.a = 2 * (k.a * k.b) := by grind
  omega
theorem Gp (ok : Ok k) (hn : norm d k ≠ 0) (rk : Rep k P Q R) : P * P - d * Q * Q ≠ 0 := fun z => by
  have h := rk.norm (d := d)
  rw [z, Int.zero_mul] at h
  rcases Int.mul_eq_zero.mp h with w | w
  · exact hn w
  · rcases Int.mul_eq_zero.mp w with w | w <;> exact rk.c w
theorem fZ (os : Ok s) (hn : norm d k ≠ 0) : Ok (shA d k s) := aB os (aE hn)
theorem wV (hn : norm d k ≠ 0) : Ok (prt d k) := aB (aE hn) (aE hn)
theorem xu (ok : Ok k) (os : Ok s) (hn : norm d k ≠ 0) (rk : Rep k P Q R) (rs : Rep s E F G) : Rep (shA d k s) (R * (E * P - d * F * Q)) (R * (F * P - E * Q)) (G * (P * P - d * Q * Q)) :=
  (Rep.times os (aE hn) rs (rk.ar ok hn)).congr (by grind) (by grind) rfl
theorem Jp (ok : Ok k) (hn : norm d k ≠ 0) (rk : Rep k P Q R) : Rep (prt d k) (R * R * (P * P + d * Q * Q)) (-(2 * (R * R * (P * Q)))) ((P * P - d * Q * Q) * (P * P - d * Q * Q)) :=
  (Rep.times (aE hn) (aE hn) (rk.ar ok hn) (rk.ar ok hn)).congr (by grind) (by grind) rfl
theorem Dp (ok : Ok k) (hn : norm d k ≠ 0) (rk : Rep k P Q R) (hab : P * Q ≠ 0) : (prt d k).b ≠ 0 := fun z => by
  have := (xg (Jp ok hn rk) (wV hn)).mp z
  have h2 : R * R * (P * Q) = 0 := by omega
  exact (Int.mul_ne_zero (Int.mul_ne_zero rk.c rk.c) hab) h2
theorem KG (ok : Ok k) (rk : Rep k P Q R) : P * Q = 0 ↔ k.a * k.b = 0 := by
  have e : (k.a * k.b) * (R * R) = (P * Q) * (k.c * k.c) := by
    have h1 := rk.a
    have h2 := rk.b
    have : (k.a * k.b) * (R * R) = (k.a * R) * (k.b * R) := by grind
    rw [this, h1, h2]; grind
  constructor
  · intro z
    rw [z, Int.zero_mul] at e
    exact (Int.mul_eq_zero.mp e).resolve_right (Int.mul_ne_zero rk.c rk.c)
  · intro z
    rw [z, Int.zero_mul] at e
    exact (Int.mul_eq_zero.mp e.symm).resolve_right (Int.mul_ne_zero ok.cn ok.cn)
theorem vv {wb wc pb pc r D g M N : Int} (e1 : wb * (g * N) = r * D * wc) (e2 : pb * (N * N) = -(2 * (r * r * M)) * pc) (hK : g * N * (N * N) ≠ 0) : wb * pc * (2 * (g * r * M)) = N * -D * (wc * pb) := by
  apply Int.eq_of_mul_eq_mul_right hK
  have a1 : wb * pc * (2 * (g * r * M)) * (g * N * (N * N)) = (wb * (g * N)) * (pc * (2 * (g * r * M)) * (N * N)) := by grind
  have a2 : N * -D * (wc * pb) * (g * N * (N * N)) = (N * -D * wc * (g * N)) * (pb * (N * N)) := by grind
  rw [a1, a2, e1, e2]
  grind
theorem CP (ok : Ok k) (os : Ok s) (hn : norm d k ≠ 0) (rk : Rep k P Q R) (rs : Rep s E F G) (hab : P * Q ≠ 0) : Rep (shV d k s) ((P * P - d * Q * Q) * (E * Q - F * P)) 0 (2 * (G * R * (P * Q))) := by
  have ra := xu ok os hn rk rs
  have rp := Jp ok hn rk
  have hN := Gp ok hn rk
  have h1 := ra.b
  have h2 := rp.b
  have hc : (shA d k s).c * (prt d k).b ≠ 0 := Int.mul_ne_zero (fZ os hn).cn (Dp ok hn rk hab)
  have h0 := hZ (a := (shA d k s).b * (prt d k).c) (b := 0) hc
  have hC : 2 * (G * R * (P * Q)) ≠ 0 := Int.mul_ne_zero (by decide) (Int.mul_ne_zero (Int.mul_ne_zero rs.c rk.c) hab)
  refine Rep.conv h0 hC ?_ (by simp)
  have := vv h1 h2 (Int.mul_ne_zero (Int.mul_ne_zero rs.c hN) (Int.mul_ne_zero hN hN))
  rw [this]
  grind
theorem uY (ok : Ok k) (os : Ok s) (hn : norm d k ≠ 0) (hab : k.a * k.b ≠ 0) : Ok (shV d k s) := fX _ _ (Int.mul_ne_zero (fZ os hn).cn (Dp ok hn (av ok) hab))
theorem uu {e f g p q r d N : Int} (hN : N = p * p - d * q * q) : (r * (e * p - d * f * q) * (2 * (g * (p * q) * N)) - r * (e * q - f * p) * (p * p + d * q * q) * (g * N)) * (2 * (g * (p * q))) = r * (e * q + f * p) * (g * N * (2 * (g * (p * q) * N))) := by
  have key : (e * p - d * f * q) * (2 * (p * q)) - (e * q - f * p) * (p * p + d * q * q) = (e * q + f * p) * N := by subst hN; grind
  have : (r * (e * p - d * f * q) * (2 * (g * (p * q) * N)) - r * (e * q - f * p) * (p * p + d * q * q) * (g * N)) = r * g * N * ((e * p - d * f * q) * (2 * (p * q)) - (e * q - f * p) * (p * p + d * q * q)) := by grind
  rw [this, key]
  grind
theorem Gj (ok : Ok k) (os : Ok s) (hn : norm d k ≠ 0) (rk : Rep k P Q R) (rs : Rep s E F G) (hab : P * Q ≠ 0) : Rep (shU d k s) (R * (E * Q + F * P)) 0 (2 * (G * (P * Q))) := by
  have ra := xu ok os hn rk rs
  have rp := Jp ok hn rk
  have rv := CP ok os hn rk rs hab
  have hN := Gp ok hn rk
  have hab' : k.a * k.b ≠ 0 := fun z => hab ((KG ok rk).mpr z)
  have oa := fZ (s := s) os hn
  have op := wV (k := k) hn
  have ov := uY ok os hn hab'
  have rt := Rep.times (d := d) ov op rv rp
  generalize hM : P * P - d * Q * Q = N at *
  have hC2 : 2 * (G * (P * Q) * N) ≠ 0 := Int.mul_ne_zero (by decide) (Int.mul_ne_zero (Int.mul_ne_zero rs.c hab) hN)
  have rt2 : Rep (times d (shV d k s) (prt d k)) (R * (E * Q - F * P) * (P * P + d * Q * Q)) (-(2 * (R * (E * Q - F * P) * (P * Q)))) (2 * (G * (P * Q) * N)) := by
    refine rt.conv hC2 ?_ ?_
    · generalize E * Q - F * P = T
      generalize P * P + d * Q * Q = S
      generalize P * Q = M
      grind
    · generalize E * Q - F * P = T
      generalize P * P + d * Q * Q = S
      generalize P * Q = M
      grind
  have rl := Rep.less oa (aB ov op) ra rt2
  have hC : 2 * (G * (P * Q)) ≠ 0 := Int.mul_ne_zero (by decide) (Int.mul_ne_zero rs.c hab)
  refine rl.conv hC ?_ ?_
  · exact uu hM.symm
  · rw [Int.zero_mul]
    have : R * (F * P - E * Q) * (2 * (G * (P * Q) * N)) - -(2 * (R * (E * Q - F * P) * (P * Q))) * (G * N) = 0 := by grind
    rw [this, Int.zero_mul]
end
end NM
set_option linter.all false
set_option maxRecDepth 100000
set_option maxHeartbeats 4000000
namespace NM
section
variable {d : Int} {x y z : N3}
theorem ry1 (d a b a' b' p q : Int) (h1 : a' * p = a * q) (h2 : b' * p = b * q ∨ b' * p = -b * q) : (a' * a' - d * b' * b') * (p * p) = (a * a - d * b * b) * (q * q) := by
  have e1 : a' * a' * (p * p) = a * a * (q * q) := by
    have : (a' * p) * (a' * p) = (a * q) * (a * q) := by rw [h1]
    grind
  have e2 : b' * b' * (p * p) = b * b * (q * q) := by
    have : (b' * p) * (b' * p) = (b * q) * (b * q) := by
      rcases h2 with h | h <;> rw [h] <;> grind
    grind
  have : (a' * a' - d * b' * b') * (p * p) = a' * a' * (p * p) - d * (b' * b' * (p * p)) := by grind
  rw [this, e1, e2]
  grind
theorem Om (ox : Ok x) (hn : norm d x ≠ 0) : (ar d x).a * norm d x = x.a * (x.c * (ar d x).c) := by
  have := ((av ox).ar ox hn).a
  have e : x.a * x.a - d * x.b * x.b = norm d x := rfl
  rw [e] at this
  rw [this]; grind
theorem Pf (ox : Ok x) (hn : norm d x ≠ 0) : (ar d x).b * norm d x = -x.b * (x.c * (ar d x).c) := by
  have := ((av ox).ar ox hn).b
  have e : x.a * x.a - d * x.b * x.b = norm d x := rfl
  rw [e] at this
  rw [this]; grind
section
variable {f : N3}
theorem GD (h : 0 < f.a) (fb : f.b = 0) : sg d f.a f.b = 1 := by rw [fb, jq, if_neg (by omega), if_pos h]
end
theorem GY (hd : aw d) (ox : Ok x) (nx : norm d x ≠ 0) : (aO d x).b = 0 := by
  have := (my hd ox nx).b
  rw [Int.zero_mul] at this
  exact (Int.mul_eq_zero.mp this).resolve_right nx
theorem zr (hd : aw d) (ox : Ok x) (nx : norm d x < 0) : (aO d x).a ≤ 0 := by
  have r := (my hd ox (by omega)).a
  have hc := (dU hd (show norm d x ≠ 0 by omega) ox).c
  refine Int.not_lt.mp fun h => ?_
  have h1 : (aO d x).a * norm d x < 0 := Int.mul_neg_of_pos_of_neg h nx
  have h2 : 0 ≤ 4 * (x.a * x.a) * (aO d x).c := Int.mul_nonneg (Int.mul_nonneg (by decide) (sq_nonneg _)) (Int.le_of_lt hc)
  omega
end
end NM
set_option linter.all false
set_option maxRecDepth 100000
set_option maxHeartbeats 4000000
namespace NM
def Ht (d : Int) (n : Nat) (x : N3) : Prop := ∃ a b e f : Int, Sz n a ∧ Sz n b ∧ Sz n e ∧ Sz n f ∧ e * e - d * f * f ≠ 0 ∧ x.a * e + d * x.b * f = a * x.c ∧ x.a * f + x.b * e = b * x.c
section
variable {d : Int} {n m : Nat} {x y : N3}
theorem Ht.mono (h : Ht d n x) (l : n ≤ m) : Ht d m x := by
  obtain ⟨a, b, e, f, h1, h2, h3, h4, r⟩ := h
  exact ⟨a, b, e, f, h1.mono l, h2.mono l, h3.mono l, h4.mono l, r⟩
theorem sz0 : Sz n 0 := Sz.of (by simp; exact Nat.pos_of_ne_zero (by simp))
end
end NM
set_option linter.all false
set_option maxRecDepth 100000
set_option maxHeartbeats 4000000
namespace NM
section
variable {d : Int} {x y z : N3}
def gtL (d : Int) (k o : N3) : Prop := ((aO d o).a.natAbs : Int) * (aO d k).c < ((aO d k).a.natAbs : Int) * (aO d o).c
instance : Decidable (gtL d x y) := by unfold gtL; infer_instance
theorem lt3 {a b c p q r : Int} (hp : 0 < p) (hq : 0 < q) (hr : 0 < r) (h1 : a * q ≤ b * p) (h2 : b * r < c * q) : a * r < c * p := by
  refine Int.lt_of_mul_lt_mul_right (a := q) ?_ (Int.le_of_lt hq)
  have e1 : a * q * r ≤ b * p * r := Int.mul_le_mul_of_nonneg_right h1 (Int.le_of_lt hr)
  have e2 : b * r * p < c * q * p := Int.mul_lt_mul_of_pos_right h2 hp
  have f1 : a * r * q = a * q * r := by grind
  have f2 : c * p * q = c * q * p := by grind
  have f3 : b * p * r = b * r * p := by grind
  omega
theorem gt_trans (cx : 0 < (aO d x).c) (cy : 0 < (aO d y).c) (cz : 0 < (aO d z).c) (h1 : ¬ gtL d y z) (h2 : gtL d x z) : gtL d x y := by
  unfold gtL at *
  exact lt3 cy cz cx (Int.not_lt.mp h1) h2
theorem Jm : ¬ gtL d x x := by unfold gtL; omega
def en (d : Int) (ks : List N3) : Nat → Nat
  | 0 => 0
  | n + 1 => if gtL d (ks.getD (n + 1) ay) (ks.getD (en d ks n) ay) then n + 1 else en d ks n
theorem qa {ks : List N3} (hc : ∀ i, i < ks.length → 0 < (aO d (ks.getD i ay)).c) : ∀ n, n < ks.length → en d ks n ≤ n ∧ (∀ j, j ≤ n → ¬ gtL d (ks.getD j ay) (ks.getD (en d ks n) ay)) ∧ (∀ j, j < en d ks n → gtL d (ks.getD (en d ks n) ay) (ks.getD j ay))
  | 0, h => ⟨Nat.le_refl _, fun j hj => by cases Nat.le_zero.mp hj; exact Jm, fun j hj => absurd hj (by unfold en; omega)⟩
  | n + 1, h => by
    obtain ⟨h1, h2, h3⟩ := qa hc n (by omega)
    unfold en
    by_cases g : gtL d (ks.getD (n + 1) ay) (ks.getD (en d ks n) ay)
    · rw [if_pos g]
      have all : ∀ j, j ≤ n → gtL d (ks.getD (n + 1) ay) (ks.getD j ay) := fun j hj => gt_trans (hc _ h) (hc _ (by omega)) (hc _ (by omega)) (h2 j hj) g
      refine ⟨Nat.le_refl _, fun j hj => ?_, fun j hj => all j (by omega)⟩
      by_cases e : j = n + 1
      · subst e; exact Jm
      · have := all j (by omega)
        unfold gtL at this ⊢
        omega
    · rw [if_neg g]
      refine ⟨by omega, fun j hj => ?_, h3⟩
      by_cases e : j = n + 1
      · subst e; exact g
      · exact h2 j (by omega)
theorem D6 (hd : aw d) (ox : Ok x) (nx : 0 < norm d x) : 0 ≤ (aO d x).a := by
  have r := (my hd ox (show norm d x ≠ 0 by omega)).a
  have hc := (dU hd (show norm d x ≠ 0 by omega) ox).c
  refine Int.not_lt.mp fun h => ?_
  have h1 : (aO d x).a * norm d x < 0 := Int.mul_neg_of_neg_of_pos h nx
  have h2 : 0 ≤ 4 * (x.a * x.a) * (aO d x).c := Int.mul_nonneg (Int.mul_nonneg (by decide) (sq_nonneg _)) (Int.le_of_lt hc)
  omega
theorem OX (hd : aw d) (ox : Ok x) (oy : Ok y) (nx : norm d x ≠ 0) (ny : norm d y ≠ 0) : Lp d (aO d y) (aO d x) = 1 ↔ (aO d x).a * (aO d y).c < (aO d y).a * (aO d x).c := by
  unfold Lp
  rw [GY hd ox nx, GY hd oy ny]
  rw [show (0 : Int) * (aO d x).c - 0 * (aO d y).c = 0 by omega, jq]
  constructor
  · intro h
    split at h
    · cases h
    · split at h
      · omega
      · cases h
  · intro h
    rw [if_neg (by omega), if_pos (by omega)]
theorem Mx (hd : aw d) (ox : Ok x) (oy : Ok y) (nx : 0 < norm d x) (ny : 0 < norm d y) : Lp d (aO d y) (aO d x) = 1 ↔ gtL d y x := by
  rw [OX hd ox oy (by omega) (by omega)]
  unfold gtL
  have h1 := D6 hd ox nx
  have h2 := D6 hd oy ny
  rw [show ((aO d x).a.natAbs : Int) = (aO d x).a by omega, show ((aO d y).a.natAbs : Int) = (aO d y).a by omega]
theorem Oh (hd : aw d) (ox : Ok x) (oy : Ok y) (nx : norm d x < 0) (ny : norm d y < 0) : Lp d (aO d x) (aO d y) = 1 ↔ gtL d y x := by
  rw [OX hd oy ox (by omega) (by omega)]
  unfold gtL
  have h1 := zr hd ox nx
  have h2 := zr hd oy ny
  rw [show ((aO d x).a.natAbs : Int) = -(aO d x).a by omega, show ((aO d y).a.natAbs : Int) = -(aO d y).a by omega, Int.neg_mul, Int.neg_mul]
  omega
end
end NM
set_option linter.all false
set_option maxRecDepth 100000
set_option maxHeartbeats 400000
namespace NM
section
variable {d : Int} {x y z k s o f : N3}
def Lay (d : Int) (k s : N3) : Prop := (0 < norm d k ∧ 0 < norm d s ∧ s.b * s.b * (k.a * k.a) ≤ s.a * s.a * (k.b * k.b)) ∨ (norm d k < 0 ∧ norm d s < 0 ∧ s.a * s.a * (k.b * k.b) ≤ s.b * s.b * (k.a * k.a))
theorem IM {u v : Int} (hv : 0 ≤ v) (h : u * u ≤ v * v) : 0 ≤ v + u ∧ 0 ≤ v - u := by
  rcases Int.lt_or_le u 0 with w | w
  · have := GC (u := -u) (v := v) (by omega) (by rw [Int.neg_mul_neg]; exact h) hv
    omega
  · have := GC w h hv
    omega
theorem ly1 {d P Q E F : Int} (hd : 0 < d) (hQ : Q ≠ 0) (hP : P ≠ 0) (hN : d * Q * Q < P * P) (h1 : 0 ≤ (E * Q + F * P) * (P * Q)) (h2 : 0 ≤ (E * Q - F * P) * (P * Q)) : F * F * (P * P) ≤ E * E * (Q * Q) ∧ d * F * F ≤ E * E := by
  have h := Int.mul_nonneg h1 h2
  have e : (E * Q + F * P) * (P * Q) * ((E * Q - F * P) * (P * Q)) = (E * E * (Q * Q) - F * F * (P * P)) * ((P * Q) * (P * Q)) := by grind
  rw [e, qN (Int.mul_ne_zero hP hQ)] at h
  refine ⟨by omega, ?_⟩
  have h3 : 0 ≤ (P * P - d * Q * Q) * (F * F) := Int.mul_nonneg (by omega) (sq_nonneg F)
  have e2 : (P * P - d * Q * Q) * (F * F) = F * F * (P * P) - d * F * F * (Q * Q) := by grind
  have h4 : 0 ≤ (E * E - d * F * F) * (Q * Q) := by
    have : (E * E - d * F * F) * (Q * Q) = E * E * (Q * Q) - d * F * F * (Q * Q) := by grind
    rw [this]; omega
  rw [qN hQ] at h4
  omega
theorem ly2 {P Q E F : Int} (hP : 0 < P) (hE : 0 ≤ E) (h : F * F * (P * P) ≤ E * E * (Q * Q)) : 0 ≤ (E * Q + F * P) * (P * Q) ∧ 0 ≤ (E * Q - F * P) * (P * Q) := by
  have hX : 0 ≤ E * P * (Q * Q) := Int.mul_nonneg (Int.mul_nonneg hE (by omega)) (sq_nonneg Q)
  have hs : (F * (P * P) * Q) * (F * (P * P) * Q) ≤ (E * P * (Q * Q)) * (E * P * (Q * Q)) := by
    have h1 := Int.mul_nonneg (show 0 ≤ E * E * (Q * Q) - F * F * (P * P) by omega) (sq_nonneg (P * Q))
    have e1 : (E * E * (Q * Q) - F * F * (P * P)) * (P * Q * (P * Q)) = (E * P * (Q * Q)) * (E * P * (Q * Q)) - (F * (P * P) * Q) * (F * (P * P) * Q) := by grind
    omega
  obtain ⟨a1, a2⟩ := IM hX hs
  have e1 : (E * Q + F * P) * (P * Q) = E * P * (Q * Q) + F * (P * P) * Q := by grind
  have e2 : (E * Q - F * P) * (P * Q) = E * P * (Q * Q) - F * (P * P) * Q := by grind
  rw [e1, e2]
  exact ⟨a1, a2⟩
theorem ly3 {d P Q E F : Int} (hd : 0 < d) (hQ : Q ≠ 0) (hP : P ≠ 0) (hN : P * P < d * Q * Q) (h1 : 0 ≤ (E * Q + F * P) * (P * Q)) (h2 : (E * Q - F * P) * (P * Q) ≤ 0) : E * E * (Q * Q) ≤ F * F * (P * P) ∧ E * E ≤ d * F * F := by
  have h := Int.mul_nonneg h1 (show 0 ≤ -((E * Q - F * P) * (P * Q)) by omega)
  have e : (E * Q + F * P) * (P * Q) * -((E * Q - F * P) * (P * Q)) = (F * F * (P * P) - E * E * (Q * Q)) * ((P * Q) * (P * Q)) := by grind
  rw [e, qN (Int.mul_ne_zero hP hQ)] at h
  refine ⟨by omega, ?_⟩
  have h3 : 0 ≤ (d * Q * Q - P * P) * (F * F) := Int.mul_nonneg (by omega) (sq_nonneg F)
  have e2 : (d * Q * Q - P * P) * (F * F) = d * F * F * (Q * Q) - F * F * (P * P) := by grind
  have h4 : 0 ≤ (d * F * F - E * E) * (Q * Q) := by
    have : (d * F * F - E * E) * (Q * Q) = d * F * F * (Q * Q) - E * E * (Q * Q) := by grind
    rw [this]; omega
  rw [qN hQ] at h4
  omega
theorem ly4 {P Q E F : Int} (hQ : 0 < Q) (hF : 0 ≤ F) (h : E * E * (Q * Q) ≤ F * F * (P * P)) : 0 ≤ (E * Q + F * P) * (P * Q) ∧ (E * Q - F * P) * (P * Q) ≤ 0 := by
  have hY : 0 ≤ F * (P * P) * Q := Int.mul_nonneg (Int.mul_nonneg hF (sq_nonneg P)) (by omega)
  have hs : (E * P * (Q * Q)) * (E * P * (Q * Q)) ≤ (F * (P * P) * Q) * (F * (P * P) * Q) := by
    have h1 := Int.mul_nonneg (show 0 ≤ F * F * (P * P) - E * E * (Q * Q) by omega) (sq_nonneg (P * Q))
    have e1 : (F * F * (P * P) - E * E * (Q * Q)) * (P * Q * (P * Q)) = (F * (P * P) * Q) * (F * (P * P) * Q) - (E * P * (Q * Q)) * (E * P * (Q * Q)) := by grind
    omega
  obtain ⟨a1, a2⟩ := IM hY hs
  have e1 : (E * Q + F * P) * (P * Q) = F * (P * P) * Q + E * P * (Q * Q) := by grind
  have e2 : (E * Q - F * P) * (P * Q) = -(F * (P * P) * Q - E * P * (Q * Q)) := by grind
  rw [e1, e2]
  exact ⟨a1, by omega⟩
theorem Mp (hd : aw d) (hs : sg d s.a s.b = 1) (hn : 0 < norm d s) : 0 < s.a := by
  have h : d * s.b * s.b < s.a * s.a := by have : norm d s = s.a * s.a - d * s.b * s.b := rfl; omega
  exact (nQ hd h).mp ((jk hd).mp hs)
theorem Mf (hd : aw d) (hs : sg d s.a s.b = 1) (hn : norm d s < 0) : 0 < s.b := by
  have h : s.a * s.a < d * s.b * s.b := by have : norm d s = s.a * s.a - d * s.b * s.b := rfl; omega
  exact (ky hd h).mp ((jk hd).mp hs)
theorem AL : bX d ay = true := by
  unfold bX
  rw [show ay.b = 0 from rfl, show ay.a = 0 from rfl, show sg d 0 0 = 0 from eW.mpr ⟨rfl, rfl⟩]
  rfl
theorem sgA (hd : aw d) (ok : Ok k) (os : Ok s) (hk : sg d k.a k.b = 1) (hs : sg d s.a s.b = 1) : sg d (shA d k s).a (shA d k s).b = 1 := by
  have hn := aN hd ok hk
  unfold shA
  rw [cT hd os (aE hn), hs, dW hd ok hk]
  rfl
theorem JJ (hd : aw d) (ok : Ok k) (os : Ok s) (hk : sg d k.a k.b = 1) (hs : sg d s.a s.b = 1) (hl : k.a * k.b = 0) : eo d k s = true ↔ s.b * k.a = s.a * k.b := by
  have hn := aN hd ok hk
  unfold eo qZ rn
  rw [if_pos ((gn ok).mpr hl), if_pos ((gn ok).mpr hl), AL, Bool.and_true]
  unfold bX
  rw [sgA hd ok os hk hs]
  simp only [show decide ((0 : Int) ≤ 1) = true from rfl, Bool.and_true, decide_eq_true_eq]
  rw [xg (xu ok os hn (av ok) (av os)) (fZ os hn)]
  constructor
  · intro h
    have := (Int.mul_eq_zero.mp h).resolve_left ok.cn
    omega
  · intro h
    rw [show s.b * k.a - s.a * k.b = 0 by omega, Int.mul_zero]
theorem L9 (hd : aw d) (ok : Ok k) (os : Ok s) (hk : sg d k.a k.b = 1) (hl : k.a * k.b ≠ 0) : eo d k s = true ↔ 0 ≤ (s.a * k.b + s.b * k.a) * (k.a * k.b) ∧ 0 ≤ norm d k * ((s.a * k.b - s.b * k.a) * (k.a * k.b)) := by
  have hn := aN hd ok hk
  have hl' : ¬ (times d k k).b = 0 := fun z => hl ((gn ok).mp z)
  unfold eo qZ rn
  rw [if_neg hl', if_neg hl', Bool.and_eq_true]
  have ru := Gj ok os hn (av ok) (av os) hl
  have rv := CP ok os hn (av ok) (av os) hl
  have ou : Ok (shU d k s) := nM (fZ os hn) (aB (uY ok os hn hl) (wV hn))
  rw [uB ou ru, uB (uY ok os hn hl) rv]
  have hc := ok.c
  have hg := os.c
  have e1 : k.c * (s.a * k.b + s.b * k.a) * (2 * (s.c * (k.a * k.b))) = (s.a * k.b + s.b * k.a) * (k.a * k.b) * (2 * (k.c * s.c)) := by grind
  have e2 : (k.a * k.a - d * k.b * k.b) * (s.a * k.b - s.b * k.a) * (2 * (s.c * k.c * (k.a * k.b))) = norm d k * ((s.a * k.b - s.b * k.a) * (k.a * k.b)) * (2 * (k.c * s.c)) := by
    show norm d k * _ * _ = _
    grind
  have hp : 0 < 2 * (k.c * s.c) := Int.mul_pos (by decide) (Int.mul_pos hc hg)
  rw [e1, e2, ij hp, ij hp]
theorem sG (hd : aw d) (ok : Ok k) (os : Ok s) (hk : sg d k.a k.b = 1) (hs : sg d s.a s.b = 1) : eo d k s = true ↔ Lay d k s := by
  have hn := aN hd ok hk
  have hm := aN hd os hs
  have d0 : 0 < d := by have := hd.1; omega
  have nk : norm d k = k.a * k.a - d * k.b * k.b := rfl
  have ns : norm d s = s.a * s.a - d * s.b * s.b := rfl
  by_cases hl : k.a * k.b = 0
  · rw [JJ hd ok os hk hs hl]
    rcases Int.mul_eq_zero.mp hl with h0 | h0
    · have kb : k.b ≠ 0 := fun z => by rw [h0, z] at nk; simp at nk; exact hn nk
      have n1 : norm d k < 0 := by
        have := Int.mul_pos d0 (sq_pos kb)
        rw [nk, h0, Int.mul_assoc]; simp; omega
      rw [h0, Int.mul_zero]
      constructor
      · intro h
        have hE : s.a = 0 := (Int.mul_eq_zero.mp h.symm).resolve_right kb
        have sb : s.b ≠ 0 := fun z => by rw [hE, z] at ns; simp at ns; exact hm ns
        refine .inr ⟨n1, ?_, ?_⟩
        · have := Int.mul_pos d0 (sq_pos sb)
          rw [ns, hE, Int.mul_assoc]; simp; omega
        · rw [hE]; simp [h0]
      · rintro (⟨z, _⟩ | ⟨_, _, h⟩)
        · omega
        · rw [h0] at h
          simp only [Int.mul_zero] at h
          have h2 := Int.mul_nonneg (sq_nonneg s.a) (sq_nonneg k.b)
          have h3 : s.a * s.a * (k.b * k.b) = 0 := by omega
          have h4 := (Int.mul_eq_zero.mp h3).resolve_right (Int.mul_ne_zero kb kb)
          have h5 : s.a = 0 := by rcases Int.mul_eq_zero.mp h4 with w | w <;> exact w
          rw [h5]; simp
    · have ka : k.a ≠ 0 := fun z => by rw [h0, z] at nk; simp at nk; exact hn nk
      have n1 : 0 < norm d k := by
        have := sq_pos ka
        rw [nk, h0]; simp; omega
      rw [h0, Int.mul_zero]
      constructor
      · intro h
        have hF : s.b = 0 := (Int.mul_eq_zero.mp h).resolve_right ka
        have sa : s.a ≠ 0 := fun z => by rw [hF, z] at ns; simp at ns; exact hm ns
        refine .inl ⟨n1, ?_, ?_⟩
        · have := sq_pos sa
          rw [ns, hF]; simp; omega
        · rw [hF]; simp [h0]
      · rintro (⟨_, _, h⟩ | ⟨z, _⟩)
        · rw [h0] at h
          simp only [Int.mul_zero] at h
          have h2 := Int.mul_nonneg (sq_nonneg s.b) (sq_nonneg k.a)
          have h3 : s.b * s.b * (k.a * k.a) = 0 := by omega
          have h4 := (Int.mul_eq_zero.mp h3).resolve_right (Int.mul_ne_zero ka ka)
          have h5 : s.b = 0 := by rcases Int.mul_eq_zero.mp h4 with w | w <;> exact w
          rw [h5]; simp
        · omega
  · rw [L9 hd ok os hk hl]
    have ka : k.a ≠ 0 := fun z => hl (by rw [z, Int.zero_mul])
    have kb : k.b ≠ 0 := fun z => hl (by rw [z, Int.mul_zero])
    rcases Int.lt_or_le 0 (norm d k) with n1 | n1
    · have hk' := Mp hd hk n1
      rw [show (0 ≤ norm d k * ((s.a * k.b - s.b * k.a) * (k.a * k.b))) ↔ 0 ≤ (s.a * k.b - s.b * k.a) * (k.a * k.b) from by rw [Int.mul_comm]; exact ij n1]
      constructor
      · rintro ⟨h1, h2⟩
        obtain ⟨a1, a2⟩ := ly1 d0 kb ka (by omega) h1 h2
        exact .inl ⟨n1, by omega, a1⟩
      · rintro (⟨_, n2, h⟩ | ⟨z, _⟩)
        · have := Mp hd hs n2
          exact ly2 hk' (by omega) h
        · omega
    · have n1 : norm d k < 0 := by omega
      have hk' := Mf hd hk n1
      rw [show (0 ≤ norm d k * ((s.a * k.b - s.b * k.a) * (k.a * k.b))) ↔ (s.a * k.b - s.b * k.a) * (k.a * k.b) ≤ 0 from by rw [Int.mul_comm]; exact L5 n1]
      constructor
      · rintro ⟨h1, h2⟩
        obtain ⟨a1, a2⟩ := ly3 d0 kb ka (by omega) h1 h2
        exact .inr ⟨n1, by omega, a1⟩
      · rintro (⟨z, _⟩ | ⟨_, n2, h⟩)
        · omega
        · have := Mf hd hs n2
          exact ly4 hk' (by omega) h
end
end NM
set_option linter.all false
set_option maxRecDepth 100000
set_option maxHeartbeats 400000
namespace NM
section
variable {d : Int} {x y z k s o f : N3}
structure Ray (d : Int) (s t : N3) : Prop where
  ex : ∃ p q : Int, p ≠ 0 ∧ q ≠ 0 ∧ t.a * p = s.a * q ∧ (t.b * p = s.b * q ∨ t.b * p = -s.b * q)
theorem ki {t : N3} (h : Ray d s t) : (0 < norm d t ↔ 0 < norm d s) ∧ (norm d t < 0 ↔ norm d s < 0) := by
  obtain ⟨p, q, hp, hq, h1, h2⟩ := h.ex
  have e := ry1 d _ _ _ _ p q h1 h2
  change norm d t * (p * p) = norm d s * (q * q) at e
  have a1 := qN (u := norm d t) hp
  have a2 := qN (u := norm d s) hq
  have b1 := qN (u := -norm d t) hp
  have b2 := qN (u := -norm d s) hq
  rw [Int.neg_mul] at b1 b2
  rw [e] at a1 b1
  omega
theorem Kb {t : N3} (h : Ray d s t) : ∃ p q : Int, 0 < p ∧ 0 < q ∧ t.a * t.a * p = s.a * s.a * q ∧ t.b * t.b * p = s.b * s.b * q := by
  obtain ⟨p, q, hp, hq, h1, h2⟩ := h.ex
  refine ⟨p * p, q * q, sq_pos hp, sq_pos hq, ?_, ?_⟩
  · have : (t.a * p) * (t.a * p) = (s.a * q) * (s.a * q) := by rw [h1]
    grind
  · have : (t.b * p) * (t.b * p) = (s.b * q) * (s.b * q) := by
      rcases h2 with h | h <;> rw [h] <;> grind
    grind
theorem zR {A B A' B' p q X Y : Int} (hp : 0 < p) (hq : 0 < q) (h1 : A' * p = A * q) (h2 : B' * p = B * q) : (A' * X ≤ B' * Y) ↔ (A * X ≤ B * Y) := by
  have a := ij (u := B' * Y - A' * X) hp
  have b := ij (u := B * Y - A * X) hq
  have e : (B' * Y - A' * X) * p = (B * Y - A * X) * q := by
    have : (B' * Y - A' * X) * p = B' * p * Y - A' * p * X := by grind
    rw [this, h1, h2]; grind
  rw [e] at a
  omega
theorem Gx {t : N3} (h : Ray d s t) : Lay d k t ↔ Lay d k s := by
  obtain ⟨n1, n2⟩ := ki h
  obtain ⟨p, q, hp, hq, e1, e2⟩ := Kb h
  unfold Lay
  rw [n1, n2, zR hp hq e2 e1, zR hp hq e1 e2]
theorem DC {t : N3} (h : Ray d k t) : Lay d t s ↔ Lay d k s := by
  obtain ⟨n1, n2⟩ := ki h
  obtain ⟨p, q, hp, hq, e1, e2⟩ := Kb h
  unfold Lay
  rw [n1, n2]
  have c1 : ∀ A B : Int, (A * (t.a * t.a) ≤ B * (t.b * t.b)) ↔ (A * (k.a * k.a) ≤ B * (k.b * k.b)) := fun A B => by
    rw [Int.mul_comm A, Int.mul_comm B, Int.mul_comm A, Int.mul_comm B]; exact zR hp hq e1 e2
  have c2 : ∀ A B : Int, (A * (t.b * t.b) ≤ B * (t.a * t.a)) ↔ (A * (k.b * k.b) ≤ B * (k.a * k.a)) := fun A B => by
    rw [Int.mul_comm A, Int.mul_comm B, Int.mul_comm A, Int.mul_comm B]; exact zR hp hq e2 e1
  rw [c1, c2]
theorem ui (ox : Ok s) (hn : norm d s ≠ 0) : Ray d s (ar d s) :=
  ⟨_, _, hn, Int.mul_ne_zero ox.cn (aE hn).cn, Om ox hn, .inr (Pf ox hn)⟩
theorem ID (os : Ok s) (of : Ok f) (fb : f.b = 0) (fa : 0 < f.a) : Ray d s (times d s f) := by
  have r := Rep.times (d := d) os of (av os) (av of)
  refine ⟨_, _, r.c, Int.mul_ne_zero (show f.a ≠ 0 by omega) (aB (d := d) os of).cn, ?_, .inl ?_⟩
  · rw [r.a, fb]; grind
  · rw [r.b, fb]; grind
theorem Hl (ok : Ok k) (os : Ok s) (hn : norm d k ≠ 0) : Ok (qZ d k s) := by
  unfold qZ
  split
  · exact fZ os hn
  · rename_i h
    exact nM (fZ os hn) (aB (uY ok os hn (fun z => h ((gn ok).mpr z))) (wV hn))
theorem Hw (ok : Ok k) (os : Ok s) (hn : norm d k ≠ 0) : Ok (rn d k s) := by
  unfold rn
  split
  · exact uQ
  · rename_i h
    exact uY ok os hn (fun z => h ((gn ok).mpr z))
theorem xM (hl : (times d k k).b = 0) : qZ d k s = shA d k s := if_pos hl
theorem xc (hl : (times d k k).b = 0) : rn d k s = ay := if_pos hl
theorem CC (hl : ¬ (times d k k).b = 0) : qZ d k s = shU d k s := if_neg hl
theorem CQ (hl : ¬ (times d k k).b = 0) : rn d k s = shV d k s := if_neg hl
theorem NU (ok : Ok k) (os : Ok s) (oo : Ok o) (hn : norm d k ≠ 0) : qZ d k (plus s o) = plus (qZ d k s) (qZ d k o) := by
  by_cases hl : (times d k k).b = 0
  · rw [xM hl, xM hl, xM hl]
    have r1 := xu ok (bN os oo) hn (av ok) (Rep.plus os oo (av os) (av oo))
    have r2 := Rep.plus (fZ os hn) (fZ oo hn) (xu ok os hn (av ok) (av os)) (xu ok oo hn (av ok) (av oo))
    exact Rep.eq (fZ (bN os oo) hn) (bN (fZ os hn) (fZ oo hn)) r1 r2 (by grind) (by grind)
  · have h' : k.a * k.b ≠ 0 := fun z => hl ((gn ok).mpr z)
    have o1 := Hl (d := d) ok (bN os oo) hn
    have o2 := Hl (d := d) ok os hn
    have o3 := Hl (d := d) ok oo hn
    rw [CC hl] at o1 o2 o3 ⊢
    rw [CC hl, CC hl]
    have r1 := Gj ok (bN os oo) hn (av ok) (Rep.plus os oo (av os) (av oo)) h'
    have r2 := Rep.plus o2 o3 (Gj ok os hn (av ok) (av os) h') (Gj ok oo hn (av ok) (av oo) h')
    exact Rep.eq o1 (bN o2 o3) r1 r2 (by grind) (by grind)
theorem N0 (ok : Ok k) (os : Ok s) (oo : Ok o) (hn : norm d k ≠ 0) : rn d k (plus s o) = plus (rn d k s) (rn d k o) := by
  by_cases hl : (times d k k).b = 0
  · rw [xc hl, xc hl, xc hl]
    exact (by decide : ay = plus ay ay)
  · have h' : k.a * k.b ≠ 0 := fun z => hl ((gn ok).mpr z)
    have o1 := Hw (d := d) ok (bN os oo) hn
    have o2 := Hw (d := d) ok os hn
    have o3 := Hw (d := d) ok oo hn
    rw [CQ hl] at o1 o2 o3 ⊢
    rw [CQ hl, CQ hl]
    have r1 := CP ok (bN os oo) hn (av ok) (Rep.plus os oo (av os) (av oo)) h'
    have r2 := Rep.plus o2 o3 (CP ok os hn (av ok) (av os) h') (CP ok oo hn (av ok) (av oo) h')
    exact Rep.eq o1 (bN o2 o3) r1 r2 (by grind) (by grind)
theorem AB (h : bX d x = true) : x.b = 0 := by
  unfold bX at h
  simp only [Bool.and_eq_true, decide_eq_true_eq] at h
  exact h.1
theorem GI (h : bX d x = true) : 0 ≤ x.a := by
  have hb := AB h
  unfold bX at h
  simp only [Bool.and_eq_true, decide_eq_true_eq] at h
  rw [hb] at h
  exact sg0.mp h.2
theorem xr (ox : Ok x) (oy : Ok y) (hx : bX d x = true) (hy : bX d y = true) : bX d (plus x y) = true := by
  have r := Rep.plus ox oy (av ox) (av oy)
  rw [AB hx, AB hy] at r
  simp only [Int.zero_mul, Int.add_zero] at r
  rw [uB (bN ox oy) r]
  have a := GI hx
  have b := GI hy
  have c := ox.c
  have c2 := oy.c
  exact Int.mul_nonneg (Int.add_nonneg (Int.mul_nonneg a (by omega)) (Int.mul_nonneg b (by omega))) (Int.mul_nonneg (by omega) (by omega))
theorem J7 (ok : Ok k) (os : Ok s) (oo : Ok o) (hn : norm d k ≠ 0) (h1 : eo d k s = true) (h2 : eo d k o = true) : eo d k (plus s o) = true := by
  unfold eo at *
  rw [Bool.and_eq_true] at *
  rw [NU ok os oo hn, N0 ok os oo hn]
  exact ⟨xr (Hl ok os hn) (Hl ok oo hn) h1.1 h2.1, xr (Hw ok os hn) (Hw ok oo hn) h1.2 h2.2⟩
end
end NM
set_option Elab.async false
set_option linter.all false
set_option maxHeartbeats 4000000
namespace NM
section
variable {d : Int} {x y z u p q s t w h p' q' s' t' w' h' : N3}
theorem oY : Ok ay := ⟨by decide, by decide⟩
theorem Pz (ox : Ok x) : plus x ay = x :=
  ((av ox).plus ox oY (av oY)).eq (bN ox oY) ox (av ox) (by simp only [ay]; grind) (by simp only [ay]; grind)
theorem L7 (ox : Ok x) : plus ay x = x :=
  ((av oY).plus oY ox (av ox)).eq (bN oY ox) ox (av ox) (by simp only [ay]; grind) (by simp only [ay]; grind)
theorem OZ (ox : Ok x) : times d ay x = ay :=
  ((av oY).times oY ox (av ox)).eq (aB oY ox) oY (av oY) (by simp only [ay]; grind) (by simp only [ay]; grind)
def hf (d : Int) (p q h : N3) : N3 := plus (times d p h) (times d q (bR h))
end
end NM
set_option linter.all false
set_option maxRecDepth 100000
set_option maxHeartbeats 400000
namespace NM
section
variable {d : Int} {x y z k s o f u v : N3}
theorem NQ (ox : Ok x) (oy : Ok y) : times d x y = times d y x :=
  Rep.eq (aB ox oy) (aB oy ox) (Rep.times ox oy (av ox) (av oy)) (Rep.times oy ox (av oy) (av ox)) (by grind) (by grind)
end
end NM
set_option Elab.async false
set_option linter.all false
set_option maxRecDepth 100000
set_option maxHeartbeats 4000000
namespace L2.DL
open PySem PySem.Spec PyProof.Rows NM
theorem fV {n m : Nat} {i j : Int} (h : Sz n i) (g : Sz m j) (l : n + m ≤ 100000) : IntMulOk i j := by
  have b1 : ∀ {k : Nat} {z : Int}, Sz k z → Builtin.Int.intBits z ≤ k := fun {k z} hz => by
    unfold Builtin.Int.intBits
    split
    · exact Nat.zero_le _
    · rename_i q
      have hz' : z.natAbs ≠ 0 := by simp at q; omega
      have := (Nat.log2_lt hz').mpr hz.lt
      omega
  have e1 := b1 h
  have e2 := b1 g
  unfold IntMulOk
  intro z
  simp only [Bool.and_eq_true] at z
  have z3 := z.2
  unfold Builtin.Int.intTooBig at z3
  simp only [decide_eq_true_eq] at z3
  have : (100000 : Int) ≤ bitsLine := by decide
  omega
theorem GH {n : Nat} {i j : Int} (h0 : j ≠ 0) (h : Sz n j) (l : n ≤ 8900) : vx i j := by
  refine ⟨h0, PyProof.noPylong_of_log2 ?_⟩
  have hz' : j.natAbs ≠ 0 := by omega
  have := (Nat.log2_lt hz').mpr h.lt
  omega
theorem divC {i j : Int} (h0 : j ≠ 0) (h1 : j.natAbs < 1073741824) : vx i j := ⟨h0, PyProof.noPylong_small h1⟩
theorem mulL {i j : Int} (h : i.natAbs < 2 ^ 64) : IntMulOk i j := LI.ok (.inl (by omega))
theorem mulR {i j : Int} (h : j.natAbs < 2 ^ 64) : IntMulOk i j := LI.ok (.inr (by omega))
def dN (x : N3) : PyData := .tuple [.int x.a, .int x.b, .int x.c]
def isWhole (d : PyData) : Bool := isT "int" d && !isT "bool" d
def isNum : PyData → Bool
  | .tuple [.int a, .int b, .int c] => decide (1 ≤ c) && (g3 a b c == 1)
  | _ => false
def pY : DSp := fun ds μ Q => ∃ d, ds = [.v d] ∧ Q (.v (.bool (isWhole d))) μ
def tu : DSp := fun ds μ Q => ∃ a b : Int, ds = [.v (.int a), .v (.int b)] ∧ Q (.v (.int (Int.gcd a b : Nat))) μ
def w8 : DSp := fun ds μ Q => ∃ a b c : Int, ds = [.v (.int a), .v (.int b), .v (.int c)] ∧ Q (.v (.int (g3 a b c : Nat))) μ
def Few : PyData → Prop
  | .tuple xs => xs.length ≤ 1000
  | _ => True
def A7 : DSp := fun ds μ Q => ∃ d, ds = [.v d] ∧ Few d ∧ Q (.v (.bool (isNum d))) μ
def cG : DSp := fun ds μ Q => ∃ a b c : Int, ds = [.v (.int a), .v (.int b), .v (.int c)] ∧ c ≠ 0 ∧ Sz 8800 c ∧ Q (.v (dN (low a b c))) μ
def eP : DSp := fun ds μ Q => ∃ x : N3, ds = [.v (dN x)] ∧ Q (.v (dN (bR x))) μ
def qf : DSp := fun ds μ Q => ∃ x : N3, ds = [.v (dN x)] ∧ Q (.v (dN (minus x))) μ
def sp2 (f : N3 → N3 → N3) : DSp := fun ds μ Q => ∃ x y : N3, ds = [.v (dN x), .v (dN y)] ∧ Ok x ∧ Ok y ∧ Bd 4300 x ∧ Bd 4300 y ∧ Q (.v (dN (f x y))) μ
abbrev fh : DSp := sp2 plus
abbrev xm : DSp := sp2 less
def bO : DSp := fun ds μ Q => ∃ (d : Int) (x y : N3), ds = [.v (.int d), .v (dN x), .v (dN y)] ∧ Sz 5 d ∧ Ok x ∧ Ok y ∧ Bd 4300 x ∧ Bd 4300 y ∧ Q (.v (dN (times d x y))) μ
def bI : DSp := fun ds μ Q => ∃ (d : Int) (x : N3), ds = [.v (.int d), .v (dN x)] ∧ Sz 5 d ∧ norm d x ≠ 0 ∧ Bd 4300 x ∧ Q (.v (dN (ar d x))) μ
def ly : DSp := fun ds μ Q => ∃ (d : Int) (x y : N3), ds = [.v (.int d), .v (dN x), .v (dN y)] ∧ aw d ∧ Ok x ∧ Ok y ∧ y ≠ ay ∧ Bd 2100 x ∧ Bd 2100 y ∧ Q (.v (dN (times d x (ar d y)))) μ
def wk : DSp := fun ds μ Q => ∃ d a b : Int, ds = [.v (.int d), .v (.int a), .v (.int b)] ∧ Sz 5 d ∧ Sz 9900 a ∧ Sz 9900 b ∧ Q (.v (.int (sg d a b))) μ
def fc : DSp := fun ds μ Q => ∃ (d : Int) (x : N3), ds = [.v (.int d), .v (dN x)] ∧ aw d ∧ Bd 8900 x ∧ Q (.v (.int (sg d x.a x.b))) μ
def dif (d : Int) (x y : N3) : Int := sg d (x.a * y.c - y.a * x.c) (x.b * y.c - y.b * x.c)
def sA : DSp := fun ds μ Q => ∃ (d : Int) (x y : N3), ds = [.v (.int d), .v (dN x), .v (dN y)] ∧ aw d ∧ Ok x ∧ Ok y ∧ Bd 4300 x ∧ Bd 4300 y ∧ Q (.v (.bool (decide (dif d y x = 1)))) μ
def Bag (μ : Mu) (a : Addr) : Prop := ∃ g m : Int, μ a = some [.int g, .int m] ∧ 0 ≤ g ∧ 0 ≤ m ∧ m < 2147483648
def Step (a : Addr) (μ μ' : Mu) : Prop := Bag μ' a ∧ ∀ b, b ≠ a → μ' b = μ b
def GU : DSp := fun ds μ Q => ∃ (ns : List Int) (k : Int), ds = [.s ns, .v (.int k)] ∧ 0 ≤ k ∧ k ≤ 1000 ∧ ∀ p μ', μ p = none → Step p μ μ' → Q (.m p) μ'
def cj : DSp := fun ds μ Q => ∃ (a : Addr) (n : Int), ds = [.m a, .v (.int n)] ∧ 1 ≤ n ∧ n ≤ 1000000000 ∧ Bag μ a ∧ ∀ r μ', 0 ≤ r → r < n → Step a μ μ' → Q (.v (.int r)) μ'
def pT : DSp := fun ds μ Q => ∃ a : Addr, ds = [.m a] ∧ Bag μ a ∧ ∀ x μ', Ok x → Bd 20 x → Step a μ μ' → Q (.v (dN x)) μ'
def wt : DSp := fun ds μ Q => ∃ a : Addr, ds = [.m a] ∧ Bag μ a ∧ ∀ d μ', aw d → Step a μ μ' → Q (.v (.int d)) μ'
theorem Step.trans {a : Addr} {μ μ1 μ2 : Mu} (h : Step a μ μ1) (g : Step a μ1 μ2) : Step a μ μ2 := ⟨g.1, fun b n => (g.2 b n).trans (h.2 b n)⟩
theorem Step.set {a : Addr} {μ : Mu} {g m : Int} (h1 : 0 ≤ g) (h2 : 0 ≤ m) (h3 : m < 2147483648) : Step a μ (aV μ a [.int g, .int m]) := ⟨⟨g, m, bB, h1, h2, h3⟩, fun b n => bL n⟩
local macro_rules | `(tactic| walk_at "rd") => `(tactic| simp only [↓D9, ↓EA, ↓Fm, ↓FA, ↓E8, ↓E9, ↓Ej, ↓Eh, ↓EJ, ↓Fn, ↓Ar, ↓q_c, ↓Oe, ↓q_B, ↓ND, ↓KJ, ↓JM, ↓Ge, ↓J9, ↓ED, ↓FN, ↓Ku, ↓EO, ↓MH, ↓KA, ↓Gd, ↓Kt, ↓JG, ↓Em, ↓JY, ↓Jw, ↓Jf, ↓Jz, ↓JH, ↓GP, ↓Jg, ↓FT, ↓Eu, ↓FR, ↓Ae, ↓BS, ↓B2, ↓Ff, ↓zA, ↓xS, ↓Jb, ↓Kx, ↓Kw, ↓Fz, ↓EX, ↓EV, ↓FF, ↓FZ, ↓N2, ↓wI, ↓FW, ↓Io, ↓Jo, ↓JF, ↓N1, ↓FV, ↓E2, ↓Ee, ↓Ep, ↓Kj, ↓MF, ↓FL, ↓FG, ↓AS, ↓Aq, ↓Iu, ↓JE, ↓IF, ↓Ky, ↓AD, ↓E5, ↓AZ, ↓FU, ↓Gb, ↓IV, ↓JO, ↓E4, ↓Gs, ↓Jj, ↓EY, ↓JR, ↓Ba, ↓EC, ↓Im, ↓JD, ↓Ft, ↓zM, ↓Fh, ↓xN, ↓Bn, ↓xy, ↓wU, ↓Bb, ↓xA, ↓wA, ↓wX, ↓IL, Ha, ↓EH, ↓zZ, Es, EW, KI, IU, Kr, Option.bind_none, Option.bind_some, Option.join_some, List.getElem?_cons_zero, List.getElem?_cons_succ, aK, dN, xf, vy, zj, Dj, G7, List.map, List.append, List.replicate, List.length_cons, List.length_nil, Nat.reduceAdd, Nat.reduceSub, List.nil_append, List.cons_append, List.set_cons_zero, List.set_cons_succ, Option.map_some, ↓reduceIte, Bool.not_true, Bool.not_false, Bool.false_eq_true, Bool.true_eq_false, Bool.xor_false, Bool.false_xor])
def oX : DTS :=
  (bD (vp (FK "int" (af 0)) (Dg (FK "bool" (af 0)))))
def ir : DTS :=
  (aJ (Eo (dB (dOp (d6 true) (af 1) (dC (.int 0)))) (BU 0 1 (ab (af 1) (ab (uW (af 0) (af 1)) aj))))
  (bD (dCB oU (ab (af 0) aj))))
def iz : DTS :=
  (bD (ao tu (ab (ao tu (ab (af 2) (ab (af 0) aj))) (ab (af 1) aj))))
def ko : DTS :=
  (aJ (BU 0 1 (ab (dCB oU (ab (af 0) aj)) (ab (dCB oU (ab (af 1) aj)) aj)))
  (aJ (Eo (dB (dOp rGt (af 1) (dC (.int 0)))) (BU 0 1 (ab (af 1) (ab (uW (af 0) (af 1)) aj))))
  (bD (af 0))))
section
theorem GF (x : Int) {y : Int} (h : y ≠ 0) : (x.fmod y).natAbs < y.natAbs := by
  have e := Int.mul_fdiv_add_fmod x y
  have := Int.fmod_def x y
  rcases Int.lt_or_gt_of_ne h with h | h
  · have k := Int.neg_fmod_neg (a := x) (b := y)
    have h1 := Int.fmod_nonneg_of_pos (-x) (show 0 < -y by omega)
    have h2 := Int.fmod_lt_of_pos (-x) (show 0 < -y by omega)
    omega
  · have h1 := Int.fmod_nonneg_of_pos x h
    have h2 := Int.fmod_lt_of_pos x h
    omega
theorem Cq (x y : Int) : Int.gcd y (x.fmod y) = Int.gcd x y := by
  have e := Int.mul_fdiv_add_fmod x y
  have e' : x.fmod y = x + y * (-(x.fdiv y)) := by rw [Int.mul_neg]; omega
  rw [e', Int.gcd_add_mul_left_right, Int.gcd_comm]
theorem CK {μ Qd ds} (h : pY ds μ Qd) : oX { nx := fun _ μ' => Qd (.v .none) μ', rt := Qd } (aK ["thing"] ds) μ := by
  obtain ⟨d, rfl, q⟩ := h
  unfold oX
  walk_at "rd"
  unfold isWhole at q
  cases hb : isT "int" d <;> simp_all
theorem sP {μ Qd ds} (h : tu ds μ Qd) : ir { nx := fun _ μ' => Qd (.v .none) μ', rt := Qd } (aK ["a", "b"] ds) μ := by
  obtain ⟨a, b, rfl, q⟩ := h
  unfold ir
  walk_at "rd"
  refine ⟨fun m ρ μ' => ∃ x y : Int, ρ = [some (.v (.int x)), some (.v (.int y))] ∧ m = y.natAbs ∧ Int.gcd x y = Int.gcd a b ∧ μ' = μ, ⟨_, a, b, rfl, rfl, rfl, rfl⟩, ?_⟩
  rintro m ρ μ' ⟨x, y, rfl, rfl, hg, rfl⟩
  walk_at "rd"
  by_cases hy : y = 0
  · subst hy
    have e : Int.gcd x 0 = x.natAbs := Int.gcd_zero_right x
    rw [← hg, e] at q
    simpa using q
  · have z : (true ^^ decide (y = 0)) = true := by simp [hy]
    rw [if_pos z]
    exact ⟨hy, _, GF x hy, y, x.fmod y, rfl, rfl, (Cq x y).trans hg, trivial⟩
theorem xQ {μ Qd ds} (h : tu ds μ Qd) : ko { nx := fun _ μ' => Qd (.v .none) μ', rt := Qd } (aK ["_law_one", "_law_other"] ds) μ := by
  obtain ⟨a, b, rfl, q⟩ := h
  unfold ko
  walk_at "rd"
  refine ⟨fun m ρ μ' => ∃ x y : Int, ρ = [some (.v (.int x)), some (.v (.int y))] ∧ m = y.natAbs ∧ 0 ≤ x ∧ 0 ≤ y ∧ Int.gcd x y = Int.gcd a b ∧ μ' = μ, ⟨_, _, _, rfl, rfl, by omega, by omega, by simp [Int.gcd], rfl⟩, ?_⟩
  rintro m ρ μ' ⟨x, y, rfl, rfl, hx, hy, hg, rfl⟩
  walk_at "rd"
  by_cases h0 : 0 < y
  · rw [if_pos (by simpa using h0)]
    have hy' : y ≠ 0 := by omega
    exact ⟨hy', _, GF x hy', y, x.fmod y, rfl, rfl, by omega, Int.fmod_nonneg_of_pos x h0, (Cq x y).trans hg, trivial⟩
  · rw [if_neg (by simpa using h0)]
    have e : y = 0 := by omega
    subst e
    rw [Int.gcd_zero_right] at hg
    have : x = ((Int.gcd a b : Nat) : Int) := by omega
    rw [this]
    exact q
theorem sJ {μ Qd ds} (h : w8 ds μ Qd) : iz { nx := fun _ μ' => Qd (.v .none) μ', rt := Qd } (aK ["a", "b", "c"] ds) μ := by
  obtain ⟨a, b, c, rfl, q⟩ := h
  unfold iz
  walk_at "rd"
  rw [← LA] at q
  exact ⟨c, a, rfl, _, b, rfl, q⟩
end
open PySem PySem.Spec PyProof.Rows NM
def vf : DTS :=
  (aJ (dy (dB (dOp (d6 false) (af 2) (dC (.int 0)))) um bU)
  (aJ (bC (ao w8 (ab (af 0) (ab (af 1) (ab (af 2) aj)))) (au 3))
  (aJ (dy (dB (dOp rLt (af 2) (dC (.int 0)))) (bC (vG (af 3)) (au 3)) bU)
  (bD (cL (ab (xY (af 0) (af 3)) (ab (xY (af 1) (af 3)) (ab (xY (af 2) (af 3)) aj))))))))
def pI : DTS :=
  (aJ (bC (cg (ao tu (ab (ao tu (ab (af 0) (ab (af 1) aj))) (ab (af 2) aj))) (dOp aC (oq (ab (dC (.int 1)) (ab (vG (dC (.int 1))) aj))) (dCB qK (ab (dOp rLt (af 2) (dC (.int 0))) aj)))) (au 3))
  (bD (cL (ab (xY (af 0) (af 3)) (ab (xY (af 1) (af 3)) (ab (xY (af 2) (af 3)) aj))))))
def mS : DTS :=
  (bD (cL (ab (dOp aC (af 0) (dC (.int 0))) (ab (nA (dC (.int 0)) (dOp aC (af 0) (dC (.int 1)))) (ab (dOp aC (af 0) (dC (.int 2))) aj)))))
def lh : DTS :=
  (bD (cL (ab (nA (dC (.int 0)) (dOp aC (af 0) (dC (.int 0)))) (ab (nA (dC (.int 0)) (dOp aC (af 0) (dC (.int 1)))) (ab (dOp aC (af 0) (dC (.int 2))) aj)))))
def B4 : DTS :=
  (bD (ao cG (ab (jH (cg (dOp aC (af 0) (dC (.int 0))) (dOp aC (af 1) (dC (.int 2)))) (cg (dOp aC (af 1) (dC (.int 0))) (dOp aC (af 0) (dC (.int 2))))) (ab (jH (cg (dOp aC (af 0) (dC (.int 1))) (dOp aC (af 1) (dC (.int 2)))) (cg (dOp aC (af 1) (dC (.int 1))) (dOp aC (af 0) (dC (.int 2))))) (ab (cg (dOp aC (af 0) (dC (.int 2))) (dOp aC (af 1) (dC (.int 2)))) aj)))))
def tJ : DTS :=
  (bD (ao cG (ab (jH (cg (dOp aC (af 0) (dC (.int 0))) (dOp aC (af 1) (dC (.int 2)))) (cg (dOp aC (af 1) (dC (.int 0))) (dOp aC (af 0) (dC (.int 2))))) (ab (jH (cg (dOp aC (af 0) (dC (.int 1))) (dOp aC (af 1) (dC (.int 2)))) (cg (dOp aC (af 1) (dC (.int 1))) (dOp aC (af 0) (dC (.int 2))))) (ab (cg (dOp aC (af 0) (dC (.int 2))) (dOp aC (af 1) (dC (.int 2)))) aj)))))
def AI : DTS :=
  (bD (ao cG (ab (nA (cg (dOp aC (af 0) (dC (.int 0))) (dOp aC (af 1) (dC (.int 2)))) (cg (dOp aC (af 1) (dC (.int 0))) (dOp aC (af 0) (dC (.int 2))))) (ab (nA (cg (dOp aC (af 0) (dC (.int 1))) (dOp aC (af 1) (dC (.int 2)))) (cg (dOp aC (af 1) (dC (.int 1))) (dOp aC (af 0) (dC (.int 2))))) (ab (cg (dOp aC (af 0) (dC (.int 2))) (dOp aC (af 1) (dC (.int 2)))) aj)))))
def w9 : DTS :=
  (bD (ao cG (ab (jH (cg (dOp aC (af 1) (dC (.int 0))) (dOp aC (af 2) (dC (.int 0)))) (cg (cg (af 0) (dOp aC (af 1) (dC (.int 1)))) (dOp aC (af 2) (dC (.int 1))))) (ab (jH (cg (dOp aC (af 1) (dC (.int 0))) (dOp aC (af 2) (dC (.int 1)))) (cg (dOp aC (af 1) (dC (.int 1))) (dOp aC (af 2) (dC (.int 0))))) (ab (cg (dOp aC (af 1) (dC (.int 2))) (dOp aC (af 2) (dC (.int 2)))) aj)))))
def qE : DTS :=
  (bD (ao cG (ab (jH (cg (dOp aC (af 1) (dC (.int 0))) (dOp aC (af 2) (dC (.int 0)))) (cg (cg (af 0) (dOp aC (af 1) (dC (.int 1)))) (dOp aC (af 2) (dC (.int 1))))) (ab (jH (cg (dOp aC (af 1) (dC (.int 0))) (dOp aC (af 2) (dC (.int 1)))) (cg (dOp aC (af 1) (dC (.int 1))) (dOp aC (af 2) (dC (.int 0))))) (ab (cg (dOp aC (af 1) (dC (.int 2))) (dOp aC (af 2) (dC (.int 2)))) aj)))))
def oJ : DTS :=
  (aJ (bC (nA (cg (dOp aC (af 1) (dC (.int 0))) (dOp aC (af 1) (dC (.int 0)))) (cg (cg (af 0) (dOp aC (af 1) (dC (.int 1)))) (dOp aC (af 1) (dC (.int 1))))) (au 2))
  (bD (ao cG (ab (cg (dOp aC (af 1) (dC (.int 2))) (dOp aC (af 1) (dC (.int 0)))) (ab (cg (vG (dOp aC (af 1) (dC (.int 2)))) (dOp aC (af 1) (dC (.int 1)))) (ab (af 2) aj))))))
def iQ : DTS :=
  (bD (ao cG (ab (cg (dOp aC (af 1) (dC (.int 0))) (dOp aC (af 1) (dC (.int 2)))) (ab (nA (dC (.int 0)) (cg (dOp aC (af 1) (dC (.int 1))) (dOp aC (af 1) (dC (.int 2))))) (ab (nA (cg (dOp aC (af 1) (dC (.int 0))) (dOp aC (af 1) (dC (.int 0)))) (cg (cg (af 0) (dOp aC (af 1) (dC (.int 1)))) (dOp aC (af 1) (dC (.int 1))))) aj)))))
def Bg : DTS :=
  (aJ (dy (dB (dOp (d6 false) (af 2) (dC (.tuple [.int 0, .int 0, .int 1])))) um bU)
  (bD (ao bO (ab (af 0) (ab (af 1) (ab (ao bI (ab (af 0) (ab (af 2) aj))) aj))))))
def zO : DTS :=
  (bD (cL (ab (dOp aC (af 0) (dC (.int 0))) (ab (vG (dOp aC (af 0) (dC (.int 1)))) (ab (dOp aC (af 0) (dC (.int 2))) aj)))))
section
variable {μ : Mu} {Qd : DK} {ds : List D}
theorem Qa (i j : Int) : PyData.eqv (.int i) (.int j) = decide (i = j) := by simp [PyData.eqv]; rfl
theorem gdv {a b c : Int} (h : Sz 8800 c) (hc : c ≠ 0) : Sz 8800 ((g3 a b c : Nat) : Int) := by
  have h1 := (Ju a b c).2.2
  have h2 := Int.natAbs_dvd_natAbs.mpr h1
  exact h.le (Nat.le_of_dvd (by omega) h2)
theorem Hr (h : cG ds μ Qd) : vf { nx := fun _ μ' => Qd (.v .none) μ', rt := Qd } (aK ["a", "b", "c", "divisor"] ds) μ := by
  obtain ⟨a, b, c, rfl, hc, hz, q⟩ := h
  unfold vf
  walk_at "rd"
  rw [decide_eq_false hc]
  simp only [Bool.xor_false, Bool.false_eq_true, ↓reduceIte]
  refine ⟨a, b, c, rfl, ?_⟩
  walk_at "rd"
  have hp := BE (a := a) (b := b) hc
  have hg := gdv (a := a) (b := b) hz hc
  unfold low NM.dv dN at q
  simp only at q
  by_cases hn : c < 0
  · rw [if_pos (by simpa using hn)]
    rw [if_pos hn] at q
    have o : ∀ i : Int, vx i (-((g3 a b c : Nat) : Int)) := fun i => GH (by omega) hg.neg (by decide)
    exact ⟨o _, o _, o _, q⟩
  · rw [if_neg (by simpa using hn)]
    rw [if_neg hn] at q
    have o : ∀ i : Int, vx i ((g3 a b c : Nat) : Int) := fun i => GH (by omega) hg (by decide)
    exact ⟨o _, o _, o _, q⟩
theorem CA (h : cG ds μ Qd) : pI { nx := fun _ μ' => Qd (.v .none) μ', rt := Qd } (aK ["_law_a", "_law_b", "_law_c", "_law_common"] ds) μ := by
  obtain ⟨a, b, c, rfl, hc, hz, q⟩ := h
  unfold pI
  walk_at "rd"
  refine ⟨a, b, rfl, _, c, rfl, ?_⟩
  walk_at "rd"
  have hp := BE (a := a) (b := b) hc
  have hg := gdv (a := a) (b := b) hz hc
  unfold low NM.dv dN at q
  simp only at q
  by_cases hn : c < 0
  · simp only [hn, decide_true, ↓reduceIte, zj]
    rw [if_pos hn] at q
    have e : ((Int.gcd (Int.gcd a b : Nat) c : Nat) : Int) * -1 = -((g3 a b c : Nat) : Int) := by unfold g3; omega
    walk_at "rd"
    rw [e]
    have o : ∀ i : Int, vx i (-((g3 a b c : Nat) : Int)) := fun i => GH (by omega) hg.neg (by decide)
    exact ⟨mulR (by decide), o _, o _, o _, q⟩
  · simp only [hn, decide_false, Bool.false_eq_true, ↓reduceIte, vy]
    rw [if_neg hn] at q
    have e : ((Int.gcd (Int.gcd a b : Nat) c : Nat) : Int) * 1 = ((g3 a b c : Nat) : Int) := by unfold g3; omega
    walk_at "rd"
    rw [e]
    have o : ∀ i : Int, vx i ((g3 a b c : Nat) : Int) := fun i => GH (by omega) hg (by decide)
    exact ⟨mulR (by decide), o _, o _, o _, q⟩
theorem Li (h : eP ds μ Qd) : zO { nx := fun _ μ' => Qd (.v .none) μ', rt := Qd } (aK ["x"] ds) μ := by
  obtain ⟨x, rfl, q⟩ := h
  unfold zO
  walk_at "rd"
  exact q
theorem zV (h : eP ds μ Qd) : mS { nx := fun _ μ' => Qd (.v .none) μ', rt := Qd } (aK ["_law_x"] ds) μ := by
  obtain ⟨x, rfl, q⟩ := h
  unfold mS
  walk_at "rd"
  trace_state
  simp only [Int.zero_sub]
  exact q
theorem yf (h : qf ds μ Qd) : lh { nx := fun _ μ' => Qd (.v .none) μ', rt := Qd } (aK ["_law_x"] ds) μ := by
  obtain ⟨x, rfl, q⟩ := h
  unfold lh
  walk_at "rd"
  simp only [Int.zero_sub]
  exact q
theorem G3 (h : fh ds μ Qd) : B4 { nx := fun _ μ' => Qd (.v .none) μ', rt := Qd } (aK ["x", "y"] ds) μ := by
  obtain ⟨x, y, rfl, ox, oy, bx, by', q⟩ := h
  unfold B4
  walk_at "rd"
  have m : ∀ {i j : Int}, Sz 4300 i → Sz 4300 j → IntMulOk i j := fun h g => fV h g (by decide)
  exact ⟨m bx.a by'.c, m by'.a bx.c, m bx.b by'.c, m by'.b bx.c, m bx.c by'.c, _, _, _, rfl, rY ox oy, (bx.c.mul by'.c).mono (by decide), q⟩
theorem B0 (h : fh ds μ Qd) : tJ { nx := fun _ μ' => Qd (.v .none) μ', rt := Qd } (aK ["_law_x", "_law_y"] ds) μ := G3 h
theorem Lm (h : xm ds μ Qd) : AI { nx := fun _ μ' => Qd (.v .none) μ', rt := Qd } (aK ["x", "y"] ds) μ := by
  obtain ⟨x, y, rfl, ox, oy, bx, by', q⟩ := h
  unfold AI
  walk_at "rd"
  have m : ∀ {i j : Int}, Sz 4300 i → Sz 4300 j → IntMulOk i j := fun h g => fV h g (by decide)
  exact ⟨m bx.a by'.c, m by'.a bx.c, m bx.b by'.c, m by'.b bx.c, m bx.c by'.c, _, _, _, rfl, rY ox oy, (bx.c.mul by'.c).mono (by decide), q⟩
theorem Dw (h : bO ds μ Qd) : w9 { nx := fun _ μ' => Qd (.v .none) μ', rt := Qd } (aK ["d", "x", "y"] ds) μ := by
  obtain ⟨d, x, y, rfl, hd, ox, oy, bx, by', q⟩ := h
  unfold w9
  walk_at "rd"
  have m : ∀ {i j : Int}, Sz 4300 i → Sz 4300 j → IntMulOk i j := fun h g => fV h g (by decide)
  exact ⟨m bx.a by'.a, fV hd bx.b (by decide), fV (hd.mul bx.b) by'.b (by decide), m bx.a by'.b, m bx.b by'.a, m bx.c by'.c, _, _, _, rfl, rY ox oy, (bx.c.mul by'.c).mono (by decide), q⟩
theorem yE (h : bO ds μ Qd) : qE { nx := fun _ μ' => Qd (.v .none) μ', rt := Qd } (aK ["_law_d", "_law_x", "_law_y"] ds) μ := Dw h
theorem CH (h : bI ds μ Qd) : oJ { nx := fun _ μ' => Qd (.v .none) μ', rt := Qd } (aK ["d", "x", "norm"] ds) μ := by
  obtain ⟨d, x, rfl, hd, hn, bx, q⟩ := h
  unfold oJ
  walk_at "rd"
  have m : ∀ {i j : Int}, Sz 4300 i → Sz 4300 j → IntMulOk i j := fun h g => fV h g (by decide)
  exact ⟨m bx.a bx.a, fV hd bx.b (by decide), fV (hd.mul bx.b) bx.b (by decide), m bx.c bx.a, m bx.c.neg bx.b, _, _, _, rfl, hn, (sD hd bx).mono (by decide), q⟩
theorem uw (h : bI ds μ Qd) : iQ { nx := fun _ μ' => Qd (.v .none) μ', rt := Qd } (aK ["_law_d", "_law_x"] ds) μ := by
  obtain ⟨d, x, rfl, hd, hn, bx, q⟩ := h
  unfold iQ
  walk_at "rd"
  have m : ∀ {i j : Int}, Sz 4300 i → Sz 4300 j → IntMulOk i j := fun h g => fV h g (by decide)
  refine ⟨m bx.a bx.c, m bx.b bx.c, m bx.a bx.a, fV hd bx.b (by decide), fV (hd.mul bx.b) bx.b (by decide), _, _, _, rfl, hn, (sD hd bx).mono (by decide), ?_⟩
  have e1 : x.a * x.c = x.c * x.a := Int.mul_comm ..
  have e2 : 0 - x.b * x.c = -x.c * x.b := by grind
  rw [e1, e2]
  exact q
theorem Pd (a b c a' b' c' : Int) : PyData.eqv (.tuple [.int a, .int b, .int c]) (.tuple [.int a', .int b', .int c']) = decide (a = a' ∧ b = b' ∧ c = c') := by
  simp [PyData.eqv, PyData.eqvAll]
  rfl
theorem LW (h : ly ds μ Qd) : Bg { nx := fun _ μ' => Qd (.v .none) μ', rt := Qd } (aK ["d", "x", "y"] ds) μ := by
  obtain ⟨d, x, y, rfl, hd, ox, oy, hy, bx, by', q⟩ := h
  unfold Bg
  walk_at "rd"
  refine ⟨rfl, rfl, ?_⟩
  have hn : ¬ (y.a = 0 ∧ y.b = 0 ∧ y.c = 1) := fun z => hy (N3.ext' z.1 z.2.1 z.2.2)
  rw [Pd, decide_eq_false hn]
  simp only [Bool.xor_false, Bool.false_eq_true, ↓reduceIte]
  have s5 := jr hd.1 hd.2.1
  have nz := hd.norm oy hy
  exact ⟨d, y, rfl, s5, nz, by'.mono (by decide), d, x, _, rfl, s5, ox, aE nz, bx.mono (by decide), (bS s5 nz by').mono (by decide), q⟩
end
open PySem PySem.Spec PyProof.Rows NM
def iG : DTS :=
  (aJ (dy (zF (dB (dOp (d6 false) (af 1) (dC (.int 0)))) (dB (dOp (d6 false) (af 2) (dC (.int 0))))) (bD (dC (.int 0))) bU)
  (aJ (dy (zF (dB (dOp rGe (af 1) (dC (.int 0)))) (dB (dOp rGe (af 2) (dC (.int 0))))) (bD (dC (.int 1))) bU)
  (aJ (dy (zF (dB (dOp rLe (af 1) (dC (.int 0)))) (dB (dOp rLe (af 2) (dC (.int 0))))) (bD (vG (dC (.int 1)))) bU)
  (aJ (bC (dIf (dB (dOp rGt (cg (af 1) (af 1)) (cg (cg (af 0) (af 2)) (af 2)))) (af 1) (af 2)) (au 3))
  (bD (dIf (dB (dOp rGt (af 3) (dC (.int 0)))) (dC (.int 1)) (vG (dC (.int 1)))))))))
def rQ : DTS :=
  (bD (ao wk (ab (af 0) (ab (dOp aC (af 1) (dC (.int 0))) (ab (dOp aC (af 1) (dC (.int 1))) aj)))))
def mZ : DTS :=
  (aJ (BU 2 3 (ab (cg (dOp aC (af 1) (dC (.int 0))) (dOp aC (af 1) (dC (.int 0)))) (ab (cg (cg (af 0) (dOp aC (af 1) (dC (.int 1)))) (dOp aC (af 1) (dC (.int 1)))) aj)))
  (aJ (bC (oq (ab (nA (dCB qK (ab (dOp rGt (dOp aC (af 1) (dC (.int 0))) (dC (.int 0))) aj)) (dCB qK (ab (dOp rLt (dOp aC (af 1) (dC (.int 0))) (dC (.int 0))) aj))) (ab (nA (dCB qK (ab (dOp rGt (dOp aC (af 1) (dC (.int 1))) (dC (.int 0))) aj)) (dCB qK (ab (dOp rLt (dOp aC (af 1) (dC (.int 1))) (dC (.int 0))) aj))) aj))) (au 4))
  (aJ (dy (dB (dOp rGe (cg (dOp aC (af 4) (dC (.int 0))) (dOp aC (af 4) (dC (.int 1)))) (dC (.int 0)))) (bD (dIf (dB (dOp (d6 true) (dOp aC (af 4) (dC (.int 0))) (dC (.int 0)))) (dOp aC (af 4) (dC (.int 0))) (dOp aC (af 4) (dC (.int 1))))) bU)
  (bD (dIf (dB (dOp rGt (af 2) (af 3))) (dOp aC (af 4) (dC (.int 0))) (dOp aC (af 4) (dC (.int 1))))))))
def lE : DTS :=
  (bD (dOp rGt (ao fc (ab (af 0) (ab (ao fh (ab (af 2) (ab (ao qf (ab (af 1) aj)) aj))) aj))) (dC (.int 0))))
section
variable {μ : Mu} {Qd : DK} {ds : List D}
theorem vb (h : wk ds μ Qd) : iG { nx := fun _ μ' => Qd (.v .none) μ', rt := Qd } (aK ["d", "a", "b", "prevailing"] ds) μ := by
  obtain ⟨d, a, b, rfl, hd, ha, hb, q⟩ := h
  unfold iG
  walk_at "rd"
  have m1 : MulOk a a := fV ha ha (by decide)
  have m2 : MulOk d b := fV hd hb (by decide)
  have m3 : MulOk (d * b) b := fV (hd.mul hb) hb (by decide)
  unfold sg at q
  by_cases h1 : a = 0
  · by_cases h2 : b = 0
    · subst h1 h2; simpa using q
    · subst h1
      rcases Int.lt_or_gt_of_ne h2 with h3 | h3
      · have e : ¬ (0 ≤ b) := by omega
        have e' : b ≤ 0 := by omega
        simp only [h2, e, e', and_false, true_and, if_true, if_false, decide_true, decide_false, Int.le_refl, ↓reduceIte, Bool.false_eq_true] at q ⊢
        exact q
      · have e : (0 ≤ b) := by omega
        simp only [h2, e, and_false, true_and, if_true, if_false, decide_true, decide_false, Int.le_refl, ↓reduceIte, Bool.false_eq_true] at q ⊢
        exact q
  · by_cases h3 : 0 ≤ a <;> by_cases h4 : 0 ≤ b <;> by_cases h5 : a ≤ 0 <;> by_cases h6 : b ≤ 0 <;> by_cases h7 : d * b * b < a * a <;> (try (exfalso; omega)) <;>
      simp only [h1, h3, h4, h5, h6, h7, and_false, false_and, and_true, true_and, if_true, if_false, decide_true, decide_false, ↓reduceIte, Bool.false_eq_true, and_self, m1, m2, m3, gt_iff_lt] at q ⊢ <;> (try exact q)
    all_goals
      first
      | (by_cases h8 : 0 < a <;> simp only [h8, if_true, if_false, decide_true, decide_false, ↓reduceIte, Bool.false_eq_true] at q ⊢ <;> exact q)
      | (by_cases h8 : 0 < b <;> simp only [h8, if_true, if_false, decide_true, decide_false, ↓reduceIte, Bool.false_eq_true] at q ⊢ <;> exact q)
theorem Er (h : fc ds μ Qd) : rQ { nx := fun _ μ' => Qd (.v .none) μ', rt := Qd } (aK ["d", "x"] ds) μ := by
  obtain ⟨d, x, rfl, hd, bx, q⟩ := h
  unfold rQ
  walk_at "rd"
  exact ⟨d, x.a, x.b, rfl, jr hd.1 hd.2.1, bx.a.mono (by decide), bx.b.mono (by decide), q⟩
theorem NZ {d a b sa sb : Int} (ha : (a < 0 ∧ sa = -1) ∨ (a = 0 ∧ sa = 0) ∨ (0 < a ∧ sa = 1)) (hb : (b < 0 ∧ sb = -1) ∨ (b = 0 ∧ sb = 0) ∨ (0 < b ∧ sb = 1)) :
    sg d a b = if 0 ≤ sa * sb then (if sa ≠ 0 then sa else sb) else if d * b * b < a * a then sa else sb := by
  unfold sg
  by_cases h7 : d * b * b < a * a <;> rcases ha with ⟨h1, rfl⟩ | ⟨h1, rfl⟩ | ⟨h1, rfl⟩ <;> rcases hb with ⟨h2, rfl⟩ | ⟨h2, rfl⟩ | ⟨h2, rfl⟩ <;> simp only [h7, ↓reduceIte] <;> (repeat' split) <;> omega
theorem AY (h : fc ds μ Qd) : mZ { nx := fun _ μ' => Qd (.v .none) μ', rt := Qd } (aK ["_law_d", "_law_x", "_law_first", "_law_second", "_law_sides"] ds) μ := by
  obtain ⟨d, x, rfl, hd, bx, q⟩ := h
  unfold mZ
  walk_at "rd"
  have s5 := jr hd.1 hd.2.1
  refine ⟨fV bx.a bx.a (by decide), fV s5 bx.b (by decide), fV (s5.mul bx.b) bx.b (by decide), ?_⟩
  have sd : ∀ u : Int, (u < 0 ∧ ((if decide (0 < u) = true then 1 else 0) - if decide (u < 0) = true then 1 else 0 : Int) = -1) ∨ (u = 0 ∧ ((if decide (0 < u) = true then 1 else 0) - if decide (u < 0) = true then 1 else 0 : Int) = 0) ∨ (0 < u ∧ ((if decide (0 < u) = true then 1 else 0) - if decide (u < 0) = true then 1 else 0 : Int) = 1) := fun u => by
    simp only [decide_eq_true_eq]
    split <;> split <;> omega
  have ha := sd x.a
  have hb := sd x.b
  generalize ((if decide (0 < x.a) = true then 1 else 0) - if decide (x.a < 0) = true then 1 else 0 : Int) = sa at ha ⊢
  generalize ((if decide (0 < x.b) = true then 1 else 0) - if decide (x.b < 0) = true then 1 else 0 : Int) = sb at hb ⊢
  rw [NZ ha hb] at q
  refine ⟨mulL (by omega), ?_⟩
  by_cases c1 : 0 ≤ sa * sb <;> by_cases c2 : sa = 0 <;> by_cases c3 : d * x.b * x.b < x.a * x.a <;> simp only [c1, c2, c3, decide_true, decide_false, ↓reduceIte, Bool.false_eq_true, Bool.xor_false, Bool.xor_true, Bool.not_true, ne_eq, not_true_eq_false, not_false_eq_true, Int.zero_mul, Int.le_refl] at q ⊢ <;> exact q
theorem yV (h : sA ds μ Qd) : lE { nx := fun _ μ' => Qd (.v .none) μ', rt := Qd } (aK ["_law_d", "_law_x", "_law_y"] ds) μ := by
  obtain ⟨d, x, y, rfl, hd, ox, oy, bx, by', q⟩ := h
  unfold lE
  walk_at "rd"
  refine ⟨x, rfl, y, minus x, rfl, oy, lS ox, by'.mono (by decide), (sQ bx).mono (by decide), d, plus y (minus x), rfl, hd, (iY oy (lS ox) by' (sQ bx)).mono (by decide), ?_⟩
  walk_at "rd"
  have e : sg d (plus y (minus x)).a (plus y (minus x)).b = dif d y x := by
    obtain ⟨k, hk, hs, p1, p2, p3, _⟩ := i8 (y.a * (minus x).c + (minus x).a * y.c) (y.b * (minus x).c + (minus x).b * y.c) (rY oy (lS ox))
    have hk0 : 0 < k := hs.mpr (Int.mul_pos oy.c (lS ox).c)
    unfold dif
    have e1 : y.a * x.c - x.a * y.c = k * (plus y (minus x)).a := by rw [show k * (plus y (minus x)).a = _ from p1.symm]; show _ = y.a * x.c + -x.a * y.c; grind
    have e2 : y.b * x.c - x.b * y.c = k * (plus y (minus x)).b := by rw [show k * (plus y (minus x)).b = _ from p2.symm]; show _ = y.b * x.c + -x.b * y.c; grind
    rw [e1, e2, mB hd hk0]
  rw [e]
  have t := lJ d (y.a * x.c - x.a * y.c) (y.b * x.c - x.b * y.c)
  have f : decide (0 < dif d y x) = decide (dif d y x = 1) := by unfold dif; rcases t with z | z | z <;> rw [z] <;> decide
  rw [f]
  exact q
end
open PySem PySem.Spec PyProof.Rows NM
def oH : DTS :=
  (aJ (bC (dC (.int 0)) (au 2))
  (aJ (dy (dB (dOp rLt (af 1) (dCB i7 (ab (af 0) aj)))) (bC (dOp aC (af 0) (af 1)) (au 2)) bU)
  (aJ (bC (dC (.int 0)) (au 3))
  (aJ (dy (dB (dOp rGe (dCB oU (ab (af 2) aj)) (wF (dC (.int 10)) (dC (.int 18))))) (bC (dCB oU (ab (af 2) aj)) (au 3)) bU)
  (aJ (bC (oq (ab (dC (.int 2147483647)) (ab (dC (.int 2147483629)) (ab (dC (.int 2147483587)) (ab (dC (.int 2147483579)) (ab (dC (.int 2147483563)) (ab (dC (.int 2147483549)) (ab (dC (.int 2147483543)) (ab (dC (.int 2147483497)) aj))))))))) (au 4))
  (aJ (bC (jH (jH (jH (cg (uW (af 2) (dC (.int 2147483647))) (dC (.int 69623))) (cg (cg (dC (.int 104729)) (af 1)) (af 1))) (cg (dC (.int 7919)) (af 1))) (dC (.int 12345))) (au 5))
  (bD (xi (ab (af 3) (ab (uW (af 5) (dOp aC (af 4) (uW (af 1) (dC (.int 8))))) aj))))))))))
def mR : DTS :=
  (aJ (dy (dB (dOp rGt (dOp aC (af 0) (dC (.int 0))) (dC (.int 0)))) (aJ (bC (uW (dOp aC (af 0) (dC (.int 0))) (af 1)) (au 2))
  (aJ (bC (xY (dOp aC (af 0) (dC (.int 0))) (af 1)) (GZ (af 0) (dC (.int 0))))
  (bD (af 2)))) bU)
  (aJ (bC (uW (jH (cg (dOp aC (af 0) (dC (.int 1))) (dC (.int 48271))) (dC (.int 2531011))) (dC (.int 2147483647))) (GZ (af 0) (dC (.int 1))))
  (bD (uW (xY (uW (wF (dOp aC (af 0) (dC (.int 1))) (dC (.int 3))) (dC (.int 2147483629))) (dC (.int 64))) (af 1)))))
section
variable {μ : Mu} {Qd : DK} {ds : List D}
theorem wo {α : Type} {xs : List α} {i : Int} (h0 : 0 ≤ i) (h : i < (xs.length : Nat)) : ∃ d, atI xs i = some d ∧ d ∈ xs := by
  have hj : i.toNat < xs.length := by omega
  have e := jG (xs := xs) (j := i.toNat) (v := xs[i.toNat]) (by simp [hj])
  rw [show ((i.toNat : Nat) : Int) = i by omega] at e
  exact ⟨_, e, List.getElem_mem _⟩
theorem i6 (x : Int) {y : Int} (h : 0 < y) : 0 ≤ x.fmod y ∧ x.fmod y < y := ⟨Int.fmod_nonneg_of_pos x h, Int.fmod_lt_of_pos x h⟩
theorem K5 {x y : Int} (hx : 0 ≤ x) (hy : 0 < y) : 0 ≤ x.fdiv y := by rw [Int.fdiv_eq_ediv_of_nonneg _ (by omega)]; exact Int.ediv_nonneg hx (by omega)
def qd : List PyData := [.int 2147483647, .int 2147483629, .int 2147483587, .int 2147483579, .int 2147483563, .int 2147483549, .int 2147483543, .int 2147483497]
theorem DM (h : GU ds μ Qd) : oH { nx := fun _ μ' => Qd (.v .none) μ', rt := Qd } (aK ["_law_script", "_law_at", "_law_cell", "_law_great", "_law_primes", "_law_mixed"] ds) μ := by
  obtain ⟨ns, k, rfl, h0, h1, q⟩ := h
  unfold oH
  have hp : ∃ pr : Int, atI qd (k.fmod 8) = some (.int pr) ∧ 0 < pr ∧ pr < 2147483648 := by
    obtain ⟨h2, h3⟩ := i6 k (show (0 : Int) < 8 by decide)
    obtain ⟨p, e, hm⟩ := wo (xs := qd) h2 (by exact h3)
    simp only [qd, List.mem_cons, List.not_mem_nil, or_false] at hm
    rcases hm with rfl | rfl | rfl | rfl | rfl | rfl | rfl | rfl <;> exact ⟨_, e, by decide, by decide⟩
  obtain ⟨pr, hpe, hp0, hp1⟩ := hp
  unfold qd at hpe
  walk_at "rd"
  rw [hpe]
  walk_at "rd"
  have c1 : Hj 10 18 := ⟨by decide, by decide, by decide⟩
  have z1 : (2147483647 : Int) ≠ 0 := by decide
  have z2 : (8 : Int) ≠ 0 := by decide
  have m1 : ∀ i : Int, MulOk i 69623 := fun i => mulR (by decide)
  have m2 : MulOk 104729 k := mulL (by decide)
  have m3 : MulOk (104729 * k) k := mulR (by omega)
  have m4 : MulOk 7919 k := mulL (by decide)
  have z3 : pr ≠ 0 := by omega
  have fin : ∀ G x : Int, 0 ≤ G → ∀ p, μ p = none → Qd (.m p) (aV μ p [.int G, .int (x.fmod pr)]) := fun G x hG p hp => by
    obtain ⟨h2, h3⟩ := i6 x hp0
    exact q p _ hp (Step.set hG h2 (by omega))
  by_cases hk : k < (ns.length : Nat)
  · rw [if_pos (by simpa using hk)]
    obtain ⟨c, hc, _⟩ := wo h0 hk
    rw [hc]
    walk_at "rd"
    refine ⟨c1, ?_⟩
    split
    · exact ⟨z1, m1 _, m2, m3, m4, z2, z3, fin _ _ (by omega)⟩
    · exact ⟨z1, m1 _, m2, m3, m4, z2, z3, fin _ _ (by omega)⟩
  · rw [if_neg (by simpa using hk)]
    refine ⟨c1, ?_⟩
    split
    · exact ⟨z1, m1 _, m2, m3, m4, z2, z3, fin _ _ (by omega)⟩
    · exact ⟨z1, m1 _, m2, m3, m4, z2, z3, fin _ _ (by omega)⟩
theorem Aw (h : cj ds μ Qd) : mR { nx := fun _ μ' => Qd (.v .none) μ', rt := Qd } (aK ["_law_bag_here", "_law_many", "_law_digit"] ds) μ := by
  obtain ⟨a, n, rfl, h0, h1, ⟨g, m, hb, hg, hm, hm'⟩, q⟩ := h
  unfold mR
  walk_at "rd"
  rw [hb]
  walk_at "rd"
  rw [hb]
  walk_at "rd"
  have n0 : n ≠ 0 := by omega
  have i0 : ixN 2 0 = some 0 := by rfl
  have i1 : ixN 2 1 = some 1 := by rfl
  by_cases hg0 : 0 < g
  · rw [if_pos (by simpa using hg0)]
    simp only [hb]
    walk_at "rd"
    obtain ⟨r0, r1⟩ := i6 g (show 0 < n by omega)
    refine ⟨n0, ?_⟩
    simp only [hb]
    walk_at "rd"
    refine ⟨divC n0 (by omega), ?_⟩
    simp only [hb, List.length_cons, List.length_nil, Nat.reduceAdd, i0, List.set_cons_zero]
    exact q _ _ r0 r1 (Step.set (K5 hg (by omega)) hm hm')
  · rw [if_neg (by simpa using hg0)]
    simp only [hb, i1, bB]
    walk_at "rd"
    obtain ⟨s0, s1⟩ := i6 (m * 48271 + 2531011) (show (0 : Int) < 2147483647 by decide)
    generalize (m * 48271 + 2531011).fmod 2147483647 = w at s0 s1 ⊢
    obtain ⟨r0, r1⟩ := i6 ((((w ^ Int.toNat 3).fmod 2147483629).fdiv 64)) (show 0 < n by omega)
    refine ⟨mulL (by omega), by decide, ?_⟩
    refine ⟨⟨by decide, by decide, by omega⟩, (by show (2147483629 : Int) ≠ 0; decide), divC (by decide) (by decide), n0, ?_⟩
    exact q _ _ r0 r1 (Step.set hg s0 (by omega))
end
open PySem PySem.Spec PyProof.Rows NM
section
variable {μ : Mu} {Qd : DK} {ds : List D}
end
open PySem PySem.Spec PyProof.Rows NM
def nj : DTS :=
  (aJ (dy (BR (mr (dB (FK "tuple" (af 0)))) (dB (dOp (d6 true) (dCB i7 (ab (af 0) aj)) (dC (.int 3))))) (bD (dC (.bool false))) bU)
  (aJ (bC (af 0) (qL 3 (eh (au 1) (eh (au 2) (eh (au 3) sZ)))))
  (aJ (dy (BR (mr (dB (ao pY (ab (af 1) aj)))) (BR (mr (dB (ao pY (ab (af 2) aj)))) (mr (dB (ao pY (ab (af 3) aj)))))) (bD (dC (.bool false))) bU)
  (bD (vp (dOp rGe (af 3) (dC (.int 1))) (dOp (d6 false) (ao w8 (ab (af 1) (ab (af 2) (ab (af 3) aj)))) (dC (.int 1))))))))
section
variable {μ : Mu} {Qd : DK} {ds : List D}
def G6 (i : Int) : Bool := decide (2 ≤ i) && decide (i ≤ 30) && !(decide (i = 4) || decide (i = 9) || decide (i = 16) || decide (i = 25))
theorem lI (d : PyData) : (∃ i, d = .int i ∧ isWhole d = true) ∨ ((∀ i, d ≠ .int i) ∧ isWhole d = false) := by
  cases d <;> first | exact .inl ⟨_, rfl, rfl⟩ | exact .inr ⟨fun _ z => (by cases z), rfl⟩
theorem GO (d : PyData) : (∃ xs, d = .tuple xs ∧ isT "tuple" d = true) ∨ ((∀ xs, d ≠ .tuple xs) ∧ isT "tuple" d = false) := by
  cases d <;> first | exact .inl ⟨_, rfl, rfl⟩ | exact .inr ⟨fun _ z => (by cases z), rfl⟩
theorem HF {d : PyData} (h : ∀ xs, d ≠ .tuple xs) : isNum d = false := by cases d <;> first | rfl | exact absurd rfl (h _)
theorem HE {xs : List PyData} (h : xs.length ≠ 3) : isNum (.tuple xs) = false := by
  unfold isNum
  split
  · rename_i e; cases e; exact absurd rfl h
  · rfl
theorem three {α : Type} {xs : List α} (h : xs.length = 3) : ∃ a b c, xs = [a, b, c] := by
  match xs, h with
  | [a, b, c], _ => exact ⟨a, b, c, rfl⟩
theorem Ak (h : A7 ds μ Qd) : nj { nx := fun _ μ' => Qd (.v .none) μ', rt := Qd } (aK ["thing", "a", "b", "c"] ds) μ := by
  obtain ⟨d, rfl, _, q⟩ := h
  unfold nj
  walk_at "rd"
  rcases GO d with ⟨xs, rfl, e⟩ | ⟨hn, e⟩
  · rw [e]
    walk_at "rd"
    by_cases hl : xs.length = 3
    · obtain ⟨a, b, c, rfl⟩ := three hl
      have e3 : decide ((([a, b, c].length : Nat) : Int) = 3) = true := rfl
      have e3' : [a, b, c].length = 3 := rfl
      simp only [e3, Bool.xor_self, Bool.false_eq_true, ↓reduceIte]
      refine ⟨rfl, ?_⟩
      walk_at "rd"
      refine ⟨a, rfl, ?_⟩
      rcases lI a with ⟨i, rfl, e⟩ | ⟨hn, e⟩
      · rw [e]
        walk_at "rd"
        refine ⟨b, rfl, ?_⟩
        rcases lI b with ⟨j, rfl, e⟩ | ⟨hn, e⟩
        · rw [e]
          walk_at "rd"
          refine ⟨c, rfl, ?_⟩
          rcases lI c with ⟨k, rfl, e⟩ | ⟨hn, e⟩
          · rw [e]
            walk_at "rd"
            have q' : Qd (.v (.bool (decide (1 ≤ k) && (g3 i j k == 1)))) μ := q
            by_cases hk : 1 ≤ k
            · rw [if_pos (by simpa using hk)]
              refine ⟨i, j, k, rfl, ?_⟩
              walk_at "rd"
              have ee : decide (((g3 i j k : Nat) : Int) = 1) = (decide (1 ≤ k) && (g3 i j k == 1)) := by
                rw [decide_eq_true hk, Bool.true_and, Bool.eq_iff_iff]; simp; omega
              rw [ee]
              exact q'
            · rw [if_neg (by simpa using hk)]
              rw [decide_eq_false hk] at q'
              exact q'
          · rw [e]
            walk_at "rd"
            have : isNum (.tuple [.int i, .int j, c]) = false := by cases c <;> first | rfl | exact absurd rfl (hn _)
            rw [this] at q
            exact q
        · rw [e]
          walk_at "rd"
          have : isNum (.tuple [.int i, b, c]) = false := by cases b <;> first | rfl | exact absurd rfl (hn _)
          rw [this] at q
          exact q
      · rw [e]
        walk_at "rd"
        have : isNum (.tuple [a, b, c]) = false := by cases a <;> first | rfl | exact absurd rfl (hn _)
        rw [this] at q
        exact q
    · rw [HE hl] at q
      have : decide (((xs.length : Nat) : Int) = 3) = false := by simp; omega
      rw [this]
      simp only [Bool.xor_false, ↓reduceIte]
      exact q
  · rw [e]
    rw [HF hn] at q
    walk_at "rd"
    exact q
end
open PySem PySem.Spec PyProof.Rows NM
def kf : DTS :=
  (aJ (bC (dOp aC (oq (ab (dC (.int 4)) (ab (dC (.int 10)) (ab (dC (.int 100)) (ab (dC (.int 1000000)) aj))))) (ao cj (ab (af 0) (ab (dC (.int 4)) aj)))) (au 1))
  (aJ (BU 2 3 (ab (nA (ao cj (ab (af 0) (ab (af 1) aj))) (xY (af 1) (dC (.int 2)))) (ab (nA (ao cj (ab (af 0) (ab (af 1) aj))) (xY (af 1) (dC (.int 2)))) aj)))
  (aJ (bC (jH (dC (.int 1)) (ao cj (ab (af 0) (ab (nA (af 1) (dC (.int 1))) aj)))) (au 4))
  (aJ (bC (ao cj (ab (af 0) (ab (dC (.int 8)) aj))) (au 5))
  (bD (ao cG (ab (dOp aC (oq (ab (af 2) (ab (af 2) (ab (af 2) (ab (af 2) (ab (af 2) (ab (af 2) (ab (af 2) (ab (dC (.int 0)) aj))))))))) (af 5)) (ab (dOp aC (oq (ab (af 3) (ab (af 3) (ab (af 3) (ab (af 3) (ab (af 3) (ab (dC (.int 0)) (ab (dC (.int 0)) (ab (af 3) aj))))))))) (af 5)) (ab (dOp aC (oq (ab (af 4) (ab (af 4) (ab (dC (.int 1)) (ab (af 4) (ab (dC (.int 1)) (ab (af 4) (ab (dC (.int 1)) (ab (af 4) aj))))))))) (af 5)) aj)))))))))
section
variable {μ : Mu} {Qd : DK} {ds : List D}
theorem pick {P : PyData → Prop} {xs : List PyData} {i : Int} (h0 : 0 ≤ i) (h1 : i < (xs.length : Nat)) (h : ∀ x ∈ xs, P x) : ∃ d, atI xs i = some d ∧ P d := let ⟨d, e, m⟩ := wo h0 h1; ⟨d, e, h d m⟩
theorem Step.refl {a : Addr} (h : Bag μ a) : Step a μ μ := ⟨h, fun _ _ => rfl⟩
theorem Cf {i : Int} (h1 : -1048576 < i) (h2 : i < 1048576) : Sz 20 i := Sz.of (by show i.natAbs < 1048576; omega)
theorem xC (h : pT ds μ Qd) : kf { nx := fun _ μ' => Qd (.v .none) μ', rt := Qd } (aK ["_law_bag_here", "_law_wide", "_law_a", "_law_b", "_law_c", "_law_way"] ds) μ := by
  obtain ⟨a, rfl, hb, q⟩ := h
  unfold kf
  walk_at "rd"
  refine ⟨a, 4, rfl, by decide, by decide, hb, fun r0 μ1 h0 h1 s1 => ?_⟩
  walk_at "rd"
  obtain ⟨w, e, i, rfl, w0, w1⟩ := pick (P := fun d => ∃ i : Int, d = .int i ∧ 4 ≤ i ∧ i ≤ 1000000) (xs := [PyData.int 4, PyData.int 10, PyData.int 100, PyData.int 1000000]) h0 (by exact h1) (by
    intro x hx
    simp only [List.mem_cons, List.not_mem_nil, or_false] at hx
    rcases hx with rfl | rfl | rfl | rfl <;> exact ⟨_, rfl, by decide, by decide⟩)
  rw [e]
  walk_at "rd"
  refine ⟨a, i, rfl, by omega, by omega, s1.1, fun r1 μ2 h2 h3 s2 => ?_⟩
  walk_at "rd"
  refine ⟨divC (by decide) (by decide), a, i, rfl, by omega, by omega, s2.1, fun r2 μ3 h4 h5 s3 => ?_⟩
  walk_at "rd"
  refine ⟨divC (by decide) (by decide), a, i - 1, rfl, by omega, by omega, s3.1, fun r3 μ4 h6 h7 s4 => ?_⟩
  walk_at "rd"
  refine ⟨a, 8, rfl, by decide, by decide, s4.1, fun r4 μ5 h8 h9 s5 => ?_⟩
  walk_at "rd"
  have ef : i.fdiv 2 = i / 2 := Int.fdiv_eq_ediv_of_nonneg _ (by omega)
  rw [ef]
  have za : Sz 20 (r1 - i / 2) := Cf (by omega) (by omega)
  have zb : Sz 20 (r2 - i / 2) := Cf (by omega) (by omega)
  have zc : Sz 20 (1 + r3) := Cf (by omega) (by omega)
  have z0 : Sz 20 0 := Cf (by omega) (by omega)
  have z1 : Sz 20 1 := Cf (by omega) (by omega)
  obtain ⟨d1, e1, i1, rfl, b1⟩ := pick (P := fun d => ∃ i : Int, d = .int i ∧ Sz 20 i) (xs := [PyData.int (r1 - i / 2), PyData.int (r1 - i / 2), PyData.int (r1 - i / 2), PyData.int (r1 - i / 2), PyData.int (r1 - i / 2), PyData.int (r1 - i / 2), PyData.int (r1 - i / 2), PyData.int 0]) h8 (by exact h9) (by
    intro x hx
    simp only [List.mem_cons, List.not_mem_nil, or_false] at hx
    rcases hx with rfl | rfl | rfl | rfl | rfl | rfl | rfl | rfl <;> exact ⟨_, rfl, by assumption⟩)
  rw [e1]
  walk_at "rd"
  obtain ⟨d2, e2, i2, rfl, b2⟩ := pick (P := fun d => ∃ i : Int, d = .int i ∧ Sz 20 i) (xs := [PyData.int (r2 - i / 2), PyData.int (r2 - i / 2), PyData.int (r2 - i / 2), PyData.int (r2 - i / 2), PyData.int (r2 - i / 2), PyData.int 0, PyData.int 0, PyData.int (r2 - i / 2)]) h8 (by exact h9) (by
    intro x hx
    simp only [List.mem_cons, List.not_mem_nil, or_false] at hx
    rcases hx with rfl | rfl | rfl | rfl | rfl | rfl | rfl | rfl <;> exact ⟨_, rfl, by assumption⟩)
  rw [e2]
  walk_at "rd"
  obtain ⟨d3, e3, i3, rfl, b3, p3⟩ := pick (P := fun d => ∃ i : Int, d = .int i ∧ Sz 20 i ∧ 0 < i) (xs := [PyData.int (1 + r3), PyData.int (1 + r3), PyData.int 1, PyData.int (1 + r3), PyData.int 1, PyData.int (1 + r3), PyData.int 1, PyData.int (1 + r3)]) h8 (by exact h9) (by
    intro x hx
    simp only [List.mem_cons, List.not_mem_nil, or_false] at hx
    rcases hx with rfl | rfl | rfl | rfl | rfl | rfl | rfl | rfl <;> exact ⟨_, rfl, by assumption, by omega⟩)
  rw [e3]
  walk_at "rd"
  have n3 : i3 ≠ 0 := by omega
  exact ⟨i1, i2, i3, rfl, n3, b3.mono (by decide), q _ _ (fX _ _ n3) (ji n3 b1 b2 b3) (s1.trans (s2.trans (s3.trans (s4.trans s5))))⟩
end
open PySem PySem.Spec PyProof.Rows NM
def nc : DTS :=
  (aJ (dy (dB (dOp (d6 false) (ao cj (ab (af 0) (ab (dC (.int 2)) aj))) (dC (.int 0)))) (bD (dOp aC (oq (ab (dC (.int 2)) (ab (dC (.int 3)) (ab (dC (.int 5)) aj)))) (ao cj (ab (af 0) (ab (dC (.int 3)) aj))))) bU)
  (aJ (bC (rz [none] (wN (ab (dC (.int 2)) (ab (dC (.int 31)) aj))) (au 0) (dB (dOp (HG true) (af 0) (oq (ab (dC (.int 4)) (ab (dC (.int 9)) (ab (dC (.int 16)) (ab (dC (.int 25)) aj))))))) (af 0)) (au 1))
  (bD (dOp aC (af 1) (ao cj (ab (af 0) (ab (dC (.int 25)) aj)))))))
def lz : DTS :=
  (aJ (bC (ao pT (ab (af 0) aj)) (au 2))
  (aJ (bC (ao fc (ab (af 1) (ab (af 2) aj))) (au 3))
  (aJ (dy (dB (dOp (d6 false) (af 3) (dC (.int 0)))) (bD (cL (ab (jH (dC (.int 1)) (ao cj (ab (af 0) (ab (dC (.int 5)) aj)))) (ab (dC (.int 0)) (ab (dC (.int 1)) aj))))) bU)
  (bD (dIf (dB (dOp rGt (af 3) (dC (.int 0)))) (af 2) (ao qf (ab (af 2) aj)))))))
section
variable {μ : Mu} {Qd : DK} {ds : List D}
theorem LC {lo : Int} {n : Nat} {x : PyData} (h : x ∈ oT lo n) : ∃ i : Int, x = .int i ∧ lo ≤ i ∧ i < lo + n := by
  unfold oT at h
  obtain ⟨k, hk, rfl⟩ := List.mem_map.mp h
  have := List.mem_range.mp hk
  exact ⟨_, rfl, by omega, by omega⟩
def Dk : PyData → Option PyData
  | .int i => if G6 i then some (.int i) else none
  | _ => none
def AW : List PyData := [2, 3, 5, 6, 7, 8, 10, 11, 12, 13, 14, 15, 17, 18, 19, 20, 21, 22, 23, 24, 26, 27, 28, 29, 30].map PyData.int
theorem in4 (i : Int) : (List.any [PyData.int 4, PyData.int 9, PyData.int 16, PyData.int 25] fun b => PyData.eqv b (.int i)) = (decide (i = 4) || decide (i = 9) || decide (i = 16) || decide (i = 25)) := by
  have ev : ∀ j : Int, PyData.eqv (.int j) (.int i) = decide (i = j) := fun j => by rw [Qa]; simp [eq_comm]
  simp only [List.any_cons, List.any_nil, ev, Bool.or_false, Bool.or_assoc]
theorem BY (h : wt ds μ Qd) : nc { nx := fun _ μ' => Qd (.v .none) μ', rt := Qd } (aK ["_law_bag_here", "_law_some"] ds) μ := by
  obtain ⟨a, rfl, hb, q⟩ := h
  unfold nc
  walk_at "rd"
  refine ⟨a, 2, rfl, by decide, by decide, hb, fun r0 μ1 h0 h1 s1 => ?_⟩
  walk_at "rd"
  by_cases hr : r0 = 0
  · rw [if_pos (by simpa using hr)]
    refine ⟨a, 3, rfl, by decide, by decide, s1.1, fun r1 μ2 h2 h3 s2 => ?_⟩
    walk_at "rd"
    obtain ⟨w, e, i, rfl, w0⟩ := pick (P := fun d => ∃ i : Int, d = .int i ∧ aw i) (xs := [PyData.int 2, PyData.int 3, PyData.int 5]) h2 (by exact h3) (by
      intro x hx
      simp only [List.mem_cons, List.not_mem_nil, or_false] at hx
      rcases hx with rfl | rfl | rfl <;> exact ⟨_, rfl, by unfold aw; omega⟩)
    rw [e]
    exact q _ _ w0 (s1.trans s2)
  · rw [if_neg (by simpa using hr)]
    refine ⟨⟨by decide, by decide, by decide, by decide⟩, by decide, fun p hp => ⟨fun i acc μ' => acc = ((oT 2 29).take i).filterMap Dk ∧ μ' = aV μ1 p acc, ⟨rfl, rfl⟩, ?_, ?_⟩⟩
    · rintro i x acc μ' hx hpa ⟨e0, e1⟩
      obtain ⟨k, rfl, i0, i1⟩ := LC (List.mem_of_getElem? hx)
      refine ⟨trivial, rfl, rfl, by show 0 ≤ 60; decide, ?_⟩
      rw [in4]
      have i1' : k < 31 := by simpa using i1
      have e : Dk (.int k) = if G6 k then some (.int k) else none := rfl
      have e2 : G6 k = !(decide (k = 4) || decide (k = 9) || decide (k = 16) || decide (k = 25)) := by
        unfold G6
        rw [decide_eq_true i0, decide_eq_true (show k ≤ 30 by omega)]
        rfl
      have ft : ((oT 2 29).take (i + 1)).filterMap Dk = ((oT 2 29).take i).filterMap Dk ++ (Dk (.int k)).toList := Nd hx
      rw [e, e2] at ft
      cases hh : (decide (k = 4) || decide (k = 9) || decide (k = 16) || decide (k = 25))
      · rw [hh] at ft
        simp only [Bool.true_xor, Bool.not_false, ↓reduceIte] at ft ⊢
        refine ⟨hpa, ?_, ?_⟩
        · rw [ft, e0]; rfl
        · rw [e1, uI]
      · rw [hh] at ft
        simp only [Bool.true_xor, Bool.not_true, ↓reduceIte, Bool.false_eq_true] at ft ⊢
        refine ⟨hpa, ?_, e1⟩
        rw [ft, e0]; simp
    rintro acc μ' ⟨e0, e1⟩ _
    have ed : iA μ' p = μ1 := by rw [e1]; exact zy hp
    rw [ed]
    have e0' : acc = AW := by rw [e0]; rfl
    rw [e0']
    refine ⟨a, 25, rfl, by decide, by decide, s1.1, fun r1 μ2 h2 h3 s2 => ?_⟩
    walk_at "rd"
    obtain ⟨w, e, i, rfl, w0⟩ := pick (P := fun d => ∃ i : Int, d = .int i ∧ aw i) (xs := AW) h2 (by exact h3) (by
      intro x hx
      unfold AW at hx
      obtain ⟨k, hk, rfl⟩ := List.mem_map.mp hx
      refine ⟨_, rfl, ?_⟩
      simp only [List.mem_cons, List.not_mem_nil, or_false] at hk
      unfold aw
      omega)
    rw [e]
    exact q _ _ w0 (s1.trans s2)
def Gm : List PyData := [.none, .bool true, .bool false, .str "1", .str "", .int (-1), .int 0, .int 1, .int (10 ^ Int.toNat 59), .tuple [], .list [], .list [.int 0], .tuple [.int 0, .int 0], .tuple [.int 1, .int 0, .int 0], .tuple [.int 2, .int 0, .int 2], .tuple [.int 1, .bool true, .int 1], .tuple [.int 1, .int 1, .int (-1)], .list [.int 1, .int 0, .int 1], .tuple [.int 1, .int 0], .str "a"]
def kd : DSp := fun ds μ Q => ∃ (a : Addr) (d : Int), ds = [.m a, .v (.int d)] ∧ aw d ∧ Bag μ a ∧ ∀ x μ', Ok x → Bd 20 x → sg d x.a x.b = 1 → Step a μ μ' → Q (.v (dN x)) μ'
theorem yX (h : kd ds μ Qd) : lz { nx := fun _ μ' => Qd (.v .none) μ', rt := Qd } (aK ["_law_bag_here", "_law_d", "_law_x", "_law_sign_here"] ds) μ := by
  obtain ⟨a, d, rfl, hd, hb, q⟩ := h
  unfold lz
  walk_at "rd"
  refine ⟨a, rfl, hb, fun x μ1 ox bx s1 => ?_⟩
  walk_at "rd"
  refine ⟨d, x, rfl, hd, bx.mono (by decide), ?_⟩
  walk_at "rd"
  have t := lJ d x.a x.b
  by_cases h0 : sg d x.a x.b = 0
  · rw [if_pos (by simpa using h0)]
    refine ⟨a, 5, rfl, by decide, by decide, s1.1, fun r μ2 r0 r1 s2 => ?_⟩
    walk_at "rd"
    have ok : Ok ⟨1 + r, 0, 1⟩ := ⟨by show (0 : Int) < 1; decide, by unfold g3; simp⟩
    refine q ⟨1 + r, 0, 1⟩ μ2 ok ⟨Cf (by show -1048576 < 1 + r; omega) (by show 1 + r < 1048576; omega), Cf (by show -1048576 < (0 : Int); decide) (by show (0 : Int) < 1048576; decide), Cf (by show -1048576 < (1 : Int); decide) (by show (1 : Int) < 1048576; decide)⟩ ?_ (s1.trans s2)
    show sg d (1 + r) 0 = 1
    unfold sg
    rw [if_neg (by omega), if_pos (by omega)]
  · rw [if_neg (by simpa using h0)]
    by_cases h1 : 0 < sg d x.a x.b
    · rw [if_pos (by simpa using h1)]
      exact q x μ1 ox bx (by omega) s1
    · rw [if_neg (by simpa using h1)]
      refine ⟨x, rfl, ?_⟩
      refine q (minus x) μ1 (lS ox) (sQ bx) ?_ s1
      show sg d (-x.a) (-x.b) = 1
      rw [A2 hd]
      omega
end
open PySem PySem.Spec PyProof.Rows NM
section
variable {μ : Mu} {Q : DK} {ds : List D}
def wQ : DSp := fun ds μ Q => ∃ ns : List Int, ds = [.s ns] ∧ ns.length ≤ 63 ∧ ∀ μ', Q (.v (.bool true)) μ'
theorem CS (h : pY ds μ Q) : ds.length = 1 := by obtain ⟨_, rfl, _⟩ := h; rfl
theorem ze (h : tu ds μ Q) : ds.length = 2 := by obtain ⟨_, _, rfl, _⟩ := h; rfl
theorem EU (h : w8 ds μ Q) : ds.length = 3 := by obtain ⟨_, _, _, rfl, _⟩ := h; rfl
theorem Fu (h : A7 ds μ Q) : ds.length = 1 := by obtain ⟨_, rfl, _⟩ := h; rfl
theorem tG (h : cG ds μ Q) : ds.length = 3 := by obtain ⟨_, _, _, rfl, _⟩ := h; rfl
theorem xI (h : eP ds μ Q) : ds.length = 1 := by obtain ⟨_, rfl, _⟩ := h; rfl
theorem DB (h : qf ds μ Q) : ds.length = 1 := by obtain ⟨_, rfl, _⟩ := h; rfl
theorem xO (h : fh ds μ Q) : ds.length = 2 := by obtain ⟨_, _, rfl, _⟩ := h; rfl
theorem FE (h : xm ds μ Q) : ds.length = 2 := by obtain ⟨_, _, rfl, _⟩ := h; rfl
theorem vo (h : bO ds μ Q) : ds.length = 3 := by obtain ⟨_, _, _, rfl, _⟩ := h; rfl
theorem pQ (h : bI ds μ Q) : ds.length = 2 := by obtain ⟨_, _, rfl, _⟩ := h; rfl
theorem Fs (h : ly ds μ Q) : ds.length = 3 := by obtain ⟨_, _, _, rfl, _⟩ := h; rfl
theorem C3 (h : wk ds μ Q) : ds.length = 3 := by obtain ⟨_, _, _, rfl, _⟩ := h; rfl
theorem wW (h : fc ds μ Q) : ds.length = 2 := by obtain ⟨_, _, rfl, _⟩ := h; rfl
theorem Dt (h : sA ds μ Q) : ds.length = 3 := by obtain ⟨_, _, _, rfl, _⟩ := h; rfl
theorem Hh (h : GU ds μ Q) : ds.length = 2 := by obtain ⟨_, _, rfl, _⟩ := h; rfl
theorem Gf (h : cj ds μ Q) : ds.length = 2 := by obtain ⟨_, _, rfl, _⟩ := h; rfl
theorem yN (h : pT ds μ Q) : ds.length = 1 := by obtain ⟨_, rfl, _⟩ := h; rfl
theorem Ci (h : wt ds μ Q) : ds.length = 1 := by obtain ⟨_, rfl, _⟩ := h; rfl
theorem A3 (h : kd ds μ Q) : ds.length = 2 := by obtain ⟨_, _, rfl, _⟩ := h; rfl
theorem Hv (h : wQ ds μ Q) : ds.length = 1 := by obtain ⟨_, rfl, _⟩ := h; rfl
end
structure Ny (K : PySem.W.Frag) (mg : Str → Option Value) (x : Str) (g : Addr) (a b c : Int) : Prop where
  m : mg x = some (.ref g)
  l : ∃ (od : Option Addr) (n : Nat) (sl : Array (Option Value)) (t u v : Tok), K.lookup g = some ⟨.type "tuple", od, .seq #[.int a t, .int b u, .int c v] n, sl⟩
theorem gj {X : Cx} {x : Str} {g : Addr} {a b c : Int} {pos : Pos} (hg : Gl X x) (h : Ny X.K X.mg x g a b c) (hd : (x == ("__debug__" : Str)) = false := by decide) : DE X (.Name x pos) (dC (.tuple [.int a, .int b, .int c])) := by
  obtain ⟨od, n, sl, t, u, v, e⟩ := h.l
  refine GL (u := .ref g) hg h.m rfl (fun μ H _ => Rp.tuple (xs := [.int a, .int b, .int c]) (.inr ⟨_, _, _, e, rfl, rfl, (by show 3 ≤ sizeLine; decide), .cons ⟨t, rfl⟩ (.cons ⟨u, rfl⟩ (.cons ⟨v, rfl⟩ .nil))⟩) (.cons (.int a) (.cons (.int b) (.cons (.int c) .nil)))) hd
theorem HI {K : PySem.W.Frag} {H : Hp} {a : Addr} {ns : List Int} (hl : ns.length ≤ 63) (hT : CO K H) (hS : SqL K H a (ns.map V.int)) : spD K wQ [.ref a] H (fun v _ => v = .bl true) fun _ _ _ => False := by
  refine ⟨[.s ns], fun _ => none, fun d _ => d = .v (.bool true), ⟨fun a ds h => (by cases h), hT⟩, .cons ⟨a, rfl, hS, rfl⟩ .nil, ⟨ns, rfl, hl, fun _ => rfl⟩, fun d u μ' H' _ _ r q => ?_⟩
  subst q
  cases r
  rfl
open PySem PySem.Spec PyProof.Rows NM
section
variable {μ : Mu} {Q : DK} {ds : List D} {x y : N3}
theorem Mg (a b c : Int) : PyData.tuple [.int a, .int b, .int c] = dN ⟨a, b, c⟩ := rfl
theorem Ki : aC (.v (dN x)) (.v (.int 0)) μ Q = Q (.v (.int x.a)) μ := by unfold dN; rw [Ae]
theorem JS : aC (.v (dN x)) (.v (.int 1)) μ Q = Q (.v (.int x.b)) μ := by unfold dN; rw [BS]
theorem Kc : aC (.v (dN x)) (.v (.int 2)) μ Q = Q (.v (.int x.c)) μ := by unfold dN; rw [B2]
theorem eqN : PyData.eqv (dN x) (dN y) = decide (x = y) := by
  unfold dN
  rw [Pd, Bool.eq_iff_iff]
  simp only [decide_eq_true_eq]
  exact ⟨fun h => N3.ext' h.1 h.2.1 h.2.2, fun h => by subst h; exact ⟨rfl, rfl, rfl⟩⟩
theorem Me {neg : Bool} : d6 neg (.v (dN x)) (.v (dN y)) μ Q = Q (.v (.bool (neg ^^ decide (x = y)))) μ := by
  rw [DJ, eqN]
  exact propext ⟨fun h => h.2.2, fun h => ⟨rfl, rfl, h⟩⟩
theorem Ka (h : Ok x) : isNum (dN x) = true := by
  have := h.c
  show (decide (1 ≤ x.c) && (g3 x.a x.b x.c == 1)) = true
  rw [h.g]
  simp; omega
theorem Ma : Few (dN x) := by simp [dN, Few]
theorem MI {d a b c : Int} (h : aw d) (hc : 0 < c) : sg d (low a b c).a (low a b c).b = sg d a b := by
  obtain ⟨k, hk, hs, p1, p2, p3, _⟩ := i8 a b (show c ≠ 0 by omega)
  have e := mB (a := (low a b c).a) (b := (low a b c).b) h (hs.mpr hc)
  rw [← p1, ← p2] at e
  exact e.symm
theorem wH {d : Int} (h : aw d) (ox : Ok x) (oy : Ok y) : sg d (times d x y).a (times d x y).b = sg d x.a x.b * sg d y.a y.b := by
  unfold times
  rw [MI h (Int.mul_pos ox.c oy.c), BQ h]
theorem KH {d a b : Int} : (sg d a b).natAbs < 2 ^ 64 := by have := lJ d a b; omega
theorem y9 {lo : Int} {n i : Nat} {x : PyData} (h : (oT lo n)[i]? = some x) : x = .int (lo + i) ∧ i < n := by
  unfold oT at h
  rw [List.getElem?_map] at h
  by_cases hi : i < n
  · rw [List.getElem?_range hi] at h
    cases h
    exact ⟨rfl, hi⟩
  · rw [List.getElem?_eq_none (by simpa using hi)] at h
    cases h
theorem oO {lo : Int} {n : Nat} : (oT lo n).length = n := by unfold oT; simp
theorem GK (a : Int) : Ok ⟨a, 0, 1⟩ := ⟨by show (0 : Int) < 1; decide, by unfold g3; simp⟩
end
open PySem PySem.Spec PyProof.Rows NM
local macro_rules | `(tactic| walk_at "rn") => `(tactic| simp only [↓D9, ↓EA, ↓Fm, ↓FA, ↓E8, ↓E9, ↓Ej, ↓Eh, ↓EJ, ↓Fn, ↓Ar, ↓q_c, ↓Oe, ↓q_B, ↓ND, ↓KJ, ↓JM, ↓Ge, ↓J9, ↓ED, ↓FN, ↓Ku, ↓EO, ↓MH, ↓KA, ↓Gd, ↓Kt, ↓JG, ↓Em, ↓JY, ↓Jw, ↓Jf, ↓Jz, ↓JH, ↓GP, ↓Jg, ↓FT, ↓Eu, ↓FR, ↓Ae, ↓BS, ↓B2, ↓Ff, ↓zA, ↓xS, ↓Jb, ↓Kx, ↓Kw, ↓Fz, ↓EX, ↓EV, ↓FF, ↓FZ, ↓N2, ↓wI, ↓FW, ↓Io, ↓Jo, ↓JF, ↓N1, ↓FV, ↓E2, ↓Ee, ↓Ep, ↓Kj, ↓MF, ↓FL, ↓FG, ↓AS, ↓Aq, ↓Iu, ↓JE, ↓IF, ↓Ky, ↓AD, ↓E5, ↓AZ, ↓FU, ↓Gb, ↓IV, ↓JO, ↓E4, ↓Gs, ↓Jj, ↓EY, ↓JR, ↓Ba, ↓EC, ↓Im, ↓JD, ↓Ft, ↓zM, ↓Fh, ↓xN, ↓Bn, ↓xy, ↓wU, ↓Bb, ↓xA, ↓wA, ↓wX, ↓IL, Ha, ↓EH, ↓zZ, Es, EW, KI, IU, Kr, Option.bind_none, Option.bind_some, Option.join_some, List.getElem?_cons_zero, List.getElem?_cons_succ, aK, Mg, Ki, JS, Kc, Me, xf, vy, zj, Dj, G7, List.map, List.append, List.replicate, List.length_cons, List.length_nil, Nat.reduceAdd, Nat.reduceSub, List.nil_append, List.cons_append, List.set_cons_zero, List.set_cons_succ, Option.map_some, ↓reduceIte, Bool.not_true, Bool.not_false, Bool.false_eq_true, Bool.true_eq_false, Bool.xor_false, Bool.false_xor])
def lu (d : Int) : PyData → Bool
  | .tuple [.int a, .int b, .int c] => isNum (.tuple [.int a, .int b, .int c]) && decide (sg d a b = 1)
  | _ => false
def pd : DSp := fun ds μ Q => ∃ (d : Int) (t : PyData), ds = [.v (.int d), .v t] ∧ aw d ∧ Few t ∧ (∀ x, t = dN x → Bd 8900 x) ∧ Q (.v (.bool (lu d t))) μ
theorem BJ {μ : Mu} {Q : DK} {ds : List D} (h : pd ds μ Q) : ds.length = 2 := by obtain ⟨_, _, rfl, _⟩ := h; rfl
def fe : DSp := fun ds μ Q => ∃ (d : Int) (x : N3), ds = [.v (.int d), .v (dN x)] ∧ aw d ∧ Ok x ∧ Bd 8900 x ∧ sg d x.a x.b = 1 ∧ Q (.v .none) μ
theorem v7 {μ : Mu} {Q : DK} {ds : List D} (h : fe ds μ Q) : ds.length = 2 := by obtain ⟨_, _, rfl, _⟩ := h; rfl
def uh : DSp := fun ds μ Q => ∃ (d : Int) (x : N3), ds = [.v (.int d), .v (dN x)] ∧ aw d ∧ Ok x ∧ Bd 450 x ∧ sg d x.a x.b = 1 ∧ Q (.v (dN (aO d x))) μ
theorem C1 {μ : Mu} {Q : DK} {ds : List D} (h : uh ds μ Q) : ds.length = 2 := by obtain ⟨_, _, rfl, _⟩ := h; rfl
def me : DSp := fun ds μ Q => ∃ (d : Int) (x : N3), ds = [.v (.int d), .v (dN x)] ∧ aw d ∧ Ok x ∧ norm d x ≠ 0 ∧ Bd 480 x ∧ Q (.v (dN (aO d x))) μ
theorem AQ {μ : Mu} {Q : DK} {ds : List D} (h : me ds μ Q) : ds.length = 2 := by obtain ⟨_, _, rfl, _⟩ := h; rfl
def n4 (a : Addr) (μ μ' : Mu) : Prop := Bag μ' a ∧ ∀ b, b ≠ a → ∀ ds, μ b = some ds → μ' b = some ds
structure KindsOk (d : Int) (ks : List N3) : Prop where
  l1 : 1 ≤ ks.length
  l3 : ks.length ≤ 3
  ok : ∀ k ∈ ks, Ok k ∧ Bd 60 k ∧ sg d k.a k.b = 1
def sE : DSp := fun ds μ Q => ∃ (a : Addr) (d : Int), ds = [.m a, .v (.int d)] ∧ aw d ∧ Bag μ a ∧ ∀ ks μ', KindsOk d ks → n4 a μ μ' → Q (.v (.tuple (ks.map dN))) μ'
theorem zP {μ : Mu} {Q : DK} {ds : List D} (h : sE ds μ Q) : ds.length = 2 := by obtain ⟨_, _, rfl, _⟩ := h; rfl
structure Fr0 (x : N3) : Prop where
  ok : Ok x
  b : x.b = 0
  a0 : 0 ≤ x.a
  a1 : x.a < 16384
  c1 : x.c < 16384
def mM : DSp := fun ds μ Q => ∃ a : Addr, ds = [.m a] ∧ Bag μ a ∧ ∀ x μ', Fr0 x → 0 < x.a → Step a μ μ' → Q (.v (dN x)) μ'
theorem D4 {μ : Mu} {Q : DK} {ds : List D} (h : mM ds μ Q) : ds.length = 1 := by obtain ⟨_, rfl, _⟩ := h; rfl
def sO : DSp := fun ds μ Q => ∃ (a : Addr) (d : Int) (ks : List N3), ds = [.m a, .v (.int d), .v (.tuple (ks.map dN))] ∧ aw d ∧ KindsOk d ks ∧ Bag μ a ∧ ∀ x μ', Ok x → Bd 230 x → sg d x.a x.b = 1 → Step a μ μ' → Q (.v (dN x)) μ'
theorem Bp {μ : Mu} {Q : DK} {ds : List D} (h : sO ds μ Q) : ds.length = 3 := by obtain ⟨_, _, _, rfl, _⟩ := h; rfl
def gF : DTS :=
  (bD (vp (ao A7 (ab (af 1) aj)) (dOp (d6 false) (ao fc (ab (af 0) (ab (af 1) aj))) (dC (.int 1)))))
def ez : DTS :=
  (dy (mr (dB (ao pd (ab (af 0) (ab (af 1) aj))))) um bU)
def eQ : DTS :=
  (aJ (bC (ao fh (ab (af 1) (ab (ao eP (ab (af 1) aj)) aj))) (au 2))
  (bD (ao bO (ab (af 0) (ab (ao bO (ab (af 0) (ab (af 2) (ab (af 2) aj)))) (ab (ao bI (ab (af 0) (ab (ao bO (ab (af 0) (ab (af 1) (ab (ao eP (ab (af 1) aj)) aj)))) aj))) aj))))))
def lM : DTS :=
  (aJ (bC (xi (ab (ao kd (ab (af 0) (ab (af 1) aj))) aj)) (au 2))
  (aJ (vk (pq (ab (ao cj (ab (af 0) (ab (dC (.int 3)) aj))) aj)) (au 3) (aJ (bC (ao cj (ab (af 0) (ab (dC (.int 6)) aj))) (au 4))
  (aJ (bC (cL (ab (jH (dC (.int 1)) (ao cj (ab (af 0) (ab (dC (.int 9)) aj)))) (ab (dC (.int 0)) (ab (jH (dC (.int 1)) (ao cj (ab (af 0) (ab (dC (.int 9)) aj)))) aj)))) (au 5))
  (aJ (bC (dOp aC (oq (ab (dOp aC (af 2) (dC (.int 0))) (ab (ao bI (ab (af 1) (ab (dOp aC (af 2) (dC (.int 0))) aj))) aj))) (uW (af 4) (dC (.int 2)))) (au 6))
  (aJ (dy (dB (dOp rGt (af 4) (dC (.int 3)))) (bC (ao kd (ab (af 0) (ab (af 1) aj))) (au 6)) (dy (dB (dOp rGt (af 4) (dC (.int 1)))) (bC (ao bO (ab (af 1) (ab (af 6) (ab (ao cG (ab (dOp aC (af 5) (dC (.int 0))) (ab (dOp aC (af 5) (dC (.int 1))) (ab (dOp aC (af 5) (dC (.int 2))) aj)))) aj)))) (au 6)) bU))
  (mx (C2 (af 2) (af 6))))))))
  (bD (dCB kL (ab (af 2) aj)))))
def iL : DTS :=
  (aJ (bC (dOp aC (oq (ab (dC (.int 2)) (ab (dC (.int 9)) (ab (dC (.int 9)) (ab (dC (.int 9999)) aj))))) (ao cj (ab (af 0) (ab (dC (.int 4)) aj)))) (au 1))
  (bD (ao cG (ab (jH (dC (.int 1)) (ao cj (ab (af 0) (ab (af 1) aj)))) (ab (dC (.int 0)) (ab (jH (dC (.int 1)) (ao cj (ab (af 0) (ab (af 1) aj)))) aj))))))
def lr : DTS :=
  (aJ (bC (dOp aC (af 2) (ao cj (ab (af 0) (ab (dCB i7 (ab (af 2) aj)) aj)))) (au 3))
  (aJ (bC (dOp aC (af 2) (ao cj (ab (af 0) (ab (dCB i7 (ab (af 2) aj)) aj)))) (au 4))
  (aJ (BU 5 6 (ab (ao mM (ab (af 0) aj)) (ab (ao mM (ab (af 0) aj)) aj)))
  (aJ (bC (ao cj (ab (af 0) (ab (dC (.int 10)) aj))) (au 7))
  (aJ (bC (ao bI (ab (af 1) (ab (af 3) aj))) (au 8))
  (aJ (bC (oq (ab (ao kd (ab (af 0) (ab (af 1) aj))) (ab (ao bO (ab (af 1) (ab (af 3) (ab (af 5) aj)))) (ab (ao bO (ab (af 1) (ab (af 8) (ab (af 5) aj)))) (ab (ao fh (ab (ao bO (ab (af 1) (ab (af 3) (ab (af 5) aj)))) (ab (ao bO (ab (af 1) (ab (af 8) (ab (af 6) aj)))) aj))) (ab (ao fh (ab (af 3) (ab (ao bO (ab (af 1) (ab (af 4) (ab (af 6) aj)))) aj))) (ab (af 5) (ab (ao bO (ab (af 1) (ab (cL (ab (dC (.int 0)) (ab (dC (.int 1)) (ab (dC (.int 1)) aj)))) (ab (af 5) aj)))) (ab (ao fh (ab (ao bO (ab (af 1) (ab (af 8) (ab (af 5) aj)))) (ab (cL (ab (dC (.int 0)) (ab (dC (.int 1)) (ab (dC (.int 999999)) aj)))) aj))) (ab (ao fh (ab (ao bO (ab (af 1) (ab (af 3) (ab (af 5) aj)))) (ab (ao bO (ab (af 1) (ab (af 6) (ab (cL (ab (dC (.int 1)) (ab (dC (.int 0)) (ab (dC (.int 99999)) aj)))) aj)))) aj))) (ab (ao kd (ab (af 0) (ab (af 1) aj))) aj))))))))))) (au 9))
  (bD (dOp aC (af 9) (af 7)))))))))
def iO : DTS :=
  (aJ (mx (ao fe (ab (af 0) (ab (af 1) aj))))
  (aJ (bC (ao fh (ab (af 1) (ab (ao eP (ab (af 1) aj)) aj))) (au 2))
  (bD (ao ly (ab (af 0) (ab (ao bO (ab (af 0) (ab (af 2) (ab (af 2) aj)))) (ab (ao bO (ab (af 0) (ab (af 1) (ab (ao eP (ab (af 1) aj)) aj)))) aj)))))))
section
variable {μ : Mu} {Qd : DK} {ds : List D}
theorem IP {x y : Int} (h : 0 < x * y) (hy : 0 < y) : 0 < x := by
  rcases Int.lt_trichotomy 0 x with z | z | z
  · exact z
  · rw [← z, Int.zero_mul] at h; omega
  · have := Int.mul_neg_of_neg_of_pos z hy; omega
theorem xV {d : Int} {x : N3} (ox : Ok x) : lu d (dN x) = decide (sg d x.a x.b = 1) := by
  show (isNum (dN x) && decide (sg d x.a x.b = 1)) = _
  rw [Ka ox, Bool.true_and]
theorem xt {d : Int} {t : PyData} (h : isNum t = false) : lu d t = false := by
  unfold lu
  split
  · rw [h, Bool.false_and]
  · rfl
theorem EM {t : PyData} (h : isNum t = true) : ∃ x : N3, t = dN x ∧ Ok x := by
  unfold isNum at h
  split at h
  · rename_i a b c
    simp only [Bool.and_eq_true, decide_eq_true_eq, beq_iff_eq] at h
    exact ⟨⟨a, b, c⟩, rfl, by show 0 < c; omega, h.2⟩
  · cases h
theorem q9 (h : pd ds μ Qd) : gF { nx := fun _ μ' => Qd (.v .none) μ', rt := Qd } (aK ["d", "thing"] ds) μ := by
  obtain ⟨d, t, rfl, hd, ft, bt, q⟩ := h
  unfold gF
  walk_at "rn"
  refine ⟨t, rfl, ft, ?_⟩
  walk_at "rn"
  cases e : isNum t with
  | true =>
    walk_at "rn"
    obtain ⟨x, rfl, ox⟩ := EM e
    refine ⟨d, x, rfl, hd, bt x rfl, ?_⟩
    walk_at "rn"
    rw [xV ox] at q
    exact q
  | false =>
    walk_at "rn"
    rw [xt e] at q
    exact q
theorem mz (h : fe ds μ Qd) : ez { nx := fun _ μ' => Qd (.v .none) μ', rt := Qd } (aK ["d", "thing"] ds) μ := by
  obtain ⟨d, x, rfl, hd, ox, bx, hx, q⟩ := h
  unfold ez
  walk_at "rn"
  refine ⟨d, dN x, rfl, hd, Ma, fun y e => ?_, ?_⟩
  · have : y = x := by
      simp only [dN, PyData.tuple.injEq, List.cons.injEq, PyData.int.injEq, and_true] at e
      exact N3.ext' e.1.symm e.2.1.symm e.2.2.symm
    rw [this]; exact bx
  · walk_at "rn"
    rw [xV ox, hx]
    simp only [decide_true, Bool.not_true, Bool.false_eq_true, ↓reduceIte]
    exact q
theorem uD (h : uh ds μ Qd) : iO { nx := fun _ μ' => Qd (.v .none) μ', rt := Qd } (aK ["d", "shape", "together"] ds) μ := by
  obtain ⟨d, x, rfl, hd, ox, bx, hx, q⟩ := h
  have s5 := jr hd.1 hd.2.1
  have omx := aT ox
  have bmx := fK bx
  have op := bN ox omx
  have bp := iY ox omx bx bmx
  have nx := aN hd ox hx
  have ot := aB (d := d) ox omx
  unfold iO
  walk_at "rn"
  refine ⟨d, x, rfl, hd, ox, bx.mono (by decide), hx, ?_⟩
  walk_at "rn"
  refine ⟨x, rfl, x, bR x, rfl, ox, omx, bx.mono (by decide), bmx.mono (by decide), ?_⟩
  walk_at "rn"
  refine ⟨d, _, _, rfl, s5, op, op, bp.mono (by decide), bp.mono (by decide), ?_⟩
  walk_at "rn"
  have hy : times d x (bR x) ≠ ay := fun e => by
    have := lU hd ox nx
    rw [e] at this
    exact this (by unfold norm ay; simp)
  exact ⟨x, rfl, d, x, bR x, rfl, s5, ox, omx, bx.mono (by decide), bmx.mono (by decide), d, _, _, rfl, hd, aB op op, ot, hy, (bJ s5 op op bp bp).mono (by decide), (bJ s5 ox omx bx bmx).mono (by decide), q⟩
theorem Nh {x y : N3} (e : dN x = dN y) : x = y := by
  simp only [dN, PyData.tuple.injEq, List.cons.injEq, PyData.int.injEq, and_true] at e
  exact N3.ext' e.1 e.2.1 e.2.2
theorem Cw {n : Nat} {d : Int} {x : N3} (s5 : Sz 5 d) (hd : aw d) (ox : Ok x) (nx : norm d x ≠ 0) (bx : Bd n x) : Bd ((n + n + 1) + (n + n + 1) + 6 + (2 * (n + n + 6) + 6) + 6) (aO d x) := by
  have omx := aT ox
  have bmx := fK bx
  have op := bN ox omx
  have bp := iY ox omx bx bmx
  have np := lU hd ox nx
  exact bJ s5 (aB op op) (aE np) (bJ s5 op op bp bp) (bS s5 np (bJ s5 ox omx bx bmx))
def Qu (d : Int) (t : PyData) : Prop := Few t ∧ (∀ x, t = dN x → Bd 8900 x) ∧ lu d t = false
theorem Px {d : Int} {t : PyData} (h : t ∈ Gm) : Qu d t := by
  unfold Gm at h
  simp only [List.mem_cons, List.not_mem_nil, or_false] at h
  rcases h with rfl | rfl | rfl | rfl | rfl | rfl | rfl | rfl | rfl | rfl | rfl | rfl | rfl | rfl | rfl | rfl | rfl | rfl | rfl | rfl
  all_goals
    refine ⟨by simp [Few], ?_, by first | rfl | exact xt (by decide +kernel)⟩
    (intro x e
     simp only [dN, PyData.tuple.injEq, List.cons.injEq, PyData.int.injEq, and_true, reduceCtorEq, false_and, and_false, List.nil_eq] at e
     try (obtain ⟨e1, e2, e3⟩ := e
          exact ⟨Sz.of (by rw [← e1]; decide +kernel), Sz.of (by rw [← e2]; decide +kernel), Sz.of (by rw [← e3]; decide +kernel)⟩))
theorem n4.trans {a : Addr} {μ μ1 μ2 : Mu} (h : n4 a μ μ1) (g : n4 a μ1 μ2) : n4 a μ μ2 := ⟨g.1, fun b n ds e => g.2 b n ds (h.2 b n ds e)⟩
theorem Step.w {a : Addr} {μ μ' : Mu} (h : Step a μ μ') : n4 a μ μ' := ⟨h.1, fun b n ds e => by rw [h.2 b n]; exact e⟩
theorem oB (h : me ds μ Qd) : eQ { nx := fun _ μ' => Qd (.v .none) μ', rt := Qd } (aK ["_law_d", "_law_shape_here", "_law_both"] ds) μ := by
  obtain ⟨d, x, rfl, hd, ox, nx, bx, q⟩ := h
  have s5 := jr hd.1 hd.2.1
  have omx := aT ox
  have bmx := fK bx
  have op := bN ox omx
  have bp := iY ox omx bx bmx
  have ot := aB (d := d) ox omx
  have bt := bJ s5 ox omx bx bmx
  have np := lU hd ox nx
  unfold eQ
  walk_at "rn"
  refine ⟨x, rfl, x, bR x, rfl, ox, omx, bx.mono (by decide), bmx.mono (by decide), ?_⟩
  walk_at "rn"
  refine ⟨d, _, _, rfl, s5, op, op, bp.mono (by decide), bp.mono (by decide), ?_⟩
  walk_at "rn"
  exact ⟨x, rfl, d, x, bR x, rfl, s5, ox, omx, bx.mono (by decide), bmx.mono (by decide), d, _, rfl, s5, np, bt.mono (by decide), d, _, _, rfl, s5, aB op op, aE np, (bJ s5 op op bp bp).mono (by decide), (bS s5 np bt).mono (by decide), q⟩
def CI (a p : Addr) (d : Int) (x : N3) (μ : Mu) (i : Nat) (ρ : Rho) (μ' : Mu) : Prop := ∃ (ks : List N3) (r3 r4 r5 r6 : Option D), ρ = [some (.m a), some (.v (.int d)), some (.m p), r3, r4, r5, r6] ∧ Bag μ' a ∧ (∀ b, b ≠ a → ∀ ds, μ b = some ds → μ' b = some ds) ∧ μ' p = some ((x :: ks).map dN) ∧ ks.length = i ∧ (∀ k ∈ x :: ks, Ok k ∧ Bd 60 k ∧ sg d k.a k.b = 1)
theorem yF (h : sE ds μ Qd) : lM { nx := fun _ μ' => Qd (.v .none) μ', rt := Qd } (aK ["_law_bag_here", "_law_d", "_law_found", "_law_turn", "_law_way", "_law_part", "_law_kind"] ds) μ := by
  obtain ⟨a, d, rfl, hd, hb, q⟩ := h
  have s5 := jr hd.1 hd.2.1
  unfold lM
  walk_at "rn"
  refine ⟨a, d, rfl, hd, hb, fun x μ1 ox bx sx s1 => ?_⟩
  walk_at "rn"
  intro p hp
  have hap : a ≠ p := fun z => by obtain ⟨g, m, e, _⟩ := s1.1; rw [z, hp] at e; cases e
  have sb : Bag (aV μ1 p [dN x]) a := by obtain ⟨g, m, e, z⟩ := s1.1; exact ⟨g, m, by rw [bL hap]; exact e, z⟩
  rw [sV]
  walk_at "rn"
  refine ⟨a, 3, rfl, by decide, by decide, sb, fun n μ2 n0 n1 s2 => ?_⟩
  walk_at "rn"
  have keep2 : ∀ b, b ≠ a → ∀ ds, μ b = some ds → μ2 b = some ds := fun b hb' ds e => by
    have e1 := (s1.2 b hb').trans e
    have : b ≠ p := fun z => by rw [z, hp] at e1; cases e1
    rw [s2.2 b hb', bL this]; exact e1
  have hp2 : μ2 p = some ([x].map dN) := by rw [s2.2 p (fun z => hap z.symm)]; exact bB
  refine ⟨⟨by omega, by omega⟩, CI a p d x μ, ⟨[], _, _, _, _, rfl, s2.1, keep2, hp2, rfl, fun k hk => by rw [List.mem_singleton.mp hk]; exact ⟨ox, bx.mono (by decide), sx⟩⟩, ?_, ?_⟩
  · rintro i v ρ μ3 hv ⟨ks, r3, r4, r5, r6, rfl, hb3, kp, hpk, hl, hok⟩
    obtain ⟨rfl, hi⟩ := y9 hv
    have hi2 : i < 2 := by omega
    walk_at "rn"
    refine ⟨a, 6, rfl, by decide, by decide, hb3, fun way μ4 w0 w1 s4 => ?_⟩
    walk_at "rn"
    refine ⟨a, 9, rfl, by decide, by decide, s4.1, fun t μ5 t0 t1 s5' => ?_⟩
    walk_at "rn"
    refine ⟨a, 9, rfl, by decide, by decide, s5'.1, fun u μ6 u0 u1 s6 => ?_⟩
    walk_at "rn"
    have s46 := s4.trans (s5'.trans s6)
    have hp6 : μ6 p = some (dN x :: ks.map dN) := by rw [s46.2 p (fun z => hap z.symm)]; exact hpk
    simp only [hp6]
    walk_at "rn"
    have nx := aN hd ox sx
    have ocx := aE nx
    have bcx := bS s5 nx bx
    refine ⟨d, x, rfl, s5, nx, bx.mono (by decide), ?_⟩
    walk_at "rn"
    obtain ⟨m0, m1⟩ := i6 way (show (0 : Int) < 2 by decide)
    obtain ⟨_, e1, k1, rfl, ok1, bk1, sk1⟩ := pick (P := fun v => ∃ k, v = dN k ∧ Ok k ∧ Bd 46 k ∧ sg d k.a k.b = 1) (xs := [dN x, dN (ar d x)]) m0 (by exact m1) (by
      intro v hv
      simp only [List.mem_cons, List.not_mem_nil, or_false] at hv
      rcases hv with rfl | rfl
      · exact ⟨_, rfl, ox, bx.mono (by decide), sx⟩
      · exact ⟨_, rfl, ocx, bcx.mono (by decide), dW hd ox sx⟩)
    rw [e1]
    refine ⟨by decide, ?_⟩
    walk_at "rn"
    have fin : ∀ (μ7 : Mu) (k : N3) (r3 r4 r5 : Option D), Step a μ6 μ7 → Ok k → Bd 60 k → sg d k.a k.b = 1 → C2 (af 2) (af 6) [some (.m a), some (.v (.int d)), some (.m p), r3, r4, r5, some (.v (dN k))] μ7 (fun _ μ' => CI a p d x μ (i + 1) [some (.m a), some (.v (.int d)), some (.m p), r3, r4, r5, some (.v (dN k))] μ') := fun μ7 k r3 r4 r5 s7 ok bk sk => by
      have s47 := s46.trans s7
      have hp7 : μ7 p = some (dN x :: ks.map dN) := by rw [s47.2 p (fun z => hap z.symm)]; exact hpk
      walk_at "rn"
      simp only [hp7]
      refine ⟨by simp; omega, ks ++ [k], _, _, _, _, rfl, ?_, fun b hb' ds e => ?_, ?_, by simp [hl], fun z hz => ?_⟩
      · obtain ⟨g, m, e, z⟩ := s47.1; exact ⟨g, m, by rw [bL hap]; exact e, z⟩
      · have h3 := kp b hb' ds e
        by_cases hbp : b = p
        · subst hbp
          exfalso
          have e1 := (s1.2 b hb').trans e
          rw [hp] at e1; cases e1
        · rw [bL hbp, s47.2 b hb']; exact h3
      · rw [bB]; simp
      · rcases List.mem_cons.mp hz with z' | z'
        · exact hok z (by rw [z']; exact List.mem_cons_self)
        · rcases List.mem_append.mp z' with z'' | z''
          · exact hok z (List.mem_cons_of_mem _ z'')
          · rw [List.mem_singleton.mp z'']; exact ⟨ok, bk, sk⟩
    by_cases c1 : 3 < way
    · rw [if_pos (by simpa using c1)]
      refine ⟨a, d, rfl, hd, s6.1, fun k μ7 ok bk sk s7 => ?_⟩
      have := fin μ7 k (some (.v (.int (0 + (i : Int))))) (some (.v (.int way))) (some (.v (dN ⟨1 + t, 0, 1 + u⟩))) s7 ok (bk.mono (by decide)) sk
      walk_at "rn"
      exact this
    · rw [if_neg (by simpa using c1)]
      by_cases c2 : 1 < way
      · rw [if_pos (by simpa using c2)]
        have un : 1 + u ≠ 0 := by omega
        have z4 : ∀ v : Int, 0 ≤ v → v < 9 → Sz 4 (1 + v) := fun v h1 h2 => Sz.of (by show (1 + v).natAbs < 16; omega)
        have op := fX (1 + t) 0 un
        have bp : Bd 4 (low (1 + t) 0 (1 + u)) := ji un (z4 t t0 t1) (Sz.of (by show (0 : Int).natAbs < 16; decide)) (z4 u u0 u1)
        have hp' : sg d (low (1 + t) 0 (1 + u)).a (low (1 + t) 0 (1 + u)).b = 1 := by
          rw [BL hd (by omega)]
          unfold sg
          rw [if_neg (by omega), if_pos (by omega)]
        refine ⟨_, _, _, rfl, un, (z4 u u0 u1).mono (by decide), d, k1, _, rfl, s5, ok1, op, bk1.mono (by decide), bp.mono (by decide), ?_⟩
        exact fin μ6 _ _ _ _ (Step.refl s6.1) (aB ok1 op) ((bJ s5 ok1 op bk1 bp).mono (by decide)) (by rw [wH hd ok1 op, sk1, hp']; rfl)
      · rw [if_neg (by simpa using c2)]
        exact fin μ6 k1 _ _ _ (Step.refl s6.1) ok1 (bk1.mono (by decide)) sk1
  · rintro ρ μ3 ⟨ks, r3, r4, r5, r6, rfl, hb3, kp, hpk, hl, hok⟩
    rw [oO] at hl
    walk_at "rn"
    simp only [hpk]
    exact q (x :: ks) μ3 ⟨by simp, by simp; omega, hok⟩ ⟨hb3, kp⟩
theorem uS (h : mM ds μ Qd) : iL { nx := fun _ μ' => Qd (.v .none) μ', rt := Qd } (aK ["_law_bag_here", "_law_wide"] ds) μ := by
  obtain ⟨a, rfl, hb, q⟩ := h
  unfold iL
  walk_at "rn"
  refine ⟨a, 4, rfl, by decide, by decide, hb, fun r μ1 r0 r1 s1 => ?_⟩
  walk_at "rn"
  obtain ⟨_, e1, w, rfl, w0, w1⟩ := pick (P := fun v => ∃ w : Int, v = .int w ∧ 2 ≤ w ∧ w ≤ 9999) (xs := [.int 2, .int 9, .int 9, .int 9999]) r0 (by exact r1) (by
    intro v hv
    simp only [List.mem_cons, List.not_mem_nil, or_false] at hv
    rcases hv with rfl | rfl | rfl | rfl <;> exact ⟨_, rfl, by decide, by decide⟩)
  rw [e1]
  walk_at "rn"
  refine ⟨a, w, rfl, by omega, by omega, s1.1, fun t μ2 t0 t1 s2 => ?_⟩
  walk_at "rn"
  refine ⟨a, w, rfl, by omega, by omega, s2.1, fun u μ3 u0 u1 s3 => ?_⟩
  walk_at "rn"
  have un : 1 + u ≠ 0 := by omega
  have z : ∀ v : Int, 0 ≤ v → v < w → Sz 14 (1 + v) := fun v h1 h2 => Sz.of (by show (1 + v).natAbs < 16384; omega)
  refine ⟨_, _, _, rfl, un, (z u u0 u1).mono (by decide), q _ μ3 ?_ ?_ (s1.trans (s2.trans s3))⟩
  · have r := hZ (a := 1 + t) (b := 0) un
    have ok := fX (1 + t) 0 un
    obtain ⟨l1, l2, l3⟩ := J0 (1 + t) 0 un
    have hp : 0 < (low (1 + t) 0 (1 + u)).a := by
      have e := r.a
      have hc := ok.c
      have : 0 < (low (1 + t) 0 (1 + u)).a * (1 + u) := by rw [e]; exact Int.mul_pos (by omega) hc
      exact IP this (by omega)
    exact ⟨ok, (by have := l2; omega), by omega, by omega, by have := ok.c; omega⟩
  · have r := hZ (a := 1 + t) (b := 0) un
    have ok := fX (1 + t) 0 un
    have e := r.a
    have hc := ok.c
    have : 0 < (low (1 + t) 0 (1 + u)).a * (1 + u) := by rw [e]; exact Int.mul_pos (by omega) hc
    exact IP this (by omega)
theorem Fr0.bd {x : N3} (h : Fr0 x) : Bd 14 x := by
  have hc := h.ok.c
  have a0 := h.a0
  have a1 := h.a1
  have c1 := h.c1
  exact ⟨Sz.of (by show x.a.natAbs < 16384; omega), by rw [h.b]; exact Sz.of (by show (0 : Int).natAbs < 16384; decide), Sz.of (by show x.c.natAbs < 16384; omega)⟩
theorem Jq {d : Int} {ks : List N3} (ho : KindsOk d ks) {r : Int} (r0 : 0 ≤ r) (r1 : r < (ks.length : Nat)) : ∃ k ∈ ks, atI (ks.map dN) r = some (dN k) := by
  obtain ⟨v, e, m⟩ := wo (xs := ks.map dN) r0 (by rw [List.length_map]; exact r1)
  obtain ⟨k, hk, rfl⟩ := List.mem_map.mp m
  exact ⟨k, hk, e⟩
theorem uU {d : Int} {x y : N3} (hd : aw d) (ox : Ok x) (oy : Ok y) (hx : sg d x.a x.b = 1) (hy : sg d y.a y.b = 1) : sg d (plus x y).a (plus x y).b = 1 := KY.pos hd (bN ox oy) (Ig ox oy) hx hy
theorem yt (h : sO ds μ Qd) : lr { nx := fun _ μ' => Qd (.v .none) μ', rt := Qd } (aK ["_law_bag_here", "_law_d", "_law_kinds_here", "_law_kind", "_law_other", "_law_u", "_law_v", "_law_way", "_law_turned_kind", "_law_some"] ds) μ := by
  obtain ⟨a, d, ks, rfl, hd, ho, hb, q⟩ := h
  have s5 := jr hd.1 hd.2.1
  have l1 := ho.l1
  have l3 := ho.l3
  unfold lr
  walk_at "rn"
  rw [List.length_map]
  refine ⟨a, _, rfl, by omega, by omega, hb, fun r μ1 r0 r1 s1 => ?_⟩
  obtain ⟨k, hk, e1⟩ := Jq ho r0 r1
  walk_at "rn"
  rw [e1]
  obtain ⟨ok, bk, sk⟩ := ho.ok k hk
  walk_at "rn"
  refine ⟨a, _, rfl, by omega, by omega, s1.1, fun r' μ2 r0' r1' s2 => ?_⟩
  obtain ⟨o, ho', e2⟩ := Jq ho r0' r1'
  walk_at "rn"
  rw [e2]
  obtain ⟨oo, bo, so⟩ := ho.ok o ho'
  walk_at "rn"
  refine ⟨a, rfl, s2.1, fun u μ3 fu u0 s3 => ?_⟩
  walk_at "rn"
  refine ⟨a, rfl, s3.1, fun v μ4 fv v0 s4 => ?_⟩
  walk_at "rn"
  refine ⟨a, 10, rfl, by decide, by decide, s4.1, fun w μ5 w0 w1 s5' => ?_⟩
  walk_at "rn"
  have nk := aN hd ok sk
  refine ⟨d, k, rfl, s5, nk, bk.mono (by decide), ?_⟩
  walk_at "rn"
  refine ⟨a, d, rfl, hd, s5'.1, fun x μ6 ox bx sx s6 => ?_⟩
  have oc := aE nk
  have bc := bS s5 nk bk
  have sc := dW hd ok sk
  have bu := fu.bd
  have bv := fv.bd
  have su : sg d u.a u.b = 1 := GD u0 fu.b
  have sv : sg d v.a v.b = 1 := GD v0 fv.b
  have o2 := aB (d := d) ok fu.ok
  have b2 := bJ s5 ok fu.ok bk bu
  have g2 : sg d (times d k u).a (times d k u).b = 1 := by rw [cT hd ok fu.ok, sk, su]; rfl
  have o3 := aB (d := d) oc fu.ok
  have b3 := bJ s5 oc fu.ok bc bu
  have g3 : sg d (times d (ar d k) u).a (times d (ar d k) u).b = 1 := by rw [cT hd oc fu.ok, sc, su]; rfl
  have o4 := aB (d := d) oc fv.ok
  have b4 := bJ s5 oc fv.ok bc bv
  have g4 : sg d (times d (ar d k) v).a (times d (ar d k) v).b = 1 := by rw [cT hd oc fv.ok, sc, sv]; rfl
  have o5 := aB (d := d) oo fv.ok
  have b5 := bJ s5 oo fv.ok bo bv
  have g5 : sg d (times d o v).a (times d o v).b = 1 := by rw [cT hd oo fv.ok, so, sv]; rfl
  have or' : Ok ⟨0, 1, 1⟩ := ⟨by decide, by decide⟩
  have br : Bd 2 ⟨0, 1, 1⟩ := ⟨Sz.of (by decide), Sz.of (by decide), Sz.of (by decide)⟩
  have gr : sg d (⟨0, 1, 1⟩ : N3).a (⟨0, 1, 1⟩ : N3).b = 1 := by show sg d 0 1 = 1; rw [G5]; rfl
  have ot : Ok ⟨0, 1, 999999⟩ := ⟨by decide, by decide⟩
  have bt : Bd 20 ⟨0, 1, 999999⟩ := ⟨Sz.of (by decide), Sz.of (by decide), Sz.of (by decide)⟩
  have gt : sg d (⟨0, 1, 999999⟩ : N3).a (⟨0, 1, 999999⟩ : N3).b = 1 := by show sg d 0 1 = 1; rw [G5]; rfl
  have oh : Ok ⟨1, 0, 99999⟩ := ⟨by decide, by decide⟩
  have bh : Bd 20 ⟨1, 0, 99999⟩ := ⟨Sz.of (by decide), Sz.of (by decide), Sz.of (by decide)⟩
  have gh : sg d (⟨1, 0, 99999⟩ : N3).a (⟨1, 0, 99999⟩ : N3).b = 1 := by show sg d 1 0 = 1; rw [jq]; rfl
  have o6 := aB (d := d) or' fu.ok
  have b6 := bJ s5 or' fu.ok br bu
  have g6 : sg d (times d ⟨0, 1, 1⟩ u).a (times d ⟨0, 1, 1⟩ u).b = 1 := by rw [cT hd or' fu.ok, gr, su]; rfl
  have o7 := aB (d := d) fv.ok oh
  have b7 := bJ s5 fv.ok oh bv bh
  have g7 : sg d (times d v ⟨1, 0, 99999⟩).a (times d v ⟨1, 0, 99999⟩).b = 1 := by rw [cT hd fv.ok oh, sv, gh]; rfl
  refine ⟨d, k, u, rfl, s5, ok, fu.ok, bk.mono (by decide), bu.mono (by decide), d, _, u, rfl, s5, oc, fu.ok, bc.mono (by decide), bu.mono (by decide), d, k, u, rfl, s5, ok, fu.ok, bk.mono (by decide), bu.mono (by decide), d, _, v, rfl, s5, oc, fv.ok, bc.mono (by decide), bv.mono (by decide), _, _, rfl, o2, o4, b2.mono (by decide), b4.mono (by decide), d, o, v, rfl, s5, oo, fv.ok, bo.mono (by decide), bv.mono (by decide), k, _, rfl, ok, o5, bk.mono (by decide), b5.mono (by decide), d, ⟨0, 1, 1⟩, u, rfl, s5, or', fu.ok, br.mono (by decide), bu.mono (by decide), d, _, u, rfl, s5, oc, fu.ok, bc.mono (by decide), bu.mono (by decide), _, ⟨0, 1, 999999⟩, rfl, o3, ot, b3.mono (by decide), bt.mono (by decide), d, k, u, rfl, s5, ok, fu.ok, bk.mono (by decide), bu.mono (by decide), d, v, ⟨1, 0, 99999⟩, rfl, s5, fv.ok, oh, bv.mono (by decide), bh.mono (by decide), _, _, rfl, o2, o7, b2.mono (by decide), b7.mono (by decide), a, d, rfl, hd, s6.1, fun y μ7 oy by' sy s7 => ?_⟩
  walk_at "rn"
  have hst := s1.trans (s2.trans (s3.trans (s4.trans (s5'.trans (s6.trans s7)))))
  obtain ⟨_, e, z, rfl, oz, bz, sz⟩ := pick (P := fun t => ∃ z, t = dN z ∧ Ok z ∧ Bd 230 z ∧ sg d z.a z.b = 1) (xs := [dN x, dN (times d k u), dN (times d (ar d k) u), dN (plus (times d k u) (times d (ar d k) v)), dN (plus k (times d o v)), dN u, dN (times d ⟨0, 1, 1⟩ u), dN (plus (times d (ar d k) u) ⟨0, 1, 999999⟩), dN (plus (times d k u) (times d v ⟨1, 0, 99999⟩)), dN y]) w0 (by exact w1) (by
    intro t ht
    simp only [List.mem_cons, List.not_mem_nil, or_false] at ht
    rcases ht with rfl | rfl | rfl | rfl | rfl | rfl | rfl | rfl | rfl | rfl
    · exact ⟨_, rfl, ox, bx.mono (by decide), sx⟩
    · exact ⟨_, rfl, o2, b2.mono (by decide), g2⟩
    · exact ⟨_, rfl, o3, b3.mono (by decide), g3⟩
    · exact ⟨_, rfl, bN o2 o4, (iY o2 o4 b2 b4).mono (by decide), uU hd o2 o4 g2 g4⟩
    · exact ⟨_, rfl, bN ok o5, (iY ok o5 bk b5).mono (by decide), uU hd ok o5 sk g5⟩
    · exact ⟨_, rfl, fu.ok, bu.mono (by decide), su⟩
    · exact ⟨_, rfl, o6, b6.mono (by decide), g6⟩
    · exact ⟨_, rfl, bN o3 ot, (iY o3 ot b3 bt).mono (by decide), uU hd o3 ot g3 gt⟩
    · exact ⟨_, rfl, bN o2 o7, (iY o2 o7 b2 b7).mono (by decide), uU hd o2 o7 g2 g7⟩
    · exact ⟨_, rfl, oy, by'.mono (by decide), sy⟩)
  rw [e]
  exact q z _ oz bz sz hst
end
open PySem PySem.Spec PyProof.Rows NM
def Hb (d : Int) (f g s : N3) : N3 := low ((shA d f s).b * (shA d f g).c) 0 ((shA d f s).c * (shA d f g).b)
def OI (d : Int) (f g s : N3) : N3 := less (shA d f s) (times d (Hb d f g s) (shA d f g))
def oI : DSp := fun ds μ Q => ∃ (d : Int) (f g s : N3), ds = [.v (.int d), .v (dN f), .v (dN g), .v (dN s)] ∧ aw d ∧ Ok f ∧ f ≠ ay ∧ Ok g ∧ Ok s ∧ (∃ n m p : Nat, Bd n f ∧ Bd m g ∧ Bd p s ∧ n ≤ 2000 ∧ m ≤ 2000 ∧ p ≤ 2000 ∧ (p + (2 * n + 12)) + 2 * (m + (2 * n + 12)) + 6 ≤ 4300) ∧ (shA d f g).b ≠ 0 ∧ Q (.v (.tuple [dN (OI d f g s), dN (Hb d f g s)])) μ
theorem A4 {μ : Mu} {Q : DK} {ds : List D} (h : oI ds μ Q) : ds.length = 4 := by obtain ⟨_, _, _, _, rfl, _⟩ := h; rfl
def pZ : DSp := fun ds μ Q => ∃ (d : Int) (x : N3), ds = [.v (.int d), .v (dN x)] ∧ aw d ∧ Bd 8900 x ∧ Q (.v (.bool (bX d x))) μ
theorem yb {μ : Mu} {Q : DK} {ds : List D} (h : pZ ds μ Q) : ds.length = 2 := by obtain ⟨_, _, rfl, _⟩ := h; rfl
def mT (x : N3) (w : Int) : N3 := if 0 < w then less x (bR x) else plus x (bR x)
def xa : DSp := fun ds μ Q => ∃ (x : N3) (w : Int), ds = [.v (dN x), .v (.int w)] ∧ Ok x ∧ Bd 2100 x ∧ Q (.v (dN (mT x w))) μ
theorem EG {μ : Mu} {Q : DK} {ds : List D} (h : xa ds μ Q) : ds.length = 2 := by obtain ⟨_, _, rfl, _⟩ := h; rfl
def qM (d : Int) (s : N3) (w : Int) : Int := sg d (mT s w).a (mT s w).b
def bLast (d : Int) (s : N3) (w : Int) : N3 := times d (times d ⟨qM d s w, 0, 2⟩ (mT s w)) (ar d (bR s))
def zg (d : Int) (k : N3) (w : Int) : N3 := times d (times d (mT k w) (mT k w)) (ar d (times d ⟨4, 0, 1⟩ (times d k (bR k))))
def bK (d : Int) (k : N3) : Int := sg d (bR k).a (bR k).b
def KP (d : Int) (k s : N3) : PyData :=
  if bK d s = bK d k then .tuple [dN one, .tuple [dN (times d (zg d k (bK d k)) (ar d (bLast d s (bK d k)))), dN ⟨bK d k * qM d s (bK d k), 0, 1⟩, dN ⟨-qM d s (bK d k), 0, 1⟩, dN (bLast d s (bK d k))]]
  else .tuple [dN one, .tuple [dN ay, dN ay, dN ay, dN ⟨bK d k, 0, 1⟩]]
def Ld (d : Int) (k s : N3) : PyData := if eo d k s = true then .tuple [.str "mixture", dN (qZ d k s), dN (rn d k s)] else .tuple [.str "bar", KP d k s]
structure BdM (d : Int) (k s : N3) : Prop where
  big : Bd 1300 s
  low : eo d k s = false → Bd 1000 s
theorem BdM.of {d : Int} {k s : N3} {n : Nat} (h : Bd n s) (l : n ≤ 1000) : BdM d k s := ⟨h.mono (by omega), fun _ => h.mono l⟩
def tZ : DSp := fun ds μ Q => ∃ (d : Int) (k s : N3), ds = [.v (.int d), .v (dN k), .v (dN s)] ∧ aw d ∧ Ok k ∧ Bd 140 k ∧ sg d k.a k.b = 1 ∧ Ok s ∧ Bd 1000 s ∧ sg d s.a s.b = 1 ∧ eo d k s = false ∧ Q (.v (KP d k s)) μ
theorem Bf {μ : Mu} {Q : DK} {ds : List D} (h : tZ ds μ Q) : ds.length = 3 := by obtain ⟨_, _, _, rfl, _⟩ := h; rfl
def qe : DSp := fun ds μ Q => ∃ (d : Int) (k s : N3), ds = [.v (.int d), .v (dN k), .v (dN s)] ∧ aw d ∧ Ok k ∧ Bd 140 k ∧ sg d k.a k.b = 1 ∧ Ok s ∧ BdM d k s ∧ sg d s.a s.b = 1 ∧ Q (.v (Ld d k s)) μ
theorem yp {μ : Mu} {Q : DK} {ds : List D} (h : qe ds μ Q) : ds.length = 3 := by obtain ⟨_, _, _, rfl, _⟩ := h; rfl
def mH : DTS :=
  (aJ (bC (ao ly (ab (af 0) (ab (af 3) (ab (af 1) aj)))) (au 4))
  (aJ (bC (ao ly (ab (af 0) (ab (af 2) (ab (af 1) aj)))) (au 5))
  (aJ (bC (ao cG (ab (cg (dOp aC (af 4) (dC (.int 1))) (dOp aC (af 5) (dC (.int 2)))) (ab (dC (.int 0)) (ab (cg (dOp aC (af 4) (dC (.int 2))) (dOp aC (af 5) (dC (.int 1)))) aj)))) (au 6))
  (aJ (bC (ao xm (ab (af 4) (ab (ao bO (ab (af 0) (ab (af 6) (ab (af 5) aj)))) aj))) (au 7))
  (bD (cL (ab (af 7) (ab (af 6) aj))))))))
def pf : DTS :=
  (bD (vp (dOp (d6 false) (dOp aC (af 1) (dC (.int 1))) (dC (.int 0))) (dOp rGe (ao fc (ab (af 0) (ab (af 1) aj))) (dC (.int 0)))))
def Al : DTS :=
  (bD (dIf (dB (dOp rGt (af 1) (dC (.int 0)))) (ao xm (ab (af 0) (ab (ao eP (ab (af 0) aj)) aj))) (ao fh (ab (af 0) (ab (ao eP (ab (af 0) aj)) aj)))))
def rG : DTS :=
  (aJ (bC (ao fc (ab (af 0) (ab (ao eP (ab (af 1) aj)) aj))) (au 3))
  (aJ (dy (dB (dOp (d6 true) (ao fc (ab (af 0) (ab (ao eP (ab (af 2) aj)) aj))) (af 3))) (bD (cL (ab (dC (.tuple [.int 1, .int 0, .int 1])) (ab (cL (ab (dC (.tuple [.int 0, .int 0, .int 1])) (ab (dC (.tuple [.int 0, .int 0, .int 1])) (ab (dC (.tuple [.int 0, .int 0, .int 1])) (ab (cL (ab (af 3) (ab (dC (.int 0)) (ab (dC (.int 1)) aj)))) aj))))) aj)))) bU)
  (aJ (bC (ao xa (ab (af 1) (ab (af 3) aj))) (au 4))
  (aJ (bC (ao xa (ab (af 2) (ab (af 3) aj))) (au 5))
  (aJ (bC (ao fc (ab (af 0) (ab (af 5) aj))) (au 6))
  (aJ (bC (ao ly (ab (af 0) (ab (ao bO (ab (af 0) (ab (cL (ab (af 6) (ab (dC (.int 0)) (ab (dC (.int 2)) aj)))) (ab (af 5) aj)))) (ab (ao eP (ab (af 2) aj)) aj)))) (au 7))
  (aJ (bC (ao ly (ab (af 0) (ab (ao bO (ab (af 0) (ab (af 4) (ab (af 4) aj)))) (ab (ao bO (ab (af 0) (ab (cL (ab (dC (.int 4)) (ab (dC (.int 0)) (ab (dC (.int 1)) aj)))) (ab (ao bO (ab (af 0) (ab (af 1) (ab (ao eP (ab (af 1) aj)) aj)))) aj)))) aj)))) (au 8))
  (bD (cL (ab (dC (.tuple [.int 1, .int 0, .int 1])) (ab (cL (ab (ao ly (ab (af 0) (ab (af 8) (ab (af 7) aj)))) (ab (cL (ab (cg (af 3) (af 6)) (ab (dC (.int 0)) (ab (dC (.int 1)) aj)))) (ab (cL (ab (vG (af 6)) (ab (dC (.int 0)) (ab (dC (.int 1)) aj)))) (ab (af 7) aj))))) aj)))))))))))
def lG : DTS :=
  (aJ (mx (ao fe (ab (af 0) (ab (af 1) aj))))
  (aJ (mx (ao fe (ab (af 0) (ab (af 2) aj))))
  (aJ (dy (dB (dOp (d6 false) (dOp aC (ao bO (ab (af 0) (ab (af 1) (ab (af 1) aj)))) (dC (.int 1))) (dC (.int 0)))) (bC (cL (ab (ao ly (ab (af 0) (ab (af 2) (ab (af 1) aj)))) (ab (dC (.tuple [.int 0, .int 0, .int 1])) aj))) (au 3)) (bC (ao oI (ab (af 0) (ab (af 1) (ab (ao bI (ab (af 0) (ab (af 1) aj))) (ab (af 2) aj))))) (au 3)))
  (aJ (dy (dB (dCB xw (ab (vE [none, some 0] (qI (af 3)) (au 0) qG (ao pZ (ab (af 1) (ab (af 0) aj)))) aj))) (bD (cL (ab (dC (.str "mixture")) (ab (dOp aC (af 3) (dC (.int 0))) (ab (dOp aC (af 3) (dC (.int 1))) aj))))) bU)
  (bD (cL (ab (dC (.str "bar")) (ab (ao tZ (ab (af 0) (ab (af 1) (ab (af 2) aj)))) aj))))))))
section
variable {μ : Mu} {Qd : DK} {ds : List D}
theorem eN {d : Int} {x : N3} (h : sg d x.a x.b = 1) : x ≠ ay := fun e => by subst e; have : sg d ay.a ay.b = 0 := eW.mpr ⟨rfl, rfl⟩; omega
theorem A8 (h : oI ds μ Qd) : mH { nx := fun _ μ' => Qd (.v .none) μ', rt := Qd } (aK ["d", "first", "second", "shape", "whole", "part", "of_second", "of_first"] ds) μ := by
  obtain ⟨d, f, g, s, rfl, hd, of, nf, og, os, ⟨n, m, p, bf, bg, bs, ln, lm, lp, lt⟩, hp, q⟩ := h
  have s5 := jr hd.1 hd.2.1
  have hn := hd.norm of nf
  have oa : Ok (shA d f s) := fZ os hn
  have op : Ok (shA d f g) := fZ og hn
  have ba : Bd (p + (2 * n + 6) + 6) (shA d f s) := bJ s5 os (aE hn) bs (bS s5 hn bf)
  have bp : Bd (m + (2 * n + 6) + 6) (shA d f g) := bJ s5 og (aE hn) bg (bS s5 hn bf)
  unfold mH
  walk_at "rn"
  refine ⟨d, s, f, rfl, hd, os, of, nf, bs.mono (by omega), bf.mono (by omega), ?_⟩
  walk_at "rn"
  refine ⟨d, g, f, rfl, hd, og, of, nf, bg.mono (by omega), bf.mono (by omega), ?_⟩
  walk_at "rn"
  have hc : (shA d f s).c * (shA d f g).b ≠ 0 := Int.mul_ne_zero oa.cn hp
  have sc := ba.c.mul bp.b
  have sb := ba.b.mul bp.c
  refine ⟨fV ba.b bp.c (by omega), fV ba.c bp.b (by omega), _, _, _, rfl, hc, sc.mono (by omega), ?_⟩
  have ov : Ok (Hb d f g s) := fX _ _ hc
  have bv : Bd (p + (2 * n + 6) + 6 + (m + (2 * n + 6) + 6)) (Hb d f g s) := ji hc sb (sz0) sc
  walk_at "rn"
  refine ⟨d, Hb d f g s, shA d f g, rfl, s5, ov, op, bv.mono (by omega), bp.mono (by omega), shA d f s, _, rfl, oa, aB ov op, ba.mono (by omega), (bJ s5 ov op bv bp).mono (by omega), ?_⟩
  exact q
theorem Dr (h : pZ ds μ Qd) : pf { nx := fun _ μ' => Qd (.v .none) μ', rt := Qd } (aK ["d", "x"] ds) μ := by
  obtain ⟨d, x, rfl, hd, bx, q⟩ := h
  unfold pf
  walk_at "rn"
  unfold bX at q
  cases e : decide (x.b = 0) with
  | true =>
    rw [e, Bool.true_and] at q
    exact ⟨d, x, rfl, hd, bx, q⟩
  | false =>
    rw [e, Bool.false_and] at q
    exact q
theorem Lh (h : xa ds μ Qd) : Al { nx := fun _ μ' => Qd (.v .none) μ', rt := Qd } (aK ["shape", "way"] ds) μ := by
  obtain ⟨x, w, rfl, ox, bx, q⟩ := h
  unfold Al
  walk_at "rn"
  unfold mT at q
  by_cases hw : 0 < w
  · rw [if_pos hw] at q
    rw [if_pos (by simpa using hw)]
    exact ⟨x, rfl, x, bR x, rfl, ox, aT ox, bx.mono (by decide), (fK bx).mono (by decide), q⟩
  · rw [if_neg hw] at q
    rw [if_neg (by simpa using hw)]
    exact ⟨x, rfl, x, bR x, rfl, ox, aT ox, bx.mono (by decide), (fK bx).mono (by decide), q⟩
theorem gE {x : N3} {w : Int} (ox : Ok x) : Ok (mT x w) := by
  unfold mT
  split
  · exact nM ox (aT ox)
  · exact bN ox (aT ox)
theorem _root_.NM.Rep.bd {x : N3} {A B C : Int} {n : Nat} (ox : Ok x) (r : Rep x A B C) (ha : Sz n A) (hb : Sz n B) (hc : Sz n C) : Bd n x := by
  have e : x = NM.low A B C := ox.NX r.c r.a r.b
  rw [e]
  exact ji r.c ha hb hc
theorem IC {n : Nat} {i : Int} (h : Sz n i) : Sz (n + 1) (2 * i) := by
  have := h.add h
  rw [show i + i = 2 * i by omega] at this
  exact this
theorem GX {x : N3} {w : Int} {n : Nat} (ox : Ok x) (bx : Bd n x) : Bd (n + 1) (mT x w) := by
  unfold mT
  split
  · have r := Rep.less ox (aT ox) (av ox) (av (aT ox))
    have r2 : Rep (less x (bR x)) 0 (2 * x.b) x.c := r.conv ox.cn (by show (x.a * x.c - x.a * x.c) * x.c = 0 * _; grind) (by show (x.b * x.c - -x.b * x.c) * x.c = 2 * x.b * (x.c * x.c); grind)
    exact r2.bd (nM ox (aT ox)) sz0 (IC bx.b) (bx.c.mono (by omega))
  · have r := Rep.plus ox (aT ox) (av ox) (av (aT ox))
    have r2 : Rep (plus x (bR x)) (2 * x.a) 0 x.c := r.conv ox.cn (by show (x.a * x.c + x.a * x.c) * x.c = 2 * x.a * (x.c * x.c); grind) (by show (x.b * x.c + -x.b * x.c) * x.c = 0 * _; grind)
    exact r2.bd (bN ox (aT ox)) (IC bx.a) sz0 (bx.c.mono (by omega))
theorem Nw {d : Int} {k : N3} (hd : aw d) (ok : Ok k) (hk : sg d k.a k.b = 1) : bK d k = sg d (norm d k) 0 := AN hd ok hk
theorem rD {d : Int} {k : N3} (hd : aw d) (ok : Ok k) (hk : sg d k.a k.b = 1) : (bK d k = 1 ∧ 0 < norm d k) ∨ (bK d k = -1 ∧ norm d k < 0) := by
  have hn := aN hd ok hk
  rw [Nw hd ok hk, jq, if_neg hn]
  by_cases h : 0 < norm d k
  · rw [if_pos h]; exact .inl ⟨rfl, h⟩
  · rw [if_neg h]; exact .inr ⟨rfl, by omega⟩
theorem LJ {d : Int} {k s : N3} (hd : aw d) (ok : Ok k) (hk : sg d k.a k.b = 1) (os : Ok s) (hs : sg d s.a s.b = 1) (hm : eo d k s = false) (hw : bK d s = bK d k) : mT s (bK d k) ≠ ay := fun e => by
  have hl : ¬ Lay d k s := fun z => by rw [(sG hd ok os hk hs).mpr z] at hm; cases hm
  rcases rD hd ok hk with ⟨w1, n1⟩ | ⟨w1, n1⟩ <;> rcases rD hd os hs with ⟨w2, n2⟩ | ⟨w2, n2⟩
  · rw [w1] at e
    unfold mT at e
    rw [if_pos (by decide)] at e
    have r := Rep.less os (aT os) (av os) (av (aT os))
    rw [e] at r
    have rb := r.b
    have h0 : s.b * (bR s).c - (bR s).b * s.c = 0 := by
      have e1 : ay.b = 0 := rfl
      have e2 : ay.c = 1 := rfl
      rw [e1, e2] at rb; omega
    have h1 : s.b * s.c - -s.b * s.c = 0 := h0
    have h2 : s.b * s.c = 0 := by rw [Int.neg_mul] at h1; omega
    have h3 : s.b = 0 := (Int.mul_eq_zero.mp h2).resolve_right os.cn
    refine hl (.inl ⟨n1, n2, ?_⟩)
    rw [h3, Int.zero_mul, Int.zero_mul]
    exact Int.mul_nonneg (sq_nonneg _) (sq_nonneg _)
  · rw [w1, w2] at hw; exact absurd hw (by decide)
  · rw [w1, w2] at hw; exact absurd hw (by decide)
  · rw [w1] at e
    unfold mT at e
    rw [if_neg (by decide)] at e
    have r := Rep.plus os (aT os) (av os) (av (aT os))
    rw [e] at r
    have ra := r.a
    have h0 : s.a * (bR s).c + (bR s).a * s.c = 0 := by
      have e1 : ay.a = 0 := rfl
      have e2 : ay.c = 1 := rfl
      rw [e1, e2] at ra; omega
    have h1 : s.a * s.c + s.a * s.c = 0 := h0
    have h2 : s.a * s.c = 0 := by omega
    have h3 : s.a = 0 := (Int.mul_eq_zero.mp h2).resolve_right os.cn
    refine hl (.inr ⟨n1, n2, ?_⟩)
    rw [h3, Int.zero_mul, Int.zero_mul]
    exact Int.mul_nonneg (sq_nonneg _) (sq_nonneg _)
theorem Dh {d : Int} {x : N3} (ox : Ok x) (h : x ≠ ay) : sg d x.a x.b = 1 ∨ sg d x.a x.b = -1 := by
  rcases lJ d x.a x.b with z | z | z
  · exfalso
    obtain ⟨h1, h2⟩ := eW.mp z
    have g := ox.g
    rw [h1, h2] at g
    have hc := ox.c
    refine h (N3.ext' h1 h2 ?_)
    show x.c = 1
    simp [g3] at g
    omega
  · exact .inl z
  · exact .inr z
theorem iZ {d : Int} {x y : N3} (hd : aw d) (ox : Ok x) (oy : Ok y) (hx : x ≠ ay) (hy : y ≠ ay) : times d x y ≠ ay := fun e => by
  have h := cT hd ox oy
  rw [e] at h
  have z : sg d ay.a ay.b = 0 := eW.mpr ⟨rfl, rfl⟩
  rw [z] at h
  rcases Dh (d := d) ox hx with a | a <;> rcases Dh (d := d) oy hy with b | b <;> rw [a, b] at h <;> exact absurd h (by decide)
theorem Kf {d : Int} {x : N3} (hd : aw d) (ox : Ok x) (hx : x ≠ ay) : ar d x ≠ ay := fun e => by
  have hn := hd.norm ox hx
  have t := pM ox hn
  rw [e] at t
  have h := cT hd ox uQ
  rw [t, show sg d ay.a ay.b = 0 from eW.mpr ⟨rfl, rfl⟩, GN] at h
  simp at h
theorem p4 {x : N3} (hx : x ≠ ay) : bR x ≠ ay := fun e => hx (by
  have h1 : x.a = 0 := congrArg N3.a e
  have h2 : -x.b = 0 := congrArg N3.b e
  have h3 : x.c = 1 := congrArg N3.c e
  exact N3.ext' h1 (show x.b = 0 by omega) h3)
theorem jP {t : Int} (h : t = 1 ∨ t = -1) : Ok ⟨t, 0, 2⟩ := by
  rcases h with rfl | rfl
  · exact ⟨by decide, by decide⟩
  · exact ⟨by decide, by decide⟩
theorem Gu {t : Int} (h : t = 1 ∨ t = -1) : Bd 3 ⟨t, 0, 2⟩ := ⟨Sz.of (by show t.natAbs < 8; omega), Sz.of (by show (0 : Int).natAbs < 8; decide), Sz.of (by show (2 : Int).natAbs < 8; decide)⟩
theorem Gi {t : Int} (h : t = 1 ∨ t = -1) : (⟨t, 0, 2⟩ : N3) ≠ ay := fun e => by
  have : (2 : Int) = 1 := congrArg N3.c e
  exact absurd this (by decide)
structure LastOk (d : Int) (s : N3) (w : Int) : Prop where
  ok : Ok (bLast d s w)
  bd : Bd 2090 (bLast d s w)
  ne : bLast d s w ≠ ay
theorem Bc {n : Nat} {d : Int} {s : N3} {w : Int} (hd : Sz 5 d) (os : Ok s) (bs : Bd n s) (nm : norm d (bR s) ≠ 0) {t : Int} (ht : t = 1 ∨ t = -1) : Bd (2 * n + 10) (times d (times d ⟨t, 0, 2⟩ (mT s w)) (ar d (bR s))) := by
  have oh := jP ht
  have of := gE (w := w) os
  have oc := aE nm
  have o1 := aB (d := d) oh of
  have hmc : (bR s).c = s.c := rfl
  have hma : (bR s).a = s.a := rfl
  have hmb : (bR s).b = -s.b := rfl
  have nn : norm d (bR s) = norm d s := zx
  have hN : Sz (2 * n + 6) (norm d s) := sD hd bs
  have tb : t.natAbs = 1 := by omega
  have st : ∀ {k : Nat} {i : Int}, Sz k i → Sz k (t * i) := fun h => h.le (by rw [Int.natAbs_mul, tb]; omega)
  unfold mT at *
  split
  · have r0 := Rep.less os (aT os) (av os) (av (aT os))
    have r2 : Rep (less s (bR s)) 0 (2 * s.b) s.c := r0.conv os.cn (by show (s.a * s.c - s.a * s.c) * s.c = 0 * _; grind) (by show (s.b * s.c - -s.b * s.c) * s.c = 2 * s.b * (s.c * s.c); grind)
    have olm := nM os (aT os)
    have r3 := Rep.times (d := d) (aB (d := d) oh olm) oc (Rep.times (d := d) oh olm (av oh) r2) ((av (aT os)).ar (d := d) (aT os) nm)
    have r4 : Rep (times d (times d ⟨t, 0, 2⟩ (less s (bR s))) (ar d (bR s))) (t * (d * s.b * s.b)) (t * (s.b * s.a)) (norm d s) := by
      refine r3.conv (by rw [← nn]; exact nm) ?_ ?_
      · show ((t * 0 + d * 0 * (2 * s.b)) * (s.c * s.a) + d * (t * (2 * s.b) + 0 * 0) * (-s.c * -s.b)) * norm d s = t * (d * s.b * s.b) * (2 * s.c * (s.a * s.a - d * -s.b * -s.b))
        unfold norm; grind
      · show ((t * 0 + d * 0 * (2 * s.b)) * (-s.c * -s.b) + (t * (2 * s.b) + 0 * 0) * (s.c * s.a)) * norm d s = t * (s.b * s.a) * (2 * s.c * (s.a * s.a - d * -s.b * -s.b))
        unfold norm; grind
    refine r4.bd (aB (aB oh olm) oc) (st ?_) (st ?_) (hN.mono (by omega))
    · exact ((hd.mul bs.b).mul bs.b).mono (by omega)
    · exact (bs.b.mul bs.a).mono (by omega)
  · have r0 := Rep.plus os (aT os) (av os) (av (aT os))
    have r2 : Rep (plus s (bR s)) (2 * s.a) 0 s.c := r0.conv os.cn (by show (s.a * s.c + s.a * s.c) * s.c = 2 * s.a * (s.c * s.c); grind) (by show (s.b * s.c + -s.b * s.c) * s.c = 0 * _; grind)
    have olm := bN os (aT os)
    have r3 := Rep.times (d := d) (aB (d := d) oh olm) oc (Rep.times (d := d) oh olm (av oh) r2) ((av (aT os)).ar (d := d) (aT os) nm)
    have r4 : Rep (times d (times d ⟨t, 0, 2⟩ (plus s (bR s))) (ar d (bR s))) (t * (s.a * s.a)) (t * (s.a * s.b)) (norm d s) := by
      refine r3.conv (by rw [← nn]; exact nm) ?_ ?_
      · show ((t * (2 * s.a) + d * 0 * 0) * (s.c * s.a) + d * (t * 0 + 0 * (2 * s.a)) * (-s.c * -s.b)) * norm d s = t * (s.a * s.a) * (2 * s.c * (s.a * s.a - d * -s.b * -s.b))
        unfold norm; grind
      · show ((t * (2 * s.a) + d * 0 * 0) * (-s.c * -s.b) + (t * 0 + 0 * (2 * s.a)) * (s.c * s.a)) * norm d s = t * (s.a * s.b) * (2 * s.c * (s.a * s.a - d * -s.b * -s.b))
        unfold norm; grind
    refine r4.bd (aB (aB oh olm) oc) (st ?_) (st ?_) (hN.mono (by omega))
    · exact (bs.a.mul bs.a).mono (by omega)
    · exact (bs.a.mul bs.b).mono (by omega)
theorem LR {d : Int} {s : N3} {w : Int} (hd : aw d) (os : Ok s) (bs : Bd 1000 s) (ns : s ≠ ay) (hk : mT s w ≠ ay) : LastOk d s w := by
  have s5 := jr hd.1 hd.2.1
  have of := gE (w := w) os
  have ht : qM d s w = 1 ∨ qM d s w = -1 := Dh of hk
  have nm := hd.norm (aT os) (p4 ns)
  have oc := aE nm
  have o1 := aB (d := d) (jP ht) of
  exact ⟨aB o1 oc, (Bc s5 os bs nm ht).mono (by decide), iZ hd o1 oc (iZ hd (jP ht) of (Gi ht) hk) (Kf hd (aT os) (p4 ns))⟩
theorem Fw (h : tZ ds μ Qd) : rG { nx := fun _ μ' => Qd (.v .none) μ', rt := Qd } (aK ["d", "kind", "shape", "way", "own", "floor", "turn", "last", "both"] ds) μ := by
  obtain ⟨d, k, s, rfl, hd, ok, bk, hk, os, bs, hs, hm, q⟩ := h
  have s5 := jr hd.1 hd.2.1
  have nk := aN hd ok hk
  have ns := eN hs
  unfold rG
  walk_at "rn"
  refine ⟨k, rfl, d, bR k, rfl, hd, (fK bk).mono (by decide), ?_⟩
  walk_at "rn"
  refine ⟨s, rfl, d, bR s, rfl, hd, (fK bs).mono (by decide), ?_⟩
  unfold KP at q
  by_cases hw : bK d s = bK d k
  · rw [if_pos hw] at q
    have hw' : sg d (bR s).a (bR s).b = sg d (bR k).a (bR k).b := hw
    walk_at "rn"
    rw [if_neg (by rw [hw']; simp)]
    have of := gE (w := bK d k) os
    have bf := GX (w := bK d k) os bs
    have oo := gE (w := bK d k) ok
    have bo := GX (w := bK d k) ok bk
    have hf := LJ hd ok hk os hs hm hw
    have ht : qM d s (bK d k) = 1 ∨ qM d s (bK d k) = -1 := Dh of hf
    have L := LR (w := bK d k) hd os bs ns hf
    refine ⟨k, bK d k, rfl, ok, bk.mono (by decide), ?_⟩
    walk_at "rn"
    refine ⟨s, bK d k, rfl, os, bs.mono (by decide), ?_⟩
    walk_at "rn"
    refine ⟨d, _, rfl, hd, bf.mono (by decide), ?_⟩
    walk_at "rn"
    have o1 := aB (d := d) (jP ht) of
    have b1 := bJ s5 (jP ht) of (Gu ht) bf
    refine ⟨d, ⟨qM d s (bK d k), 0, 2⟩, mT s (bK d k), rfl, s5, jP ht, of, (Gu ht).mono (by decide), bf.mono (by decide), s, rfl, d, _, bR s, rfl, hd, o1, aT os, p4 ns, b1.mono (by decide), (fK bs).mono (by decide), ?_⟩
    walk_at "rn"
    have o2 := aB (d := d) oo oo
    have b2 := bJ s5 oo oo bo bo
    have o3 := aB (d := d) ok (aT ok)
    have b3 := bJ s5 ok (aT ok) bk (fK bk)
    have n3 : times d k (bR k) ≠ ay := iZ hd ok (aT ok) (eN hk) (p4 (eN hk))
    have o4 : Ok ⟨4, 0, 1⟩ := GK 4
    have b4 : Bd 4 ⟨4, 0, 1⟩ := ⟨Sz.of (by decide), Sz.of (by decide), Sz.of (by decide)⟩
    have o5 := aB (d := d) o4 o3
    have b5 := bJ s5 o4 o3 b4 b3
    have n5 : times d ⟨4, 0, 1⟩ (times d k (bR k)) ≠ ay := iZ hd o4 o3 (fun e => absurd (congrArg N3.a e) (by decide)) n3
    refine ⟨d, _, _, rfl, s5, oo, oo, bo.mono (by decide), bo.mono (by decide), k, rfl, d, k, bR k, rfl, s5, ok, aT ok, bk.mono (by decide), (fK bk).mono (by decide), d, ⟨4, 0, 1⟩, _, rfl, s5, o4, o3, b4.mono (by decide), b3.mono (by decide), d, _, _, rfl, hd, o2, o5, n5, b2.mono (by decide), b5.mono (by decide), ?_⟩
    walk_at "rn"
    have nn5 := hd.norm o5 n5
    have ob : Ok (zg d k (bK d k)) := aB o2 (aE nn5)
    have bb : Bd 1902 (zg d k (bK d k)) := (bJ s5 o2 (aE nn5) b2 (bS s5 nn5 b5)).mono (by decide)
    refine ⟨d, zg d k (bK d k), bLast d s (bK d k), rfl, hd, ob, L.ok, L.ne, bb.mono (by decide), L.bd.mono (by decide), ?_⟩
    refine ⟨mulR KH, ?_⟩
    exact q
  · rw [if_neg hw] at q
    have hw' : ¬ sg d (bR s).a (bR s).b = sg d (bR k).a (bR k).b := hw
    walk_at "rn"
    rw [if_pos (by simpa using hw')]
    exact q
structure OQ (d : Int) (k s : N3) (n : Nat) : Prop where
  ou : Ok (qZ d k s)
  ov : Ok (rn d k s)
  bu : Bd n (qZ d k s)
  bv : Bd n (rn d k s)
theorem NB {d : Int} {k s : N3} {n m : Nat} (hd : aw d) (ok : Ok k) (bk : Bd n k) (hk : sg d k.a k.b = 1) (os : Ok s) (bs : Bd m s) : OQ d k s ((m + (2 * n + 6) + 6) + ((m + (2 * n + 6) + 6) + ((2 * n + 6) + (2 * n + 6) + 6) + ((2 * n + 6) + (2 * n + 6) + 6) + 6) + 1) := by
  have s5 := jr hd.1 hd.2.1
  have hn := aN hd ok hk
  have oc := aE hn
  have bc := bS s5 hn bk
  have oa := fZ (s := s) os hn
  have ba : Bd (m + (2 * n + 6) + 6) (shA d k s) := bJ s5 os oc bs bc
  have op := wV (k := k) hn
  have bp : Bd ((2 * n + 6) + (2 * n + 6) + 6) (prt d k) := bJ s5 oc oc bc bc
  refine ⟨Hl ok os hn, Hw ok os hn, ?_, ?_⟩
  · unfold qZ
    split
    · exact ba.mono (by omega)
    · rename_i hl
      have h' : k.a * k.b ≠ 0 := fun z => hl ((gn ok).mpr z)
      have hc : (shA d k s).c * (prt d k).b ≠ 0 := Int.mul_ne_zero oa.cn (Dp ok hn (av ok) h')
      have bv : Bd ((m + (2 * n + 6) + 6) + ((2 * n + 6) + (2 * n + 6) + 6)) (shV d k s) := ji hc (ba.b.mul bp.c) sz0 (ba.c.mul bp.b)
      have ov := uY ok os hn h'
      exact (Lc oa (aB ov op) ba (bJ s5 ov op bv bp)).mono (by omega)
  · unfold rn
    split
    · exact ⟨Sz.of (by show (0 : Int).natAbs < _; exact Nat.pos_of_ne_zero (by simp)), Sz.of (by show (0 : Int).natAbs < _; exact Nat.pos_of_ne_zero (by simp)), Sz.of (by show (1 : Int).natAbs < _; exact Nat.one_lt_two_pow (by omega))⟩
    · rename_i hl
      have h' : k.a * k.b ≠ 0 := fun z => hl ((gn ok).mpr z)
      have hc : (shA d k s).c * (prt d k).b ≠ 0 := Int.mul_ne_zero oa.cn (Dp ok hn (av ok) h')
      exact (ji hc (ba.b.mul bp.c) sz0 (ba.c.mul bp.b)).mono (by omega)
def IW (d : Int) : PyData → Option PyData
  | .tuple [.int a, .int b, .int c] => some (.bool (bX d ⟨a, b, c⟩))
  | _ => none
theorem yu (h : qe ds μ Qd) : lG { nx := fun _ μ' => Qd (.v .none) μ', rt := Qd } (aK ["d", "kind", "shape", "shares"] ds) μ := by
  obtain ⟨d, k, s, rfl, hd, ok, bk, hk, os, bm, hs, q⟩ := h
  have bs := bm.big
  have s5 := jr hd.1 hd.2.1
  have nk := aN hd ok hk
  have M := NB (s := s) hd ok bk hk os bs
  unfold lG
  walk_at "rn"
  refine ⟨d, k, rfl, hd, ok, bk.mono (by decide), hk, d, s, rfl, hd, os, bs.mono (by decide), hs, d, k, k, rfl, s5, ok, ok, bk.mono (by decide), bk.mono (by decide), ?_⟩
  walk_at "rn"
  by_cases hl : (times d k k).b = 0
  · rw [if_pos (by simpa using hl)]
    have bu := M.bu
    have bv := M.bv
    unfold Ld at q
    rw [xM hl] at bu q
    rw [xc hl] at bv q
    refine ⟨d, s, k, rfl, hd, os, ok, eN hk, bs.mono (by decide), bk.mono (by decide), ?_⟩
    refine ⟨(by show 2 ≤ 1000; decide), IW d, fun x hx μ2 h2 => ⟨⟨trivial, trivial⟩, ?_⟩, ?_⟩
    · simp only [List.mem_cons, List.not_mem_nil, or_false] at hx
      rcases hx with rfl | rfl
      · exact ⟨d, _, rfl, hd, bu.mono (by decide), rfl, rfl⟩
      · exact ⟨d, _, rfl, hd, bv.mono (by decide), rfl, rfl⟩
    · show (if List.all [bX d (shA d k s), bX d ay] id = true then _ else _)
      have e3 : List.all [bX d (shA d k s), bX d ay] id = eo d k s := by simp [eo, xM hl, xc hl]
      rw [e3]
      cases hm : eo d k s with
      | true =>
        rw [hm, if_pos rfl] at q
        exact q
      | false =>
        rw [hm, if_neg (by decide)] at q
        exact ⟨d, k, s, rfl, hd, ok, bk, hk, os, bm.low hm, hs, hm, q⟩
  · rw [if_neg (by simpa using hl)]
    have h' : k.a * k.b ≠ 0 := fun z => hl ((gn ok).mpr z)
    have bu := M.bu
    have bv := M.bv
    unfold Ld at q
    rw [CC hl] at bu q
    rw [CQ hl] at bv q
    refine ⟨d, k, rfl, s5, nk, bk.mono (by decide), d, k, ar d k, s, rfl, hd, ok, eN hk, aE nk, os, ⟨140, 2 * 140 + 6, 1300, bk, bS s5 nk bk, bs, by decide, by decide, by decide, by decide⟩, Dp ok nk (av ok) h', ?_⟩
    refine ⟨(by show 2 ≤ 1000; decide), IW d, fun x hx μ2 h2 => ⟨⟨trivial, trivial⟩, ?_⟩, ?_⟩
    · simp only [List.mem_cons, List.not_mem_nil, or_false] at hx
      rcases hx with rfl | rfl
      · exact ⟨d, _, rfl, hd, bu.mono (by decide), rfl, rfl⟩
      · exact ⟨d, _, rfl, hd, bv.mono (by decide), rfl, rfl⟩
    · show (if List.all [bX d (shU d k s), bX d (shV d k s)] id = true then _ else _)
      have e3 : List.all [bX d (shU d k s), bX d (shV d k s)] id = eo d k s := by simp [eo, CC hl, CQ hl]
      rw [e3]
      cases hm : eo d k s with
      | true =>
        rw [hm, if_pos rfl] at q
        exact q
      | false =>
        rw [hm, if_neg (by decide)] at q
        exact ⟨d, k, s, rfl, hd, ok, bk, hk, os, bm.low hm, hs, hm, q⟩
end
open PySem PySem.Spec PyProof.Rows NM
structure cE (d : Int) (ks : List N3) : Prop where
  l1 : 1 ≤ ks.length
  l3 : ks.length ≤ 3
  ok : ∀ k ∈ ks, Ok k ∧ Bd 140 k ∧ sg d k.a k.b = 1
theorem KindsOk.wide {d : Int} {ks : List N3} (h : KindsOk d ks) : cE d ks := ⟨h.l1, h.l3, fun k hk => ⟨(h.ok k hk).1, (h.ok k hk).2.1.mono (by decide), (h.ok k hk).2.2⟩⟩
def i9 : DSp := fun ds μ Q => ∃ (d : Int) (ks : List N3), ds = [.v (.int d), .v (.tuple (ks.map dN))] ∧ aw d ∧ 1 ≤ ks.length ∧ ks.length ≤ 3 ∧ (∀ k ∈ ks, Ok k ∧ Bd 140 k ∧ sg d k.a k.b = 1) ∧ Q (.v .none) μ
theorem vL {μ : Mu} {Q : DK} {ds : List D} (h : i9 ds μ Q) : ds.length = 2 := by obtain ⟨_, _, rfl, _⟩ := h; rfl
def OK (d : Int) (t : PyData) : Prop := Few t ∧ ∀ x, t = dN x → Bd 8900 x
def KT (d : Int) : PyData → Prop
  | .tuple xs => xs.length ≤ 1000 ∧ (xs.length ≤ 3 → ∀ x ∈ xs, OK d x)
  | _ => True
def Ei (d : Int) : PyData → Bool
  | .tuple xs => decide (1 ≤ xs.length) && (decide (xs.length ≤ 3) && xs.all (lu d))
  | _ => false
def sI : DSp := fun ds μ Q => ∃ (d : Int) (t : PyData), ds = [.v (.int d), .v t] ∧ aw d ∧ KT d t ∧ Q (.v (.bool (Ei d t))) μ
theorem Ac {μ : Mu} {Q : DK} {ds : List D} (h : sI ds μ Q) : ds.length = 2 := by obtain ⟨_, _, rfl, _⟩ := h; rfl
def sgN (d : Int) (k : N3) : Int := sg d (norm d k) 0
def tE : DSp := fun ds μ Q => ∃ (d : Int) (ks : List N3), ds = [.v (.int d), .v (.tuple (ks.map dN))] ∧ aw d ∧ cE d ks ∧ Q (.v (.list ((ks.map (sgN d)).map .int))) μ
theorem DX {μ : Mu} {Q : DK} {ds : List D} (h : tE ds μ Q) : ds.length = 2 := by obtain ⟨_, _, rfl, _⟩ := h; rfl
def wG : DSp := fun ds μ Q => ∃ (d : Int) (k o : N3), ds = [.v (.int d), .v (dN k), .v (dN o)] ∧ aw d ∧ Ok k ∧ Bd 140 k ∧ sg d k.a k.b = 1 ∧ Ok o ∧ Bd 140 o ∧ sg d o.a o.b = 1 ∧ Q (.v (.bool (decide (gtL d k o)))) μ
theorem FP {μ : Mu} {Q : DK} {ds : List D} (h : wG ds μ Q) : ds.length = 3 := by obtain ⟨_, _, _, rfl, _⟩ := h; rfl
def cQ (d : Int) (ks : List N3) : Bool := ks.any (fun k => decide (sgN d k = 1)) && ks.any (fun k => decide (sgN d k = -1))
def zG (d : Int) (ks : List N3) : PyData := if cQ d ks = true then .none else .int (en d ks (ks.length - 1) : Nat)
def Bz : DSp := fun ds μ Q => ∃ (d : Int) (ks : List N3), ds = [.v (.int d), .v (.tuple (ks.map dN))] ∧ aw d ∧ cE d ks ∧ Q (.v (zG d ks)) μ
theorem Ea {μ : Mu} {Q : DK} {ds : List D} (h : Bz ds μ Q) : ds.length = 2 := by obtain ⟨_, _, rfl, _⟩ := h; rfl
def GA (i : Int) : PyData := .tuple [.str "kind", .int i]
def Kk (i : Int) : PyData := .tuple [.str "turn", GA i]
def uO (x : N3) (P : PyData) : PyData := if x = one then P else .tuple [.str "grid", .int x.c, .int x.a, P]
def C5 (u v : N3) (F S : PyData) : PyData := if v = ay then uO u F else if u = ay then uO v S else .tuple [.str "upon", .tuple [uO u F, uO v S]]
def j7 : DSp := fun ds μ Q => ∃ (x : N3) (P : PyData), ds = [.v (dN x), .v P] ∧ Q (.v (uO x P)) μ
theorem BM {μ : Mu} {Q : DK} {ds : List D} (h : j7 ds μ Q) : ds.length = 2 := by obtain ⟨_, _, rfl, _⟩ := h; rfl
def oR : DSp := fun ds μ Q => ∃ (u v : N3) (F S : PyData), ds = [.v (dN u), .v F, .v (dN v), .v S] ∧ Q (.v (C5 u v F S)) μ
theorem A6 {μ : Mu} {Q : DK} {ds : List D} (h : oR ds μ Q) : ds.length = 4 := by obtain ⟨_, _, _, _, rfl, _⟩ := h; rfl
def qj : DSp := fun ds μ Q => ∃ (u v : N3) (i : Int), ds = [.v (dN u), .v (dN v), .v (.int i)] ∧ Q (.v (C5 u v (GA i) (Kk i))) μ
theorem yR {μ : Mu} {Q : DK} {ds : List D} (h : qj ds μ Q) : ds.length = 3 := by obtain ⟨_, _, _, rfl, _⟩ := h; rfl
def pK : DTS :=
  (aJ (dy (BR (mr (dB (FK "tuple" (af 1)))) (BR (dB (dOp rLt (dCB i7 (ab (af 1) aj)) (dC (.int 1)))) (dB (dOp rGt (dCB i7 (ab (af 1) aj)) (dC (.int 3)))))) (bD (dC (.bool false))) bU)
  (bD (dCB xw (ab (vE [none, some 0] (qI (af 1)) (au 0) qG (ao pd (ab (af 1) (ab (af 0) aj)))) aj))))
def iJ : DTS :=
  (dy (mr (dB (ao sI (ab (af 0) (ab (af 1) aj))))) um bU)
def ll : DTS :=
  (bD (vE [none, some 0] (qI (af 1)) (au 0) qG (ao fc (ab (af 1) (ab (ao eP (ab (af 0) aj)) aj)))))
def lq : DTS :=
  (aJ (bC (ao uh (ab (af 0) (ab (af 1) aj))) (qL 3 (eh (au 3) (eh (au 4) (eh (au 5) sZ)))))
  (aJ (bC (ao uh (ab (af 0) (ab (af 2) aj))) (qL 3 (eh (au 6) (eh (au 7) (eh (au 8) sZ)))))
  (bD (dOp rGt (cg (dCB oU (ab (af 3) aj)) (af 8)) (cg (dCB oU (ab (af 6) aj)) (af 5))))))
def lN : DTS :=
  (aJ (mx (ao i9 (ab (af 0) (ab (af 1) aj))))
  (aJ (bC (ao tE (ab (af 0) (ab (af 1) aj))) (au 2))
  (aJ (dy (zF (dB (dOp (HG false) (dC (.int 1)) (af 2))) (dB (dOp (HG false) (vG (dC (.int 1))) (af 2)))) (bD (dC .none)) bU)
  (aJ (bC (dC (.int 0)) (au 3))
  (aJ (vk (wN (ab (dC (.int 1)) (ab (dCB i7 (ab (af 1) aj)) aj))) (au 4) (dy (dB (ao wG (ab (af 0) (ab (dOp aC (af 1) (af 4)) (ab (dOp aC (af 1) (af 3)) aj))))) (bC (af 4) (au 3)) bU))
  (bD (af 3)))))))
def lH : DTS :=
  (aJ (dy (dB (dOp (d6 false) (af 0) (dC (.tuple [.int 1, .int 0, .int 1])))) (bD (af 1)) bU)
  (bD (cL (ab (dC (.str "grid")) (ab (dOp aC (af 0) (dC (.int 2))) (ab (dOp aC (af 0) (dC (.int 0))) (ab (af 1) aj)))))))
def ik : DTS :=
  (aJ (dy (dB (dOp (d6 false) (af 2) (dC (.tuple [.int 0, .int 0, .int 1])))) (bD (ao j7 (ab (af 0) (ab (af 1) aj)))) bU)
  (aJ (dy (dB (dOp (d6 false) (af 0) (dC (.tuple [.int 0, .int 0, .int 1])))) (bD (ao j7 (ab (af 2) (ab (af 3) aj)))) bU)
  (bD (cL (ab (dC (.str "upon")) (ab (cL (ab (ao j7 (ab (af 0) (ab (af 1) aj))) (ab (ao j7 (ab (af 2) (ab (af 3) aj))) aj))) aj))))))
def gL : DTS :=
  (aJ (bC (cL (ab (dC (.str "kind")) (ab (af 2) aj))) (au 3))
  (bD (ao oR (ab (af 0) (ab (af 3) (ab (af 1) (ab (cL (ab (dC (.str "turn")) (ab (af 3) aj))) aj)))))))
section
variable {μ : Mu} {Qd : DK} {ds : List D}
theorem Nu {xs : List PyData} (g : PyData → Bool) : bY (xs.filterMap fun x => some (.bool (g x))) = some (xs.map g) := by
  induction xs with
  | nil => rfl
  | cons x xs ih =>
    rw [List.filterMap_cons]
    show bY (PyData.bool (g x) :: _) = _
    unfold bY
    rw [ih]
    rfl
theorem Co (h : sI ds μ Qd) : pK { nx := fun _ μ' => Qd (.v .none) μ', rt := Qd } (aK ["d", "thing"] ds) μ := by
  obtain ⟨d, t, rfl, hd, kt, q⟩ := h
  unfold pK
  walk_at "rn"
  rcases GO t with ⟨xs, rfl, e⟩ | ⟨hn, e⟩
  · rw [e]
    walk_at "rn"
    have q' : Qd (.v (.bool (decide (1 ≤ xs.length) && (decide (xs.length ≤ 3) && xs.all (lu d))))) μ := q
    by_cases h1 : ((xs.length : Nat) : Int) < 1
    · rw [if_pos (by simpa using h1)]
      rw [decide_eq_false (show ¬ 1 ≤ xs.length by omega), Bool.false_and] at q'
      exact q'
    · rw [if_neg (by simpa using h1)]
      by_cases h3 : (3 : Int) < ((xs.length : Nat) : Int)
      · rw [if_pos (by simpa using h3)]
        rw [decide_eq_false (show ¬ xs.length ≤ 3 by omega), Bool.false_and, Bool.and_false] at q'
        exact q'
      · rw [if_neg (by simpa using h3)]
        rw [decide_eq_true (show 1 ≤ xs.length by omega), decide_eq_true (show xs.length ≤ 3 by omega), Bool.true_and, Bool.true_and] at q'
        refine ⟨by omega, fun x => some (.bool (lu d x)), fun x hx μ' hs => ⟨⟨trivial, trivial⟩, ?_⟩, ?_⟩
        · have p := kt.2 (by omega) x hx
          exact ⟨d, x, rfl, hd, p.1, p.2, rfl, rfl⟩
        · rw [Nu]
          dsimp only
          rw [List.all_map]
          exact q'
  · rw [e]
    walk_at "rn"
    have : Ei d t = false := by cases t <;> first | rfl | exact absurd rfl (hn _)
    rw [this] at q
    exact q
theorem HS {d : Int} {ks : List N3} (h : cE d ks) : Ei d (.tuple (ks.map dN)) = true := by
  show (decide (1 ≤ (ks.map dN).length) && (decide ((ks.map dN).length ≤ 3) && (ks.map dN).all (lu d))) = true
  rw [List.length_map, decide_eq_true h.l1, decide_eq_true h.l3, Bool.true_and, Bool.true_and, List.all_map, List.all_eq_true]
  intro k hk
  obtain ⟨ok, _, sk⟩ := h.ok k hk
  show lu d (dN k) = true
  rw [xV ok, sk]
  rfl
theorem OW {d : Int} {ks : List N3} (h : cE d ks) : KT d (.tuple (ks.map dN)) := by
  refine ⟨by rw [List.length_map]; have := h.l3; omega, fun _ x hx => ?_⟩
  obtain ⟨k, hk, rfl⟩ := List.mem_map.mp hx
  exact ⟨Ma, fun y e => by rw [← Nh e]; exact (h.ok k hk).2.1.mono (by decide)⟩
theorem uo (h : i9 ds μ Qd) : iJ { nx := fun _ μ' => Qd (.v .none) μ', rt := Qd } (aK ["d", "thing"] ds) μ := by
  obtain ⟨d, ks, rfl, hd, l1, l3, hk, q⟩ := h
  have ho : cE d ks := ⟨l1, l3, hk⟩
  unfold iJ
  walk_at "rn"
  refine ⟨d, _, rfl, hd, OW ho, ?_⟩
  rw [HS ho]
  exact q
theorem Ir {d : Int} {k : N3} (hd : aw d) (ok : Ok k) (sk : sg d k.a k.b = 1) : sg d (bR k).a (bR k).b = sgN d k := AN hd ok sk
def signOf (d : Int) : PyData → Option PyData
  | .tuple [.int a, .int b, .int c] => some (.int (sgN d ⟨a, b, c⟩))
  | _ => none
theorem K9 {d : Int} (ks : List N3) : (ks.map dN).filterMap (signOf d) = (ks.map (sgN d)).map .int := by
  induction ks with
  | nil => rfl
  | cons k ks ih =>
    rw [List.map_cons, List.filterMap_cons]
    show (PyData.int (sgN d k)) :: _ = _
    rw [ih]
    rfl
theorem yd (h : tE ds μ Qd) : ll { nx := fun _ μ' => Qd (.v .none) μ', rt := Qd } (aK ["d", "kinds"] ds) μ := by
  obtain ⟨d, ks, rfl, hd, ho, q⟩ := h
  unfold ll
  walk_at "rn"
  refine ⟨by rw [List.length_map]; have := ho.l3; omega, signOf d, fun x hx μ' hs => ⟨⟨trivial, trivial⟩, ?_⟩, ?_⟩
  · obtain ⟨k, hk, rfl⟩ := List.mem_map.mp hx
    obtain ⟨ok, bk, sk⟩ := ho.ok k hk
    refine ⟨k, rfl, d, bR k, rfl, hd, (fK bk).mono (by decide), rfl, ?_⟩
    rw [Ir hd ok sk]
    rfl
  · rw [K9]
    exact q
theorem yI (h : wG ds μ Qd) : lq { nx := fun _ μ' => Qd (.v .none) μ', rt := Qd } (aK ["d", "kind", "other", "a", "b", "c", "other_a", "other_b", "other_c"] ds) μ := by
  obtain ⟨d, k, o, rfl, hd, ok, bk, sk, oo, bo, so, q⟩ := h
  have s5 := jr hd.1 hd.2.1
  have bl := Cw s5 hd ok (aN hd ok sk) bk
  have bm := Cw s5 hd oo (aN hd oo so) bo
  unfold lq
  walk_at "rn"
  refine ⟨d, k, rfl, hd, ok, bk.mono (by decide), sk, ?_⟩
  walk_at "rn"
  refine ⟨rfl, d, o, rfl, hd, oo, bo.mono (by decide), so, ?_⟩
  walk_at "rn"
  refine ⟨rfl, ?_⟩
  have sa : ∀ {n : Nat} {i : Int}, Sz n i → Sz n ((i.natAbs : Nat) : Int) := fun h => h.le (by simp)
  refine ⟨fV (sa bl.a) bm.c (by decide), fV (sa bm.a) bl.c (by decide), ?_⟩
  exact q
theorem Du {d : Int} {ks : List N3} (v : Int) : (((ks.map (sgN d)).map PyData.int).any fun b => PyData.eqv b (.int v)) = ks.any (fun k => decide (sgN d k = v)) := by
  induction ks with
  | nil => rfl
  | cons k ks ih =>
    rw [List.map_cons, List.map_cons, List.any_cons, List.any_cons, ih]
    rfl
theorem H0 (l : List Int) : PyData.canLayAll0 (l.map PyData.int) = true := by
  induction l with
  | nil => rfl
  | cons k l ih => rw [List.map_cons]; show (PyData.canLay0 (.int k) && PyData.canLayAll0 _) = true; rw [ih]; rfl
theorem ey {ks : List N3} {i : Nat} (h : i < ks.length) : (ks.map dN)[i]? = some (dN (ks.getD i ay)) ∧ ks.getD i ay ∈ ks := by
  have e : ks[i]? = some (ks.getD i ay) := by
    rw [List.getD_eq_getElem?_getD, List.getElem?_eq_getElem h]; rfl
  exact ⟨by rw [List.getElem?_map, e]; rfl, List.mem_of_getElem? e⟩
theorem yZ (h : Bz ds μ Qd) : lN { nx := fun _ μ' => Qd (.v .none) μ', rt := Qd } (aK ["d", "kinds", "signs", "most", "place"] ds) μ := by
  obtain ⟨d, ks, rfl, hd, ho, q⟩ := h
  unfold lN
  walk_at "rn"
  refine ⟨d, ks, rfl, hd, ho.l1, ho.l3, ho.ok, d, ks, rfl, hd, ho, ?_⟩
  walk_at "rn"
  have tail : cQ d ks = false → vk (wN (ab (dC (PyData.int 1)) (ab (dCB i7 (ab (af 1) aj)) aj))) (au 4)
      (dy (dB (ao wG (ab (af 0) (ab (dOp aC (af 1) (af 4)) (ab (dOp aC (af 1) (af 3)) aj))))) (bC (af 4) (au 3)) bU)
      { nx := bD (af 3) { nx := fun x μ' => Qd (D.v PyData.none) μ', rt := Qd }, rt := Qd }
      [some (D.v (PyData.int d)), some (D.v (PyData.tuple (List.map dN ks))), some (D.v (PyData.list (List.map PyData.int (List.map (sgN d) ks)))), some (D.v (PyData.int 0)), none] μ := fun hm => by
    have q' : Qd (D.v (.int (en d ks (ks.length - 1) : Nat))) μ := by
      have : zG d ks = .int (en d ks (ks.length - 1) : Nat) := by unfold zG; rw [hm]; rfl
      rw [this] at q; exact q
    have l1 := ho.l1
    have l3 := ho.l3
    rw [sV]
    walk_at "rn"
    rw [List.length_map]
    have hc : ∀ i, i < ks.length → 0 < (aO d (ks.getD i ay)).c := fun i hi => by
      obtain ⟨ok, _, sk⟩ := ho.ok _ (ey hi).2
      exact (dU hd (aN hd ok sk) ok).c
    refine ⟨by omega, fun i ρ' μ' => μ' = μ ∧ ∃ r4, ρ' = [some (D.v (PyData.int d)), some (D.v (PyData.tuple (List.map dN ks))), some (D.v (PyData.list (List.map PyData.int (List.map (sgN d) ks)))), some (D.v (PyData.int (en d ks i : Nat))), r4], ⟨rfl, _, rfl⟩, ?_, ?_⟩
    · rintro i x ρ' μ' hx ⟨rfl, r4, rfl⟩
      obtain ⟨rfl, hi⟩ := y9 hx
      have hi' : i + 1 < ks.length := by omega
      obtain ⟨m1, m2, m3⟩ := qa hc i (by omega)
      have g1 := ey hi'
      have g2 := ey (ks := ks) (i := en d ks i) (by omega)
      walk_at "rn"
      rw [show (1 + (i : Int)) = ((i + 1 : Nat) : Int) by omega]
      rw [jG g1.1, jG g2.1]
      obtain ⟨o1, b1, s1⟩ := ho.ok _ g1.2
      obtain ⟨o2, b2, s2⟩ := ho.ok _ g2.2
      refine ⟨d, _, _, rfl, hd, o1, b1, s1, o2, b2, s2, ?_⟩
      walk_at "rn"
      by_cases g : gtL d (ks.getD (i + 1) ay) (ks.getD (en d ks i) ay)
      · rw [if_pos (by simpa using g)]
        have em : en d ks (i + 1) = i + 1 := by show (if _ then _ else _) = _; rw [if_pos g]
        exact ⟨trivial, _, by rw [em]⟩
      · rw [if_neg (by simpa using g)]
        have em : en d ks (i + 1) = en d ks i := by show (if _ then _ else _) = _; rw [if_neg g]
        exact ⟨trivial, _, by rw [em]⟩
    · rintro ρ' μ' ⟨rfl, r4, rfl⟩
      rw [oO]
      walk_at "rn"
      rw [show (((ks.length : Nat) : Int) - 1).toNat = ks.length - 1 by omega]
      exact q'
  have l1 := H0 (ks.map (sgN d))
  refine ⟨l1, rfl, by decide, ?_⟩
  rw [Du]
  cases e1 : ks.any (fun k => decide (sgN d k = 1)) with
  | false =>
    simp only [Bool.false_eq_true, ↓reduceIte]
    exact tail (by unfold cQ; rw [e1]; rfl)
  | true =>
    simp only [↓reduceIte]
    refine ⟨l1, rfl, by decide, ?_⟩
    rw [Du]
    cases e2 : ks.any (fun k => decide (sgN d k = -1)) with
    | false =>
      simp only [Bool.false_eq_true, ↓reduceIte]
      exact tail (by unfold cQ; rw [e1, e2]; rfl)
    | true =>
      simp only [↓reduceIte]
      have : zG d ks = .none := by unfold zG cQ; rw [e1, e2]; rfl
      rw [this] at q
      exact q
theorem yH (h : j7 ds μ Qd) : lH { nx := fun _ μ' => Qd (.v .none) μ', rt := Qd } (aK ["share", "plan"] ds) μ := by
  obtain ⟨x, P, rfl, q⟩ := h
  unfold lH
  walk_at "rn"
  unfold uO at q
  by_cases c : x = one
  · rw [if_pos c] at q
    rw [if_pos (by simpa [one] using c)]
    exact q
  · rw [if_neg c] at q
    rw [if_neg (by simpa [one] using c)]
    exact q
theorem tU (h : oR ds μ Qd) : ik { nx := fun _ μ' => Qd (.v .none) μ', rt := Qd } (aK ["u", "first", "v", "second"] ds) μ := by
  obtain ⟨u, v, F, S, rfl, q⟩ := h
  unfold ik
  walk_at "rn"
  unfold C5 at q
  by_cases c : v = ay
  · rw [if_pos c] at q
    rw [if_pos (by simpa [ay] using c)]
    exact ⟨u, F, rfl, q⟩
  · rw [if_neg c] at q
    rw [if_neg (by simpa [ay] using c)]
    by_cases c2 : u = ay
    · rw [if_pos c2] at q
      rw [if_pos (by simpa [ay] using c2)]
      exact ⟨v, S, rfl, q⟩
    · rw [if_neg c2] at q
      rw [if_neg (by simpa [ay] using c2)]
      refine ⟨u, F, rfl, ?_⟩
      walk_at "rn"
      refine ⟨v, S, rfl, ?_⟩
      walk_at "rn"
      exact q
theorem se (h : qj ds μ Qd) : gL { nx := fun _ μ' => Qd (.v .none) μ', rt := Qd } (aK ["u", "v", "place", "kind"] ds) μ := by
  obtain ⟨u, v, i, rfl, q⟩ := h
  unfold gL
  walk_at "rn"
  exact ⟨u, v, _, _, rfl, q⟩
end
open PySem PySem.Spec PyProof.Rows NM
def grB (x : N3) : Bool := decide (x.a * x.b < 0)
def tS : DSp := fun ds μ Q => ∃ x : N3, ds = [.v (dN x)] ∧ Bd 4000 x ∧ Q (.v (.bool (grB x))) μ
theorem CT {μ : Mu} {Q : DK} {ds : List D} (h : tS ds μ Q) : ds.length = 1 := by obtain ⟨_, rfl, _⟩ := h; rfl
def grN (d : Int) (k : N3) : N3 := if grB (ar d k) = true then ar d k else k
def grP (d : Int) (k : N3) (i : Int) : PyData := if grB (ar d k) = true then Kk i else GA i
def lR : DSp := fun ds μ Q => ∃ (d : Int) (ks : List N3) (i : Nat), ds = [.v (.int d), .v (.tuple (ks.map dN)), .v (.int i)] ∧ aw d ∧ cE d ks ∧ i < ks.length ∧ Q (.v (.tuple [dN (grN d (ks.getD i ay)), grP d (ks.getD i ay) i])) μ
theorem yL {μ : Mu} {Q : DK} {ds : List D} (h : lR ds μ Q) : ds.length = 3 := by obtain ⟨_, _, _, rfl, _⟩ := h; rfl
def iOf (d : Int) (ks : List N3) (v : Int) : Nat := (xo v (ks.map (sgN d))).getD 0
def Js (d : Int) (ks : List N3) (s : N3) : PyData := C5 (OI d (grN d (ks.getD (iOf d ks 1) ay)) (grN d (ks.getD (iOf d ks (-1)) ay)) (if grB s = true then ar d s else s)) (Hb d (grN d (ks.getD (iOf d ks 1) ay)) (grN d (ks.getD (iOf d ks (-1)) ay)) (if grB s = true then ar d s else s)) (grP d (ks.getD (iOf d ks 1) ay) (iOf d ks 1 : Nat)) (grP d (ks.getD (iOf d ks (-1)) ay) (iOf d ks (-1) : Nat))
def JU (d : Int) (ks : List N3) (s : N3) : PyData := if grB s = true then .tuple [.str "turn", Js d ks s] else Js d ks s
def D0 (d : Int) (ks : List N3) : Nat := en d ks (ks.length - 1)
def pH (d : Int) (ks : List N3) : N3 := ks.getD (D0 d ks) ay
def dX (d : Int) (ks : List N3) (s : N3) : Bool := cQ d ks || eo d (pH d ks) s
structure SB (d : Int) (ks : List N3) (s : N3) : Prop where
  big : Bd 1300 s
  con : Bd 1420 (ar d s)
  low : dX d ks s = false → Bd 1000 s
theorem SB.of {d : Int} {ks : List N3} {s : N3} (hd : aw d) (os : Ok s) (hs : sg d s.a s.b = 1) (h : Bd 700 s) : SB d ks s := ⟨h.mono (by decide), (bS (jr hd.1 hd.2.1) (aN hd os hs) h).mono (by decide), fun _ => h.mono (by decide)⟩
def A0 : DSp := fun ds μ Q => ∃ (d : Int) (ks : List N3) (s : N3), ds = [.v (.int d), .v (.tuple (ks.map dN)), .v (dN s)] ∧ aw d ∧ cE d ks ∧ cQ d ks = true ∧ Ok s ∧ SB d ks s ∧ sg d s.a s.b = 1 ∧ Q (.v (JU d ks s)) μ
theorem Fx {μ : Mu} {Q : DK} {ds : List D} (h : A0 ds μ Q) : ds.length = 3 := by obtain ⟨_, _, _, rfl, _⟩ := h; rfl
def Gh (d : Int) (ks : List N3) (s : N3) : PyData :=
  if cQ d ks = true then .tuple [.str "plan", JU d ks s]
  else if eo d (pH d ks) s = true then .tuple [.str "plan", C5 (qZ d (pH d ks) s) (rn d (pH d ks) s) (GA (D0 d ks : Nat)) (Kk (D0 d ks : Nat))]
  else .tuple [.str "bar", KP d (pH d ks) s]
def zS : DSp := fun ds μ Q => ∃ (d : Int) (ks : List N3) (s : N3), ds = [.v (.int d), .v (.tuple (ks.map dN)), .v (dN s)] ∧ aw d ∧ cE d ks ∧ Ok s ∧ SB d ks s ∧ sg d s.a s.b = 1 ∧ Q (.v (Gh d ks s)) μ
theorem Fv {μ : Mu} {Q : DK} {ds : List D} (h : zS ds μ Q) : ds.length = 3 := by obtain ⟨_, _, _, rfl, _⟩ := h; rfl
def rm : DSp := fun ds μ Q => ∃ (d : Int) (ks : List N3) (s : N3), ds = [.v (.int d), .v (.tuple (ks.map dN)), .v (dN s)] ∧ aw d ∧ cE d ks ∧ Ok s ∧ SB d ks s ∧ sg d s.a s.b = 1 ∧ Q (.v (.bool (dX d ks s))) μ
theorem Ef {μ : Mu} {Q : DK} {ds : List D} (h : rm ds μ Q) : ds.length = 3 := by obtain ⟨_, _, _, rfl, _⟩ := h; rfl
def gf : DTS :=
  (bD (dOp rLt (cg (dOp aC (af 0) (dC (.int 0))) (dOp aC (af 0) (dC (.int 1)))) (dC (.int 0))))
def fA : DTS :=
  (aJ (bC (dOp aC (af 1) (af 2)) (au 3))
  (aJ (bC (cL (ab (dC (.str "kind")) (ab (af 2) aj))) (au 4))
  (aJ (dy (dB (ao tS (ab (ao bI (ab (af 0) (ab (af 3) aj))) aj))) (bD (cL (ab (ao bI (ab (af 0) (ab (af 3) aj))) (ab (cL (ab (dC (.str "turn")) (ab (af 4) aj))) aj)))) bU)
  (bD (cL (ab (af 3) (ab (af 4) aj)))))))
def jd : DTS :=
  (aJ (bC (ao tE (ab (af 0) (ab (af 1) aj))) (au 3))
  (aJ (bC (ao lR (ab (af 0) (ab (af 1) (ab (Ap (af 3) (dC (.int 1))) aj)))) (qL 2 (eh (au 4) (eh (au 5) sZ))))
  (aJ (bC (ao lR (ab (af 0) (ab (af 1) (ab (Ap (af 3) (vG (dC (.int 1)))) aj)))) (qL 2 (eh (au 6) (eh (au 7) sZ))))
  (aJ (bC (ao tS (ab (af 2) aj)) (au 8))
  (aJ (bC (ao oI (ab (af 0) (ab (af 4) (ab (af 6) (ab (dIf (dB (af 8)) (ao bI (ab (af 0) (ab (af 2) aj))) (af 2)) aj))))) (qL 2 (eh (au 9) (eh (au 10) sZ))))
  (aJ (bC (ao oR (ab (af 9) (ab (af 5) (ab (af 10) (ab (af 7) aj))))) (au 11))
  (bD (dIf (dB (af 8)) (cL (ab (dC (.str "turn")) (ab (af 11) aj))) (af 11)))))))))
def mP : DTS :=
  (aJ (mx (ao i9 (ab (af 0) (ab (af 1) aj))))
  (aJ (mx (ao fe (ab (af 0) (ab (af 2) aj))))
  (aJ (bC (ao Bz (ab (af 0) (ab (af 1) aj))) (au 3))
  (aJ (dy (dB (dOp C0 (af 3) (dC .none))) (bD (cL (ab (dC (.str "plan")) (ab (ao A0 (ab (af 0) (ab (af 1) (ab (af 2) aj)))) aj)))) bU)
  (aJ (bC (ao qe (ab (af 0) (ab (dOp aC (af 1) (af 3)) (ab (af 2) aj)))) (au 4))
  (aJ (dy (dB (dOp (d6 false) (dOp aC (af 4) (dC (.int 0))) (dC (.str "bar")))) (bD (af 4)) bU)
  (bD (cL (ab (dC (.str "plan")) (ab (ao qj (ab (dOp aC (af 4) (dC (.int 1))) (ab (dOp aC (af 4) (dC (.int 2))) (ab (af 3) aj)))) aj))))))))))
def qU : DTS :=
  (bD (dOp (d6 false) (dOp aC (ao zS (ab (af 0) (ab (af 1) (ab (af 2) aj)))) (dC (.int 0))) (dC (.str "plan"))))
section
variable {μ : Mu} {Qd : DK} {ds : List D}
theorem qr (h : tS ds μ Qd) : gf { nx := fun _ μ' => Qd (.v .none) μ', rt := Qd } (aK ["shape"] ds) μ := by
  obtain ⟨x, rfl, bx, q⟩ := h
  unfold gf
  walk_at "rn"
  exact ⟨fV bx.a bx.b (by decide), q⟩
theorem oZ (h : lR ds μ Qd) : fA { nx := fun _ μ' => Qd (.v .none) μ', rt := Qd } (aK ["d", "kinds", "place", "kind", "plan"] ds) μ := by
  obtain ⟨d, ks, i, rfl, hd, ho, hi, q⟩ := h
  have s5 := jr hd.1 hd.2.1
  obtain ⟨e1, hk⟩ := ey hi
  obtain ⟨ok, bk, sk⟩ := ho.ok _ hk
  have nk := aN hd ok sk
  have bc := bS s5 nk bk
  unfold fA
  walk_at "rn"
  rw [jG e1]
  walk_at "rn"
  refine ⟨d, _, rfl, s5, nk, bk.mono (by decide), _, rfl, bc.mono (by decide), ?_⟩
  unfold grN grP at q
  cases e : grB (ar d (ks.getD i ay)) with
  | true =>
    rw [e, if_pos rfl, if_pos rfl] at q
    simp only [↓reduceIte]
    exact ⟨d, _, rfl, s5, nk, bk.mono (by decide), q⟩
  | false =>
    rw [e, if_neg (by decide), if_neg (by decide)] at q
    simp only [Bool.false_eq_true, ↓reduceIte]
    exact q
theorem DZ {v : Int} : ∀ {l : List Int}, v ∈ l → ∃ j, xo v l = some j ∧ j < l.length ∧ l[j]? = some v
  | [], h => nomatch h
  | x :: r, h => by
    unfold xo
    by_cases e : x = v
    · rw [if_pos e]
      exact ⟨0, rfl, Nat.succ_pos _, by rw [e]; rfl⟩
    · rw [if_neg e]
      have h' : v ∈ r := (List.mem_cons.mp h).resolve_left (fun z => e z.symm)
      obtain ⟨j, h1, h2, h3⟩ := DZ h'
      exact ⟨j + 1, by rw [h1]; rfl, Nat.succ_lt_succ h2, h3⟩
theorem C4 {d : Int} {ks : List N3} {v : Int} (h : ks.any (fun k => decide (sgN d k = v)) = true) : xo v (ks.map (sgN d)) = some (iOf d ks v) ∧ iOf d ks v < ks.length ∧ sgN d (ks.getD (iOf d ks v) ay) = v := by
  obtain ⟨k, hk, hv⟩ := List.any_eq_true.mp h
  have hv' : sgN d k = v := by simpa using hv
  obtain ⟨j, h1, h2, h3⟩ := DZ (l := ks.map (sgN d)) (v := v) (by rw [← hv']; exact List.mem_map_of_mem hk)
  have e : iOf d ks v = j := by unfold iOf; rw [h1]; rfl
  rw [List.length_map] at h2
  refine ⟨by rw [e]; exact h1, by rw [e]; exact h2, ?_⟩
  rw [e]
  rw [List.getElem?_map] at h3
  obtain ⟨g1, g2⟩ := ey h2
  have g3 : ks[j]? = some (ks.getD j ay) := by rw [List.getD_eq_getElem?_getD, List.getElem?_eq_getElem h2]; rfl
  rw [g3] at h3
  exact Option.some.inj h3
theorem BD {d : Int} {k : N3} (ok : Ok k) (nk : norm d k ≠ 0) : (0 < norm d (ar d k) ↔ 0 < norm d k) ∧ (norm d (ar d k) < 0 ↔ norm d k < 0) := ki (ui ok nk)
structure PN (d : Int) (k : N3) : Prop where
  ok : Ok (grN d k)
  bd : Bd 286 (grN d k)
  sg : NM.sg d (grN d k).a (grN d k).b = 1
  pos : 0 < norm d (grN d k) ↔ 0 < norm d k
  neg : norm d (grN d k) < 0 ↔ norm d k < 0
theorem Md {d : Int} {k : N3} (hd : aw d) (ok : Ok k) (bk : Bd 140 k) (sk : sg d k.a k.b = 1) : PN d k := by
  have s5 := jr hd.1 hd.2.1
  have nk := aN hd ok sk
  have n := BD ok nk
  by_cases e : grB (ar d k) = true
  · have eg : grN d k = ar d k := if_pos e
    exact ⟨by rw [eg]; exact aE nk, by rw [eg]; exact bS s5 nk bk, by rw [eg]; exact dW hd ok sk, by rw [eg]; exact n.1, by rw [eg]; exact n.2⟩
  · have eg : grN d k = k := if_neg e
    exact ⟨by rw [eg]; exact ok, by rw [eg]; exact bk.mono (by decide), by rw [eg]; exact sk, by rw [eg], by rw [eg]⟩
theorem unlike {d : Int} {f g : N3} (hd : aw d) (of : Ok f) (og : Ok g) (hf : 0 < norm d f) (hg : norm d g < 0) : (shA d f g).b ≠ 0 := fun z => by
  have nf : norm d f ≠ 0 := by omega
  have r := xu of og nf (av of) (av og)
  have h := (xg r (fZ og nf)).mp z
  have h2 := (Int.mul_eq_zero.mp h).resolve_left of.cn
  have h3 : g.b * f.a = g.a * f.b := by omega
  have e : norm d g * (f.a * f.a) = g.a * g.a * norm d f := by
    unfold norm
    have : (g.a * g.a - d * g.b * g.b) * (f.a * f.a) = g.a * g.a * (f.a * f.a) - d * ((g.b * f.a) * (g.b * f.a)) := by grind
    rw [this, h3]
    grind
  have fa : f.a ≠ 0 := fun z => by
    have h0 : norm d f = f.a * f.a - d * f.b * f.b := rfl
    have h1 := dsq (d := d) (b := f.b) (by have := hd.1; omega)
    rw [z] at h0
    omega
  have h5 := sq_pos fa
  have h6 := Int.mul_neg_of_neg_of_pos hg h5
  have h7 := Int.mul_nonneg (sq_nonneg g.a) (Int.le_of_lt hf)
  omega
theorem K2 {d : Int} {k : N3} (h : sgN d k = 1) : 0 < norm d k := by
  unfold sgN at h
  rw [jq] at h
  split at h
  · cases h
  · split at h
    · assumption
    · cases h
theorem LU {d : Int} {k : N3} (h : sgN d k = -1) : norm d k < 0 := by
  unfold sgN at h
  rw [jq] at h
  split at h
  · cases h
  · split at h
    · cases h
    · omega
theorem vZ (h : A0 ds μ Qd) : jd { nx := fun _ μ' => Qd (.v .none) μ', rt := Qd } (aK ["d", "kinds", "shape", "signs", "first", "first_plan", "second", "second_plan", "is_contrary", "u", "v", "plan"] ds) μ := by
  obtain ⟨d, ks, s, rfl, hd, ho, hm, os, bs, hs, q⟩ := h
  have s5 := jr hd.1 hd.2.1
  have ns := aN hd os hs
  unfold cQ at hm
  rw [Bool.and_eq_true] at hm
  obtain ⟨i1, i2, i3⟩ := C4 hm.1
  obtain ⟨j1, j2, j3⟩ := C4 hm.2
  obtain ⟨ok1, bk1, sk1⟩ := ho.ok _ (ey i2).2
  obtain ⟨ok2, bk2, sk2⟩ := ho.ok _ (ey j2).2
  have g1 := Md hd ok1 bk1 sk1
  have g2 := Md hd ok2 bk2 sk2
  have un := unlike hd g1.ok g2.ok (g1.pos.mpr (K2 i3)) (g2.neg.mpr (LU j3))
  unfold jd
  walk_at "rn"
  refine ⟨d, ks, rfl, hd, ho, ?_⟩
  walk_at "rn"
  rw [G4]
  walk_at "rn"
  refine ⟨_, _, rfl, i1, d, ks, _, rfl, hd, ho, i2, ?_⟩
  walk_at "rn"
  refine ⟨trivial, ?_⟩
  rw [G4]
  walk_at "rn"
  refine ⟨_, _, rfl, j1, d, ks, _, rfl, hd, ho, j2, ?_⟩
  walk_at "rn"
  refine ⟨trivial, s, rfl, bs.big.mono (by decide), ?_⟩
  unfold JU Js at q
  cases e : grB s with
  | true =>
    rw [e, if_pos rfl, if_pos rfl] at q
    walk_at "rn"
    refine ⟨d, s, rfl, s5, ns, bs.big.mono (by decide), d, _, _, _, rfl, hd, g1.ok, eN g1.sg, g2.ok, aE ns, ⟨286, 286, 1420, g1.bd, g2.bd, bs.con, by decide, by decide, by decide, by decide⟩, un, ?_⟩
    walk_at "rn"
    refine ⟨trivial, _, _, _, _, rfl, ?_⟩
    exact q
  | false =>
    rw [e, if_neg (by decide), if_neg (by decide)] at q
    walk_at "rn"
    refine ⟨d, _, _, _, rfl, hd, g1.ok, eN g1.sg, g2.ok, os, ⟨286, 286, 1300, g1.bd, g2.bd, bs.big, by decide, by decide, by decide, by decide⟩, un, ?_⟩
    walk_at "rn"
    refine ⟨trivial, _, _, _, _, rfl, ?_⟩
    exact q
theorem Ek : SeqAt.shaped (.str "plan") = true := by decide +kernel
theorem BB : SeqAt.shaped (.str "bar") = true := by decide +kernel
theorem My : SeqAt.shaped (.str "mixture") = true := by decide +kernel
theorem AO {a b : Str} {neg : Bool} {μ : Mu} {Q : DK} (ha : SeqAt.shaped (.str a) = true) (hb : SeqAt.shaped (.str b) = true) : d6 neg (.v (.str a)) (.v (.str b)) μ Q = Q (.v (.bool (neg ^^ decide (a = b)))) μ := by
  rw [DJ]
  have e : PyData.eqv (.str a) (.str b) = decide (a = b) := by simp [PyData.eqv]; rfl
  rw [e]
  exact propext ⟨fun h => h.2.2, fun h => ⟨ha, hb, h⟩⟩
theorem Cu {d : Int} {ks : List N3} (hd : aw d) (ho : cE d ks) : D0 d ks < ks.length := by
  have l1 := ho.l1
  have hc : ∀ i, i < ks.length → 0 < (aO d (ks.getD i ay)).c := fun i hi => by
    obtain ⟨ok, _, sk⟩ := ho.ok _ (ey hi).2
    exact (dU hd (aN hd ok sk) ok).c
  have := (qa hc (ks.length - 1) (by omega)).1
  unfold D0
  omega
theorem Bj (h : zS ds μ Qd) : mP { nx := fun _ μ' => Qd (.v .none) μ', rt := Qd } (aK ["d", "kinds", "shape", "place", "told"] ds) μ := by
  obtain ⟨d, ks, s, rfl, hd, ho, os, bs, hs, q⟩ := h
  unfold mP
  walk_at "rn"
  refine ⟨d, ks, rfl, hd, ho.l1, ho.l3, ho.ok, d, s, rfl, hd, os, bs.big.mono (by decide), hs, d, ks, rfl, hd, ho, ?_⟩
  unfold Gh at q
  unfold zG
  cases hm : cQ d ks with
  | true =>
    rw [hm, if_pos rfl] at q
    rw [if_pos rfl]
    rw [KN]
    simp only [↓reduceIte]
    exact ⟨d, ks, s, rfl, hd, ho, hm, os, bs, hs, q⟩
  | false =>
    rw [hm, if_neg (by decide)] at q
    rw [if_neg (by decide)]
    have hlt := Cu hd ho
    obtain ⟨e1, hk⟩ := ey hlt
    obtain ⟨ok, bk, sk⟩ := ho.ok _ hk
    walk_at "rn"
    rw [Lf]
    simp only [Bool.false_eq_true, ↓reduceIte]
    have e2 : atI (ks.map dN) ((en d ks (ks.length - 1) : Nat) : Int) = some (dN (pH d ks)) := jG e1
    rw [e2]
    refine ⟨d, pH d ks, s, rfl, hd, ok, bk.mono (by decide), sk, os, ⟨bs.big, fun z => bs.low (by unfold dX; rw [hm, z]; rfl)⟩, hs, ?_⟩
    unfold Ld
    cases hx : eo d (pH d ks) s with
    | true =>
      rw [hx, if_pos rfl] at q
      rw [if_pos rfl]
      walk_at "rn"
      rw [AO My BB]
      simp only [show decide (("mixture" : Str) = "bar") = false from by decide, Bool.xor_false, Bool.false_eq_true, ↓reduceIte]
      exact ⟨_, _, _, rfl, q⟩
    | false =>
      rw [hx, if_neg (by decide)] at q
      rw [if_neg (by decide)]
      walk_at "rn"
      rw [AO BB BB]
      simp only [decide_true, Bool.false_xor, ↓reduceIte]
      exact q
theorem NI {d : Int} {ks : List N3} {s : N3} {Q : DK} : (aC (.v (Gh d ks s)) (.v (.int 0)) μ Q) = Q (.v (.str (if dX d ks s = true then "plan" else "bar"))) μ := by
  unfold Gh dX
  cases cQ d ks
  · cases eo d (pH d ks) s <;> rfl
  · rfl
theorem EL (h : rm ds μ Qd) : qU { nx := fun _ μ' => Qd (.v .none) μ', rt := Qd } (aK ["d", "kinds", "shape"] ds) μ := by
  obtain ⟨d, ks, s, rfl, hd, ho, os, bs, hs, q⟩ := h
  unfold qU
  walk_at "rn"
  refine ⟨d, ks, s, rfl, hd, ho, os, bs, hs, ?_⟩
  dsimp only
  rw [NI]
  cases e : dX d ks s with
  | true =>
    rw [e] at q
    rw [if_pos rfl, AO Ek Ek]
    exact q
  | false =>
    rw [e] at q
    rw [if_neg (by decide), AO BB Ek]
    exact q
end
open PySem PySem.Spec PyProof.Rows NM
section
variable {μ : Mu} {Qd : DK} {ds : List D}
end
open PySem PySem.Spec PyProof.Rows NM
section
variable {d : Int} {k s k2 : N3} {w : Int}
structure vM (d : Int) (k s : N3) (w : Int) : Prop where
  hd : aw d
  ok : Ok k
  hk : sg d k.a k.b = 1
  os : Ok s
  hs : sg d s.a s.b = 1
  ne : mT s w ≠ ay
theorem vM.ht (h : vM d k s w) : qM d s w = 1 ∨ qM d s w = -1 := Dh (gE h.os) h.ne
theorem vM.nm (h : vM d k s w) : norm d (bR s) ≠ 0 := by rw [zx]; exact aN h.hd h.os h.hs
theorem vM.ol (h : vM d k s w) : Ok (bLast d s w) := aB (aB (jP h.ht) (gE h.os)) (aE h.nm)
theorem vM.nl (h : vM d k s w) : bLast d s w ≠ ay := iZ h.hd (aB (jP h.ht) (gE h.os)) (aE h.nm) (iZ h.hd (jP h.ht) (gE h.os) (Gi h.ht) h.ne) (Kf h.hd (aT h.os) (p4 (eN h.hs)))
theorem vM.nn (h : vM d k s w) : norm d (bLast d s w) ≠ 0 := h.hd.norm h.ol h.nl
theorem J3 : Ok ⟨4, 0, 1⟩ := GK 4
theorem Nv (hd : aw d) (ok : Ok k) (hk : sg d k.a k.b = 1) : norm d (times d ⟨4, 0, 1⟩ (times d k (bR k))) ≠ 0 := hd.norm (aB J3 (aB ok (aT ok))) (iZ hd J3 (aB ok (aT ok)) (fun e => absurd (congrArg N3.a e) (by decide)) (iZ hd ok (aT ok) (eN hk) (p4 (eN hk))))
theorem LY (hd : aw d) (ok : Ok k) (hk : sg d k.a k.b = 1) : Ok (zg d k w) := aB (aB (gE ok) (gE ok)) (aE (Nv hd ok hk))
def bP (d : Int) (k s : N3) (w : Int) : N3 := times d (zg d k w) (ar d (bLast d s w))
theorem vM.op (h : vM d k s w) : Ok (bP d k s w) := aB (LY h.hd h.ok h.hk) (aE h.nn)
end
open PySem PySem.Spec PyProof.Rows NM
section
variable {d : Int} {k s k2 : N3} {w : Int}
theorem wL (hd : aw d) (ok : Ok k) (hk : sg d k.a k.b = 1) (h : 0 < norm d k) : bK d k = 1 := by
  rcases rD hd ok hk with ⟨a, b⟩ | ⟨a, b⟩
  · exact a
  · omega
theorem xJ (hd : aw d) (ok : Ok k) (hk : sg d k.a k.b = 1) (h : norm d k < 0) : bK d k = -1 := by
  rcases rD hd ok hk with ⟨a, b⟩ | ⟨a, b⟩
  · omega
  · exact a
end
open PySem PySem.Spec PyProof.Rows NM
section
variable {d : Int} {k s k2 : N3} {w : Int}
end
open PySem PySem.Spec PyProof.Rows NM
section
variable {d : Int} {k s m : N3}
theorem Jd (h : norm d k ≠ 0) : Lay d k k := by
  rcases Int.lt_or_gt_of_ne h with z | z
  · exact .inr ⟨z, z, by rw [Int.mul_comm]; exact Int.le_refl _⟩
  · exact .inl ⟨z, z, by rw [Int.mul_comm]; exact Int.le_refl _⟩
theorem tr1 {x y u v p q : Int} (hu : 0 < u) (hx : 0 ≤ x) (hq : 0 ≤ q) (h1 : v * y ≤ u * x) (h2 : p * u ≤ q * v) (hy : 0 ≤ y) : p * y ≤ q * x := by
  have a := Int.mul_le_mul_of_nonneg_right h2 hy
  have b := Int.mul_le_mul_of_nonneg_left h1 hq
  have c : u * (q * x - p * y) = (q * (u * x) - q * (v * y)) + (q * v * y - p * u * y) := by grind
  have e : 0 ≤ (q * x - p * y) * u := by rw [Int.mul_comm, c]; omega
  rw [ij hu] at e
  omega
theorem Hn (hd : aw d) (h1 : Lay d k m) (h2 : Lay d m s) : Lay d k s := by
  have d0 : 0 < d := by have := hd.1; omega
  rcases h1 with ⟨a, b, c⟩ | ⟨a, b, c⟩ <;> rcases h2 with ⟨a', b', c'⟩ | ⟨a', b', c'⟩
  · have hm : 0 < m.a * m.a := by have := dsq (d := d) (b := m.b) d0; have e : norm d m = m.a * m.a - d * m.b * m.b := rfl; omega
    exact .inl ⟨a, b', tr1 hm (sq_nonneg _) (sq_nonneg _) c c' (sq_nonneg _)⟩
  · omega
  · omega
  · have hm : 0 < m.b * m.b := by
      rcases Classical.em (m.b = 0) with z | z
      · have e : norm d m = m.a * m.a - d * m.b * m.b := rfl
        rw [z] at e
        have := sq_nonneg m.a
        omega
      · exact sq_pos z
    exact .inr ⟨a, b', tr1 hm (sq_nonneg _) (sq_nonneg _) c c' (sq_nonneg _)⟩
theorem tK (hd : aw d) (ok : Ok k) (nk : norm d k ≠ 0) : ((aO d k).a.natAbs : Int) * ((norm d k).natAbs : Int) = 4 * (k.a * k.a) * (aO d k).c := by
  have r := my hd ok nk
  have e := congrArg Int.natAbs r.a
  rw [Int.natAbs_mul] at e
  have hc := (dU hd nk ok).c
  have h0 : 0 ≤ 4 * (k.a * k.a) * (aO d k).c := Int.mul_nonneg (Int.mul_nonneg (by decide) (sq_nonneg _)) (by omega)
  have e2 : ((4 * (k.a * k.a) * (aO d k).c).natAbs : Int) = 4 * (k.a * k.a) * (aO d k).c := Int.natAbs_of_nonneg h0
  rw [← e2, ← e]
  rfl
theorem uK (hd : aw d) (ok : Ok k) (om : Ok m) (hs : (0 < norm d k ∧ 0 < norm d m) ∨ (norm d k < 0 ∧ norm d m < 0)) (h : ¬ gtL d m k) : Lay d k m := by
  have nk : norm d k ≠ 0 := by omega
  have nm : norm d m ≠ 0 := by omega
  have d0 : 0 < d := by have := hd.1; omega
  have ak := tK hd ok nk
  have am := tK hd om nm
  have ck := (dU hd nk ok).c
  have cm := (dU hd nm om).c
  unfold gtL at h
  have h1 : ((aO d m).a.natAbs : Int) * (aO d k).c ≤ ((aO d k).a.natAbs : Int) * (aO d m).c := by omega
  have pk : (0 : Int) < ((norm d k).natAbs : Int) := by omega
  have pm : (0 : Int) < ((norm d m).natAbs : Int) := by omega
  generalize ((aO d m).a.natAbs : Int) = A at *
  generalize ((aO d k).a.natAbs : Int) = B at *
  generalize (aO d k).c = C at *
  generalize (aO d m).c = E at *
  have key : 0 ≤ (k.a * k.a * ((norm d m).natAbs : Int) - m.a * m.a * ((norm d k).natAbs : Int)) * (4 * (C * E)) := by
    have h2 : 0 ≤ (B * E - A * C) * (((norm d k).natAbs : Int) * ((norm d m).natAbs : Int)) := Int.mul_nonneg (by omega) (Int.mul_nonneg (by omega) (by omega))
    have e : (B * E - A * C) * (((norm d k).natAbs : Int) * ((norm d m).natAbs : Int)) = (B * ((norm d k).natAbs : Int)) * (E * ((norm d m).natAbs : Int)) - (A * ((norm d m).natAbs : Int)) * (C * ((norm d k).natAbs : Int)) := by grind
    rw [e, ak, am] at h2
    have e2 : 4 * (k.a * k.a) * C * (E * ((norm d m).natAbs : Int)) - 4 * (m.a * m.a) * E * (C * ((norm d k).natAbs : Int)) = (k.a * k.a * ((norm d m).natAbs : Int) - m.a * m.a * ((norm d k).natAbs : Int)) * (4 * (C * E)) := by grind
    rw [e2] at h2
    exact h2
  rw [ij (Int.mul_pos (by decide) (Int.mul_pos ck cm))] at key
  rcases hs with ⟨a, b⟩ | ⟨a, b⟩
  · refine .inl ⟨a, b, ?_⟩
    rw [Int.natAbs_of_nonneg (Int.le_of_lt a), Int.natAbs_of_nonneg (Int.le_of_lt b)] at key
    have e : k.a * k.a * norm d m - m.a * m.a * norm d k = (m.a * m.a * (k.b * k.b) - m.b * m.b * (k.a * k.a)) * d := by unfold norm; grind
    rw [e, ij d0] at key
    omega
  · refine .inr ⟨a, b, ?_⟩
    have ea : ((norm d k).natAbs : Int) = -norm d k := by omega
    have eb : ((norm d m).natAbs : Int) = -norm d m := by omega
    rw [ea, eb] at key
    have e : k.a * k.a * -norm d m - m.a * m.a * -norm d k = (m.b * m.b * (k.a * k.a) - m.a * m.a * (k.b * k.b)) * d := by unfold norm; grind
    rw [e, ij d0] at key
    omega
theorem w4 {ks : List N3} (hd : aw d) (ho : cE d ks) (hm : cQ d ks = false) {x y : N3} (hx : x ∈ ks) (hy : y ∈ ks) : (0 < norm d x ∧ 0 < norm d y) ∨ (norm d x < 0 ∧ norm d y < 0) := by
  obtain ⟨ox, _, sx⟩ := ho.ok x hx
  obtain ⟨oy, _, sy⟩ := ho.ok y hy
  have nx := aN hd ox sx
  have ny := aN hd oy sy
  have sp : ∀ z : N3, norm d z ≠ 0 → (0 < norm d z → sgN d z = 1) ∧ (norm d z < 0 → sgN d z = -1) := fun z hz => by
    unfold sgN
    rw [jq, if_neg hz]
    exact ⟨fun h => by rw [if_pos h], fun h => by rw [if_neg (by omega)]⟩
  have no : ∀ {p n : N3}, p ∈ ks → n ∈ ks → sgN d p = 1 → sgN d n = -1 → False := fun {p n} hp hn e1 e2 => by
    have a : ks.any (fun k => decide (sgN d k = 1)) = true := List.any_eq_true.mpr ⟨p, hp, by simp [e1]⟩
    have b : ks.any (fun k => decide (sgN d k = -1)) = true := List.any_eq_true.mpr ⟨n, hn, by simp [e2]⟩
    unfold cQ at hm
    rw [a, b] at hm
    cases hm
  rcases Int.lt_or_gt_of_ne nx with a | a <;> rcases Int.lt_or_gt_of_ne ny with b | b
  · exact .inr ⟨a, b⟩
  · exact (no hy hx ((sp y ny).1 b) ((sp x nx).2 a)).elim
  · exact (no hx hy ((sp x nx).1 a) ((sp y ny).2 b)).elim
  · exact .inl ⟨a, b⟩
theorem uv {ks : List N3} (hd : aw d) (ho : cE d ks) : pH d ks ∈ ks := (ey (Cu hd ho)).2
theorem Ja {ks : List N3} (hd : aw d) (ho : cE d ks) (hm : cQ d ks = false) {x : N3} (hx : x ∈ ks) : Lay d (pH d ks) x := by
  have hM := uv hd ho
  obtain ⟨oM, _, sM⟩ := ho.ok _ hM
  obtain ⟨ox, _, sx⟩ := ho.ok x hx
  have l1 := ho.l1
  have hc : ∀ i, i < ks.length → 0 < (aO d (ks.getD i ay)).c := fun i hi => by
    obtain ⟨ok, _, sk⟩ := ho.ok _ (ey hi).2
    exact (dU hd (aN hd ok sk) ok).c
  obtain ⟨j, hj, e⟩ := List.mem_iff_getElem.mp hx
  have e2 : ks.getD j ay = x := by rw [List.getD_eq_getElem?_getD, List.getElem?_eq_getElem hj, e]; rfl
  have := (qa hc (ks.length - 1) (by omega)).2.1 j (by omega)
  rw [e2] at this
  exact uK hd oM ox (w4 hd ho hm hM hx) this
theorem ub {ks : List N3} (hd : aw d) (ho : cE d ks) (os : Ok s) (hs : sg d s.a s.b = 1) : dX d ks s = true ↔ cQ d ks = true ∨ ∃ k ∈ ks, Lay d k s := by
  have hM := uv hd ho
  obtain ⟨oM, _, sM⟩ := ho.ok _ hM
  unfold dX
  rw [Bool.or_eq_true]
  cases hm : cQ d ks with
  | true => simp
  | false =>
    rw [sG hd oM os sM hs]
    constructor
    · rintro (h | h)
      · cases h
      · exact .inr ⟨_, hM, h⟩
    · rintro (h | ⟨k, hk, h⟩)
      · cases h
      · exact .inr (Hn hd (Ja hd ho hm hk) h)
theorem zw {ks : List N3} (hd : aw d) (ho : cE d ks) : cQ d ks = true ↔ (∃ k ∈ ks, 0 < norm d k) ∧ ∃ k ∈ ks, norm d k < 0 := by
  have sp : ∀ z ∈ ks, (sgN d z = 1 ↔ 0 < norm d z) ∧ (sgN d z = -1 ↔ norm d z < 0) := fun z hz => by
    obtain ⟨oz, _, sz⟩ := ho.ok z hz
    have nz := aN hd oz sz
    unfold sgN
    rw [jq, if_neg nz]
    split <;> omega
  unfold cQ
  rw [Bool.and_eq_true, List.any_eq_true, List.any_eq_true]
  constructor
  · rintro ⟨⟨x, hx, a⟩, ⟨y, hy, b⟩⟩
    exact ⟨⟨x, hx, (sp x hx).1.mp (by simpa using a)⟩, ⟨y, hy, (sp y hy).2.mp (by simpa using b)⟩⟩
  · rintro ⟨⟨x, hx, a⟩, ⟨y, hy, b⟩⟩
    exact ⟨⟨x, hx, by simpa using (sp x hx).1.mpr a⟩, ⟨y, hy, by simpa using (sp y hy).2.mpr b⟩⟩
theorem Fc {a b : Bool} (h : a = true ↔ b = true) : a = b := by cases a <;> cases b <;> simp_all
theorem Di {ks ls : List N3} (hd : aw d) (ho : cE d ks) (hl : cE d ls) (os : Ok s) (hs : sg d s.a s.b = 1) {t : N3} (ot : Ok t) (ht : sg d t.a t.b = 1) (hr : Ray d s t) (h1 : ∀ k ∈ ks, ∃ l ∈ ls, Ray d k l) (h2 : ∀ l ∈ ls, ∃ k ∈ ks, Ray d k l) : dX d ls t = dX d ks s := by
  refine Fc ?_
  rw [ub hd ho os hs, ub hd hl ot ht, zw hd ho, zw hd hl]
  constructor
  · rintro (⟨⟨x, hx, a⟩, ⟨y, hy, b⟩⟩ | ⟨l, hl, h⟩)
    · obtain ⟨x', hx', rx⟩ := h2 x hx
      obtain ⟨y', hy', ry⟩ := h2 y hy
      exact .inl ⟨⟨x', hx', (ki rx).1.mp a⟩, ⟨y', hy', (ki ry).2.mp b⟩⟩
    · obtain ⟨k, hk, rk⟩ := h2 l hl
      exact .inr ⟨k, hk, (DC rk).mp ((Gx hr).mp h)⟩
  · rintro (⟨⟨x, hx, a⟩, ⟨y, hy, b⟩⟩ | ⟨k, hk, h⟩)
    · obtain ⟨x', hx', rx⟩ := h1 x hx
      obtain ⟨y', hy', ry⟩ := h1 y hy
      exact .inl ⟨⟨x', hx', (ki rx).1.mpr a⟩, ⟨y', hy', (ki ry).2.mpr b⟩⟩
    · obtain ⟨l, hl, rl⟩ := h1 k hk
      exact .inr ⟨l, hl, (Gx hr).mpr ((DC rl).mpr h)⟩
theorem tT : Ray d s s := ⟨1, 1, by decide, by decide, rfl, .inl rfl⟩
theorem HB {ks : List N3} {o : N3} (hd : aw d) (ho : cE d ks) (os : Ok s) (oo : Ok o) (h1 : dX d ks s = true) (h2 : dX d ks o = true) : dX d ks (plus s o) = true := by
  obtain ⟨oM, _, sM⟩ := ho.ok _ (uv hd ho)
  unfold dX at *
  cases hm : cQ d ks with
  | true => rfl
  | false =>
    rw [hm, Bool.false_or] at h1 h2
    rw [Bool.false_or]
    exact J7 oM os oo (aN hd oM sM) h1 h2
theorem HP {ks : List N3} (hd : aw d) (ho : cE d ks) {x : N3} (hx : x ∈ ks) : dX d ks x = true := by
  obtain ⟨ox, _, sx⟩ := ho.ok x hx
  rw [ub hd ho ox sx]
  exact .inr ⟨x, hx, Jd (aN hd ox sx)⟩
theorem D8 {k : N3} : dX d [k] s = eo d k s := by
  unfold dX
  have e : cQ d [k] = false := by
    unfold cQ
    simp only [List.any_cons, List.any_nil, Bool.or_false]
    cases h : decide (sgN d k = 1) with
    | false => rfl
    | true =>
      have : sgN d k = 1 := by simpa using h
      rw [this]; rfl
  rw [e, Bool.false_or]
  rfl
end
open PySem PySem.Spec PyProof.Rows NM
section
variable {d : Int} {k s m u v : N3}
theorem zl (hd : aw d) (ok : Ok k) (om : Ok m) (nk : norm d k ≠ 0) (nm : norm d m ≠ 0) (h : Lay d k m) : ¬ gtL d m k := fun z => by
  have d0 : 0 < d := by have := hd.1; omega
  have ak := tK hd ok nk
  have am := tK hd om nm
  have ck := (dU hd nk ok).c
  have cm := (dU hd nm om).c
  unfold gtL at z
  have pk : (0 : Int) < ((norm d k).natAbs : Int) := by omega
  have pm : (0 : Int) < ((norm d m).natAbs : Int) := by omega
  generalize ((aO d m).a.natAbs : Int) = A at *
  generalize ((aO d k).a.natAbs : Int) = B at *
  generalize (aO d k).c = C at *
  generalize (aO d m).c = E at *
  have key : 0 < (m.a * m.a * ((norm d k).natAbs : Int) - k.a * k.a * ((norm d m).natAbs : Int)) * (4 * (C * E)) := by
    have h2 : 0 < (A * C - B * E) * (((norm d k).natAbs : Int) * ((norm d m).natAbs : Int)) := Int.mul_pos (by omega) (Int.mul_pos (by omega) (by omega))
    have e : (A * C - B * E) * (((norm d k).natAbs : Int) * ((norm d m).natAbs : Int)) = (A * ((norm d m).natAbs : Int)) * (C * ((norm d k).natAbs : Int)) - (B * ((norm d k).natAbs : Int)) * (E * ((norm d m).natAbs : Int)) := by grind
    rw [e, ak, am] at h2
    have e2 : 4 * (m.a * m.a) * E * (C * ((norm d k).natAbs : Int)) - 4 * (k.a * k.a) * C * (E * ((norm d m).natAbs : Int)) = (m.a * m.a * ((norm d k).natAbs : Int) - k.a * k.a * ((norm d m).natAbs : Int)) * (4 * (C * E)) := by grind
    rw [e2] at h2
    exact h2
  have key2 := IP key (Int.mul_pos (by decide) (Int.mul_pos ck cm))
  rcases h with ⟨a, b, c⟩ | ⟨a, b, c⟩
  · rw [Int.natAbs_of_nonneg (Int.le_of_lt a), Int.natAbs_of_nonneg (Int.le_of_lt b)] at key2
    have e : m.a * m.a * norm d k - k.a * k.a * norm d m = (m.b * m.b * (k.a * k.a) - m.a * m.a * (k.b * k.b)) * d := by unfold norm; grind
    rw [e] at key2
    have := IP key2 d0
    omega
  · have ea : ((norm d k).natAbs : Int) = -norm d k := by omega
    have eb : ((norm d m).natAbs : Int) = -norm d m := by omega
    rw [ea, eb] at key2
    have e : m.a * m.a * -norm d k - k.a * k.a * -norm d m = (m.a * m.a * (k.b * k.b) - m.b * m.b * (k.a * k.a)) * d := by unfold norm; grind
    rw [e] at key2
    have := IP key2 d0
    omega
theorem Jl (hd : aw d) (ok : Ok k) (os : Ok s) (hk : sg d k.a k.b = 1) (hs : sg d s.a s.b = 1) : eo d k s = (decide (bK d s = bK d k) && (if 0 < bK d k then !decide (dif d (aO d s) (aO d k) = 1) else !decide (dif d (aO d k) (aO d s) = 1))) := by
  have nk := aN hd ok hk
  have ns := aN hd os hs
  refine Fc ?_
  rw [sG hd ok os hk hs, Bool.and_eq_true, decide_eq_true_eq]
  rcases rD hd ok hk with ⟨a, b⟩ | ⟨a, b⟩ <;> rcases rD hd os hs with ⟨a', b'⟩ | ⟨a', b'⟩
  · rw [a, a', if_pos (by decide), Bool.not_eq_true', decide_eq_false_iff_not]
    have g : dif d (aO d s) (aO d k) = 1 ↔ gtL d s k := Mx hd ok os b b'
    rw [g]
    exact ⟨fun h => ⟨rfl, zl hd ok os nk ns h⟩, fun h => uK hd ok os (.inl ⟨b, b'⟩) h.2⟩
  · rw [a, a']
    refine ⟨fun h => ?_, fun h => absurd h.1 (by decide)⟩
    rcases h with ⟨_, z, _⟩ | ⟨z, _, _⟩ <;> omega
  · rw [a, a']
    refine ⟨fun h => ?_, fun h => absurd h.1 (by decide)⟩
    rcases h with ⟨z, _, _⟩ | ⟨_, z, _⟩ <;> omega
  · rw [a, a', if_neg (by decide), Bool.not_eq_true', decide_eq_false_iff_not]
    have g : dif d (aO d k) (aO d s) = 1 ↔ gtL d s k := Oh hd ok os b b'
    rw [g]
    exact ⟨fun h => ⟨rfl, zl hd ok os nk ns h⟩, fun h => uK hd ok os (.inr ⟨b, b'⟩) h.2⟩
theorem xj {n : Nat} (hd : aw d) (ok : Ok k) (nk : norm d k ≠ 0) (bk : Bd n k) : Bd (2 * n + 6) (aO d k) := by
  have s5 := jr hd.1 hd.2.1
  refine (my hd ok nk).bd (dU hd nk ok) ?_ sz0 (sD s5 bk)
  have := (Sz.mul (n := 4) (i := 4) (Sz.of (by decide)) (bk.a.mul bk.a))
  exact this.mono (by omega)
def N8 (d : Int) (u v k : N3) : N3 := plus (times d u k) (times d v (ar d k))
theorem Mv (hd : aw d) (ok : Ok k) (hk : sg d k.a k.b = 1) (ou : Ok u) (ov : Ok v) (hu : u = ay ∨ sg d u.a u.b = 1) (hv : v = ay ∨ sg d v.a v.b = 1) (hn : ¬ (u = ay ∧ v = ay)) : sg d (N8 d u v k).a (N8 d u v k).b = 1 := by
  have nk := aN hd ok hk
  have oc := aE nk
  have hc := dW hd ok hk
  unfold N8
  rcases hu with rfl | hu
  · rw [OZ ok, L7 (aB ov oc)]
    rcases hv with rfl | hv
    · exact absurd ⟨rfl, rfl⟩ hn
    · rw [cT hd ov oc, hv, hc]; rfl
  · have h1 : sg d (times d u k).a (times d u k).b = 1 := by rw [cT hd ou ok, hu, hk]; rfl
    rcases hv with rfl | hv
    · rw [OZ oc, Pz (aB ou ok)]; exact h1
    · exact uU hd (aB ou ok) (aB ov oc) h1 (by rw [cT hd ov oc, hv, hc]; rfl)
end
open PySem PySem.Spec PyProof.Rows NM
inductive Pn where
  | kind (i : Nat)
  | turn (p : Pn)
  | zT (u v : Int) (p : Pn)
  | two (b : Bool) (p q : Pn)
  | three (b : Bool) (p q r : Pn)
def wdS (b : Bool) : Str := if b = true then "upon" else "beside"
def Pn.data : Pn → PyData
  | .kind i => .tuple [.str "kind", .int i]
  | .turn p => .tuple [.str "turn", p.data]
  | .zT u v p => .tuple [.str "grid", .int u, .int v, p.data]
  | .two b p q => .tuple [.str (wdS b), .tuple [p.data, q.data]]
  | .three b p q r => .tuple [.str (wdS b), .tuple [p.data, q.data, r.data]]
def Pn.depth : Pn → Nat
  | .kind _ => 1
  | .turn p => p.depth + 1
  | .zT _ _ p => p.depth + 1
  | .two _ p q => max p.depth q.depth + 1
  | .three _ p q r => max p.depth (max q.depth r.depth) + 1
def Pn.good (m : Nat) : Pn → Prop
  | .kind i => i < m
  | .turn p => p.good m
  | .zT u v p => (0 < u ∧ u ≤ 1000 ∧ 0 < v ∧ v ≤ 1000) ∧ p.good m
  | .two _ p q => p.good m ∧ q.good m
  | .three _ p q r => p.good m ∧ q.good m ∧ r.good m
def cS (d : Int) (b : Bool) (x : N3) : N3 := if b = true then x else ar d x
def Pn.shape (d : Int) (ks : List N3) : Pn → N3
  | .kind i => ks.getD i ay
  | .turn p => ar d (p.shape d ks)
  | .zT u v p => times d (low v 0 u) (p.shape d ks)
  | .two b p q => cS d b (plus (plus ay (cS d b (p.shape d ks))) (cS d b (q.shape d ks)))
  | .three b p q r => cS d b (plus (plus (plus ay (cS d b (p.shape d ks))) (cS d b (q.shape d ks))) (cS d b (r.shape d ks)))
theorem Pn.qh (p : Pn) : 1 ≤ p.depth := by cases p <;> simp only [Pn.depth] <;> omega
section
variable {d : Int} {x y : N3} {n m : Nat}
theorem Rep.mul {A B C k : Int} (hk : k ≠ 0) (h : Rep x A B C) : Rep x (k * A) (k * B) (k * C) := ⟨Int.mul_ne_zero hk h.c, by have := h.a; grind, by have := h.b; grind⟩
structure Rq (d : Int) (n : Nat) (x : N3) : Prop where
  ex : ∃ A B C E : Int, Sz n A ∧ Sz n B ∧ Sz n C ∧ Sz n E ∧ Rep x (A * C - d * B * E) (B * C - A * E) (C * C - d * E * E)
theorem Rq.mono (h : Rq d n x) (l : n ≤ m) : Rq d m x := by
  obtain ⟨A, B, C, E, a, b, c, e, r⟩ := h.ex
  exact ⟨A, B, C, E, a.mono l, b.mono l, c.mono l, e.mono l, r⟩
theorem Rq.self (ox : Ok x) (bx : Bd n x) : Rq d n x := by
  refine ⟨x.a, x.b, x.c, 0, bx.a, bx.b, bx.c, sz0, ?_⟩
  have := Rep.mul ox.cn (av ox)
  exact Rep.congr this (by grind) (by grind) (by grind)
theorem Rq.bd (s5 : Sz 5 d) (ox : Ok x) (h : Rq d n x) : Bd (2 * n + 6) x := by
  obtain ⟨A, B, C, E, a, b, c, e, r⟩ := h.ex
  have l1 : Sz (2 * n + 5) (A * C) := (a.mul c).mono (by omega)
  have l2 : Sz (2 * n + 5) (d * B * E) := ((s5.mul b).mul e).mono (by omega)
  have l3 : Sz (2 * n + 5) (B * C) := (b.mul c).mono (by omega)
  have l4 : Sz (2 * n + 5) (A * E) := (a.mul e).mono (by omega)
  have l5 : Sz (2 * n + 5) (C * C) := (c.mul c).mono (by omega)
  have l6 : Sz (2 * n + 5) (d * E * E) := ((s5.mul e).mul e).mono (by omega)
  exact r.bd ox (l1.sub l2) (l3.sub l4) (l5.sub l6)
theorem Rq.ar (ox : Ok x) (hn : norm d x ≠ 0) (h : Rq d n x) : Rq d n (ar d x) := by
  obtain ⟨A, B, C, E, a, b, c, e, r⟩ := h.ex
  refine ⟨C, E, A, B, c, e, a, b, ?_⟩
  have r2 := Rep.ar ox hn r
  have hN := r.c
  have hk : (C * C - d * E * E) ≠ 0 := hN
  refine Rep.div hk (Rep.congr r2 (by grind) (by grind) (by grind))
theorem Rq.PB {u v : Int} (ox : Ok x) (u0 : 0 < u) (u1 : u ≤ 1000) (v0 : 0 < v) (v1 : v ≤ 1000) (h : Rq d n x) : Rq d (n + 10) (times d (low v 0 u) x) := by
  obtain ⟨A, B, C, E, a, b, c, e, r⟩ := h.ex
  have un : u ≠ 0 := by omega
  have zu : Sz 10 u := Sz.of (by show u.natAbs < 1024; omega)
  have zv : Sz 10 v := Sz.of (by show v.natAbs < 1024; omega)
  refine ⟨v * A, v * B, u * C, u * E, (zv.mul a).mono (by omega), (zv.mul b).mono (by omega), (zu.mul c).mono (by omega), (zu.mul e).mono (by omega), ?_⟩
  have r2 := Rep.mul un (Rep.times (d := d) (fX v 0 un) ox (hZ (a := v) (b := 0) un) r)
  exact Rep.congr r2 (by grind) (by grind) (by grind)
theorem Rq.plus (s5 : Sz 5 d) (ox : Ok x) (oy : Ok y) (h : Rq d n x) (g : Rq d m y) : Rq d (n + m + 7) (plus x y) := by
  obtain ⟨A, B, C, E, a, b, c, e, r⟩ := h.ex
  obtain ⟨A', B', C', E', a', b', c', e', r'⟩ := g.ex
  have k1 : ∀ {i j : Int}, Sz n i → Sz m j → Sz (n + m + 5) (i * j) := fun p q => (p.mul q).mono (by omega)
  have k2 : ∀ {i j : Int}, Sz n i → Sz m j → Sz (n + m + 5) (d * i * j) := fun p q => ((s5.mul p).mul q).mono (by omega)
  refine ⟨(A * C' + d * B * E') + (A' * C + d * B' * E), (A * E' + B * C') + (A' * E + B' * C), C * C' + d * E * E', C * E' + E * C', ?_, ?_, ?_, ?_, ?_⟩
  · exact (((k1 a c').add (k2 b e')).add (by rw [Int.mul_comm A' C, show d * B' * E = d * E * B' from by grind]; exact (k1 c a').add (k2 e b'))).mono (by omega)
  · exact (((k1 a e').add (k1 b c')).add (by rw [Int.mul_comm A' E, Int.mul_comm B' C]; exact (k1 e a').add (k1 c b'))).mono (by omega)
  · exact ((k1 c c').add (k2 e e')).mono (by omega)
  · exact ((k1 c e').add (k1 e c')).mono (by omega)
  · exact Rep.congr (Rep.plus ox oy r r') (by grind) (by grind) (by grind)
end
open PySem PySem.Spec PyProof.Rows NM
def wa : DSp := fun ds μ Q => ∃ (a : Addr) (d : Int), ds = [.m a, .v (.int d)] ∧ aw d ∧ Bag μ a ∧ ∀ x μ', Ok x → Bd 140 x → sg d x.a x.b = 1 → n4 a μ μ' → Q (.v (dN x)) μ'
theorem D2 {μ : Mu} {Q : DK} {ds : List D} (h : wa ds μ Q) : ds.length = 2 := by obtain ⟨_, _, rfl, _⟩ := h; rfl
def sL : DSp := fun ds μ Q => ∃ (a : Addr) (d : Int) (k : N3), ds = [.m a, .v (.int d), .v (dN k)] ∧ aw d ∧ Ok k ∧ Bd 140 k ∧ sg d k.a k.b = 1 ∧ Bag μ a ∧ ∀ p L μ', μ p = none → n4 a μ μ' → μ' p = some L → L.length ≤ 100 → (∀ x ∈ L, ∃ t, x = dN t ∧ Ok t ∧ Bd 480 t ∧ sg d t.a t.b = 1) → Q (.m p) μ'
theorem A5 {μ : Mu} {Q : DK} {ds : List D} (h : sL ds μ Q) : ds.length = 3 := by obtain ⟨_, _, _, rfl, _⟩ := h; rfl
def mI : DTS :=
  (aJ (bC (xi aj) (au 2))
  (aJ (vk (pq (ab (dC (.int 3)) aj)) (au 3) (aJ (bC (dC (.int 0)) (au 4))
  (aJ (vk (pq (ab (dC (.int 10)) aj)) (au 5) (bC (jH (cg (af 4) (wF (dC (.int 10)) (dC (.int 4)))) (ao cj (ab (af 0) (ab (wF (dC (.int 10)) (dC (.int 4))) aj)))) (au 4)))
  (mx (C2 (af 2) (af 4))))))
  (aJ (bC (ao cG (ab (nA (dOp aC (af 2) (dC (.int 0))) (cg (dC (.int 5)) (wF (dC (.int 10)) (dC (.int 39))))) (ab (nA (dOp aC (af 2) (dC (.int 1))) (cg (dC (.int 5)) (wF (dC (.int 10)) (dC (.int 39))))) (ab (jH (dC (.int 1)) (uW (dOp aC (af 2) (dC (.int 2))) (wF (dC (.int 10)) (dC (.int 39))))) aj)))) (au 6))
  (bD (dOp aC (oq (ab (cL (ab (dC (.int 1)) (ab (dC (.int 1)) (ab (dC (.int 1)) aj)))) (ab (af 6) (ab (ao qf (ab (af 6) aj)) aj)))) (ao fc (ab (af 1) (ab (af 6) aj))))))))
def fW : DTS :=
  (aJ (BU 3 4 (ab (ao mM (ab (af 0) aj)) (ab (ao mM (ab (af 0) aj)) aj)))
  (aJ (bC (ao bI (ab (af 1) (ab (af 2) aj))) (au 5))
  (aJ (bC (xi (ab (ao bO (ab (af 1) (ab (af 3) (ab (af 2) aj)))) (ab (ao bO (ab (af 1) (ab (af 4) (ab (af 5) aj)))) aj))) (au 6))
  (aJ (mx (C2 (af 6) (ao fh (ab (dOp aC (af 6) (dC (.int 0))) (ab (dOp aC (af 6) (dC (.int 1))) aj)))))
  (aJ (vk (xD (dSl (af 6) Am (Ks (dC (.int 2))))) (au 7) (vk (xD (oq (ab (cL (ab (dC (.int 0)) (ab (dC (.int 1)) (ab (wF (dC (.int 10)) (dC (.int 50))) aj)))) (ab (cL (ab (dC (.int 0)) (ab (vG (dC (.int 1))) (ab (wF (dC (.int 10)) (dC (.int 50))) aj)))) (ab (cL (ab (dC (.int 1)) (ab (dC (.int 0)) (ab (wF (dC (.int 10)) (dC (.int 50))) aj)))) aj))))) (au 8) (aJ (bC (ao fh (ab (af 7) (ab (af 8) aj))) (au 9))
  (dy (dB (dOp rGt (ao fc (ab (af 1) (ab (af 9) aj))) (dC (.int 0)))) (mx (C2 (af 6) (af 9))) bU))))
  (bD (af 6)))))))
section
variable {μ : Mu} {Qd : DK} {ds : List D}
def Lr (a p : Addr) (d : Int) (μ : Mu) (i : Nat) (ρ : Rho) (μ' : Mu) : Prop := ∃ (ns : List Int) (r3 r4 r5 : Option D), ρ = [some (.m a), some (.v (.int d)), some (.m p), r3, r4, r5, none] ∧ Bag μ' a ∧ (∀ b, b ≠ a → ∀ ds, μ b = some ds → μ' b = some ds) ∧ μ' p = some (ns.map .int) ∧ ns.length = i ∧ (∀ n ∈ ns, 0 ≤ n ∧ n < 10 ^ 40)
theorem B9 (h : wa ds μ Qd) : mI { nx := fun _ μ' => Qd (.v .none) μ', rt := Qd } (aK ["_law_bag_here", "_law_d", "_law_parts", "_law_turn", "_law_found", "_law_k", "_law_x"] ds) μ := by
  obtain ⟨a, d, rfl, hd, hb, q⟩ := h
  have s5 := jr hd.1 hd.2.1
  unfold mI
  walk_at "rn"
  intro p hp
  have hap : a ≠ p := fun z => by obtain ⟨g, m, e, _⟩ := hb; rw [z, hp] at e; cases e
  have sb : Bag (aV μ p []) a := by obtain ⟨g, m, e, z⟩ := hb; exact ⟨g, m, by rw [bL hap]; exact e, z⟩
  rw [sV]
  walk_at "rn"
  have keep : ∀ b, b ≠ a → ∀ ds, μ b = some ds → aV μ p [] b = some ds := fun b hb' ds e => by
    have : b ≠ p := fun z => by rw [z, hp] at e; cases e
    rw [bL this]; exact e
  refine ⟨⟨by decide, by decide⟩, Lr a p d μ, ⟨[], _, _, _, rfl, sb, keep, bB, rfl, fun n hn => by cases hn⟩, ?_, ?_⟩
  · rintro i v ρ μ3 hv ⟨ns, r3, r4, r5, rfl, hb3, kp, hpk, hl, hok⟩
    obtain ⟨rfl, hi⟩ := y9 hv
    walk_at "rn"
    rw [sV]
    walk_at "rn"
    refine ⟨⟨by decide, by decide⟩, fun j ρ μ' => ∃ (f : Int) (r5 : Option D), ρ = [some (.m a), some (.v (.int d)), some (.m p), some (.v (.int (0 + (i : Int)))), some (.v (.int f)), r5, none] ∧ Step a μ3 μ' ∧ 0 ≤ f ∧ f < 10 ^ (4 * j), ⟨0, _, rfl, Step.refl hb3, by decide, by decide⟩, ?_, ?_⟩
    · rintro j v ρ μ4 hv ⟨f, r5, rfl, s4, f0, f1⟩
      obtain ⟨rfl, hj⟩ := y9 hv
      walk_at "rn"
      have e4 : (10 : Int) ^ Int.toNat 4 = 10000 := by decide
      rw [e4]
      have cp : Hj 10 4 := ⟨by decide, by decide, by decide⟩
      refine ⟨cp, mulR (by decide), cp, a, 10000, rfl, by decide, by decide, s4.1, fun r μ5 r0 r1 s5' => ?_⟩
      walk_at "rn"
      refine ⟨_, _, rfl, s4.trans s5', by omega, ?_⟩
      rw [show 4 * (j + 1) = 4 * j + 4 from by omega, Int.pow_add, show (10 : Int) ^ 4 = 10000 from by decide]
      generalize (10 : Int) ^ (4 * j) = X at f1 ⊢
      omega
    · rintro ρ μ4 ⟨f, r5, rfl, s4, f0, f1⟩
      rw [oO] at f1
      have hp4 : μ4 p = some (ns.map .int) := by rw [s4.2 p (fun z => hap z.symm)]; exact hpk
      walk_at "rn"
      simp only [hp4]
      refine ⟨by simp; omega, ns ++ [f], _, _, _, rfl, ?_, fun b hb' ds e => ?_, ?_, by simp [hl], fun z hz => ?_⟩
      · obtain ⟨g, m, e, z⟩ := s4.1; exact ⟨g, m, by rw [bL hap]; exact e, z⟩
      · have h3 := kp b hb' ds e
        by_cases hbp : b = p
        · subst hbp
          rw [hp] at e; cases e
        · rw [bL hbp, s4.2 b hb']; exact h3
      · rw [bB]; simp
      · rcases List.mem_append.mp hz with z' | z'
        · exact hok z z'
        · rw [List.mem_singleton.mp z']; exact ⟨f0, f1⟩
  · rintro ρ μ3 ⟨ns, r3, r4, r5, rfl, hb3, kp, hpk, hl, hok⟩
    rw [oO] at hl
    obtain ⟨n0, n1, n2, rfl⟩ : ∃ n0 n1 n2, ns = [n0, n1, n2] := by
      match ns, hl with
      | [n0, n1, n2], _ => exact ⟨n0, n1, n2, rfl⟩
    have h0 := hok n0 (by simp)
    have h1 := hok n1 (by simp)
    have h2 := hok n2 (by simp)
    walk_at "rn"
    simp only [hpk]
    walk_at "rn"
    have e39 : (10 : Int) ^ Int.toNat 39 = 1000000000000000000000000000000000000000 := by decide +kernel
    have e40 : (10 : Int) ^ 40 = 10000000000000000000000000000000000000000 := by decide +kernel
    have e140 : (2 : Nat) ^ 140 = 1393796574908163946345982392040522594123776 := by decide +kernel
    rw [e40] at h0 h1 h2
    have cp : Hj 10 39 := ⟨by decide, by decide, by decide⟩
    have mo : MulOk 5 ((10 : Int) ^ Int.toNat 39) := mulL (by decide)
    refine ⟨cp, mo, ?_⟩
    simp only [hpk]
    walk_at "rn"
    refine ⟨cp, mo, ?_⟩
    simp only [hpk]
    walk_at "rn"
    obtain ⟨m0, m1⟩ := i6 n2 (show (0 : Int) < 10 ^ Int.toNat 39 by rw [e39]; decide)
    generalize em : n2.fmod (10 ^ Int.toNat 39) = m at m0 m1
    rw [e39] at m1
    refine ⟨cp, by rw [e39]; decide, ?_⟩
    rw [e39]
    have cn : 1 + m ≠ 0 := by omega
    have zc : Sz 140 (1 + m) := Sz.of (by rw [e140]; omega)
    have za : ∀ {n : Int}, 0 ≤ n ∧ n < 10000000000000000000000000000000000000000 → Sz 140 (n - 5 * 1000000000000000000000000000000000000000) := fun h => Sz.of (by rw [e140]; omega)
    refine ⟨_, _, _, rfl, cn, zc.mono (by decide), ?_⟩
    have ox := fX (n0 - 5 * 1000000000000000000000000000000000000000) (n1 - 5 * 1000000000000000000000000000000000000000) cn
    have bx : Bd 140 (low (n0 - 5 * 1000000000000000000000000000000000000000) (n1 - 5 * 1000000000000000000000000000000000000000) (1 + m)) := ji cn (za h0) (za h1) zc
    generalize low (n0 - 5 * 1000000000000000000000000000000000000000) (n1 - 5 * 1000000000000000000000000000000000000000) (1 + m) = x at ox bx
    walk_at "rn"
    refine ⟨x, rfl, ?_⟩
    dsimp only
    rw [show da [D.v (dN (minus x))] = some [dN (minus x)] from rfl]
    simp only [Option.map_some]
    refine ⟨d, x, rfl, hd, bx.mono (by decide), ?_⟩
    have b1 : Bd 1 ⟨1, 1, 1⟩ := ⟨Sz.of (by decide), Sz.of (by decide), Sz.of (by decide)⟩
    have sw : n4 a μ μ3 := ⟨hb3, kp⟩
    rcases lJ d x.a x.b with z | z | z
    · rw [z]
      exact q ⟨1, 1, 1⟩ μ3 ⟨by decide, by decide⟩ (b1.mono (by decide)) rfl sw
    · rw [z]
      exact q x μ3 ox bx z sw
    · rw [z]
      exact q (minus x) μ3 (lS ox) (sQ bx) (by show sg d (-x.a) (-x.b) = 1; rw [A2 hd, z]; rfl) sw
theorem u7 {a b c : Int} (hc : 0 < c) (h : Int.gcd a b = 1) : Ok ⟨a, b, c⟩ := ⟨hc, by unfold g3; show Int.gcd ((Int.gcd a b : Nat) : Int) c = 1; rw [h]; exact Int.one_gcd⟩
structure WSh (a p : Addr) (d : Int) (μ : Mu) (n : Nat) (μ' : Mu) : Prop where
  bag : Bag μ' a
  kp : ∀ b, b ≠ a → ∀ ds, μ b = some ds → μ' b = some ds
  ls : ∃ L, μ' p = some L ∧ L.length ≤ n ∧ (∀ x ∈ L, ∃ t, x = dN t ∧ Ok t ∧ Bd 480 t ∧ sg d t.a t.b = 1)
theorem WSh.add {a p : Addr} {d : Int} {n : Nat} {μ' : Mu} {t : N3} {L : List PyData} (hap : a ≠ p) (hp : μ p = none) (h : WSh a p d μ n μ') (hL : μ' p = some L) (ot : Ok t) (bt : Bd 480 t) (st : sg d t.a t.b = 1) : WSh a p d μ (n + 1) (aV μ' p (L ++ [dN t])) := by
  obtain ⟨L', e, l, hh⟩ := h.ls
  rw [hL] at e
  cases e
  refine ⟨?_, fun b hb ds e => ?_, _, bB, by simp; omega, fun x hx => ?_⟩
  · obtain ⟨g, m, e, z⟩ := h.bag; exact ⟨g, m, by rw [bL hap]; exact e, z⟩
  · have : b ≠ p := fun z => by rw [z, hp] at e; cases e
    rw [bL this]; exact h.kp b hb ds e
  · rcases List.mem_append.mp hx with z | z
    · exact hh x z
    · rw [List.mem_singleton.mp z]; exact ⟨t, rfl, ot, bt, st⟩
theorem WSh.mono {a p : Addr} {d : Int} {n m : Nat} {μ' : Mu} (h : WSh a p d μ n μ') (l : n ≤ m) : WSh a p d μ m μ' := by
  obtain ⟨x, y, L, e, g, z⟩ := h
  exact ⟨x, y, L, e, by omega, z⟩
theorem qo (h : sL ds μ Qd) : fW { nx := fun _ μ' => Qd (.v .none) μ', rt := Qd } (aK ["_law_bag_here", "_law_d", "_law_kind", "_law_u", "_law_v", "_law_turned_kind", "_law_found", "_law_one", "_law_beside", "_law_shape_here"] ds) μ := by
  obtain ⟨a, d, k, rfl, hd, ok, bk, hk, hb, q⟩ := h
  have s5 := jr hd.1 hd.2.1
  have nk := aN hd ok hk
  have oc := aE nk
  have bc := bS s5 nk bk
  unfold fW
  walk_at "rn"
  refine ⟨a, rfl, hb, fun u μ1 fu ua s1 => ?_⟩
  walk_at "rn"
  refine ⟨a, rfl, s1.1, fun v μ2 fv va s2 => ?_⟩
  walk_at "rn"
  have bu : ∀ {x : N3}, Fr0 x → Bd 14 x := fun {x} h => by
    have := h.ok.c
    have := h.a0
    have := h.a1
    have := h.c1
    exact ⟨Sz.of (by show x.a.natAbs < 16384; omega), by rw [h.b]; exact Sz.of (by decide), Sz.of (by show x.c.natAbs < 16384; omega)⟩
  have ou := aB (d := d) fu.ok ok
  have ov := aB (d := d) fv.ok oc
  have b1 := bJ s5 fu.ok ok (bu fu) bk
  have b2 := bJ s5 fv.ok oc (bu fv) bc
  refine ⟨d, k, rfl, s5, nk, bk.mono (by decide), d, u, k, rfl, s5, fu.ok, ok, (bu fu).mono (by decide), bk.mono (by decide), d, v, _, rfl, s5, fv.ok, oc, (bu fv).mono (by decide), bc.mono (by decide), ?_⟩
  dsimp only
  rw [show da [D.v (dN (times d u k)), D.v (dN (times d v (ar d k)))] = some [dN (times d u k), dN (times d v (ar d k))] from rfl]
  dsimp only
  intro p hp
  have hap : a ≠ p := fun z => by obtain ⟨g, m, e, _⟩ := s2.1; rw [z, hp] at e; cases e
  have hp0 : μ p = none := by rw [← (s1.trans s2).2 p (fun z => hap z.symm)]; exact hp
  simp only [bB]
  walk_at "rn"
  have sgf : ∀ {x : N3}, Fr0 x → 0 < x.a → sg d x.a x.b = 1 := fun {x} h h0 => by
    rw [h.b, jq, if_neg (by omega), if_pos h0]
  have g1 : sg d (times d u k).a (times d u k).b = 1 := by rw [wH hd fu.ok ok, sgf fu ua, hk]; rfl
  have g2 : sg d (times d v (ar d k)).a (times d v (ar d k)).b = 1 := by rw [wH hd fv.ok oc, sgf fv va, dW hd ok hk]; rfl
  have o12 := bN ou ov
  have b12 := iY ou ov b1 b2
  have w0 : WSh a p d μ 2 (aV μ2 p [dN (times d u k), dN (times d v (ar d k))]) := by
    have s12 := s1.trans s2
    refine ⟨?_, fun b hb' ds e => ?_, _, bB, by simp, fun x hx => ?_⟩
    · obtain ⟨g, m, e, z⟩ := s2.1; exact ⟨g, m, by rw [bL hap]; exact e, z⟩
    · have : b ≠ p := fun z => by rw [z, hp0] at e; cases e
      rw [bL this, s12.2 b hb']; exact e
    · simp only [List.mem_cons, List.not_mem_nil, or_false] at hx
      rcases hx with rfl | rfl
      · exact ⟨_, rfl, ou, b1.mono (by decide), g1⟩
      · exact ⟨_, rfl, ov, b2.mono (by decide), g2⟩
  refine ⟨_, _, rfl, ou, ov, b1.mono (by decide), b2.mono (by decide), ?_⟩
  simp only [bB]
  have g12 : sg d (plus (times d u k) (times d v (ar d k))).a (plus (times d u k) (times d v (ar d k))).b = 1 := Mv hd ok hk fu.ok fv.ok (.inr (sgf fu ua)) (.inr (sgf fv va)) (fun h => by rw [h.1] at ua; exact absurd ua (by decide))
  have w1 := w0.add hap hp0 bB o12 (b12.mono (by decide)) g12
  refine ⟨by simp, ?_⟩
  generalize eμ : aV (aV μ2 p [dN (times d u k), dN (times d v (ar d k))]) p ([dN (times d u k), dN (times d v (ar d k))] ++ [dN (plus (times d u k) (times d v (ar d k)))]) = μ4 at w1
  have hL4 : μ4 p = some [dN (times d u k), dN (times d v (ar d k)), dN (plus (times d u k) (times d v (ar d k)))] := by rw [← eμ]; exact bB
  rw [sV]
  walk_at "rn"
  unfold HR
  dsimp only
  rw [hL4]
  dsimp only
  rw [show xn [dN (times d u k), dN (times d v (ar d k)), dN (plus (times d u k) (times d v (ar d k)))] none (some 2) = [dN (times d u k), dN (times d v (ar d k))] from rfl]
  refine ⟨fun i ρ μ' => ∃ r7 r8 r9, ρ = [some (D.m a), some (D.v (PyData.int d)), some (D.v (dN k)), some (D.v (dN u)), some (D.v (dN v)), some (D.v (dN (ar d k))), some (D.m p), r7, r8, r9] ∧ WSh a p d μ (3 + 3 * i) μ', ⟨_, _, _, rfl, w1⟩, ?_, ?_⟩
  · rintro i y ρ μ5 hy ⟨r7, r8, r9, rfl, w5⟩
    have hy0 := hy
    obtain ⟨t, rfl, ot, bt, gt⟩ : ∃ t, y = dN t ∧ Ok t ∧ Bd 306 t ∧ sg d t.a t.b = 1 := by
      rcases i with _ | _ | i
      · exact ⟨_, (Option.some.inj hy).symm, ou, b1.mono (by decide), g1⟩
      · exact ⟨_, (Option.some.inj hy).symm, ov, b2.mono (by decide), g2⟩
      · simp at hy
    have e50 : (10 : Int) ^ Int.toNat 50 = 100000000000000000000000000000000000000000000000000 := by decide +kernel
    have e167 : (2 : Nat) ^ 167 = 187072209578355573530071658587684226515959365500928 := by decide +kernel
    have cp : Hj 10 50 := ⟨by decide, by decide, by decide⟩
    rw [sV]
    walk_at "rn"
    refine ⟨cp, cp, cp, ?_⟩
    rw [e50]
    refine ⟨fun j ρ μ' => ∃ r8 r9, ρ = [some (D.m a), some (D.v (PyData.int d)), some (D.v (dN k)), some (D.v (dN u)), some (D.v (dN v)), some (D.v (dN (ar d k))), some (D.m p), some (D.v (dN t)), r8, r9] ∧ WSh a p d μ (3 + 3 * i + j) μ', ⟨_, _, rfl, w5⟩, ?_, ?_⟩
    · rintro j y ρ μ6 hy ⟨r8, r9, rfl, w6⟩
      have zB : Sz 167 100000000000000000000000000000000000000000000000000 := Sz.of (by rw [e167]; decide)
      have z1 : Sz 167 1 := Sz.of (by rw [e167]; decide)
      have z0 : Sz 167 0 := Sz.of (by rw [e167]; decide)
      have zm : Sz 167 (-1) := Sz.of (by rw [e167]; decide)
      obtain ⟨b, rfl, ob, bb⟩ : ∃ b, y = dN b ∧ Ok b ∧ Bd 167 b := by
        rcases j with _ | _ | _ | j
        · exact ⟨_, (Option.some.inj hy).symm, u7 (by decide) (by decide), z0, z1, zB⟩
        · exact ⟨_, (Option.some.inj hy).symm, u7 (by decide) (by decide), z0, zm, zB⟩
        · exact ⟨_, (Option.some.inj hy).symm, u7 (by decide) (by decide), z1, z0, zB⟩
        · simp at hy
      have otb := bN ot ob
      have btb := iY ot ob bt bb
      walk_at "rn"
      refine ⟨_, _, rfl, ot, ob, bt.mono (by decide), bb.mono (by decide), ?_⟩
      walk_at "rn"
      refine ⟨d, _, rfl, hd, btb.mono (by decide), ?_⟩
      walk_at "rn"
      by_cases hg : 0 < sg d (plus t b).a (plus t b).b
      · rw [if_pos (by simpa using hg)]
        obtain ⟨L, hL, lL, aL⟩ := w6.ls
        simp only [hL]
        have g : sg d (plus t b).a (plus t b).b = 1 := by rcases lJ d (plus t b).a (plus t b).b with z | z | z <;> omega
        have j3 : j < 3 := by
          have := (List.getElem?_eq_some_iff.mp hy).1
          exact this
        have i3 : i < 2 := by
          have := (List.getElem?_eq_some_iff.mp hy0).1
          exact this
        exact ⟨by omega, _, _, rfl, w6.add hap hp0 hL otb (btb.mono (by decide)) g⟩
      · rw [if_neg (by simpa using hg)]
        exact ⟨_, _, rfl, w6.mono (by omega)⟩
    · rintro ρ μ6 ⟨r8, r9, rfl, w6⟩
      exact ⟨_, _, _, rfl, w6.mono (by omega)⟩
  · rintro ρ μ5 ⟨r7, r8, r9, rfl, w5⟩
    obtain ⟨L, hL, lL, aL⟩ := w5.ls
    walk_at "rn"
    exact q p L μ5 hp0 ⟨w5.bag, w5.kp⟩ hL (Nat.le_trans lL (by show 9 ≤ 100; decide)) aL
end
open PySem PySem.Spec PyProof.Rows NM
section
variable {d : Int} {ks : List N3}
def rbD : Nat → Nat
  | 0 => 0
  | 1 => 60
  | n + 2 => 3 * rbD (n + 1) + 14
theorem Dx (n : Nat) : rbD n ≤ rbD (n + 1) := by
  match n with
  | 0 => decide
  | k + 1 => show rbD (k + 1) ≤ 3 * rbD (k + 1) + 14; omega
theorem gk {n m : Nat} (h : n ≤ m) : rbD n ≤ rbD m := by
  induction m with
  | zero => have : n = 0 := by omega
            subst this; exact Nat.le_refl _
  | succ m ih =>
    by_cases e : n = m + 1
    · subst e; exact Nat.le_refl _
    · exact Nat.le_trans (ih (by omega)) (Dx m)
structure je (d : Int) (ks : List N3) (n : Nat) (x : N3) : Prop where
  ok : Ok x
  pos : sg d x.a x.b = 1
  rq : Rq d n x
  ld : dX d ks x = true
theorem je.mono {n m : Nat} {x : N3} (h : je d ks n x) (l : n ≤ m) : je d ks m x := ⟨h.ok, h.pos, h.rq.mono l, h.ld⟩
theorem je.ar {n : Nat} {x : N3} (hd : aw d) (ho : KindsOk d ks) (h : je d ks n x) : je d ks n (ar d x) := by
  have nx := aN hd h.ok h.pos
  refine ⟨aE nx, dW hd h.ok h.pos, h.rq.ar h.ok nx, ?_⟩
  rw [Di hd ho.wide ho.wide h.ok h.pos (aE nx) (dW hd h.ok h.pos) (ui h.ok nx) (fun k hk => ⟨k, hk, tT⟩) (fun k hk => ⟨k, hk, tT⟩)]
  exact h.ld
theorem je.cS {n : Nat} {x : N3} (hd : aw d) (ho : KindsOk d ks) (b : Bool) (h : je d ks n x) : je d ks n (cS d b x) := by
  unfold DL.cS
  split
  · exact h
  · exact h.ar hd ho
theorem je.plus {n m : Nat} {x y : N3} (hd : aw d) (ho : KindsOk d ks) (h : je d ks n x) (g : je d ks m y) : je d ks (n + m + 7) (plus x y) :=
  ⟨bN h.ok g.ok, uU hd h.ok g.ok h.pos g.pos, h.rq.plus (jr hd.1 hd.2.1) h.ok g.ok g.rq, HB hd ho.wide h.ok g.ok h.ld g.ld⟩
theorem je.zT {n : Nat} {x : N3} {u v : Int} (hd : aw d) (ho : KindsOk d ks) (h : je d ks n x) (u0 : 0 < u) (u1 : u ≤ 1000) (v0 : 0 < v) (v1 : v ≤ 1000) : je d ks (n + 10) (times d (low v 0 u) x) := by
  have un : u ≠ 0 := by omega
  have ol := fX v 0 un
  have hb : (low v 0 u).b = 0 := by
    have r := (hZ (a := v) (b := 0) un).b
    rw [Int.zero_mul] at r
    exact (Int.mul_eq_zero.mp r).resolve_right un
  have sl : sg d (low v 0 u).a (low v 0 u).b = 1 := by rw [BL hd u0, jq, if_neg (by omega), if_pos v0]
  have ha : 0 < (low v 0 u).a := by
    rw [hb, jq] at sl
    split at sl
    · exact absurd sl (by decide)
    · split at sl
      · assumption
      · exact absurd sl (by decide)
  have st : sg d (times d (low v 0 u) x).a (times d (low v 0 u) x).b = 1 := by rw [cT hd ol h.ok, sl, h.pos]; rfl
  have hr : Ray d x (times d (low v 0 u) x) := by rw [NQ ol h.ok]; exact ID h.ok ol hb ha
  refine ⟨aB ol h.ok, st, h.rq.PB h.ok u0 u1 v0 v1, ?_⟩
  rw [Di hd ho.wide ho.wide h.ok h.pos (aB ol h.ok) st hr (fun k hk => ⟨k, hk, tT⟩) (fun k hk => ⟨k, hk, tT⟩)]
  exact h.ld
theorem je.bd {n : Nat} {x : N3} (hd : aw d) (h : je d ks n x) : Bd (2 * n + 6) x := h.rq.bd (jr hd.1 hd.2.1) h.ok
theorem gm (hd : aw d) (ho : KindsOk d ks) : ∀ p : Pn, p.good ks.length → je d ks (rbD p.depth) (p.shape d ks)
  | .kind i, hg => by
    obtain ⟨g1, g2⟩ := ey (ks := ks) (i := i) hg
    obtain ⟨o, b, s⟩ := ho.ok _ g2
    exact ⟨o, s, Rq.self o b, HP hd ho.wide g2⟩
  | .turn p, hg => ((gm hd ho p hg).ar hd ho).mono (Dx _)
  | .zT u v p, hg => by
    obtain ⟨⟨u0, u1, v0, v1⟩, hg'⟩ := hg
    refine ((gm hd ho p hg').zT hd ho u0 u1 v0 v1).mono ?_
    obtain ⟨k, hk⟩ : ∃ k, p.depth = k + 1 := ⟨p.depth - 1, by have := p.qh; omega⟩
    show rbD p.depth + 10 ≤ rbD (p.depth + 1)
    rw [hk]
    show rbD (k + 1) + 10 ≤ 3 * rbD (k + 1) + 14
    omega
  | .two b p q, hg => by
    have h1 := (gm hd ho p hg.1).cS hd ho b
    have h2 := (gm hd ho q hg.2).cS hd ho b
    obtain ⟨k, hk⟩ : ∃ k, max p.depth q.depth = k + 1 := ⟨max p.depth q.depth - 1, by have := p.qh; omega⟩
    have h1' := h1.mono (gk (show p.depth ≤ k + 1 by omega))
    have h2' := h2.mono (gk (show q.depth ≤ k + 1 by omega))
    show je d ks (rbD (max p.depth q.depth + 1)) (DL.cS d b (plus (plus ay (DL.cS d b (p.shape d ks))) (DL.cS d b (q.shape d ks))))
    rw [L7 h1.ok, hk]
    refine ((h1'.plus hd ho h2').cS hd ho b).mono ?_
    show _ ≤ 3 * rbD (k + 1) + 14
    omega
  | .three b p q r, hg => by
    have h1 := (gm hd ho p hg.1).cS hd ho b
    have h2 := (gm hd ho q hg.2.1).cS hd ho b
    have h3 := (gm hd ho r hg.2.2).cS hd ho b
    obtain ⟨k, hk⟩ : ∃ k, max p.depth (max q.depth r.depth) = k + 1 := ⟨max p.depth (max q.depth r.depth) - 1, by have := p.qh; omega⟩
    have h1' := h1.mono (gk (show p.depth ≤ k + 1 by omega))
    have h2' := h2.mono (gk (show q.depth ≤ k + 1 by omega))
    have h3' := h3.mono (gk (show r.depth ≤ k + 1 by omega))
    show je d ks (rbD (max p.depth (max q.depth r.depth) + 1)) (DL.cS d b (plus (plus (plus ay (DL.cS d b (p.shape d ks))) (DL.cS d b (q.shape d ks))) (DL.cS d b (r.shape d ks))))
    rw [L7 h1.ok, hk]
    refine (((h1'.plus hd ho h2').plus hd ho h3').cS hd ho b).mono ?_
    show _ ≤ 3 * rbD (k + 1) + 14
    omega
end
open PySem PySem.Spec PyProof.Rows NM
def gz (n : Nat) : DSp := fun ds μ Q => ∃ (a : Addr) (m : Nat) (k : Nat), ds = [.m a, .v (.int m), .v (.int k)] ∧ 1 ≤ m ∧ m ≤ 3 ∧ 1 ≤ k ∧ k ≤ n ∧ n ≤ 3 ∧ Bag μ a ∧ ∀ (p : Pn) μ', p.good m → p.depth ≤ k → n4 a μ μ' → Q (.v p.data) μ'
theorem D5 {n : Nat} {μ : Mu} {Q : DK} {ds : List D} (h : gz n ds μ Q) : ds.length = 3 := by obtain ⟨_, _, _, rfl, _⟩ := h; rfl
theorem Dq {μ : Mu} {Q : DK} {ds : List D} (h : gz 0 ds μ Q) : False := by obtain ⟨_, _, _, _, _, _, h1, h2, _⟩ := h; omega
def ej (n : Nat) : DSp := fun ds μ Q => ∃ (d : Int) (ks : List N3) (p : Pn), ds = [.v (.int d), .v (.tuple (ks.map dN)), .v p.data] ∧ aw d ∧ KindsOk d ks ∧ p.good ks.length ∧ p.depth ≤ n ∧ n ≤ 3 ∧ Q (.v (dN (p.shape d ks))) μ
theorem A1 {n : Nat} {μ : Mu} {Q : DK} {ds : List D} (h : ej n ds μ Q) : ds.length = 3 := by obtain ⟨_, _, _, rfl, _⟩ := h; rfl
theorem y8 {μ : Mu} {Q : DK} {ds : List D} (h : ej 0 ds μ Q) : False := by obtain ⟨_, _, p, _, _, _, _, h, _⟩ := h; have := p.qh; omega
theorem Il {a b : Str} {neg : Bool} {μ : Mu} {Q : DK} (ha : SeqAt.shaped (.str a) = true) (hb : SeqAt.shaped (.str b) = true) : d6 neg (.v (.str a)) (.v (.str b)) μ Q = Q (.v (.bool (neg ^^ decide (a = b)))) μ := by
  rw [DJ]
  have e : PyData.eqv (.str a) (.str b) = decide (a = b) := by simp [PyData.eqv]; rfl
  rw [e]
  exact propext ⟨fun h => h.2.2, fun h => ⟨ha, hb, h⟩⟩
theorem Qo : SeqAt.shaped (.str "kind") = true := by decide +kernel
theorem P6 : SeqAt.shaped (.str "turn") = true := by decide +kernel
theorem P9 : SeqAt.shaped (.str "grid") = true := by decide +kernel
theorem LM : SeqAt.shaped (.str "upon") = true := by decide +kernel
theorem OY : SeqAt.shaped (.str "beside") = true := by decide +kernel
theorem Qt : decide (("kind" : Str) = "kind") = true := by decide
theorem P0 : decide (("kind" : Str) = "turn") = false := by decide
theorem Qw : decide (("kind" : Str) = "grid") = false := by decide
theorem PH : decide (("kind" : Str) = "upon") = false := by decide
theorem QB : decide (("turn" : Str) = "kind") = false := by decide
theorem PD : decide (("turn" : Str) = "turn") = true := by decide
theorem Qv : decide (("turn" : Str) = "grid") = false := by decide
theorem Qp : decide (("turn" : Str) = "upon") = false := by decide
theorem Qk : decide (("grid" : Str) = "kind") = false := by decide
theorem Qm : decide (("grid" : Str) = "turn") = false := by decide
theorem PJ : decide (("grid" : Str) = "grid") = true := by decide
theorem Qn : decide (("grid" : Str) = "upon") = false := by decide
theorem PL : decide (("upon" : Str) = "kind") = false := by decide
theorem P4 : decide (("upon" : Str) = "turn") = false := by decide
theorem PF : decide (("upon" : Str) = "grid") = false := by decide
theorem Ph : decide (("upon" : Str) = "upon") = true := by decide
theorem Qb : decide (("beside" : Str) = "kind") = false := by decide
theorem Qh : decide (("beside" : Str) = "turn") = false := by decide
theorem Qz : decide (("beside" : Str) = "grid") = false := by decide
theorem OU : decide (("beside" : Str) = "upon") = false := by decide
local macro_rules | `(tactic| walk_at "rp") => `(tactic| simp only [↓Il, Qo, P6, P9, LM, OY, Qt, P0, Qw, PH, QB, PD, Qv, Qp, Qk, Qm, PJ, Qn, PL, P4, PF, Ph, Qb, Qh, Qz, OU, ↓D9, ↓EA, ↓Fm, ↓FA, ↓E8, ↓E9, ↓Ej, ↓Eh, ↓EJ, ↓Fn, ↓Ar, ↓q_c, ↓Oe, ↓q_B, ↓ND, ↓KJ, ↓JM, ↓Ge, ↓J9, ↓ED, ↓FN, ↓Ku, ↓EO, ↓MH, ↓KA, ↓Gd, ↓Kt, ↓JG, ↓Em, ↓JY, ↓Jw, ↓Jf, ↓Jz, ↓JH, ↓GP, ↓Jg, ↓FT, ↓Eu, ↓FR, ↓Ae, ↓BS, ↓B2, ↓Ff, ↓zA, ↓xS, ↓Jb, ↓Kx, ↓Kw, ↓Fz, ↓EX, ↓EV, ↓FF, ↓FZ, ↓N2, ↓wI, ↓FW, ↓Io, ↓Jo, ↓JF, ↓N1, ↓FV, ↓E2, ↓Ee, ↓Ep, ↓Kj, ↓MF, ↓FL, ↓FG, ↓AS, ↓Aq, ↓Iu, ↓JE, ↓IF, ↓Ky, ↓AD, ↓E5, ↓AZ, ↓FU, ↓Gb, ↓IV, ↓JO, ↓E4, ↓Gs, ↓Jj, ↓EY, ↓JR, ↓Ba, ↓EC, ↓Im, ↓JD, ↓Ft, ↓zM, ↓Fh, ↓xN, ↓Bn, ↓xy, ↓wU, ↓Bb, ↓xA, ↓wA, ↓wX, ↓IL, Ha, ↓EH, ↓zZ, Es, EW, KI, IU, Kr, Option.bind_none, Option.bind_some, Option.join_some, List.getElem?_cons_zero, List.getElem?_cons_succ, aK, Mg, Ki, JS, Kc, Me, xf, vy, zj, Dj, G7, List.map, List.append, List.replicate, List.length_cons, List.length_nil, Nat.reduceAdd, Nat.reduceSub, List.nil_append, List.cons_append, List.set_cons_zero, List.set_cons_succ, Option.map_some, ↓reduceIte, Bool.not_true, Bool.not_false, Bool.false_eq_true, Bool.true_eq_false, Bool.xor_false, Bool.false_xor])
def nO (n : Nat) : DTS :=
  (aJ (bC (ao cj (ab (af 0) (ab (dC (.int 8)) aj))) (au 3))
  (aJ (dy (BR (dB (dOp rLt (af 2) (dC (.int 2)))) (dB (dOp rLt (af 3) (dC (.int 2))))) (bD (cL (ab (dC (.str "kind")) (ab (ao cj (ab (af 0) (ab (af 1) aj))) aj)))) bU)
  (aJ (dy (dB (dOp (d6 false) (af 3) (dC (.int 2)))) (bD (cL (ab (dC (.str "turn")) (ab (ao (gz n) (ab (af 0) (ab (af 1) (ab (nA (af 2) (dC (.int 1))) aj)))) aj)))) bU)
  (aJ (dy (dB (dOp rLt (af 3) (dC (.int 5)))) (aJ (bC (dOp aC (oq (ab (dC (.int 3)) (ab (dC (.int 3)) (ab (dC (.int 12)) (ab (dC (.int 1000)) aj))))) (ao cj (ab (af 0) (ab (dC (.int 4)) aj)))) (au 4))
  (bD (cL (ab (dC (.str "grid")) (ab (jH (dC (.int 1)) (ao cj (ab (af 0) (ab (af 4) aj)))) (ab (jH (dC (.int 1)) (ao cj (ab (af 0) (ab (af 4) aj)))) (ab (ao (gz n) (ab (af 0) (ab (af 1) (ab (nA (af 2) (dC (.int 1))) aj)))) aj))))))) bU)
  (aJ (bC (rz [none, some 0, some 1, some 2] (pq (ab (jH (dC (.int 2)) (ao cj (ab (af 0) (ab (dC (.int 2)) aj)))) aj)) (au 0) qG (ao (gz n) (ab (af 1) (ab (af 2) (ab (nA (af 3) (dC (.int 1))) aj))))) (au 5))
  (bD (cL (ab (dOp aC (oq (ab (dC (.str "upon")) (ab (dC (.str "beside")) aj))) (uW (af 3) (dC (.int 2)))) (ab (dCB kL (ab (af 5) aj)) aj)))))))))
def gI (n : Nat) : DTS :=
  (aJ (dy (dB (dOp (d6 false) (dOp aC (af 2) (dC (.int 0))) (dC (.str "kind")))) (bD (dOp aC (af 1) (dOp aC (af 2) (dC (.int 1))))) bU)
  (aJ (dy (dB (dOp (d6 false) (dOp aC (af 2) (dC (.int 0))) (dC (.str "turn")))) (bD (ao bI (ab (af 0) (ab (ao (ej n) (ab (af 0) (ab (af 1) (ab (dOp aC (af 2) (dC (.int 1))) aj)))) aj)))) bU)
  (aJ (dy (dB (dOp (d6 false) (dOp aC (af 2) (dC (.int 0))) (dC (.str "grid")))) (bD (ao bO (ab (af 0) (ab (ao cG (ab (dOp aC (af 2) (dC (.int 2))) (ab (dC (.int 0)) (ab (dOp aC (af 2) (dC (.int 1))) aj)))) (ab (ao (ej n) (ab (af 0) (ab (af 1) (ab (dOp aC (af 2) (dC (.int 3))) aj)))) aj))))) bU)
  (aJ (bC (cL (ab (dC (.int 0)) (ab (dC (.int 0)) (ab (dC (.int 1)) aj)))) (au 3))
  (aJ (vk (qI (dOp aC (af 2) (dC (.int 1)))) (au 4) (aJ (bC (ao (ej n) (ab (af 0) (ab (af 1) (ab (af 4) aj)))) (au 5))
  (bC (ao fh (ab (af 3) (ab (dIf (dB (dOp (d6 false) (dOp aC (af 2) (dC (.int 0))) (dC (.str "upon")))) (af 5) (ao bI (ab (af 0) (ab (af 5) aj)))) aj))) (au 3))))
  (bD (dIf (dB (dOp (d6 false) (dOp aC (af 2) (dC (.int 0))) (dC (.str "upon")))) (af 3) (ao bI (ab (af 0) (ab (af 3) aj))))))))))
section
variable {μ : Mu} {Qd : DK} {ds : List D}
theorem Step.wide {a : Addr} {μ μ' : Mu} (h : Step a μ μ') : n4 a μ μ' := ⟨h.1, fun b hb ds e => by rw [h.2 b hb]; exact e⟩
theorem zY (n : Nat) (h : gz (n + 1) ds μ Qd) : nO n { nx := fun _ μ' => Qd (.v .none) μ', rt := Qd } (aK ["_law_bag_here", "_law_many", "_law_deep", "_law_way", "_law_wide_here", "_law_parts"] ds) μ := by
  obtain ⟨a, m, k, rfl, m1, m3, k1, kn, n3, hb, q⟩ := h
  unfold nO
  walk_at "rn"
  refine ⟨a, 8, rfl, by decide, by decide, hb, fun way μ1 w0 w1 s1 => ?_⟩
  walk_at "rn"
  by_cases c1 : k < 2
  · rw [if_pos (by simp; omega)]
    refine ⟨a, m, rfl, by omega, by omega, s1.1, fun r μ3 r0 r1 s3 => ?_⟩
    obtain ⟨i, rfl⟩ : ∃ i : Nat, r = (i : Int) := ⟨r.toNat, by omega⟩
    exact q (.kind i) μ3 (by show i < m; omega) k1 (s1.trans s3).wide
  rw [if_neg (by simp; omega)]
  have ek : (k : Int) - 1 = ((k - 1 : Nat) : Int) := by omega
  by_cases c2 : way < 2
  · rw [if_pos (by simpa using c2)]
    refine ⟨a, m, rfl, by omega, by omega, s1.1, fun r μ3 r0 r1 s3 => ?_⟩
    obtain ⟨i, rfl⟩ : ∃ i : Nat, r = (i : Int) := ⟨r.toNat, by omega⟩
    exact q (.kind i) μ3 (by show i < m; omega) k1 (s1.trans s3).wide
  rw [if_neg (by simpa using c2)]
  rw [ek]
  by_cases c3 : way = 2
  · rw [if_pos (by simpa using c3)]
    refine ⟨a, m, k - 1, rfl, m1, m3, by omega, by omega, by omega, s1.1, fun p μ2 hg hp s2 => ?_⟩
    exact q (.turn p) μ2 hg (by show p.depth + 1 ≤ k; omega) (s1.wide.trans s2)
  rw [if_neg (by simpa using c3)]
  by_cases c4 : way < 5
  · rw [if_pos (by simpa using c4)]
    refine ⟨a, 4, rfl, by decide, by decide, s1.1, fun r μ2 r0 r1 s2 => ?_⟩
    walk_at "rn"
    obtain ⟨_, e1, w, rfl, w0', w1'⟩ := pick (P := fun v => ∃ w : Int, v = .int w ∧ 3 ≤ w ∧ w ≤ 1000) (xs := [.int 3, .int 3, .int 12, .int 1000]) r0 (by exact r1) (by
      intro v hv
      simp only [List.mem_cons, List.not_mem_nil, or_false] at hv
      rcases hv with rfl | rfl | rfl | rfl <;> exact ⟨_, rfl, by decide, by decide⟩)
    rw [e1]
    walk_at "rn"
    refine ⟨a, w, rfl, by omega, by omega, s2.1, fun t μ3 t0 t1 s3 => ?_⟩
    walk_at "rn"
    refine ⟨a, w, rfl, by omega, by omega, s3.1, fun u μ4 u0 u1 s4 => ?_⟩
    walk_at "rn"
    refine ⟨a, m, k - 1, rfl, m1, m3, by omega, by omega, by omega, s4.1, fun p μ5 hg hp s5 => ?_⟩
    exact q (.zT (1 + t) (1 + u) p) μ5 ⟨⟨by omega, by omega, by omega, by omega⟩, hg⟩ (by show p.depth + 1 ≤ k; omega) ((s1.trans (s2.trans (s3.trans s4))).wide.trans s5)
  rw [if_neg (by simpa using c4)]
  refine ⟨a, 2, rfl, by decide, by decide, s1.1, fun r μ2 r0 r1 s2 => ?_⟩
  walk_at "rn"
  have hr : (2 + r).toNat = 2 ∨ (2 + r).toNat = 3 := by omega
  refine ⟨⟨by omega, by omega⟩, by rw [oO]; omega, fun p hp => ?_⟩
  have hb2 := s2.1
  have hap : a ≠ p := fun z => by obtain ⟨g, m, e, _⟩ := hb2; rw [z, hp] at e; cases e
  have s12 := s1.trans s2
  refine ⟨fun i acc μ' => Bag μ' a ∧ (∀ b, b ≠ a → b ≠ p → ∀ ds, μ2 b = some ds → μ' b = some ds) ∧ ∃ ps : List Pn, acc = ps.map Pn.data ∧ ps.length = i ∧ ∀ x ∈ ps, x.good m ∧ x.depth ≤ k - 1, ⟨?_, fun b h1 h2 ds e => by rw [bL h2]; exact e, [], rfl, rfl, fun x hx => by cases hx⟩, ?_, ?_⟩
  · obtain ⟨g, m, e, z⟩ := hb2; exact ⟨g, m, by rw [bL hap]; exact e, z⟩
  · rintro i y acc μ' hy hacc ⟨hb', kp, ps, rfl, hl, hok⟩
    refine ⟨⟨trivial, trivial, trivial, trivial⟩, a, m, k - 1, rfl, m1, m3, by omega, by omega, by omega, hb', fun x μ5 hg hx s5 => ?_⟩
    have hp5 := s5.2 p (fun z => hap z.symm) _ hacc
    refine ⟨hp5, ?_, fun b h1 h2 ds e => by rw [bL h2]; exact s5.2 b h1 ds (kp b h1 h2 ds e), ps ++ [x], by simp, by simp [hl], fun z hz => ?_⟩
    · obtain ⟨g, m, e, z⟩ := s5.1; exact ⟨g, m, by rw [bL hap]; exact e, z⟩
    · rcases List.mem_append.mp hz with z' | z'
      · exact hok z z'
      · rw [List.mem_singleton.mp z']; exact ⟨hg, hx⟩
  · rintro acc μ' ⟨hb', kp, ps, rfl, hl, hok⟩ hacc
    rw [oO] at hl
    refine ⟨by decide, ?_⟩
    have hs : n4 a μ (iA μ' p) := by
      refine ⟨?_, fun b hb0 ds e => ?_⟩
      · obtain ⟨g, m, e, z⟩ := hb'; exact ⟨g, m, by rw [Dv hap]; exact e, z⟩
      · have e2 : μ2 b = some ds := by rw [s12.2 b hb0]; exact e
        have hbp : b ≠ p := fun z => by rw [z, hp] at e2; cases e2
        rw [Dv hbp]
        exact kp b hb0 hbp ds e2
    obtain ⟨m0, m1'⟩ := i6 way (show (0 : Int) < 2 by decide)
    obtain ⟨_, e1, b, rfl⟩ := pick (P := fun v => ∃ b : Bool, v = .str (wdS b)) (xs := [.str "upon", .str "beside"]) m0 (by exact m1') (by
      intro v hv
      simp only [List.mem_cons, List.not_mem_nil, or_false] at hv
      rcases hv with rfl | rfl
      · exact ⟨true, rfl⟩
      · exact ⟨false, rfl⟩)
    rw [e1]
    rcases hr with hr | hr
    · rw [hr] at hl
      match ps, hl with
      | [x, y], _ =>
        obtain ⟨g1, d1⟩ := hok x (by simp)
        obtain ⟨g2, d2⟩ := hok y (by simp)
        exact q (.two b x y) _ ⟨g1, g2⟩ (by show max x.depth y.depth + 1 ≤ k; omega) hs
    · rw [hr] at hl
      match ps, hl with
      | [x, y, z], _ =>
        obtain ⟨g1, d1⟩ := hok x (by simp)
        obtain ⟨g2, d2⟩ := hok y (by simp)
        obtain ⟨g3, d3⟩ := hok z (by simp)
        exact q (.three b x y z) _ ⟨g1, g2, g3⟩ (by show max x.depth (max y.depth z.depth) + 1 ≤ k; omega) hs
theorem Lx {ks : List N3} {i : Nat} (h : i < ks.length) : atI (ks.map dN) (i : Int) = some (dN (ks.getD i ay)) := jG (ey h).1
theorem K3 : Bd 1 ay := ⟨Sz.of (by decide), Sz.of (by decide), Sz.of (by decide)⟩
def GR (d : Int) (ks : List N3) (b : Bool) (ps : List Pn) : N3 := ps.foldl (fun acc p => plus acc (cS d b (p.shape d ks))) ay
def Ce (n : Nat) : DTS := (aJ (vk (qI (dOp aC (af 2) (dC (.int 1)))) (au 4) (aJ (bC (ao (ej n) (ab (af 0) (ab (af 1) (ab (af 4) aj)))) (au 5))   (bC (ao fh (ab (af 3) (ab (dIf (dB (dOp (d6 false) (dOp aC (af 2) (dC (.int 0))) (dC (.str "upon")))) (af 5) (ao bI (ab (af 0) (ab (af 5) aj)))) aj))) (au 3))))   (bD (dIf (dB (dOp (d6 false) (dOp aC (af 2) (dC (.int 0))) (dC (.str "upon")))) (af 3) (ao bI (ab (af 0) (ab (af 3) aj))))))
theorem Mk {b : Bool} {Q : DK} : d6 false (.v (.str (wdS b))) (.v (.str "upon")) μ Q = Q (.v (.bool b)) μ := by
  cases b
  · show d6 false (.v (.str "beside")) (.v (.str "upon")) μ Q = _
    rw [Il OY LM, OU]; rfl
  · show d6 false (.v (.str "upon")) (.v (.str "upon")) μ Q = _
    rw [Il LM LM, Ph]; rfl
theorem CW {n : Nat} {d : Int} {ks : List N3} (b : Bool) (ps : List Pn) {nx : Rho → Mu → Prop} (hd : aw d) (ho : KindsOk d ks) (n2 : n ≤ 2) (l1 : 1 ≤ ps.length) (l3 : ps.length ≤ 3) (hg : ∀ p ∈ ps, p.good ks.length ∧ p.depth ≤ n) (q : Qd (.v (dN (cS d b (GR d ks b ps)))) μ) : Ce n { nx := nx, rt := Qd } [some (.v (.int d)), some (.v (.tuple (ks.map dN))), some (.v (.tuple [.str (wdS b), .tuple (ps.map Pn.data)])), some (.v (dN ay)), none, none] μ := by
  have s5 := jr hd.1 hd.2.1
  have rbn : rbD n ≤ 200 := Nat.le_trans (gk n2) (by decide)
  unfold Ce
  rw [Gs, sV]
  walk_at "rp"
  refine ⟨fun j ρ μ' => ∃ (acc : N3) (r4 r5 : Option D), ρ = [some (.v (.int d)), some (.v (.tuple (ks.map dN))), some (.v (.tuple [.str (wdS b), .tuple (ps.map Pn.data)])), some (.v (dN acc)), r4, r5] ∧ μ' = μ ∧ acc = GR d ks b (ps.take j) ∧ (acc = ay ∨ je d ks (207 * j) acc) ∧ (1 ≤ j → je d ks (207 * j) acc), ⟨ay, _, _, rfl, rfl, rfl, .inl rfl, fun z => absurd z (by decide)⟩, ?_, ?_⟩
  · rintro j x ρ μ' hx ⟨acc, r4, r5, rfl, rfl, ea, ha, _⟩
    rw [List.getElem?_map] at hx
    obtain ⟨p, hp, rfl⟩ : ∃ p, ps[j]? = some p ∧ p.data = x := by
      cases z : ps[j]? with
      | none => rw [z] at hx; cases hx
      | some e => rw [z] at hx; exact ⟨e, rfl, by simpa using hx⟩
    have hj : j < ps.length := (List.getElem?_eq_some_iff.mp hp).1
    obtain ⟨g1, g2⟩ := hg p (List.mem_of_getElem? hp)
    have S := (gm hd ho p g1).mono (Nat.le_trans (gk g2) rbn)
    have C := S.cS hd ho b
    have oa : Ok acc := by rcases ha with rfl | h; exact uQ; exact h.ok
    have ba : Bd 4300 acc := by
      rcases ha with rfl | h
      · exact K3.mono (by decide)
      · exact (h.bd hd).mono (by omega)
    have next : je d ks (207 * (j + 1)) (plus acc (DL.cS d b (p.shape d ks))) := by
      rcases ha with rfl | h
      · rw [L7 C.ok]; exact C.mono (by omega)
      · exact (h.plus hd ho C).mono (by omega)
    have ef : plus acc (DL.cS d b (p.shape d ks)) = GR d ks b (ps.take (j + 1)) := by
      rw [List.take_succ, hp, ea]
      unfold GR
      rw [List.foldl_append]
      rfl
    walk_at "rp"
    refine ⟨d, ks, p, rfl, hd, ho, g1, g2, by omega, ?_⟩
    walk_at "rp"
    rw [Mk]
    cases b with
    | true =>
      simp only [↓reduceIte]
      exact ⟨_, _, rfl, oa, C.ok, ba, (C.bd hd).mono (by decide), _, _, _, rfl, rfl, ef, .inr next, fun _ => next⟩
    | false =>
      simp only [Bool.false_eq_true, ↓reduceIte]
      exact ⟨d, _, rfl, s5, aN hd S.ok S.pos, (S.bd hd).mono (by decide), _, _, rfl, oa, C.ok, ba, (C.bd hd).mono (by decide), _, _, _, rfl, rfl, ef, .inr next, fun _ => next⟩
  · rintro ρ μ' ⟨acc, r4, r5, rfl, rfl, ea, _, h1⟩
    rw [List.length_map] at ea h1
    rw [List.take_length] at ea
    have S := h1 l1
    walk_at "rp"
    rw [Mk]
    rw [← ea] at q
    cases b with
    | true =>
      simp only [↓reduceIte]
      exact q
    | false =>
      simp only [Bool.false_eq_true, ↓reduceIte]
      exact ⟨d, _, rfl, s5, aN hd S.ok S.pos, (S.bd hd).mono (by omega), q⟩
theorem sh (n : Nat) (h : ej (n + 1) ds μ Qd) : gI n { nx := fun _ μ' => Qd (.v .none) μ', rt := Qd } (aK ["_law_d", "_law_kinds_here", "_law_plan_here", "_law_found", "_law_part", "_law_shape_here"] ds) μ := by
  obtain ⟨d, ks, p, rfl, hd, ho, hg, hdp, n3, q⟩ := h
  have s5 := jr hd.1 hd.2.1
  have hn : n ≤ 2 := by omega
  have rbn : rbD n ≤ 200 := Nat.le_trans (gk hn) (by decide)
  have low : ∀ {p : Pn}, p.good ks.length → p.depth ≤ n → je d ks 200 (p.shape d ks) := fun {p} h1 h2 => (gm hd ho p h1).mono (Nat.le_trans (gk h2) rbn)
  unfold gI
  cases p with
  | kind i =>
    simp only [Pn.data]
    walk_at "rp"
    have hi : i < ks.length := hg
    rw [show atI (ks.map dN) (i : Int) = some (dN (ks.getD i ay)) from Lx hi]
    exact q
  | turn p =>
    simp only [Pn.data]
    walk_at "rp"
    have hd' : p.depth + 1 ≤ n + 1 := hdp
    have S := low (p := p) hg (by omega)
    refine ⟨d, ks, p, rfl, hd, ho, hg, by omega, by omega, ?_⟩
    exact ⟨d, _, rfl, s5, aN hd S.ok S.pos, (S.bd hd).mono (by decide), q⟩
  | zT u v p =>
    simp only [Pn.data]
    walk_at "rp"
    obtain ⟨⟨u0, u1, v0, v1⟩, hg'⟩ := hg
    have hd' : p.depth + 1 ≤ n + 1 := hdp
    have S := low (p := p) hg' (by omega)
    have un : u ≠ 0 := by omega
    have zz : ∀ {t : Int}, 0 < t → t ≤ 1000 → Sz 10 t := fun h1 h2 => Sz.of (by show _ < 1024; omega)
    refine ⟨v, 0, u, rfl, un, (zz u0 u1).mono (by decide), ?_⟩
    walk_at "rp"
    refine ⟨d, ks, p, rfl, hd, ho, hg', by omega, by omega, ?_⟩
    exact ⟨d, _, _, rfl, s5, fX _ _ un, S.ok, (ji un (zz v0 v1) sz0 (zz u0 u1)).mono (by decide), (S.bd hd).mono (by decide), q⟩
  | two b p r =>
    have hd' : max p.depth r.depth + 1 ≤ n + 1 := hdp
    have key := CW (μ := μ) (Qd := Qd) (nx := fun _ μ' => Qd (.v .none) μ') b [p, r] hd ho hn (by simp) (by simp) (fun x hx => by
      simp only [List.mem_cons, List.not_mem_nil, or_false] at hx
      rcases hx with rfl | rfl
      · exact ⟨hg.1, by omega⟩
      · exact ⟨hg.2, by omega⟩) q
    simp only [Pn.data]
    cases b
    · simp only [wdS, Bool.false_eq_true, ↓reduceIte]
      walk_at "rp"
      exact key
    · simp only [wdS, ↓reduceIte]
      walk_at "rp"
      exact key
  | three b p r t =>
    have hd' : max p.depth (max r.depth t.depth) + 1 ≤ n + 1 := hdp
    have key := CW (μ := μ) (Qd := Qd) (nx := fun _ μ' => Qd (.v .none) μ') b [p, r, t] hd ho hn (by simp) (by simp) (fun x hx => by
      simp only [List.mem_cons, List.not_mem_nil, or_false] at hx
      rcases hx with rfl | rfl | rfl
      · exact ⟨hg.1, by omega⟩
      · exact ⟨hg.2.1, by omega⟩
      · exact ⟨hg.2.2, by omega⟩) q
    simp only [Pn.data]
    cases b
    · simp only [wdS, Bool.false_eq_true, ↓reduceIte]
      walk_at "rp"
      exact key
    · simp only [wdS, ↓reduceIte]
      walk_at "rp"
      exact key
end
open PySem PySem.Spec PyProof.Rows NM
def pX : DSp := fun ds μ Q => ∃ (d : Int) (ks : List N3) (s : N3), ds = [.v (.int d), .v (.tuple (ks.map dN)), .v (dN s)] ∧ aw d ∧ cE d ks ∧ Ok s ∧ Bd 480 s ∧ sg d s.a s.b = 1 ∧ Q (.v (.bool (dX d ks s))) μ
theorem yG {μ : Mu} {Q : DK} {ds : List D} (h : pX ds μ Q) : ds.length = 3 := by obtain ⟨_, _, _, rfl, _⟩ := h; rfl
def kq : DSp := fun ds μ Q => ∃ (d : Int) (ks : List N3) (s : N3), ds = [.v (.int d), .v (.tuple (ks.map dN)), .v (dN s)] ∧ aw d ∧ cE d ks ∧ Ok s ∧ Bd 480 s ∧ sg d s.a s.b = 1 ∧ Q (.v (.bool true)) μ
theorem B5 {μ : Mu} {Q : DK} {ds : List D} (h : kq ds μ Q) : ds.length = 3 := by obtain ⟨_, _, _, rfl, _⟩ := h; rfl
def jl : DTS :=
  (aJ (bC (rz [none, some 0] (qI (af 1)) (au 0) qG (ao fc (ab (af 1) (ab (ao eP (ab (af 0) aj)) aj)))) (au 3))
  (aJ (dy (dB (dOp rGt (Ab (af 3)) (dC (.int 1)))) (bD (dC (.bool true))) bU)
  (aJ (dy (dB (dOp (d6 true) (ao fc (ab (af 0) (ab (ao eP (ab (af 2) aj)) aj))) (dOp aC (af 3) (dC (.int 0))))) (bD (dC (.bool false))) bU)
  (aJ (bC (ao me (ab (af 0) (ab (af 2) aj))) (au 4))
  (aJ (dy (dB (dOp rGt (dOp aC (af 3) (dC (.int 0))) (dC (.int 0)))) (bD (dCB zp (ab (vE [none, some 0, some 4] (qI (af 1)) (au 0) qG (Dg (ao sA (ab (af 1) (ab (ao me (ab (af 1) (ab (af 0) aj))) (ab (af 2) aj)))))) aj))) bU)
  (bD (dCB zp (ab (vE [none, some 0, some 4] (qI (af 1)) (au 0) qG (Dg (ao sA (ab (af 1) (ab (af 2) (ab (ao me (ab (af 1) (ab (af 0) aj))) aj)))))) aj))))))))
def jf : DTS :=
  (aJ (bC (ao rm (ab (af 0) (ab (af 1) (ab (af 2) aj)))) (au 3))
  (bD (vp (FK "bool" (af 3)) (dOp (d6 false) (af 3) (ao pX (ab (af 0) (ab (af 1) (ab (af 2) aj))))))))
section
variable {μ : Mu} {Qd : DK} {ds : List D} {ρ : Rho}
theorem Nm : ∀ ns : List Int, 1 ≤ ns.length → ns.length ≤ 3 → (∀ n ∈ ns, n = 1 ∨ n = -1) → (decide ((1 : Int) < (vz ns : Nat)) = (ns.any (fun n => decide (n = 1)) && ns.any (fun n => decide (n = -1)))) := by
  intro ns h1 h3 hn
  match ns, h1, h3, hn with
  | [a], _, _, hn => rcases hn a (by simp) with rfl | rfl <;> decide +kernel
  | [a, b], _, _, hn => rcases hn a (by simp) with rfl | rfl <;> rcases hn b (by simp) with rfl | rfl <;> decide +kernel
  | [a, b, c], _, _, hn => rcases hn a (by simp) with rfl | rfl <;> rcases hn b (by simp) with rfl | rfl <;> rcases hn c (by simp) with rfl | rfl <;> decide +kernel
theorem Jr (l : List Int) : gc (l.map PyData.int) = some l := by
  induction l with
  | nil => rfl
  | cons k l ih =>
    rw [List.map_cons]
    show gc (PyData.int k :: _) = _
    unfold gc
    rw [ih]
    rfl
def fBo (g : N3 → Bool) : PyData → Option PyData
  | .tuple [.int a, .int b, .int c] => some (.bool (g ⟨a, b, c⟩))
  | _ => none
theorem OS (g : N3 → Bool) (xs : List N3) : bY ((xs.map dN).filterMap (fBo g)) = some (xs.map g) := by
  induction xs with
  | nil => rfl
  | cons x xs ih =>
    rw [List.map_cons, List.filterMap_cons]
    show bY (PyData.bool (g x) :: _) = _
    unfold bY
    rw [ih]
    rfl
theorem xP {ks : List N3} {f g : N3 → Bool} (h : ∀ k ∈ ks, f k = g k) : ks.any f = ks.any g := by
  induction ks with
  | nil => rfl
  | cons k t ih => rw [List.any_cons, List.any_cons, h k (by simp), ih fun x hx => h x (by simp [hx])]
theorem OJ {d : Int} {k : N3} (hd : aw d) (ok : Ok k) (sk : sg d k.a k.b = 1) : bK d k = sgN d k := AN hd ok sk
theorem Kz {d : Int} {ks : List N3} {s : N3} (hd : aw d) (ho : cE d ks) (os : Ok s) (hs : sg d s.a s.b = 1) (hm : cQ d ks = false) : dX d ks s = ks.any (fun k => eo d k s) := by
  refine Fc ?_
  rw [ub hd ho os hs, hm, List.any_eq_true]
  constructor
  · rintro (z | ⟨k, hk, l⟩)
    · cases z
    · obtain ⟨ok, _, sk⟩ := ho.ok k hk
      exact ⟨k, hk, (sG hd ok os sk hs).mpr l⟩
  · rintro ⟨k, hk, l⟩
    obtain ⟨ok, _, sk⟩ := ho.ok k hk
    exact .inr ⟨k, hk, (sG hd ok os sk hs).mp l⟩
theorem JP {d : Int} {ks : List N3} (hd : aw d) (ho : cE d ks) (hm : cQ d ks = false) {x y : N3} (hx : x ∈ ks) (hy : y ∈ ks) : bK d x = bK d y := by
  obtain ⟨ox, _, sx⟩ := ho.ok x hx
  obtain ⟨oy, _, sy⟩ := ho.ok y hy
  rcases w4 hd ho hm hx hy with ⟨a, b⟩ | ⟨a, b⟩
  · rw [wL hd ox sx a, wL hd oy sy b]
  · rw [xJ hd ox sx a, xJ hd oy sy b]
theorem vX (h : pX ds μ Qd) : jl { nx := fun _ μ' => Qd (.v .none) μ', rt := Qd } (aK ["_law_d", "_law_kinds_here", "_law_shape_here", "_law_signs", "_law_lean"] ds) μ := by
  obtain ⟨d, ks, s, rfl, hd, ho, os, bs, hs, q⟩ := h
  have l1 := ho.l1
  have l3 := ho.l3
  have ns := aN hd os hs
  unfold jl
  walk_at "rn"
  refine ⟨by rw [List.length_map]; omega, fun p hp => ⟨fun i acc μ' => acc = ((ks.take i).map (bK d)).map .int ∧ μ' = aV μ p acc, ⟨by simp, rfl⟩, ?_, ?_⟩⟩
  · rintro i x acc μ' hx hacc ⟨rfl, rfl⟩
    rw [List.getElem?_map] at hx
    obtain ⟨k, he, rfl⟩ : ∃ k, ks[i]? = some k ∧ dN k = x := by
      cases z : ks[i]? with
      | none => rw [z] at hx; cases hx
      | some e => rw [z] at hx; exact ⟨e, rfl, by simpa using hx⟩
    obtain ⟨ok, bk, sk⟩ := ho.ok k (List.mem_of_getElem? he)
    refine ⟨⟨trivial, trivial⟩, k, rfl, d, bR k, rfl, hd, (fK bk).mono (by decide), bB, ?_, ?_⟩
    · rw [List.take_succ, he]; simp; rfl
    · rw [uI]
  · rintro acc μ' ⟨rfl, rfl⟩ hacc
    rw [zy hp, List.length_map, List.take_length, J8]
    walk_at "rn"
    rw [Jr]
    refine ⟨by rw [List.length_map]; omega, ?_⟩
    have pm : ∀ n ∈ ks.map (bK d), n = 1 ∨ n = -1 := fun n hn => by
      obtain ⟨k, hk, rfl⟩ := List.mem_map.mp hn
      obtain ⟨ok, _, sk⟩ := ho.ok k hk
      rcases rD hd ok sk with ⟨a, _⟩ | ⟨a, _⟩
      · exact .inl a
      · exact .inr a
    have dm := Nm (ks.map (bK d)) (by rw [List.length_map]; exact l1) (by rw [List.length_map]; exact l3) pm
    have em : ((ks.map (bK d)).any (fun n => decide (n = 1)) && (ks.map (bK d)).any (fun n => decide (n = -1))) = cQ d ks := by
      unfold cQ
      have e : ks.map (bK d) = ks.map (sgN d) := List.map_congr_left fun k hk => by
        obtain ⟨ok, _, sk⟩ := ho.ok k hk
        exact OJ hd ok sk
      rw [e, List.any_map, List.any_map]
      rfl
    rw [em] at dm
    rw [dm]
    cases hm : cQ d ks with
    | true =>
      simp only [↓reduceIte]
      have : dX d ks s = true := by unfold dX; rw [hm]; rfl
      rw [this] at q
      exact q
    | false =>
      simp only [Bool.false_eq_true, ↓reduceIte]
      obtain ⟨k0, h0, e0⟩ : ∃ k ∈ ks, atI ((ks.map (bK d)).map PyData.int) 0 = some (.int (bK d k)) := by
        match ks, l1 with
        | k :: t, _ => exact ⟨k, by simp, vy⟩
      refine ⟨s, rfl, d, bR s, rfl, hd, (fK bs).mono (by decide), ?_⟩
      rw [e0]
      walk_at "rn"
      have ew : sg d (bR s).a (bR s).b = bK d s := rfl
      rw [ew]
      have la := Kz hd ho os hs hm
      have each : ∀ k ∈ ks, eo d k s = (decide (bK d s = bK d k0) && (if 0 < bK d k0 then !decide (dif d (aO d s) (aO d k) = 1) else !decide (dif d (aO d k) (aO d s) = 1))) := fun k hk => by
        obtain ⟨ok, bk, sk⟩ := ho.ok k hk
        rw [Jl hd ok os sk hs, JP hd ho hm hk h0]
      have bs5 := xj hd os ns bs
      have ols := dU hd ns os
      by_cases hw : bK d s = bK d k0
      · rw [if_neg (by simp [hw])]
        refine ⟨d, s, rfl, hd, os, ns, bs, ?_⟩
        dsimp only
        by_cases hp0 : 0 < bK d k0
        · rw [if_pos (by simpa using hp0)]
          refine ⟨by omega, fBo (fun k => !decide (dif d (aO d s) (aO d k) = 1)), fun x hx μ2 h2 => ⟨⟨trivial, trivial, trivial⟩, ?_⟩, ?_⟩
          · obtain ⟨k, hk, rfl⟩ := List.mem_map.mp hx
            obtain ⟨ok, bk, sk⟩ := ho.ok k hk
            have nk := aN hd ok sk
            exact ⟨d, k, rfl, hd, ok, nk, bk.mono (by decide), d, _, _, rfl, hd, dU hd nk ok, ols, (xj hd ok nk bk).mono (by decide), bs5.mono (by decide), rfl, rfl⟩
          · rw [Mi, OS]
            have e : (ks.map (fun k => !decide (dif d (aO d s) (aO d k) = 1))).any id = dX d ks s := by
              rw [la, List.any_map]
              refine xP fun k hk => ?_
              rw [each k hk, decide_eq_true hw, Bool.true_and, if_pos hp0]
              rfl
            rw [← e] at q
            exact q
        · rw [if_neg (by simpa using hp0)]
          refine ⟨by omega, fBo (fun k => !decide (dif d (aO d k) (aO d s) = 1)), fun x hx μ2 h2 => ⟨⟨trivial, trivial, trivial⟩, ?_⟩, ?_⟩
          · obtain ⟨k, hk, rfl⟩ := List.mem_map.mp hx
            obtain ⟨ok, bk, sk⟩ := ho.ok k hk
            have nk := aN hd ok sk
            exact ⟨d, k, rfl, hd, ok, nk, bk.mono (by decide), d, _, _, rfl, hd, ols, dU hd nk ok, bs5.mono (by decide), (xj hd ok nk bk).mono (by decide), rfl, rfl⟩
          · rw [Mi, OS]
            have e : (ks.map (fun k => !decide (dif d (aO d k) (aO d s) = 1))).any id = dX d ks s := by
              rw [la, List.any_map]
              refine xP fun k hk => ?_
              rw [each k hk, decide_eq_true hw, Bool.true_and, if_neg hp0]
              rfl
            rw [← e] at q
            exact q
      · rw [if_pos (by simp [hw])]
        have e : dX d ks s = false := by
          rw [la, List.any_eq_false]
          intro k hk
          rw [each k hk, decide_eq_false hw, Bool.false_and]
          decide
        rw [e] at q
        exact q
theorem vP (h : kq ds μ Qd) : jf { nx := fun _ μ' => Qd (.v .none) μ', rt := Qd } (aK ["_law_d", "_law_kinds_here", "_law_shape_here", "_law_told"] ds) μ := by
  obtain ⟨d, ks, s, rfl, hd, ho, os, bs, hs, q⟩ := h
  unfold jf
  walk_at "rn"
  refine ⟨d, ks, s, rfl, hd, ho, os, SB.of hd os hs (bs.mono (by decide)), hs, ?_⟩
  dsimp only
  rw [show isT "bool" (PyData.bool (dX d ks s)) = true from by cases dX d ks s <;> rfl, if_pos rfl]
  refine ⟨d, ks, s, rfl, hd, ho, os, bs, hs, ?_⟩
  dsimp only
  rw [GP]
  simpa using q
end
open PySem PySem.Spec PyProof.Rows NM
def Fi : DTS :=
  (aJ (bC (xi aj) (au 1))
  (aJ (vk (pq (ab (dCB (El max) (ab (dC (.int 2)) (ab (dCB (El min) (ab (dC (.int 5)) (ab (dCB i7 (ab (af 0) aj)) aj))) aj))) aj)) (au 2) (aJ (bC (ao GU (ab (af 0) (ab (af 2) aj))) (au 3))
  (aJ (bC (ao wt (ab (af 3) aj)) (au 4))
  (aJ (bC (ao sE (ab (af 3) (ab (af 4) aj))) (au 5))
  (aJ (vk (pq (ab (dC (.int 4)) aj)) (au 6) (aJ (bC (ao sO (ab (af 3) (ab (af 4) (ab (af 5) aj)))) (au 7))
  (aJ (mx (C2 (af 1) (cL (ab (af 4) (ab (af 5) (ab (af 7) aj))))))
  (dy (mr (dB (ao kq (ab (af 4) (ab (af 5) (ab (af 7) aj)))))) (bD (dC (.bool false))) bU))))
  (aJ (dy (dB (dOp wg (ao rm (ab (af 4) (ab (af 5) (ab (ao (ej 3) (ab (af 4) (ab (af 5) (ab (ao (gz 3) (ab (af 3) (ab (dCB i7 (ab (af 5) aj)) (ab (dC (.int 3)) aj)))) aj)))) aj)))) (dC (.bool true)))) (bD (dC (.bool false))) bU)
  (aJ (bC (ao wa (ab (af 3) (ab (af 4) aj))) (au 8))
  (aJ (bC (cL (ab (af 8) (ab (ao bI (ab (af 4) (ab (dOp aC (af 5) (dC (.int 0))) aj))) aj))) (au 9))
  (IT (ao sL (ab (af 3) (ab (af 4) (ab (af 8) aj)))) (au 7) (dy (BR (mr (dB (ao kq (ab (af 4) (ab (cL (ab (af 8) aj)) (ab (af 7) aj)))))) (mr (dB (ao kq (ab (af 4) (ab (af 9) (ab (af 7) aj))))))) (bD (dC (.bool false))) bU))))))))))
  (aJ (dy (mr (dB (dCB xw (ab (vE [none, none, none] (xD (Mt (af 1))) (qL 3 (eh (au 0) (eh (au 1) (eh (au 2) sZ)))) qG (ao kq (ab (af 0) (ab (af 1) (ab (af 2) aj))))) aj)))) (bD (dC (.bool false))) bU)
  (bD (vp (dOp HM (ao rm (ab (dC (.int 2)) (ab (cL (ab (cL (ab (dC (.int 1)) (ab (dC (.int 1)) (ab (dC (.int 1)) aj)))) aj)) (ab (cL (ab (dC (.int 0)) (ab (dC (.int 1)) (ab (dC (.int 1)) aj)))) aj)))) (dC (.bool true))) (dOp HM (ao rm (ab (dC (.int 2)) (ab (cL (ab (cL (ab (dC (.int 1)) (ab (dC (.int 0)) (ab (dC (.int 1)) aj)))) aj)) (ab (cL (ab (dC (.int 0)) (ab (dC (.int 1)) (ab (dC (.int 1)) aj)))) aj)))) (dC (.bool false))))))))
section
variable {μ : Mu} {Qd : DK} {ds : List D} {ρ : Rho}
def Ahd (x : PyData) : Prop := ∃ (d : Int) (ks : List N3) (s : N3), x = .tuple [.int d, .tuple (ks.map dN), dN s] ∧ aw d ∧ KindsOk d ks ∧ Ok s ∧ Bd 230 s ∧ sg d s.a s.b = 1
theorem allTrue (L : List PyData) : bY (L.filterMap (fun _ => some (PyData.bool true))) = some (List.replicate L.length true) := by
  induction L with
  | nil => rfl
  | cons x L ih =>
    rw [List.filterMap_cons]
    show bY (PyData.bool true :: _) = _
    unfold bY
    rw [ih]
    rfl
theorem K0 {a p : Addr} {μ : Mu} {xs : List PyData} (h : a ≠ p) (hb : Bag μ a) : Bag (aV μ p xs) a := by
  obtain ⟨g, m, e, z⟩ := hb
  exact ⟨g, m, by rw [bL h]; exact e, z⟩
theorem rO {d : Int} {w : N3} (ow : Ok w) (bw : Bd 140 w) (gw : sg d w.a w.b = 1) : cE d [w] := ⟨by simp, by simp, fun k hk => by rw [List.mem_singleton.mp hk]; exact ⟨ow, bw, gw⟩⟩
theorem Fp {d : Int} {w v : N3} (ow : Ok w) (bw : Bd 140 w) (gw : sg d w.a w.b = 1) (ov : Ok v) (bv : Bd 140 v) (gv : sg d v.a v.b = 1) : cE d [w, v] := ⟨by simp, by simp, fun k hk => by
  simp only [List.mem_cons, List.not_mem_nil, or_false] at hk
  rcases hk with rfl | rfl
  · exact ⟨ow, bw, gw⟩
  · exact ⟨ov, bv, gv⟩⟩
theorem MY (h : wQ ds μ Qd) : Fi { nx := fun _ μ' => Qd (.v .none) μ', rt := Qd } (aK ["_law_script", "_law_ahead", "_law_k", "_law_bag_here", "_law_d", "_law_kinds_here", "_law_turn", "_law_shape_here", "_law_kind", "_law_pair"] ds) μ := by
  obtain ⟨ns, rfl, h63, q⟩ := h
  unfold Fi
  walk_at "rn"
  intro pa hpa
  rw [sV]
  walk_at "rn"
  have hm : (-(2 ^ 62) ≤ max 2 (min 5 ((ns.length : Nat) : Int)) ∧ max 2 (min 5 ((ns.length : Nat) : Int)) < 2 ^ 62) := by omega
  refine ⟨hm, fun i ρ μ' => ∃ r2 r3 r4 r5 r6 r7 r8 r9, ρ = [some (.s ns), some (.m pa), r2, r3, r4, r5, r6, r7, r8, r9] ∧ ∃ L, μ' pa = some L ∧ L.length ≤ 4 * i ∧ ∀ x ∈ L, Ahd x, ⟨_, _, _, _, _, _, _, _, rfl, [], bB, Nat.zero_le _, fun x hx => by cases hx⟩, ?_, ?_⟩
  · rintro i x ρ μ0 hx ⟨r2, r3, r4, r5, r6, r7, r8, r9, rfl, L, hL, lL, aL⟩
    obtain ⟨rfl, hi⟩ := y9 hx
    have hi5 : i < 5 := by omega
    walk_at "rn"
    refine ⟨ns, _, rfl, by omega, by omega, fun a μ1 ha s1 => ?_⟩
    have hap : pa ≠ a := fun z => by rw [z, ha] at hL; cases hL
    walk_at "rn"
    refine ⟨a, rfl, s1.1, fun d μ2 hd s2 => ?_⟩
    walk_at "rn"
    refine ⟨a, d, rfl, hd, s2.1, fun ks μ3 ho s3 => ?_⟩
    have s5 := jr hd.1 hd.2.1
    have hL3 : μ3 pa = some L := s3.2 pa hap _ (by rw [s2.2 pa hap, s1.2 pa hap]; exact hL)
    walk_at "rn"
    rw [sV]
    walk_at "rn"
    refine ⟨⟨by decide, by decide⟩, fun j ρ μ' => ∃ r6 r7, ρ = [some (.s ns), some (.m pa), some (.v (.int (0 + (i : Int)))), some (.m a), some (.v (.int d)), some (.v (.tuple (ks.map dN))), r6, r7, r8, r9] ∧ Bag μ' a ∧ ∃ L, μ' pa = some L ∧ L.length ≤ 4 * i + j ∧ ∀ x ∈ L, Ahd x, ⟨_, _, rfl, s3.1, L, hL3, by omega, aL⟩, ?_, ?_⟩
    · rintro j y ρ μ4 hy ⟨r6, r7, rfl, hb4, L4, hL4, lL4, aL4⟩
      obtain ⟨rfl, hj⟩ := y9 hy
      have hj4 : j < 4 := by exact hj
      walk_at "rn"
      refine ⟨a, d, ks, rfl, hd, ho, hb4, fun s μ5 os bs gs s5' => ?_⟩
      have hL5 : μ5 pa = some L4 := by rw [s5'.2 pa hap]; exact hL4
      walk_at "rn"
      simp only [hL5]
      refine ⟨by omega, d, ks, s, rfl, hd, ho.wide, os, bs.mono (by decide), gs, ?_⟩
      simp only [Bool.not_true, Bool.false_eq_true, ↓reduceIte]
      refine ⟨_, _, rfl, K0 (fun z => hap z.symm) s5'.1, _, bB, by simp; omega, fun x hx => ?_⟩
      rcases List.mem_append.mp hx with z | z
      · exact aL4 x z
      · rw [List.mem_singleton.mp z]; exact ⟨d, ks, s, rfl, hd, ho, os, bs, gs⟩
    · rintro ρ μ4 ⟨r6, r7, rfl, hb4, L4, hL4, lL4, aL4⟩
      rw [oO] at lL4
      walk_at "rn"
      have l1 := ho.l1
      have l3 := ho.l3
      refine ⟨a, ks.length, 3, by rw [List.length_map]; rfl, l1, l3, by decide, by decide, by decide, hb4, fun p μ5 hg hdp s45 => ?_⟩
      have S := (gm hd ho p hg).mono (gk hdp)
      have S' := S.ar hd ho
      refine ⟨d, ks, p, rfl, hd, ho, hg, hdp, by decide, ?_⟩
      refine ⟨d, ks, _, rfl, hd, ho.wide, S.ok, ⟨(S.bd hd).mono (by decide), (S'.bd hd).mono (by decide), fun z => by rw [S.ld] at z; cases z⟩, S.pos, ?_⟩
      rw [S.ld]
      have hL5 : μ5 pa = some L4 := s45.2 pa hap _ hL4
      unfold wg
      simp only [beq_self_eq_true, Bool.not_true, Bool.false_eq_true, ↓reduceIte]
      refine ⟨a, d, rfl, hd, s45.1, fun w μ6 ow bw gw s56 => ?_⟩
      have hL6 : μ6 pa = some L4 := s56.2 pa hap _ hL5
      obtain ⟨k0, hk0, e0⟩ : ∃ k ∈ ks, atI (ks.map dN) 0 = some (dN k) := by
        match ks, l1 with
        | k :: t, _ => exact ⟨k, by simp, vy⟩
      obtain ⟨ok0, bk0, gk0⟩ := ho.ok k0 hk0
      have nk0 := aN hd ok0 gk0
      have bc0 := bS s5 nk0 bk0
      dsimp only
      rw [e0]
      dsimp only
      refine ⟨d, k0, rfl, s5, nk0, bk0.mono (by decide), ?_⟩
      dsimp only
      rw [show da [D.v (dN w), D.v (dN (ar d k0))] = some [dN w, dN (ar d k0)] from rfl]
      dsimp only
      rw [M3]
      walk_at "rn"
      refine ⟨a, d, w, rfl, hd, ow, bw, gw, s56.1, fun pw W μ7 hpw s67 hW lW aW => ?_⟩
      have hL7 : μ7 pa = some L4 := s67.2 pa hap _ hL6
      refine ⟨W, hW, fun i' ρ μ' => ∃ r7, ρ = [some (.s ns), some (.m pa), some (.v (.int (0 + (i : Int)))), some (.m a), some (.v (.int d)), some (.v (.tuple (ks.map dN))), r6, r7, some (.v (dN w)), some (.v (.tuple [dN w, dN (ar d k0)]))] ∧ μ' = μ7, ⟨_, rfl, rfl⟩, ?_, ?_, ?_⟩
      · rintro _ _ μ' ⟨_, _, rfl⟩; exact hW
      · rintro i' x ρ' μ' hx' ⟨r7, rfl, rfl⟩
        obtain ⟨t, rfl, ot, bt, gt⟩ := aW x (List.mem_of_getElem? hx')
        walk_at "rn"
        refine ⟨d, [w], t, rfl, hd, rO ow bw gw, ot, bt, gt, ?_⟩
        simp only [Bool.not_true, Bool.false_eq_true, ↓reduceIte]
        refine ⟨d, [w, ar d k0], t, rfl, hd, Fp ow bw gw (aE nk0) (bc0.mono (by decide)) (dW hd ok0 gk0), ot, bt, gt, ?_⟩
        simp only [Bool.not_true, Bool.false_eq_true, ↓reduceIte]
        exact ⟨_, rfl, trivial⟩
      · rintro ρ' μ' ⟨r7, rfl, rfl⟩
        exact ⟨_, _, _, _, _, _, _, _, rfl, L4, hL7, by have : (4 : Int).toNat = 4 := rfl; omega, aL4⟩
  · rintro ρ μ0 ⟨r2, r3, r4, r5, r6, r7, r8, r9, rfl, L, hL, lL, aL⟩
    walk_at "rn"
    rw [hL]
    have l20 : L.length ≤ 20 := by rw [oO] at lL; omega
    refine ⟨by rw [List.length_reverse]; omega, fun _ => some (.bool true), fun x hx μ' h' => ?_, ?_⟩
    · obtain ⟨d, ks, s, rfl, hd, ho, os, bs, gs⟩ := aL x (List.mem_reverse.mp hx)
      walk_at "rn"
      exact ⟨trivial, trivial, d, ks, s, rfl, hd, ho.wide, os, bs.mono (by decide), gs, rfl, rfl⟩
    · rw [allTrue]
      dsimp only
      rw [if_neg (by simp)]
      have h2 : aw 2 := ⟨by decide, by decide, by decide, by decide, by decide, by decide⟩
      have b1 : ∀ {a b c : Int}, a.natAbs < 2 → b.natAbs < 2 → c.natAbs < 2 → Bd 1 ⟨a, b, c⟩ := fun h1 h2 h3 => ⟨Sz.of h1, Sz.of h2, Sz.of h3⟩
      have o11 : Ok ⟨1, 1, 1⟩ := ⟨by decide, by decide⟩
      have o10 : Ok ⟨1, 0, 1⟩ := ⟨by decide, by decide⟩
      have o01 : Ok ⟨0, 1, 1⟩ := ⟨by decide, by decide⟩
      have g01 : sg 2 0 1 = 1 := by decide
      have B01 := (b1 (a := 0) (b := 1) (c := 1) (by decide) (by decide) (by decide))
      have k11 : cE 2 [⟨1, 1, 1⟩] := rO o11 ((b1 (by decide) (by decide) (by decide)).mono (by decide)) (by decide)
      have k10 : cE 2 [⟨1, 0, 1⟩] := rO o10 ((b1 (by decide) (by decide) (by decide)).mono (by decide)) (by decide)
      have e1 : dX 2 [⟨1, 1, 1⟩] ⟨0, 1, 1⟩ = true := by rw [D8]; decide +kernel
      have e2 : dX 2 [⟨1, 0, 1⟩] ⟨0, 1, 1⟩ = false := by rw [D8]; decide +kernel
      refine ⟨2, [⟨1, 1, 1⟩], ⟨0, 1, 1⟩, rfl, h2, k11, o01, SB.of h2 o01 g01 (B01.mono (by decide)), g01, ?_⟩
      rw [e1]
      refine ⟨2, [⟨1, 0, 1⟩], ⟨0, 1, 1⟩, rfl, h2, k10, o01, SB.of h2 o01 g01 (B01.mono (by decide)), g01, ?_⟩
      rw [e2]
      exact q _
end
end L2.DL
set_option Elab.async false
set_option linter.all false
set_option maxRecDepth 100000
set_option maxHeartbeats 4000000
namespace K40
open PySem L2 L2.DL
structure Adr where
  mJ : Addr
  rM : FuncData
  fR : Addr
  iM : FuncData
  k6 : Addr
  pA : FuncData
  fJ : Addr
  iR : FuncData
  tp : Addr
  xB : FuncData
  Ag : Addr
  FJ : FuncData
  BF : Addr
  EB : FuncData
  BG : Addr
  ER : FuncData
  we : Addr
  zQ : FuncData
  BN : Addr
  Fq : FuncData
  ng : Addr
  rJ : FuncData
  pW : Addr
  uV : FuncData
  gx : Addr
  jn : FuncData
  eS : Addr
  ia : FuncData
  dc : Addr
  eL : FuncData
  nF : Addr
  rg : FuncData
  gB : Addr
  js : FuncData
  gy : Addr
  jg : FuncData
  jV : Addr
  nS : FuncData
  kK : Addr
  oN : FuncData
  nR : Addr
  rF : FuncData
  p7 : Addr
  vc : FuncData
  BZ : Addr
  EZ : FuncData
  eV : Addr
  iq : FuncData
  fT : Addr
  iK : FuncData
  jD : Addr
  nq : FuncData
  kY : Addr
  pP : FuncData
  pU : Addr
  uG : FuncData
  jT : Addr
  nJ : FuncData
  jU : Addr
  mO : FuncData
  jM : Addr
  nt : FuncData
  iu : Addr
  kC : FuncData
  d8 : Addr
  gb : FuncData
  eG : Addr
  gJ : FuncData
  mK : Addr
  rN : FuncData
  kN : Addr
  pD : FuncData
  iX : Addr
  lF : FuncData
  mQ : Addr
  si : FuncData
  kJ : Addr
  oP : FuncData
  jE : Addr
  nN : FuncData
  kH : Addr
  o9 : FuncData
  jA : Addr
  nU : FuncData
  gC : Addr
  jh : FuncData
  kX : Addr
  pE : FuncData
  jL : Addr
  mX : FuncData
  kU : Addr
  oV : FuncData
  iV : Addr
  lj : FuncData
  jS : Addr
  nE : FuncData
  jJ : Addr
  nG : FuncData
  bV : Addr
  cq : FuncData
  dP : Addr
  eZ : FuncData
  eE : Addr
  fj : FuncData
  jN : Addr
  nH : FuncData
  gp : Addr
  jo : FuncData
  hV : Addr
  ke : FuncData
  k8 : Addr
  pR : FuncData
  eK : Addr
  gM : FuncData
  ie : Addr
  kr : FuncData
  Gr : Addr
  Ko : FuncData
  y0 : Tok
  Ij : Addr
  Mw : Addr
structure Txt (K : PySem.W.Frag) (mg : Str → Option Value) (t : Adr) : Prop where
  Fg : Fun K "is_whole" "is_whole" iI t.mJ t.rM
  qT : mg "is_whole" = some (.ref t.mJ)
  qR : PySem.W.keepIn K (.ref t.mJ) = true
  rf : Binds K t.rM ["thing"] []
  uT : Fun K "common_divisor" "common_divisor" dk t.fR t.iM
  mv : mg "common_divisor" = some (.ref t.fR)
  lV : PySem.W.keepIn K (.ref t.fR) = true
  lQ : Binds K t.iM ["a", "b"] []
  CY : Fun K "is_number" "is_number" gR t.k6 t.pA
  Cz : mg "is_number" = some (.ref t.k6)
  CB : PySem.W.keepIn K (.ref t.k6) = true
  Dm : Binds K t.pA ["thing"] []
  uL : Fun K "divisor_of_all" "divisor_of_all" dn t.fJ t.iR
  mE : mg "divisor_of_all" = some (.ref t.fJ)
  lX : PySem.W.keepIn K (.ref t.fJ) = true
  mD : Binds K t.iR ["a", "b", "c"] []
  IB : Fun K "number" "number" mC t.tp t.xB
  ph : mg "number" = some (.ref t.tp)
  oG : PySem.W.keepIn K (.ref t.tp) = true
  pe : Binds K t.xB ["a", "b", "c"] []
  Nz : Fun K "mate" "mate" uN t.Ag t.FJ
  nC : mg "mate" = some (.ref t.Ag)
  mU : PySem.W.keepIn K (.ref t.Ag) = true
  mV : Binds K t.FJ ["x"] []
  M9 : Fun K "plus" "plus" vd t.BF t.EB
  Ke : mg "plus" = some (.ref t.BF)
  KC : PySem.W.keepIn K (.ref t.BF) = true
  Iv : Binds K t.EB ["x", "y"] []
  MX : Fun K "less" "less" uM t.BG t.ER
  Iy : mg "less" = some (.ref t.BG)
  Iz : PySem.W.keepIn K (.ref t.BG) = true
  II : Binds K t.ER ["x", "y"] []
  KR : Fun K "times" "times" p6 t.we t.zQ
  jz : mg "times" = some (.ref t.we)
  jy : PySem.W.keepIn K (.ref t.we) = true
  jK : Binds K t.zQ ["d", "x", "y"] []
  N5 : Fun K "over" "over" vh t.BN t.Fq
  rH : mg "over" = some (.ref t.BN)
  rL : PySem.W.keepIn K (.ref t.BN) = true
  rj : Binds K t.Fq ["d", "x", "y"] []
  FO : Fun K "contrary" "contrary" iN t.ng t.rJ
  kz : mg "contrary" = some (.ref t.ng)
  ku : PySem.W.keepIn K (.ref t.ng) = true
  kE : Binds K t.rJ ["d", "x"] []
  HY : Fun K "sign_of" "sign_of" jZ t.pW t.uV
  j6 : mg "sign_of" = some (.ref t.pW)
  j0 : PySem.W.keepIn K (.ref t.pW) = true
  jX : Binds K t.uV ["d", "x"] []
  vH : Fun K "sign_of_parts" "sign_of_parts" dH t.gx t.jn
  vO : mg "sign_of_parts" = some (.ref t.gx)
  vV : PySem.W.keepIn K (.ref t.gx) = true
  vJ : Binds K t.jn ["d", "a", "b"] []
  tQ : Fun K "is_above_nought" "is_above_nought" cZ t.eS t.ia
  kR : mg "is_above_nought" = some (.ref t.eS)
  kM : PySem.W.keepIn K (.ref t.eS) = true
  kZ : Binds K t.ia ["d", "thing"] []
  ni : Fun K "must_be_above_nought" "must_be_above_nought" bT t.dc t.eL
  df : mg "must_be_above_nought" = some (.ref t.dc)
  dg : PySem.W.keepIn K (.ref t.dc) = true
  di : Binds K t.eL ["d", "thing"] []
  Fj : Fun K "is_kinds" "is_kinds" iH t.nF t.rg
  FD : mg "is_kinds" = some (.ref t.nF)
  FY : PySem.W.keepIn K (.ref t.nF) = true
  FX : Binds K t.rg ["d", "thing"] []
  vK : Fun K "must_be_kinds" "must_be_kinds" dG t.gB t.js
  nV : mg "must_be_kinds" = some (.ref t.gB)
  nY : PySem.W.keepIn K (.ref t.gB) = true
  n9 : Binds K t.js ["d", "thing"] []
  vU : Fun K "lean_fraction" "lean_fraction" dI t.gy t.jg
  oj : mg "lean_fraction" = some (.ref t.gy)
  nX : PySem.W.keepIn K (.ref t.gy) = true
  oi : Binds K t.jg ["d", "shape"] []
  Cb : Fun K "mixture_of" "mixture_of" fQ t.jV t.nS
  Bo : mg "mixture_of" = some (.ref t.jV)
  B7 : PySem.W.keepIn K (.ref t.jV) = true
  zX : Binds K t.nS ["d", "kind", "shape"] []
  DF : Fun K "shares_of" "shares_of" gZ t.kK t.oN
  vF : mg "shares_of" = some (.ref t.kK)
  vC : PySem.W.keepIn K (.ref t.kK) = true
  vB : Binds K t.oN ["d", "first", "second", "shape"] []
  E1 : Fun K "is_share" "is_share" iC t.nR t.rF
  E6 : mg "is_share" = some (.ref t.nR)
  Gg : PySem.W.keepIn K (.ref t.nR) = true
  EI : Binds K t.rF ["d", "x"] []
  Ib : Fun K "bar_for" "bar_for" j4 t.p7 t.vc
  Hu : mg "bar_for" = some (.ref t.p7)
  Hq : PySem.W.keepIn K (.ref t.p7) = true
  He : Binds K t.vc ["d", "kind", "shape"] []
  NK : Fun K "skew" "skew" uJ t.BZ t.EZ
  J2 : mg "skew" = some (.ref t.BZ)
  IG : PySem.W.keepIn K (.ref t.BZ) = true
  Kv : Binds K t.EZ ["shape", "way"] []
  sS : Fun K "plan_of_mixture" "plan_of_mixture" cY t.eV t.iq
  sr : mg "plan_of_mixture" = some (.ref t.eV)
  uf : PySem.W.keepIn K (.ref t.eV) = true
  tf : Binds K t.iq ["u", "v", "place"] []
  vg : Fun K "plan_of_shares" "plan_of_shares" dr t.fT t.iK
  lT : mg "plan_of_shares" = some (.ref t.fT)
  mi : PySem.W.keepIn K (.ref t.fT) = true
  mw : Binds K t.iK ["u", "first", "v", "second"] []
  AG : Fun K "share_plan" "share_plan" fP t.jD t.nq
  jI : mg "share_plan" = some (.ref t.jD)
  jC : PySem.W.keepIn K (.ref t.jD) = true
  jO : Binds K t.nq ["share", "plan"] []
  D7 : Fun K "wish_told" "wish_told" gP t.kY t.pP
  Cp : mg "wish_told" = some (.ref t.kY)
  C6 : PySem.W.keepIn K (.ref t.kY) = true
  CZ : Binds K t.pP ["d", "kinds", "shape"] []
  G8 : Fun K "is_laid" "is_laid" jW t.pU t.uG
  p5 : mg "is_laid" = some (.ref t.pU)
  pV : PySem.W.keepIn K (.ref t.pU) = true
  pS : Binds K t.uG ["d", "kinds", "shape"] []
  BA : Fun K "leans_most" "leans_most" fB t.jT t.nJ
  Ai : mg "leans_most" = some (.ref t.jT)
  zU : PySem.W.keepIn K (.ref t.jT) = true
  AR : Binds K t.nJ ["d", "kinds"] []
  B8 : Fun K "mate_signs" "mate_signs" fD t.jU t.mO
  sH : mg "mate_signs" = some (.ref t.jU)
  ue : PySem.W.keepIn K (.ref t.jU) = true
  sF : Binds K t.mO ["d", "kinds"] []
  Bx : Fun K "leans_more" "leans_more" fL t.jM t.nt
  Az : mg "leans_more" = some (.ref t.jM)
  Ad : PySem.W.keepIn K (.ref t.jM) = true
  Bm : Binds K t.nt ["d", "kind", "other"] []
  xb : Fun K "plan_by_both" "plan_by_both" eB t.iu t.kC
  xh : mg "plan_by_both" = some (.ref t.iu)
  xF : PySem.W.keepIn K (.ref t.iu) = true
  xK : Binds K t.kC ["d", "kinds", "shape"] []
  qk : Fun K "with_greater_mate" "with_greater_mate" cw t.d8 t.gb
  jv : mg "with_greater_mate" = some (.ref t.d8)
  jt : PySem.W.keepIn K (.ref t.d8) = true
  ju : Binds K t.gb ["d", "kinds", "place"] []
  qV : Fun K "has_greater_mate" "has_greater_mate" cK t.eG t.gJ
  kD : mg "has_greater_mate" = some (.ref t.eG)
  kA : PySem.W.keepIn K (.ref t.eG) = true
  kx : Binds K t.gJ ["shape"] []
  Fe : Fun K "_law_bag" "_law_bag" iE t.mK t.rN
  FH : mg "_law_bag" = some (.ref t.mK)
  Ex : PySem.W.keepIn K (.ref t.mK) = true
  EN : Binds K t.rN ["_law_script", "_law_at"] []
  D1 : Fun K "_law_take" "_law_take" gQ t.kN t.pD
  aP : mg "_law_take" = some (.ref t.kN)
  aR : PySem.W.keepIn K (.ref t.kN) = true
  aQ : Binds K t.pD ["_law_bag_here", "_law_many"] []
  yO : Fun K "_law_shared" "_law_shared" eM t.iX t.lF
  qD : mg "_law_shared" = some (.ref t.iX)
  qx : PySem.W.keepIn K (.ref t.iX) = true
  qP : Binds K t.lF ["_law_one", "_law_other"] []
  FI : Fun K "_law_low" "_law_low" iS t.mQ t.si
  fg : mg "_law_low" = some (.ref t.mQ)
  fq : PySem.W.keepIn K (.ref t.mQ) = true
  fw : Binds K t.si ["_law_a", "_law_b", "_law_c"] []
  Ds : Fun K "_law_plus" "_law_plus" gX t.kJ t.oP
  dS : mg "_law_plus" = some (.ref t.kJ)
  dO : PySem.W.keepIn K (.ref t.kJ) = true
  dY : Binds K t.oP ["_law_x", "_law_y"] []
  By : Fun K "_law_minus" "_law_minus" fU t.jE t.nN
  nK : mg "_law_minus" = some (.ref t.jE)
  mN : PySem.W.keepIn K (.ref t.jE) = true
  nv : Binds K t.nN ["_law_x"] []
  C7 : Fun K "_law_mate" "_law_mate" g9 t.kH t.o9
  k7 : mg "_law_mate" = some (.ref t.kH)
  kP : PySem.W.keepIn K (.ref t.kH) = true
  kT : Binds K t.o9 ["_law_x"] []
  Af : Fun K "_law_times" "_law_times" fM t.jA t.nU
  bH : mg "_law_times" = some (.ref t.jA)
  bG : PySem.W.keepIn K (.ref t.jA) = true
  bF : Binds K t.nU ["_law_d", "_law_x", "_law_y"] []
  vS : Fun K "_law_contrary" "_law_contrary" dF t.gC t.jh
  cA : mg "_law_contrary" = some (.ref t.gC)
  cD : PySem.W.keepIn K (.ref t.gC) = true
  cB : Binds K t.jh ["_law_d", "_law_x"] []
  DU : Fun K "_law_sign" "_law_sign" gU t.kX t.pE
  g0 : mg "_law_sign" = some (.ref t.kX)
  gW : PySem.W.keepIn K (.ref t.kX) = true
  gO : Binds K t.pE ["_law_d", "_law_x"] []
  Ah : Fun K "_law_below" "_law_below" fE t.jL t.mX
  tY : mg "_law_below" = some (.ref t.jL)
  sN : PySem.W.keepIn K (.ref t.jL) = true
  sR : Binds K t.mX ["_law_d", "_law_x", "_law_y"] []
  CG : Fun K "_law_root" "_law_root" hJ t.kU t.oV
  Ct : mg "_law_root" = some (.ref t.kU)
  CL : PySem.W.keepIn K (.ref t.kU) = true
  CD : Binds K t.oV ["_law_bag_here"] []
  yA : Fun K "_law_number" "_law_number" eO t.iV t.lj
  yB : mg "_law_number" = some (.ref t.iV)
  yK : PySem.W.keepIn K (.ref t.iV) = true
  yk : Binds K t.lj ["_law_bag_here"] []
  Bv : Fun K "_law_above" "_law_above" fH t.jS t.nE
  jR : mg "_law_above" = some (.ref t.jS)
  jQ : PySem.W.keepIn K (.ref t.jS) = true
  jF : Binds K t.nE ["_law_bag_here", "_law_d"] []
  Br : Fun K "_law_kinds" "_law_kinds" fO t.jJ t.nG
  AU : mg "_law_kinds" = some (.ref t.jJ)
  zN : PySem.W.keepIn K (.ref t.jJ) = true
  Bs : Binds K t.nG ["_law_bag_here", "_law_d"] []
  tD : Fun K "_law_plan_shape" "_law_plan_shape" cW t.bV t.cq
  eX : mg "_law_plan_shape" = some (.ref t.bV)
  eU : PySem.W.keepIn K (.ref t.bV) = true
  eT : Binds K t.cq ["_law_d", "_law_kinds_here", "_law_plan_here"] []
  pF : Fun K "_law_lean_fraction" "_law_lean_fraction" cf t.dP t.eZ
  fi : mg "_law_lean_fraction" = some (.ref t.dP)
  fz : PySem.W.keepIn K (.ref t.dP) = true
  fk : Binds K t.eZ ["_law_d", "_law_shape_here"] []
  DQ : Fun K "_law_plan" "_law_plan" gS t.eE t.fj
  kW : mg "_law_plan" = some (.ref t.eE)
  k9 : PySem.W.keepIn K (.ref t.eE) = true
  k5 : Binds K t.fj ["_law_bag_here", "_law_many", "_law_deep"] []
  Bk : Fun K "_law_shape" "_law_shape" fN t.jN t.nH
  Bt : mg "_law_shape" = some (.ref t.jN)
  AV : PySem.W.keepIn K (.ref t.jN) = true
  Ax : Binds K t.nH ["_law_bag_here", "_law_d", "_law_kinds_here"] []
  v5 : Fun K "_law_fraction" "_law_fraction" dJ t.gp t.jo
  gD : mg "_law_fraction" = some (.ref t.gp)
  gq : PySem.W.keepIn K (.ref t.gp) = true
  gu : Binds K t.jo ["_law_bag_here"] []
  wB : Fun K "_law_is_laid" "_law_is_laid" eC t.hV t.ke
  wR : mg "_law_is_laid" = some (.ref t.hV)
  xT : PySem.W.keepIn K (.ref t.hV) = true
  xZ : Binds K t.ke ["_law_d", "_law_kinds_here", "_law_shape_here"] []
  Df : Fun K "_law_wide" "_law_wide" g8 t.k8 t.pR
  Cn : mg "_law_wide" = some (.ref t.k8)
  CJ : PySem.W.keepIn K (.ref t.k8) = true
  Cr : Binds K t.pR ["_law_bag_here", "_law_d"] []
  rR : Fun K "_law_wide_shapes" "_law_wide_shapes" cJ t.eK t.gM
  rP : mg "_law_wide_shapes" = some (.ref t.eK)
  qQ : PySem.W.keepIn K (.ref t.eK) = true
  rK : Binds K t.gM ["_law_bag_here", "_law_d", "_law_kind"] []
  xX : Fun K "_law_is_told" "_law_is_told" el t.ie t.kr
  iw : mg "_law_is_told" = some (.ref t.ie)
  ix : PySem.W.keepIn K (.ref t.ie) = true
  ic : Binds K t.kr ["_law_d", "_law_kinds_here", "_law_shape_here"] []
  O4 : Fun K "law" "law" qC t.Gr t.Ko
  QD : mg "law" = some (.ref t.Gr)
  QF : PySem.W.keepIn K (.ref t.Gr) = true
  QE : Binds K t.Ko ["_law_script"] []
  il : mg "isinstance" = none
  zo : mg "int" = none
  J4 : mg "bool" = none
  wZ : mg "abs" = none
  wj : mg "tuple" = none
  qA : mg "len" = none
  Ip : mg "all" = none
  kQ : mg "range" = none
  Ml : mg "any" = none
  O1 : mg "set" = none
  Oy : mg "max" = none
  Ou : mg "min" = none
  Aa : mg "MOST_KINDS" = some (.int 3 t.y0)
  kF : Ny K mg "NOUGHT" t.Ij 0 0 1
  J6 : Ny K mg "ONE" t.Mw 1 0 1
structure EQ where
  P : Program
  w : World
  K : PySem.W.Frag
  mg : Str → Option Value
  base : Heap
  t : Adr
abbrev TX (e : EQ) : Prop := Txt e.K e.mg e.t
abbrev vw (e : EQ) : Prop := bM e.P e.w e.K e.mg e.base CX0 1 e.t.mJ e.t.rM ["thing"] (spD e.K pY)
abbrev kO (e : EQ) : Prop := bM e.P e.w e.K e.mg e.base CX0 1 e.t.fR e.t.iM ["a", "b"] (spD e.K tu)
abbrev ug (e : EQ) : Prop := bM e.P e.w e.K e.mg e.base CX0 3 e.t.k6 e.t.pA ["thing"] (spD e.K A7)
abbrev ig (e : EQ) : Prop := bM e.P e.w e.K e.mg e.base CX0 2 e.t.fJ e.t.iR ["a", "b", "c"] (spD e.K w8)
abbrev j5 (e : EQ) : Prop := bM e.P e.w e.K e.mg e.base CX0 3 e.t.tp e.t.xB ["a", "b", "c"] (spD e.K cG)
abbrev tW (e : EQ) : Prop := bM e.P e.w e.K e.mg e.base CX0 1 e.t.Ag e.t.FJ ["x"] (spD e.K eP)
abbrev As (e : EQ) : Prop := bM e.P e.w e.K e.mg e.base CX0 4 e.t.BF e.t.EB ["x", "y"] (spD e.K fh)
abbrev BO (e : EQ) : Prop := bM e.P e.w e.K e.mg e.base CX0 4 e.t.BG e.t.ER ["x", "y"] (spD e.K xm)
abbrev mq (e : EQ) : Prop := bM e.P e.w e.K e.mg e.base CX0 4 e.t.we e.t.zQ ["d", "x", "y"] (spD e.K bO)
abbrev uk (e : EQ) : Prop := bM e.P e.w e.K e.mg e.base CX0 5 e.t.BN e.t.Fq ["d", "x", "y"] (spD e.K ly)
abbrev i5 (e : EQ) : Prop := bM e.P e.w e.K e.mg e.base CX0 4 e.t.ng e.t.rJ ["d", "x"] (spD e.K bI)
abbrev kv (e : EQ) : Prop := bM e.P e.w e.K e.mg e.base CX0 2 e.t.pW e.t.uV ["d", "x"] (spD e.K fc)
abbrev l7 (e : EQ) : Prop := bM e.P e.w e.K e.mg e.base CX0 1 e.t.gx e.t.jn ["d", "a", "b"] (spD e.K wk)
abbrev gH (e : EQ) : Prop := bM e.P e.w e.K e.mg e.base CX0 4 e.t.eS e.t.ia ["d", "thing"] (spD e.K pd)
abbrev cX (e : EQ) : Prop := bM e.P e.w e.K e.mg e.base CX0 5 e.t.dc e.t.eL ["d", "thing"] (spD e.K fe)
abbrev vq (e : EQ) : Prop := bM e.P e.w e.K e.mg e.base CX0 5 e.t.nF e.t.rg ["d", "thing"] (spD e.K sI)
abbrev iD (e : EQ) : Prop := bM e.P e.w e.K e.mg e.base CX0 6 e.t.gB e.t.js ["d", "thing"] (spD e.K i9)
abbrev mj (e : EQ) : Prop := bM e.P e.w e.K e.mg e.base CX0 6 e.t.gy e.t.jg ["d", "shape"] (spD e.K uh)
abbrev qu (e : EQ) : Prop := bM e.P e.w e.K e.mg e.base CX0 7 e.t.jV e.t.nS ["d", "kind", "shape"] (spD e.K qe)
abbrev nL (e : EQ) : Prop := bM e.P e.w e.K e.mg e.base CX0 6 e.t.kK e.t.oN ["d", "first", "second", "shape"] (spD e.K oI)
abbrev vD (e : EQ) : Prop := bM e.P e.w e.K e.mg e.base CX0 3 e.t.nR e.t.rF ["d", "x"] (spD e.K pZ)
abbrev wx (e : EQ) : Prop := bM e.P e.w e.K e.mg e.base CX0 6 e.t.p7 e.t.vc ["d", "kind", "shape"] (spD e.K tZ)
abbrev Gy (e : EQ) : Prop := bM e.P e.w e.K e.mg e.base CX0 5 e.t.BZ e.t.EZ ["shape", "way"] (spD e.K xa)
abbrev kj (e : EQ) : Prop := bM e.P e.w e.K e.mg e.base CX0 3 e.t.eV e.t.iq ["u", "v", "place"] (spD e.K qj)
abbrev ip (e : EQ) : Prop := bM e.P e.w e.K e.mg e.base CX0 2 e.t.fT e.t.iK ["u", "first", "v", "second"] (spD e.K oR)
abbrev qO (e : EQ) : Prop := bM e.P e.w e.K e.mg e.base CX0 1 e.t.jD e.t.nq ["share", "plan"] (spD e.K j7)
abbrev tH (e : EQ) : Prop := bM e.P e.w e.K e.mg e.base CX0 9 e.t.kY e.t.pP ["d", "kinds", "shape"] (spD e.K zS)
abbrev rT (e : EQ) : Prop := bM e.P e.w e.K e.mg e.base CX0 10 e.t.pU e.t.uG ["d", "kinds", "shape"] (spD e.K rm)
abbrev qJ (e : EQ) : Prop := bM e.P e.w e.K e.mg e.base CX0 8 e.t.jT e.t.nJ ["d", "kinds"] (spD e.K Bz)
abbrev lO (e : EQ) : Prop := bM e.P e.w e.K e.mg e.base CX0 3 e.t.jU e.t.mO ["d", "kinds"] (spD e.K tE)
abbrev qB (e : EQ) : Prop := bM e.P e.w e.K e.mg e.base CX0 7 e.t.jM e.t.nt ["d", "kind", "other"] (spD e.K wG)
abbrev nZ (e : EQ) : Prop := bM e.P e.w e.K e.mg e.base CX0 7 e.t.iu e.t.kC ["d", "kinds", "shape"] (spD e.K A0)
abbrev i4 (e : EQ) : Prop := bM e.P e.w e.K e.mg e.base CX0 5 e.t.d8 e.t.gb ["d", "kinds", "place"] (spD e.K lR)
abbrev gi (e : EQ) : Prop := bM e.P e.w e.K e.mg e.base CX0 1 e.t.eG e.t.gJ ["shape"] (spD e.K tS)
abbrev vt (e : EQ) : Prop := bM e.P e.w e.K e.mg e.base CX0 1 e.t.mK e.t.rN ["_law_script", "_law_at"] (spD e.K GU)
abbrev cP (e : EQ) : Prop := bM e.P e.w e.K e.mg e.base CX0 1 e.t.kN e.t.pD ["_law_bag_here", "_law_many"] (spD e.K cj)
abbrev oW (e : EQ) : Prop := bM e.P e.w e.K e.mg e.base CX0 1 e.t.iX e.t.lF ["_law_one", "_law_other"] (spD e.K tu)
abbrev dj (e : EQ) : Prop := bM e.P e.w e.K e.mg e.base CX0 2 e.t.mQ e.t.si ["_law_a", "_law_b", "_law_c"] (spD e.K cG)
abbrev eJ (e : EQ) : Prop := bM e.P e.w e.K e.mg e.base CX0 3 e.t.kJ e.t.oP ["_law_x", "_law_y"] (spD e.K fh)
abbrev iU (e : EQ) : Prop := bM e.P e.w e.K e.mg e.base CX0 1 e.t.jE e.t.nN ["_law_x"] (spD e.K qf)
abbrev nh (e : EQ) : Prop := bM e.P e.w e.K e.mg e.base CX0 1 e.t.kH e.t.o9 ["_law_x"] (spD e.K eP)
abbrev d4 (e : EQ) : Prop := bM e.P e.w e.K e.mg e.base CX0 3 e.t.jA e.t.nU ["_law_d", "_law_x", "_law_y"] (spD e.K bO)
abbrev cb (e : EQ) : Prop := bM e.P e.w e.K e.mg e.base CX0 3 e.t.gC e.t.jh ["_law_d", "_law_x"] (spD e.K bI)
abbrev fG (e : EQ) : Prop := bM e.P e.w e.K e.mg e.base CX0 1 e.t.kX e.t.pE ["_law_d", "_law_x"] (spD e.K fc)
abbrev qs (e : EQ) : Prop := bM e.P e.w e.K e.mg e.base CX0 4 e.t.jL e.t.mX ["_law_d", "_law_x", "_law_y"] (spD e.K sA)
abbrev tO (e : EQ) : Prop := bM e.P e.w e.K e.mg e.base CX0 2 e.t.kU e.t.oV ["_law_bag_here"] (spD e.K wt)
abbrev pO (e : EQ) : Prop := bM e.P e.w e.K e.mg e.base CX0 3 e.t.iV e.t.lj ["_law_bag_here"] (spD e.K pT)
abbrev lD (e : EQ) : Prop := bM e.P e.w e.K e.mg e.base CX0 4 e.t.jS e.t.nE ["_law_bag_here", "_law_d"] (spD e.K kd)
abbrev qH (e : EQ) : Prop := bM e.P e.w e.K e.mg e.base CX0 5 e.t.jJ e.t.nG ["_law_bag_here", "_law_d"] (spD e.K sE)
abbrev rA (e : EQ) : Prop := bM e.P e.w e.K e.mg e.base CX0 7 e.t.bV e.t.cq ["_law_d", "_law_kinds_here", "_law_plan_here"] (spD e.K (ej 3))
abbrev iB (e : EQ) : Prop := bM e.P e.w e.K e.mg e.base CX0 4 e.t.dP e.t.eZ ["_law_d", "_law_shape_here"] (spD e.K me)
abbrev BC (e : EQ) : Prop := bM e.P e.w e.K e.mg e.base CX0 5 e.t.eE e.t.fj ["_law_bag_here", "_law_many", "_law_deep"] (spD e.K (gz 3))
abbrev qv (e : EQ) : Prop := bM e.P e.w e.K e.mg e.base CX0 5 e.t.jN e.t.nH ["_law_bag_here", "_law_d", "_law_kinds_here"] (spD e.K sO)
abbrev iF (e : EQ) : Prop := bM e.P e.w e.K e.mg e.base CX0 3 e.t.gp e.t.jo ["_law_bag_here"] (spD e.K mM)
abbrev nW (e : EQ) : Prop := bM e.P e.w e.K e.mg e.base CX0 5 e.t.hV e.t.ke ["_law_d", "_law_kinds_here", "_law_shape_here"] (spD e.K pX)
abbrev sW (e : EQ) : Prop := bM e.P e.w e.K e.mg e.base CX0 3 e.t.k8 e.t.pR ["_law_bag_here", "_law_d"] (spD e.K wa)
abbrev jw (e : EQ) : Prop := bM e.P e.w e.K e.mg e.base CX0 4 e.t.eK e.t.gM ["_law_bag_here", "_law_d", "_law_kind"] (spD e.K sL)
abbrev n8 (e : EQ) : Prop := bM e.P e.w e.K e.mg e.base CX0 11 e.t.ie e.t.kr ["_law_d", "_law_kinds_here", "_law_shape_here"] (spD e.K kq)
abbrev Kh (e : EQ) : Prop := bM e.P e.w e.K e.mg e.base CX0 12 e.t.Gr e.t.Ko ["_law_script"] (spD e.K wQ)
section
variable {e : EQ}
theorem CN : aG ["thing"] ["thing"] (az iI) := ⟨rfl, rfl, rfl, by decide +kernel, rfl, by decide +kernel, by decide +kernel⟩
theorem D3 (T : TX e)  : vw e := by
  have S := CN
  exact T.Fg.okD S (fun ds μ Q h => CS h) (fun cdv A outer s H E hr => ⟨oX, (aq (aD (uZ (x8 (LP _) rfl T.il rfl T.zo PyProof.Rows.Boot.«int» (dv 0)) (uE (Fb (x8 (CM _) rfl T.il rfl T.J4 PyProof.Rows.Boot.«bool» (dv 0))))))), fun ds μ Qd h => CK h⟩)
theorem uc : aG ["a", "b"] ["a", "b"] (az dk) := ⟨rfl, rfl, rfl, by decide +kernel, rfl, by decide +kernel, by decide +kernel⟩
theorem tm (T : TX e)  : kO e := by
  have S := uc
  exact T.uT.okD S (fun ds μ Q h => ze h) (fun cdv A outer s H E hr => ⟨ir, (ai (CF PassesOwn.never (bA (xk hr.units) cI (dv 1) ae (aM _)) (aq (rX (i := 0) (j := 1) rfl S.nd rfl rfl (by decide) rfl rfl (aa (dv 1) (aa (jm (dv 0) (dv 1)) ag)) rfl)))
    (aq (aD (qX rfl T.wZ (aa (dv 0) ag))))), fun ds μ Qd h => sP h⟩)
theorem K8 : aG ["x"] ["x"] (az uN) := ⟨rfl, rfl, rfl, by decide +kernel, rfl, by decide +kernel, by decide +kernel⟩
theorem aT (T : TX e)  : tW e := by
  have S := K8
  exact T.Nz.okD S (fun ds μ Q h => xI h) (fun cdv A outer s H E hr => ⟨zO, (aq (aD (aZ (aa (ax (dv 0) ae (fun _ _ => rfl)) (aa (lx (ax (dv 0) ae (fun _ _ => rfl))) (aa (ax (dv 0) ae (fun _ _ => rfl)) ag)))))), fun ds μ Qd h => Li h⟩)
theorem uA : aG ["d", "a", "b", "prevailing"] ["d", "a", "b"] (az dH) := ⟨rfl, rfl, rfl, by decide +kernel, rfl, by decide +kernel, by decide +kernel⟩
theorem uR (T : TX e)  : l7 e := by
  have S := uA
  exact T.vH.okD S (fun ds μ Q h => C3 h) (fun cdv A outer s H E hr => ⟨iG, (ai (bW (DW.dt (BW (bA (dE hr.units) cI (dv 1) ae (aM _)) (wq (bA (dE hr.units) cI (dv 2) ae (aM _))))) (aq (aD ae)) bq)
    (ai (bW (DW.dt (BW (bA zH fx (dv 1) ae (aM _)) (wq (bA zH fx (dv 2) ae (aM _))))) (aq (aD ae)) bq)
    (ai (bW (DW.dt (BW (bA Mm fx (dv 1) ae (aM _)) (wq (bA Mm fx (dv 2) ae (aM _))))) (aq (aD (lx ae))) bq)
    (ai (aI (i := 3) S.nd rfl (Or.inl rfl) (qF (bA jb fx (aU (dv 1) (dv 1)) (aU (aU (dv 0) (dv 2)) (dv 2)) (aM _)) (dv 1) (dv 2)))
    (aq (aD (qF (bA jb fx (dv 3) ae (aM _)) ae (lx ae)))))))), fun ds μ Qd h => vb h⟩)
theorem yT : aG ["share", "plan"] ["share", "plan"] (az fP) := ⟨rfl, rfl, rfl, by decide +kernel, rfl, by decide +kernel, by decide +kernel⟩
theorem yq (T : TX e)  : qO e := by
  have S := yT
  exact T.AG.okD S (fun ds μ Q h => BM h) (fun cdv A outer s H E hr => ⟨lH, (ai (bW (bA (dE hr.units) cI (dv 0) (gj rfl T.J6) (aM _)) (aq (aD (dv 1))) bq)
    (aq (aD (aZ (aa dz (aa (ax (dv 0) ae (fun _ _ => rfl)) (aa (ax (dv 0) ae (fun _ _ => rfl)) (aa (dv 1) ag)))))))), fun ds μ Qd h => yH h⟩)
theorem qm : aG ["shape"] ["shape"] (az cK) := ⟨rfl, rfl, rfl, by decide +kernel, rfl, by decide +kernel, by decide +kernel⟩
theorem ql (T : TX e)  : gi e := by
  have S := qm
  exact T.qV.okD S (fun ds μ Q h => CT h) (fun cdv A outer s H E hr => ⟨gf, (aq (aD (fo qy fx (aU (ax (dv 0) ae (fun _ _ => rfl)) (ax (dv 0) ae (fun _ _ => rfl))) ae (aM _)))), fun ds μ Qd h => qr h⟩)
theorem C9 : aG ["_law_script", "_law_at", "_law_cell", "_law_great", "_law_primes", "_law_mixed"] ["_law_script", "_law_at"] (az iE) := ⟨rfl, rfl, rfl, by decide +kernel, rfl, by decide +kernel, by decide +kernel⟩
theorem Dn (T : TX e)  : vt e := by
  have S := C9
  exact T.Fe.okD S (fun ds μ Q h => Hh h) (fun cdv A outer s H E hr => ⟨oH, (ai (aI (i := 2) S.nd rfl (Or.inl rfl) ae)
    (ai (bW (bA qy fx (dv 1) (nB rfl T.qA (aa (dv 0) ag)) (aM _)) (aq (aI (i := 2) S.nd rfl (Or.inl rfl) (ax (dv 0) (dv 1) (fun _ _ => rfl)))) bq)
    (ai (aI (i := 3) S.nd rfl (Or.inl rfl) ae)
    (ai (bW (bA zH fx (qX rfl T.wZ (aa (dv 2) ag)) (lA ae ae) (aM _)) (aq (aI (i := 3) S.nd rfl (Or.inl rfl) (qX rfl T.wZ (aa (dv 2) ag)))) bq)
    (ai (aI (i := 4) S.nd rfl (Or.inl rfl) (gg (aa ae (aa ae (aa ae (aa ae (aa ae (aa ae (aa ae (aa ae ag))))))))))
    (ai (aI (i := 5) S.nd rfl (Or.inl rfl) (dA (dA (dA (aU (jm (dv 2) ae) ae) (aU (aU ae (dv 1)) (dv 1))) (aU ae (dv 1))) ae))
    (aq (aD (tI (aa (dv 3) (aa (jm (dv 5) (ax (dv 4) (jm (dv 1) ae) (fun _ _ => rfl))) ag))))))))))), fun ds μ Qd h => DM h⟩)
theorem AE : aG ["_law_bag_here", "_law_many", "_law_digit"] ["_law_bag_here", "_law_many"] (az gQ) := ⟨rfl, rfl, rfl, by decide +kernel, rfl, by decide +kernel, by decide +kernel⟩
theorem AK (T : TX e)  : cP e := by
  have S := AE
  exact T.D1.okD S (fun ds μ Q h => Gf h) (fun cdv A outer s H E hr => ⟨mR, (ai (bW (bA jb fx (ax (dv 0) ae (fun _ _ => rfl)) ae (aM _)) (ai (aI (i := 2) S.nd rfl (Or.inl rfl) (jm (ax (dv 0) ae (fun _ _ => rfl)) (dv 1)))
    (ai (pG (lC (ax (dv 0) ae (fun _ _ => rfl)) (dv 1)) (Jk (dv 0) ae))
    (aq (aD (dv 2))))) bq)
    (ai (pG (jm (dA (aU (ax (dv 0) ae (fun _ _ => rfl)) ae) ae) ae) (Jk (dv 0) ae))
    (aq (aD (jm (lC (jm (lA (ax (dv 0) ae (fun _ _ => rfl)) ae) ae) ae) (dv 1)))))), fun ds μ Qd h => Aw h⟩)
theorem wy : aG ["_law_one", "_law_other"] ["_law_one", "_law_other"] (az eM) := ⟨rfl, rfl, rfl, by decide +kernel, rfl, by decide +kernel, by decide +kernel⟩
theorem wJ (T : TX e)  : oW e := by
  have S := wy
  exact T.yO.okD S (fun ds μ Q h => ze h) (fun cdv A outer s H E hr => ⟨ko, (ai (rX (i := 0) (j := 1) rfl S.nd rfl rfl (by decide) rfl rfl (aa (qX rfl T.wZ (aa (dv 0) ag)) (aa (qX rfl T.wZ (aa (dv 1) ag)) ag)) rfl)
    (ai (CF PassesOwn.never (bA jb fx (dv 1) ae (aM _)) (aq (rX (i := 0) (j := 1) rfl S.nd rfl rfl (by decide) rfl rfl (aa (dv 1) (aa (jm (dv 0) (dv 1)) ag)) rfl)))
    (aq (aD (dv 0))))), fun ds μ Qd h => xQ h⟩)
theorem yj : aG ["_law_x"] ["_law_x"] (az fU) := ⟨rfl, rfl, rfl, by decide +kernel, rfl, by decide +kernel, by decide +kernel⟩
theorem yx (T : TX e)  : iU e := by
  have S := yj
  exact T.By.okD S (fun ds μ Q h => DB h) (fun cdv A outer s H E hr => ⟨lh, (aq (aD (aZ (aa (eR ae (ax (dv 0) ae (fun _ _ => rfl))) (aa (eR ae (ax (dv 0) ae (fun _ _ => rfl))) (aa (ax (dv 0) ae (fun _ _ => rfl)) ag)))))), fun ds μ Qd h => yf h⟩)
theorem Cc : aG ["_law_x"] ["_law_x"] (az g9) := ⟨rfl, rfl, rfl, by decide +kernel, rfl, by decide +kernel, by decide +kernel⟩
theorem BH (T : TX e)  : nh e := by
  have S := Cc
  exact T.C7.okD S (fun ds μ Q h => xI h) (fun cdv A outer s H E hr => ⟨mS, (aq (aD (aZ (aa (ax (dv 0) ae (fun _ _ => rfl)) (aa (eR ae (ax (dv 0) ae (fun _ _ => rfl))) (aa (ax (dv 0) ae (fun _ _ => rfl)) ag)))))), fun ds μ Qd h => zV h⟩)
theorem Au : aG ["_law_d", "_law_x", "_law_first", "_law_second", "_law_sides"] ["_law_d", "_law_x"] (az gU) := ⟨rfl, rfl, rfl, by decide +kernel, rfl, by decide +kernel, by decide +kernel⟩
theorem B6 (T : TX e)  : fG e := by
  have S := Au
  exact T.DU.okD S (fun ds μ Q h => wW h) (fun cdv A outer s H E hr => ⟨mZ, (ai (rX (i := 2) (j := 3) rfl S.nd rfl rfl (by decide) rfl rfl (aa (aU (ax (dv 1) ae (fun _ _ => rfl)) (ax (dv 1) ae (fun _ _ => rfl))) (aa (aU (aU (dv 0) (ax (dv 1) ae (fun _ _ => rfl))) (ax (dv 1) ae (fun _ _ => rfl))) ag)) rfl)
    (ai (aI (i := 4) S.nd rfl (Or.inl rfl) (gg (aa (eR (oQ rfl T.zo (aa (fo jb fx (ax (dv 1) ae (fun _ _ => rfl)) ae (aM _)) ag)) (oQ rfl T.zo (aa (fo qy fx (ax (dv 1) ae (fun _ _ => rfl)) ae (aM _)) ag))) (aa (eR (oQ rfl T.zo (aa (fo jb fx (ax (dv 1) ae (fun _ _ => rfl)) ae (aM _)) ag)) (oQ rfl T.zo (aa (fo qy fx (ax (dv 1) ae (fun _ _ => rfl)) ae (aM _)) ag))) ag))))
    (ai (bW (bA zH fx (aU (ax (dv 4) ae (fun _ _ => rfl)) (ax (dv 4) ae (fun _ _ => rfl))) ae (aM _)) (aq (aD (qF (bA (xk hr.units) cI (ax (dv 4) ae (fun _ _ => rfl)) ae (aM _)) (ax (dv 4) ae (fun _ _ => rfl)) (ax (dv 4) ae (fun _ _ => rfl))))) bq)
    (aq (aD (qF (bA jb fx (dv 2) (dv 3) (aM _)) (ax (dv 4) ae (fun _ _ => rfl)) (ax (dv 4) ae (fun _ _ => rfl)))))))), fun ds μ Qd h => AY h⟩)
theorem sU : aG ["a", "b", "c"] ["a", "b", "c"] (az dn) := ⟨rfl, rfl, rfl, by decide +kernel, rfl, by decide +kernel, by decide +kernel⟩
theorem sj (T : TX e) (fI : kO e) : ig e := by
  have S := sU
  exact T.uL.okD S (fun ds μ Q h => EU h) (fun cdv A outer s H E hr => ⟨iz, (aq (aD (ah fI (hr.mono (by decide)) rfl T.mv T.lV T.lQ (aa (ah fI (hr.mono (by decide)) rfl T.mv T.lV T.lQ (aa (dv 2) (aa (dv 0) ag))) (aa (dv 1) ag))))), fun ds μ Qd h => sJ h⟩)
theorem E3 : aG ["d", "x"] ["d", "x"] (az jZ) := ⟨rfl, rfl, rfl, by decide +kernel, rfl, by decide +kernel, by decide +kernel⟩
theorem Fd (T : TX e) (jj : l7 e) : kv e := by
  have S := E3
  exact T.HY.okD S (fun ds μ Q h => wW h) (fun cdv A outer s H E hr => ⟨rQ, (aq (aD (ah jj (hr.mono (by decide)) rfl T.vO T.vV T.vJ (aa (dv 0) (aa (ax (dv 1) ae (fun _ _ => rfl)) (aa (ax (dv 1) ae (fun _ _ => rfl)) ag)))))), fun ds μ Qd h => Er h⟩)
theorem tj : aG ["u", "first", "v", "second"] ["u", "first", "v", "second"] (az dr) := ⟨rfl, rfl, rfl, by decide +kernel, rfl, by decide +kernel, by decide +kernel⟩
theorem tR (T : TX e) (fF : qO e) : ip e := by
  have S := tj
  exact T.vg.okD S (fun ds μ Q h => A6 h) (fun cdv A outer s H E hr => ⟨ik, (ai (bW (bA (dE hr.units) cI (dv 2) (gj rfl T.kF) (aM _)) (aq (aD (ah fF (hr.mono (by decide)) rfl T.jI T.jC T.jO (aa (dv 0) (aa (dv 1) ag))))) bq)
    (ai (bW (bA (dE hr.units) cI (dv 0) (gj rfl T.kF) (aM _)) (aq (aD (ah fF (hr.mono (by decide)) rfl T.jI T.jC T.jO (aa (dv 2) (aa (dv 3) ag))))) bq)
    (aq (aD (aZ (aa dz (aa (aZ (aa (ah fF (hr.mono (by decide)) rfl T.jI T.jC T.jO (aa (dv 0) (aa (dv 1) ag))) (aa (ah fF (hr.mono (by decide)) rfl T.jI T.jC T.jO (aa (dv 2) (aa (dv 3) ag))) ag))) ag))))))), fun ds μ Qd h => tU h⟩)
theorem DV : aG ["_law_a", "_law_b", "_law_c", "_law_common"] ["_law_a", "_law_b", "_law_c"] (az iS) := ⟨rfl, rfl, rfl, by decide +kernel, rfl, by decide +kernel, by decide +kernel⟩
theorem Cs (T : TX e) (iT : oW e) : dj e := by
  have S := DV
  exact T.FI.okD S (fun ds μ Q h => tG h) (fun cdv A outer s H E hr => ⟨pI, (ai (aI (i := 3) S.nd rfl (Or.inl rfl) (aU (ah iT (hr.mono (by decide)) rfl T.qD T.qx T.qP (aa (ah iT (hr.mono (by decide)) rfl T.qD T.qx T.qP (aa (dv 0) (aa (dv 1) ag))) (aa (dv 2) ag))) (ax (gg (aa ae (aa (lx ae) ag))) (oQ rfl T.zo (aa (fo qy fx (dv 2) ae (aM _)) ag)) (fun _ _ => rfl))))
    (aq (aD (aZ (aa (lC (dv 0) (dv 3)) (aa (lC (dv 1) (dv 3)) (aa (lC (dv 2) (dv 3)) ag))))))), fun ds μ Qd h => CA h⟩)
theorem zW : aG ["_law_bag_here", "_law_some"] ["_law_bag_here"] (az hJ) := ⟨rfl, rfl, rfl, by decide +kernel, rfl, by decide +kernel, by decide +kernel⟩
theorem AF (T : TX e) (aA : cP e) : tO e := by
  have S := zW
  exact T.CG.okD S (fun ds μ Q h => Ci h) (fun cdv A outer s H E hr => ⟨nc, (ai (bW (bA (dE hr.units) cI (ah aA (hr.mono (by decide)) rfl T.aP T.aR T.aQ (aa (dv 0) (aa ae ag))) ae (aM _)) (aq (aD (ax (gg (aa ae (aa ae (aa ae ag)))) (ah aA (hr.mono (by decide)) rfl T.aP T.aR T.aQ (aa (dv 0) (aa ae ag))) (fun _ _ => rfl)))) bq)
    (ai (Ay (i := 1) (N' := ["_law_d"]) (cap := [none]) S.nd rfl rfl rfl (GQ rfl T.kQ (aa ae (aa ae ag))) (fun _ _ _ => (bE (i := 0) (show List.Nodup (["_law_d"] : List Str) by decide +kernel) rfl (Or.inl rfl))) (fun _ _ _ => (KD (bA (HH hr.units) Ew (dv 0) (gg (aa ae (aa ae (aa ae (aa ae ag))))) (by with_unfolding_all rfl)))) (fun _ _ _ => (dv 0)) rfl (by decide +kernel) rfl (by decide +kernel) (by intro _ _ h; first | exact h | exact cl1 h | exact cl2 (by decide +kernel) h | exact cl3 (by decide +kernel) h | exact d5 (cO rfl iP) _ _ h | exact d5 (cO rfl (cO rfl iP)) _ _ h | exact d5 (cO rfl (cO rfl (cO rfl iP))) _ _ h | cases h) (nI rfl) rfl (kg trivial))
    (aq (aD (ax (dv 1) (ah aA (hr.mono (by decide)) rfl T.aP T.aR T.aQ (aa (dv 0) (aa ae ag))) (fun _ _ => rfl)))))), fun ds μ Qd h => BY h⟩)
theorem Bi : aG ["thing", "a", "b", "c"] ["thing"] (az gR) := ⟨rfl, rfl, rfl, by decide +kernel, rfl, by decide +kernel, by decide +kernel⟩
theorem BI (T : TX e) (km : vw e) (du : ig e) : ug e := by
  have S := Bi
  exact T.CY.okD S (fun ds μ Q h => Fu h) (fun cdv A outer s H E hr => ⟨nj, (ai (bW (DW.dt (x5 (kh (fY (x8 (kit_tuple _) rfl T.il rfl T.wj PyProof.Rows.Boot.«tuple» (dv 0)))) (x6 (bA (xk hr.units) cI (nB rfl T.qA (aa (dv 0) ag)) ae (aM _))))) (aq (aD n6)) bq)
    (ai (pG (dv 0) (qW (n := 3) rfl (cH (bE (i := 1) S.nd rfl (Or.inl rfl)) (cH (bE (i := 2) S.nd rfl (Or.inl rfl)) (cH (bE (i := 3) S.nd rfl (Or.inl rfl)) nu)))))
    (ai (bW (DW.dt (x5 (kh (fY (ah km (hr.mono (by decide)) rfl T.qT T.qR T.rf (aa (dv 1) ag)))) (x5 (kh (fY (ah km (hr.mono (by decide)) rfl T.qT T.qR T.rf (aa (dv 2) ag)))) (x6 (kh (fY (ah km (hr.mono (by decide)) rfl T.qT T.qR T.rf (aa (dv 3) ag)))))))) (aq (aD n6)) bq)
    (aq (aD (uZ (fo zH fx (dv 3) ae (aM _)) (uE (fo (dE hr.units) cI (ah du (hr.mono (by decide)) rfl T.mE T.lX T.mD (aa (dv 1) (aa (dv 2) (aa (dv 3) ag)))) ae (aM _))))))))), fun ds μ Qd h => Ak h⟩)
theorem Ie : aG ["a", "b", "c", "divisor"] ["a", "b", "c"] (az mC) := ⟨rfl, rfl, rfl, by decide +kernel, rfl, by decide +kernel, by decide +kernel⟩
theorem Hy (T : TX e) (du : ig e) : j5 e := by
  have S := Ie
  exact T.IB.okD S (fun ds μ Q h => tG h) (fun cdv A outer s H E hr => ⟨vf, (ai (bW (bA (dE hr.units) cI (dv 2) ae (aM _)) (aq tL) bq)
    (ai (aI (i := 3) S.nd rfl (Or.inl rfl) (ah du (hr.mono (by decide)) rfl T.mE T.lX T.mD (aa (dv 0) (aa (dv 1) (aa (dv 2) ag)))))
    (ai (bW (bA qy fx (dv 2) ae (aM _)) (aq (aI (i := 3) S.nd rfl (Or.inl rfl) (lx (dv 3)))) bq)
    (aq (aD (aZ (aa (lC (dv 0) (dv 3)) (aa (lC (dv 1) (dv 3)) (aa (lC (dv 2) (dv 3)) ag))))))))), fun ds μ Qd h => Hr h⟩)
theorem DD : aG ["d", "x"] ["d", "x"] (az iC) := ⟨rfl, rfl, rfl, by decide +kernel, rfl, by decide +kernel, by decide +kernel⟩
theorem CV (T : TX e) (cU : kv e) : vD e := by
  have S := DD
  exact T.E1.okD S (fun ds μ Q h => yb h) (fun cdv A outer s H E hr => ⟨pf, (aq (aD (uZ (fo (dE hr.units) cI (ax (dv 1) ae (fun _ _ => rfl)) ae (aM _)) (uE (fo zH fx (ah cU (hr.mono (by decide)) rfl T.j6 T.j0 T.jX (aa (dv 0) (aa (dv 1) ag))) ae (aM _)))))), fun ds μ Qd h => Dr h⟩)
theorem sf : aG ["u", "v", "place", "kind"] ["u", "v", "place"] (az cY) := ⟨rfl, rfl, rfl, by decide +kernel, rfl, by decide +kernel, by decide +kernel⟩
theorem rh (T : TX e) (dq : ip e) : kj e := by
  have S := sf
  exact T.sS.okD S (fun ds μ Q h => yR h) (fun cdv A outer s H E hr => ⟨gL, (ai (aI (i := 3) S.nd rfl (Or.inl rfl) (aZ (aa dz (aa (dv 2) ag))))
    (aq (aD (ah dq (hr.mono (by decide)) rfl T.lT T.mi T.mw (aa (dv 0) (aa (dv 3) (aa (dv 1) (aa (aZ (aa dz (aa (dv 3) ag))) ag)))))))), fun ds μ Qd h => se h⟩)
theorem yc : aG ["d", "kinds"] ["d", "kinds"] (az fD) := ⟨rfl, rfl, rfl, by decide +kernel, rfl, by decide +kernel, by decide +kernel⟩
theorem ya (T : TX e) (cU : kv e) (fm : tW e) : lO e := by
  have S := yc
  exact T.B8.okD S (fun ds μ Q h => DX h) (fun cdv A outer s H E hr => ⟨ll, (aq (aD (qg (N' := ["kind", "d"]) (cap := [none, some 0]) rfl (rC (dv 1)) (fun _ _ _ => (bE (i := 0) (show List.Nodup (["kind", "d"] : List Str) by decide +kernel) rfl (Or.inl rfl))) (fun _ _ _ => jc) (fun _ _ _ => (ah cU (hr.mono (by decide)) rfl T.j6 T.j0 T.jX (aa (dv 1) (aa (ah fm (hr.mono (by decide)) rfl T.nC T.mU T.mV (aa (dv 0) ag)) ag)))) rfl (by decide +kernel) rfl (by decide +kernel) (by intro _ _ h; first | exact h | exact cl1 h | exact cl2 (by decide +kernel) h | exact cl3 (by decide +kernel) h | exact d5 (cO rfl iP) _ _ h | exact d5 (cO rfl (cO rfl iP)) _ _ h | exact d5 (cO rfl (cO rfl (cO rfl iP))) _ _ h | cases h) (nI rfl) rfl (kg ⟨xq, trivial⟩)))), fun ds μ Qd h => yd h⟩)
theorem Av : aG ["_law_x", "_law_y"] ["_law_x", "_law_y"] (az gX) := ⟨rfl, rfl, rfl, by decide +kernel, rfl, by decide +kernel, by decide +kernel⟩
theorem Bl (T : TX e) (aX : dj e) : eJ e := by
  have S := Av
  exact T.Ds.okD S (fun ds μ Q h => xO h) (fun cdv A outer s H E hr => ⟨tJ, (aq (aD (ah aX (hr.mono (by decide)) rfl T.fg T.fq T.fw (aa (dA (aU (ax (dv 0) ae (fun _ _ => rfl)) (ax (dv 1) ae (fun _ _ => rfl))) (aU (ax (dv 1) ae (fun _ _ => rfl)) (ax (dv 0) ae (fun _ _ => rfl)))) (aa (dA (aU (ax (dv 0) ae (fun _ _ => rfl)) (ax (dv 1) ae (fun _ _ => rfl))) (aU (ax (dv 1) ae (fun _ _ => rfl)) (ax (dv 0) ae (fun _ _ => rfl)))) (aa (aU (ax (dv 0) ae (fun _ _ => rfl)) (ax (dv 1) ae (fun _ _ => rfl))) ag)))))), fun ds μ Qd h => B0 h⟩)
theorem yr : aG ["_law_d", "_law_x", "_law_y"] ["_law_d", "_law_x", "_law_y"] (az fM) := ⟨rfl, rfl, rfl, by decide +kernel, rfl, by decide +kernel, by decide +kernel⟩
theorem yJ (T : TX e) (aX : dj e) : d4 e := by
  have S := yr
  exact T.Af.okD S (fun ds μ Q h => vo h) (fun cdv A outer s H E hr => ⟨qE, (aq (aD (ah aX (hr.mono (by decide)) rfl T.fg T.fq T.fw (aa (dA (aU (ax (dv 1) ae (fun _ _ => rfl)) (ax (dv 2) ae (fun _ _ => rfl))) (aU (aU (dv 0) (ax (dv 1) ae (fun _ _ => rfl))) (ax (dv 2) ae (fun _ _ => rfl)))) (aa (dA (aU (ax (dv 1) ae (fun _ _ => rfl)) (ax (dv 2) ae (fun _ _ => rfl))) (aU (ax (dv 1) ae (fun _ _ => rfl)) (ax (dv 2) ae (fun _ _ => rfl)))) (aa (aU (ax (dv 1) ae (fun _ _ => rfl)) (ax (dv 2) ae (fun _ _ => rfl))) ag)))))), fun ds μ Qd h => yE h⟩)
theorem uX : aG ["_law_d", "_law_x"] ["_law_d", "_law_x"] (az dF) := ⟨rfl, rfl, rfl, by decide +kernel, rfl, by decide +kernel, by decide +kernel⟩
theorem uF (T : TX e) (aX : dj e) : cb e := by
  have S := uX
  exact T.vS.okD S (fun ds μ Q h => pQ h) (fun cdv A outer s H E hr => ⟨iQ, (aq (aD (ah aX (hr.mono (by decide)) rfl T.fg T.fq T.fw (aa (aU (ax (dv 1) ae (fun _ _ => rfl)) (ax (dv 1) ae (fun _ _ => rfl))) (aa (eR ae (aU (ax (dv 1) ae (fun _ _ => rfl)) (ax (dv 1) ae (fun _ _ => rfl)))) (aa (eR (aU (ax (dv 1) ae (fun _ _ => rfl)) (ax (dv 1) ae (fun _ _ => rfl))) (aU (aU (dv 0) (ax (dv 1) ae (fun _ _ => rfl))) (ax (dv 1) ae (fun _ _ => rfl)))) ag)))))), fun ds μ Qd h => uw h⟩)
theorem xE : aG ["_law_bag_here", "_law_wide_here", "_law_a", "_law_b", "_law_c", "_law_way"] ["_law_bag_here"] (az eO) := ⟨rfl, rfl, rfl, by decide +kernel, rfl, by decide +kernel, by decide +kernel⟩
theorem wY (T : TX e) (aA : cP e) (aX : dj e) : pO e := by
  have S := xE
  exact T.yA.okD S (fun ds μ Q h => yN h) (fun cdv A outer s H E hr => ⟨kf, (ai (aI (i := 1) S.nd rfl (Or.inl rfl) (ax (gg (aa ae (aa ae (aa ae (aa ae ag))))) (ah aA (hr.mono (by decide)) rfl T.aP T.aR T.aQ (aa (dv 0) (aa ae ag))) (fun _ _ => rfl)))
    (ai (rX (i := 2) (j := 3) rfl S.nd rfl rfl (by decide) rfl rfl (aa (eR (ah aA (hr.mono (by decide)) rfl T.aP T.aR T.aQ (aa (dv 0) (aa (dv 1) ag))) (lC (dv 1) ae)) (aa (eR (ah aA (hr.mono (by decide)) rfl T.aP T.aR T.aQ (aa (dv 0) (aa (dv 1) ag))) (lC (dv 1) ae)) ag)) rfl)
    (ai (aI (i := 4) S.nd rfl (Or.inl rfl) (dA ae (ah aA (hr.mono (by decide)) rfl T.aP T.aR T.aQ (aa (dv 0) (aa (eR (dv 1) ae) ag)))))
    (ai (aI (i := 5) S.nd rfl (Or.inl rfl) (ah aA (hr.mono (by decide)) rfl T.aP T.aR T.aQ (aa (dv 0) (aa ae ag))))
    (aq (aD (ah aX (hr.mono (by decide)) rfl T.fg T.fq T.fw (aa (ax (gg (aa (dv 2) (aa (dv 2) (aa (dv 2) (aa (dv 2) (aa (dv 2) (aa (dv 2) (aa (dv 2) (aa ae ag))))))))) (dv 5) (fun _ _ => rfl)) (aa (ax (gg (aa (dv 3) (aa (dv 3) (aa (dv 3) (aa (dv 3) (aa (dv 3) (aa ae (aa ae (aa (dv 3) ag))))))))) (dv 5) (fun _ _ => rfl)) (aa (ax (gg (aa (dv 4) (aa (dv 4) (aa ae (aa (dv 4) (aa ae (aa (dv 4) (aa ae (aa (dv 4) ag))))))))) (dv 5) (fun _ _ => rfl)) ag)))))))))), fun ds μ Qd h => xC h⟩)
theorem vm : aG ["_law_bag_here", "_law_wide_here"] ["_law_bag_here"] (az dJ) := ⟨rfl, rfl, rfl, by decide +kernel, rfl, by decide +kernel, by decide +kernel⟩
theorem u5 (T : TX e) (aA : cP e) (aX : dj e) : iF e := by
  have S := vm
  exact T.v5.okD S (fun ds μ Q h => D4 h) (fun cdv A outer s H E hr => ⟨iL, (ai (aI (i := 1) S.nd rfl (Or.inl rfl) (ax (gg (aa ae (aa ae (aa ae (aa ae ag))))) (ah aA (hr.mono (by decide)) rfl T.aP T.aR T.aQ (aa (dv 0) (aa ae ag))) (fun _ _ => rfl)))
    (aq (aD (ah aX (hr.mono (by decide)) rfl T.fg T.fq T.fw (aa (dA ae (ah aA (hr.mono (by decide)) rfl T.aP T.aR T.aQ (aa (dv 0) (aa (dv 1) ag)))) (aa ae (aa (dA ae (ah aA (hr.mono (by decide)) rfl T.aP T.aR T.aQ (aa (dv 0) (aa (dv 1) ag)))) ag))))))), fun ds μ Qd h => uS h⟩)
theorem BX : aG ["_law_bag_here", "_law_d", "_law_parts", "_law_turn", "_law_found", "_law_k", "_law_x"] ["_law_bag_here", "_law_d"] (az g8) := ⟨rfl, rfl, rfl, by decide +kernel, rfl, by decide +kernel, by decide +kernel⟩
theorem Bq (T : TX e) (aA : cP e) (aX : dj e) (de : iU e) (bQ : fG e) : sW e := by
  have S := BX
  exact T.Df.okD S (fun ds μ Q h => D2 h) (fun cdv A outer s H E hr => ⟨mI, (ai (aI (i := 2) S.nd rfl (Or.inl rfl) (tI ag))
    (ai (mY PassesOwn.never rfl (qb rfl T.kQ (aa ae ag)) (bE (i := 3) S.nd rfl (Or.inl rfl)) (ai (aI (i := 4) S.nd rfl (Or.inl rfl) ae)
    (ai (mY PassesOwn.never rfl (qb rfl T.kQ (aa ae ag)) (bE (i := 5) S.nd rfl (Or.inl rfl)) (aq (aI (i := 4) S.nd rfl (Or.inl rfl) (dA (aU (dv 4) (lA ae ae)) (ah aA (hr.mono (by decide)) rfl T.aP T.aR T.aQ (aa (dv 0) (aa (lA ae ae) ag)))))))
    (aq (iy (ml (dv 2) (dv 4)))))))
    (ai (aI (i := 6) S.nd rfl (Or.inl rfl) (ah aX (hr.mono (by decide)) rfl T.fg T.fq T.fw (aa (eR (ax (dv 2) ae (fun _ _ => rfl)) (aU ae (lA ae ae))) (aa (eR (ax (dv 2) ae (fun _ _ => rfl)) (aU ae (lA ae ae))) (aa (dA ae (jm (ax (dv 2) ae (fun _ _ => rfl)) (lA ae ae))) ag)))))
    (aq (aD (ax (gg (aa (aZ (aa ae (aa ae (aa ae ag)))) (aa (dv 6) (aa (ah de (hr.mono (by decide)) rfl T.nK T.mN T.nv (aa (dv 6) ag)) ag)))) (ah bQ (hr.mono (by decide)) rfl T.g0 T.gW T.gO (aa (dv 1) (aa (dv 6) ag))) (fun _ _ => rfl))))))), fun ds μ Qd h => B9 h⟩)
theorem K1 : aG ["x", "y"] ["x", "y"] (az vd) := ⟨rfl, rfl, rfl, by decide +kernel, rfl, by decide +kernel, by decide +kernel⟩
theorem bN (T : TX e) (dD : j5 e) : As e := by
  have S := K1
  exact T.M9.okD S (fun ds μ Q h => xO h) (fun cdv A outer s H E hr => ⟨B4, (aq (aD (ah dD (hr.mono (by decide)) rfl T.ph T.oG T.pe (aa (dA (aU (ax (dv 0) ae (fun _ _ => rfl)) (ax (dv 1) ae (fun _ _ => rfl))) (aU (ax (dv 1) ae (fun _ _ => rfl)) (ax (dv 0) ae (fun _ _ => rfl)))) (aa (dA (aU (ax (dv 0) ae (fun _ _ => rfl)) (ax (dv 1) ae (fun _ _ => rfl))) (aU (ax (dv 1) ae (fun _ _ => rfl)) (ax (dv 0) ae (fun _ _ => rfl)))) (aa (aU (ax (dv 0) ae (fun _ _ => rfl)) (ax (dv 1) ae (fun _ _ => rfl))) ag)))))), fun ds μ Qd h => G3 h⟩)
theorem L8 : aG ["x", "y"] ["x", "y"] (az uM) := ⟨rfl, rfl, rfl, by decide +kernel, rfl, by decide +kernel, by decide +kernel⟩
theorem nM (T : TX e) (dD : j5 e) : BO e := by
  have S := L8
  exact T.MX.okD S (fun ds μ Q h => FE h) (fun cdv A outer s H E hr => ⟨AI, (aq (aD (ah dD (hr.mono (by decide)) rfl T.ph T.oG T.pe (aa (eR (aU (ax (dv 0) ae (fun _ _ => rfl)) (ax (dv 1) ae (fun _ _ => rfl))) (aU (ax (dv 1) ae (fun _ _ => rfl)) (ax (dv 0) ae (fun _ _ => rfl)))) (aa (eR (aU (ax (dv 0) ae (fun _ _ => rfl)) (ax (dv 1) ae (fun _ _ => rfl))) (aU (ax (dv 1) ae (fun _ _ => rfl)) (ax (dv 0) ae (fun _ _ => rfl)))) (aa (aU (ax (dv 0) ae (fun _ _ => rfl)) (ax (dv 1) ae (fun _ _ => rfl))) ag)))))), fun ds μ Qd h => Lm h⟩)
theorem JK : aG ["d", "x", "y"] ["d", "x", "y"] (az p6) := ⟨rfl, rfl, rfl, by decide +kernel, rfl, by decide +kernel, by decide +kernel⟩
theorem aB (T : TX e) (dD : j5 e) : mq e := by
  have S := JK
  exact T.KR.okD S (fun ds μ Q h => vo h) (fun cdv A outer s H E hr => ⟨w9, (aq (aD (ah dD (hr.mono (by decide)) rfl T.ph T.oG T.pe (aa (dA (aU (ax (dv 1) ae (fun _ _ => rfl)) (ax (dv 2) ae (fun _ _ => rfl))) (aU (aU (dv 0) (ax (dv 1) ae (fun _ _ => rfl))) (ax (dv 2) ae (fun _ _ => rfl)))) (aa (dA (aU (ax (dv 1) ae (fun _ _ => rfl)) (ax (dv 2) ae (fun _ _ => rfl))) (aU (ax (dv 1) ae (fun _ _ => rfl)) (ax (dv 2) ae (fun _ _ => rfl)))) (aa (aU (ax (dv 1) ae (fun _ _ => rfl)) (ax (dv 2) ae (fun _ _ => rfl))) ag)))))), fun ds μ Qd h => Dw h⟩)
theorem Cj : aG ["d", "x", "norm"] ["d", "x"] (az iN) := ⟨rfl, rfl, rfl, by decide +kernel, rfl, by decide +kernel, by decide +kernel⟩
theorem aE (T : TX e) (dD : j5 e) : i5 e := by
  have S := Cj
  exact T.FO.okD S (fun ds μ Q h => pQ h) (fun cdv A outer s H E hr => ⟨oJ, (ai (aI (i := 2) S.nd rfl (Or.inl rfl) (eR (aU (ax (dv 1) ae (fun _ _ => rfl)) (ax (dv 1) ae (fun _ _ => rfl))) (aU (aU (dv 0) (ax (dv 1) ae (fun _ _ => rfl))) (ax (dv 1) ae (fun _ _ => rfl)))))
    (aq (aD (ah dD (hr.mono (by decide)) rfl T.ph T.oG T.pe (aa (aU (ax (dv 1) ae (fun _ _ => rfl)) (ax (dv 1) ae (fun _ _ => rfl))) (aa (aU (lx (ax (dv 1) ae (fun _ _ => rfl))) (ax (dv 1) ae (fun _ _ => rfl))) (aa (dv 2) ag))))))), fun ds μ Qd h => CH h⟩)
theorem rS : aG ["d", "thing"] ["d", "thing"] (az cZ) := ⟨rfl, rfl, rfl, by decide +kernel, rfl, by decide +kernel, by decide +kernel⟩
theorem qS (T : TX e) (o8 : ug e) (cU : kv e) : gH e := by
  have S := rS
  exact T.tQ.okD S (fun ds μ Q h => BJ h) (fun cdv A outer s H E hr => ⟨gF, (aq (aD (uZ (ah o8 (hr.mono (by decide)) rfl T.Cz T.CB T.Dm (aa (dv 1) ag)) (uE (fo (dE hr.units) cI (ah cU (hr.mono (by decide)) rfl T.j6 T.j0 T.jX (aa (dv 0) (aa (dv 1) ag))) ae (aM _)))))), fun ds μ Qd h => q9 h⟩)
theorem yW : aG ["_law_d", "_law_x", "_law_y"] ["_law_d", "_law_x", "_law_y"] (az fE) := ⟨rfl, rfl, rfl, by decide +kernel, rfl, by decide +kernel, by decide +kernel⟩
theorem ye (T : TX e) (bQ : fG e) (bj : eJ e) (de : iU e) : qs e := by
  have S := yW
  exact T.Ah.okD S (fun ds μ Q h => Dt h) (fun cdv A outer s H E hr => ⟨lE, (aq (aD (fo jb fx (ah bQ (hr.mono (by decide)) rfl T.g0 T.gW T.gO (aa (dv 0) (aa (ah bj (hr.mono (by decide)) rfl T.dS T.dO T.dY (aa (dv 2) (aa (ah de (hr.mono (by decide)) rfl T.nK T.mN T.nv (aa (dv 1) ag)) ag))) ag))) ae (aM _)))), fun ds μ Qd h => yV h⟩)
theorem yn : aG ["_law_bag_here", "_law_d", "_law_x", "_law_sign_here"] ["_law_bag_here", "_law_d"] (az fH) := ⟨rfl, rfl, rfl, by decide +kernel, rfl, by decide +kernel, by decide +kernel⟩
theorem yP (T : TX e) (lK : pO e) (bQ : fG e) (aA : cP e) (de : iU e) : lD e := by
  have S := yn
  exact T.Bv.okD S (fun ds μ Q h => A3 h) (fun cdv A outer s H E hr => ⟨lz, (ai (aI (i := 2) S.nd rfl (Or.inl rfl) (ah lK (hr.mono (by decide)) rfl T.yB T.yK T.yk (aa (dv 0) ag)))
    (ai (aI (i := 3) S.nd rfl (Or.inl rfl) (ah bQ (hr.mono (by decide)) rfl T.g0 T.gW T.gO (aa (dv 1) (aa (dv 2) ag))))
    (ai (bW (bA (dE hr.units) cI (dv 3) ae (aM _)) (aq (aD (aZ (aa (dA ae (ah aA (hr.mono (by decide)) rfl T.aP T.aR T.aQ (aa (dv 0) (aa ae ag)))) (aa ae (aa ae ag)))))) bq)
    (aq (aD (qF (bA jb fx (dv 3) ae (aM _)) (dv 2) (ah de (hr.mono (by decide)) rfl T.nK T.mN T.nv (aa (dv 2) ag)))))))), fun ds μ Qd h => yX h⟩)
theorem oD : aG ["_law_d", "_law_shape_here", "_law_both"] ["_law_d", "_law_shape_here"] (az cf) := ⟨rfl, rfl, rfl, by decide +kernel, rfl, by decide +kernel, by decide +kernel⟩
theorem oA (T : TX e) (bj : eJ e) (eD : nh e) (aH : d4 e) (aF : cb e) : iB e := by
  have S := oD
  exact T.pF.okD S (fun ds μ Q h => AQ h) (fun cdv A outer s H E hr => ⟨eQ, (ai (aI (i := 2) S.nd rfl (Or.inl rfl) (ah bj (hr.mono (by decide)) rfl T.dS T.dO T.dY (aa (dv 1) (aa (ah eD (hr.mono (by decide)) rfl T.k7 T.kP T.kT (aa (dv 1) ag)) ag))))
    (aq (aD (ah aH (hr.mono (by decide)) rfl T.bH T.bG T.bF (aa (dv 0) (aa (ah aH (hr.mono (by decide)) rfl T.bH T.bG T.bF (aa (dv 0) (aa (dv 2) (aa (dv 2) ag)))) (aa (ah aF (hr.mono (by decide)) rfl T.cA T.cD T.cB (aa (dv 0) (aa (ah aH (hr.mono (by decide)) rfl T.bH T.bG T.bF (aa (dv 0) (aa (dv 1) (aa (ah eD (hr.mono (by decide)) rfl T.k7 T.kP T.kT (aa (dv 1) ag)) ag)))) ag))) ag))))))), fun ds μ Qd h => oB h⟩)
theorem qp : aG ["_law_bag_here", "_law_d", "_law_kind", "_law_u", "_law_v", "_law_turned_kind", "_law_found", "_law_one", "_law_beside", "_law_shape_here"] ["_law_bag_here", "_law_d", "_law_kind"] (az cJ) := ⟨rfl, rfl, rfl, by decide +kernel, rfl, by decide +kernel, by decide +kernel⟩
theorem qq (T : TX e) (cC : iF e) (aF : cb e) (aH : d4 e) (bj : eJ e) (bQ : fG e) : jw e := by
  have S := qp
  exact T.rR.okD S (fun ds μ Q h => A5 h) (fun cdv A outer s H E hr => ⟨fW, (ai (rX (i := 3) (j := 4) rfl S.nd rfl rfl (by decide) rfl rfl (aa (ah cC (hr.mono (by decide)) rfl T.gD T.gq T.gu (aa (dv 0) ag)) (aa (ah cC (hr.mono (by decide)) rfl T.gD T.gq T.gu (aa (dv 0) ag)) ag)) rfl)
    (ai (aI (i := 5) S.nd rfl (Or.inl rfl) (ah aF (hr.mono (by decide)) rfl T.cA T.cD T.cB (aa (dv 1) (aa (dv 2) ag))))
    (ai (aI (i := 6) S.nd rfl (Or.inl rfl) (tI (aa (ah aH (hr.mono (by decide)) rfl T.bH T.bG T.bF (aa (dv 1) (aa (dv 3) (aa (dv 2) ag)))) (aa (ah aH (hr.mono (by decide)) rfl T.bH T.bG T.bF (aa (dv 1) (aa (dv 4) (aa (dv 5) ag)))) ag))))
    (ai (iy (ml (dv 6) (ah bj (hr.mono (by decide)) rfl T.dS T.dO T.dY (aa (ax (dv 6) ae (fun _ _ => rfl)) (aa (ax (dv 6) ae (fun _ _ => rfl)) ag)))))
    (ai (mY PassesOwn.never rfl (B1 (JI (dv 6) Lz (Lo ae))) (bE (i := 7) S.nd rfl (Or.inl rfl)) (aq (mY PassesOwn.never rfl (B1 (gg (aa (aZ (aa ae (aa ae (aa (lA ae ae) ag)))) (aa (aZ (aa ae (aa (lx ae) (aa (lA ae ae) ag)))) (aa (aZ (aa ae (aa ae (aa (lA ae ae) ag)))) ag))))) (bE (i := 8) S.nd rfl (Or.inl rfl)) (ai (aI (i := 9) S.nd rfl (Or.inl rfl) (ah bj (hr.mono (by decide)) rfl T.dS T.dO T.dY (aa (dv 7) (aa (dv 8) ag))))
    (aq (bW (bA jb fx (ah bQ (hr.mono (by decide)) rfl T.g0 T.gW T.gO (aa (dv 1) (aa (dv 9) ag))) ae (aM _)) (aq (iy (ml (dv 6) (dv 9)))) bq))))))
    (aq (aD (dv 6)))))))), fun ds μ Qd h => qo h⟩)
theorem Ll : aG ["d", "x", "y"] ["d", "x", "y"] (az vh) := ⟨rfl, rfl, rfl, by decide +kernel, rfl, by decide +kernel, by decide +kernel⟩
theorem K7 (T : TX e) (dh : mq e) (cM : i5 e) : uk e := by
  have S := Ll
  exact T.N5.okD S (fun ds μ Q h => Fs h) (fun cdv A outer s H E hr => ⟨Bg, (ai (bW (bA (dE hr.units) cI (dv 2) (gj rfl T.kF) (aM _)) (aq tL) bq)
    (aq (aD (ah dh (hr.mono (by decide)) rfl T.jz T.jy T.jK (aa (dv 0) (aa (dv 1) (aa (ah cM (hr.mono (by decide)) rfl T.kz T.ku T.kE (aa (dv 0) (aa (dv 2) ag))) ag))))))), fun ds μ Qd h => LW h⟩)
theorem lP : aG ["d", "thing"] ["d", "thing"] (az bT) := ⟨rfl, rfl, rfl, by decide +kernel, rfl, by decide +kernel, by decide +kernel⟩
theorem ma (T : TX e) (cV : gH e) : cX e := by
  have S := lP
  exact T.ni.okD S (fun ds μ Q h => v7 h) (fun cdv A outer s H E hr => ⟨ez, (aq (bW (kh (fY (ah cV (hr.mono (by decide)) rfl T.kR T.kM T.kZ (aa (dv 0) (aa (dv 1) ag))))) (aq tL) bq)), fun ds μ Qd h => mz h⟩)
theorem Dl : aG ["d", "thing"] ["d", "thing"] (az iH) := ⟨rfl, rfl, rfl, by decide +kernel, rfl, by decide +kernel, by decide +kernel⟩
theorem CU (T : TX e) (cV : gH e) : vq e := by
  have S := Dl
  exact T.Fj.okD S (fun ds μ Q h => Ac h) (fun cdv A outer s H E hr => ⟨pK, (ai (bW (DW.dt (x5 (kh (fY (x8 (kit_tuple _) rfl T.il rfl T.wj PyProof.Rows.Boot.«tuple» (dv 1)))) (x5 (bA qy fx (nB rfl T.qA (aa (dv 1) ag)) ae (aM _)) (x6 (bA jb fx (nB rfl T.qA (aa (dv 1) ag)) (GL (u := .int 3) rfl T.Aa ⟨_, rfl⟩ (fun _ _ _ => Rp.int 3)) (aM _)))))) (aq (aD n6)) bq)
    (aq (aD (EE rfl rfl T.Ip (aa (qg (N' := ["kind", "d"]) (cap := [none, some 0]) rfl (rC (dv 1)) (fun _ _ _ => (bE (i := 0) (show List.Nodup (["kind", "d"] : List Str) by decide +kernel) rfl (Or.inl rfl))) (fun _ _ _ => jc) (fun _ _ _ => (ah cV (hr.mono (by decide)) rfl T.kR T.kM T.kZ (aa (dv 1) (aa (dv 0) ag)))) rfl (by decide +kernel) rfl (by decide +kernel) (by intro _ _ h; first | exact h | exact cl1 h | exact cl2 (by decide +kernel) h | exact cl3 (by decide +kernel) h | exact d5 (cO rfl iP) _ _ h | exact d5 (cO rfl (cO rfl iP)) _ _ h | exact d5 (cO rfl (cO rfl (cO rfl iP))) _ _ h | cases h) (nI rfl) rfl (kg ⟨xq, trivial⟩)) ag))))), fun ds μ Qd h => Co h⟩)
theorem L3 : aG ["shape", "way"] ["shape", "way"] (az uJ) := ⟨rfl, rfl, rfl, by decide +kernel, rfl, by decide +kernel, by decide +kernel⟩
theorem gE (T : TX e) (vn : BO e) (fm : tW e) (ur : As e) : Gy e := by
  have S := L3
  exact T.NK.okD S (fun ds μ Q h => EG h) (fun cdv A outer s H E hr => ⟨Al, (aq (aD (qF (bA jb fx (dv 1) ae (aM _)) (ah vn (hr.mono (by decide)) rfl T.Iy T.Iz T.II (aa (dv 0) (aa (ah fm (hr.mono (by decide)) rfl T.nC T.mU T.mV (aa (dv 0) ag)) ag))) (ah ur (hr.mono (by decide)) rfl T.Ke T.KC T.Iv (aa (dv 0) (aa (ah fm (hr.mono (by decide)) rfl T.nC T.mU T.mV (aa (dv 0) ag)) ag)))))), fun ds μ Qd h => Lh h⟩)
theorem oE : aG ["d", "kinds", "place", "kind", "plan"] ["d", "kinds", "place"] (az cw) := ⟨rfl, rfl, rfl, by decide +kernel, rfl, by decide +kernel, by decide +kernel⟩
theorem pB (T : TX e) (cN : gi e) (cM : i5 e) : i4 e := by
  have S := oE
  exact T.qk.okD S (fun ds μ Q h => yL h) (fun cdv A outer s H E hr => ⟨fA, (ai (aI (i := 3) S.nd rfl (Or.inl rfl) (ax (dv 1) (dv 2) (fun _ _ => rfl)))
    (ai (aI (i := 4) S.nd rfl (Or.inl rfl) (aZ (aa dz (aa (dv 2) ag))))
    (ai (bW (fY (ah cN (hr.mono (by decide)) rfl T.kD T.kA T.kx (aa (ah cM (hr.mono (by decide)) rfl T.kz T.ku T.kE (aa (dv 0) (aa (dv 3) ag))) ag))) (aq (aD (aZ (aa (ah cM (hr.mono (by decide)) rfl T.kz T.ku T.kE (aa (dv 0) (aa (dv 3) ag))) (aa (aZ (aa dz (aa (dv 4) ag))) ag))))) bq)
    (aq (aD (aZ (aa (dv 3) (aa (dv 4) ag)))))))), fun ds μ Qd h => oZ h⟩)
theorem yv : aG ["_law_bag_here", "_law_d", "_law_found", "_law_turn", "_law_way", "_law_part", "_law_kind"] ["_law_bag_here", "_law_d"] (az fO) := ⟨rfl, rfl, rfl, by decide +kernel, rfl, by decide +kernel, by decide +kernel⟩
theorem yg (T : TX e) (dR : lD e) (aA : cP e) (aF : cb e) (aH : d4 e) (aX : dj e) : qH e := by
  have S := yv
  exact T.Br.okD S (fun ds μ Q h => zP h) (fun cdv A outer s H E hr => ⟨lM, (ai (aI (i := 2) S.nd rfl (Or.inl rfl) (tI (aa (ah dR (hr.mono (by decide)) rfl T.jR T.jQ T.jF (aa (dv 0) (aa (dv 1) ag))) ag)))
    (ai (mY PassesOwn.never rfl (qb rfl T.kQ (aa (ah aA (hr.mono (by decide)) rfl T.aP T.aR T.aQ (aa (dv 0) (aa ae ag))) ag)) (bE (i := 3) S.nd rfl (Or.inl rfl)) (ai (aI (i := 4) S.nd rfl (Or.inl rfl) (ah aA (hr.mono (by decide)) rfl T.aP T.aR T.aQ (aa (dv 0) (aa ae ag))))
    (ai (aI (i := 5) S.nd rfl (Or.inl rfl) (aZ (aa (dA ae (ah aA (hr.mono (by decide)) rfl T.aP T.aR T.aQ (aa (dv 0) (aa ae ag)))) (aa ae (aa (dA ae (ah aA (hr.mono (by decide)) rfl T.aP T.aR T.aQ (aa (dv 0) (aa ae ag)))) ag)))))
    (ai (aI (i := 6) S.nd rfl (Or.inl rfl) (ax (gg (aa (ax (dv 2) ae (fun _ _ => rfl)) (aa (ah aF (hr.mono (by decide)) rfl T.cA T.cD T.cB (aa (dv 1) (aa (ax (dv 2) ae (fun _ _ => rfl)) ag))) ag))) (jm (dv 4) ae) (fun _ _ => rfl)))
    (ai (bW (bA jb fx (dv 4) ae (aM _)) (aq (aI (i := 6) S.nd rfl (Or.inl rfl) (ah dR (hr.mono (by decide)) rfl T.jR T.jQ T.jF (aa (dv 0) (aa (dv 1) ag))))) (aq (bW (bA jb fx (dv 4) ae (aM _)) (aq (aI (i := 6) S.nd rfl (Or.inl rfl) (ah aH (hr.mono (by decide)) rfl T.bH T.bG T.bF (aa (dv 1) (aa (dv 6) (aa (ah aX (hr.mono (by decide)) rfl T.fg T.fq T.fw (aa (ax (dv 5) ae (fun _ _ => rfl)) (aa (ax (dv 5) ae (fun _ _ => rfl)) (aa (ax (dv 5) ae (fun _ _ => rfl)) ag)))) ag)))))) bq)))
    (aq (iy (ml (dv 2) (dv 6)))))))))
    (aq (aD (Cy rfl T.wj (aa (dv 2) ag)))))), fun ds μ Qd h => yF h⟩)
theorem AM : aG ["_law_bag_here", "_law_many", "_law_deep", "_law_way", "_law_wide_here", "_law_parts"] ["_law_bag_here", "_law_many", "_law_deep"] (az gS) := ⟨rfl, rfl, rfl, by decide +kernel, rfl, by decide +kernel, by decide +kernel⟩
theorem xH : bM e.P e.w e.K e.mg e.base CX0 2 e.t.eE e.t.fj ["_law_bag_here", "_law_many", "_law_deep"] (spD e.K (gz 0)) :=
  ⟨fun vs H Q E h => by obtain ⟨ds, μ, Qd, _, r, z, _⟩ := h; exact (Dq z).elim, fun A outer s H args us vs Q E hr e0 hb hv h => by obtain ⟨ds, μ, Qd, _, r, z, _⟩ := h; exact (Dq z).elim⟩
theorem kB (T : TX e) (n k : Nat) (hk : 2 ≤ k) (aA : cP e) (ff : bM e.P e.w e.K e.mg e.base CX0 k e.t.eE e.t.fj ["_law_bag_here", "_law_many", "_law_deep"] (spD e.K (gz n))) : bM e.P e.w e.K e.mg e.base CX0 (k + 1) e.t.eE e.t.fj ["_law_bag_here", "_law_many", "_law_deep"] (spD e.K (gz (n + 1))) := by
  have S := AM
  exact T.DQ.okD S (fun ds μ Q h => D5 h) (fun cdv A outer s H E hr => ⟨nO n, (ai (aI (i := 3) S.nd rfl (Or.inl rfl) (ah aA (hr.mono (by omega)) rfl T.aP T.aR T.aQ (aa (dv 0) (aa ae ag))))
    (ai (bW (DW.dt (x5 (bA qy fx (dv 2) ae (aM _)) (x6 (bA qy fx (dv 3) ae (aM _))))) (aq (aD (aZ (aa dz (aa (ah aA (hr.mono (by omega)) rfl T.aP T.aR T.aQ (aa (dv 0) (aa (dv 1) ag))) ag))))) bq)
    (ai (bW (bA (dE hr.units) cI (dv 3) ae (aM _)) (aq (aD (aZ (aa dz (aa (ah ff (hr.mono (by omega)) rfl T.kW T.k9 T.k5 (aa (dv 0) (aa (dv 1) (aa (eR (dv 2) ae) ag)))) ag))))) bq)
    (ai (bW (bA qy fx (dv 3) ae (aM _)) (ai (aI (i := 4) S.nd rfl (Or.inl rfl) (ax (gg (aa ae (aa ae (aa ae (aa ae ag))))) (ah aA (hr.mono (by omega)) rfl T.aP T.aR T.aQ (aa (dv 0) (aa ae ag))) (fun _ _ => rfl)))
    (aq (aD (aZ (aa dz (aa (dA ae (ah aA (hr.mono (by omega)) rfl T.aP T.aR T.aQ (aa (dv 0) (aa (dv 4) ag)))) (aa (dA ae (ah aA (hr.mono (by omega)) rfl T.aP T.aR T.aQ (aa (dv 0) (aa (dv 4) ag)))) (aa (ah ff (hr.mono (by omega)) rfl T.kW T.k9 T.k5 (aa (dv 0) (aa (dv 1) (aa (eR (dv 2) ae) ag)))) ag)))))))) bq)
    (ai (Ay (i := 5) (N' := ["_law_part", "_law_bag_here", "_law_many", "_law_deep"]) (cap := [none, some 0, some 1, some 2]) S.nd rfl rfl rfl (qb rfl T.kQ (aa (dA ae (ah aA (hr.mono (by omega)) rfl T.aP T.aR T.aQ (aa (dv 0) (aa ae ag)))) ag)) (fun _ _ _ => (bE (i := 0) (show List.Nodup (["_law_part", "_law_bag_here", "_law_many", "_law_deep"] : List Str) by decide +kernel) rfl (Or.inl rfl))) (fun _ _ _ => jc) (fun _ _ _ => (ah ff (hr.mono (by omega)) rfl T.kW T.k9 T.k5 (aa (dv 1) (aa (dv 2) (aa (eR (dv 3) ae) ag))))) rfl (by decide +kernel) rfl (by decide +kernel) (by intro _ _ h; first | exact h | exact cl1 h | exact cl2 (by decide +kernel) h | exact cl3 (by decide +kernel) h | exact d5 (cO rfl iP) _ _ h | exact d5 (cO rfl (cO rfl iP)) _ _ h | exact d5 (cO rfl (cO rfl (cO rfl iP))) _ _ h | cases h) (nI rfl) rfl (kg ⟨xq, ⟨xq, ⟨xq, trivial⟩⟩⟩))
    (aq (aD (aZ (aa (ax (gg (aa dz (aa dz ag))) (jm (dv 3) ae) (fun _ _ => rfl)) (aa (Cy rfl T.wj (aa (dv 5) ag)) ag)))))))))), fun ds μ Qd h => zY n h⟩)
theorem BK (T : TX e) (aA : cP e) : bM e.P e.w e.K e.mg e.base CX0 5 e.t.eE e.t.fj ["_law_bag_here", "_law_many", "_law_deep"] (spD e.K (gz 3)) := (kB T 2 4 (by decide) aA (kB T 1 3 (by decide) aA (kB T 0 2 (by decide) aA xH)))
theorem yh : aG ["_law_bag_here", "_law_d", "_law_kinds_here", "_law_kind", "_law_other", "_law_u", "_law_v", "_law_way", "_law_turned_kind", "_law_some"] ["_law_bag_here", "_law_d", "_law_kinds_here"] (az fN) := ⟨rfl, rfl, rfl, by decide +kernel, rfl, by decide +kernel, by decide +kernel⟩
theorem yY (T : TX e) (aA : cP e) (cC : iF e) (aF : cb e) (dR : lD e) (aH : d4 e) (bj : eJ e) : qv e := by
  have S := yh
  exact T.Bk.okD S (fun ds μ Q h => Bp h) (fun cdv A outer s H E hr => ⟨lr, (ai (aI (i := 3) S.nd rfl (Or.inl rfl) (ax (dv 2) (ah aA (hr.mono (by decide)) rfl T.aP T.aR T.aQ (aa (dv 0) (aa (nB rfl T.qA (aa (dv 2) ag)) ag))) (fun _ _ => rfl)))
    (ai (aI (i := 4) S.nd rfl (Or.inl rfl) (ax (dv 2) (ah aA (hr.mono (by decide)) rfl T.aP T.aR T.aQ (aa (dv 0) (aa (nB rfl T.qA (aa (dv 2) ag)) ag))) (fun _ _ => rfl)))
    (ai (rX (i := 5) (j := 6) rfl S.nd rfl rfl (by decide) rfl rfl (aa (ah cC (hr.mono (by decide)) rfl T.gD T.gq T.gu (aa (dv 0) ag)) (aa (ah cC (hr.mono (by decide)) rfl T.gD T.gq T.gu (aa (dv 0) ag)) ag)) rfl)
    (ai (aI (i := 7) S.nd rfl (Or.inl rfl) (ah aA (hr.mono (by decide)) rfl T.aP T.aR T.aQ (aa (dv 0) (aa ae ag))))
    (ai (aI (i := 8) S.nd rfl (Or.inl rfl) (ah aF (hr.mono (by decide)) rfl T.cA T.cD T.cB (aa (dv 1) (aa (dv 3) ag))))
    (ai (aI (i := 9) S.nd rfl (Or.inl rfl) (gg (aa (ah dR (hr.mono (by decide)) rfl T.jR T.jQ T.jF (aa (dv 0) (aa (dv 1) ag))) (aa (ah aH (hr.mono (by decide)) rfl T.bH T.bG T.bF (aa (dv 1) (aa (dv 3) (aa (dv 5) ag)))) (aa (ah aH (hr.mono (by decide)) rfl T.bH T.bG T.bF (aa (dv 1) (aa (dv 8) (aa (dv 5) ag)))) (aa (ah bj (hr.mono (by decide)) rfl T.dS T.dO T.dY (aa (ah aH (hr.mono (by decide)) rfl T.bH T.bG T.bF (aa (dv 1) (aa (dv 3) (aa (dv 5) ag)))) (aa (ah aH (hr.mono (by decide)) rfl T.bH T.bG T.bF (aa (dv 1) (aa (dv 8) (aa (dv 6) ag)))) ag))) (aa (ah bj (hr.mono (by decide)) rfl T.dS T.dO T.dY (aa (dv 3) (aa (ah aH (hr.mono (by decide)) rfl T.bH T.bG T.bF (aa (dv 1) (aa (dv 4) (aa (dv 6) ag)))) ag))) (aa (dv 5) (aa (ah aH (hr.mono (by decide)) rfl T.bH T.bG T.bF (aa (dv 1) (aa (aZ (aa ae (aa ae (aa ae ag)))) (aa (dv 5) ag)))) (aa (ah bj (hr.mono (by decide)) rfl T.dS T.dO T.dY (aa (ah aH (hr.mono (by decide)) rfl T.bH T.bG T.bF (aa (dv 1) (aa (dv 8) (aa (dv 5) ag)))) (aa (aZ (aa ae (aa ae (aa ae ag)))) ag))) (aa (ah bj (hr.mono (by decide)) rfl T.dS T.dO T.dY (aa (ah aH (hr.mono (by decide)) rfl T.bH T.bG T.bF (aa (dv 1) (aa (dv 3) (aa (dv 5) ag)))) (aa (ah aH (hr.mono (by decide)) rfl T.bH T.bG T.bF (aa (dv 1) (aa (dv 6) (aa (aZ (aa ae (aa ae (aa ae ag)))) ag)))) ag))) (aa (ah dR (hr.mono (by decide)) rfl T.jR T.jQ T.jF (aa (dv 0) (aa (dv 1) ag))) ag))))))))))))
    (aq (aD (ax (dv 9) (dv 7) (fun _ _ => rfl)))))))))), fun ds μ Qd h => yt h⟩)
theorem vN : aG ["_law_d", "_law_kinds_here", "_law_shape_here", "_law_signs", "_law_lean"] ["_law_d", "_law_kinds_here", "_law_shape_here"] (az eC) := ⟨rfl, rfl, rfl, by decide +kernel, rfl, by decide +kernel, by decide +kernel⟩
theorem vI (T : TX e) (bQ : fG e) (eD : nh e) (cR : iB e) (jB : qs e) : nW e := by
  have S := vN
  exact T.wB.okD S (fun ds μ Q h => yG h) (fun cdv A outer s H E hr => ⟨jl, (ai (Ay (i := 3) (N' := ["_law_kind", "_law_d"]) (cap := [none, some 0]) S.nd rfl rfl rfl (rC (dv 1)) (fun _ _ _ => (bE (i := 0) (show List.Nodup (["_law_kind", "_law_d"] : List Str) by decide +kernel) rfl (Or.inl rfl))) (fun _ _ _ => jc) (fun _ _ _ => (ah bQ (hr.mono (by decide)) rfl T.g0 T.gW T.gO (aa (dv 1) (aa (ah eD (hr.mono (by decide)) rfl T.k7 T.kP T.kT (aa (dv 0) ag)) ag)))) rfl (by decide +kernel) rfl (by decide +kernel) (by intro _ _ h; first | exact h | exact cl1 h | exact cl2 (by decide +kernel) h | exact cl3 (by decide +kernel) h | exact d5 (cO rfl iP) _ _ h | exact d5 (cO rfl (cO rfl iP)) _ _ h | exact d5 (cO rfl (cO rfl (cO rfl iP))) _ _ h | cases h) (nI rfl) rfl (kg ⟨xq, trivial⟩))
    (ai (bW (bA jb fx (Ih rfl rfl T.qA rfl T.O1 (dv 3)) ae (aM _)) (aq (aD n6)) bq)
    (ai (bW (bA (xk hr.units) cI (ah bQ (hr.mono (by decide)) rfl T.g0 T.gW T.gO (aa (dv 0) (aa (ah eD (hr.mono (by decide)) rfl T.k7 T.kP T.kT (aa (dv 2) ag)) ag))) (ax (dv 3) ae (fun _ _ => rfl)) (aM _)) (aq (aD n6)) bq)
    (ai (aI (i := 4) S.nd rfl (Or.inr rfl) (ah cR (hr.mono (by decide)) rfl T.fi T.fz T.fk (aa (dv 0) (aa (dv 2) ag))))
    (ai (bW (bA jb fx (ax (dv 3) ae (fun _ _ => rfl)) ae (aM _)) (aq (aD (IE rfl rfl T.Ml (aa (qg (N' := ["_law_kind", "_law_d", "_law_lean"]) (cap := [none, some 0, some 4]) rfl (rC (dv 1)) (fun _ _ _ => (bE (i := 0) (show List.Nodup (["_law_kind", "_law_d", "_law_lean"] : List Str) by decide +kernel) rfl (Or.inl rfl))) (fun _ _ _ => jc) (fun _ _ _ => (Fb (ah jB (hr.mono (by decide)) rfl T.tY T.sN T.sR (aa (dv 1) (aa (ah cR (hr.mono (by decide)) rfl T.fi T.fz T.fk (aa (dv 1) (aa (dv 0) ag))) (aa (dv 2) ag)))))) rfl (by decide +kernel) rfl (by decide +kernel) (by intro _ _ h; first | exact h | exact cl1 h | exact cl2 (by decide +kernel) h | exact cl3 (by decide +kernel) h | exact d5 (cO rfl iP) _ _ h | exact d5 (cO rfl (cO rfl iP)) _ _ h | exact d5 (cO rfl (cO rfl (cO rfl iP))) _ _ h | cases h) (nI rfl) rfl (kg ⟨xq, ⟨xq, trivial⟩⟩)) ag)))) bq)
    (aq (aD (IE rfl rfl T.Ml (aa (qg (N' := ["_law_kind", "_law_d", "_law_lean"]) (cap := [none, some 0, some 4]) rfl (rC (dv 1)) (fun _ _ _ => (bE (i := 0) (show List.Nodup (["_law_kind", "_law_d", "_law_lean"] : List Str) by decide +kernel) rfl (Or.inl rfl))) (fun _ _ _ => jc) (fun _ _ _ => (Fb (ah jB (hr.mono (by decide)) rfl T.tY T.sN T.sR (aa (dv 1) (aa (dv 2) (aa (ah cR (hr.mono (by decide)) rfl T.fi T.fz T.fk (aa (dv 1) (aa (dv 0) ag))) ag)))))) rfl (by decide +kernel) rfl (by decide +kernel) (by intro _ _ h; first | exact h | exact cl1 h | exact cl2 (by decide +kernel) h | exact cl3 (by decide +kernel) h | exact d5 (cO rfl iP) _ _ h | exact d5 (cO rfl (cO rfl iP)) _ _ h | exact d5 (cO rfl (cO rfl (cO rfl iP))) _ _ h | cases h) (nI rfl) rfl (kg ⟨xq, ⟨xq, trivial⟩⟩)) ag))))))))), fun ds μ Qd h => vX h⟩)
theorem uC : aG ["d", "thing"] ["d", "thing"] (az dG) := ⟨rfl, rfl, rfl, by decide +kernel, rfl, by decide +kernel, by decide +kernel⟩
theorem ve (T : TX e) (rW : vq e) : iD e := by
  have S := uC
  exact T.vK.okD S (fun ds μ Q h => vL h) (fun cdv A outer s H E hr => ⟨iJ, (aq (bW (kh (fY (ah rW (hr.mono (by decide)) rfl T.FD T.FY T.FX (aa (dv 0) (aa (dv 1) ag))))) (aq tL) bq)), fun ds μ Qd h => uo h⟩)
theorem u9 : aG ["d", "shape", "together"] ["d", "shape"] (az dI) := ⟨rfl, rfl, rfl, by decide +kernel, rfl, by decide +kernel, by decide +kernel⟩
theorem uP (T : TX e) (aY : cX e) (ur : As e) (fm : tW e) (gK : uk e) (dh : mq e) : mj e := by
  have S := u9
  exact T.vU.okD S (fun ds μ Q h => C1 h) (fun cdv A outer s H E hr => ⟨iO, (ai (iy (ah aY (hr.mono (by decide)) rfl T.df T.dg T.di (aa (dv 0) (aa (dv 1) ag))))
    (ai (aI (i := 2) S.nd rfl (Or.inl rfl) (ah ur (hr.mono (by decide)) rfl T.Ke T.KC T.Iv (aa (dv 1) (aa (ah fm (hr.mono (by decide)) rfl T.nC T.mU T.mV (aa (dv 1) ag)) ag))))
    (aq (aD (ah gK (hr.mono (by decide)) rfl T.rH T.rL T.rj (aa (dv 0) (aa (ah dh (hr.mono (by decide)) rfl T.jz T.jy T.jK (aa (dv 0) (aa (dv 2) (aa (dv 2) ag)))) (aa (ah dh (hr.mono (by decide)) rfl T.jz T.jy T.jK (aa (dv 0) (aa (dv 1) (aa (ah fm (hr.mono (by decide)) rfl T.nC T.mU T.mV (aa (dv 1) ag)) ag)))) ag)))))))), fun ds μ Qd h => uD h⟩)
theorem Aj : aG ["d", "first", "second", "shape", "whole", "part", "of_second", "of_first"] ["d", "first", "second", "shape"] (az gZ) := ⟨rfl, rfl, rfl, by decide +kernel, rfl, by decide +kernel, by decide +kernel⟩
theorem Ca (T : TX e) (gK : uk e) (dD : j5 e) (vn : BO e) (dh : mq e) : nL e := by
  have S := Aj
  exact T.DF.okD S (fun ds μ Q h => A4 h) (fun cdv A outer s H E hr => ⟨mH, (ai (aI (i := 4) S.nd rfl (Or.inl rfl) (ah gK (hr.mono (by decide)) rfl T.rH T.rL T.rj (aa (dv 0) (aa (dv 3) (aa (dv 1) ag)))))
    (ai (aI (i := 5) S.nd rfl (Or.inl rfl) (ah gK (hr.mono (by decide)) rfl T.rH T.rL T.rj (aa (dv 0) (aa (dv 2) (aa (dv 1) ag)))))
    (ai (aI (i := 6) S.nd rfl (Or.inl rfl) (ah dD (hr.mono (by decide)) rfl T.ph T.oG T.pe (aa (aU (ax (dv 4) ae (fun _ _ => rfl)) (ax (dv 5) ae (fun _ _ => rfl))) (aa ae (aa (aU (ax (dv 4) ae (fun _ _ => rfl)) (ax (dv 5) ae (fun _ _ => rfl))) ag)))))
    (ai (aI (i := 7) S.nd rfl (Or.inl rfl) (ah vn (hr.mono (by decide)) rfl T.Iy T.Iz T.II (aa (dv 4) (aa (ah dh (hr.mono (by decide)) rfl T.jz T.jy T.jK (aa (dv 0) (aa (dv 6) (aa (dv 5) ag)))) ag))))
    (aq (aD (aZ (aa (dv 7) (aa (dv 6) ag))))))))), fun ds μ Qd h => A8 h⟩)
theorem Fl : aG ["d", "kind", "shape", "way", "own", "floor", "turn", "last", "both"] ["d", "kind", "shape"] (az j4) := ⟨rfl, rfl, rfl, by decide +kernel, rfl, by decide +kernel, by decide +kernel⟩
theorem Fy (T : TX e) (cU : kv e) (fm : tW e) (Bh : Gy e) (gK : uk e) (dh : mq e) : wx e := by
  have S := Fl
  exact T.Ib.okD S (fun ds μ Q h => Bf h) (fun cdv A outer s H E hr => ⟨rG, (ai (aI (i := 3) S.nd rfl (Or.inl rfl) (ah cU (hr.mono (by decide)) rfl T.j6 T.j0 T.jX (aa (dv 0) (aa (ah fm (hr.mono (by decide)) rfl T.nC T.mU T.mV (aa (dv 1) ag)) ag))))
    (ai (bW (bA (xk hr.units) cI (ah cU (hr.mono (by decide)) rfl T.j6 T.j0 T.jX (aa (dv 0) (aa (ah fm (hr.mono (by decide)) rfl T.nC T.mU T.mV (aa (dv 2) ag)) ag))) (dv 3) (aM _)) (aq (aD (aZ (aa (gj rfl T.J6) (aa (aZ (aa (gj rfl T.kF) (aa (gj rfl T.kF) (aa (gj rfl T.kF) (aa (aZ (aa (dv 3) (aa ae (aa ae ag)))) ag))))) ag))))) bq)
    (ai (aI (i := 4) S.nd rfl (Or.inl rfl) (ah Bh (hr.mono (by decide)) rfl T.J2 T.IG T.Kv (aa (dv 1) (aa (dv 3) ag))))
    (ai (aI (i := 5) S.nd rfl (Or.inl rfl) (ah Bh (hr.mono (by decide)) rfl T.J2 T.IG T.Kv (aa (dv 2) (aa (dv 3) ag))))
    (ai (aI (i := 6) S.nd rfl (Or.inl rfl) (ah cU (hr.mono (by decide)) rfl T.j6 T.j0 T.jX (aa (dv 0) (aa (dv 5) ag))))
    (ai (aI (i := 7) S.nd rfl (Or.inl rfl) (ah gK (hr.mono (by decide)) rfl T.rH T.rL T.rj (aa (dv 0) (aa (ah dh (hr.mono (by decide)) rfl T.jz T.jy T.jK (aa (dv 0) (aa (aZ (aa (dv 6) (aa ae (aa ae ag)))) (aa (dv 5) ag)))) (aa (ah fm (hr.mono (by decide)) rfl T.nC T.mU T.mV (aa (dv 2) ag)) ag)))))
    (ai (aI (i := 8) S.nd rfl (Or.inl rfl) (ah gK (hr.mono (by decide)) rfl T.rH T.rL T.rj (aa (dv 0) (aa (ah dh (hr.mono (by decide)) rfl T.jz T.jy T.jK (aa (dv 0) (aa (dv 4) (aa (dv 4) ag)))) (aa (ah dh (hr.mono (by decide)) rfl T.jz T.jy T.jK (aa (dv 0) (aa (aZ (aa ae (aa ae (aa ae ag)))) (aa (ah dh (hr.mono (by decide)) rfl T.jz T.jy T.jK (aa (dv 0) (aa (dv 1) (aa (ah fm (hr.mono (by decide)) rfl T.nC T.mU T.mV (aa (dv 1) ag)) ag)))) ag)))) ag)))))
    (aq (aD (aZ (aa (gj rfl T.J6) (aa (aZ (aa (ah gK (hr.mono (by decide)) rfl T.rH T.rL T.rj (aa (dv 0) (aa (dv 8) (aa (dv 7) ag)))) (aa (aZ (aa (aU (dv 3) (dv 6)) (aa ae (aa ae ag)))) (aa (aZ (aa (lx (dv 6)) (aa ae (aa ae ag)))) (aa (dv 7) ag))))) ag)))))))))))), fun ds μ Qd h => Fw h⟩)
theorem y4 : aG ["d", "kind", "shape", "shares"] ["d", "kind", "shape"] (az fQ) := ⟨rfl, rfl, rfl, by decide +kernel, rfl, by decide +kernel, by decide +kernel⟩
theorem yo (T : TX e) (aY : cX e) (dh : mq e) (gK : uk e) (gY : nL e) (cM : i5 e) (rV : vD e) (uq : wx e) : qu e := by
  have S := y4
  exact T.Cb.okD S (fun ds μ Q h => yp h) (fun cdv A outer s H E hr => ⟨lG, (ai (iy (ah aY (hr.mono (by decide)) rfl T.df T.dg T.di (aa (dv 0) (aa (dv 1) ag))))
    (ai (iy (ah aY (hr.mono (by decide)) rfl T.df T.dg T.di (aa (dv 0) (aa (dv 2) ag))))
    (ai (bW (bA (dE hr.units) cI (ax (ah dh (hr.mono (by decide)) rfl T.jz T.jy T.jK (aa (dv 0) (aa (dv 1) (aa (dv 1) ag)))) ae (fun _ _ => rfl)) ae (aM _)) (aq (aI (i := 3) S.nd rfl (Or.inl rfl) (aZ (aa (ah gK (hr.mono (by decide)) rfl T.rH T.rL T.rj (aa (dv 0) (aa (dv 2) (aa (dv 1) ag)))) (aa (gj rfl T.kF) ag))))) (aq (aI (i := 3) S.nd rfl (Or.inl rfl) (ah gY (hr.mono (by decide)) rfl T.vF T.vC T.vB (aa (dv 0) (aa (dv 1) (aa (ah cM (hr.mono (by decide)) rfl T.kz T.ku T.kE (aa (dv 0) (aa (dv 1) ag))) (aa (dv 2) ag))))))))
    (ai (bW (fY (EE rfl rfl T.Ip (aa (qg (N' := ["share", "d"]) (cap := [none, some 0]) rfl (rC (dv 3)) (fun _ _ _ => (bE (i := 0) (show List.Nodup (["share", "d"] : List Str) by decide +kernel) rfl (Or.inl rfl))) (fun _ _ _ => jc) (fun _ _ _ => (ah rV (hr.mono (by decide)) rfl T.E6 T.Gg T.EI (aa (dv 1) (aa (dv 0) ag)))) rfl (by decide +kernel) rfl (by decide +kernel) (by intro _ _ h; first | exact h | exact cl1 h | exact cl2 (by decide +kernel) h | exact cl3 (by decide +kernel) h | exact d5 (cO rfl iP) _ _ h | exact d5 (cO rfl (cO rfl iP)) _ _ h | exact d5 (cO rfl (cO rfl (cO rfl iP))) _ _ h | cases h) (nI rfl) rfl (kg ⟨xq, trivial⟩)) ag))) (aq (aD (aZ (aa dz (aa (ax (dv 3) ae (fun _ _ => rfl)) (aa (ax (dv 3) ae (fun _ _ => rfl)) ag)))))) bq)
    (aq (aD (aZ (aa dz (aa (ah uq (hr.mono (by decide)) rfl T.Hu T.Hq T.He (aa (dv 0) (aa (dv 1) (aa (dv 2) ag)))) ag))))))))), fun ds μ Qd h => yu h⟩)
theorem yM : aG ["d", "kind", "other", "a", "b", "c", "other_a", "other_b", "other_c"] ["d", "kind", "other"] (az fL) := ⟨rfl, rfl, rfl, by decide +kernel, rfl, by decide +kernel, by decide +kernel⟩
theorem y6 (T : TX e) (gA : mj e) : qB e := by
  have S := yM
  exact T.Bx.okD S (fun ds μ Q h => FP h) (fun cdv A outer s H E hr => ⟨lq, (ai (pG (ah gA (hr.mono (by decide)) rfl T.oj T.nX T.oi (aa (dv 0) (aa (dv 1) ag))) (qW (n := 3) rfl (cH (bE (i := 3) S.nd rfl (Or.inl rfl)) (cH (bE (i := 4) S.nd rfl (Or.inl rfl)) (cH (bE (i := 5) S.nd rfl (Or.inl rfl)) nu)))))
    (ai (pG (ah gA (hr.mono (by decide)) rfl T.oj T.nX T.oi (aa (dv 0) (aa (dv 2) ag))) (qW (n := 3) rfl (cH (bE (i := 6) S.nd rfl (Or.inl rfl)) (cH (bE (i := 7) S.nd rfl (Or.inl rfl)) (cH (bE (i := 8) S.nd rfl (Or.inl rfl)) nu)))))
    (aq (aD (fo jb fx (aU (qX rfl T.wZ (aa (dv 3) ag)) (dv 8)) (aU (qX rfl T.wZ (aa (dv 6) ag)) (dv 5)) (aM _)))))), fun ds μ Qd h => yI h⟩)
theorem vW : aG ["d", "kinds", "shape", "signs", "first", "first_plan", "second", "second_plan", "is_contrary", "u", "v", "plan"] ["d", "kinds", "shape"] (az eB) := ⟨rfl, rfl, rfl, by decide +kernel, rfl, by decide +kernel, by decide +kernel⟩
theorem vR (T : TX e) (fS : lO e) (d9 : i4 e) (cN : gi e) (gY : nL e) (cM : i5 e) (dq : ip e) : nZ e := by
  have S := vW
  exact T.xb.okD S (fun ds μ Q h => Fx h) (fun cdv A outer s H E hr => ⟨jd, (ai (aI (i := 3) S.nd rfl (Or.inl rfl) (ah fS (hr.mono (by decide)) rfl T.sH T.ue T.sF (aa (dv 0) (aa (dv 1) ag))))
    (ai (pG (ah d9 (hr.mono (by decide)) rfl T.jv T.jt T.ju (aa (dv 0) (aa (dv 1) (aa (Ck (dv 3) ae) ag)))) (qW (n := 2) rfl (cH (bE (i := 4) S.nd rfl (Or.inl rfl)) (cH (bE (i := 5) S.nd rfl (Or.inl rfl)) nu))))
    (ai (pG (ah d9 (hr.mono (by decide)) rfl T.jv T.jt T.ju (aa (dv 0) (aa (dv 1) (aa (Ck (dv 3) (lx ae)) ag)))) (qW (n := 2) rfl (cH (bE (i := 6) S.nd rfl (Or.inl rfl)) (cH (bE (i := 7) S.nd rfl (Or.inl rfl)) nu))))
    (ai (aI (i := 8) S.nd rfl (Or.inl rfl) (ah cN (hr.mono (by decide)) rfl T.kD T.kA T.kx (aa (dv 2) ag)))
    (ai (pG (ah gY (hr.mono (by decide)) rfl T.vF T.vC T.vB (aa (dv 0) (aa (dv 4) (aa (dv 6) (aa (qF (fY (dv 8)) (ah cM (hr.mono (by decide)) rfl T.kz T.ku T.kE (aa (dv 0) (aa (dv 2) ag))) (dv 2)) ag))))) (qW (n := 2) rfl (cH (bE (i := 9) S.nd rfl (Or.inl rfl)) (cH (bE (i := 10) S.nd rfl (Or.inl rfl)) nu))))
    (ai (aI (i := 11) S.nd rfl (Or.inl rfl) (ah dq (hr.mono (by decide)) rfl T.lT T.mi T.mw (aa (dv 9) (aa (dv 5) (aa (dv 10) (aa (dv 7) ag))))))
    (aq (aD (qF (fY (dv 8)) (aZ (aa dz (aa (dv 11) ag))) (dv 11)))))))))), fun ds μ Qd h => vZ h⟩)
theorem qY : aG ["_law_d", "_law_kinds_here", "_law_plan_here", "_law_found", "_law_part", "_law_shape_here"] ["_law_d", "_law_kinds_here", "_law_plan_here"] (az cW) := ⟨rfl, rfl, rfl, by decide +kernel, rfl, by decide +kernel, by decide +kernel⟩
theorem oK : bM e.P e.w e.K e.mg e.base CX0 4 e.t.bV e.t.cq ["_law_d", "_law_kinds_here", "_law_plan_here"] (spD e.K (ej 0)) :=
  ⟨fun vs H Q E h => by obtain ⟨ds, μ, Qd, _, r, z, _⟩ := h; exact (y8 z).elim, fun A outer s H args us vs Q E hr e0 hb hv h => by obtain ⟨ds, μ, Qd, _, r, z, _⟩ := h; exact (y8 z).elim⟩
theorem eY (T : TX e) (n k : Nat) (hk : 4 ≤ k) (aF : cb e) (aH : d4 e) (aX : dj e) (bj : eJ e) (cu : bM e.P e.w e.K e.mg e.base CX0 k e.t.bV e.t.cq ["_law_d", "_law_kinds_here", "_law_plan_here"] (spD e.K (ej n))) : bM e.P e.w e.K e.mg e.base CX0 (k + 1) e.t.bV e.t.cq ["_law_d", "_law_kinds_here", "_law_plan_here"] (spD e.K (ej (n + 1))) := by
  have S := qY
  exact T.tD.okD S (fun ds μ Q h => A1 h) (fun cdv A outer s H E hr => ⟨gI n, (ai (bW (bA (dE hr.units) cI (ax (dv 2) ae (fun _ _ => rfl)) dz (aM _)) (aq (aD (ax (dv 1) (ax (dv 2) ae (fun _ _ => rfl)) (fun _ _ => rfl)))) bq)
    (ai (bW (bA (dE hr.units) cI (ax (dv 2) ae (fun _ _ => rfl)) dz (aM _)) (aq (aD (ah aF (hr.mono (by omega)) rfl T.cA T.cD T.cB (aa (dv 0) (aa (ah cu (hr.mono (by omega)) rfl T.eX T.eU T.eT (aa (dv 0) (aa (dv 1) (aa (ax (dv 2) ae (fun _ _ => rfl)) ag)))) ag))))) bq)
    (ai (bW (bA (dE hr.units) cI (ax (dv 2) ae (fun _ _ => rfl)) dz (aM _)) (aq (aD (ah aH (hr.mono (by omega)) rfl T.bH T.bG T.bF (aa (dv 0) (aa (ah aX (hr.mono (by omega)) rfl T.fg T.fq T.fw (aa (ax (dv 2) ae (fun _ _ => rfl)) (aa ae (aa (ax (dv 2) ae (fun _ _ => rfl)) ag)))) (aa (ah cu (hr.mono (by omega)) rfl T.eX T.eU T.eT (aa (dv 0) (aa (dv 1) (aa (ax (dv 2) ae (fun _ _ => rfl)) ag)))) ag)))))) bq)
    (ai (aI (i := 3) S.nd rfl (Or.inl rfl) (aZ (aa ae (aa ae (aa ae ag)))))
    (ai (mY PassesOwn.never rfl (rC (ax (dv 2) ae (fun _ _ => rfl))) (bE (i := 4) S.nd rfl (Or.inl rfl)) (ai (aI (i := 5) S.nd rfl (Or.inl rfl) (ah cu (hr.mono (by omega)) rfl T.eX T.eU T.eT (aa (dv 0) (aa (dv 1) (aa (dv 4) ag)))))
    (aq (aI (i := 3) S.nd rfl (Or.inl rfl) (ah bj (hr.mono (by omega)) rfl T.dS T.dO T.dY (aa (dv 3) (aa (qF (bA (dE hr.units) cI (ax (dv 2) ae (fun _ _ => rfl)) dz (aM _)) (dv 5) (ah aF (hr.mono (by omega)) rfl T.cA T.cD T.cB (aa (dv 0) (aa (dv 5) ag)))) ag)))))))
    (aq (aD (qF (bA (dE hr.units) cI (ax (dv 2) ae (fun _ _ => rfl)) dz (aM _)) (dv 3) (ah aF (hr.mono (by omega)) rfl T.cA T.cD T.cB (aa (dv 0) (aa (dv 3) ag))))))))))), fun ds μ Qd h => sh n h⟩)
theorem rB (T : TX e) (aF : cb e) (aH : d4 e) (aX : dj e) (bj : eJ e) : bM e.P e.w e.K e.mg e.base CX0 7 e.t.bV e.t.cq ["_law_d", "_law_kinds_here", "_law_plan_here"] (spD e.K (ej 3)) := (eY T 2 6 (by decide) aF aH aX bj (eY T 1 5 (by decide) aF aH aX bj (eY T 0 4 (by decide) aF aH aX bj oK)))
theorem yQ : aG ["d", "kinds", "signs", "most", "place"] ["d", "kinds"] (az fB) := ⟨rfl, rfl, rfl, by decide +kernel, rfl, by decide +kernel, by decide +kernel⟩
theorem yy (T : TX e) (dM : iD e) (fS : lO e) (nT : qB e) : qJ e := by
  have S := yQ
  exact T.BA.okD S (fun ds μ Q h => Ea h) (fun cdv A outer s H E hr => ⟨lN, (ai (iy (ah dM (hr.mono (by decide)) rfl T.nV T.nY T.n9 (aa (dv 0) (aa (dv 1) ag))))
    (ai (aI (i := 2) S.nd rfl (Or.inl rfl) (ah fS (hr.mono (by decide)) rfl T.sH T.ue T.sF (aa (dv 0) (aa (dv 1) ag))))
    (ai (bW (DW.dt (BW (bA (IH hr.units) Ew ae (dv 2) (by with_unfolding_all rfl)) (wq (bA (IH hr.units) Ew (lx ae) (dv 2) (by with_unfolding_all rfl))))) (aq (aD JX)) bq)
    (ai (aI (i := 3) S.nd rfl (Or.inl rfl) ae)
    (ai (mY PassesOwn.never rfl (GQ rfl T.kQ (aa ae (aa (nB rfl T.qA (aa (dv 1) ag)) ag))) (bE (i := 4) S.nd rfl (Or.inl rfl)) (aq (bW (fY (ah nT (hr.mono (by decide)) rfl T.Az T.Ad T.Bm (aa (dv 0) (aa (ax (dv 1) (dv 4) (fun _ _ => rfl)) (aa (ax (dv 1) (dv 3) (fun _ _ => rfl)) ag))))) (aq (aI (i := 3) S.nd rfl (Or.inl rfl) (dv 4))) bq)))
    (aq (aD (dv 3)))))))), fun ds μ Qd h => yZ h⟩)
theorem Ao : aG ["d", "kinds", "shape", "place", "told"] ["d", "kinds", "shape"] (az gP) := ⟨rfl, rfl, rfl, by decide +kernel, rfl, by decide +kernel, by decide +kernel⟩
theorem Bu (T : TX e) (dM : iD e) (aY : cX e) (nP : qJ e) (j8 : nZ e) (mL : qu e) (ib : kj e) : tH e := by
  have S := Ao
  exact T.D7.okD S (fun ds μ Q h => Fv h) (fun cdv A outer s H E hr => ⟨mP, (ai (iy (ah dM (hr.mono (by decide)) rfl T.nV T.nY T.n9 (aa (dv 0) (aa (dv 1) ag))))
    (ai (iy (ah aY (hr.mono (by decide)) rfl T.df T.dg T.di (aa (dv 0) (aa (dv 2) ag))))
    (ai (aI (i := 3) S.nd rfl (Or.inl rfl) (ah nP (hr.mono (by decide)) rfl T.Ai T.zU T.AR (aa (dv 0) (aa (dv 1) ag))))
    (ai (bW (bA LX ME (dv 3) JX (aM _)) (aq (aD (aZ (aa dz (aa (ah j8 (hr.mono (by decide)) rfl T.xh T.xF T.xK (aa (dv 0) (aa (dv 1) (aa (dv 2) ag)))) ag))))) bq)
    (ai (aI (i := 4) S.nd rfl (Or.inl rfl) (ah mL (hr.mono (by decide)) rfl T.Bo T.B7 T.zX (aa (dv 0) (aa (ax (dv 1) (dv 3) (fun _ _ => rfl)) (aa (dv 2) ag)))))
    (ai (bW (bA (dE hr.units) cI (ax (dv 4) ae (fun _ _ => rfl)) dz (aM _)) (aq (aD (dv 4))) bq)
    (aq (aD (aZ (aa dz (aa (ah ib (hr.mono (by decide)) rfl T.sr T.uf T.tf (aa (ax (dv 4) ae (fun _ _ => rfl)) (aa (ax (dv 4) ae (fun _ _ => rfl)) (aa (dv 3) ag)))) ag))))))))))), fun ds μ Qd h => Bj h⟩)
theorem Ey : aG ["d", "kinds", "shape"] ["d", "kinds", "shape"] (az jW) := ⟨rfl, rfl, rfl, by decide +kernel, rfl, by decide +kernel, by decide +kernel⟩
theorem EK (T : TX e) (pN : tH e) : rT e := by
  have S := Ey
  exact T.G8.okD S (fun ds μ Q h => Ef h) (fun cdv A outer s H E hr => ⟨qU, (aq (aD (fo (dE hr.units) cI (ax (ah pN (hr.mono (by decide)) rfl T.Cp T.C6 T.CZ (aa (dv 0) (aa (dv 1) (aa (dv 2) ag)))) ae (fun _ _ => rfl)) dz (aM _)))), fun ds μ Qd h => EL h⟩)
theorem vT : aG ["_law_d", "_law_kinds_here", "_law_shape_here", "_law_told"] ["_law_d", "_law_kinds_here", "_law_shape_here"] (az el) := ⟨rfl, rfl, rfl, by decide +kernel, rfl, by decide +kernel, by decide +kernel⟩
theorem vQ (T : TX e) (gT : rT e) (j9 : nW e) : n8 e := by
  have S := vT
  exact T.xX.okD S (fun ds μ Q h => B5 h) (fun cdv A outer s H E hr => ⟨jf, (ai (aI (i := 3) S.nd rfl (Or.inl rfl) (ah gT (hr.mono (by decide)) rfl T.p5 T.pV T.pS (aa (dv 0) (aa (dv 1) (aa (dv 2) ag)))))
    (aq (aD (uZ (x8 (CM _) rfl T.il rfl T.J4 PyProof.Rows.Boot.«bool» (dv 3)) (uE (fo (dE hr.units) cI (dv 3) (ah j9 (hr.mono (by decide)) rfl T.wR T.xT T.xZ (aa (dv 0) (aa (dv 1) (aa (dv 2) ag)))) (aM _))))))), fun ds μ Qd h => vP h⟩)
theorem MP : aG ["_law_script", "_law_ahead", "_law_k", "_law_bag_here", "_law_d", "_law_kinds_here", "_law_turn", "_law_shape_here", "_law_kind", "_law_pair"] ["_law_script"] (az qC) := ⟨rfl, rfl, rfl, by decide +kernel, rfl, by decide +kernel, by decide +kernel⟩
theorem N4 (T : TX e) (rE : vt e) (pj : tO e) (mW : qH e) (nD : qv e) (eA : n8 e) (gT : rT e) (cu : rA e) (ff : BC e) (pL : sW e) (aF : cb e) (gG : jw e) : Kh e := by
  have S := MP
  exact T.O4.okD S (fun ds μ Q h => Hv h) (fun cdv A outer s H E hr => ⟨Fi, (ai (aI (i := 1) S.nd rfl (Or.inl rfl) (tI ag))
    (ai (mY PassesOwn.never rfl (qb rfl T.kQ (aa (Nl rfl rfl T.Oy (aa ae (aa (M1 rfl rfl T.Ou (aa ae (aa (nB rfl T.qA (aa (dv 0) ag)) ag))) ag))) ag)) (bE (i := 2) S.nd rfl (Or.inl rfl)) (ai (aI (i := 3) S.nd rfl (Or.inl rfl) (ah rE (hr.mono (by decide)) rfl T.FH T.Ex T.EN (aa (dv 0) (aa (dv 2) ag))))
    (ai (aI (i := 4) S.nd rfl (Or.inl rfl) (ah pj (hr.mono (by decide)) rfl T.Ct T.CL T.CD (aa (dv 3) ag)))
    (ai (aI (i := 5) S.nd rfl (Or.inl rfl) (ah mW (hr.mono (by decide)) rfl T.AU T.zN T.Bs (aa (dv 3) (aa (dv 4) ag))))
    (ai (mY PassesOwn.never rfl (qb rfl T.kQ (aa ae ag)) (bE (i := 6) S.nd rfl (Or.inl rfl)) (ai (aI (i := 7) S.nd rfl (Or.inl rfl) (ah nD (hr.mono (by decide)) rfl T.Bt T.AV T.Ax (aa (dv 3) (aa (dv 4) (aa (dv 5) ag)))))
    (ai (iy (ml (dv 1) (aZ (aa (dv 4) (aa (dv 5) (aa (dv 7) ag))))))
    (aq (bW (kh (fY (ah eA (hr.mono (by decide)) rfl T.iw T.ix T.ic (aa (dv 4) (aa (dv 5) (aa (dv 7) ag)))))) (aq (aD n6)) bq)))))
    (ai (bW (bA HW IQ (ah gT (hr.mono (by decide)) rfl T.p5 T.pV T.pS (aa (dv 4) (aa (dv 5) (aa (ah cu (hr.mono (by decide)) rfl T.eX T.eU T.eT (aa (dv 4) (aa (dv 5) (aa (ah ff (hr.mono (by decide)) rfl T.kW T.k9 T.k5 (aa (dv 3) (aa (nB rfl T.qA (aa (dv 5) ag)) (aa ae ag)))) ag)))) ag)))) n6 (aM _)) (aq (aD n6)) bq)
    (ai (aI (i := 8) S.nd rfl (Or.inl rfl) (ah pL (hr.mono (by decide)) rfl T.Cn T.CJ T.Cr (aa (dv 3) (aa (dv 4) ag))))
    (ai (aI (i := 9) S.nd rfl (Or.inl rfl) (aZ (aa (dv 8) (aa (ah aF (hr.mono (by decide)) rfl T.cA T.cD T.cB (aa (dv 4) (aa (ax (dv 5) ae (fun _ _ => rfl)) ag))) ag))))
    (aq (Ly PassesOwn.never rfl (ah gG (hr.mono (by decide)) rfl T.rP T.qQ T.rK (aa (dv 3) (aa (dv 4) (aa (dv 8) ag)))) (bE (i := 7) S.nd rfl (Or.inl rfl)) (aq (bW (DW.dt (x5 (kh (fY (ah eA (hr.mono (by decide)) rfl T.iw T.ix T.ic (aa (dv 4) (aa (aZ (aa (dv 8) ag)) (aa (dv 7) ag)))))) (x6 (kh (fY (ah eA (hr.mono (by decide)) rfl T.iw T.ix T.ic (aa (dv 4) (aa (dv 9) (aa (dv 7) ag))))))))) (aq (aD n6)) bq))))))))))))
    (ai (bW (kh (fY (EE rfl rfl T.Ip (aa (qg (N' := ["_law_d", "_law_kinds_here", "_law_shape_here"]) (cap := [none, none, none]) rfl (B1 (MJ (dv 1))) (fun _ _ _ => (qW (n := 3) rfl (cH (bE (i := 0) (show List.Nodup (["_law_d", "_law_kinds_here", "_law_shape_here"] : List Str) by decide +kernel) rfl (Or.inl rfl)) (cH (bE (i := 1) (show List.Nodup (["_law_d", "_law_kinds_here", "_law_shape_here"] : List Str) by decide +kernel) rfl (Or.inl rfl)) (cH (bE (i := 2) (show List.Nodup (["_law_d", "_law_kinds_here", "_law_shape_here"] : List Str) by decide +kernel) rfl (Or.inl rfl)) nu))))) (fun _ _ _ => jc) (fun _ _ _ => (ah eA (hr.mono (by decide)) rfl T.iw T.ix T.ic (aa (dv 0) (aa (dv 1) (aa (dv 2) ag))))) rfl (by decide +kernel) rfl (by decide +kernel) (by intro _ _ h; first | exact h | exact cl1 h | exact cl2 (by decide +kernel) h | exact cl3 (by decide +kernel) h | exact d5 (cO rfl iP) _ _ h | exact d5 (cO rfl (cO rfl iP)) _ _ h | exact d5 (cO rfl (cO rfl (cO rfl iP))) _ _ h | cases h) (nI rfl) rfl (kg trivial)) ag)))) (aq (aD n6)) bq)
    (aq (aD (uZ (fo Jx Mh (ah gT (hr.mono (by decide)) rfl T.p5 T.pV T.pS (aa ae (aa (aZ (aa (aZ (aa ae (aa ae (aa ae ag)))) ag)) (aa (aZ (aa ae (aa ae (aa ae ag)))) ag)))) n6 (aM _)) (uE (fo Jx Mh (ah gT (hr.mono (by decide)) rfl T.p5 T.pV T.pS (aa ae (aa (aZ (aa (aZ (aa ae (aa ae (aa ae ag)))) ag)) (aa (aZ (aa ae (aa ae (aa ae ag)))) ag)))) n6 (aM _))))))))), fun ds μ Qd h => MY h⟩)
theorem NV (T : TX e) : Kh e := by
  have km := D3 T
  have fI := tm T
  have fm := aT T
  have jj := uR T
  have fF := yq T
  have cN := ql T
  have rE := Dn T
  have aA := AK T
  have iT := wJ T
  have de := yx T
  have eD := BH T
  have bQ := B6 T
  have du := sj T fI
  have cU := Fd T jj
  have dq := tR T fF
  have aX := Cs T iT
  have pj := AF T aA
  have o8 := BI T km du
  have dD := Hy T du
  have rV := CV T cU
  have ib := rh T dq
  have fS := ya T cU fm
  have bj := Bl T aX
  have aH := yJ T aX
  have aF := uF T aX
  have lK := wY T aA aX
  have cC := u5 T aA aX
  have pL := Bq T aA aX de bQ
  have ur := bN T dD
  have vn := nM T dD
  have dh := aB T dD
  have cM := aE T dD
  have cV := qS T o8 cU
  have jB := ye T bQ bj de
  have dR := yP T lK bQ aA de
  have cR := oA T bj eD aH aF
  have gG := qq T cC aF aH bj bQ
  have gK := K7 T dh cM
  have aY := ma T cV
  have rW := CU T cV
  have Bh := gE T vn fm ur
  have d9 := pB T cN cM
  have mW := yg T dR aA aF aH aX
  have ff := BK T aA
  have nD := yY T aA cC aF dR aH bj
  have j9 := vI T bQ eD cR jB
  have dM := ve T rW
  have gA := uP T aY ur fm gK dh
  have gY := Ca T gK dD vn dh
  have uq := Fy T cU fm Bh gK dh
  have mL := yo T aY dh gK gY cM rV uq
  have nT := y6 T gA
  have j8 := vR T fS d9 cN gY cM dq
  have cu := rB T aF aH aX bj
  have nP := yy T dM fS nT
  have pN := Bu T dM aY nP j8 mL ib
  have gT := EK T pN
  have eA := vQ T gT j9
  exact N4 T rE pj mW nD eA gT cu ff pL aF gG
end
theorem all_mk {l : PySem.W.OpenLaw} {w : World} {K : PySem.W.Frag} {h : Heap} {mg : Str → Option Value} {fa : Addr} (X : K.In h) (G : h.Ns mainGlobals mg) (hfa : mg "law" = some (.ref fa))
    {f0 c0 f1 c1 f2 c2 f3 c3 f4 c4 f5 c5 f6 c6 f7 c7 f8 c8 f9 c9 f10 c10 f11 c11 f12 c12 f13 c13 f14 c14 f15 c15 f16 c16 f17 c17 f18 c18 f19 c19 f20 c20 f21 c21 f22 c22 f23 c23 f24 c24 f25 c25 f26 c26 f27 c27 f28 c28 f29 c29 f30 c30 f31 c31 f32 c32 f33 c33 f34 c34 f35 c35 f36 c36 f37 c37 f38 c38 f39 c39 f40 c40 f41 c41 f42 c42 f43 c43 f44 c44 f45 c45 f46 c46 f47 c47 f48 c48 f49 c49 f50 c50 f51 c51 f52 c52 f53 c53 f54 c54 f55 c55 f56 c56 f57 c57 f58 c58 : Addr} {t0 t1 t2 t3 t4 t5 t6 t7 t8 t9 t10 t11 t12 t13 t14 t15 t16 t17 t18 t19 t20 t21 t22 t23 t24 t25 t26 t27 t28 t29 t30 t31 t32 t33 t34 t35 t36 t37 t38 t39 t40 t41 t42 t43 t44 t45 t46 t47 t48 t49 t50 t51 t52 t53 t54 t55 t56 t57 t58 : Tok} {m0 m1 m2 m3 m4 m5 m6 m7 m8 m9 m10 m11 m12 m13 m14 m15 m16 m17 m18 m19 m20 m21 m22 m23 m24 m25 m26 m27 m28 m29 m30 m31 m32 m33 m34 m35 m36 m37 m38 m39 m40 m41 m42 m43 m44 m45 m46 m47 m48 m49 m50 m51 m52 m53 m54 m55 m56 m57 m58 : Str} {q0 : Tok} {g1 : Addr} {go1 : Option Addr} {q1a q1b q1c : Tok} {gn1 : Nat} {gs1 : Array (Option Value)} {g2 : Addr} {go2 : Option Addr} {q2a q2b q2c : Tok} {gn2 : Nat} {gs2 : Array (Option Value)}
    (a0 : FQ K "is_whole" iI f0 c0 t0 m0)
    (a1 : FQ K "common_divisor" dk f1 c1 t1 m1)
    (a2 : FQ K "is_number" gR f2 c2 t2 m2)
    (a3 : FQ K "divisor_of_all" dn f3 c3 t3 m3)
    (a4 : FQ K "number" mC f4 c4 t4 m4)
    (a5 : FQ K "mate" uN f5 c5 t5 m5)
    (a6 : FQ K "plus" vd f6 c6 t6 m6)
    (a7 : FQ K "less" uM f7 c7 t7 m7)
    (a8 : FQ K "times" p6 f8 c8 t8 m8)
    (a9 : FQ K "over" vh f9 c9 t9 m9)
    (a10 : FQ K "contrary" iN f10 c10 t10 m10)
    (a11 : FQ K "sign_of" jZ f11 c11 t11 m11)
    (a12 : FQ K "sign_of_parts" dH f12 c12 t12 m12)
    (a13 : FQ K "is_above_nought" cZ f13 c13 t13 m13)
    (a14 : FQ K "must_be_above_nought" bT f14 c14 t14 m14)
    (a15 : FQ K "is_kinds" iH f15 c15 t15 m15)
    (a16 : FQ K "must_be_kinds" dG f16 c16 t16 m16)
    (a17 : FQ K "lean_fraction" dI f17 c17 t17 m17)
    (a18 : FQ K "mixture_of" fQ f18 c18 t18 m18)
    (a19 : FQ K "shares_of" gZ f19 c19 t19 m19)
    (a20 : FQ K "is_share" iC f20 c20 t20 m20)
    (a21 : FQ K "bar_for" j4 f21 c21 t21 m21)
    (a22 : FQ K "skew" uJ f22 c22 t22 m22)
    (a23 : FQ K "plan_of_mixture" cY f23 c23 t23 m23)
    (a24 : FQ K "plan_of_shares" dr f24 c24 t24 m24)
    (a25 : FQ K "share_plan" fP f25 c25 t25 m25)
    (a26 : FQ K "wish_told" gP f26 c26 t26 m26)
    (a27 : FQ K "is_laid" jW f27 c27 t27 m27)
    (a28 : FQ K "leans_most" fB f28 c28 t28 m28)
    (a29 : FQ K "mate_signs" fD f29 c29 t29 m29)
    (a30 : FQ K "leans_more" fL f30 c30 t30 m30)
    (a31 : FQ K "plan_by_both" eB f31 c31 t31 m31)
    (a32 : FQ K "with_greater_mate" cw f32 c32 t32 m32)
    (a33 : FQ K "has_greater_mate" cK f33 c33 t33 m33)
    (a34 : FQ K "_law_bag" iE f34 c34 t34 m34)
    (a35 : FQ K "_law_take" gQ f35 c35 t35 m35)
    (a36 : FQ K "_law_shared" eM f36 c36 t36 m36)
    (a37 : FQ K "_law_low" iS f37 c37 t37 m37)
    (a38 : FQ K "_law_plus" gX f38 c38 t38 m38)
    (a39 : FQ K "_law_minus" fU f39 c39 t39 m39)
    (a40 : FQ K "_law_mate" g9 f40 c40 t40 m40)
    (a41 : FQ K "_law_times" fM f41 c41 t41 m41)
    (a42 : FQ K "_law_contrary" dF f42 c42 t42 m42)
    (a43 : FQ K "_law_sign" gU f43 c43 t43 m43)
    (a44 : FQ K "_law_below" fE f44 c44 t44 m44)
    (a45 : FQ K "_law_root" hJ f45 c45 t45 m45)
    (a46 : FQ K "_law_number" eO f46 c46 t46 m46)
    (a47 : FQ K "_law_above" fH f47 c47 t47 m47)
    (a48 : FQ K "_law_kinds" fO f48 c48 t48 m48)
    (a49 : FQ K "_law_plan_shape" cW f49 c49 t49 m49)
    (a50 : FQ K "_law_lean_fraction" cf f50 c50 t50 m50)
    (a51 : FQ K "_law_plan" gS f51 c51 t51 m51)
    (a52 : FQ K "_law_shape" fN f52 c52 t52 m52)
    (a53 : FQ K "_law_fraction" dJ f53 c53 t53 m53)
    (a54 : FQ K "_law_is_laid" eC f54 c54 t54 m54)
    (a55 : FQ K "_law_wide" g8 f55 c55 t55 m55)
    (a56 : FQ K "_law_wide_shapes" cJ f56 c56 t56 m56)
    (a57 : FQ K "_law_is_told" el f57 c57 t57 m57)
    (a58 : FQ K "law" qC f58 c58 t58 m58)
    (z0 : PySem.W.nsIn K mainGlobals "isinstance" = some none)
    (z1 : PySem.W.nsIn K mainGlobals "int" = some none)
    (z2 : PySem.W.nsIn K mainGlobals "bool" = some none)
    (z3 : PySem.W.nsIn K mainGlobals "abs" = some none)
    (z4 : PySem.W.nsIn K mainGlobals "tuple" = some none)
    (z5 : PySem.W.nsIn K mainGlobals "len" = some none)
    (z6 : PySem.W.nsIn K mainGlobals "all" = some none)
    (z7 : PySem.W.nsIn K mainGlobals "range" = some none)
    (z8 : PySem.W.nsIn K mainGlobals "any" = some none)
    (z9 : PySem.W.nsIn K mainGlobals "set" = some none)
    (z10 : PySem.W.nsIn K mainGlobals "max" = some none)
    (z11 : PySem.W.nsIn K mainGlobals "min" = some none)
    (v0 : PySem.W.nsIn K mainGlobals "MOST_KINDS" = some (some (.int 3 q0)))
    (v1 : PySem.W.nsIn K mainGlobals "NOUGHT" = some (some (.ref g1))) (w1 : K.lookup g1 = some ⟨.type "tuple", go1, .seq #[.int 0 q1a, .int 0 q1b, .int 1 q1c] gn1, gs1⟩)
    (v2 : PySem.W.nsIn K mainGlobals "ONE" = some (some (.ref g2))) (w2 : K.lookup g2 = some ⟨.type "tuple", go2, .seq #[.int 1 q2a, .int 0 q2b, .int 1 q2c] gn2, gs2⟩) :
    ∃ fd : FuncData, (∀ (s : Shared) (v : Value), BindsTo s fd ⟨[v], []⟩ [("_law_script", v)]) ∧ ∀ base : Heap, K.In base → base.Ns mainGlobals mg → bM l.prog w K mg base CX0 12 fa fd ["_law_script"] (spD K wQ) := by
  have e := hfa.symm.trans (PySem.W.mg_of X G a58.1)
  cases e
  have F0 := aS (st := iI) a0.2.1 a0.2.2.1 a0.2.2.2
  have b0 := F0.binds (ps := ["thing"]) fun _ _ _ _ _ _ us hl => match us, hl with | [_], _ => rfl
  have F1 := aS (st := dk) a1.2.1 a1.2.2.1 a1.2.2.2
  have b1 := F1.binds (ps := ["a", "b"]) fun _ _ _ _ _ _ us hl => match us, hl with | [_, _], _ => rfl
  have F2 := aS (st := gR) a2.2.1 a2.2.2.1 a2.2.2.2
  have b2 := F2.binds (ps := ["thing"]) fun _ _ _ _ _ _ us hl => match us, hl with | [_], _ => rfl
  have F3 := aS (st := dn) a3.2.1 a3.2.2.1 a3.2.2.2
  have b3 := F3.binds (ps := ["a", "b", "c"]) fun _ _ _ _ _ _ us hl => match us, hl with | [_, _, _], _ => rfl
  have F4 := aS (st := mC) a4.2.1 a4.2.2.1 a4.2.2.2
  have b4 := F4.binds (ps := ["a", "b", "c"]) fun _ _ _ _ _ _ us hl => match us, hl with | [_, _, _], _ => rfl
  have F5 := aS (st := uN) a5.2.1 a5.2.2.1 a5.2.2.2
  have b5 := F5.binds (ps := ["x"]) fun _ _ _ _ _ _ us hl => match us, hl with | [_], _ => rfl
  have F6 := aS (st := vd) a6.2.1 a6.2.2.1 a6.2.2.2
  have b6 := F6.binds (ps := ["x", "y"]) fun _ _ _ _ _ _ us hl => match us, hl with | [_, _], _ => rfl
  have F7 := aS (st := uM) a7.2.1 a7.2.2.1 a7.2.2.2
  have b7 := F7.binds (ps := ["x", "y"]) fun _ _ _ _ _ _ us hl => match us, hl with | [_, _], _ => rfl
  have F8 := aS (st := p6) a8.2.1 a8.2.2.1 a8.2.2.2
  have b8 := F8.binds (ps := ["d", "x", "y"]) fun _ _ _ _ _ _ us hl => match us, hl with | [_, _, _], _ => rfl
  have F9 := aS (st := vh) a9.2.1 a9.2.2.1 a9.2.2.2
  have b9 := F9.binds (ps := ["d", "x", "y"]) fun _ _ _ _ _ _ us hl => match us, hl with | [_, _, _], _ => rfl
  have F10 := aS (st := iN) a10.2.1 a10.2.2.1 a10.2.2.2
  have b10 := F10.binds (ps := ["d", "x"]) fun _ _ _ _ _ _ us hl => match us, hl with | [_, _], _ => rfl
  have F11 := aS (st := jZ) a11.2.1 a11.2.2.1 a11.2.2.2
  have b11 := F11.binds (ps := ["d", "x"]) fun _ _ _ _ _ _ us hl => match us, hl with | [_, _], _ => rfl
  have F12 := aS (st := dH) a12.2.1 a12.2.2.1 a12.2.2.2
  have b12 := F12.binds (ps := ["d", "a", "b"]) fun _ _ _ _ _ _ us hl => match us, hl with | [_, _, _], _ => rfl
  have F13 := aS (st := cZ) a13.2.1 a13.2.2.1 a13.2.2.2
  have b13 := F13.binds (ps := ["d", "thing"]) fun _ _ _ _ _ _ us hl => match us, hl with | [_, _], _ => rfl
  have F14 := aS (st := bT) a14.2.1 a14.2.2.1 a14.2.2.2
  have b14 := F14.binds (ps := ["d", "thing"]) fun _ _ _ _ _ _ us hl => match us, hl with | [_, _], _ => rfl
  have F15 := aS (st := iH) a15.2.1 a15.2.2.1 a15.2.2.2
  have b15 := F15.binds (ps := ["d", "thing"]) fun _ _ _ _ _ _ us hl => match us, hl with | [_, _], _ => rfl
  have F16 := aS (st := dG) a16.2.1 a16.2.2.1 a16.2.2.2
  have b16 := F16.binds (ps := ["d", "thing"]) fun _ _ _ _ _ _ us hl => match us, hl with | [_, _], _ => rfl
  have F17 := aS (st := dI) a17.2.1 a17.2.2.1 a17.2.2.2
  have b17 := F17.binds (ps := ["d", "shape"]) fun _ _ _ _ _ _ us hl => match us, hl with | [_, _], _ => rfl
  have F18 := aS (st := fQ) a18.2.1 a18.2.2.1 a18.2.2.2
  have b18 := F18.binds (ps := ["d", "kind", "shape"]) fun _ _ _ _ _ _ us hl => match us, hl with | [_, _, _], _ => rfl
  have F19 := aS (st := gZ) a19.2.1 a19.2.2.1 a19.2.2.2
  have b19 := F19.binds (ps := ["d", "first", "second", "shape"]) fun _ _ _ _ _ _ us hl => match us, hl with | [_, _, _, _], _ => rfl
  have F20 := aS (st := iC) a20.2.1 a20.2.2.1 a20.2.2.2
  have b20 := F20.binds (ps := ["d", "x"]) fun _ _ _ _ _ _ us hl => match us, hl with | [_, _], _ => rfl
  have F21 := aS (st := j4) a21.2.1 a21.2.2.1 a21.2.2.2
  have b21 := F21.binds (ps := ["d", "kind", "shape"]) fun _ _ _ _ _ _ us hl => match us, hl with | [_, _, _], _ => rfl
  have F22 := aS (st := uJ) a22.2.1 a22.2.2.1 a22.2.2.2
  have b22 := F22.binds (ps := ["shape", "way"]) fun _ _ _ _ _ _ us hl => match us, hl with | [_, _], _ => rfl
  have F23 := aS (st := cY) a23.2.1 a23.2.2.1 a23.2.2.2
  have b23 := F23.binds (ps := ["u", "v", "place"]) fun _ _ _ _ _ _ us hl => match us, hl with | [_, _, _], _ => rfl
  have F24 := aS (st := dr) a24.2.1 a24.2.2.1 a24.2.2.2
  have b24 := F24.binds (ps := ["u", "first", "v", "second"]) fun _ _ _ _ _ _ us hl => match us, hl with | [_, _, _, _], _ => rfl
  have F25 := aS (st := fP) a25.2.1 a25.2.2.1 a25.2.2.2
  have b25 := F25.binds (ps := ["share", "plan"]) fun _ _ _ _ _ _ us hl => match us, hl with | [_, _], _ => rfl
  have F26 := aS (st := gP) a26.2.1 a26.2.2.1 a26.2.2.2
  have b26 := F26.binds (ps := ["d", "kinds", "shape"]) fun _ _ _ _ _ _ us hl => match us, hl with | [_, _, _], _ => rfl
  have F27 := aS (st := jW) a27.2.1 a27.2.2.1 a27.2.2.2
  have b27 := F27.binds (ps := ["d", "kinds", "shape"]) fun _ _ _ _ _ _ us hl => match us, hl with | [_, _, _], _ => rfl
  have F28 := aS (st := fB) a28.2.1 a28.2.2.1 a28.2.2.2
  have b28 := F28.binds (ps := ["d", "kinds"]) fun _ _ _ _ _ _ us hl => match us, hl with | [_, _], _ => rfl
  have F29 := aS (st := fD) a29.2.1 a29.2.2.1 a29.2.2.2
  have b29 := F29.binds (ps := ["d", "kinds"]) fun _ _ _ _ _ _ us hl => match us, hl with | [_, _], _ => rfl
  have F30 := aS (st := fL) a30.2.1 a30.2.2.1 a30.2.2.2
  have b30 := F30.binds (ps := ["d", "kind", "other"]) fun _ _ _ _ _ _ us hl => match us, hl with | [_, _, _], _ => rfl
  have F31 := aS (st := eB) a31.2.1 a31.2.2.1 a31.2.2.2
  have b31 := F31.binds (ps := ["d", "kinds", "shape"]) fun _ _ _ _ _ _ us hl => match us, hl with | [_, _, _], _ => rfl
  have F32 := aS (st := cw) a32.2.1 a32.2.2.1 a32.2.2.2
  have b32 := F32.binds (ps := ["d", "kinds", "place"]) fun _ _ _ _ _ _ us hl => match us, hl with | [_, _, _], _ => rfl
  have F33 := aS (st := cK) a33.2.1 a33.2.2.1 a33.2.2.2
  have b33 := F33.binds (ps := ["shape"]) fun _ _ _ _ _ _ us hl => match us, hl with | [_], _ => rfl
  have F34 := aS (st := iE) a34.2.1 a34.2.2.1 a34.2.2.2
  have b34 := F34.binds (ps := ["_law_script", "_law_at"]) fun _ _ _ _ _ _ us hl => match us, hl with | [_, _], _ => rfl
  have F35 := aS (st := gQ) a35.2.1 a35.2.2.1 a35.2.2.2
  have b35 := F35.binds (ps := ["_law_bag_here", "_law_many"]) fun _ _ _ _ _ _ us hl => match us, hl with | [_, _], _ => rfl
  have F36 := aS (st := eM) a36.2.1 a36.2.2.1 a36.2.2.2
  have b36 := F36.binds (ps := ["_law_one", "_law_other"]) fun _ _ _ _ _ _ us hl => match us, hl with | [_, _], _ => rfl
  have F37 := aS (st := iS) a37.2.1 a37.2.2.1 a37.2.2.2
  have b37 := F37.binds (ps := ["_law_a", "_law_b", "_law_c"]) fun _ _ _ _ _ _ us hl => match us, hl with | [_, _, _], _ => rfl
  have F38 := aS (st := gX) a38.2.1 a38.2.2.1 a38.2.2.2
  have b38 := F38.binds (ps := ["_law_x", "_law_y"]) fun _ _ _ _ _ _ us hl => match us, hl with | [_, _], _ => rfl
  have F39 := aS (st := fU) a39.2.1 a39.2.2.1 a39.2.2.2
  have b39 := F39.binds (ps := ["_law_x"]) fun _ _ _ _ _ _ us hl => match us, hl with | [_], _ => rfl
  have F40 := aS (st := g9) a40.2.1 a40.2.2.1 a40.2.2.2
  have b40 := F40.binds (ps := ["_law_x"]) fun _ _ _ _ _ _ us hl => match us, hl with | [_], _ => rfl
  have F41 := aS (st := fM) a41.2.1 a41.2.2.1 a41.2.2.2
  have b41 := F41.binds (ps := ["_law_d", "_law_x", "_law_y"]) fun _ _ _ _ _ _ us hl => match us, hl with | [_, _, _], _ => rfl
  have F42 := aS (st := dF) a42.2.1 a42.2.2.1 a42.2.2.2
  have b42 := F42.binds (ps := ["_law_d", "_law_x"]) fun _ _ _ _ _ _ us hl => match us, hl with | [_, _], _ => rfl
  have F43 := aS (st := gU) a43.2.1 a43.2.2.1 a43.2.2.2
  have b43 := F43.binds (ps := ["_law_d", "_law_x"]) fun _ _ _ _ _ _ us hl => match us, hl with | [_, _], _ => rfl
  have F44 := aS (st := fE) a44.2.1 a44.2.2.1 a44.2.2.2
  have b44 := F44.binds (ps := ["_law_d", "_law_x", "_law_y"]) fun _ _ _ _ _ _ us hl => match us, hl with | [_, _, _], _ => rfl
  have F45 := aS (st := hJ) a45.2.1 a45.2.2.1 a45.2.2.2
  have b45 := F45.binds (ps := ["_law_bag_here"]) fun _ _ _ _ _ _ us hl => match us, hl with | [_], _ => rfl
  have F46 := aS (st := eO) a46.2.1 a46.2.2.1 a46.2.2.2
  have b46 := F46.binds (ps := ["_law_bag_here"]) fun _ _ _ _ _ _ us hl => match us, hl with | [_], _ => rfl
  have F47 := aS (st := fH) a47.2.1 a47.2.2.1 a47.2.2.2
  have b47 := F47.binds (ps := ["_law_bag_here", "_law_d"]) fun _ _ _ _ _ _ us hl => match us, hl with | [_, _], _ => rfl
  have F48 := aS (st := fO) a48.2.1 a48.2.2.1 a48.2.2.2
  have b48 := F48.binds (ps := ["_law_bag_here", "_law_d"]) fun _ _ _ _ _ _ us hl => match us, hl with | [_, _], _ => rfl
  have F49 := aS (st := cW) a49.2.1 a49.2.2.1 a49.2.2.2
  have b49 := F49.binds (ps := ["_law_d", "_law_kinds_here", "_law_plan_here"]) fun _ _ _ _ _ _ us hl => match us, hl with | [_, _, _], _ => rfl
  have F50 := aS (st := cf) a50.2.1 a50.2.2.1 a50.2.2.2
  have b50 := F50.binds (ps := ["_law_d", "_law_shape_here"]) fun _ _ _ _ _ _ us hl => match us, hl with | [_, _], _ => rfl
  have F51 := aS (st := gS) a51.2.1 a51.2.2.1 a51.2.2.2
  have b51 := F51.binds (ps := ["_law_bag_here", "_law_many", "_law_deep"]) fun _ _ _ _ _ _ us hl => match us, hl with | [_, _, _], _ => rfl
  have F52 := aS (st := fN) a52.2.1 a52.2.2.1 a52.2.2.2
  have b52 := F52.binds (ps := ["_law_bag_here", "_law_d", "_law_kinds_here"]) fun _ _ _ _ _ _ us hl => match us, hl with | [_, _, _], _ => rfl
  have F53 := aS (st := dJ) a53.2.1 a53.2.2.1 a53.2.2.2
  have b53 := F53.binds (ps := ["_law_bag_here"]) fun _ _ _ _ _ _ us hl => match us, hl with | [_], _ => rfl
  have F54 := aS (st := eC) a54.2.1 a54.2.2.1 a54.2.2.2
  have b54 := F54.binds (ps := ["_law_d", "_law_kinds_here", "_law_shape_here"]) fun _ _ _ _ _ _ us hl => match us, hl with | [_, _, _], _ => rfl
  have F55 := aS (st := g8) a55.2.1 a55.2.2.1 a55.2.2.2
  have b55 := F55.binds (ps := ["_law_bag_here", "_law_d"]) fun _ _ _ _ _ _ us hl => match us, hl with | [_, _], _ => rfl
  have F56 := aS (st := cJ) a56.2.1 a56.2.2.1 a56.2.2.2
  have b56 := F56.binds (ps := ["_law_bag_here", "_law_d", "_law_kind"]) fun _ _ _ _ _ _ us hl => match us, hl with | [_, _, _], _ => rfl
  have F57 := aS (st := el) a57.2.1 a57.2.2.1 a57.2.2.2
  have b57 := F57.binds (ps := ["_law_d", "_law_kinds_here", "_law_shape_here"]) fun _ _ _ _ _ _ us hl => match us, hl with | [_, _, _], _ => rfl
  have F58 := aS (st := qC) a58.2.1 a58.2.2.1 a58.2.2.2
  have b58 := F58.binds (ps := ["_law_script"]) fun _ _ _ _ _ _ us hl => match us, hl with | [_], _ => rfl
  have T : Txt K mg ⟨f0, fd "is_whole" iI t0 m0 c0, f1, fd "common_divisor" dk t1 m1 c1, f2, fd "is_number" gR t2 m2 c2, f3, fd "divisor_of_all" dn t3 m3 c3, f4, fd "number" mC t4 m4 c4, f5, fd "mate" uN t5 m5 c5, f6, fd "plus" vd t6 m6 c6, f7, fd "less" uM t7 m7 c7, f8, fd "times" p6 t8 m8 c8, f9, fd "over" vh t9 m9 c9, f10, fd "contrary" iN t10 m10 c10, f11, fd "sign_of" jZ t11 m11 c11, f12, fd "sign_of_parts" dH t12 m12 c12, f13, fd "is_above_nought" cZ t13 m13 c13, f14, fd "must_be_above_nought" bT t14 m14 c14, f15, fd "is_kinds" iH t15 m15 c15, f16, fd "must_be_kinds" dG t16 m16 c16, f17, fd "lean_fraction" dI t17 m17 c17, f18, fd "mixture_of" fQ t18 m18 c18, f19, fd "shares_of" gZ t19 m19 c19, f20, fd "is_share" iC t20 m20 c20, f21, fd "bar_for" j4 t21 m21 c21, f22, fd "skew" uJ t22 m22 c22, f23, fd "plan_of_mixture" cY t23 m23 c23, f24, fd "plan_of_shares" dr t24 m24 c24, f25, fd "share_plan" fP t25 m25 c25, f26, fd "wish_told" gP t26 m26 c26, f27, fd "is_laid" jW t27 m27 c27, f28, fd "leans_most" fB t28 m28 c28, f29, fd "mate_signs" fD t29 m29 c29, f30, fd "leans_more" fL t30 m30 c30, f31, fd "plan_by_both" eB t31 m31 c31, f32, fd "with_greater_mate" cw t32 m32 c32, f33, fd "has_greater_mate" cK t33 m33 c33, f34, fd "_law_bag" iE t34 m34 c34, f35, fd "_law_take" gQ t35 m35 c35, f36, fd "_law_shared" eM t36 m36 c36, f37, fd "_law_low" iS t37 m37 c37, f38, fd "_law_plus" gX t38 m38 c38, f39, fd "_law_minus" fU t39 m39 c39, f40, fd "_law_mate" g9 t40 m40 c40, f41, fd "_law_times" fM t41 m41 c41, f42, fd "_law_contrary" dF t42 m42 c42, f43, fd "_law_sign" gU t43 m43 c43, f44, fd "_law_below" fE t44 m44 c44, f45, fd "_law_root" hJ t45 m45 c45, f46, fd "_law_number" eO t46 m46 c46, f47, fd "_law_above" fH t47 m47 c47, f48, fd "_law_kinds" fO t48 m48 c48, f49, fd "_law_plan_shape" cW t49 m49 c49, f50, fd "_law_lean_fraction" cf t50 m50 c50, f51, fd "_law_plan" gS t51 m51 c51, f52, fd "_law_shape" fN t52 m52 c52, f53, fd "_law_fraction" dJ t53 m53 c53, f54, fd "_law_is_laid" eC t54 m54 c54, f55, fd "_law_wide" g8 t55 m55 c55, f56, fd "_law_wide_shapes" cJ t56 m56 c56, f57, fd "_law_is_told" el t57 m57 c57, fa, fd "law" qC t58 m58 c58, q0, g1, g2⟩ := ⟨F0, PySem.W.mg_of X G a0.1, a0.2.2.2, b0, F1, PySem.W.mg_of X G a1.1, a1.2.2.2, b1, F2, PySem.W.mg_of X G a2.1, a2.2.2.2, b2, F3, PySem.W.mg_of X G a3.1, a3.2.2.2, b3, F4, PySem.W.mg_of X G a4.1, a4.2.2.2, b4, F5, PySem.W.mg_of X G a5.1, a5.2.2.2, b5, F6, PySem.W.mg_of X G a6.1, a6.2.2.2, b6, F7, PySem.W.mg_of X G a7.1, a7.2.2.2, b7, F8, PySem.W.mg_of X G a8.1, a8.2.2.2, b8, F9, PySem.W.mg_of X G a9.1, a9.2.2.2, b9, F10, PySem.W.mg_of X G a10.1, a10.2.2.2, b10, F11, PySem.W.mg_of X G a11.1, a11.2.2.2, b11, F12, PySem.W.mg_of X G a12.1, a12.2.2.2, b12, F13, PySem.W.mg_of X G a13.1, a13.2.2.2, b13, F14, PySem.W.mg_of X G a14.1, a14.2.2.2, b14, F15, PySem.W.mg_of X G a15.1, a15.2.2.2, b15, F16, PySem.W.mg_of X G a16.1, a16.2.2.2, b16, F17, PySem.W.mg_of X G a17.1, a17.2.2.2, b17, F18, PySem.W.mg_of X G a18.1, a18.2.2.2, b18, F19, PySem.W.mg_of X G a19.1, a19.2.2.2, b19, F20, PySem.W.mg_of X G a20.1, a20.2.2.2, b20, F21, PySem.W.mg_of X G a21.1, a21.2.2.2, b21, F22, PySem.W.mg_of X G a22.1, a22.2.2.2, b22, F23, PySem.W.mg_of X G a23.1, a23.2.2.2, b23, F24, PySem.W.mg_of X G a24.1, a24.2.2.2, b24, F25, PySem.W.mg_of X G a25.1, a25.2.2.2, b25, F26, PySem.W.mg_of X G a26.1, a26.2.2.2, b26, F27, PySem.W.mg_of X G a27.1, a27.2.2.2, b27, F28, PySem.W.mg_of X G a28.1, a28.2.2.2, b28, F29, PySem.W.mg_of X G a29.1, a29.2.2.2, b29, F30, PySem.W.mg_of X G a30.1, a30.2.2.2, b30, F31, PySem.W.mg_of X G a31.1, a31.2.2.2, b31, F32, PySem.W.mg_of X G a32.1, a32.2.2.2, b32, F33, PySem.W.mg_of X G a33.1, a33.2.2.2, b33, F34, PySem.W.mg_of X G a34.1, a34.2.2.2, b34, F35, PySem.W.mg_of X G a35.1, a35.2.2.2, b35, F36, PySem.W.mg_of X G a36.1, a36.2.2.2, b36, F37, PySem.W.mg_of X G a37.1, a37.2.2.2, b37, F38, PySem.W.mg_of X G a38.1, a38.2.2.2, b38, F39, PySem.W.mg_of X G a39.1, a39.2.2.2, b39, F40, PySem.W.mg_of X G a40.1, a40.2.2.2, b40, F41, PySem.W.mg_of X G a41.1, a41.2.2.2, b41, F42, PySem.W.mg_of X G a42.1, a42.2.2.2, b42, F43, PySem.W.mg_of X G a43.1, a43.2.2.2, b43, F44, PySem.W.mg_of X G a44.1, a44.2.2.2, b44, F45, PySem.W.mg_of X G a45.1, a45.2.2.2, b45, F46, PySem.W.mg_of X G a46.1, a46.2.2.2, b46, F47, PySem.W.mg_of X G a47.1, a47.2.2.2, b47, F48, PySem.W.mg_of X G a48.1, a48.2.2.2, b48, F49, PySem.W.mg_of X G a49.1, a49.2.2.2, b49, F50, PySem.W.mg_of X G a50.1, a50.2.2.2, b50, F51, PySem.W.mg_of X G a51.1, a51.2.2.2, b51, F52, PySem.W.mg_of X G a52.1, a52.2.2.2, b52, F53, PySem.W.mg_of X G a53.1, a53.2.2.2, b53, F54, PySem.W.mg_of X G a54.1, a54.2.2.2, b54, F55, PySem.W.mg_of X G a55.1, a55.2.2.2, b55, F56, PySem.W.mg_of X G a56.1, a56.2.2.2, b56, F57, PySem.W.mg_of X G a57.1, a57.2.2.2, b57, F58, PySem.W.mg_of X G a58.1, a58.2.2.2, b58, PySem.W.mg_none_of X G z0, PySem.W.mg_none_of X G z1, PySem.W.mg_none_of X G z2, PySem.W.mg_none_of X G z3, PySem.W.mg_none_of X G z4, PySem.W.mg_none_of X G z5, PySem.W.mg_none_of X G z6, PySem.W.mg_none_of X G z7, PySem.W.mg_none_of X G z8, PySem.W.mg_none_of X G z9, PySem.W.mg_none_of X G z10, PySem.W.mg_none_of X G z11, PySem.W.mg_of X G v0, ⟨PySem.W.mg_of X G v1, ⟨_, _, _, _, _, _, w1⟩⟩, ⟨PySem.W.mg_of X G v2, ⟨_, _, _, _, _, _, w2⟩⟩⟩
  exact ⟨_, fun s v => .of_eq rfl, fun base _ _ => NV (e := ⟨l.prog, w, K, mg, base, _⟩) T⟩
theorem walk {l : PySem.W.OpenLaw} {q : Program} {loose : List Str} {XP : (Str → Option Value) → Heap → Prop} {YP : World → Heap → Prop} {d : DefRec} {K : Params → PySem.W.Frag} (tabs : List Addr) (hn : l.most = some 63) (hdf : d.params.defaults = [])
    (hY : ∀ (w : World) (h : Heap), YP w h → (K w.params).In h ∧ (∀ p ∈ tabs, h.get? p = some (PySem.W.tabObj #[]) ∧ (K w.params).lookup p = none) ∧ (∀ p ∈ tabs, isCodeTable h p))
    (hA2 : ∀ (w : World) c o p q, (K w.params).lookup c = some o → ec o = some (p, q) → p ∈ tabs)
    (F : ∀ (w : World) (mg : Str → Option Value) (fa : Addr) (h : Heap), (K w.params).In h → h.Ns mainGlobals mg → mg d.name = some (.ref fa) →
      ∃ fd : FuncData, (∀ (s : Shared) (u : Value), BindsTo s fd ⟨[u], []⟩ [("_law_script", u)]) ∧ ∀ base : Heap, (K w.params).In base → base.Ns mainGlobals mg → bM l.prog w (K w.params) mg base CX0 12 fa fd ["_law_script"] (spD (K w.params) wQ)) :
    PySem.W.WalkO q loose XP YP l.row.toRowW d [] (fun f vs => PySem.call f vs) :=
  L2.IS (n := 63) (k := 12) (x := "_law_script") (CX := fun _ => CX0) (sp := fun w => spD (K w.params) wQ) tabs hn (by decide) hdf ⟨rfl, by decide, by decide⟩ hY hA2 F (fun w H a ns hl hT hS => HI hl hT hS) fun _ _ _ _ _ z => z
end K40
open PySem PySem.W PyProof.Rows L2.DL in
set_option maxRecDepth 100000 in
set_option maxHeartbeats 0 in
theorem PySem.Challenge.cw_matefloors_k40_laid_or_not_holds : PySem.Challenge.rw_matefloors_k40_laid_or_not.Holds :=
  holds_law K40.H.ws fun said => holds_open (XP := XL K40.H.V []) (YP := K40.H.HK.says) (d := K40.H.D) (kwd := []) K40.H.left K40.H.HK.of K40.H.HK.keeps (fun s e => xl_of s (Bool.and_eq_true_iff.mp e).1) XL.keeps (by kernel_rfl) (by kernel_rfl) (by kernel_rfl)
    (fun s e => recFacts_of (Bool.and_eq_true_iff.mp e).2) (by kernel_rfl) said (by kernel_rfl) ⟨by kernel_rfl, by kernel_rfl, by kernel_rfl, by kernel_rfl, by kernel_rfl, by kernel_rfl⟩ ⟨[.list []], by kernel_rfl, by kernel_rfl⟩
    (K40.walk (l := PySem.Challenge.rw_matefloors_k40_laid_or_not) (K := K40.H.K) K40.H.tabs (by kernel_rfl) (by kernel_rfl) (fun w h Y => by
      have Y : (K40.H.KF w.params).In h := Y
      refine ⟨B3 Y, fun p hp => ?_, fun p hp => ?_⟩
      · rcases List.mem_cons.mp hp with rfl | hp
        · exact ⟨Y _ _ (K40.H.mn w.params).1, (K40.H.mn w.params).2⟩
        rcases List.mem_cons.mp hp with rfl | hp
        · exact ⟨Y _ _ (K40.H.Gq w.params).1, (K40.H.Gq w.params).2⟩
        exact nomatch hp
      · rcases List.mem_cons.mp hp with rfl | hp
        · obtain ⟨o, e1, e2⟩ := Gv (K40.H.tw w.params); exact zq (B3 Y) e1 e2
        rcases List.mem_cons.mp hp with rfl | hp
        · obtain ⟨o, e1, e2⟩ := Gv (K40.H.Kn w.params); exact zq (B3 Y) e1 e2
        exact nomatch hp) (fun w c o p q e e2 => by
      have h := Lk (K40.H.Nj w.params) e e2
      have h2 := List.mem_map_of_mem (f := fun x : Addr × Str => x.1) h
      exact h2) fun w mg fa h KX G hmg => by
      obtain ⟨h0, h1, h2, h3, h4, h5, h6, h7, h8, h9, h10, h11, h12, h13, h14, h15, h16, h17, h18, h19, h20, h21, h22, h23, h24, h25, h26, h27, h28, h29, h30, h31, h32, h33, h34, h35, h36, h37, h38, h39, h40, h41, h42, h43, h44, h45, h46, h47, h48, h49, h50, h51, h52, h53, h54, h55, h56, h57, h58, h59, h60, h61, h62, h63, h64, h65, h66, h67, h68, h69, h70, h71, h72, h73⟩ := K40.H.facts w.params
      exact K40.all_mk KX G hmg h0 h1 h2 h3 h4 h5 h6 h7 h8 h9 h10 h11 h12 h13 h14 h15 h16 h17 h18 h19 h20 h21 h22 h23 h24 h25 h26 h27 h28 h29 h30 h31 h32 h33 h34 h35 h36 h37 h38 h39 h40 h41 h42 h43 h44 h45 h46 h47 h48 h49 h50 h51 h52 h53 h54 h55 h56 h57 h58 h59 h60 h61 h62 h63 h64 h65 h66 h67 h68 h69 h70 h71 h72.1 h72.2 h73.1 h73.2)
