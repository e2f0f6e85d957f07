import PyProof.Rows.All
import Wide.All
import OpenK.AllK
import Wide.FinOn
import Lean
import PyProof.EqAt
import PyProof.EqKinds
import PyProof.TupleCall
import KE.KLam
import PyProof.ExcBaseAll.ValueError
import PyProof.ExcAttrAll.ValueError
import PyProof.EnumMake
import PyProof.WalksEnum
import PyProof.Rows.SetFrom
import PyProof.SetRoads
import KE.KFind
import PySem.Challenge.RW_matefloors_k35_mixtures
set_option Elab.async false
set_option linter.all false
set_option maxRecDepth 100000
set_option maxHeartbeats 4000000
namespace L2
open PySem PySem.W
def lC : Sem Fin → Bool
  | .choose .. => false
  | .os .. => false
  | _ => true
theorem Kf {den : Code → Sem Fin} {p : Program} {w : World} {os : OsState} {s s' : Shared} {t t' : Thread} (h : lC t.cur = true) (e : step den p ⟨fun _ _ => 0, w.params⟩ s t = .go s' t') :
    step den p w { s with os := os } t = .go { s' with os := os } t' := by
  obtain ⟨heap, gens, drawn, toks, os0⟩ := s
  obtain ⟨cur, code, pos, stack⟩ := t
  cases cur <;> simp only [step, finish, lC] at e h ⊢ <;> (try (cases h; done)) <;> (repeat' split at e) <;> simp_all <;> (try (obtain ⟨rfl, rfl⟩ := e; simp_all)) <;> (try (obtain ⟨h1, h2⟩ := e; subst h1; rfl))
def qV (tb : String → Option Builtin) (p : Program) (P : Params) (n₀ : Nat) (ann : Option Value) : Nat → Shared → Thread → Option Shared
  | 0, _, _ => none
  | n + 1, s, t => match through t with
    | true => some s
    | false => match stepOk n₀ ann t && lC t.cur with
      | false => none
      | true => match step (denote tb) p ⟨fun _ _ => 0, P⟩ s t with
        | .go s' t' => qV tb p P n₀ ann n s' t'
        | .halt _ _ => none
theorem vW {tb : String → Option Builtin} {p : Program} {w : World} {n₀ : Nat} {ann : Option Value} {os : OsState} : ∀ {n : Nat} {s s' : Shared} {t : Thread}, qV tb p w.params n₀ ann n s t = some s' → topRun tb p w n₀ ann n { s with os := os } t = some { s' with os := os }
  | 0, _, _, _, h => by cases h
  | n + 1, s, s', t, h => by
    unfold qV at h
    unfold topRun
    cases ht : through t with
    | true => rw [ht] at h; cases h; rfl
    | false =>
      rw [ht] at h
      cases hk : (stepOk n₀ ann t && lC t.cur) with
      | false => rw [hk] at h; cases h
      | true =>
        rw [hk] at h
        obtain ⟨k1, k2⟩ := Bool.and_eq_true_iff.mp hk
        cases hs : step (denote tb) p ⟨fun _ _ => 0, w.params⟩ s t with
        | halt o s₂ => rw [hs] at h; cases h
        | go s₂ t₂ =>
          rw [hs] at h
          rw [k1, Kf (os := os) k2 hs]
          exact vW h
noncomputable def uq (p : Program) (P : Params) (n₀ : Nat) (ann : Option Value) : Nat → Shared → Thread → Option Shared
  | 0, _, _ => none
  | n + 1, s, t => match through t with
    | true => some s
    | false => match Fast.tw6613529449190102663 n₀ ann t && lC t.cur with
      | false => none
      | true => match Fast.tw8437177126325714943 (Fast.tw11892475500146522536 Fast.tw14364793385576792824) p ⟨fun _ _ => 0, P⟩ s t with
        | .go s' t' => uq p P n₀ ann n s' t'
        | .halt _ _ => none
theorem vS {p : Program} {P : Params} {n₀ : Nat} {ann : Option Value} : ∀ (n : Nat) (s : Shared) (t : Thread), uq p P n₀ ann n s t = qV treeTable p P n₀ ann n s t
  | 0, _, _ => rfl
  | n + 1, s, t => by
    unfold uq qV
    rw [← Fast.te6613529449190102663, ← Fast.te8437177126325714943, ← Fast.te11892475500146522536, ← Fast.te14364793385576792824]
    cases through t with
    | true => rfl
    | false =>
      cases (stepOk n₀ ann t && lC t.cur) with
      | false => rfl
      | true =>
        cases step (denote treeTable) p ⟨fun _ _ => 0, P⟩ s t with
        | halt o s₂ => rfl
        | go s₂ t₂ => exact vS n s₂ t₂
end L2
namespace L2
open PySem
def oi (s : Stmt) : Arguments := match s with
  | .FunctionDef _ a _ _ _ _ _ _ _ _ => a
  | _ => { posonlyargs := [], args := [], vararg := none, kwonlyargs := [], kw_defaults := [], kwarg := none, defaults := [] }
def kc (s : Stmt) : List Stmt := match s with
  | .FunctionDef _ _ b _ _ _ _ _ _ _ => b
  | _ => []
def aC (s : Stmt) : Scope := match s with
  | .FunctionDef _ _ _ _ _ _ sc _ _ _ => sc
  | _ => { kind := .function, names := [], isGenerator := false, isCoroutine := false }
end L2
namespace L2.DL
open PySem
def GR : List Str := ["law", "_law_is_right", "_law_is_put", "_law_are_refused", "_law_is_told", "_law_said", "_law_is_plan_told"]
def d5 (o : Obj) : Option (Addr × Str) := match o.cls, o.data with
  | .type c, .fields vs => if c = "code" then (match vs[1]?, vs[7]?, vs[9]?, vs[10]?, vs[11]?, vs[18]? with
    | some (Value.str q _), some (Value.int _ _), some (Value.bool _), some (Value.int _ _), some (Value.ref P), some (Value.str _ _) => if GR.contains q = true then some (P, q) else none
    | _, _, _, _, _, _ => none) else none
  | _, _ => none
end L2.DL
namespace K35
open PySem L2
def top (i : Nat) : Stmt := PySem.Challenge.pw_matefloors_k35_mixtures.main.body.getD i (.Pass ⟨0, 0, 0, 0⟩)
abbrev ik : Stmt := top 6
abbrev dh : Stmt := top 7
abbrev gC : Stmt := top 8
abbrev dk : Stmt := top 9
abbrev lh : Stmt := top 10
abbrev rY : Stmt := top 11
abbrev sO : Stmt := top 12
abbrev rJ : Stmt := top 13
abbrev oH : Stmt := top 14
abbrev rW : Stmt := top 15
abbrev iE : Stmt := top 16
abbrev jB : Stmt := top 17
abbrev dH : Stmt := top 18
abbrev cQ : Stmt := top 19
abbrev cb : Stmt := top 20
abbrev fI : Stmt := top 22
abbrev gD : Stmt := top 23
abbrev ig : Stmt := top 24
abbrev jz : Stmt := top 25
abbrev rT : Stmt := top 26
abbrev iq : Stmt := top 28
abbrev gx : Stmt := top 29
abbrev dJ : Stmt := top 30
abbrev eQ : Stmt := top 31
abbrev iD : Stmt := top 32
abbrev dj : Stmt := top 33
abbrev gH : Stmt := top 34
abbrev fE : Stmt := top 35
abbrev gB : Stmt := top 36
abbrev fo : Stmt := top 37
abbrev dG : Stmt := top 38
abbrev gy : Stmt := top 39
abbrev fF : Stmt := top 40
abbrev gG : Stmt := top 41
abbrev eP : Stmt := top 42
abbrev fG : Stmt := top 43
abbrev fz : Stmt := top 44
abbrev cq : Stmt := top 45
abbrev fH : Stmt := top 46
abbrev eR : Stmt := top 47
abbrev cx : Stmt := top 48
abbrev fA : Stmt := top 49
abbrev dI : Stmt := top 50
abbrev cT : Stmt := top 51
abbrev ec : Stmt := top 52
abbrev cJ : Stmt := top 53
abbrev d6 : Stmt := top 54
abbrev gE : Stmt := top 55
abbrev cK : Stmt := top 56
abbrev eo : Stmt := top 57
abbrev pJ : Stmt := top 58
abbrev fd (n : Str) (s : Stmt) (tk : Tok) (m : Str) (cd : Addr) : FuncData := PySem.W.fnOf n n (oi s) (kc s) (aC s) .none .none .none (.str m tk) none (.ref cd) .none
abbrev FQ (K : PySem.W.Frag) (n : Str) (s : Stmt) (a cd : Addr) (tk : Tok) (m : Str) : Prop := PySem.W.nsIn K mainGlobals n = some (some (.ref a)) ∧ K.lookup a = some ⟨.type "function", none, .func (fd n s tk m cd), #[]⟩ ∧ PySem.W.codeIn K (.ref cd) n = true ∧ PySem.W.keepIn K (.ref a) = true
end K35
namespace K35.H
open PySem PySem.W PyProof.Rows L2 L2.DL
set_option maxRecDepth 100000
set_option maxHeartbeats 0
abbrev R : OpenLaw := PySem.Challenge.rw_matefloors_k35_mixtures
noncomputable def sT (P : Params) : Option Shared := uq R.row.prog P 11 (some (.ref 6)) 20000 { heap := boot_heap P, gens := #[], drawn := boot_drawn, toks := boot_toks, os := default } (topStub R.row.prog)
noncomputable def hT (P : Params) : Heap := (sT P).elim default (·.heap)
def isNm : Stmt → Bool
  | .Assign [.Name x _] _ _ => x == "__name__"
  | _ => false
def V : Program := { R.row.prog with main := { R.row.prog.main with body := R.row.prog.main.body.filter fun s => !isNm s } }
def as : List Addr := [3, 48, 47, 55, 54, 62, 61, 69, 68, 76, 75, 83, 82, 90, 89, 97, 96, 104, 103, 111, 110, 118, 117, 125, 124, 132, 131, 139, 138, 146, 145, 151, 150, 158, 157, 165, 164, 172, 171, 179, 178, 186, 185, 193, 192, 200, 199, 207, 206, 214, 213, 219, 218, 226, 225, 233, 232, 240, 239, 247, 246, 254, 253, 261, 260, 268, 267, 273, 272, 280, 279, 287, 286, 294, 293, 301, 300, 308, 307, 313, 312, 320, 319, 327, 326, 334, 333, 339, 338, 346, 345, 353, 352, 358, 357, 365, 364, 372, 371, 379, 378, 384, 383, 40, 41]
def tabs : List Addr := [374, 381]
noncomputable def K (P : Params) : Frag := as.map fun a => (a, ((hT P).get? a).getD default)
noncomputable def TF (P : Params) : Frag := tabs.map fun a => (a, ((hT P).get? a).getD default)
noncomputable def KF (P : Params) : Frag := K P ++ TF P
theorem kAs (P : Params) : as ++ tabs = (KF P).map (·.1) := by
  unfold KF K TF
  rw [List.map_append, List.map_map, List.map_map]
  exact congr (congrArg HAppend.hAppend (List.map_id _).symm) (List.map_id _).symm
noncomputable def HK : Hook := kHook KF (as ++ tabs) kAs
def posOf : Stmt → Pos
  | .FunctionDef _ _ _ _ _ _ _ _ _ p => p
  | _ => ⟨0, 0, 0, 0⟩
def D : DefRec := ⟨"law", oi K35.pJ, kc K35.pJ, aC K35.pJ, posOf K35.pJ⟩
def Xt : Shared → Bool := fun s => xlAt V [] s && recOk R.row.records s
theorem runC (P : Params) : (sT P).map (fun s => (s.gens, s.drawn, s.toks)) = some (#[], {}, 715) := by kernel_rfl
theorem run (w : World) (os : OsState) : topRun treeTable R.row.prog w 11 (some (.ref 6)) 20000 { heap := boot_heap w.params, gens := #[], drawn := boot_drawn, toks := boot_toks, os := os } (topStub R.row.prog) = some { heap := hT w.params, gens := #[], drawn := {}, toks := 715, os := os } := by
  have h := runC w.params
  cases e : sT w.params with
  | none => rw [e] at h; cases h
  | some s =>
    rw [e] at h
    obtain ⟨heap, gens, drawn, toks, os0⟩ := s
    have hh : hT w.params = heap := by unfold hT; rw [e]; rfl
    have h' : some (gens, drawn, toks) = some ((#[] : Array GenState), ({} : Drawn), 715) := h
    cases h'
    rw [hh]
    exact vW (w := w) (os := os) ((vS _ _ _).symm.trans e)
theorem LH (w : World) (os : OsState) : (staticsOk (importedModules R.row.prog.main.body) (boot_heap w.params) (hT w.params) && namesBound R.row.prog (hT w.params) && gensDone { heap := hT w.params, gens := #[], drawn := {}, toks := 715, os := os } && laidKept (boot_heap w.params) (hT w.params)) = true := by kernel_rfl
theorem Ll (w : World) (os : OsState) : (openSeen V [] (importedModules R.row.prog.main.body) Xt true { heap := hT w.params, gens := #[], drawn := {}, toks := 715, os := os }).1 = (openGood V []).1 := by kernel_rfl
theorem Ld (w : World) (os : OsState) : (openSeen V [] (importedModules R.row.prog.main.body) Xt true { heap := hT w.params, gens := #[], drawn := {}, toks := 715, os := os }).2.1 = (openGood V []).2.1 := by kernel_rfl
theorem J5 (w : World) (os : OsState) : (openSeen V [] (importedModules R.row.prog.main.body) Xt true { heap := hT w.params, gens := #[], drawn := {}, toks := 715, os := os }).2.2.1 = (openGood V []).2.2.1 := by kernel_rfl
theorem K3 (w : World) (os : OsState) : (openSeen V [] (importedModules R.row.prog.main.body) Xt true { heap := hT w.params, gens := #[], drawn := {}, toks := 715, os := os }).2.2.2.1 = (openGood V []).2.2.2.1 := by kernel_rfl
theorem Ka (w : World) (os : OsState) : (openSeen V [] (importedModules R.row.prog.main.body) Xt true { heap := hT w.params, gens := #[], drawn := {}, toks := 715, os := os }).2.2.2.2.1 = (openGood V []).2.2.2.2.1 := by kernel_rfl
theorem JT (w : World) (os : OsState) : (openSeen V [] (importedModules R.row.prog.main.body) Xt true { heap := hT w.params, gens := #[], drawn := {}, toks := 715, os := os }).2.2.2.2.2.1 = (openGood V []).2.2.2.2.2.1 := by kernel_rfl
theorem JC (w : World) (os : OsState) : (openSeen V [] (importedModules R.row.prog.main.body) Xt true { heap := hT w.params, gens := #[], drawn := {}, toks := 715, os := os }).2.2.2.2.2.2.1 = (openGood V []).2.2.2.2.2.2.1 := by kernel_rfl
theorem K7 (w : World) (os : OsState) : (openSeen V [] (importedModules R.row.prog.main.body) Xt true { heap := hT w.params, gens := #[], drawn := {}, toks := 715, os := os }).2.2.2.2.2.2.2.1 = (openGood V []).2.2.2.2.2.2.2.1 := by kernel_rfl
theorem Lj (w : World) (os : OsState) : (openSeen V [] (importedModules R.row.prog.main.body) Xt true { heap := hT w.params, gens := #[], drawn := {}, toks := 715, os := os }).2.2.2.2.2.2.2.2 = (openGood V []).2.2.2.2.2.2.2.2 := by kernel_rfl
theorem LP (w : World) (os : OsState) : openSeen V [] (importedModules R.row.prog.main.body) Xt true { heap := hT w.params, gens := #[], drawn := {}, toks := 715, os := os } = openGood V [] := Prod.ext (Ll w os) (Prod.ext (Ld w os) (Prod.ext (J5 w os) (Prod.ext (K3 w os) (Prod.ext (Ka w os) (Prod.ext (JT w os) (Prod.ext (JC w os) (Prod.ext (K7 w os) (Lj w os))))))))
theorem L3 (w : World) (os : OsState) : HK.obs { heap := hT w.params, gens := #[], drawn := {}, toks := 715, os := os } = HK.val w := by kernel_rfl
theorem seen (w : World) : (fun os => (staticsOk (importedModules R.row.prog.main.body) (boot_heap w.params) (hT w.params) && namesBound R.row.prog (hT w.params) && gensDone { heap := hT w.params, gens := #[], drawn := {}, toks := 715, os := os } && laidKept (boot_heap w.params) (hT w.params),
    openSeen V [] (importedModules R.row.prog.main.body) Xt true { heap := hT w.params, gens := #[], drawn := {}, toks := 715, os := os }, HK.obs { heap := hT w.params, gens := #[], drawn := {}, toks := 715, os := os })) = fun _ : OsState => (true, openGood V [], HK.val w) :=
  funext fun os => Prod.ext (LH w os) (Prod.ext (LP w os) (L3 w os))
theorem ws : R.wellSaid = true := by kernel_rfl
theorem facts (P : Params) : FQ (K P) "is_whole" ik 48 47 223 "matefloors.numbers" ∧ FQ (K P) "common_divisor" dh 55 54 223 "matefloors.numbers" ∧ FQ (K P) "is_number" gC 62 61 223 "matefloors.numbers" ∧ FQ (K P) "divisor_of_all" dk 69 68 223 "matefloors.numbers" ∧ FQ (K P) "number" lh 76 75 223 "matefloors.numbers" ∧ FQ (K P) "mate" rY 83 82 223 "matefloors.numbers" ∧ FQ (K P) "plus" sO 90 89 223 "matefloors.numbers" ∧ FQ (K P) "less" rJ 97 96 223 "matefloors.numbers" ∧ FQ (K P) "times" oH 104 103 223 "matefloors.numbers" ∧ FQ (K P) "over" rW 111 110 223 "matefloors.numbers" ∧ FQ (K P) "contrary" iE 118 117 223 "matefloors.numbers" ∧ FQ (K P) "sign_of" jB 125 124 223 "matefloors.numbers" ∧ FQ (K P) "sign_of_parts" dH 132 131 223 "matefloors.numbers" ∧ FQ (K P) "is_above_nought" cQ 139 138 223 "matefloors.numbers" ∧ FQ (K P) "must_be_above_nought" cb 146 145 223 "matefloors.numbers" ∧ FQ (K P) "mixture_of" fI 151 150 361 "matefloors.mixtures" ∧ FQ (K P) "shares_of" gD 158 157 361 "matefloors.mixtures" ∧ FQ (K P) "is_share" ig 165 164 361 "matefloors.mixtures" ∧ FQ (K P) "bar_for" jz 172 171 361 "matefloors.mixtures" ∧ FQ (K P) "skew" rT 179 178 361 "matefloors.mixtures" ∧ FQ (K P) "_law_bag" iq 186 185 414 "law_matefloors_k35_mixtures" ∧ FQ (K P) "_law_take" gx 193 192 414 "law_matefloors_k35_mixtures" ∧ FQ (K P) "_law_is_whole" dJ 200 199 414 "law_matefloors_k35_mixtures" ∧ FQ (K P) "_law_shared" eQ 207 206 414 "law_matefloors_k35_mixtures" ∧ FQ (K P) "_law_low" iD 214 213 414 "law_matefloors_k35_mixtures" ∧ FQ (K P) "_law_is_number" dj 219 218 414 "law_matefloors_k35_mixtures" ∧ FQ (K P) "_law_plus" gH 226 225 414 "law_matefloors_k35_mixtures" ∧ FQ (K P) "_law_minus" fE 233 232 414 "law_matefloors_k35_mixtures" ∧ FQ (K P) "_law_mate" gB 240 239 414 "law_matefloors_k35_mixtures" ∧ FQ (K P) "_law_times" fo 247 246 414 "law_matefloors_k35_mixtures" ∧ FQ (K P) "_law_contrary" dG 254 253 414 "law_matefloors_k35_mixtures" ∧ FQ (K P) "_law_sign" gy 261 260 414 "law_matefloors_k35_mixtures" ∧ FQ (K P) "_law_below" fF 268 267 414 "law_matefloors_k35_mixtures" ∧ FQ (K P) "_law_root" gG 273 272 414 "law_matefloors_k35_mixtures" ∧ FQ (K P) "_law_number" eP 280 279 414 "law_matefloors_k35_mixtures" ∧ FQ (K P) "_law_above" fG 287 286 414 "law_matefloors_k35_mixtures" ∧ FQ (K P) "_law_kinds" fz 294 293 414 "law_matefloors_k35_mixtures" ∧ FQ (K P) "_law_is_never_below" cq 301 300 414 "law_matefloors_k35_mixtures" ∧ FQ (K P) "_law_weigh" fH 308 307 414 "law_matefloors_k35_mixtures" ∧ FQ (K P) "_law_is_bar" eR 313 312 414 "law_matefloors_k35_mixtures" ∧ FQ (K P) "_law_lean_fraction" cx 320 319 414 "law_matefloors_k35_mixtures" ∧ FQ (K P) "_law_shape" fA 327 326 414 "law_matefloors_k35_mixtures" ∧ FQ (K P) "_law_fraction" dI 334 333 414 "law_matefloors_k35_mixtures" ∧ FQ (K P) "_law_is_mixture" cT 339 338 414 "law_matefloors_k35_mixtures" ∧ FQ (K P) "_law_is_lone" ec 346 345 414 "law_matefloors_k35_mixtures" ∧ FQ (K P) "_law_is_told_bar" cJ 353 352 414 "law_matefloors_k35_mixtures" ∧ FQ (K P) "_law_is_laid" d6 358 357 414 "law_matefloors_k35_mixtures" ∧ FQ (K P) "_law_wide" gE 365 364 414 "law_matefloors_k35_mixtures" ∧ FQ (K P) "_law_wide_shapes" cK 372 371 414 "law_matefloors_k35_mixtures" ∧ FQ (K P) "_law_is_told" eo 379 378 414 "law_matefloors_k35_mixtures" ∧ FQ (K P) "law" pJ 384 383 414 "law_matefloors_k35_mixtures" ∧ nsIn (K P) mainGlobals "isinstance" = some none ∧ nsIn (K P) mainGlobals "int" = some none ∧ nsIn (K P) mainGlobals "bool" = some none ∧ nsIn (K P) mainGlobals "abs" = some none ∧ nsIn (K P) mainGlobals "tuple" = some none ∧ nsIn (K P) mainGlobals "len" = some none ∧ nsIn (K P) mainGlobals "all" = some none ∧ nsIn (K P) mainGlobals "range" = some none ∧ nsIn (K P) mainGlobals "any" = some none ∧ nsIn (K P) mainGlobals "set" = some none ∧ nsIn (K P) mainGlobals "max" = some none ∧ nsIn (K P) mainGlobals "min" = some none ∧ (nsIn (K P) mainGlobals "NOUGHT" = some (some (.ref 40)) ∧ (K P).lookup 40 = some ⟨.type "tuple", none, .seq #[.int 0 225, .int 0 226, .int 1 227] 0, #[]⟩) ∧ (nsIn (K P) mainGlobals "ONE" = some (some (.ref 41)) ∧ (K P).lookup 41 = some ⟨.type "tuple", none, .seq #[.int 1 229, .int 0 230, .int 1 231] 0, #[]⟩) :=
  ⟨⟨by kernel_rfl, by kernel_rfl, by kernel_rfl, by kernel_rfl⟩, ⟨by kernel_rfl, by kernel_rfl, by kernel_rfl, by kernel_rfl⟩, ⟨by kernel_rfl, by kernel_rfl, by kernel_rfl, by kernel_rfl⟩, ⟨by kernel_rfl, by kernel_rfl, by kernel_rfl, by kernel_rfl⟩, ⟨by kernel_rfl, by kernel_rfl, by kernel_rfl, by kernel_rfl⟩, ⟨by kernel_rfl, by kernel_rfl, by kernel_rfl, by kernel_rfl⟩, ⟨by kernel_rfl, by kernel_rfl, by kernel_rfl, by kernel_rfl⟩, ⟨by kernel_rfl, by kernel_rfl, by kernel_rfl, by kernel_rfl⟩, ⟨by kernel_rfl, by kernel_rfl, by kernel_rfl, by kernel_rfl⟩, ⟨by kernel_rfl, by kernel_rfl, by kernel_rfl, by kernel_rfl⟩, ⟨by kernel_rfl, by kernel_rfl, by kernel_rfl, by kernel_rfl⟩, ⟨by kernel_rfl, by kernel_rfl, by kernel_rfl, by kernel_rfl⟩, ⟨by kernel_rfl, by kernel_rfl, by kernel_rfl, by kernel_rfl⟩, ⟨by kernel_rfl, by kernel_rfl, by kernel_rfl, by kernel_rfl⟩, ⟨by kernel_rfl, by kernel_rfl, by kernel_rfl, by kernel_rfl⟩, ⟨by kernel_rfl, by kernel_rfl, by kernel_rfl, by kernel_rfl⟩, ⟨by kernel_rfl, by kernel_rfl, by kernel_rfl, by kernel_rfl⟩, ⟨by kernel_rfl, by kernel_rfl, by kernel_rfl, by kernel_rfl⟩, ⟨by kernel_rfl, by kernel_rfl, by kernel_rfl, by kernel_rfl⟩, ⟨by kernel_rfl, by kernel_rfl, by kernel_rfl, by kernel_rfl⟩, ⟨by kernel_rfl, by kernel_rfl, by kernel_rfl, by kernel_rfl⟩, ⟨by kernel_rfl, by kernel_rfl, by kernel_rfl, by kernel_rfl⟩, ⟨by kernel_rfl, by kernel_rfl, by kernel_rfl, by kernel_rfl⟩, ⟨by kernel_rfl, by kernel_rfl, by kernel_rfl, by kernel_rfl⟩, ⟨by kernel_rfl, by kernel_rfl, by kernel_rfl, by kernel_rfl⟩, ⟨by kernel_rfl, by kernel_rfl, by kernel_rfl, by kernel_rfl⟩, ⟨by kernel_rfl, by kernel_rfl, by kernel_rfl, by kernel_rfl⟩, ⟨by kernel_rfl, by kernel_rfl, by kernel_rfl, by kernel_rfl⟩, ⟨by kernel_rfl, by kernel_rfl, by kernel_rfl, by kernel_rfl⟩, ⟨by kernel_rfl, by kernel_rfl, by kernel_rfl, by kernel_rfl⟩, ⟨by kernel_rfl, by kernel_rfl, by kernel_rfl, by kernel_rfl⟩, ⟨by kernel_rfl, by kernel_rfl, by kernel_rfl, by kernel_rfl⟩, ⟨by kernel_rfl, by kernel_rfl, by kernel_rfl, by kernel_rfl⟩, ⟨by kernel_rfl, by kernel_rfl, by kernel_rfl, by kernel_rfl⟩, ⟨by kernel_rfl, by kernel_rfl, by kernel_rfl, by kernel_rfl⟩, ⟨by kernel_rfl, by kernel_rfl, by kernel_rfl, by kernel_rfl⟩, ⟨by kernel_rfl, by kernel_rfl, by kernel_rfl, by kernel_rfl⟩, ⟨by kernel_rfl, by kernel_rfl, by kernel_rfl, by kernel_rfl⟩, ⟨by kernel_rfl, by kernel_rfl, by kernel_rfl, by kernel_rfl⟩, ⟨by kernel_rfl, by kernel_rfl, by kernel_rfl, by kernel_rfl⟩, ⟨by kernel_rfl, by kernel_rfl, by kernel_rfl, by kernel_rfl⟩, ⟨by kernel_rfl, by kernel_rfl, by kernel_rfl, by kernel_rfl⟩, ⟨by kernel_rfl, by kernel_rfl, by kernel_rfl, by kernel_rfl⟩, ⟨by kernel_rfl, by kernel_rfl, by kernel_rfl, by kernel_rfl⟩, ⟨by kernel_rfl, by kernel_rfl, by kernel_rfl, by kernel_rfl⟩, ⟨by kernel_rfl, by kernel_rfl, by kernel_rfl, by kernel_rfl⟩, ⟨by kernel_rfl, by kernel_rfl, by kernel_rfl, by kernel_rfl⟩, ⟨by kernel_rfl, by kernel_rfl, by kernel_rfl, by kernel_rfl⟩, ⟨by kernel_rfl, by kernel_rfl, by kernel_rfl, by kernel_rfl⟩, ⟨by kernel_rfl, by kernel_rfl, by kernel_rfl, by kernel_rfl⟩, ⟨by kernel_rfl, by kernel_rfl, by kernel_rfl, by kernel_rfl⟩, by kernel_rfl, by kernel_rfl, by kernel_rfl, by kernel_rfl, by kernel_rfl, by kernel_rfl, by kernel_rfl, by kernel_rfl, by kernel_rfl, by kernel_rfl, by kernel_rfl, by kernel_rfl, ⟨by kernel_rfl, by kernel_rfl⟩, ⟨by kernel_rfl, by kernel_rfl⟩⟩
theorem B0 (P : Params) : ((K P).filterMap fun p => d5 p.2) = [(374, ("_law_is_told" : Str)), (381, ("law" : Str))] ∧ ((K P).lookup 378).bind d5 = some (374, ("_law_is_told" : Str)) ∧ ((K P).lookup 383).bind d5 = some (381, ("law" : Str)) ∧ (KF P).lookup 374 = some (tabObj #[]) ∧ (KF P).lookup 381 = some (tabObj #[]) ∧ (K P).lookup 374 = none ∧ (K P).lookup 381 = none := ⟨by kernel_rfl, by kernel_rfl, by kernel_rfl, by kernel_rfl, by kernel_rfl, by kernel_rfl, by kernel_rfl⟩
theorem K1 (P : Params) : ((K P).filterMap fun p => d5 p.2) = [(374, ("_law_is_told" : Str)), (381, ("law" : Str))] := (B0 P).1
theorem rF (P : Params) : ((K P).lookup 378).bind d5 = some (374, ("_law_is_told" : Str)) := (B0 P).2.1
theorem Dx {q2 : Str} (h : ((374 : Addr), q2) ∈ ([(374, ("_law_is_told" : Str)), (381, ("law" : Str))] : List (Addr × Str))) : q2 = "_law_is_told" := by simpa using h
theorem FE (P : Params) : ((K P).lookup 383).bind d5 = some (381, ("law" : Str)) := (B0 P).2.2.1
theorem LJ {q2 : Str} (h : ((381 : Addr), q2) ∈ ([(374, ("_law_is_told" : Str)), (381, ("law" : Str))] : List (Addr × Str))) : q2 = "law" := by simpa using h
theorem lA (P : Params) : (KF P).lookup 374 = some (tabObj #[]) ∧ (K P).lookup 374 = none := ⟨(B0 P).2.2.2.1, (B0 P).2.2.2.2.2.1⟩
theorem C1 (P : Params) : (KF P).lookup 381 = some (tabObj #[]) ∧ (K P).lookup 381 = none := ⟨(B0 P).2.2.2.2.1, (B0 P).2.2.2.2.2.2⟩
theorem left : LeftO R.row.prog V [] Xt HK.obs HK.val 20000 :=
  LeftO.of_pieces (H₀ := boot_heap) (H₁ := hT) (gs₀ := #[]) (gs₁ := #[]) (d₀ := boot_drawn) (d₁ := {}) (k₀ := boot_toks) (k₁ := 715) (m₀ := 11) (ann := some (.ref 6)) (M := 20000)
    (boot_open (by kernel_rfl) (by kernel_rfl) (fun s => by kernel_rfl)) (fun w => by kernel_rfl) run (by kernel_rfl) seen
end K35.H
set_option Elab.async false
set_option linter.all false
set_option maxRecDepth 100000
namespace L2
open PySem PySem.Spec PyProof.Rows
def iH (A : Around) (h : Heap) : Prop := A.handled = none ∨ ∃ (e : Addr) (oe : Obj) (vs : Array Value), A.handled = some (.ref e) ∧ h.get? e = some oe ∧ oe.data = .fields vs ∧ vs[2]? = some .none
theorem wZ : entryFor table "proto.unchain" = some Builtin.«proto.unchain» := entryFor_of_tree (by kernel_rfl)
section
variable {prog : Program} {w : World} {A : Around} {E : Value → Shared → Prop} {s : Shared}
theorem yj {x e : Addr} {oe : Obj} {vs : Array Value} {Q : Value → Shared → Prop} (he : s.heap.get? e = some oe) (hd : oe.data = .fields vs) (h2 : vs[2]? = some .none) (h : Q .none s) :
    wpAny (model prog w) A (runValue (.builtin "proto.unchain" ⟨[.ref x, .ref e, .ref e, .bool false], []⟩)) Q E s := by
  refine wpAny_runValue (codeAny_builtin wZ ?_)
  unfold Builtin.«proto.unchain»
  dsimp only
  refine wpAny_bind (wpAny_field he hd h2 ?_)
  rw [if_pos (by rfl)]
  exact wpAny_pure h
theorem vo {α : Type} {a : Addr} {oa : Obj} {ws : Array Value} {Q : α → Shared → Prop} (q : iH A s.heap) (ha : s.heap.get? a = some oa) (hda : oa.data = .fields ws) (hz : 2 < ws.size)
    (hnew : ∀ e oe, A.handled = some (.ref e) → s.heap.get? e = some oe → e ≠ a)
    (h : ∀ h', Heap.ExtBut a s.heap h' → (∃ o', h'.get? a = some o' ∧ o'.cls = oa.cls) → E (.ref a) { s with heap := h' }) : wpAny (model prog w) A (raiseNew (.ref a) : Sem α) Q E s := by
  unfold raiseNew
  refine wpAny_bind (wpAny_handled ?_)
  rcases q with q | ⟨e, oe, vs, q, he, hd, h2⟩
  · rw [q]
    exact wpAny_bind (wpAny_pure (wpAny_throw (h s.heap (fun b o _ z => z) ⟨oa, ha, rfl⟩)))
  · rw [q]
    have ne : e ≠ a := hnew e oe q he
    dsimp only
    rw [if_pos (by simp [ne])]
    refine wpAny_bind (wpAny_holding (yj he hd h2 ?_))
    refine wpAny_bind ?_
    refine wpAny_setField ha hda hz (wpAny_throw ?_)
    have hd' := Obj.data_mapFields hda (·.setIfInBounds 2 (Value.ref e))
    exact h _ (Heap.SameBut.update ..).extBut ⟨_, Heap.get?_update_self _ ha (Obj.isFreed_of_fields hd'), Obj.cls_mapFields ..⟩
theorem vn {it : Addr} {α : Type} {h0 : Heap} {Q : α → Shared → Prop} (q : iH A s.heap) (k : Heap.ExtBut it h0 s.heap) (kl : ∀ e oe, A.handled = some (.ref e) → s.heap.get? e = some oe → True)
    (h : ∀ h' a, Heap.ExtBut it h0 h' → (∃ o', h'.get? a = some o' ∧ o'.cls = .type "StopIteration") → E (.ref a) { s with heap := h' }) : wpAny (model prog w) A (newExc (.type "StopIteration") [] >>= fun e => (raiseNew e : Sem α)) Q E s := by
  refine wpAny_bind ?_; simp only [newExc, newTuple]
  refine wpAny_bind (wpAny_newObj_type ?_ (by size_fits)); refine wpAny_bind (m := firstArgMember _ _) (wpAny_of_eq (a := Value.none) (by first | rfl | (simp only [firstArgMember]; rfl)) ?_); refine wpAny_newObj_type ?_ (by size_fits)
  have q' : ∀ o1 o2 : Obj, iH A ((s.heap.push o1).push o2) := fun o1 o2 => by
    rcases q with q | ⟨e, oe, vs, q, he, r⟩
    · exact .inl q
    · exact .inr ⟨e, oe, vs, q, Heap.get?_push_of_some _ (Heap.get?_push_of_some _ he), r⟩
  refine vo (q' _ _) (Heap.get?_push_size _ rfl) rfl (by rw [Array.size_append]; exact Nat.lt_of_lt_of_le (by decide : 2 < 6) (Nat.le_add_right _ _)) (fun e oe hq he z => ?_) fun h' hx ⟨o', ho', hc'⟩ => h h' _ (fun b o hb e => hx b o ?_ (Heap.get?_push_of_some _ (Heap.get?_push_of_some _ (k b o hb e)))) ⟨o', ho', hc'⟩
  · rcases q with q | ⟨e1, oe1, vs, q, he1, r⟩
    · rw [q] at hq; cases hq
    · rw [q] at hq; cases hq
      exact absurd (Heap.lt_size he1) (by rw [z]; simp)
  · exact Nat.ne_of_lt (Nat.lt_of_lt_of_le (Heap.lt_size (k b o hb e)) (by simp))
theorem qI {it : Addr} {o : Obj} {ws : Array Value} {f : Array Value → Array Value} (q : iH A s.heap) (ho : s.heap.get? it = some o) (hd : o.data = .fields ws) (hn : ∀ e, A.handled = some (.ref e) → e ≠ it) : iH A (s.heap.update it (Obj.mapFields f)) := by
  rcases q with q | ⟨e, oe, vs, q, he, r⟩
  · exact .inl q
  · exact .inr ⟨e, oe, vs, q, by rw [Heap.get?_update_other _ _ (Ne.symm (hn e q))]; exact he, r⟩
theorem wj {it l : Addr} {i : Nat} {items} {Q : Option Value → Shared → Prop} (q : iH A s.heap) (hn : ∀ e, A.handled = some (.ref e) → e ≠ it) (hit : s.heap.IsListIter it l i) (hl : s.heap.IsList l items) (hx : items[i]? = none)
    (hQ : ∀ h', Heap.ExtBut it s.heap h' → Q none { s with heap := h' }) : wpAny (model prog w) A (pyNext (.ref it)) Q E s := by
  obtain ⟨o, ho, hc, hd⟩ := id hit
  obtain ⟨ol, hol, _, nl, hdl⟩ := hl; unfold pyNext
  refine wpAny_bind (wpAny_attempt (wpAny_callSpecial?_slot (name := Str.ofString "__next__") hit.typeIs slot_listiter_next (wpAny_call_entry slot_listiter_next hit.typeIs entry_listiter_next ?_ (args_listiter_next _))))
  show wpAny _ _ (field (.ref it) 0 >>= _) _ _ s; refine wpAny_bind (wpAny_field ho hd (x := .ref l) rfl ?_)
  show wpAny _ _ (if (Value.ref l == Value.none) = true then _ else _) _ _ s; rw [if_neg (show ¬ ((Value.ref l == Value.none) = true) from Bool.false_ne_true)]
  show wpAny _ _ (field (.ref it) 1 >>= _) _ _ s; refine wpAny_bind (wpAny_field ho hd (x := .int i 0) rfl ?_)
  show wpAny _ _ (seqItems? (.ref l) >>= _) _ _ s; refine wpAny_bind (wpAny_seqItems hol hdl ?_); simp only [Int.toNat_natCast, hx]
  refine wpAny_bind (wpAny_rule (wpAny_bind (wpAny_setField ho hd (by simp) ?_)))
  refine vn (it := it) (h0 := s.heap) (A := A.in1) (qI (A := A.in1) q ho hd hn) (Heap.SameBut.update ..).extBut (fun _ _ _ _ => trivial) fun h' a hx' ⟨o', ho', hc'⟩ => ?_
  refine wpAny_bind (wpAny_isInstance (T := "StopIteration") (b := true) ⟨_, ho', hc'⟩ isSubtype_stop ?_); exact wpAny_pure (hQ _ hx')
theorem rj {it t : Addr} {i : Nat} {items} {Q : Option Value → Shared → Prop} (q : iH A s.heap) (hn : ∀ e, A.handled = some (.ref e) → e ≠ it) (hit : IsTupIter s.heap it t i) (ht : IsTup s.heap t items) (hx : items[i]? = none)
    (hQ : ∀ h', Heap.ExtBut it s.heap h' → Q none { s with heap := h' }) : wpAny (model prog w) A (pyNext (.ref it)) Q E s := by
  obtain ⟨o, ho, hc, hd⟩ := id hit
  obtain ⟨ol, hol, _, nl, hdl⟩ := ht; unfold pyNext
  refine wpAny_bind (wpAny_attempt (wpAny_callSpecial?_slot (name := Str.ofString "__next__") hit.typeIs slot_tupleiter_next (wpAny_call_entry slot_tupleiter_next hit.typeIs entry_tupleiter_next ?_ (args_tupleiter_next _))))
  show wpAny _ _ (field (.ref it) 0 >>= _) _ _ s; refine wpAny_bind (wpAny_field ho hd (x := .ref t) rfl ?_)
  show wpAny _ _ (if (Value.ref t == Value.none) = true then _ else _) _ _ s; rw [if_neg (show ¬ ((Value.ref t == Value.none) = true) from Bool.false_ne_true)]
  show wpAny _ _ (field (.ref it) 1 >>= _) _ _ s; refine wpAny_bind (wpAny_field ho hd (x := .int i 0) rfl ?_)
  show wpAny _ _ (seqItems? (.ref t) >>= _) _ _ s; refine wpAny_bind (wpAny_seqItems hol hdl ?_); simp only [Int.toNat_natCast, hx]
  refine wpAny_bind (wpAny_rule (wpAny_bind (wpAny_setField ho hd (by simp) ?_)))
  refine vn (it := it) (h0 := s.heap) (A := A.in1) (qI (A := A.in1) q ho hd hn) (Heap.SameBut.update ..).extBut (fun _ _ _ _ => trivial) fun h' a hx' ⟨o', ho', hc'⟩ => ?_
  refine wpAny_bind (wpAny_isInstance (T := "StopIteration") (b := true) ⟨_, ho', hc'⟩ isSubtype_stop ?_); exact wpAny_pure (hQ _ hx')
theorem wY {env : Env} {elts : List Expr} {x1} {pos : Pos} {t : Addr} {items : Array Value} {Q : Unit → Shared → Prop} (q : iH A s.heap) (ht : IsTup s.heap t items) (hn : (assignEach elts env).length = items.size)
    (hstar : (assignEach elts env).findIdx? (·.1) = none) (h : ∀ h', Heap.ExtBut s.heap.objs.size s.heap h' → wpAny (model prog w) A (assignInOrder ((assignEach elts env).map (·.2)) items.toList) Q E { s with heap := h' }) :
    wpAny (model prog w) A (assign (.Tuple elts x1 pos) env (.ref t)) Q E s := by
  rw [assign_Tuple]
  refine wpAny_bind (wpAny_standAt ?_)
  unfold unpack; rw [hn, hstar]
  refine wpAny_bind (wpAny_holding ?_)
  have hlt : t ≠ s.heap.objs.size := by obtain ⟨o, ho, _⟩ := ht; exact Nat.ne_of_lt (Heap.lt_size ho)
  unfold unpackItems; refine wpAny_bind ?_
  unfold notIterableAtAll; refine wpAny_bind (wpAny_specialOf ht.typeIs slot_tuple_iter.lookup ?_); refine wpAny_pure ?_; simp only [Bool.false_eq_true, if_false]
  refine wpAny_bind (wpAny_holding (iter_tuple ht ?_))
  refine wpAny_bind (wpAny_holding (draw_tuple hlt items.size 0 _ _ ⟨_, Heap.get?_push_size _ rfl, rfl, rfl⟩ (ht.push _) (by omega) fun h₁ hit₁ hs₁ => ?_))
  rw [show List.take items.size (List.drop 0 items.toList) = items.toList from by rw [List.drop_zero]; exact List.take_of_length_le (by simp), if_neg (by simp)]
  have fr : ∀ e, A.handled = some (.ref e) → e ≠ s.heap.objs.size := fun e hq => by
    rcases q with q | ⟨e1, oe1, vs, q, he1, r⟩
    · rw [q] at hq; cases hq
    · rw [q] at hq; cases hq; exact Nat.ne_of_lt (Heap.lt_size he1)
  have q1 : iH A h₁ := by
    rcases q with q | ⟨e, oe, vs, q, he, r⟩
    · exact .inl q
    · exact .inr ⟨e, oe, vs, q, hs₁.extBut e oe (fr e q) (Heap.get?_push_of_some _ he), r⟩
  refine wpAny_bind (wpAny_holding (rj q1 fr hit₁ ((ht.push _).extBut hs₁.extBut hlt) (by simp) fun h₂ he₂ => ?_)); simp only [Option.isSome_none, Bool.false_eq_true, if_false]
  exact wpAny_pure (h h₂ fun b o hb e => he₂ b o hb (hs₁.extBut b o hb (Heap.get?_push_of_some _ e)))
end
end L2
set_option Elab.async false
set_option linter.all false
set_option maxRecDepth 100000
namespace L2
open PySem PySem.Spec PyProof.Rows
abbrev Key := Sum Int Str
def IL : Key → Value → Bool
  | .inl k, v => Value.isInt k v
  | .inr x, v => Value.isStrOf x v
def ME (w : World) : Key → Int
  | .inl k => hashInt k
  | .inr x => hashStr w x
theorem dU : ∀ {k : Key} {v : Value}, IL k v = true → (∃ i t, k = Sum.inl i ∧ v = Value.int i t) ∨ (∃ x t, k = Sum.inr x ∧ v = Value.str x t)
  | .inl i, v, h => by
    obtain ⟨t, e⟩ := Value.isInt_shape (k := i) (v := v) h
    exact .inl ⟨i, t, rfl, e⟩
  | .inr x, v, h => by
    obtain ⟨t, e⟩ := Value.isStrOf_shape (x := x) (v := v) h
    exact .inr ⟨x, t, rfl, e⟩
theorem Kk (a b : Int) : decide ((Sum.inl a : Key) = Sum.inl b) = (a == b) := by
  by_cases e : a = b
  · subst e; simp
  · have h : ¬ (Sum.inl a : Key) = Sum.inl b := fun q => e (Sum.inl.inj q)
    rw [decide_eq_false h]
    exact (beq_eq_false_iff_ne.mpr e).symm
theorem KL (a b : Str) : decide ((Sum.inr a : Key) = Sum.inr b) = decide (a = b) := by
  by_cases e : a = b
  · subst e; simp
  · have h : ¬ (Sum.inr a : Key) = Sum.inr b := fun q => e (Sum.inr.inj q)
    rw [decide_eq_false h, decide_eq_false e]
theorem Kd (a : Int) (b : Str) : decide ((Sum.inl a : Key) = Sum.inr b) = false := decide_eq_false (fun q => nomatch q)
theorem Lc (a : Str) (b : Int) : decide ((Sum.inr a : Key) = Sum.inl b) = false := decide_eq_false (fun q => nomatch q)
def Dh (prog : Program) (w : World) : PySem.KeyKind prog w Key where
  is := IL
  hash := ME w
  inj := fun v a b ha hb => by
    rcases dU ha with ⟨i, t, rfl, rfl⟩ | ⟨x, t, rfl, rfl⟩
    · rcases dU hb with ⟨j, u, rfl, e⟩ | ⟨y, u, rfl, e⟩
      · injection e with e1 _; rw [e1]
      · exact nomatch e
    · rcases dU hb with ⟨j, u, rfl, e⟩ | ⟨y, u, rfl, e⟩
      · exact nomatch e
      · injection e with e1 _; rw [e1]
  byValue := fun k v h => by
    rcases dU h with ⟨i, t, rfl, rfl⟩ | ⟨x, t, rfl, rfl⟩ <;> rfl
  pyHash := fun hv h => by
    rcases dU hv with ⟨i, t, rfl, rfl⟩ | ⟨x, t, rfl, rfl⟩
    · exact wpAny_pyHash_int h
    · exact wpAny_pyHash_str h
  eqBool := fun hu hv h => by
    rcases dU hu with ⟨i, t, rfl, rfl⟩ | ⟨x, t, rfl, rfl⟩
    · rcases dU hv with ⟨j, u, rfl, rfl⟩ | ⟨y, u, rfl, rfl⟩
      · rw [Kk] at h; exact wpAny_eqBool_int h
      · rw [Kd] at h; exact SeqAt.EqAt.int_str i t y u _ _ _ _ h
    · rcases dU hv with ⟨j, u, rfl, rfl⟩ | ⟨y, u, rfl, rfl⟩
      · rw [Lc] at h; exact SeqAt.EqAt.str_int x t j u _ _ _ _ h
      · rw [KL] at h; exact wpAny_eqBool_str h
  «strs» := fun k x t v h => by
    rcases dU h with ⟨i, u, rfl, e⟩ | ⟨y, u, rfl, e⟩
    · exact nomatch e
    · injection e with e1 _
      subst e1
      cases v <;> rfl
end L2
namespace L2
open PySem PySem.Spec PyProof.Rows
inductive V where
  | non | bl (b : Bool) | int (i : Int) | str (x : Str) | byt (b : Array UInt8) | flt (b : UInt64) | ref (a : Addr) | ty (n : String)
  deriving DecidableEq
def RelV : V → Value → Prop
  | .non, u => u = Value.none
  | .bl b, u => u = Value.bool b
  | .int i, u => ∃ t, u = Value.int i t
  | .str x, u => ∃ t, u = Value.str x t
  | .byt b, u => ∃ t, u = Value.bytes b t
  | .flt b, u => ∃ t, u = Value.float b t
  | .ref a, u => u = Value.ref a
  | .ty n, u => u = Value.type n
abbrev Vals : List V → List Value → Prop := Paired RelV
theorem Vals.length {xs : List V} {us : List Value} (r : Vals xs us) : xs.length = us.length := Paired.length r
theorem Vals.get : ∀ {xs : List V} {us : List Value} {i : Nat} {x : V}, Vals xs us → xs[i]? = some x → ∃ u, us[i]? = some u ∧ RelV x u
  | _, _, _, _, .nil, e => by simp at e
  | _, _, 0, _, .cons r _, e => by simp at e; subst e; exact ⟨_, rfl, r⟩
  | _, _, i + 1, x, .cons _ t, e => by
    obtain ⟨u, h1, h2⟩ := Vals.get (i := i) (x := x) t (by simpa using e)
    exact ⟨u, by simpa using h1, h2⟩
theorem Vals.set {x : V} {u : Value} (r : RelV x u) : ∀ {xs : List V} {us : List Value} (i : Nat), Vals xs us → Vals (xs.set i x) (us.set i u)
  | _, _, _, .nil => .nil
  | _, _, 0, .cons _ t => .cons r t
  | _, _, i + 1, .cons q t => .cons q (Vals.set r i t)
theorem Vals.append : ∀ {xs ys : List V} {us ws : List Value}, Vals xs us → Vals ys ws → Vals (xs ++ ys) (us ++ ws)
  | _, _, _, _, .nil, s => s
  | _, _, _, _, .cons r t, s => .cons r (Vals.append t s)
theorem Vals.take : ∀ {xs : List V} {us : List Value} (n : Nat), Vals xs us → Vals (xs.take n) (us.take n)
  | _, _, 0, _ => .nil
  | _, _, _ + 1, .nil => .nil
  | _, _, n + 1, .cons r t => .cons r (Vals.take n t)
theorem Vals.drop : ∀ {xs : List V} {us : List Value} (n : Nat), Vals xs us → Vals (xs.drop n) (us.drop n)
  | _, _, 0, r => r
  | _, _, _ + 1, .nil => .nil
  | _, _, n + 1, .cons _ t => Vals.drop n t
def Me : Option V → Option Value → Prop
  | some v, some u => RelV v u
  | none, none => True
  | _, _ => False
def KV {κ : Type} : List (κ × V) → List (κ × Value) → Prop := Paired fun (p : κ × V) (q : κ × Value) => p.1 = q.1 ∧ RelV p.2 q.2
def kV : Key → V
  | .inl i => .int i
  | .inr x => .str x
inductive HO where
  /-- a list -/
  | lst (xs : List V)
  /-- a tuple (never changes) -/
  | tup (xs : List V)
  /-- a dict whose keys are ints and texts; one whose keys are tuples of ints and texts (the empty one is both) -/
  | dK (kvs : List (Key × V)) | dT (kvs : List (List Key × V))
  /-- a set of ints: its members, its size -/
  | set (S : Int → Bool) (n : Nat)
  /-- an instance of the class at C, its dict at dx, its attributes -/
  | ins (C dx : Addr) (fs : List (Str × V))
  /-- the dict of the instance at x -/
  | own (x : Addr)
  /-- the dict of an exception -/
  | xd (fs : List (Str × V))
  /-- a bound method, f of x -/
  | met (f x : Addr)
  /-- a range object lo, lo + 1, .. below hi -/
  | rng (lo hi : Int)
  /-- a thing that is known to the object (the script; a dict while a loop walks it): read, never written while it is so -/
  | frz (o : Obj) (u : HO)
  /-- a code object's table -/
  | tbl (ps : Array Value)
  /-- any other thing, by what is true of its one object (a def of one's own: SetO a S n := HO.ext fun h => ..) -/
  | ext (φ : Heap → Prop)
abbrev Hp := Addr → Option HO
def upd (H : Hp) (a : Addr) (o : HO) : Hp := fun b => if b = a then some o else H b
theorem iV {H : Hp} {a : Addr} {o : HO} : upd H a o a = some o := by unfold upd; rw [if_pos rfl]
theorem cD {H : Hp} {a b : Addr} {o : HO} (h : b ≠ a) : upd H a o b = H b := by unfold upd; rw [if_neg h]
theorem dy {H : Hp} {a b : Addr} {o : HO} (h : H a = some o) (h' : H b = none) : a ≠ b := by
  intro e; subst e; rw [h] at h'; cases h'
section
variable (P : Program) (w : World)
def k6 (H : Hp) (h : Heap) (a : Addr) : HO → Prop
  | .lst xs => xs.length ≤ sizeLine ∧ ∃ (its : List Value) (n : Nat), Vals xs its ∧ h.get? a = some { cls := .type "list", data := .seq its.toArray n }
  | .tup xs => xs.length ≤ sizeLine ∧ ∃ its : List Value, Vals xs its ∧ IsTup h a its.toArray
  | .dK kvs => kvs.length ≤ sizeLine ∧ (a == sysModules) = false ∧ ∃ vs, KV kvs vs ∧ h.DictOf (Dh P w) a vs
  | .dT kvs => kvs.length ≤ sizeLine ∧ (a == sysModules) = false ∧ ∃ xs : List (List Key × Addr × Value),
      Paired (fun (p : List Key × V) (q : List Key × Addr × Value) => p.1 = q.1 ∧ H q.2.1 = some (.tup (p.1.map kV)) ∧ RelV p.2 q.2.2) kvs xs ∧
      ∃ o es ep, h.get? a = some o ∧ o.ExactDict ∧ o.data = .dict es ep ∧ es.toList = xs.map (entryOfKey (tupleKind (Dh P w))) ∧ (xs.map (·.1)).Nodup
  | .set S n => h.SetOf (intKind P w) a S n
  | .ins C dx fs => H dx = some (.own a) ∧ fs.length ≤ 1000 ∧ dx ≠ a ∧ h.get? a = some (PySem.W.instObj C dx) ∧
      ∃ mA, h.Ns1 dx mA ∧ (∀ f, Me (fs.lookup f) (mA f)) ∧ PySem.Within mA (fs.map (·.1))
  | .own _ => ∃ o, h.get? a = some o
  | .xd fs => ∃ mA, h.Ns1 a mA ∧ ∀ f, Me (fs.lookup f) (mA f)
  | .rng lo hi => ∃ t u v, h.get? a = some { cls := .type "range", data := .fields #[.int lo t, .int hi u, .int 1 v] }
  | .frz o u => h.get? a = some o ∧ k6 H h a u
  | .tbl ps => h.get? a = some { cls := .none, data := .fields ps }
  | .met f x => h.get? a = some (PySem.W.methodObj (.ref f) (.ref x))
  | .ext φ => φ h ∧ (∃ o, h.get? a = some o) ∧ ∀ h1 h2 : Heap, φ h1 → (∀ o, h1.get? a = some o → h2.get? a = some o) → φ h2
def HOk (H : Hp) (h : Heap) : Prop := ∀ a o, H a = some o → k6 P w H h a o
end
section
variable {P : Program} {w : World} {H H' : Hp} {h h' : Heap} {a : Addr} {o : HO}
theorem k6.lt (x : k6 P w H h a o) : a < h.objs.size := by
  cases o with
  | lst xs => obtain ⟨_, _, _, _, e⟩ := x; exact Heap.lt_size e
  | tup xs => obtain ⟨_, _, _, p⟩ := x; exact p.lt
  | dK kvs => obtain ⟨_, _, _, _, o, _, _, e, _⟩ := x; exact Heap.lt_size e
  | dT kvs => obtain ⟨_, _, _, _, o, _, _, e, _⟩ := x; exact Heap.lt_size e
  | set S n => obtain ⟨o, _, _, _, e, _⟩ := x; exact Heap.lt_size e
  | ins C dx fs => obtain ⟨_, _, _, e, _⟩ := x; exact Heap.lt_size e
  | own y => obtain ⟨_, e⟩ := x; exact Heap.lt_size e
  | xd fs => obtain ⟨_, ⟨_, _, _, e, _⟩, _⟩ := x; exact Heap.lt_size e
  | rng lo hi => obtain ⟨_, _, _, e⟩ := x; exact Heap.lt_size e
  | frz ob u => obtain ⟨e, _⟩ := x; exact Heap.lt_size e
  | tbl ps => exact Heap.lt_size (show h.get? a = some _ from x)
  | met f y => exact Heap.lt_size (show h.get? a = some _ from x)
  | ext φ => obtain ⟨_, ⟨_, e⟩, _⟩ := x; exact Heap.lt_size e
theorem Paired.LV {α β : Type} {F G : α → β → Prop} : ∀ {l₁ : List α} {l₂ : List β}, Paired F l₁ l₂ → (∀ a b, F a b → G a b) → Paired G l₁ l₂
  | _, _, .nil, _ => .nil
  | _, _, .cons r t, f => .cons (f _ _ r) (Paired.LV t f)
theorem k6.zg (x : k6 P w H h a o) (k : ∀ b u, (b = a ∨ H b = some (.own a)) → h.get? b = some u → h'.get? b = some u)
    (ho : ∀ b, H b = some (.own a) → H' b = some (.own a)) (ht : ∀ b xs, H b = some (.tup xs) → H' b = some (.tup xs)) : k6 P w H' h' a o := by
  induction o with
  | lst xs => obtain ⟨z, its, n, r, e⟩ := x; exact ⟨z, its, n, r, k _ _ (.inl rfl) e⟩
  | tup xs => obtain ⟨z, its, r, ob, e, c⟩ := x; exact ⟨z, its, r, ob, k _ _ (.inl rfl) e, c⟩
  | dK kvs => obtain ⟨z, y, vs, r, ob, es, ep, e, c⟩ := x; exact ⟨z, y, vs, r, ob, es, ep, k _ _ (.inl rfl) e, c⟩
  | dT kvs =>
    obtain ⟨z, y, xs, r, ob, es, ep, e, c⟩ := x
    exact ⟨z, y, xs, Paired.LV r fun p q z => ⟨z.1, ht _ _ z.2.1, z.2.2⟩, ob, es, ep, k _ _ (.inl rfl) e, c⟩
  | set S n => obtain ⟨ob, es, ep, t, e, c⟩ := x; exact ⟨ob, es, ep, t, k _ _ (.inl rfl) e, c⟩
  | ins C dx fs =>
    obtain ⟨d, z, ne, e, mA, ⟨od, es, ep, e2, c⟩, r⟩ := x
    exact ⟨ho _ d, z, ne, k _ _ (.inl rfl) e, mA, ⟨od, es, ep, k _ _ (.inr d) e2, c⟩, r⟩
  | own y => obtain ⟨ob, e⟩ := x; exact ⟨ob, k _ _ (.inl rfl) e⟩
  | xd fs => obtain ⟨mA, ⟨od, es, ep, e, c⟩, r⟩ := x; exact ⟨mA, ⟨od, es, ep, k _ _ (.inl rfl) e, c⟩, r⟩
  | rng lo hi => obtain ⟨t, u, v, e⟩ := x; exact ⟨t, u, v, k _ _ (.inl rfl) e⟩
  | frz ob u ih => obtain ⟨e, q⟩ := x; exact ⟨k _ _ (.inl rfl) e, ih q⟩
  | tbl ps =>
    have e : h.get? a = some { cls := .none, data := .fields ps } := x
    show h'.get? a = some { cls := .none, data := .fields ps }
    exact k a _ (.inl rfl) e
  | met f y =>
    have e : h.get? a = some (PySem.W.methodObj (.ref f) (.ref y)) := x
    show h'.get? a = some (PySem.W.methodObj (.ref f) (.ref y))
    exact k a _ (.inl rfl) e
  | ext φ => obtain ⟨p, ⟨o, e⟩, st⟩ := x; exact ⟨st _ _ p fun o q => k _ _ (.inl rfl) q, ⟨o, k _ _ (.inl rfl) e⟩, st⟩
theorem HOk.lt (x : HOk P w H h) (e : H a = some o) : a < h.objs.size := (x a o e).lt
theorem HOk.fresh (x : HOk P w H h) (e : h.objs.size ≤ a) : H a = none := by
  cases q : H a with
  | none => rfl
  | some u => exact absurd (Nat.lt_of_lt_of_le (x.lt q) e) (Nat.lt_irrefl _)
theorem HOk.kept (x : HOk P w H h) (k : ∀ b u, h.get? b = some u → h'.get? b = some u) : HOk P w H h' := fun a o e =>
  (x a o e).zg (fun b u _ q => k b u q) (fun _ q => q) fun _ _ q => q
theorem HOk.laid (x : HOk P w H h) (k : ∀ b u, h.get? b = some u → h'.get? b = some u) (hp : h.objs.size ≤ a) (new : k6 P w (upd H a o) h' a o) : HOk P w (upd H a o) h' := fun b u e => by
  have hn := x.fresh hp
  by_cases hb : b = a
  · subst hb; rw [iV] at e; cases e; exact new
  · rw [cD hb] at e
    exact (x b u e).zg (fun c v _ q => k c v q) (fun c q => by rw [cD (dy q hn)]; exact q) fun c xs q => by rw [cD (dy q hn)]; exact q
end
def Rd (H : Hp) (a : Addr) (u : HO) : Prop := H a = some u ∨ ∃ o, H a = some (.frz o u)
theorem Rd.of {H : Hp} {a : Addr} {u : HO} (h : H a = some u) : Rd H a u := .inl h
theorem Rd.ok {P : Program} {w : World} {H : Hp} {h : Heap} {a : Addr} {u : HO} (r : Rd H a u) (x : HOk P w H h) : k6 P w H h a u := by
  rcases r with r | ⟨o, r⟩
  · exact x a u r
  · obtain ⟨_, q⟩ := x a _ r
    exact q
def Mut : Option HO → Prop
  | some (.lst _) => True
  | some (.dK _) => True
  | some (.dT _) => True
  | some (.set _ _) => True
  | some (.ins _ _ _) => True
  | some (.ext _) => True
  | _ => False
section
variable {P : Program} {w : World} {H : Hp} {h h' : Heap} {x e : Addr} {o' : HO}
theorem HOk.write (ok : HOk P w H h) (mu : Mut (H x)) (he : e = x ∨ H e = some (.own x)) (k : ∀ b u, b ≠ e → h.get? b = some u → h'.get? b = some u) (heo : ∃ u, h'.get? e = some u)
    (new : k6 P w (upd H x o') h' x o') : HOk P w (upd H x o') h' := fun b u q => by
  have nown : ∀ c y, H c = some (.own y) → c ≠ x := fun c y r z => by subst z; rw [r] at mu; exact mu
  have ntup : ∀ c xs, H c = some (.tup xs) → c ≠ x := fun c xs r z => by subst z; rw [r] at mu; exact mu
  by_cases hb : b = x
  · subst hb; rw [iV] at q; cases q; exact new
  · rw [cD hb] at q
    by_cases hbe : b = e
    · have q' : H b = some (.own x) := by
        rcases he with z | z
        · exact absurd (hbe.trans z) hb
        · rw [hbe]; exact z
      rw [q] at q'; cases q'
      obtain ⟨v, hv⟩ := heo
      exact ⟨v, by rw [hbe]; exact hv⟩
    · refine (ok b u q).zg (fun c v hc r => k c v ?_ r) (fun c r => by rw [cD (nown c b r)]; exact r) fun c xs r => by rw [cD (ntup c xs r)]; exact r
      rcases hc with rfl | hc
      · exact hbe
      · rintro rfl
        rcases he with z | z
        · exact nown c b hc z
        · rw [hc] at z; cases z; exact hb rfl
end
structure Un (fs ex : List Addr) (H H' : Hp) (h h' : Heap) : Prop where
  keep : ∀ b o, h.get? b = some o → H b = none → b ∉ fs → b ∉ ex → h'.get? b = some o
  slot : ∀ b o, h.get? b = some o → H b = none → b ∈ fs → b ∉ ex → ∃ sl, h'.get? b = some { o with slots := sl }
  free : ∀ b o, h.get? b = some o → H b = none → b ∉ ex → H' b = none
  there : ∀ b o, h.get? b = some o → b ∉ ex → ∃ o', h'.get? b = some o'
  sC : ∀ b xs, H b = some (.tup xs) → H' b = some (.tup xs)
  qv : ∀ b o u, H b = some (.frz o u) → H' b = some (.frz o u)
  qT : ∀ b ps, H b = some (.tbl ps) → ∃ more, H' b = some (.tbl (ps ++ more))
section
variable {fs fs' ex ex' : List Addr} {H H1 H2 : Hp} {h h1 h2 h' : Heap} {a x e : Addr} {o : HO}
theorem Un.any (u : Un fs ex H H1 h h1) {b : Addr} {ob : Obj} (q : h.get? b = some ob) (n : H b = none) (hx : b ∉ ex) : ∃ sl, h1.get? b = some { ob with slots := sl } := by
  by_cases hb : b ∈ fs
  · exact u.slot b ob q n hb hx
  · exact ⟨ob.slots, u.keep b ob q n hb hx⟩
theorem Un.trans (a : Un fs ex H H1 h h1) (b : Un fs ex H1 H2 h1 h2) : Un fs ex H H2 h h2 where
  keep := fun c ob q n hc hx => b.keep c ob (a.keep c ob q n hc hx) (a.free c ob q n hx) hc hx
  slot := fun c ob q n hc hx => by
    obtain ⟨sl, e1⟩ := a.slot c ob q n hc hx
    obtain ⟨sl', e2⟩ := b.slot c _ e1 (a.free c ob q n hx) hc hx
    exact ⟨sl', e2⟩
  free := fun c ob q n hx => by
    obtain ⟨o', e1⟩ := a.there c ob q hx
    exact b.free c o' e1 (a.free c ob q n hx) hx
  there := fun c ob q hx => by
    obtain ⟨o', e1⟩ := a.there c ob q hx
    exact b.there c o' e1 hx
  sC := fun c xs q => b.sC c xs (a.sC c xs q)
  qv := fun c ob xs q => b.qv c ob xs (a.qv c ob xs q)
  qT := fun c ps q => by
    obtain ⟨m1, e1⟩ := a.qT c ps q
    obtain ⟨m2, e2⟩ := b.qT c _ e1
    exact ⟨m1 ++ m2, by rw [e2, Array.append_assoc]⟩
theorem Un.kept (k : ∀ b u, h.get? b = some u → h'.get? b = some u) : Un fs ex H H h h' :=
  ⟨fun b ob q _ _ _ => k b ob q, fun b ob q _ _ _ => ⟨ob.slots, k b ob q⟩, fun _ _ _ n _ => n, fun b ob q _ => ⟨ob, k b ob q⟩, fun _ _ q => q, fun _ _ _ q => q, fun _ ps q => ⟨#[], by rw [q]; simp⟩⟩
theorem Un.refl : Un fs ex H H h h := Un.kept fun _ _ q => q
theorem Un.laid (k : ∀ b u, h.get? b = some u → h'.get? b = some u) (hp : h.objs.size ≤ a) (hn : H a = none) : Un fs ex H (upd H a o) h h' where
  keep := fun b u q _ _ _ => k b u q
  slot := fun b u q _ _ _ => ⟨u.slots, k b u q⟩
  free := fun b u q n _ => by rw [cD (Nat.ne_of_lt (Nat.lt_of_lt_of_le (Heap.lt_size q) hp))]; exact n
  there := fun b u q _ => ⟨u, k b u q⟩
  sC := fun b xs q => by rw [cD (dy q hn)]; exact q
  qv := fun b u xs q => by rw [cD (dy q hn)]; exact q
  qT := fun b ps q => ⟨#[], by rw [cD (dy q hn), q]; simp⟩
theorem Un.write (mu : Mut (H x)) (he : e = x ∨ H e = some (.own x)) (k : ∀ b u, b ≠ e → h.get? b = some u → h'.get? b = some u) (heo : ∃ u, h'.get? e = some u) : Un fs ex H (upd H x o) h h' := by
  have hx : ∀ b, H b = none → b ≠ x := fun b n z => by subst z; rw [n] at mu; exact mu
  have hb : ∀ b, H b = none → b ≠ e := fun b n z => by
    subst z
    rcases he with r | r
    · exact hx b n r
    · rw [n] at r; cases r
  have hm : ∀ b u, H b = some u → ¬ Mut (some u) → b ≠ x := fun b u q nm z => by subst z; rw [q] at mu; exact nm mu
  refine ⟨fun b u q n _ _ => k b u (hb b n) q, fun b u q n _ _ => ⟨u.slots, k b u (hb b n) q⟩, fun b u q n _ => by rw [cD (hx b n)]; exact n, fun b u q _ => ?_,
    fun b xs q => by rw [cD (hm b _ q fun z => z)]; exact q, fun b u xs q => by rw [cD (hm b _ q fun z => z)]; exact q, fun b ps q => ⟨#[], by rw [cD (hm b _ q fun z => z), q]; simp⟩⟩
  by_cases hbe : b = e
  · subst hbe; exact heo
  · exact ⟨u, k b u hbe q⟩
theorem Un.mono (u : Un fs ex H H1 h h1) (hs : ∀ b ∈ fs, b ∈ fs') (hx : ∀ b ∈ ex, b ∈ ex') : Un fs' ex' H H1 h h1 :=
  ⟨fun b ob q n hb he => u.keep b ob q n (fun z => hb (hs b z)) fun z => he (hx b z), fun _ _ q n _ he => u.any q n fun z => he (hx _ z), fun b ob q n he => u.free b ob q n fun z => he (hx b z), fun b ob q he => u.there b ob q fun z => he (hx b z), u.sC, u.qv, u.qT⟩
end
def trk (h : Heap) (H : Hp) : List Addr := (List.range h.objs.size).filter fun a => (H a).isSome
def yd (h : Heap) (H : Hp) : Heap := PySem.W.hideAll h (trk h H)
theorem D1 (h : Heap) (H : Hp) : (yd h H).objs.size = h.objs.size := PySem.W.hideAll_size _ _
theorem Fz {h : Heap} {H : Hp} {b : Addr} {o : Obj} (e : h.get? b = some o) (n : H b = none) : (yd h H).get? b = some o :=
  PySem.W.hideAll_get _ e fun hm => by
    have q : (H b).isSome = true := (List.mem_filter.mp hm).2
    rw [n] at q; simp at q
theorem Hj {h : Heap} {H : Hp} {b : Addr} {o : Obj} (e : (yd h H).get? b = some o) : h.get? b = some o ∧ H b = none := by
  have e' : h.get? b = some o := PySem.W.of_hideAll (trk h H) e
  refine ⟨e', ?_⟩
  cases q : H b with
  | none => rfl
  | some x =>
    have hm : b ∈ trk h H := List.mem_filter.mpr ⟨List.mem_range.mpr (Heap.lt_size e'), by simp [q]⟩
    have z : (yd h H).get? b = none := PySem.W.hideAll_none (trk h H) hm
    rw [z] at e; cases e
def Ia (g h : Heap) (L : Addr) : List (Addr × Obj) := (List.range h.objs.size).filterMap fun a => if a = L ∨ (g.get? a).isSome = true then none else (h.get? a).map fun o => (a, o)
def rest (g h : Heap) (L d : Addr) : List (Addr × Obj) := (Ia g h L).filter fun p => decide (p.1 ≠ d)
end L2
namespace L2
open PySem PySem.Spec PyProof.Rows
structure Mod (K : PySem.W.Frag) (mg : Str → Option Value) (base : Heap) : Prop where
  kin : K.In base
  glob : base.Ns mainGlobals mg
  blt : ∃ mb, base.Ns builtinsNs mb ∧ ∀ x : Str, x ≠ "__name__" → mb x = bootBuiltins x
  nolimit : base.NoLimit
structure Cx where
  prog : Program
  w : World
  K : PySem.W.Frag
  mg : Str → Option Value
  base : Heap
  A : Around
  N : List Str
  s₀ : Shared
  H₀ : Hp
  env : Env
  outer : List Env
  stack : List Env
  ex : List Addr
  fn : Str → Bool
  calm : Bool
  pn : List (Addr × Obj)
  xe : Value → Shared → Prop
def frs (l : List Env) : List Addr := l.filterMap (·.frame)
abbrev Cx.fs (X : Cx) : List Addr := frs X.outer
def Vis (sc : Scope) (x : Str) : Prop := sc.names.lookup x = some .local ∨ sc.names.lookup x = some .cell ∨ sc.names.lookup x = some .free
def Loc (sc : Scope) (x : Str) : Prop := sc.names.lookup x = some .local ∨ sc.names.lookup x = some .cell
def Look (env : Env) (h : Heap) (m : Str → Option Value) (x : Str) (u : Value) : Prop :=
  (env.kindOf x = some .local ∧ m x = some u) ∨ ((env.kindOf x = some .cell ∨ env.kindOf x = some .free) ∧ ∃ c, env.cells.lookup x = some c ∧ h.IsCell c (some u))
structure Cx.Ok (X : Cx) : Prop where
  mod : Mod X.K X.mg X.base
  kind : X.env.scope.kind = .function
  glob : X.env.globals = mainGlobals
  blt : X.env.builtins = builtinsNs
  above : X.s₀.heap.objs.size ≤ X.env.locals
  inj : ∀ x y c, X.env.cells.lookup x = some c → X.env.cells.lookup y = some c → x = y
  has : ∀ x, (X.env.kindOf x = some .cell ∨ X.env.kindOf x = some .free) → ∃ c, X.env.cells.lookup x = some c
  cab : ∀ x c, X.fn x = true → X.env.cells.lookup x = some c → X.s₀.heap.objs.size ≤ c
  hd : X.calm = true → X.A.handled = none
  qt : X.A.handled = none ∨ ∃ (e : Addr) (oe : Obj) (vs : Array Value), X.A.handled = some (.ref e) ∧ (e, oe) ∈ X.pn ∧ oe.data = .fields vs ∧ vs[2]? = some .none
  frames : X.A.frames = some X.stack
  stk : X.stack = X.outer ∨ (X.stack = X.env :: X.outer ∧ X.env.frame = some X.env.locals)
  exf : ∀ b ∈ X.ex, b ≠ X.env.locals ∧ ∀ x c, X.env.cells.lookup x = some c → c ≠ b
  bs : ∀ b o, X.base.get? b = some o → X.s₀.heap.get? b = some o ∧ X.H₀ b = none
  bsz : X.base.objs.size ≤ X.s₀.heap.objs.size
  Bz : ∀ b o, X.base.get? b = some o → b ∉ X.ex
  HB : ∀ b ∈ X.ex, b ∉ X.fs
  vc : X.s₀.heap.FunFrames X.base X.outer
  frf : ∀ b ∈ X.fs, X.H₀ b = none
structure Inv (X : Cx) (pins : List (Addr × Obj)) (σ : List (Option V)) (H : Hp) (s : Shared) : Prop where
  ok : X.Ok
  os : s.os = X.s₀.os
  bare : AllBare s.gens
  base : Un X.fs X.ex X.H₀ H X.s₀.heap s.heap
  loc : ∃ m, s.heap.Ns X.env.locals m ∧ ∀ (i : Nat) (x : Str) (v : V), X.N[i]? = some x → σ[i]? = some (some v) → Vis X.env.scope x → ∃ u, RelV v u ∧ Look X.env s.heap m x u
  cell : ∀ x c, X.env.cells.lookup x = some c → ∃ v, s.heap.IsCell c v
  free : H X.env.locals = none
  mJ : ∀ x c, X.env.cells.lookup x = some c → H c = none
  pin : ∀ p ∈ X.pn ++ pins, s.heap.get? p.1 = some p.2 ∧ H p.1 = none ∧ p.1 ≠ X.env.locals ∧ p.1 ∉ X.fs ∧ ∀ v, p.2.data ≠ .cell v
  hok : HOk X.prog X.w H s.heap
  len : σ.length = X.N.length
section
variable {X : Cx} {pins : List (Addr × Obj)} {σ : List (Option V)} {H H' : Hp} {s : Shared} {h' : Heap}
theorem Inv.Co (I : Inv X pins σ H s) : iH X.A s.heap := by
  rcases I.ok.qt with q | ⟨e, oe, vs, q, hp, r⟩
  · exact .inl q
  · exact .inr ⟨e, oe, vs, q, (I.pin (e, oe) (List.mem_append_left _ hp)).1, r⟩
theorem Inv.hne (I : Inv X pins σ H s) {b : Addr} (hb : ∀ p ∈ X.pn ++ pins, p.1 ≠ b) : ∀ e, X.A.handled = some (.ref e) → e ≠ b := fun e he => by
  rcases I.ok.qt with q | ⟨e1, oe, vs, q, hp, r⟩
  · rw [q] at he; cases he
  · rw [q] at he; cases he; exact hb (e, oe) (List.mem_append_left _ hp)
theorem Cx.Ok.M7 (ok : X.Ok) {b : Addr} {o : Obj} (e : X.base.get? b = some o) : b ∉ X.fs := fun hb => by
  have := (ok.vc.mem hb).1
  rw [e] at this; cases this
theorem Inv.bs (I : Inv X pins σ H s) : ∀ b o, X.base.get? b = some o → s.heap.get? b = some o ∧ H b = none := fun b o e =>
  ⟨I.base.keep b o (I.ok.bs b o e).1 (I.ok.bs b o e).2 (I.ok.M7 e) (I.ok.Bz b o e), I.base.free b o (I.ok.bs b o e).1 (I.ok.bs b o e).2 (I.ok.Bz b o e)⟩
theorem Inv.bk (I : Inv X pins σ H s) : ∀ b o, X.base.get? b = some o → s.heap.get? b = some o := fun b o e => (I.bs b o e).1
theorem Inv.mod (I : Inv X pins σ H s) : Mod X.K X.mg X.base := I.ok.mod
theorem Inv.kIn (I : Inv X pins σ H s) : X.K.In s.heap := I.ok.mod.kin.keeps I.bk
theorem Inv.lt (I : Inv X pins σ H s) : X.env.locals < s.heap.objs.size := let ⟨_, hn, _⟩ := I.loc; hn.lt
theorem Inv.sz (I : Inv X pins σ H s) : X.s₀.heap.objs.size ≤ s.heap.objs.size := Nat.le_trans I.ok.above (Nat.le_of_lt I.lt)
theorem Inv.M6 (I : Inv X pins σ H s) {a : Addr} (h : s.heap.objs.size ≤ a) : a ∉ X.fs := fun hb => by
  obtain ⟨_, o, ho, _⟩ := I.ok.vc.mem hb
  exact absurd (Nat.lt_of_lt_of_le (Heap.lt_size ho) (Nat.le_trans I.sz h)) (Nat.lt_irrefl _)
theorem Inv.cne (I : Inv X pins σ H s) : ∀ x c, X.env.cells.lookup x = some c → c ≠ X.env.locals := fun x c e z => by
  obtain ⟨v, o, ho, hd⟩ := I.cell x c e
  obtain ⟨m, ⟨o', es, ep, ho', hd', _⟩, _⟩ := I.loc
  rw [z, ho'] at ho; cases ho; rw [hd'] at hd; cases hd
theorem Inv.vc (I : Inv X pins σ H s) : s.heap.FunFrames X.base X.outer := by
  have all : ∀ (l : List Env), (∀ b ∈ frs l, b ∈ X.fs) → X.s₀.heap.FunFrames X.base l → s.heap.FunFrames X.base l := by
    intro l
    induction l with
    | nil => intro _ _; trivial
    | cons env r ih =>
      intro hs hl
      obtain ⟨hk, ⟨L, o, hf, hn, ho, hd⟩, hr⟩ := hl
      have hL : L ∈ X.fs := hs L (by unfold frs; rw [List.filterMap_cons, hf]; exact List.mem_cons_self)
      obtain ⟨sl, e⟩ := I.base.slot L o ho (I.ok.frf L hL) hL fun z => I.ok.HB L z hL
      exact ⟨hk, ⟨L, _, hf, hn, e, hd⟩, ih (fun b hb => hs b (by unfold frs; rw [List.filterMap_cons, hf]; exact List.mem_cons_of_mem _ hb)) hr⟩
  exact all X.outer (fun _ hb => hb) I.ok.vc
theorem Inv.stack (I : Inv X pins σ H s) : s.heap.FunFrames X.base X.stack := by
  rcases I.ok.stk with e | ⟨e, hf⟩
  · rw [e]; exact I.vc
  · rw [e]
    obtain ⟨m, hn, _⟩ := I.loc
    refine .cons (by rw [I.ok.kind]; decide) hf hn ?_ I.vc
    exact Heap.get?_none_of_le (Nat.le_trans I.ok.bsz I.ok.above)
theorem Inv.nu (I : Inv X pins σ H s) : ∀ b ∈ frs X.stack, b ∈ X.env.locals :: X.fs := fun b hb => by
  rcases I.ok.stk with e | ⟨e, hf⟩
  · rw [e] at hb; exact List.mem_cons_of_mem _ hb
  · rw [e] at hb
    unfold frs at hb
    rw [List.filterMap_cons, hf] at hb
    exact hb
theorem Inv.uK (I : Inv X pins σ H s) : ∀ b ∈ frs X.stack, H b = none := fun b hb => by
  rcases List.mem_cons.mp (I.nu b hb) with e | hb
  · rw [e]; exact I.free
  · obtain ⟨_, o, ho, _⟩ := I.ok.vc.mem hb
    exact I.base.free b o ho (I.ok.frf b hb) fun z => I.ok.HB b z hb
theorem Inv.step {g' : Array GenState} {t' : Nat} {d' : Drawn} {ch : List Addr} (I : Inv X pins σ H s)
    (hch : ∀ b ∈ ch, (b ∈ X.ex ∨ X.s₀.heap.objs.size ≤ b) ∧ b ≠ X.env.locals ∧ (∀ x c, X.env.cells.lookup x = some c → c ≠ b) ∧ ∀ p ∈ X.pn ++ pins, p.1 ≠ b)
    (keep : ∀ b o, b ≠ X.env.locals → b ∉ X.fs → b ∉ ch → s.heap.get? b = some o → H b = none → h'.get? b = some o)
    (slot : ∀ b o, b ≠ X.env.locals → b ∈ X.fs → b ∉ ch → s.heap.get? b = some o → H b = none → ∃ sl, h'.get? b = some { o with slots := sl }) (free : ∀ b o, b ∉ ch → s.heap.get? b = some o → H b = none → H' b = none)
    (there : ∀ b o, b ∉ ch → s.heap.get? b = some o → ∃ o', h'.get? b = some o')
    (sC : ∀ b xs, H b = some (.tup xs) → H' b = some (.tup xs)) (qv : ∀ b o u, H b = some (.frz o u) → H' b = some (.frz o u)) (qT : ∀ b ps, H b = some (.tbl ps) → ∃ more, H' b = some (.tbl (ps ++ more)))
    (ns : ∀ m, s.heap.Ns X.env.locals m → h'.Ns X.env.locals m) (hok : HOk X.prog X.w H' h') (hg : AllBare g') :
    Inv X pins σ H' { s with heap := h', gens := g', drawn := d', toks := t' } := by
  have neL : ∀ b o, X.s₀.heap.get? b = some o → b ≠ X.env.locals := fun b o e => Nat.ne_of_lt (Nat.lt_of_lt_of_le (Heap.lt_size e) I.ok.above)
  have neC : ∀ b o, X.s₀.heap.get? b = some o → b ∉ X.ex → b ∉ ch := fun b o e hx hb => by
    rcases (hch b hb).1 with z | z
    · exact hx z
    · exact absurd (Nat.lt_of_lt_of_le (Heap.lt_size e) z) (Nat.lt_irrefl _)
  have cellK : ∀ x c, X.env.cells.lookup x = some c → ∀ v, s.heap.IsCell c v → h'.IsCell c v := fun x c e v ⟨o, ho, hd⟩ => by
    have nch : c ∉ ch := fun z => (hch c z).2.2.1 x c e rfl
    by_cases hc : c ∈ X.fs
    · obtain ⟨sl, q⟩ := slot c o (I.cne x c e) hc nch ho (I.mJ x c e)
      exact ⟨_, q, hd⟩
    · exact ⟨o, keep c o (I.cne x c e) hc nch ho (I.mJ x c e), hd⟩
  refine ⟨I.ok, I.os, hg, ⟨fun b o e n hb hx => ?_, fun b o e n hb hx => ?_, fun b o e n hx => ?_, fun b o e hx => ?_, fun b xs e => sC b xs (I.base.sC b xs e), fun b o xs e => qv b o xs (I.base.qv b o xs e), fun b ps e => ?_⟩, ?_, fun x c e => ?_, ?_, fun x c e => ?_, fun p hp => ?_, hok, I.len⟩
  · exact keep b o (neL b o e) hb (neC b o e hx) (I.base.keep b o e n hb hx) (I.base.free b o e n hx)
  · obtain ⟨sl, e1⟩ := I.base.slot b o e n hb hx
    obtain ⟨sl', e2⟩ := slot b _ (neL b o e) hb (neC b o e hx) e1 (I.base.free b o e n hx)
    exact ⟨sl', e2⟩
  · obtain ⟨o', e1⟩ := I.base.there b o e hx
    exact free b o' (neC b o e hx) e1 (I.base.free b o e n hx)
  · obtain ⟨o', e1⟩ := I.base.there b o e hx
    exact there b o' (neC b o e hx) e1
  · obtain ⟨m1, e1⟩ := I.base.qT b ps e
    obtain ⟨m2, e2⟩ := qT b _ e1
    exact ⟨m1 ++ m2, by rw [e2, Array.append_assoc]⟩
  · obtain ⟨m, hn, hl⟩ := I.loc
    refine ⟨m, ns m hn, fun i x v e1 e2 e3 => ?_⟩
    obtain ⟨u, r, l⟩ := hl i x v e1 e2 e3
    refine ⟨u, r, ?_⟩
    rcases l with l | ⟨k, c, e, z⟩
    · exact .inl l
    · exact .inr ⟨k, c, e, cellK x c e _ z⟩
  · obtain ⟨v, z⟩ := I.cell x c e
    exact ⟨v, cellK x c e v z⟩
  · obtain ⟨m, ⟨o, _, _, ho, _⟩, _⟩ := I.loc
    exact free _ o (fun z => (hch _ z).2.1 rfl) ho I.free
  · obtain ⟨v, o, ho, hd⟩ := I.cell x c e
    exact free c o (fun z => (hch c z).2.2.1 x c e rfl) ho (I.mJ x c e)
  · obtain ⟨e, n, ne, nf, d⟩ := I.pin p hp
    have nch : p.1 ∉ ch := fun z => (hch p.1 z).2.2.2 p hp rfl
    exact ⟨keep p.1 p.2 ne nf nch e n, free p.1 p.2 nch e n, ne, nf, d⟩
theorem Inv.un {t' : Nat} (I : Inv X pins σ H s) (u : Un X.fs [] H H' s.heap h') (hok : HOk X.prog X.w H' h') : Inv X pins σ H' { s with heap := h', toks := t' } := by
  obtain ⟨m, ⟨o, es, ep, ho, r⟩, _⟩ := id I.loc
  obtain ⟨sl, hL⟩ := u.any ho I.free (by simp)
  exact I.step (g' := s.gens) (d' := s.drawn) (ch := []) (fun _ z => nomatch z) (fun b o _ hb _ e n => u.keep b o e n hb (by simp)) (fun b o _ hb _ e n => u.slot b o e n hb (by simp)) (fun b o _ e n => u.free b o e n (by simp)) (fun b o _ e => u.there b o e (by simp)) u.sC u.qv u.qT (fun m' hm => by
    obtain ⟨o', es', ep', ho', r'⟩ := hm
    rw [ho] at ho'; cases ho'
    exact ⟨_, es', ep', hL, r'⟩) hok I.bare
theorem Inv.call {g' : Array GenState} {t' : Nat} {d' : Drawn} {ch : List Addr} (I : Inv X pins σ H s) (u : Un (frs X.stack) ch H H' s.heap h') (hok : HOk X.prog X.w H' h') (hg : AllBare g')
    (hch : ∀ b ∈ ch, (b ∈ X.ex ∨ X.s₀.heap.objs.size ≤ b) ∧ b ≠ X.env.locals ∧ (∀ x c, X.env.cells.lookup x = some c → c ≠ b) ∧ ∀ p ∈ X.pn ++ pins, p.1 ≠ b) :
    Inv X pins σ H' { s with heap := h', gens := g', drawn := d', toks := t' } := by
  obtain ⟨m, ⟨o, es, ep, ho, r⟩, _⟩ := id I.loc
  obtain ⟨sl, hL⟩ := u.any ho I.free fun z => (hch _ z).2.1 rfl
  exact I.step (ch := ch) hch (fun b o hL hb hc e n => u.keep b o e n (fun z => (List.mem_cons.mp (I.nu b z)).elim hL hb) hc) (fun b o _ _ hc e n => u.any e n hc) (fun b o hc e n => u.free b o e n hc) (fun b o hc e => u.there b o e hc) u.sC u.qv u.qT (fun m' hm => by
    obtain ⟨o', es', ep', ho', r'⟩ := hm
    rw [ho] at ho'; cases ho'
    exact ⟨_, es', ep', hL, r'⟩) hok hg
theorem Inv.turned {t' : Nat} {it : Addr} (I : Inv X pins σ H s) (k : ∀ b o, b ≠ it → s.heap.get? b = some o → h'.get? b = some o) (hn : H it = none) (hL : it ≠ X.env.locals)
    (h1 : it ∈ X.ex ∨ X.s₀.heap.objs.size ≤ it) (h2 : ∀ x c, X.env.cells.lookup x = some c → c ≠ it) (h3 : ∀ p ∈ X.pn ++ pins, p.1 ≠ it) : Inv X pins σ H { s with heap := h', toks := t' } := by
  have nit : ∀ b u, H b = some u → b ≠ it := fun b u e z => by rw [z, hn] at e; cases e
  refine I.step (g' := s.gens) (d' := s.drawn) (ch := [it]) (fun b hb => ?_) (fun b o _ _ hc e _ => k b o (fun z => hc (by simp [z])) e) (fun b o _ _ hc e _ => ⟨o.slots, k b o (fun z => hc (by simp [z])) e⟩) (fun _ _ _ _ n => n)
    (fun b o hc e => ⟨o, k b o (fun z => hc (by simp [z])) e⟩) (fun _ _ e => e) (fun _ _ _ e => e) (fun b ps e => ⟨#[], by rw [e]; simp⟩) (fun m hm => ?_) (fun b u e => ?_) I.bare
  · have e : b = it := by simpa using hb
    subst e
    exact ⟨h1, hL, h2, h3⟩
  · obtain ⟨o, es, ep, ho, r⟩ := hm
    exact ⟨o, es, ep, k _ o (Ne.symm hL) ho, r⟩
  · refine (I.hok b u e).zg (fun c v hc q => k c v ?_ q) (fun _ q => q) fun _ _ q => q
    rcases hc with z | z
    · rw [z]; exact nit b u e
    · exact nit c _ z
theorem Inv.tok (I : Inv X pins σ H s) (t : Nat) : Inv X pins σ H { s with toks := t } := I.un (h' := s.heap) (t' := t) Un.refl I.hok
theorem Inv.kept {t' : Nat} (I : Inv X pins σ H s) (k : ∀ b u, s.heap.get? b = some u → h'.get? b = some u) : Inv X pins σ H { s with heap := h', toks := t' } := I.un (Un.kept k) (I.hok.kept k)
theorem Inv.laid {a : Addr} {o : HO} {t' : Nat} (I : Inv X pins σ H s) (k : ∀ b u, s.heap.get? b = some u → h'.get? b = some u) (hp : s.heap.objs.size ≤ a) (new : k6 X.prog X.w (upd H a o) h' a o) :
    Inv X pins σ (upd H a o) { s with heap := h', toks := t' } := I.un (Un.laid k hp (I.hok.fresh hp)) (I.hok.laid k hp new)
theorem Inv.write {x e : Addr} {o : HO} {t' : Nat} (I : Inv X pins σ H s) (mu : Mut (H x)) (he : e = x ∨ H e = some (.own x)) (k : ∀ b u, b ≠ e → s.heap.get? b = some u → h'.get? b = some u) (heo : ∃ u, h'.get? e = some u)
    (new : k6 X.prog X.w (upd H x o) h' x o) : Inv X pins σ (upd H x o) { s with heap := h', toks := t' } := I.un (Un.write mu he k heo) (I.hok.write mu he k heo new)
theorem Inv.Dm {pins' : List (Addr × Obj)} (I : Inv X pins σ H s) (h : ∀ p ∈ pins', s.heap.get? p.1 = some p.2 ∧ H p.1 = none ∧ p.1 ≠ X.env.locals ∧ p.1 ∉ X.fs ∧ ∀ v, p.2.data ≠ .cell v) : Inv X pins' σ H s :=
  ⟨I.ok, I.os, I.bare, I.base, I.loc, I.cell, I.free, I.mJ, fun p hp => (List.mem_append.mp hp).elim (fun z => I.pin p (List.mem_append_left _ z)) (h p), I.hok, I.len⟩
theorem Be {N : List Str} (hN : N.Nodup) {i j : Nat} {x : Str} (a : N[i]? = some x) (b : N[j]? = some x) : i = j := by
  obtain ⟨h1, e1⟩ := List.getElem?_eq_some_iff.mp a
  obtain ⟨h2, e2⟩ := List.getElem?_eq_some_iff.mp b
  exact (List.getElem_inj hN).mp (e1.trans e2.symm)
theorem DZ {M : Model} {A : Around} {E : Value → Shared → Prop} {i : Nat} {x : Str} {v : V} {u : Value} {Q : Unit → Shared → Prop} (I : Inv X pins σ H s) (hN : X.N.Nodup) (hi : X.N[i]? = some x) (hx : Loc X.env.scope x) (r : RelV v u)
    (h : ∀ s', Inv X pins (σ.set i (some v)) H s' → (∃ a, Heap.SameBut a s.heap s'.heap ∧ (a = X.env.locals ∨ X.env.cells.lookup x = some a)) → Q () s') (hf : X.fn x = true ∨ X.env.scope.names.lookup x = some .local := by first | exact .inl rfl | exact .inr rfl | assumption) : wpAny M A (storeName X.env x u) Q E s := by
  obtain ⟨m, hn, hl⟩ := id I.loc
  have hcls : (X.env.scope.kind == .class || (X.env.scope.kind == .module && X.env.locals != X.env.globals)) = false := by rw [I.ok.kind]; rfl
  have hiσ : i < σ.length := by rw [I.len]; exact (List.getElem?_eq_some_iff.mp hi).1
  have cne := I.cne
  have tracked : ∀ {a : Addr} {h' : Heap}, (∃ o, s.heap.get? a = some o ∧ H a = none) → Heap.SameBut a s.heap h' → HOk X.prog X.w H h' := fun {a h'} ha hs b ob e => by
    obtain ⟨_, _, hfree⟩ := ha
    refine (I.hok b ob e).zg (fun c w' hc q => (hs.2 c ?_).trans q) (fun _ q => q) fun _ _ q => q
    rintro rfl
    rcases hc with rfl | hc
    · rw [hfree] at e; cases e
    · rw [hfree] at hc; cases hc
  rcases hx with hk | hk
  · refine wpAny_storeName_local hk hn (fun h' hn' hs => ?_) hcls
    obtain ⟨oL, _, _, hoL, _⟩ := id hn
    refine h _ ⟨I.ok, I.os, I.bare, ⟨fun b o e n hb hx => ?_, fun b o e n hb hx => ?_, I.base.free, fun b o e hx => ?_, I.base.sC, I.base.qv, I.base.qT⟩, ⟨_, hn', fun j y v' e1 e2 e3 => ?_⟩, fun y c e => ?_, I.free, I.mJ, fun p hp => ?_, tracked ⟨oL, hoL, I.free⟩ hs, by simpa using I.len⟩ ⟨_, hs, .inl rfl⟩
    · exact (hs.2 b (Nat.ne_of_lt (Nat.lt_of_lt_of_le (Heap.lt_size e) I.ok.above))).trans (I.base.keep b o e n hb hx)
    · obtain ⟨sl, e1⟩ := I.base.slot b o e n hb hx
      exact ⟨sl, (hs.2 b (Nat.ne_of_lt (Nat.lt_of_lt_of_le (Heap.lt_size e) I.ok.above))).trans e1⟩
    · obtain ⟨o', e1⟩ := I.base.there b o e hx
      exact ⟨o', (hs.2 b (Nat.ne_of_lt (Nat.lt_of_lt_of_le (Heap.lt_size e) I.ok.above))).trans e1⟩
    · by_cases hj : j = i
      · subst hj
        rw [hi] at e1; cases e1
        rw [List.getElem?_set_self hiσ] at e2
        cases e2
        exact ⟨u, r, .inl ⟨hk, by simp⟩⟩
      · rw [List.getElem?_set_ne (Ne.symm hj)] at e2
        obtain ⟨u', r', q⟩ := hl j y v' e1 e2 e3
        refine ⟨u', r', ?_⟩
        rcases q with ⟨k, e⟩ | ⟨k, c, e, z⟩
        · refine .inl ⟨k, ?_⟩
          have : y ≠ x := fun e => hj (Be hN e1 (e ▸ hi))
          simp [this, e]
        · exact .inr ⟨k, c, e, z.sameBut hs (cne y c e)⟩
    · obtain ⟨w', z⟩ := I.cell y c e
      exact ⟨w', z.sameBut hs (cne y c e)⟩
    · obtain ⟨e, n, ne, nf, d⟩ := I.pin p hp
      exact ⟨(hs.2 p.1 ne).trans e, n, ne, nf, d⟩
  · have hfn : X.fn x = true := by
      rcases hf with z | z
      · exact z
      · rw [z] at hk; cases hk
    obtain ⟨c, hc⟩ := I.ok.has x (.inl hk)
    obtain ⟨w', z⟩ := I.cell x c hc
    refine wpAny_storeName_cell I.ok.kind hk hc z (fun h' hc' hs => ?_)
    obtain ⟨oc, hoc, hocd⟩ := id z
    refine h { s with heap := h' } ⟨I.ok, I.os, I.bare, ⟨fun b o e n hb hx => ?_, fun b o e n hb hx => ?_, I.base.free, fun b o e hx => ?_, I.base.sC, I.base.qv, I.base.qT⟩, ⟨m, hn.sameBut hs (Ne.symm (cne x c hc)), fun j y v' e1 e2 e3 => ?_⟩, fun y c' e => ?_, I.free, I.mJ, fun p hp => ?_, tracked ⟨oc, hoc, I.mJ x c hc⟩ hs, by simpa using I.len⟩ ⟨c, hs, .inr hc⟩
    · exact (hs.2 b (Nat.ne_of_lt (Nat.lt_of_lt_of_le (Heap.lt_size e) (I.ok.cab x c hfn hc)))).trans (I.base.keep b o e n hb hx)
    · obtain ⟨sl, e1⟩ := I.base.slot b o e n hb hx
      exact ⟨sl, (hs.2 b (Nat.ne_of_lt (Nat.lt_of_lt_of_le (Heap.lt_size e) (I.ok.cab x c hfn hc)))).trans e1⟩
    · obtain ⟨o', e1⟩ := I.base.there b o e hx
      exact ⟨o', (hs.2 b (Nat.ne_of_lt (Nat.lt_of_lt_of_le (Heap.lt_size e) (I.ok.cab x c hfn hc)))).trans e1⟩
    · by_cases hj : j = i
      · subst hj
        rw [hi] at e1; cases e1
        rw [List.getElem?_set_self hiσ] at e2
        cases e2
        exact ⟨u, r, .inr ⟨.inl hk, c, hc, hc'⟩⟩
      · rw [List.getElem?_set_ne (Ne.symm hj)] at e2
        obtain ⟨u', r', q⟩ := hl j y v' e1 e2 e3
        refine ⟨u', r', ?_⟩
        rcases q with q | ⟨k, c', e, z'⟩
        · exact .inl q
        · refine .inr ⟨k, c', e, z'.sameBut hs ?_⟩
          rintro rfl
          exact hj (Be hN e1 (I.ok.inj _ _ _ e hc ▸ hi))
    · by_cases hcc : c' = c
      · subst hcc; exact ⟨_, hc'⟩
      · obtain ⟨w2, z2⟩ := I.cell y c' e
        exact ⟨w2, z2.sameBut hs hcc⟩
    · obtain ⟨e, n, ne, nf, d⟩ := I.pin p hp
      refine ⟨(hs.2 p.1 ?_).trans e, n, ne, nf, d⟩
      intro q
      rw [q, hoc] at e
      have q' : oc = p.2 := Option.some.inj e
      exact d w' (by rw [← q']; exact hocd)
theorem nH {M : Model} {A : Around} {E : Value → Shared → Prop} {i : Nat} {x : Str} {v : V} {u : Value} {Q : Unit → Shared → Prop} (I : Inv X pins σ H s) (hN : X.N.Nodup) (hi : X.N[i]? = some x) (hx : Loc X.env.scope x) (r : RelV v u)
    (h : ∀ s', Inv X pins (σ.set i (some v)) H s' → Q () s') (hf : X.fn x = true ∨ X.env.scope.names.lookup x = some .local := by first | exact .inl rfl | exact .inr rfl | assumption) : wpAny M A (storeName X.env x u) Q E s :=
  DZ I hN hi hx r (fun s' I' _ => h s' I') hf
theorem Inv.Dn {s' : Shared} {ch : List Addr} (I : Inv X pins σ H s) (ho : s'.os = s.os) (u : Un (frs X.stack) ch H H' s.heap s'.heap) (hok : HOk X.prog X.w H' s'.heap) (hg : AllBare s'.gens)
    (hch : ∀ b ∈ ch, (b ∈ X.ex ∨ X.s₀.heap.objs.size ≤ b) ∧ b ≠ X.env.locals ∧ (∀ x c, X.env.cells.lookup x = some c → c ≠ b) ∧ ∀ p ∈ X.pn ++ pins, p.1 ≠ b) : Inv X pins σ H' s' := by
  obtain ⟨h', g', d', t', o'⟩ := s'
  have e : o' = s.os := ho
  subst e
  exact I.call (g' := g') (t' := t') (d' := d') u hok hg hch
end
abbrev XK := Value → Option Addr → Hp → Prop
abbrev St := List (Option V)
abbrev VK := V → Hp → Prop
abbrev TE := St → Hp → VK → Prop
abbrev TT := St → Hp → (Bool → Hp → Prop) → Prop
abbrev TA := St → Hp → (List V → Hp → Prop) → Prop
structure Ends where
  nx : St → Hp → Prop
  rt : VK
  bk : St → Hp → Prop := fun _ _ => False
  ct : St → Hp → Prop := fun _ _ => False
abbrev TS := Ends → St → Hp → Prop
def EP (X : Cx) (pins : List (Addr × Obj)) (σ : St) (Q : VK) (u : Value) (s' : Shared) : Prop := ∃ v H', Inv X pins σ H' s' ∧ RelV v u ∧ Q v H'
def TP (X : Cx) (pins : List (Addr × Obj)) (σ : St) (Q : Bool → Hp → Prop) (b : Bool) (s' : Shared) : Prop := ∃ H', Inv X pins σ H' s' ∧ Q b H'
def AP (X : Cx) (pins : List (Addr × Obj)) (σ : St) (Q : List V → Hp → Prop) (us : List Value) (s' : Shared) : Prop := ∃ vs H', Inv X pins σ H' s' ∧ Vals vs us ∧ Q vs H'
def SP (X : Cx) (pins : List (Addr × Obj)) (D : Ends) (f : Flow) (s' : Shared) : Prop :=
  match f with
  | .next => ∃ σ' H', Inv X pins σ' H' s' ∧ D.nx σ' H'
  | .brk => ∃ σ' H', Inv X pins σ' H' s' ∧ D.bk σ' H'
  | .cont => ∃ σ' H', Inv X pins σ' H' s' ∧ D.ct σ' H'
  | .ret u => ∃ v σ' H', Inv X pins σ' H' s' ∧ RelV v u ∧ D.rt v H'
def PE (X : Cx) (e : Expr) (t : TE) : Prop :=
  ∀ (pins : List (Addr × Obj)) (s : Shared) (σ : St) (H : Hp) (Q : VK), Inv X pins σ H s → t σ H Q → wpAny (model X.prog X.w) X.A (eval e X.env) (EP X pins σ Q) X.xe s
def PT (X : Cx) (e : Expr) (t : TT) : Prop :=
  ∀ (pins : List (Addr × Obj)) (s : Shared) (σ : St) (H : Hp) (Q : Bool → Hp → Prop), Inv X pins σ H s → t σ H Q → wpAny (model X.prog X.w) X.A (isTrue e X.env (eval e X.env)) (TP X pins σ Q) X.xe s
def PW (X : Cx) (e : Expr) (t : TT) : Prop :=
  ∀ (whole : Sem Value) (pins : List (Addr × Obj)) (s : Shared) (σ : St) (H : Hp) (Q : Bool → Hp → Prop), Inv X pins σ H s → t σ H Q → wpAny (model X.prog X.w) X.A (isTrue e X.env whole) (TP X pins σ Q) X.xe s
theorem PW.pt {X : Cx} {e : Expr} {t : TT} (h : PW X e t) : PT X e t := h _
def PA (X : Cx) (es : List Expr) (t : TA) : Prop :=
  ∀ (pos : Pos) (pins : List (Addr × Obj)) (s : Shared) (σ : St) (H : Hp) (Q : List V → Hp → Prop), Inv X pins σ H s → t σ H Q → wpAny (model X.prog X.w) X.A (spliced (backTo pos (starEach es X.env))) (AP X pins σ Q) X.xe s
def PS (X : Cx) (st : Stmt) (t : TS) : Prop :=
  ∀ (pins : List (Addr × Obj)) (s : Shared) (σ : St) (H : Hp) (D : Ends), Inv X pins σ H s → t D σ H → wpAny (model X.prog X.w) X.A (exec st X.env) (SP X pins D) X.xe s
def PSs (X : Cx) (st : List Stmt) (t : TS) : Prop :=
  ∀ (pins : List (Addr × Obj)) (s : Shared) (σ : St) (H : Hp) (D : Ends), Inv X pins σ H s → t D σ H → wpAny (model X.prog X.w) X.A (execs st X.env) (SP X pins D) X.xe s
theorem thn {α : Type} {t : Sem α} {Q Q' : α → Shared → Prop} {M : Model} {A : Around} {E : Value → Shared → Prop} {s : Shared} (h : wpAny M A t Q E s) (hQ : ∀ a s, Q a s → Q' a s) : wpAny M A t Q' E s := wpAny_mono h hQ fun _ _ x => x
end L2
namespace L2
open PySem PySem.Spec PyProof.Rows
section
variable {X : Cx}
theorem bin {a b : Expr} {ta tb : TE} (ha : PE X a ta) (hb : PE X b tb) {pins : List (Addr × Obj)} {s : Shared} {σ : St} {H : Hp} {R : V → V → Hp → Prop} (I : Inv X pins σ H s) (h : ta σ H fun x H1 => tb σ H1 fun y H2 => R x y H2)
    {α : Type} {Q : α → Shared → Prop} {f : Value → Value → Sem α}
    (hf : ∀ v u s2 x y H2, Inv X pins σ H2 s2 → RelV x v → RelV y u → R x y H2 → wpAny (model X.prog X.w) X.A (f v u) Q X.xe s2) :
    wpAny (model X.prog X.w) X.A (eval a X.env) (fun v s₁ => wpAny (model X.prog X.w) X.A (eval b X.env) (fun u s₂ => wpAny (model X.prog X.w) X.A (f v u) Q X.xe s₂) X.xe s₁) X.xe s := by
  refine thn (ha pins s σ H _ I h) fun v s1 ⟨x, H1, I1, r1, q1⟩ => ?_
  refine thn (hb pins s1 σ H1 _ I1 q1) fun u s2 ⟨y, H2, I2, r2, q2⟩ => ?_
  exact hf v u s2 x y H2 I2 r1 r2 q2
def L1 (i : Nat) : TE := fun σ H Q => ∃ v, σ[i]? = some (some v) ∧ Q v H
def tC (v : V) : TE := fun _ H Q => Q v H
theorem K0 {i : Nat} {x : Str} {pos : Pos} (hN : X.N[i]? = some x) (hv : Vis X.env.scope x) (hd : (x == ("__debug__" : Str)) = false := by decide) (hcd : (x == ("__classdict__" : Str)) = false := by decide) : PE X (.Name x pos) (L1 i) := by
  intro pins s σ H Q I h
  obtain ⟨v, e, h⟩ := h
  obtain ⟨m, hn, hl⟩ := I.loc
  obtain ⟨u, r, l⟩ := hl i x v hN e hv
  have fin : EP X pins σ Q u s := ⟨v, H, I, r, h⟩
  rcases l with ⟨hk, hm⟩ | ⟨hk, c, hc, hcell⟩
  · exact wpAny_Name (wpAny_loadName_local I.ok.kind hk hn hm fin) hd
  · rcases hk with hk | hk
    · exact wpAny_Name (wpAny_loadName_cell I.ok.kind hk hc hcell fin) hd
    · exact wpAny_Name (wpAny_loadName_free I.ok.kind hk hc hcell fin hcd) hd
theorem J8 {i j pos} : PE X (.Constant (.int i) j pos) (tC (.int i)) := fun _ _ _ H _ I h => wpAny_Constant_int ⟨.int i, H, I.tok _, ⟨_, rfl⟩, h⟩
theorem Mk {b j pos} : PE X (.Constant (.bool b) j pos) (tC (.bl b)) := fun _ _ _ H _ I h => Constant_bool ⟨.bl b, H, I, rfl, h⟩
theorem JD {x j pos} : PE X (.Constant (.str x) j pos) (tC (.str x)) := fun _ _ _ H _ I h => Calls.Constant_str ⟨.str x, H, I.tok _, ⟨_, rfl⟩, h⟩
def Gl (X : Cx) (x : Str) : Prop := X.env.kindOf x = some .globalImplicit
theorem C8 {E : Value → Shared → Prop} {pins : List (Addr × Obj)} {s : Shared} {σ : St} {H : Hp} {x : Str} {u : Value} {pos : Pos} {Q : Value → Shared → Prop} (I : Inv X pins σ H s) (hg : Gl X x) (hm : X.mg x = some u) (h : Q u s)
    (hd : (x == ("__debug__" : Str)) = false := by decide) : wpAny (model X.prog X.w) X.A (eval (.Name x pos) X.env) Q E s :=
  Calls.Name_function_global I.ok.kind hg (Calls.loadGlobal_global (by rw [I.ok.glob]; exact I.mod.glob.keeps I.bk) hm h) hd
theorem u7 {E : Value → Shared → Prop} {pins : List (Addr × Obj)} {s : Shared} {σ : St} {H : Hp} {x : Str} {u : Value} {pos : Pos} {Q : Value → Shared → Prop} (I : Inv X pins σ H s) (hg : Gl X x) (hm : X.mg x = none) (hv : bootBuiltins x = some u) (h : Q u s)
    (hn : x ≠ "__name__" := by decide) (hd : (x == ("__debug__" : Str)) = false := by decide) : wpAny (model X.prog X.w) X.A (eval (.Name x pos) X.env) Q E s := by
  obtain ⟨mb, h1, h2⟩ := I.mod.blt
  exact Calls.Name_function_global I.ok.kind hg (Calls.loadGlobal_builtin (by rw [I.ok.glob]; exact I.mod.glob.keeps I.bk) hm (by rw [I.ok.blt]; exact h1.keeps I.bk) ((h2 x hn).trans hv) h) hd
theorem Ha {x : Str} {v : V} {u : Value} {pos : Pos} (hg : Gl X x) (hm : X.mg x = some u) (r : RelV v u) (hd : (x == ("__debug__" : Str)) = false := by decide) : PE X (.Name x pos) (tC v) :=
  fun _ _ _ H _ I h => C8 I hg hm ⟨v, H, I, r, h⟩ hd
theorem Hq {x : Str} {v : V} {u : Value} {pos : Pos} (hg : Gl X x) (hm : X.mg x = none) (hv : bootBuiltins x = some u) (r : RelV v u) (hn : x ≠ "__name__" := by decide) (hd : (x == ("__debug__" : Str)) = false := by decide) : PE X (.Name x pos) (tC v) :=
  fun _ _ _ H _ I h => u7 I hg hm hv ⟨v, H, I, r, h⟩ hn hd
variable {a b : Expr} {ta tb : TE} {pos : Pos}
def PC (X : Cx) (op : CmpOp) (a b : Expr) (t : TE) : Prop :=
  ∀ (pins : List (Addr × Obj)) (s : Shared) (σ : St) (H : Hp) (Q : VK), Inv X pins σ H s → t σ H Q →
    wpAny (model X.prog X.w) X.A (eval a X.env) (fun v s₁ => wpAny (model X.prog X.w) X.A (eval b X.env) (fun u s₂ => wpAny (model X.prog X.w) X.A (compareOp op v u) (EP X pins σ Q) X.xe s₂) X.xe s₁) X.xe s
theorem Gp (b : Expr) {op : CmpOp} (h : op ≠ .In) (h2 : op ≠ .NotIn) : behindInMarks op b = false := by
  have e1 : (op == CmpOp.In) = false := by cases op <;> first | rfl | exact absurd rfl h
  have e2 : (op == CmpOp.NotIn) = false := by cases op <;> first | rfl | exact absurd rfl h2
  cases b <;> simp [behindInMarks, e1, e2]
def tB (t : TE) : TT := fun σ H Q => t σ H fun x H1 => ∃ c, x = .bl c ∧ Q c H1
theorem M3 {op : CmpOp} {t : TE} (h : PC X op a b t) (h1 : behindInMarks op b = false := by first | exact Gp _ (by decide) (by decide) | rfl) : PT X (.Compare a [op] [b] pos) (tB t) := by
  intro pins s σ H Q I hw
  refine wpAny_isTrue_Compare1 (thn (h pins s σ H _ I hw) fun v s1 h1 => thn h1 fun u s2 h2 => thn h2 fun c s3 ⟨x, H1, I1, r1, q1⟩ => ?_) h1
  obtain ⟨d, rfl, q⟩ := q1
  cases r1
  exact wpAny_truthy_bool ⟨H1, I1, q⟩
theorem K9 {e : Expr} {t : TE} (h : PE X e t) (he : ∀ whole, isTrue e X.env whole = (do let v ← whole; standAt e.pos; holding [v] (truthy v)) := by intro _; rfl) : PT X e (tB t) := by
  intro pins s σ H Q I hw
  refine isTrue_plain (thn (h pins s σ H _ I hw) fun v s1 ⟨x, H1, I1, r1, q1⟩ => ?_) (he _)
  obtain ⟨d, rfl, q⟩ := q1
  cases r1
  exact wpAny_truthy_bool ⟨H1, I1, q⟩
variable {tA tB' : TT} {rest : List Expr}
def MK (t u : TT) : TT := fun σ H Q => t σ H fun c H1 => if c = true then u σ H1 Q else Q false H1
def tOr (t u : TT) : TT := fun σ H Q => t σ H fun c H1 => if c = true then Q true H1 else u σ H1 Q
def MJ (t : TT) : TT := fun σ H Q => t σ H fun c H1 => Q (!c) H1
theorem pw_and1 (ha : PT X a tA) : PW X (.BoolOp .And [a] pos) tA := by
  intro wh pins s σ H Q I h
  refine isTrue_and (thn (ha pins s σ H Q I h) fun c s1 e => ?_)
  cases c with
  | true => exact isTrue_and_nil e
  | false => exact e
theorem pw_or1 (ha : PT X a tA) : PW X (.BoolOp .Or [a] pos) tA := by
  intro wh pins s σ H Q I h
  refine isTrue_or (thn (ha pins s σ H Q I h) fun c s1 e => ?_)
  cases c with
  | false => exact isTrue_or_nil e
  | true => exact e
theorem pw_and (ha : PT X a tA) (hb : PW X (.BoolOp .And (b :: rest) pos) tB') : PW X (.BoolOp .And (a :: b :: rest) pos) (MK tA tB') := by
  intro wh pins s σ H Q I h
  refine isTrue_and (thn (ha pins s σ H _ I h) fun c s1 ⟨H1, I1, q1⟩ => ?_)
  cases c with
  | true => exact hb wh pins s1 σ H1 Q I1 q1
  | false => exact ⟨H1, I1, q1⟩
theorem pw_or (ha : PT X a tA) (hb : PW X (.BoolOp .Or (b :: rest) pos) tB') : PW X (.BoolOp .Or (a :: b :: rest) pos) (tOr tA tB') := by
  intro wh pins s σ H Q I h
  refine isTrue_or (thn (ha pins s σ H _ I h) fun c s1 ⟨H1, I1, q1⟩ => ?_)
  cases c with
  | true => exact ⟨H1, I1, q1⟩
  | false => exact hb wh pins s1 σ H1 Q I1 q1
theorem JW (ha : PT X a tA) : PT X (.UnaryOp .Not a pos) (MJ tA) := by
  intro pins s σ H Q I h
  exact isTrue_not (ha pins s σ H (fun c H1 => Q (!c) H1) I h)
def LU (ta tb : TE) : TE := fun σ H Q => ta σ H fun x H1 => ∃ c, x = .bl c ∧ if c = true then tb σ H1 Q else Q (.bl false) H1
def M1 (ta tb : TE) : TE := fun σ H Q => ta σ H fun x H1 => ∃ c, x = .bl c ∧ if c = true then Q (.bl true) H1 else tb σ H1 Q
def LR (ta : TE) : TE := fun σ H Q => ta σ H fun x H1 => ∃ c, x = .bl c ∧ Q (.bl (!c)) H1
theorem Kz {op} {t : TE} (h : PE X a t) : PE X (.BoolOp op [a] pos) t := fun pins s σ H Q I hw => BoolOp_one (h pins s σ H Q I hw)
theorem JX (ha : PE X a ta) (hb : PE X (.BoolOp .And (b :: rest) pos) tb) : PE X (.BoolOp .And (a :: b :: rest) pos) (LU ta tb) := by
  intro pins s σ H Q I h
  refine BoolOp_and (thn (ha pins s σ H _ I h) fun v s1 ⟨x, H1, I1, r1, q1⟩ => ?_)
  obtain ⟨c, rfl, q1⟩ := q1
  cases r1
  refine wpAny_truthy_bool ?_
  cases c with
  | true => exact hb pins s1 σ H1 Q I1 q1
  | false => exact ⟨.bl false, H1, I1, rfl, q1⟩
theorem LK (ha : PE X a ta) (hb : PE X (.BoolOp .Or (b :: rest) pos) tb) : PE X (.BoolOp .Or (a :: b :: rest) pos) (M1 ta tb) := by
  intro pins s σ H Q I h
  refine BoolOp_or (thn (ha pins s σ H _ I h) fun v s1 ⟨x, H1, I1, r1, q1⟩ => ?_)
  obtain ⟨c, rfl, q1⟩ := q1
  cases r1
  refine wpAny_truthy_bool ?_
  cases c with
  | false => exact hb pins s1 σ H1 Q I1 q1
  | true => exact ⟨.bl true, H1, I1, rfl, q1⟩
theorem Ku (ha : PE X a ta) : PE X (.UnaryOp .Not a pos) (LR ta) := by
  intro pins s σ H Q I h
  refine UnaryOp_ (thn (ha pins s σ H _ I h) fun v s1 ⟨x, H1, I1, r1, q1⟩ => ?_)
  obtain ⟨c, rfl, q1⟩ := q1
  cases r1
  exact not_of (wpAny_truthy_bool ⟨.bl (!c), H1, I1, rfl, q1⟩)
def tIf (t : TT) (ta tb : TE) : TE := fun σ H Q => t σ H fun c H1 => if c = true then ta σ H1 Q else tb σ H1 Q
theorem FC {c : Expr} (hc : PT X c tA) (ha : PE X a ta) (hb : PE X b tb) : PE X (.IfExp c a b pos) (tIf tA ta tb) := by
  intro pins s σ H Q I h
  refine wpAny_IfExp (thn (hc pins s σ H _ I h) fun d s1 ⟨H1, I1, q1⟩ => ?_)
  cases d with
  | true => exact ha pins s1 σ H1 Q I1 q1
  | false => exact hb pins s1 σ H1 Q I1 q1
end
end L2
namespace L2
open PySem PySem.Spec PyProof.Rows
def SqL (K : PySem.W.Frag) (H : Hp) (a : Addr) (xs : List V) : Prop :=
  Rd H a (.lst xs) ∨
    ∃ (o : Obj) (its : Array Value) (n : Nat), K.lookup a = some o ∧ o.cls = .type "list" ∧ o.dict = none ∧ o.data = .seq its n ∧ its.size ≤ sizeLine ∧ Vals xs its.toList
def SqT (K : PySem.W.Frag) (H : Hp) (a : Addr) (xs : List V) : Prop :=
  Rd H a (.tup xs) ∨
    ∃ (o : Obj) (its : Array Value) (n : Nat), K.lookup a = some o ∧ o.cls = .type "tuple" ∧ o.data = .seq its n ∧ its.size ≤ sizeLine ∧ Vals xs its.toList
def M9 : Value → Option V
  | .none => some .non
  | .bool b => some (.bl b)
  | .int i _ => some (.int i)
  | .str x _ => some (.str x)
  | .bytes b _ => some (.byt b)
  | .float b _ => some (.flt b)
  | .ref a => some (.ref a)
  | .type n => some (.ty n)
  | _ => none
theorem RelV.abs {x : V} {u : Value} (r : RelV x u) : M9 u = some x := by
  cases x with
  | non => cases r; rfl
  | bl _ => cases r; rfl
  | int _ => obtain ⟨t, rfl⟩ := r; rfl
  | str _ => obtain ⟨t, rfl⟩ := r; rfl
  | byt _ => obtain ⟨t, rfl⟩ := r; rfl
  | flt _ => obtain ⟨t, rfl⟩ := r; rfl
  | ref _ => cases r; rfl
  | ty _ => cases r; rfl
theorem RelV.inj {x y : V} {u : Value} (r : RelV x u) (q : RelV y u) : x = y := Option.some.inj (r.abs.symm.trans q.abs)
theorem Vals.inj : ∀ {xs ys : List V} {us : List Value}, Vals xs us → Vals ys us → xs = ys
  | _, _, _, .nil, .nil => rfl
  | _, _, _, .cons r t, .cons r' t' => by rw [r.inj r', Vals.inj t t']
section
variable {X : Cx} {pins : List (Addr × Obj)} {σ : St} {H : Hp} {s : Shared} {a : Addr} {xs ys : List V}
theorem SqL.of {K : PySem.W.Frag} (h : H a = some (.lst xs)) : SqL K H a xs := .inl (.inl h)
theorem SqT.of {K : PySem.W.Frag} (h : H a = some (.tup xs)) : SqT K H a xs := .inl (.inl h)
theorem Inv.list (I : Inv X pins σ H s) (h : SqL X.K H a xs) : ∃ its : List Value, Vals xs its ∧ PlainL s.heap a its.toArray ∧ xs.length ≤ sizeLine := by
  rcases h with h | ⟨o, its, n, hk, hc, hd, hs, hz, r⟩
  · obtain ⟨z, its, n, r, e⟩ := h.ok I.hok
    exact ⟨its, r, ⟨_, n, e, rfl, rfl, rfl⟩, z⟩
  · refine ⟨its.toList, r, ⟨o, n, I.kIn a o hk, hc, hd, by simpa using hs⟩, ?_⟩
    have e := r.length
    simp only [Array.length_toList] at e
    omega
theorem Inv.tuple (I : Inv X pins σ H s) (h : SqT X.K H a xs) : ∃ its : List Value, Vals xs its ∧ IsTup s.heap a its.toArray ∧ xs.length ≤ sizeLine := by
  rcases h with h | ⟨o, its, n, hk, hc, hs, hz, r⟩
  · obtain ⟨z, its, r, p⟩ := h.ok I.hok
    exact ⟨its, r, p, z⟩
  · refine ⟨its.toList, r, ⟨o, I.kIn a o hk, hc, n, by simpa using hs⟩, ?_⟩
    have e := r.length
    simp only [Array.length_toList] at e
    omega
theorem Inv.EW (I : Inv X pins σ H s) (h : SqL X.K H a xs) (h' : SqL X.K H a ys) : xs = ys := by
  obtain ⟨its, r, ⟨o, n, e, _, _, d⟩, _⟩ := I.list h
  obtain ⟨its', r', ⟨o', n', e', _, _, d'⟩, _⟩ := I.list h'
  rw [e] at e'; cases e'
  rw [d] at d'
  injection d' with d1 _
  have : its = its' := by simpa using congrArg Array.toList d1
  subst this
  exact r.inj r'
theorem Inv.Ex (I : Inv X pins σ H s) (h : SqT X.K H a xs) (h' : SqT X.K H a ys) : xs = ys := by
  obtain ⟨its, r, ⟨o, e, _, n, d⟩, _⟩ := I.tuple h
  obtain ⟨its', r', ⟨o', e', _, n', d'⟩, _⟩ := I.tuple h'
  rw [e] at e'; cases e'
  rw [d] at d'
  injection d' with d1 _
  have : its = its' := by simpa using congrArg Array.toList d1
  subst this
  exact r.inj r'
end
abbrev Cx.wB (X : Cx) (E : Value → Shared → Prop) : Cx := { X with xe := E }
abbrev Cx.nox (X : Cx) : Cx := X.wB fun _ _ => False
theorem Cx.Ok.wB {X : Cx} (ok : X.Ok) (E : Value → Shared → Prop) : (X.wB E).Ok :=
  ⟨ok.mod, ok.kind, ok.glob, ok.blt, ok.above, ok.inj, ok.has, ok.cab, ok.hd, ok.qt, ok.frames, ok.stk, ok.exf, ok.bs, ok.bsz, ok.Bz, ok.HB, ok.vc, ok.frf⟩
theorem Cx.Ok.mW {X : Cx} {E : Value → Shared → Prop} (ok : (X.wB E).Ok) : X.Ok :=
  ⟨ok.mod, ok.kind, ok.glob, ok.blt, ok.above, ok.inj, ok.has, ok.cab, ok.hd, ok.qt, ok.frames, ok.stk, ok.exf, ok.bs, ok.bsz, ok.Bz, ok.HB, ok.vc, ok.frf⟩
section
variable {X : Cx} {pins : List (Addr × Obj)} {σ : St} {H : Hp} {s : Shared} {E : Value → Shared → Prop}
theorem Inv.wB (I : Inv X pins σ H s) (E : Value → Shared → Prop) : Inv (X.wB E) pins σ H s := ⟨I.ok.wB E, I.os, I.bare, I.base, I.loc, I.cell, I.free, I.mJ, I.pin, I.hok, I.len⟩
theorem Inv.mW (I : Inv (X.wB E) pins σ H s) : Inv X pins σ H s := ⟨I.ok.mW, I.os, I.bare, I.base, I.loc, I.cell, I.free, I.mJ, I.pin, I.hok, I.len⟩
theorem SP.mW {D : Ends} {f : Flow} {s' : Shared} (h : SP (X.wB E) pins D f s') : SP X pins D f s' := by
  cases f with
  | next => obtain ⟨σ', H', I, q⟩ := h; exact ⟨σ', H', I.mW, q⟩
  | brk => obtain ⟨σ', H', I, q⟩ := h; exact ⟨σ', H', I.mW, q⟩
  | cont => obtain ⟨σ', H', I, q⟩ := h; exact ⟨σ', H', I.mW, q⟩
  | ret u => obtain ⟨v, σ', H', I, r, q⟩ := h; exact ⟨v, σ', H', I.mW, r, q⟩
theorem PSs.nox {st : List Stmt} {t : TS} (h : PSs X.nox st t) : PSs X st t := fun pins s σ H D I hw =>
  wpAny_mono (h pins s σ H D (I.wB _) hw) (fun _ _ q => q.mW) fun _ _ z => False.elim z
end
section
variable {X : Cx} {st : Stmt} {rest : List Stmt} {t u : TS} {e : Expr} {te : TE} {pos : Pos}
def Ml : TS := fun D σ H => D.nx σ H
def LY (t u : TS) : TS := fun D σ H => t { D with nx := u D } σ H
theorem HQ : PSs X [] Ml := fun _ _ σ H _ I h => wpAny_execs_nil ⟨σ, H, I, h⟩
theorem GV (h1 : PS X st t) (h2 : PSs X rest u) : PSs X (st :: rest) (LY t u) := by
  intro pins s σ H D I h
  refine wpAny_execs_cons (thn (h1 pins s σ H { D with nx := u D } I h) fun f s1 q => ?_)
  cases f with
  | next =>
    obtain ⟨σ', H', I', q⟩ := q
    exact h2 pins s1 σ' H' D I' q
  | ret v => exact q
  | brk => exact q
  | cont => exact q
theorem Hw (h1 : PS X st t) : PSs X [st] t := by
  intro pins s σ H D I h
  refine wpAny_execs_cons (thn (h1 pins s σ H D I h) fun f s1 q => ?_)
  cases f with
  | next => exact wpAny_execs_nil q
  | ret v => exact q
  | brk => exact q
  | cont => exact q
theorem Inv.quiet {pins : List (Addr × Obj)} {σ : St} {H : Hp} {s : Shared} (I : Inv X pins σ H s) : interactive X.env = false := by simp [interactive, I.ok.kind]
def LI (te : TE) : TS := fun D σ H => te σ H fun _ H1 => D.nx σ H1
theorem Io (he : PE X e te) (hs : swapsWith e none pos.line X.env = pure false := by rfl) : PS X (.Expr e pos) (LI te) := by
  intro pins s σ H D I h
  exact wpAny_Expr_any (thn (he pins s σ H _ I h) fun v s1 ⟨x, H1, I1, r1, q1⟩ => ⟨σ, H1, I1, q1⟩) I.quiet hs
def MV (te : TE) : TS := fun D σ H => te σ H D.rt
theorem KS (he : PE X e te) : PS X (.Return (some e) pos) (MV te) := by
  intro pins s σ H D I h
  exact wpAny_Return_some (thn (he pins s σ H _ I h) fun v s1 ⟨x, H1, I1, r1, q1⟩ => ⟨x, σ, H1, I1, r1, q1⟩)
def M0 (c : TT) (t u : TS) : TS := fun D σ H => c σ H fun b H1 => if b = true then t D σ H1 else u D σ H1
theorem Mi {c : Expr} {a b : List Stmt} {tc : TT} (hc : PT X c tc) (ha : PSs X a t) (hb : PSs X b u) : PS X (.If c a b pos) (M0 tc t u) := by
  intro pins s σ H D I h
  refine wpAny_If (thn (hc pins s σ H _ I h) fun d s1 ⟨H1, I1, q1⟩ => ?_)
  cases d with
  | true => exact ha pins s1 σ H1 D I1 q1
  | false => exact hb pins s1 σ H1 D I1 q1
end
abbrev TG := V → St → Hp → (St → Hp → Prop) → Prop
abbrev TGs := List V → St → Hp → (St → Hp → Prop) → Prop
def PG (X : Cx) (target : Expr) (t : TG) : Prop :=
  ∀ (pins : List (Addr × Obj)) (s : Shared) (σ : St) (H : Hp) (v : V) (u : Value) (Q : St → Hp → Prop), Inv X pins σ H s → RelV v u → t v σ H Q →
    wpAny (model X.prog X.w) X.A (assign target X.env u) (fun _ s' => ∃ σ' H', Inv X pins σ' H' s' ∧ Q σ' H') X.xe s
def PGs (X : Cx) (ts : List Expr) (t : TGs) : Prop :=
  ∀ (pins : List (Addr × Obj)) (s : Shared) (σ : St) (H : Hp) (vs : List V) (us : List Value) (Q : St → Hp → Prop), Inv X pins σ H s → Vals vs us → t vs σ H Q →
    wpAny (model X.prog X.w) X.A (assignInOrder ((assignEach ts X.env).map (·.2)) us) (fun _ s' => ∃ σ' H', Inv X pins σ' H' s' ∧ Q σ' H') X.xe s
abbrev Jz := V → V → V → Hp → (Hp → Prop) → Prop
def Ln (X : Cx) (t : Jz) : Prop :=
  ∀ (pins : List (Addr × Obj)) (s : Shared) (σ : St) (H : Hp) (o i v : V) (ov iv u : Value) (Q : Hp → Prop), Inv X pins σ H s → RelV o ov → RelV i iv → RelV v u → t o i v H Q →
    wpAny (model X.prog X.w) X.A (setItem ov iv u) (fun _ s' => ∃ H', Inv X pins σ H' s' ∧ Q H') X.xe s
section
variable {X : Cx} {pos : Pos}
def E9 (i : Nat) : TG := fun v σ H Q => Q (σ.set i (some v)) H
theorem Ij {i : Nat} {x : Str} (hN : X.N.Nodup) (hi : X.N[i]? = some x) (hx : Loc X.env.scope x) (hf : X.fn x = true ∨ X.env.scope.names.lookup x = some .local := by first | exact .inl rfl | exact .inr rfl | assumption) : PG X (.Name x pos) (E9 i) := by
  intro pins s σ H v u Q I r h
  exact wpAny_assign_Name (nH I hN hi hx r (fun s' I' => ⟨_, H, I', h⟩) hf)
def MC : TGs := fun vs σ H Q => vs = [] ∧ Q σ H
def Lz (t : TG) (u : TGs) : TGs := fun vs σ H Q => ∃ v r, vs = v :: r ∧ t v σ H fun σ' H' => u r σ' H' Q
theorem Ip : PGs X [] MC := by
  intro pins s σ H vs us Q I r h
  obtain ⟨e, h⟩ := h
  subst e
  cases r
  exact assignInOrder_nil ⟨σ, H, I, h⟩
theorem ED {e : Expr} {es : List Expr} {t : TG} {u : TGs} (h1 : PG X e t) (h2 : PGs X es u)
    (hs : (assignEach (e :: es) X.env).map (·.2) = assign e X.env :: (assignEach es X.env).map (·.2) := by rfl) : PGs X (e :: es) (Lz t u) := by
  intro pins s σ H vs us Q I r h
  obtain ⟨v, vr, e1, h⟩ := h
  subst e1
  cases r with
  | cons r rr =>
    rw [hs]
    refine assignInOrder_cons (thn (h1 pins s σ H _ _ _ I r h) fun _ s1 ⟨σ1, H1, I1, q1⟩ => ?_)
    exact h2 pins s1 σ1 H1 _ _ Q I1 rr q1
def MA (K : PySem.W.Frag) (n : Nat) (t : TGs) : TG := fun v σ H Q => ∃ a xs, v = .ref a ∧ SqT K H a xs ∧ xs.length = n ∧ t xs σ H Q
theorem Kj {es : List Expr} {k : Nat} {t : TGs} {n : Nat} (hc : X.calm = X.calm) (h : PGs X es t)
    (hn : (assignEach es X.env).length = n := by rfl) (hst : (assignEach es X.env).findIdx? (·.1) = none := by rfl) : PG X (.Tuple es k pos) (MA X.K n t) := by
  intro pins s σ H v u Q I r hw
  obtain ⟨a, xs, e1, hq, hl, hw⟩ := hw
  subst e1
  cases r
  obtain ⟨its, rv, ht, hz⟩ := I.tuple hq
  refine wY I.Co ht (by simp [hn, ← hl, rv.length]) hst fun h' hx => ?_
  have I1 : Inv X pins σ H { s with heap := h' } := I.kept (t' := s.toks) fun b o e => hx b o (Nat.ne_of_lt (Heap.lt_size e)) e
  exact h pins _ σ H xs _ Q I1 (by simpa using rv) hw
def MQ (to ti : TE) (t : Jz) : TG := fun v σ H Q => to σ H fun o H1 => ti σ H1 fun i H2 => t o i v H2 fun H3 => Q σ H3
theorem JU {o i : Expr} {to ti : TE} {t : Jz} (ho : PE X o to) (hi : PE X i ti) (hs : Ln X t)
    (ha : ∀ v, assign (.Subscript o i pos) X.env v = (do
      let ov ← holding [v] (eval o X.env)
      let iv ← holding [v, ov] (eval i X.env)
      standAt pos
      holding [v, ov, iv] (setItem ov iv v)
      release [v, ov, iv] []) := by intro _; rfl) : PG X (.Subscript o i pos) (MQ to ti t) := by
  intro pins s σ H v u Q I r h
  rw [ha]
  refine wpAny_bind (wpAny_holding (thn (ho pins s σ H _ I h) fun ov s1 ⟨x, H1, I1, r1, q1⟩ => ?_))
  refine wpAny_bind (wpAny_holding (thn (hi pins s1 σ H1 _ I1 q1) fun iv s2 ⟨y, H2, I2, r2, q2⟩ => ?_))
  refine wpAny_bind (wpAny_standAt (wpAny_bind (wpAny_holding (thn (hs pins s2 σ H2 x y v ov iv u _ I2 r1 r2 r q2) fun _ s3 ⟨H3, I3, q3⟩ => ?_))))
  exact wpAny_release ⟨σ, H3, I3, q3⟩
def K6 (te : TE) (g : TG) : TS := fun D σ H => te σ H fun x H1 => g x σ H1 D.nx
theorem Km {tg e : Expr} {te : TE} {g : TG} (he : PE X e te) (hg : PG X tg g) (hs : swapsWithSole [tg] e pos.line X.env = pure false := by rfl) (hw : swappedStores [tg] e X.env = pure none := by rfl)
    (h1 : (assignEach [tg] X.env).map (·.2) = [assign tg X.env] := by rfl) : PS X (.Assign [tg] e pos) (K6 te g) := by
  intro pins s σ H D I h
  refine wpAny_Assign_stores (thn (he pins s σ H _ I h) fun v s1 ⟨x, H1, I1, r1, q1⟩ => ?_) hs hw
  rw [h1]
  exact thn (hg pins s1 σ H1 x v _ I1 r1 q1) fun _ s2 q => q
theorem Lk {i : Nat} {x : Str} {e : Expr} {te : TE} {pos' : Pos} (hN : X.N.Nodup) (hi : X.N[i]? = some x) (hx : Loc X.env.scope x) (he : PE X e te) (hs : swapsWith e (some (.Name x pos')) pos.line X.env = pure false := by rfl) (hf : X.fn x = true ∨ X.env.scope.names.lookup x = some .local := by first | exact .inl rfl | exact .inr rfl | assumption) :
    PS X (.Assign [.Name x pos'] e pos) (K6 te (E9 i)) := by
  intro pins s σ H D I h
  refine wpAny_Assign_Name (thn (he pins s σ H _ I h) fun v s1 ⟨y, H1, I1, r1, q1⟩ => ?_) hs
  exact nH I1 hN hi hx r1 (fun s2 I2 => ⟨_, H1, I2, q1⟩) hf
def MP (i j : Nat) (ta : TA) : TS := fun D σ H => ta σ H fun vs H1 => ∃ v w, vs = [v, w] ∧ D.nx ((σ.set i (some v)).set j (some w)) H1
theorem JQ {i j : Nat} {x y : Str} {a b : Expr} {ta : TA} {px py pt : Pos} {kt k2 pt2} (hc : X.calm = true) (hN : X.N.Nodup) (hi : X.N[i]? = some x) (hj : X.N[j]? = some y) (hij : i ≠ j)
    (hx : X.env.scope.names.lookup x = some .local) (hy : X.env.scope.names.lookup y = some .local) (ha : PA X [a, b] ta)
    (hw : swappedStores [.Tuple [.Name x px, .Name y py] kt pt] (.Tuple [a, b] k2 pt2) X.env = pure (some [x, y]))
    (hs : swapsWithSole [.Tuple [.Name x px, .Name y py] kt pt] (.Tuple [a, b] k2 pt2) pos.line X.env = pure false := by rfl) :
    PS X (.Assign [.Tuple [.Name x px, .Name y py] kt pt] (.Tuple [a, b] k2 pt2) pos) (MP i j ta) := by
  intro pins s σ H D I h
  rw [exec_Assign_arm]
  refine wpAny_bind (wpAny_standAt ?_)
  rw [hs]
  refine wpAny_bind (wpAny_pure ?_)
  rw [if_neg (by decide)]
  refine wpAny_bind (Tuple_ (thn (ha _ pins s σ H _ I h) fun us s1 ⟨vs, H1, I1, r1, q1⟩ => ?_))
  obtain ⟨v, w, e1, q1⟩ := q1
  subst e1
  obtain ⟨u1, u2, rfl, rv, rw'⟩ : ∃ u1 u2, us = [u1, u2] ∧ RelV v u1 ∧ RelV w u2 := by
    cases r1 with
    | cons p q =>
      cases q with
      | cons p' q' =>
        cases q'
        exact ⟨_, _, rfl, p, p'⟩
  refine wpAny_newObj_type ?_ (by show 2 ≤ sizeLine; decide)
  have I2 : Inv X pins σ H1 { s1 with heap := s1.heap.push { cls := .type "tuple", data := .seq [u1, u2].toArray } } := I1.kept (t' := s1.toks) fun b o e => Heap.get?_push_of_some _ e
  rw [hw]
  refine wpAny_bind (wpAny_pure ?_)
  show wpAny (model X.prog X.w) X.A (do rule "assign.swapped-stores"; let items ← unpackItems (.ref s1.heap.objs.size) 2 none; assignInOrder [fun v => bindName X.env y v, fun v => bindName X.env x v] items.reverse; pure Flow.next) _ _ _
  refine wpAny_bind (wpAny_rule (wpAny_bind (unpackItems_tuple (items := #[u1, u2]) (I.ok.hd hc) (IsTup.new s1.heap _) fun h' hx' => ?_)))
  have I3 := I2.kept (h' := h') (t' := s1.toks) fun b o e => hx' b o (Nat.ne_of_lt (Heap.lt_size e)) e
  show wpAny _ _ (assignInOrder [fun v => bindName X.env y v, fun v => bindName X.env x v] [u2, u1] >>= fun _ => pure Flow.next) _ _ _
  refine wpAny_bind (assignInOrder_cons (wpAny_bindName (nH I3 hN hj (.inl hy) rw' (fun s2 I4 => ?_) (.inr hy))))
  refine assignInOrder_cons (wpAny_bindName (nH I4 hN hi (.inl hx) rv (fun s3 I5 => assignInOrder_nil (wpAny_pure ?_)) (.inr hx)))
  rw [List.set_comm _ _ (Ne.symm hij)] at I5
  exact ⟨_, H1, I5, q1⟩
end
section
variable {X : Cx} {pos : Pos}
def KR (c : TT) (tb : TS) : TS := fun D σ H => ∃ W : Nat → St → Hp → Prop, (∃ m, W m σ H) ∧ ∀ m σ H, W m σ H →
  c σ H fun b H1 => if b = true then ∃ N : St → Hp → Prop, (∀ σ' H', N σ' H' → ∃ m', m' < m ∧ W m' σ' H') ∧ tb { D with nx := N, ct := N, bk := D.nx } σ H1 else D.nx σ H1
theorem Gx {c : Expr} {body : List Stmt} {tc : TT} {tb : TS} (hp : PassesOwn (model X.prog X.w) X.A X.env X.xe) (hc : PT X c tc) (hb : PSs X body tb) : PS X (.While c body [] pos) (KR tc tb) := by
  intro pins s σ H D I h
  obtain ⟨W, ⟨m0, w0⟩, turn⟩ := h
  refine wpAny_While (codeAny_whileLoop (fun n s' => ∃ σ' H', Inv X pins σ' H' s' ∧ W n σ' H') ?_ m0 ⟨σ, H, I, w0⟩)
  rintro n s1 ⟨σ1, H1, I1, w1⟩
  refine wpAny_passesOwn hp (thn (hc pins s1 σ1 H1 _ I1 (turn n σ1 H1 w1)) fun b s2 ⟨H2, I2, q2⟩ => ?_)
  cases b with
  | true =>
    obtain ⟨N, hN, q2⟩ := q2
    rw [if_pos rfl]
    refine wpAny_passesOwn hp (thn (hb pins s2 σ1 H2 _ I2 q2) fun f s3 q3 => ?_)
    cases f with
    | next =>
      obtain ⟨σ3, H3, I3, n3⟩ := q3
      obtain ⟨m', hm, w3⟩ := hN σ3 H3 n3
      exact ⟨m', hm, σ3, H3, I3, w3⟩
    | cont =>
      obtain ⟨σ3, H3, I3, n3⟩ := q3
      obtain ⟨m', hm, w3⟩ := hN σ3 H3 n3
      exact ⟨m', hm, σ3, H3, I3, w3⟩
    | brk => exact q3
    | ret v => exact q3
  | false =>
    rw [if_neg Bool.false_ne_true]
    exact wpAny_execs_nil ⟨σ1, H2, I2, q2⟩
end
structure It where
  go : Nat → Hp → Prop
  yld : Nat → Hp → V → Hp → Prop
  stop : Nat → Hp → Prop
def wQ (X : Cx) (pins : List (Addr × Obj)) (H : Hp) (b : Addr) : Prop :=
  H b = none ∧ b ≠ X.env.locals ∧ b ∉ X.fs ∧ (b ∈ X.ex ∨ X.s₀.heap.objs.size ≤ b) ∧ (∀ x c, X.env.cells.lookup x = some c → c ≠ b) ∧ ∀ p ∈ X.pn ++ pins, p.1 ≠ b
theorem Inv.Ho {X : Cx} {pins : List (Addr × Obj)} {σ : St} {H H' : Hp} {s : Shared} {b : Addr} (I : Inv X pins σ H s) (hb : s.heap.objs.size ≤ b) (hn : H' b = none) : wQ X pins H' b := by
  refine ⟨hn, Nat.ne_of_gt (Nat.lt_of_lt_of_le I.lt hb), I.M6 hb, .inr (Nat.le_trans I.sz hb), fun x c e z => ?_, fun p hp z => ?_⟩
  · obtain ⟨v, q⟩ := I.cell x c e
    exact absurd (Nat.lt_of_lt_of_le q.lt (by rw [z]; exact hb)) (Nat.lt_irrefl _)
  · exact absurd (Nat.lt_of_lt_of_le (Heap.lt_size (I.pin p hp).1) (by rw [z]; exact hb)) (Nat.lt_irrefl _)
structure Turn (c : Bool) (P : Program) (w : World) (K : PySem.W.Frag) (tg : Expr) (J : It) (fp : List Addr) (it : Addr) (tn : Nat → Heap → Prop) : Prop where
  mem : it ∈ fp
  obj : ∀ i h, tn i h → ∀ b ∈ fp, ∃ o, h.get? b = some o ∧ ∀ v, o.data ≠ .cell v
  keep : ∀ i h h', tn i h → (∀ b ∈ fp, ∀ o, h.get? b = some o → h'.get? b = some o) → tn i h'
  item : ∀ (X : Cx), X.prog = P → X.w = w → X.K = K → (c = true → X.calm = true) → ∀ (i : Nat) (pins : List (Addr × Obj)) (s : Shared) (σ : St) (H : Hp) (E : Value → Shared → Prop), Inv X pins σ H s → (∀ b ∈ fp, wQ X pins H b) → tn i s.heap → J.go i H →
    wpAny (model P w) X.A (pyNext (.ref it)) (fun r s1 => ∃ u, r = some u ∧
      wpAny (model P w) X.A (letOwnedTupleGo tg (.ref it) u) (fun _ s2 => ∃ x H', Inv X pins σ H' s2 ∧ RelV x u ∧ J.yld i H x H' ∧ tn (i + 1) s2.heap ∧ ∀ b ∈ fp, H' b = none) E s1) E s
  done : ∀ (X : Cx), X.prog = P → X.w = w → X.K = K → (c = true → X.calm = true) → ∀ (i : Nat) (pins : List (Addr × Obj)) (s : Shared) (σ : St) (H : Hp) (E : Value → Shared → Prop), Inv X pins σ H s → (∀ b ∈ fp, wQ X pins H b) → tn i s.heap → J.stop i H →
    wpAny (model P w) X.A (pyNext (.ref it)) (fun r s1 => r = none ∧ Inv X pins σ H s1) E s
  self : ∀ (A : Around) (i : Nat) (s : Shared) (Q : Value → Shared → Prop) (E : Value → Shared → Prop), tn i s.heap → Q (.ref it) s → wpAny (model P w) A (pyIter (.ref it)) Q E s
theorem Turn.calm {c : Bool} {P : Program} {w : World} {K : PySem.W.Frag} {tg : Expr} {J : It} {fp : List Addr} {it : Addr} {tn : Nat → Heap → Prop} (T : Turn true P w K tg J fp it tn) (h : c = true) : Turn c P w K tg J fp it tn := by subst h; exact T
abbrev TI := St → Hp → (It → Hp → Prop) → Prop
def PIE (X : Cx) (pins : List (Addr × Obj)) (σ : St) (tg : Expr) (R : It → Hp → Prop) (itv : Value) (s2 : Shared) : Prop :=
  ∃ (it : Addr) (fp : List Addr) (tn : Nat → Heap → Prop) (J : It) (H' : Hp), itv = .ref it ∧ Inv X pins σ H' s2 ∧ Turn X.calm X.prog X.w X.K tg J fp it tn ∧ tn 0 s2.heap ∧ (∀ b ∈ fp, wQ X pins H' b) ∧ R J H'
def PI (X : Cx) (tg iter : Expr) (wi : TI) : Prop :=
  ∀ (pins : List (Addr × Obj)) (s : Shared) (σ : St) (H : Hp) (R : It → Hp → Prop), Inv X pins σ H s → wi σ H R →
    wpAny (model X.prog X.w) X.A (eval iter X.env) (fun v s1 => wpAny (model X.prog X.w) X.A (pyIter v) (PIE X pins σ tg R) X.xe s1) X.xe s
theorem EZ {M : Model} {A : Around} {E : Value → Shared → Prop} {s : Shared} {tg : Expr} {it : Addr} {u : Value} {o : Obj} {n : String} {vs : Array Value} {Q : Unit → Shared → Prop} (ho : s.heap.get? it = some o) (hc : o.cls = .type n) (hd : o.data = .fields vs)
    (hn : ["enumerate", "zip", "dict_itemiterator", "dict_reverseitemiterator", "odict_iterator", "itertools.zip_longest", "itertools.pairwise"].contains n = false) (hQ : Q () s) : wpAny M A (letOwnedTupleGo tg (.ref it) u) Q E s := by
  unfold letOwnedTupleGo
  cases tg <;> first
    | exact wpAny_pure hQ
    | (cases u <;> first
        | exact wpAny_pure hQ
        | (refine wpAny_bind (wpAny_load ho ?_)
           rw [hc, hd]
           show wpAny M A (if (["enumerate", "zip", "dict_itemiterator", "dict_reverseitemiterator", "odict_iterator", "itertools.zip_longest", "itertools.pairwise"].contains n && vs[0]? == some (rawInt _)) = true then _ else _) Q E s
           rw [if_neg (by intro h; rw [hn, Bool.false_and] at h; cases h)]
           exact wpAny_pure hQ))
def Itl (K : PySem.W.Frag) (a : Addr) : It :=
  ⟨fun i H => ∃ xs x, SqL K H a xs ∧ xs[i]? = some x, fun i H x H' => H' = H ∧ ∀ xs, SqL K H a xs → xs[i]? = some x, fun i H => ∃ xs, SqL K H a xs ∧ xs.length ≤ i⟩
def Itt (K : PySem.W.Frag) (a : Addr) : It :=
  ⟨fun i H => ∃ xs x, SqT K H a xs ∧ xs[i]? = some x, fun i H x H' => H' = H ∧ ∀ xs, SqT K H a xs → xs[i]? = some x, fun i H => ∃ xs, SqT K H a xs ∧ xs.length ≤ i⟩
def Itr (lo : Int) (n : Nat) : It := ⟨fun i _ => i < n, fun i H x H' => H' = H ∧ x = .int (lo + i), fun i _ => n ≤ i⟩
theorem Eg {c : Bool} {P : Program} {w : World} {K : PySem.W.Frag} {tg : Expr} (a it : Addr) : Turn c P w K tg (Itl K a) [it] it (fun i h => h.IsListIter it a i) where
  mem := by simp
  obj := fun i h st b hb => by
    have e : b = it := by simpa using hb
    subst e
    obtain ⟨o, e, c, d⟩ := st
    exact ⟨o, e, fun v z => by rw [d] at z; cases z⟩
  keep := fun i h h' st k => st.at fun o e => k it (by simp) o e
  item := by
    intro X hP hw hK hc i pins s σ H E I hf st hg
    subst hP hw hK
    obtain ⟨xs, x, hq, hx⟩ := hg
    obtain ⟨its, rv, p, hz⟩ := I.list hq
    obtain ⟨u, hu, ru⟩ := rv.get hx
    obtain ⟨f0, f1, f2, f3, f4, f5⟩ := hf it (by simp)
    refine wpAny_pyNext_list_item st p.isList (x := u) (by simpa using hu) fun h' st' sb => ?_
    have I1 : Inv X pins σ H { s with heap := h' } := I.turned (t' := s.toks) (fun b o hb e => (sb.2 b hb).trans e) f0 f1 f3 f4 f5
    obtain ⟨o, e, c, d⟩ := id st'
    exact ⟨u, rfl, EZ (s := { s with heap := h' }) e c d (by decide) ⟨x, H, I1, ru, ⟨rfl, fun ys hy => by rw [I.EW hy hq]; exact hx⟩, st', fun b hb => (hf b hb).1⟩⟩
  done := by
    intro X hP hw hK hc i pins s σ H E I hf st hg
    subst hP hw hK
    obtain ⟨xs, hq, hx⟩ := hg
    obtain ⟨its, rv, p, hz⟩ := I.list hq
    obtain ⟨f0, f1, f2, f3, f4, f5⟩ := hf it (by simp)
    have hl := rv.length
    exact wj I.Co (I.hne f5) st p.isList (by simp; omega) fun h' eb => ⟨rfl, I.turned (t' := s.toks) (fun b o hb e => eb b o hb e) f0 f1 f3 f4 f5⟩
  self := fun _ _ _ _ _ st h => wpAny_pyIter_listiter st h
theorem BK {c : Bool} {P : Program} {w : World} {K : PySem.W.Frag} {tg : Expr} (a it : Addr) : Turn c P w K tg (Itt K a) [it] it (fun i h => h.IsTupleIter it a i) where
  mem := by simp
  obj := fun i h st b hb => by
    have e : b = it := by simpa using hb
    subst e
    obtain ⟨o, e, c, d⟩ := st
    exact ⟨o, e, fun v z => by rw [d] at z; cases z⟩
  keep := fun i h h' st k => st.at fun o e => k it (by simp) o e
  item := by
    intro X hP hw hK hc i pins s σ H E I hf st hg
    subst hP hw hK
    obtain ⟨xs, x, hq, hx⟩ := hg
    obtain ⟨its, rv, p, hz⟩ := I.tuple hq
    obtain ⟨u, hu, ru⟩ := rv.get hx
    obtain ⟨f0, f1, f2, f3, f4, f5⟩ := hf it (by simp)
    refine wpAny_pyNext_tuple_item st (show s.heap.IsTuple a its.toArray from p) (x := u) (by simpa using hu) fun h' st' sb => ?_
    have I1 : Inv X pins σ H { s with heap := h' } := I.turned (t' := s.toks) (fun b o hb e => (sb.2 b hb).trans e) f0 f1 f3 f4 f5
    obtain ⟨o, e, c, d⟩ := id st'
    exact ⟨u, rfl, EZ (s := { s with heap := h' }) e c d (by decide) ⟨x, H, I1, ru, ⟨rfl, fun ys hy => by rw [I.Ex hy hq]; exact hx⟩, st', fun b hb => (hf b hb).1⟩⟩
  done := by
    intro X hP hw hK hc i pins s σ H E I hf st hg
    subst hP hw hK
    obtain ⟨xs, hq, hx⟩ := hg
    obtain ⟨its, rv, p, hz⟩ := I.tuple hq
    obtain ⟨f0, f1, f2, f3, f4, f5⟩ := hf it (by simp)
    have hl := rv.length
    exact rj I.Co (I.hne f5) st (show s.heap.IsTuple a its.toArray from p) (by simp; omega) fun h' eb => ⟨rfl, I.turned (t' := s.toks) (fun b o hb e => eb b o hb e) f0 f1 f3 f4 f5⟩
  self := fun _ _ _ _ _ st h => wpAny_pyIter_tupleiter st h
theorem B5 {P : Program} {w : World} {K : PySem.W.Frag} {tg : Expr} (it : Addr) (lo : Int) (n : Nat) : Turn true P w K tg (Itr lo n) [it] it (fun i h => IsRangeIter h it (lo + (i : Nat) * 1) ((n : Int) - (i : Nat)) 1) where
  mem := by simp
  obj := fun i h st b hb => by
    have e : b = it := by simpa using hb
    subst e
    exact ⟨_, st, fun v z => by
      have z' : Data.fields _ = Data.cell v := z
      cases z'⟩
  keep := fun i h h' st k => k it (by simp) _ st
  item := by
    intro X hP hw hK hc i pins s σ H E I hf st hg
    subst hP hw hK
    obtain ⟨f0, f1, f2, f3, f4, f5⟩ := hf it (by simp)
    have W := Walks.range (prog := X.prog) (w := X.w) (I.ok.hd (hc rfl)) it lo 1 n
    refine W.item i s _ _ hg st fun v h' tk hv st' kk => ?_
    obtain ⟨t, rfl⟩ := hv
    have I1 : Inv X pins σ H { s with heap := h', toks := tk } := I.turned (fun b o hb e => kk b o (by simpa using hb) e) f0 f1 f3 f4 f5
    refine ⟨_, rfl, EZ (s := { s with heap := h', toks := tk }) (n := "range_iterator") st' rfl rfl (by decide) ⟨.int (lo + i), H, I1, ⟨t, ?_⟩, ⟨rfl, rfl⟩, st', fun b hb => (hf b hb).1⟩⟩
    rw [Int.mul_one]
  done := by
    intro X hP hw hK hc i pins s σ H E I hf st hg
    subst hP hw hK
    obtain ⟨f0, f1, f2, f3, f4, f5⟩ := hf it (by simp)
    exact wpAny_pyNext_range_end (I.ok.hd (hc rfl)) st (by have : n ≤ i := hg; omega) fun h' eb => ⟨rfl, I.turned (t' := s.toks) (fun b o hb e => eb b o hb e) f0 f1 f3 f4 f5⟩
  self := fun _ _ _ _ _ st h => wpAny_pyIter_rangeiter st h
end L2
namespace L2
open PySem PySem.Spec PyProof.Rows
section
variable {X : Cx} {tg : Expr}
def Mo (K : PySem.W.Frag) (tl : TE) : TI := fun σ H R => tl σ H fun x H1 => ∃ a, x = .ref a ∧ (∃ xs, SqL K H1 a xs) ∧ R (Itl K a) H1
def MI (K : PySem.W.Frag) (tl : TE) : TI := fun σ H R => tl σ H fun x H1 => ∃ a, x = .ref a ∧ (∃ xs, SqT K H1 a xs) ∧ R (Itt K a) H1
theorem Dl {l : Expr} {tl : TE} (hl : PE X l tl) : PI X tg l (Mo X.K tl) := by
  intro pins s σ H R I h
  refine thn (hl pins s σ H _ I h) fun v s1 ⟨x, H1, I1, r1, q1⟩ => ?_
  obtain ⟨a, e, ⟨xs, hq⟩, q⟩ := q1
  subst e
  cases r1
  obtain ⟨its, rv, p, hz⟩ := I1.list hq
  refine wpAny_pyIter_list p.isList ?_
  refine ⟨s1.heap.objs.size, [s1.heap.objs.size], _, _, H1, rfl, I1.kept (t' := s1.toks) fun b o e => Heap.get?_push_of_some _ e, Eg a _, ⟨_, Heap.get?_push_size _ rfl, rfl, rfl⟩, fun b hb => ?_, q⟩
  have e : b = s1.heap.objs.size := by simpa using hb
  subst e
  exact I1.Ho (Nat.le_refl _) (I1.hok.fresh (Nat.le_refl _))
theorem J3 {l : Expr} {tl : TE} (hl : PE X l tl) : PI X tg l (MI X.K tl) := by
  intro pins s σ H R I h
  refine thn (hl pins s σ H _ I h) fun v s1 ⟨x, H1, I1, r1, q1⟩ => ?_
  obtain ⟨a, e, ⟨xs, hq⟩, q⟩ := q1
  subst e
  cases r1
  obtain ⟨its, rv, p, hz⟩ := I1.tuple hq
  refine wpAny_pyIter_tuple (show s1.heap.IsTuple a its.toArray from p) ?_
  refine ⟨s1.heap.objs.size, [s1.heap.objs.size], _, _, H1, rfl, I1.kept (t' := s1.toks) fun b o e => Heap.get?_push_of_some _ e, BK a _, ⟨_, Heap.get?_push_size _ rfl, rfl, rfl⟩, fun b hb => ?_, q⟩
  have e : b = s1.heap.objs.size := by simpa using hb
  subst e
  exact I1.Ho (Nat.le_refl _) (I1.hok.fresh (Nat.le_refl _))
theorem A5 (hc : X.calm = true) {pins : List (Addr × Obj)} {σ : St} {H : Hp} {s : Shared} {R : It → Hp → Prop} {E : Value → Shared → Prop} {lo hi : Int} {t u v : Tok} {tk : Nat} (I : Inv X pins σ H s) (h1 : -(2 ^ 62) ≤ lo) (h2 : lo < 2 ^ 62) (h3 : -(2 ^ 62) ≤ hi) (h4 : hi < 2 ^ 62)
    (q : R (Itr lo (hi - lo).toNat) H) : wpAny (model X.prog X.w) X.A (pyIter (.ref s.heap.objs.size)) (PIE X pins σ tg R) E { s with heap := s.heap.push { cls := .type "range", data := .fields #[.int lo t, .int hi u, .int 1 v] }, toks := tk } := by
  refine wpAny_pyIter_range (IsRange.new ..) (small_one h1 h2 h3 h4) ?_
  have I1 : Inv X pins σ H { s with heap := s.heap.push { cls := .type "range", data := .fields #[.int lo t, .int hi u, .int 1 v] }, toks := tk } := I.kept fun b o e => Heap.get?_push_of_some _ e
  refine ⟨(s.heap.push { cls := .type "range", data := .fields #[.int lo t, .int hi u, .int 1 v] }).objs.size, [(s.heap.push { cls := .type "range", data := .fields #[.int lo t, .int hi u, .int 1 v] }).objs.size], _, _, H, rfl,
    I1.kept (t' := tk) fun b o e => Heap.get?_push_of_some _ e, (B5 _ lo (hi - lo).toNat).calm hc, ?_, fun b hb => ?_, q⟩
  · have e1 : lo + ((0 : Nat) : Int) * 1 = lo := by simp
    have e2 : (((hi - lo).toNat : Nat) : Int) - ((0 : Nat) : Int) = Builtin.Range.rangeSize lo hi 1 := by rw [rangeSize_one]; split <;> omega
    show IsRangeIter _ _ (lo + ((0 : Nat) : Int) * 1) ((((hi - lo).toNat : Nat) : Int) - ((0 : Nat) : Int)) 1
    rw [e1, e2]
    exact Heap.get?_push_size _ rfl
  · have e : b = (s.heap.push { cls := .type "range", data := .fields #[.int lo t, .int hi u, .int 1 v] }).objs.size := by simpa using hb
    subst e
    exact I1.Ho (Nat.le_refl _) (I1.hok.fresh (Nat.le_refl _))
def LB (ta : TA) : TI := fun σ H R => ta σ H fun vs H1 => ∃ j : Int, vs = [.int j] ∧ -(2 ^ 62) ≤ j ∧ j < 2 ^ 62 ∧ R (Itr 0 j.toNat) H1
def LX (ta : TA) : TI := fun σ H R => ta σ H fun vs H1 => ∃ i j : Int, vs = [.int i, .int j] ∧ (-(2 ^ 62) ≤ i ∧ i < 2 ^ 62 ∧ -(2 ^ 62) ≤ j ∧ j < 2 ^ 62) ∧ R (Itr i (j - i).toNat) H1
theorem D9 {a : Expr} {ta : TA} {p pos : Pos} (hc : X.calm = true) (hg : Gl X "range") (hm : X.mg "range" = none) (ha : PA X [a] ta) (hs : starEach [a] X.env = [(false, eval a X.env)] := by rfl) : PI X tg (.Call (.Name "range" p) [a] [] pos) (LB ta) := by
  intro pins s σ H R I h
  refine Call_ (u7 I hg hm boot_range (PyProof.Rows.callWith_type1 (thn (ha pos pins s σ H _ I h) fun us s1 ⟨vs, H1, I1, r1, q1⟩ => ?_) hs rfl))
  obtain ⟨j, e, q1, q2, q⟩ := q1
  subst e
  cases r1 with
  | cons r rr =>
    cases rr
    obtain ⟨t, rfl⟩ := r
    exact call_range_1 (A5 hc I1 (by omega) (by omega) q1 q2 (by simpa using q))
theorem D4 {a b : Expr} {ta : TA} {p pos : Pos} (hc : X.calm = true) (hg : Gl X "range") (hm : X.mg "range" = none) (ha : PA X [a, b] ta) (hs : starEach [a, b] X.env = [(false, eval a X.env), (false, eval b X.env)] := by rfl) (hs2 : starEach [b] X.env = [(false, eval b X.env)] := by rfl) :
    PI X tg (.Call (.Name "range" p) [a, b] [] pos) (LX ta) := by
  intro pins s σ H R I h
  refine Call_ (u7 I hg hm boot_range (PyProof.Rows.callWith_type1 (thn (ha pos pins s σ H _ I h) fun us s1 ⟨vs, H1, I1, r1, q1⟩ => ?_) (by rw [hs, hs2]) (by rw [hs2]; rfl)))
  obtain ⟨i, j, e, ⟨q1, q2, q3, q4⟩, q⟩ := q1
  subst e
  cases r1 with
  | cons r rr =>
    cases rr with
    | cons r' rr =>
      cases rr
      obtain ⟨t, rfl⟩ := r
      obtain ⟨t', rfl⟩ := r'
      exact call_range_2 (A5 hc I1 q1 q2 q3 q4 q)
def ML (wi : TI) (g : TG) (tb : TS) : TS := fun D σ H => wi σ H fun J H1 => ∃ W : Nat → Nat → St → Hp → Prop, (∃ m, W 0 m σ H1) ∧ ∀ i m σ H, W i m σ H →
  (J.stop i H ∧ D.nx σ H) ∨ (J.go i H ∧ ∃ N : St → Hp → Prop, (∀ σ' H', N σ' H' → ∃ m', m' < m ∧ W (i + 1) m' σ' H') ∧ ∀ x H', J.yld i H x H' → g x σ H' fun σ2 H2 => tb { D with nx := N, ct := N, bk := D.nx } σ2 H2)
def pV (fp : List Addr) (h : Heap) : List (Addr × Obj) := fp.filterMap fun b => (h.get? b).map fun o => (b, o)
theorem eB {fp : List Addr} {h : Heap} {b : Addr} {o : Obj} (hb : b ∈ fp) (e : h.get? b = some o) : (b, o) ∈ pV fp h := List.mem_filterMap.mpr ⟨b, hb, by rw [e]; rfl⟩
theorem Es {fp : List Addr} {h : Heap} {p : Addr × Obj} (hp : p ∈ pV fp h) : p.1 ∈ fp ∧ h.get? p.1 = some p.2 := by
  obtain ⟨b, hb, e⟩ := List.mem_filterMap.mp hp
  cases q : h.get? b with
  | none => rw [q] at e; cases e
  | some o =>
    rw [q] at e
    have e' : (b, o) = p := Option.some.inj e
    subst e'
    exact ⟨hb, q⟩
theorem Inv.pinned {pins : List (Addr × Obj)} {σ : St} {H : Hp} {s : Shared} {fp : List Addr} (I : Inv X pins σ H s) (hf : ∀ b ∈ fp, wQ X pins H b) (ho : ∀ b ∈ fp, ∃ o, s.heap.get? b = some o ∧ ∀ v, o.data ≠ .cell v) : Inv X (pins ++ pV fp s.heap) σ H s :=
  I.Dm fun p hp => (List.mem_append.mp hp).elim (fun z => I.pin p (List.mem_append_right _ z)) fun z => by
    obtain ⟨hb, e⟩ := Es z
    obtain ⟨f0, f1, f2, _⟩ := hf p.1 hb
    obtain ⟨o, e', d⟩ := ho p.1 hb
    rw [e] at e'; cases e'
    exact ⟨e, f0, f1, f2, d⟩
theorem Inv.jZ {pins pl : List (Addr × Obj)} {σ : St} {H : Hp} {s : Shared} (I : Inv X (pins ++ pl) σ H s) : Inv X pins σ H s := I.Dm fun p hp => I.pin p (List.mem_append_right _ (List.mem_append_left _ hp))
theorem J2 {iter : Expr} {body : List Stmt} {wi : TI} {g : TG} {tb : TS} {pos : Pos} (hp : PassesOwn (model X.prog X.w) X.A X.env X.xe) (hc : X.calm = true) (hi : PI X tg iter wi) (hg : PG X tg g) (hb : PSs X body tb)
    (hs : ∀ x, foldedSetIterable iter X.env x = pure x := by intro _; rfl) : PS X (.For tg iter body [] pos) (ML wi g tb) := by
  intro pins s σ H D I h
  refine wpAny_For (thn (hi pins s σ H _ I h) fun v s1 h1 => thn h1 fun itv s2 h2 => ?_) hs
  obtain ⟨it, fp, tn, J, H2, e, I2, T, st2, f2, W, ⟨m0, w0⟩, turn⟩ := h2
  subst e
  have stat : ∀ {H' : Hp}, (∀ b ∈ fp, H' b = none) → ∀ b ∈ fp, wQ X pins H' b := fun hn b hb => ⟨hn b hb, (f2 b hb).2⟩
  refine codeAny_forLoop_any (fun n s' => ∃ i σ' H', Inv X pins σ' H' s' ∧ tn i s'.heap ∧ (∀ b ∈ fp, H' b = none) ∧ W i n σ' H') ?_ m0 ⟨0, σ, H2, I2, st2, fun b hb => (f2 b hb).1, w0⟩
  rintro n s3 ⟨i, σ3, H3, I3, st3, fr3, w3⟩
  rcases turn i n σ3 H3 w3 with ⟨stop, qn⟩ | ⟨go, N, hN, step⟩
  · refine wpAny_passesOwn hp (thn (T.done X rfl rfl rfl (fun z => z) i pins s3 σ3 H3 X.xe I3 (stat fr3) st3 stop) fun r s4 ⟨hr, I4⟩ => ?_)
    subst hr
    exact wpAny_execs_nil ⟨σ3, H3, I4, qn⟩
  · refine wpAny_passesOwn hp (thn (T.item X rfl rfl rfl (fun z => z) i pins s3 σ3 H3 X.xe I3 (stat fr3) st3 go) fun r s4 ⟨u, hr, h4⟩ => ?_)
    subst hr
    refine wpAny_passesOwn hp (thn h4 fun _ s5 ⟨x, H5, I5, r5, y5, st5, fr5⟩ => ?_)
    have I5' := I5.pinned (stat fr5) (T.obj _ _ st5)
    refine wpAny_passesOwn hp (thn (hg _ s5 σ3 H5 x u _ I5' r5 (step x H5 y5)) fun _ s6 ⟨σ6, H6, I6, q6⟩ => ?_)
    refine wpAny_passesOwn hp (thn (hb _ s6 σ6 H6 _ I6 q6) fun f s7 q7 => ?_)
    have again : ∀ {σ7 : St} {H7 : Hp}, Inv X (pins ++ pV fp s5.heap) σ7 H7 s7 → N σ7 H7 → ∃ m, m < n ∧ ∃ i σ' H', Inv X pins σ' H' s7 ∧ tn i s7.heap ∧ (∀ b ∈ fp, H' b = none) ∧ W i m σ' H' := fun {σ7 H7} I7 n7 => by
      obtain ⟨m', hm, w7⟩ := hN σ7 H7 n7
      refine ⟨m', hm, i + 1, σ7, H7, I7.jZ, T.keep _ _ _ st5 fun b hb o e => (I7.pin (b, o) (List.mem_append_right _ (List.mem_append_right _ (eB hb e)))).1, fun b hb => ?_, w7⟩
      obtain ⟨o, e, d⟩ := T.obj _ _ st5 b hb
      exact (I7.pin (b, o) (List.mem_append_right _ (List.mem_append_right _ (eB hb e)))).2.1
    cases f with
    | next => obtain ⟨σ7, H7, I7, n7⟩ := q7; exact again I7 n7
    | cont => obtain ⟨σ7, H7, I7, n7⟩ := q7; exact again I7 n7
    | brk => obtain ⟨σ7, H7, I7, q7⟩ := q7; exact ⟨σ7, H7, I7.jZ, q7⟩
    | ret v => obtain ⟨x7, σ7, H7, I7, r7, q7⟩ := q7; exact ⟨x7, σ7, H7, I7.jZ, r7, q7⟩
end
end L2
namespace L2
open PySem PySem.Spec PyProof.Rows
abbrev R2 := V → V → Hp → VK → Prop
def OpR (X : Cx) (f : Value → Value → Sem Value) (r : R2) : Prop :=
  ∀ (pins : List (Addr × Obj)) (s : Shared) (σ : St) (H : Hp) (x y : V) (v u : Value) (Q : VK), Inv X pins σ H s → RelV x v → RelV y u → r x y H Q →
    wpAny (model X.prog X.w) X.A (f v u) (EP X pins σ Q) X.xe s
def UnR (X : Cx) (f : Value → Sem Value) (r : V → Hp → VK → Prop) : Prop :=
  ∀ (pins : List (Addr × Obj)) (s : Shared) (σ : St) (H : Hp) (x : V) (v : Value) (Q : VK), Inv X pins σ H s → RelV x v → r x H Q →
    wpAny (model X.prog X.w) X.A (f v) (EP X pins σ Q) X.xe s
def g9 (X : Cx) (f : Value) (r : List V → Hp → VK → Prop) : Prop :=
  ∀ (pins : List (Addr × Obj)) (s : Shared) (σ : St) (H : Hp) (xs : List V) (us : List Value) (Q : VK), Inv X pins σ H s → Vals xs us → r xs H Q →
    wpAny (model X.prog X.w) X.A (call f us) (EP X pins σ Q) X.xe s
def tOp (r : R2) (ta tb : TE) : TE := fun σ H Q => ta σ H fun x H1 => tb σ H1 fun y H2 => r x y H2 Q
def tUn (r : V → Hp → VK → Prop) (ta : TE) : TE := fun σ H Q => ta σ H fun x H1 => r x H1 Q
def rI (C : Int → Int → Prop) (g : Int → Int → V) : R2 := fun x y H Q => ∃ i j, x = .int i ∧ y = .int j ∧ C i j ∧ Q (g i j) H
def rI0 (g : Int → Int → V) : R2 := fun x y H Q => ∃ i j, x = .int i ∧ y = .int j ∧ Q (g i j) H
def rU (g : Int → V) : V → Hp → VK → Prop := fun x H Q => ∃ i, x = .int i ∧ Q (g i) H
section
variable {X : Cx} {a b c : Expr} {ta tb tc : TE} {pos : Pos}
theorem JZ (ha : PE X a ta) (hb : PE X b tb) {pins : List (Addr × Obj)} {s : Shared} {σ : St} {H : Hp} {R : V → V → Hp → Prop} (I : Inv X pins σ H s)
    (h : ta σ H fun x H1 => tb σ H1 fun y H2 => R x y H2) {Q : Value → Shared → Prop} {f : Value → Value → Sem Value}
    (hf : ∀ v u s2 x y H2, Inv X pins σ H2 s2 → RelV x v → RelV y u → R x y H2 → wpAny (model X.prog X.w) X.A (f v u) Q X.xe s2) :
    wpAny (model X.prog X.w) X.A (eval a X.env) (fun v s₁ => wpAny (model X.prog X.w) X.A (eval b X.env) (fun u s₂ => wpAny (model X.prog X.w) X.A (f v u) Q X.xe s₂) X.xe s₁) X.xe s := by
  refine thn (ha pins s σ H _ I h) fun v s1 ⟨x, H1, I1, r1, q1⟩ => ?_
  refine thn (hb pins s1 σ H1 _ I1 q1) fun u s2 ⟨y, H2, I2, r2, q2⟩ => ?_
  exact hf v u s2 x y H2 I2 r1 r2 q2
theorem Lo {op : Operator} {r : R2} (ho : OpR X (binaryOp op) r) (ha : PE X a ta) (hb : PE X b tb) : PE X (.BinOp a op b pos) (tOp r ta tb) := by
  intro pins s σ H Q I h
  exact wpAny_BinOp (JZ ha hb I h fun v u s2 x y H2 I2 rx ry q => ho pins s2 σ H2 x y v u Q I2 rx ry q)
theorem Mv {op : UnaryOp} {r : V → Hp → VK → Prop} (ho : UnR X (unaryOp op) r) (ha : PE X a ta) : PE X (.UnaryOp op a pos) (tUn r ta) := by
  intro pins s σ H Q I h
  exact UnaryOp_ (thn (ha pins s σ H _ I h) fun v s1 ⟨x, H1, I1, r1, q1⟩ => ho pins s1 σ H1 x v Q I1 r1 q1)
theorem opI {f : Value → Value → Sem Value} {C : Int → Int → Prop} {g : Int → Int → Int}
    (rule : ∀ (i j : Int) (t u : Tok) (s : Shared) (Q : Value → Shared → Prop) (E : Value → Shared → Prop), C i j → Q (.int (g i j) s.toks) { s with toks := s.toks + 1 } → wpAny (model X.prog X.w) X.A (f (.int i t) (.int j u)) Q E s) :
    OpR X f (rI C fun i j => .int (g i j)) := by
  intro pins s σ H x y v u Q I rx ry h
  obtain ⟨i, j, rfl, rfl, hc, q⟩ := h
  obtain ⟨t, rfl⟩ := rx
  obtain ⟨t', rfl⟩ := ry
  exact rule i j t t' s _ _ hc ⟨.int (g i j), H, I.tok _, ⟨_, rfl⟩, q⟩
theorem L6 {f : Value → Value → Sem Value} {g : Int → Int → Int}
    (rule : ∀ (i j : Int) (t u : Tok) (s : Shared) (Q : Value → Shared → Prop) (E : Value → Shared → Prop), Q (.int (g i j) s.toks) { s with toks := s.toks + 1 } → wpAny (model X.prog X.w) X.A (f (.int i t) (.int j u)) Q E s) :
    OpR X f (rI0 fun i j => .int (g i j)) := by
  intro pins s σ H x y v u Q I rx ry h
  obtain ⟨i, j, rfl, rfl, q⟩ := h
  obtain ⟨t, rfl⟩ := rx
  obtain ⟨t', rfl⟩ := ry
  exact rule i j t t' s _ _ ⟨.int (g i j), H, I.tok _, ⟨_, rfl⟩, q⟩
theorem G5 {f : Value → Value → Sem Value} {g : Int → Int → Bool}
    (rule : ∀ (i j : Int) (t u : Tok) (s : Shared) (Q : Value → Shared → Prop) (E : Value → Shared → Prop), Q (.bool (g i j)) s → wpAny (model X.prog X.w) X.A (f (.int i t) (.int j u)) Q E s) :
    OpR X f (rI0 fun i j => .bl (g i j)) := by
  intro pins s σ H x y v u Q I rx ry h
  obtain ⟨i, j, rfl, rfl, q⟩ := h
  obtain ⟨t, rfl⟩ := rx
  obtain ⟨t', rfl⟩ := ry
  exact rule i j t t' s _ _ ⟨.bl (g i j), H, I, rfl, q⟩
def Ee (i j : Int) : Prop := 0 ≤ j ∧ j ≤ 1000000 ∧ i.natAbs < 2 ^ 64
def Hy (i j : Int) : Prop := (-(2 ^ 64) < i ∧ i < 2 ^ 64) ∨ (-(2 ^ 64) < j ∧ j < 2 ^ 64)
theorem Hy.ok {i j : Int} (h : Hy i j) : IntMulOk i j := by
  rcases h with ⟨h1, h2⟩ | ⟨h1, h2⟩
  · exact .of_left (intBits_le_64 h1 h2)
  · exact .of_right (intBits_le_64 h1 h2)
theorem KN : OpR X (binaryOp .Add) (rI0 fun i j => .int (i + j)) := L6 fun _ _ _ _ _ _ _ q => add_int q
theorem KC : OpR X (binaryOp .Sub) (rI0 fun i j => .int (i - j)) := L6 fun _ _ _ _ _ _ _ q => sub_int q
theorem HU : OpR X (binaryOp .Mod) (rI (fun _ j => j ≠ 0) fun i j => .int (i.fmod j)) := opI fun _ _ _ _ _ _ _ hc q => mod_int' hc q
theorem JL : OpR X (binaryOp .Pow) (rI Ee fun i j => .int (i ^ j.toNat)) := opI fun _ _ _ _ _ _ _ hc q => pow_int_small hc.1 hc.2.1 hc.2.2 q
theorem unI {f : Value → Sem Value} {g : Int → Int}
    (rule : ∀ (i : Int) (t : Tok) (s : Shared) (Q : Value → Shared → Prop) (E : Value → Shared → Prop), Q (.int (g i) s.toks) { s with toks := s.toks + 1 } → wpAny (model X.prog X.w) X.A (f (.int i t)) Q E s) :
    UnR X f (rU fun i => .int (g i)) := by
  intro pins s σ H x v Q I rx h
  obtain ⟨i, rfl, q⟩ := h
  obtain ⟨t, rfl⟩ := rx
  exact rule i t s _ _ ⟨.int (g i), H, I.tok _, ⟨_, rfl⟩, q⟩
theorem KJ : UnR X (unaryOp .USub) (rU fun i => .int (-i)) := unI fun _ _ _ _ _ q => neg_int q
end
section
variable {X : Cx} {a b c : Expr} {ta tb tc : TE} {pos : Pos}
theorem tG : OpR X (compareOp .Lt) (rI0 fun i j => .bl (decide (i < j))) := G5 fun _ _ _ _ _ _ _ q => lt_int q
theorem E6 : OpR X (compareOp .LtE) (rI0 fun i j => .bl (decide (i ≤ j))) := G5 fun _ _ _ _ _ _ _ q => le_int q
theorem jf : OpR X (compareOp .Gt) (rI0 fun i j => .bl (decide (j < i))) := G5 fun _ _ _ _ _ _ _ q => gt_int q
theorem vk : OpR X (compareOp .GtE) (rI0 fun i j => .bl (decide (j ≤ i))) := G5 fun _ _ _ _ _ _ _ q => ge_int q
theorem OpR.or {f : Value → Value → Sem Value} {r r' : R2} (h : OpR X f r) (h' : OpR X f r') : OpR X f (fun x y H Q => r x y H Q ∨ r' x y H Q) := by
  intro pins s σ H x y v u Q I rx ry q
  rcases q with q | q
  · exact h pins s σ H x y v u Q I rx ry q
  · exact h' pins s σ H x y v u Q I rx ry q
theorem aR (b : Expr) {op : CmpOp} (h : op ≠ .In := by decide) (h2 : op ≠ .NotIn := by decide) : behindInMarks op b = false := by
  have e1 : (op == CmpOp.In) = false := by cases op <;> first | rfl | exact absurd rfl h
  have e2 : (op == CmpOp.NotIn) = false := by cases op <;> first | rfl | exact absurd rfl h2
  cases b <;> simp [behindInMarks, e1, e2]
theorem HN {op : CmpOp} {r : R2} (ho : OpR X (compareOp op) r) (ha : PE X a ta) (hb : PE X b tb) (hm : behindInMarks op b = false) : PE X (.Compare a [op] [b] pos) (tOp r ta tb) := by
  intro pins s σ H Q I h
  exact wpAny_Compare1 (JZ ha hb I h fun v u s2 x y H2 I2 rx ry q => ho pins s2 σ H2 x y v u Q I2 rx ry q) hm
def IK (t : TE) : TT := fun σ H Q => t σ H fun x H' => ∃ k, x = .bl k ∧ Q k H'
theorem Hl {op : CmpOp} {r : R2} (ho : OpR X (compareOp op) r) (ha : PE X a ta) (hb : PE X b tb) (hm : behindInMarks op b = false) : PT X (.Compare a [op] [b] pos) (IK (tOp r ta tb)) := by
  intro pins s σ H Q I h
  refine wpAny_isTrue_Compare1 (thn (ha pins s σ H _ I h) fun v s1 ⟨x, H1, I1, r1, q1⟩ => thn (hb pins s1 σ H1 _ I1 q1) fun u s2 ⟨y, H2, I2, r2, q2⟩ =>
    thn (ho pins s2 σ H2 x y v u _ I2 r1 r2 q2) fun c s3 ⟨z, H3, I3, r3, k, e, q3⟩ => ?_) hm
  subst e
  cases r3
  exact wpAny_truthy_bool ⟨H3, I3, q3⟩
theorem vM : (sizeLine : Nat) < 2 ^ 63 := by rw [sizeLine_eq]; decide
theorem vals1 {x : V} {us : List Value} (r : Vals [x] us) : ∃ u, us = [u] ∧ RelV x u := by
  cases r with
  | cons r1 r2 => cases r2; exact ⟨_, rfl, r1⟩
theorem vals2 {x y : V} {us : List Value} (r : Vals [x, y] us) : ∃ u w', us = [u, w'] ∧ RelV x u ∧ RelV y w' := by
  cases r with
  | cons r1 r2 =>
    cases r2 with
    | cons r3 r4 => cases r4; exact ⟨_, _, rfl, r1, r3⟩
theorem GC : g9 X (.builtin "abs") (fun xs H Q => ∃ i, xs = [.int i] ∧ Q (.int (if i < 0 then -i else i)) H) := by
  intro pins s σ H xs us Q I r h
  obtain ⟨i, rfl, q⟩ := h
  obtain ⟨u, rfl, t, rfl⟩ := vals1 r
  exact call_abs_int fun u tk => ⟨.int (if i < 0 then -i else i), H, I.tok _, ⟨_, rfl⟩, q⟩
theorem Er (hc : X.calm = true) : g9 X (.builtin "max") (fun xs H Q => ∃ i j, xs = [.int i, .int j] ∧ Q (.int (if j > i then j else i)) H) := by
  intro pins s σ H xs us Q I r h
  obtain ⟨i, j, rfl, q⟩ := h
  obtain ⟨u, w', rfl, ⟨t, rfl⟩, ⟨t', rfl⟩⟩ := vals2 r
  refine max_two_ints (I.ok.hd hc) fun h' tk k => ⟨_, H, I.kept k, ?_, q⟩
  by_cases hj : j > i
  · rw [if_pos hj, if_pos hj]; exact ⟨_, rfl⟩
  · rw [if_neg hj, if_neg hj]; exact ⟨_, rfl⟩
theorem Ey (hc : X.calm = true) : g9 X (.builtin "min") (fun xs H Q => ∃ i j, xs = [.int i, .int j] ∧ Q (.int (if j < i then j else i)) H) := by
  intro pins s σ H xs us Q I r h
  obtain ⟨i, j, rfl, q⟩ := h
  obtain ⟨u, w', rfl, ⟨t, rfl⟩, ⟨t', rfl⟩⟩ := vals2 r
  refine min_two_ints (I.ok.hd hc) fun h' tk k => ⟨_, H, I.kept k, ?_, q⟩
  by_cases hj : j < i
  · rw [if_pos hj, if_pos hj]; exact ⟨_, rfl⟩
  · rw [if_neg hj, if_neg hj]; exact ⟨_, rfl⟩
theorem Eu : g9 X (.type "int") (fun xs H Q => (∃ i, xs = [.int i] ∧ Q (.int i) H) ∨ ∃ k, xs = [.bl k] ∧ Q (.int (if k then 1 else 0)) H) := by
  intro pins s σ H xs us Q I r h
  rcases h with ⟨i, rfl, q⟩ | ⟨k, rfl, q⟩
  · obtain ⟨u, rfl, t, rfl⟩ := vals1 r
    exact call_int_int ⟨.int i, H, I, ⟨_, rfl⟩, q⟩
  · obtain ⟨u, rfl, r1⟩ := vals1 r
    cases r1
    exact call_int_bool ⟨.int (if k then 1 else 0), H, I.tok _, ⟨_, rfl⟩, q⟩
end
end L2
namespace L2
open PySem PySem.Spec PyProof.Rows
section
variable {prog : Program} {w : World} {A : Around} {E : Value → Shared → Prop} {s : Shared} {K : PySem.W.Frag} {x dx C f : Addr} {mA : Str → Option Value} {name : Str} {v : Value}
end
section
variable {P : Program} {w : World} {H H' : Hp} {h h' : Heap} {a C dx : Addr} {fs fs' : List (Str × V)}
end
structure Cls (K : PySem.W.Frag) (C : Addr) : Prop where
  pg : PySem.W.plainGet K C Str.empty = true
  hd : PySem.W.hasDictIn K C = true
  po : PySem.W.plainOver K C = true
  sa : PySem.W.findIn K (.ref C) "__setattr__" = some (some (.builtin "object.__setattr__"))
theorem Cls.get {K : PySem.W.Frag} {C : Addr} (c : Cls K C) (f : Str) : PySem.W.plainGet K C f = true := c.pg
section
variable {X : Cx} {pins : List (Addr × Obj)} {σ : St} {H : Hp} {s : Shared} {a C dx : Addr} {fs : List (Str × V)} {f : Str} {v : V} {A : Around} {E : Value → Shared → Prop}
theorem Inv.made (I : Inv X pins σ H s) : Inv X pins σ (upd (upd H s.heap.objs.size (.own (s.heap.objs.size + 1))) (s.heap.objs.size + 1) (.ins C s.heap.objs.size []))
    { s with heap := (s.heap.push PySem.W.emptyDict).push (PySem.W.instObj C s.heap.objs.size) } := by
  have e1 : (s.heap.push PySem.W.emptyDict).get? s.heap.objs.size = some PySem.W.emptyDict := Heap.get?_push_size s.heap rfl
  have e2 : ((s.heap.push PySem.W.emptyDict).push (PySem.W.instObj C s.heap.objs.size)).get? (s.heap.objs.size + 1) = some (PySem.W.instObj C s.heap.objs.size) := by
    have := Heap.get?_push_size (s.heap.push PySem.W.emptyDict) (o := PySem.W.instObj C s.heap.objs.size) rfl
    rwa [Heap.size_push] at this
  have e3 : (s.heap.push PySem.W.emptyDict).Ns s.heap.objs.size (fun _ => none) := ⟨PySem.W.emptyDict, #[], _, e1, rfl, (fun e he => absurd he (by simp)), fun _ => rfl⟩
  have I1 := I.laid (a := s.heap.objs.size) (o := .own (s.heap.objs.size + 1)) (h' := s.heap.push PySem.W.emptyDict) (t' := s.toks) (fun b u q => Heap.get?_push_of_some _ q) (Nat.le_refl _) ⟨_, e1⟩
  refine I1.laid (a := s.heap.objs.size + 1) (o := .ins C s.heap.objs.size []) (t' := s.toks) (fun b u q => Heap.get?_push_of_some _ q) (Nat.le_of_eq (Heap.size_push _ _)) ?_
  have ne : s.heap.objs.size ≠ s.heap.objs.size + 1 := Nat.ne_of_lt (Nat.lt_succ_self _)
  refine ⟨by rw [cD ne, iV], Nat.zero_le _, ne, e2, fun _ => none, (Heap.Ns1.of_empty e3).at fun o q => Heap.get?_push_of_some _ q, fun _ => True.intro, fun y hy => absurd rfl hy⟩
end
section
variable {X : Cx} {o e value : Expr} {f : Str} {pos pos' tpos : Pos} {ta tv : TE}
end
section
variable {X : Cx} {pins : List (Addr × Obj)} {σ : St} {H : Hp} {s : Shared} {A : Around} {E : Value → Shared → Prop} {Q : Value → Shared → Prop} {c : Value} {b : Bool}
end
end L2
namespace L2
open PySem PySem.Spec PyProof.Rows
structure mE (k : Nat) (A : Around) : Prop where
  hd : A.handled = none
  dp : A.depth + 3 * k + 5 < recursionLimit
  un : A.units + 16 * k + 200 < cLine
theorem mE.mono {j k : Nat} {A : Around} (r : mE k A) (h : j ≤ k) : mE j A := ⟨r.hd, by have := r.dp; omega, by have := r.un; omega⟩
theorem mE.deeper {k : Nat} {A : Around} (r : mE (k + 1) A) (env : Env) : mE k (A.deeper env) :=
  ⟨r.hd, by have := r.dp; show A.depth + 1 + 3 * k + 5 < _; omega, by have := r.un; show A.units + 3 + 16 * k + 200 < _; omega⟩
theorem mE.depth {k : Nat} {A : Around} (r : mE k A) : A.depth < recursionLimit := by have := r.dp; omega
theorem mE.units {k : Nat} {A : Around} (r : mE k A) : A.units + 64 < cLine := by have := r.un; omega
def MB : TA := fun _ H Q => Q [] H
def Mr (ta : TE) (tr : TA) : TA := fun σ H Q => ta σ H fun x H1 => tr σ H1 fun xs H2 => Q (x :: xs) H2
section
variable {X : Cx} {e : Expr} {es : List Expr} {te : TE} {t : TA} {pos : Pos}
theorem uU : PA X [] MB := fun _ _ _ _ H Q I h => Calls.spliced_nil ⟨[], H, I, .nil, h⟩
theorem oM (ha : PE X e te) (hr : PA X es t) (hs : starEach (e :: es) X.env = (false, eval e X.env) :: starEach es X.env := by rfl) : PA X (e :: es) (Mr te t) := by
  intro pos pins s σ H Q I h
  rw [hs]
  show wpAny _ _ (spliced ((false, eval e X.env) :: backTo pos (starEach es X.env))) _ _ s
  refine Calls.spliced_cons (thn (ha pins s σ H _ I h) fun u s1 ⟨x, H1, I1, r1, q1⟩ => ?_)
  exact thn (hr pos pins s1 σ H1 _ I1 q1) fun us s2 ⟨xs, H2, I2, r2, q2⟩ => ⟨x :: xs, H2, I2, .cons r1 r2, q2⟩
def MH (t : TA) : TE := fun σ H Q => t σ H fun xs H1 => xs.length ≤ sizeLine ∧ ∀ p, H1 p = none → Q (.ref p) (upd H1 p (.tup xs))
def MT (t : TA) : TE := fun σ H Q => t σ H fun xs H1 => xs.length ≤ sizeLine ∧ ∀ p, H1 p = none → Q (.ref p) (upd H1 p (.lst xs))
theorem Kr {x1} (h : PA X es t) : PE X (.Tuple es x1 pos) (MH t) := by
  intro pins s σ H Q I hq
  refine wpAny_Tuple_spliced (thn (h pos pins s σ H _ I hq) fun us s1 ⟨xs, H1, I1, r, z, q⟩ => ⟨by rw [← r.length]; exact z, ?_⟩)
  have hf : H1 s1.heap.objs.size = none := I1.hok.fresh (Nat.le_refl _)
  refine ⟨.ref s1.heap.objs.size, upd H1 s1.heap.objs.size (.tup xs), I1.laid (t' := s1.toks) (fun b u e => Heap.get?_push_of_some _ e) (Nat.le_refl _) ?_, rfl, q _ hf⟩
  exact ⟨z, us, r, ⟨_, Heap.get?_push_size _ rfl, rfl, _, rfl⟩⟩
theorem Kx (h : PA X es t) : PE X (.List es pos) (MT t) := by
  intro pins s σ H Q I hq
  refine wpAny_List_spliced (thn (h pos pins s σ H _ I hq) fun us s1 ⟨xs, H1, I1, r, z, q⟩ => ⟨by rw [← r.length]; exact z, ?_⟩)
  have hf : H1 s1.heap.objs.size = none := I1.hok.fresh (Nat.le_refl _)
  refine ⟨.ref s1.heap.objs.size, upd H1 s1.heap.objs.size (.lst xs), I1.laid (t' := s1.toks) (fun b u e => Heap.get?_push_of_some _ e) (Nat.le_refl _) ?_, rfl, q _ hf⟩
  exact ⟨z, us, 0, r, Heap.get?_push_size _ rfl⟩
end
abbrev Sp := List V → Hp → VK → XK → Prop
abbrev CXT := List Env → Hp → Shared → XK → Value → Shared → Prop
structure HL (P : Program) (w : World) (K : PySem.W.Frag) (mg : Str → Option Value) (base : Heap) (A : Around) (outer : List Env) (s : Shared) (H : Hp) : Prop where
  frames : A.frames = some outer
  mod : Mod K mg base
  bs : ∀ b o, base.get? b = some o → s.heap.get? b = some o ∧ H b = none
  bsz : base.objs.size ≤ s.heap.objs.size
  vc : s.heap.FunFrames base outer
  frf : ∀ b ∈ frs outer, H b = none
  hok : HOk P w H s.heap
  bare : AllBare s.gens
def CE (outer : List Env) (P : Program) (w : World) (H : Hp) (s : Shared) (Q : VK) (u : Value) (s' : Shared) : Prop :=
  ∃ v H', s'.os = s.os ∧ AllBare s'.gens ∧ Un (frs outer) [] H H' s.heap s'.heap ∧ HOk P w H' s'.heap ∧ RelV v u ∧ Q v H'
def CR (CX : CXT) (outer : List Env) (P : Program) (w : World) (H : Hp) (s : Shared) (Q : VK) (E : XK) (r : Result) (s' : Shared) : Prop :=
  match r with
  | .ok (.ret u) => CE outer P w H s Q u s'
  | .ok _ => False
  | .error e => CX outer H s E e s'
structure cu (P : Program) (w : World) (K : PySem.W.Frag) (mg : Str → Option Value) (base : Heap) (CX : CXT) (k : Nat) (f : Addr) (fd : FuncData) (ps : List Str) (sp : Sp) : Prop where
  len : ∀ vs H Q E, sp vs H Q E → vs.length = ps.length
  run : ∀ (A : Around) (outer : List Env) (s : Shared) (H : Hp) (args : Args) (us : List Value) (vs : List V) (Q : VK) (E : XK), mE k A → HL P w K mg base A outer s H → BindsTo s fd args (ps.zip us) → Vals vs us → sp vs H Q E →
    codeAny (model P w) A (.call (.ref f) args) (CR CX outer P w H s Q E) s
theorem cu.mono {P : Program} {w : World} {K : PySem.W.Frag} {mg : Str → Option Value} {base : Heap} {CX : CXT} {j k : Nat} {f : Addr} {fd : FuncData} {ps : List Str} {sp : Sp} (F : cu P w K mg base CX j f fd ps sp) (h : j ≤ k) :
    cu P w K mg base CX k f fd ps sp := ⟨F.len, fun A outer s H args us vs Q E hr => F.run A outer s H args us vs Q E (hr.mono h)⟩
section
variable {X : Cx} {pins : List (Addr × Obj)} {σ : St} {H : Hp} {s s' : Shared}
theorem Inv.MY (I : Inv X pins σ H s) : HL X.prog X.w X.K X.mg X.base X.A X.stack s H :=
  ⟨I.ok.frames, I.ok.mod, I.bs, Nat.le_trans I.ok.bsz I.sz, I.stack, I.uK, I.hok, I.bare⟩
theorem Inv.after {Q : VK} {u : Value} (I : Inv X pins σ H s) (h : CE X.stack X.prog X.w H s Q u s') : EP X pins σ Q u s' := by
  obtain ⟨v, H', os, bare, un, hok, r, q⟩ := h
  obtain ⟨hh, g, d, t, os'⟩ := s'
  obtain rfl : os' = s.os := os
  exact ⟨v, H', I.call (h' := hh) (g' := g) (d' := d) (t' := t) (ch := []) un hok bare (fun b z => absurd z (by simp)), r, q⟩
end
def LC (sp : Sp) (dvs : List V) (E : XK) (t : TA) : TE := fun σ H Q => t σ H fun vs H1 => sp (vs ++ dvs) H1 Q E
def Binds (K : PySem.W.Frag) (fd : FuncData) (ps : List Str) (ds : List Value) : Prop :=
  ∀ (s : Shared) (us : List Value), K.In s.heap → (us ++ ds).length = ps.length → BindsTo s fd ⟨us, []⟩ (ps.zip (us ++ ds))
theorem Binds.all {K : PySem.W.Frag} {fd : FuncData} {ps : List Str} (h : ∀ us : List Value, us.length = ps.length → bindArgs fd ⟨us, []⟩ = pure (ps.zip us)) : Binds K fd ps [] := fun s us _ hl => by
  rw [List.append_nil] at hl ⊢
  exact .of_eq (h us hl)
def Passes (CX : CXT) (X : Cx) (E : XK) : Prop := ∀ (pins : List (Addr × Obj)) (σ : St) (H : Hp) (s : Shared) (e : Value) (s' : Shared), Inv X pins σ H s → CX X.stack H s E e s' → X.xe e s'
section
variable {X : Cx} {CX : CXT} {k : Nat} {f C : Addr} {fd : FuncData} {ps : List Str} {sp : Sp} {dvs : List V} {ds : List Value} {E : XK} {x m : Str} {p pos apos : Pos} {e o : Expr} {es : List Expr} {ta : TE} {t : TA}
theorem J0 {pins : List (Addr × Obj)} {σ : St} {H : Hp} {s : Shared} {Q : VK} {us : List Value} {vs : List V} (F : cu X.prog X.w X.K X.mg X.base CX k f fd ps sp) (hr : mE k X.A) (hb : Binds X.K fd ps ds) (hd : Vals dvs ds) (hx : Passes CX X E)
    (I : Inv X pins σ H s) (r : Vals vs us) (h : sp (vs ++ dvs) H Q E) : wpAny (model X.prog X.w) X.A (call (.ref f) us) (EP X pins σ Q) X.xe s := by
  have r2 : Vals (vs ++ dvs) (us ++ ds) := r.append hd
  have hl : (us ++ ds).length = ps.length := by rw [← r2.length]; exact F.len _ _ _ _ h
  refine wpAny_call (codeAny_mono (F.run X.A X.stack s H ⟨us, []⟩ (us ++ ds) (vs ++ dvs) Q E hr I.MY (hb s us I.kIn hl) r2 h) fun r s' hq => ?_)
  cases r with
  | error e => exact hx pins σ H s e s' I hq
  | ok fl =>
    cases fl with
    | ret u => exact I.after hq
    | next => exact False.elim hq
    | brk => exact False.elim hq
    | cont => exact False.elim hq
theorem Hm (F : cu X.prog X.w X.K X.mg X.base CX k f fd ps sp) (hr : mE k X.A) (hg : Gl X x) (hm : X.mg x = some (.ref f)) (hk : PySem.W.keepIn X.K (.ref f) = true) (hb : Binds X.K fd ps ds) (hd : Vals dvs ds) (hx : Passes CX X E)
    (ha : PA X (e :: es) t) (hdb : (x == ("__debug__" : Str)) = false := by decide) (he : starEach (e :: es) X.env = (false, eval e X.env) :: starEach es X.env := by rfl) (hpl : (backTo pos (starEach es X.env)).any (·.1) = false := by rfl) :
    PE X (.Call (.Name x p) (e :: es) [] pos) (LC sp dvs E t) := by
  intro pins s σ H Q I h
  refine wpAny_Call_Name_kw (C8 I hg hm ?_ hdb)
  refine PySem.W.callWith_K (h₀ := X.base) I.ok.mod.kin hk (thn (ha pos pins s σ H _ I h) fun us s1 ⟨vs, H1, I1, r, q⟩ => ⟨I1.kIn, ?_⟩) he hpl
  exact J0 F hr hb hd hx I1 r q
end
section
variable {X : Cx} {CX : CXT} {k : Nat} {f C : Addr} {fd : FuncData} {ps ks : List Str} {sp : Sp} {E : XK} {x m : Str} {p pos apos kpos : Pos} {e o : Expr} {es : List Expr} {kws : List Keyword} {te ta : TE} {t tk : TA} {nm : Option Str}
variable {g : List Value → List Value → List Value} {gV : List V → List V → List V}
end
structure aQ (N P : List Str) (sc : Scope) : Prop where
  kind : sc.kind = .function
  co : sc.isCoroutine = false
  gen : sc.isGenerator = false
  nd : N.Nodup
  pre : N.take P.length = P
  par : ∀ x ∈ P, sc.names.lookup x = some .local ∨ sc.names.lookup x = some .cell
  KO : ∀ y ∈ sc.names, y.2 ≠ .free
theorem xQ {kindOf : Str → Option NameKind} {x : Str} : ∀ {binds : List (Str × Value)} {m : Str → Option Value}, (∀ v, (x, v) ∉ binds) → bindL kindOf binds m x = m x
  | [], _, _ => rfl
  | (n, v) :: r, m, h => by
    unfold bindL
    rw [xQ fun w hw => h w (List.mem_cons_of_mem _ hw)]
    split
    · have : x ≠ n := by rintro rfl; exact h v List.mem_cons_self
      simp [this]
    · rfl
theorem xI {kindOf : Str → Option NameKind} {x : Str} : ∀ {binds : List (Str × Value)} {m : Str → Option Value}, (∀ v, (x, v) ∉ binds) → bindC kindOf binds m x = m x
  | [], _, _ => rfl
  | (n, v) :: r, m, h => by
    unfold bindC
    rw [xI fun w hw => h w (List.mem_cons_of_mem _ hw)]
    split
    · rfl
    · have : x ≠ n := by rintro rfl; exact h v List.mem_cons_self
      simp [this]
theorem xt {kindOf : Str → Option NameKind} {x : Str} {v : Value} : ∀ {P : List Str} {vs : List Value} {i : Nat} {m : Str → Option Value}, P.Nodup → P[i]? = some x → vs[i]? = some v → kindOf x = some .local →
    bindL kindOf (P.zip vs) m x = some v
  | [], _, _, _, _, h, _, _ => by simp at h
  | _ :: _, [], _, _, _, _, h, _ => by simp at h
  | p :: P, w :: vs, 0, m, nd, h1, h2, hk => by
    simp at h1 h2; subst h1; subst h2
    show bindL kindOf ((p, w) :: P.zip vs) m p = _
    unfold bindL
    rw [xQ fun v hv => (List.nodup_cons.mp nd).1 (List.of_mem_zip hv).1, if_pos hk]
    simp
  | p :: P, w :: vs, i + 1, m, nd, h1, h2, hk => by
    show bindL kindOf ((p, w) :: P.zip vs) m x = _
    unfold bindL
    exact xt (i := i) (List.nodup_cons.mp nd).2 (by simpa using h1) (by simpa using h2) hk
theorem xW {kindOf : Str → Option NameKind} {x : Str} {v : Value} : ∀ {P : List Str} {vs : List Value} {i : Nat} {m : Str → Option Value}, P.Nodup → P[i]? = some x → vs[i]? = some v → kindOf x ≠ some .local →
    bindC kindOf (P.zip vs) m x = some v
  | [], _, _, _, _, h, _, _ => by simp at h
  | _ :: _, [], _, _, _, _, h, _ => by simp at h
  | p :: P, w :: vs, 0, m, nd, h1, h2, hk => by
    simp at h1 h2; subst h1; subst h2
    show bindC kindOf ((p, w) :: P.zip vs) m p = _
    unfold bindC
    rw [xI fun v hv => (List.nodup_cons.mp nd).1 (List.of_mem_zip hv).1, if_neg hk]
    simp
  | p :: P, w :: vs, i + 1, m, nd, h1, h2, hk => by
    show bindC kindOf ((p, w) :: P.zip vs) m x = _
    unfold bindC
    exact xW (i := i) (List.nodup_cons.mp nd).2 (by simpa using h1) (by simpa using h2) hk
def start (N : List Str) (vs : List V) : St := vs.map some ++ List.replicate (N.length - vs.length) none
def B2 (CX : CXT) (P : Program) (w : World) (K : PySem.W.Frag) (mg : Str → Option Value) (base : Heap) (N : List Str) (qual : Str) (scope : Scope) (f : Addr) (cd : Value) (A : Around) (outer : List Env) (s : Shared) (H : Hp) (E : XK) : Cx where
  prog := P
  w := w
  K := K
  mg := mg
  base := base
  A := A.deeper (envOfC qual scope s.heap.objs.size f cd)
  N := N
  s₀ := s
  H₀ := H
  env := envOfC qual scope s.heap.objs.size f cd
  outer := outer
  stack := envOfC qual scope s.heap.objs.size f cd :: outer
  ex := []
  calm := true
  fn := fun _ => true
  pn := []
  xe := fun e s' => wpAny (model P w) (A.deeper (envOfC qual scope s.heap.objs.size f cd)) (leaving (envOfC qual scope s.heap.objs.size f cd) e) (fun _ s'' => CX outer H s E e s'') (fun e' s'' => CX outer H s E e' s'') s'
theorem zZ {sc : Scope} {n : Nat} {x : Str} (h : sc.names.lookup x = some .cell) : ∃ c, (cellsFrom n sc.names []).lookup x = some c := by
  have q := PySem.W.cellsFrom_some sc.names n [] (.inl h)
  exact Option.isSome_iff_exists.mp q
theorem Ed {CX : CXT} {P : Program} {w : World} {K : PySem.W.Frag} {mg : Str → Option Value} {base : Heap} {N ps : List Str} {qual : Str} {scope : Scope} {f : Addr} {cd : Value} {A : Around} {outer : List Env} {s s1 : Shared} {H : Hp} {E : XK} {us : List Value} {vs : List V}
    (S : aQ N ps scope) (hd : A.handled = none) (e0 : HL P w K mg base A outer s H) (hl : vs.length = ps.length) (r : Vals vs us)
    (x : InCallC s s.heap.objs.size (bindL (envOfC qual scope s.heap.objs.size f cd).kindOf (ps.zip us) fun _ => none) (cellsFrom (s.heap.objs.size + 1) scope.names []) (bindC (envOfC qual scope s.heap.objs.size f cd).kindOf (ps.zip us) fun _ => none) s1) :
    Inv (B2 CX P w K mg base N qual scope f cd A outer s H E) [] (start N vs) H s1 := by
  have hpl : ps.length ≤ N.length := by have := congrArg List.length S.pre; rw [List.length_take] at this; omega
  obtain ⟨h1, tk, rfl, hk⟩ := x.done
  have noA : ∀ b : Addr, b ∉ (B2 CX P w K mg base N qual scope f cd A outer s H E).ex := fun b z => absurd (show b ∈ ([] : List Addr) from z) (by simp)
  refine ⟨⟨e0.mod, S.kind, rfl, rfl, Nat.le_refl _, fun y z c h1 h2 => ?_, fun y hy => ?_, fun y c _ h => ?_, fun _ => hd, .inl hd, Around.frames_deeper e0.frames, .inr ⟨rfl, rfl⟩, fun b z => absurd z (noA b), e0.bs, e0.bsz, fun b _ _ => noA b, fun b z => absurd z (noA b), e0.vc, e0.frf⟩,
    rfl, e0.bare, Un.kept hk, ⟨_, x.toInCall.ns, fun i y v h1 h2 h3 => ?_⟩, fun y c h => ⟨_, x.cell y c h⟩, e0.hok.fresh (Nat.le_refl _), fun y c h => ?_, fun p hp => absurd (show p ∈ ([] : List (Addr × Obj)) from hp) (by simp), e0.hok.kept hk, ?_⟩
  · exact name_of_addr x.apart (PySem.mem_of_lookup h1) (PySem.mem_of_lookup h2)
  · have hy : scope.names.lookup y = some .cell ∨ scope.names.lookup y = some .free := hy
    rcases hy with hy | hy
    · exact zZ hy
    · exact absurd rfl (S.KO _ (PySem.mem_of_lookup hy))
  · exact Nat.le_of_lt (x.above y c (PySem.mem_of_lookup h))
  · have hi : i < vs.length := by
      unfold start at h2
      by_cases hi : i < vs.length
      · exact hi
      · rw [List.getElem?_append_right (by simpa using hi)] at h2
        rw [List.getElem?_replicate] at h2
        split at h2 <;> cases h2
    have ha : vs[i]? = some v := by
      unfold start at h2
      rw [List.getElem?_append_left (by simpa using hi), List.getElem?_map] at h2
      cases e : vs[i]? with
      | none => rw [e] at h2; cases h2
      | some a => rw [e] at h2; cases h2; rfl
    obtain ⟨u, hu, rv⟩ := r.get ha
    have hp : ps[i]? = some y := by
      rw [← S.pre, List.getElem?_take_of_lt (by omega)]; exact h1
    have ndP : ps.Nodup := by rw [← S.pre]; exact S.nd.sublist (List.take_sublist _ _)
    refine ⟨u, rv, ?_⟩
    rcases S.par y (List.mem_of_getElem? hp) with k | k
    · exact .inl ⟨k, xt ndP hp hu k⟩
    · obtain ⟨c, e⟩ := zZ (n := s.heap.objs.size + 1) k
      refine .inr ⟨.inl k, c, e, ?_⟩
      have q := x.cell y c e
      rw [xW ndP hp hu (by show scope.names.lookup y ≠ _; rw [k]; decide)] at q
      exact q
  · exact e0.hok.fresh (Nat.le_of_lt (x.above y c (PySem.mem_of_lookup h)))
  · unfold start
    show _ = N.length
    rw [List.length_append, List.length_map, List.length_replicate]
    omega
theorem LZ {CX : CXT} {P : Program} {w : World} {K : PySem.W.Frag} {mg : Str → Option Value} {base : Heap} {k : Nat} {f : Addr} {name qual : Str} {params : Arguments} {body : List Stmt} {scope : Scope} {dV kV doc pm cdv ct oc : Value} {an od : Option Addr}
    {osl : Array (Option Value)} {N ps : List Str} {sp : Sp} (lk : K.lookup f = some ⟨oc, od, .func (PySem.W.fnOf name qual params body scope dV kV doc pm an cdv ct), osl⟩) (hcd : PySem.W.codeIn K cdv qual = true) (S : aQ N ps scope)
    (len : ∀ vs H Q E, sp vs H Q E → vs.length = ps.length)
    (hbody : ∀ (A : Around) (outer : List Env) (s : Shared) (H : Hp) (vs : List V) (Q : VK) (E : XK), mE k (A.deeper (envOfC qual scope s.heap.objs.size f cdv)) → sp vs H Q E →
      ∃ t, PSs (B2 CX P w K mg base N qual scope f cdv A outer s H E) body t ∧ t { nx := fun _ H' => Q .non H', rt := Q } (start N vs) H) :
    cu P w K mg base CX (k + 1) f (PySem.W.fnOf name qual params body scope dV kV doc pm an cdv ct) ps sp := by
  refine ⟨len, fun A outer s H args us vs Q E hr e0 hb r hsp => ?_⟩
  have hl := len _ _ _ _ hsp
  have KX : K.In s.heap := e0.mod.kin.keeps fun b o e => (e0.bs b o e).1
  have lim : s.heap.NoLimit := e0.mod.nolimit.keeps fun b o e => (e0.bs b o e).1
  have hkind : ∀ y ∈ ps.zip us, scope.names.lookup y.1 = some .local ∨ (scope.names.lookup y.1 = some .cell ∧ ((cellsFrom (s.heap.objs.size + 1) scope.names []).lookup y.1).isSome = true) := fun ⟨n, v⟩ hy => by
    rcases S.par n (List.of_mem_zip hy).1 with q | q
    · exact .inl q
    · exact .inr ⟨q, PySem.W.cellsFrom_some _ _ _ (.inl q)⟩
  refine codeAny_call_function hr.depth (KX _ _ lk) rfl S.co S.gen rfl (PySem.W.codeRec_of KX hcd) (hb _ _ _ _ ?_)
  refine wpAny_newFunctionEnv_cells S.kind hkind fun env he s1 x => ?_
  subst he
  refine ⟨lim.keeps x.toInCall.keep, codeAny_func ?_⟩
  obtain ⟨t, ht, hq⟩ := hbody A outer s H vs Q E (hr.deeper _) hsp
  have I : Inv (B2 CX P w K mg base N qual scope f cdv A outer s H E) [] (start N vs) H s1 := Ed S hr.hd e0 hl r x
  refine wpAny_mono (ht [] s1 (start N vs) H _ I hq) (fun fl s' hs => ?_) fun e s' hs => hs
  have fin : ∀ {σ' : St} {H' : Hp} {v : V} {u : Value}, Inv (B2 CX P w K mg base N qual scope f cdv A outer s H E) [] σ' H' s' → RelV v u → Q v H' → CE outer P w H s Q u s' :=
    fun {σ' H' v u} J rv q => ⟨v, H', J.os, J.bare, J.base, J.hok, rv, q⟩
  cases fl with
  | ret u =>
    obtain ⟨v, σ', H', J, rv, q⟩ := hs
    exact fin J rv q
  | next =>
    obtain ⟨σ', H', J, q⟩ := hs
    exact fin (v := V.non) (u := Value.none) J rfl q
  | brk =>
    obtain ⟨_, _, _, q⟩ := hs
    exact False.elim q
  | cont =>
    obtain ⟨_, _, _, q⟩ := hs
    exact False.elim q
end L2
namespace L2
open PySem PySem.Spec PyProof.Rows
section
variable {X : Cx} {x : Str} {p pos : Pos} {e : Expr} {es : List Expr} {t : TA} {id T : String} {r : List V → Hp → VK → Prop}
def tCB (r : List V → Hp → VK → Prop) (t : TA) : TE := fun σ H Q => t σ H fun vs H1 => r vs H1 Q
theorem vy (hc : g9 X (.builtin id) r) (hg : Gl X x) (hm : X.mg x = none) (hv : bootBuiltins x = some (.builtin id)) (ha : PA X (e :: es) t) (hn : x ≠ "__name__" := by decide) (hdb : (x == ("__debug__" : Str)) = false := by decide)
    (he : starEach (e :: es) X.env = (false, eval e X.env) :: starEach es X.env := by rfl) (hpl : (backTo pos (starEach es X.env)).any (·.1) = false := by rfl) : PE X (.Call (.Name x p) (e :: es) [] pos) (tCB r t) := by
  intro pins s σ H Q I h
  refine wpAny_Call_Name_kw (u7 I hg hm hv ?_ hn hdb)
  exact PyProof.Rows.callWith_builtin1 (thn (ha pos pins s σ H _ I h) fun us s1 ⟨vs, H1, I1, r1, q1⟩ => hc pins s1 σ H1 vs us Q I1 r1 q1) he hpl
theorem xw (hc : g9 X (.type T) r) (hg : Gl X x) (hm : X.mg x = none) (hv : bootBuiltins x = some (.type T)) (ha : PA X (e :: es) t) (hn : x ≠ "__name__" := by decide) (hdb : (x == ("__debug__" : Str)) = false := by decide)
    (he : starEach (e :: es) X.env = (false, eval e X.env) :: starEach es X.env := by rfl) (hpl : (backTo pos (starEach es X.env)).any (·.1) = false := by rfl) : PE X (.Call (.Name x p) (e :: es) [] pos) (tCB r t) := by
  intro pins s σ H Q I h
  refine wpAny_Call_Name_kw (u7 I hg hm hv ?_ hn hdb)
  exact PyProof.Rows.callWith_type1 (thn (ha pos pins s σ H _ I h) fun us s1 ⟨vs, H1, I1, r1, q1⟩ => hc pins s1 σ H1 vs us Q I1 r1 q1) he hpl
end
end L2
namespace HT
open PySem PyProof.Rows
section
open PySem.SeqAt
open PySem.AutoSeq1 (wpAny_loadPart')
open PySem.MeetsSeq PySem.MeetsSeq2 PySem.MeetsSeq3
end
section
variable {prog : Program} {w : World} {A : Around} {E : Value → Shared → Prop} {s : Shared}
def sIx (n d : Nat) : Option Int → Nat
  | none => d
  | some v => if v < 0 then (v + (n : Int)).toNat else min v.toNat n
theorem J4 (n d : Nat) (hd : d ≤ n) (o : Option Int) : sIx n d o ≤ n := by
  cases o with
  | none => exact hd
  | some v =>
    show (if v < 0 then (v + (n : Int)).toNat else min v.toNat n) ≤ n
    by_cases hv : v < 0
    · rw [if_pos hv]; omega
    · rw [if_neg hv]; exact Nat.min_le_right _ _
theorem CS (v : Int) (n d : Nat) : (if v < 0 then max (v + (n : Int)) 0 else min v (n : Int)) = ((sIx n d (some v) : Nat) : Int) := by
  show (if v < 0 then max (v + (n : Int)) 0 else min v (n : Int)) = (((if v < 0 then (v + (n : Int)).toNat else min v.toNat n) : Nat) : Int)
  by_cases hv : v < 0
  · simp only [if_pos hv]; omega
  · simp only [if_neg hv]; omega
theorem B9 (lo hi : Option Int) (n : Nat) : Builtin.Slice.sliceAdjust lo hi 1 (n : Int) = (((sIx n 0 lo : Nat) : Int), ((sIx n n hi : Nat) : Int)) := by
  have h1 : ¬ ((1 : Int) < 0) := by omega
  unfold Builtin.Slice.sliceAdjust
  simp only [h1, if_false]
  refine Prod.ext ?_ ?_
  · cases lo with
    | none => rfl
    | some v => exact CS v n 0
  · cases hi with
    | none => rfl
    | some v => exact CS v n n
theorem BU (i j : Nat) : Builtin.Slice.slicePlaces (i : Int) (j : Int) 1 = j - i := by
  unfold Builtin.Slice.slicePlaces
  have h1 : (1 : Int) > 0 := by omega
  simp only [h1, if_true, Int.ediv_one]
  split <;> omega
theorem vQ {v : Value} {o : Option Int} {Q : Option Int → Shared → Prop} (p : IsPart v o) (h : Q o s) : wpAny (model prog w) A (Builtin.Slice.slicePartIndex v) Q E s := by
  cases p with
  | none => exact slicePart_none h
  | int i t => exact slicePart_int h
theorem kY {sl : Addr} {vl vu : Value} {lo hi : Option Int} {n : Nat} {Q : Int × Int × Nat → Shared → Prop} (hs : s.heap.IsSliceOf sl vl vu .none) (pl : IsPart vl lo) (pu : IsPart vu hi)
    (h : Q (((sIx n 0 lo : Nat) : Int), 1, sIx n n hi - sIx n 0 lo) s) : wpAny (model prog w) A (Builtin.Slice.sliceApplied (.ref sl) (pure (n : Int))) Q E s := by
  obtain ⟨os, hos, hcs, hds⟩ := id hs
  unfold Builtin.Slice.sliceApplied Builtin.Slice.sliceFields
  refine wpAny_bind (wpAny_bind (wpAny_field hos hds (x := vl) rfl (wpAny_bind (wpAny_field hos hds (x := vu) rfl (wpAny_bind (wpAny_field hos hds (x := .none) rfl (wpAny_pure ?_)))))))
  refine wpAny_bind (slicePart_none ?_)
  show wpAny _ _ (if ((1 : Int) == 0) = true then _ else _) _ _ s
  rw [if_neg (by decide)]
  refine wpAny_bind (vQ pl (wpAny_bind (vQ pu (wpAny_bind (wpAny_pure ?_)))))
  show wpAny _ _ (match Builtin.Slice.sliceAdjust lo hi 1 (n : Int) with | (lo, hi) => pure (lo, (1 : Int), Builtin.Slice.slicePlaces lo hi 1)) _ _ s
  rw [B9 lo hi n]
  show wpAny _ _ (pure (((sIx n 0 lo : Nat) : Int), (1 : Int), Builtin.Slice.slicePlaces ((sIx n 0 lo : Nat) : Int) ((sIx n n hi : Nat) : Int) 1)) _ _ s
  rw [BU]
  exact wpAny_pure h
theorem GG (xs : Array Value) (i k : Nat) : ((List.range k).filterMap fun (m : Nat) => xs[((i : Int) + (m : Int) * 1).toNat]?).toArray = ((xs.toList.drop i).take k).toArray := by
  have e : (fun (m : Nat) => xs[((i : Int) + (m : Int) * 1).toNat]?) = fun m => xs[i + m]? := by
    funext m
    have : ((i : Int) + (m : Int) * 1).toNat = i + m := by omega
    rw [this]
  rw [e]
  have := pick_run xs i k
  rw [List.filterMap_map] at this
  have e2 : ((fun x => xs[x]?) ∘ fun x => i + x) = fun m => xs[i + m]? := rfl
  rw [e2] at this
  rw [this]
theorem qB {t sl : Addr} {items : Array Value} {vl vu : Value} {lo hi : Option Int} {Q : Value → Shared → Prop} (ht : IsTup s.heap t items) (hs : s.heap.IsSliceOf sl vl vu .none) (pl : IsPart vl lo) (pu : IsPart vu hi)
    (hw : ¬ (sIx items.size 0 lo = 0 ∧ sIx items.size items.size hi = items.size))
    (h : Q (.ref s.heap.objs.size) { s with heap := s.heap.push { cls := .type "tuple", data := .seq ((items.toList.drop (sIx items.size 0 lo)).take (sIx items.size items.size hi - sIx items.size 0 lo)).toArray } })
    (hsz : items.size ≤ sizeLine) : wpAny (model prog w) A (getItem (.ref t) (.ref sl)) Q E s := by
  have htake : sizeOk (.seq ((items.toList.drop (sIx items.size 0 lo)).take (sIx items.size items.size hi - sIx items.size 0 lo)).toArray) := by
    show ((items.toList.drop (sIx items.size 0 lo)).take (sIx items.size items.size hi - sIx items.size 0 lo)).toArray.size ≤ sizeLine
    rw [List.size_toArray, List.length_take, List.length_drop, Array.length_toList]
    omega
  have hj : sIx items.size items.size hi ≤ items.size := J4 _ _ (Nat.le_refl _) hi
  obtain ⟨os, hos, hcs, hds⟩ := id hs
  have hTs : s.TypeIs (.ref sl) "slice" := ⟨os, hos, hcs⟩
  unfold getItem
  try with_reducible refine wpAny_holding ?_
  first | refine wpAny_bind (wpAny_pure ?_) | skip
  refine wpAny_bind (wpAny_sequenceKey ht.typeIs (by decide) ?_)
  refine wpAny_bind (wpAny_callSpecial?_slot (name := Str.ofString "__getitem__") ht.typeIs PyProof.Rows.slot_tuple_getitem
    (wpAny_call_entry PyProof.Rows.slot_tuple_getitem ht.typeIs entry_tuple_getitem ?_ (args_tuple_getitem _ _)))
  show wpAny _ _ (Builtin.Tuple.tupleItemsOf (.ref t) >>= _) _ _ s
  refine wpAny_bind (tupleItemsOf_ ht ?_)
  refine wpAny_bind (wpAny_typeOf hTs ?_)
  rw [if_pos (by decide)]
  refine wpAny_bind (kY hs pl pu ?_)
  have hno : ¬ ((((sIx items.size 0 lo : Nat) : Int) == 0 && (1 : Int) == 1 && (sIx items.size items.size hi - sIx items.size 0 lo) == items.size) = true) := by
    intro q
    rw [Bool.and_eq_true, Bool.and_eq_true] at q
    have q1 : ((sIx items.size 0 lo : Nat) : Int) = 0 := eq_of_beq q.1.1
    have q2 : sIx items.size items.size hi - sIx items.size 0 lo = items.size := eq_of_beq q.2
    exact hw ⟨by omega, by omega⟩
  show wpAny _ _ (if (((sIx items.size 0 lo : Nat) : Int) == 0 && (1 : Int) == 1 && (sIx items.size items.size hi - sIx items.size 0 lo) == items.size) = true then _ else _) _ _ s
  rw [if_neg hno, GG]
  first
    | exact wpAny_bind (m := Builtin.Tuple.tupleExact _) (wpAny_newObj_type (wpAny_pure ⟨_, rfl, wpAny_pure h⟩) htake)
    | exact wpAny_bind (m := Builtin.Tuple.tupleExact _) (wpAny_newObj_type (wpAny_bind (wpAny_pure (wpAny_pure ⟨_, rfl, wpAny_pure h⟩))) htake)
    | exact wpAny_bind (wpAny_bind (m := Builtin.Tuple.tupleExact _) (wpAny_newObj_type (wpAny_pure (wpAny_pure ⟨_, rfl, wpAny_pure h⟩)) htake))
    | exact wpAny_bind (wpAny_bind (m := Builtin.Tuple.tupleExact _) (wpAny_newObj_type (wpAny_pure ⟨_, rfl, wpAny_pure h⟩) htake))
end
end HT
namespace L2
open PySem PySem.Spec PyProof.Rows
abbrev TO := St → Hp → (Option Int → Hp → Prop) → Prop
def PO (X : Cx) (e : Option Expr) (t : TO) : Prop :=
  ∀ (pins : List (Addr × Obj)) (s : Shared) (σ : St) (H : Hp) (Q : Option Int → Hp → Prop), Inv X pins σ H s → t σ H Q →
    wpAny (model X.prog X.w) X.A (evalPart e X.env) (fun u s' => ∃ o H', Inv X pins σ H' s' ∧ IsPart u o ∧ Q o H') X.xe s
def Ik : TO := fun _ H Q => Q none H
def LD (t : TE) : TO := fun σ H Q => t σ H fun x H1 => ∃ i, x = .int i ∧ Q (some i) H1
section
variable {X : Cx} {e : Expr} {te : TE} {lo hi : Option Expr} {tl th : TO} {pos p2 : Pos}
theorem Hu : PO X none Ik := by
  intro pins s σ H Q I h
  rw [evalPart_none]
  exact wpAny_pure ⟨none, H, I, .none, h⟩
theorem Hh (h : PE X e te) : PO X (some e) (LD te) := by
  intro pins s σ H Q I hw
  rw [evalPart_some]
  refine thn (h pins s σ H _ I hw) fun u s1 ⟨x, H1, I1, r1, q1⟩ => ?_
  obtain ⟨i, rfl, q⟩ := q1
  obtain ⟨t, rfl⟩ := r1
  exact ⟨some i, H1, I1, .int i t, q⟩
def SlR (X : Cx) (r : V → Option Int → Option Int → Hp → VK → Prop) : Prop :=
  ∀ (pins : List (Addr × Obj)) (s : Shared) (σ : St) (H : Hp) (x : V) (v vl vu : Value) (lo hi : Option Int) (sl : Addr) (Q : VK), Inv X pins σ H s → RelV x v → s.heap.IsSliceOf sl vl vu .none → IsPart vl lo → IsPart vu hi → r x lo hi H Q →
    ∃ T id, typeLookup (.type T) "__getitem__" = pure (some (.builtin id)) ∧ s.TypeIs v T ∧ wpAny (model X.prog X.w) X.A (getItem v (.ref sl)) (EP X pins σ Q) X.xe s
theorem SlR.or {r r' : V → Option Int → Option Int → Hp → VK → Prop} (h : SlR X r) (h' : SlR X r') : SlR X (fun x lo hi H Q => r x lo hi H Q ∨ r' x lo hi H Q) := by
  intro pins s σ H x v vl vu lo hi sl Q I rx hs pl pu q
  rcases q with q | q
  · exact h pins s σ H x v vl vu lo hi sl Q I rx hs pl pu q
  · exact h' pins s σ H x v vl vu lo hi sl Q I rx hs pl pu q
def tSl (r : V → Option Int → Option Int → Hp → VK → Prop) (te : TE) (tl th : TO) : TE := fun σ H Q => te σ H fun x H1 => tl σ H1 fun l H2 => th σ H2 fun u H3 => r x l u H3 Q
theorem GA {r : V → Option Int → Option Int → Hp → VK → Prop} (hr : SlR X r) (he : PE X e te) (hl : PO X lo tl) (hu : PO X hi th) : PE X (.Subscript e (.Slice lo hi none p2) pos) (tSl r te tl th) := by
  intro pins s σ H Q I h
  refine Subscript_ (thn (he pins s σ H _ I h) fun v s1 ⟨x, H1, I1, r1, q1⟩ => ?_)
  refine wpAny_Slice (thn (hl pins s1 σ H1 _ I1 q1) fun vl s2 ⟨l, H2, I2, pl, q2⟩ => thn (hu pins s2 σ H2 _ I2 q2) fun vu s3 ⟨u, H3, I3, pu, q3⟩ => ?_)
  rw [evalPart_none]
  refine wpAny_pure ?_
  have I4 : Inv X pins σ H3 { s3 with heap := s3.heap.push { cls := .type "slice", data := .fields #[vl, vu, .none] } } := I3.kept (t' := s3.toks) fun b ob q => Heap.get?_push_of_some _ q
  obtain ⟨T, id, hT, ht, hg⟩ := hr pins { s3 with heap := s3.heap.push { cls := .type "slice", data := .fields #[vl, vu, .none] } } σ H3 x v vl vu l u s3.heap.objs.size Q I4 r1 (Heap.IsSliceOf.new ..) pl pu q3
  show wpAny (model X.prog X.w) X.A (subscriptTail e (.Slice lo hi none p2) v (.ref s3.heap.objs.size)) (EP X pins σ Q) X.xe { s3 with heap := s3.heap.push { cls := .type "slice", data := .fields #[vl, vu, .none] } }
  exact tail_any (ops := [.ref s3.heap.objs.size, v]) ht hT hg (by with_unfolding_all rfl)
def zR (xs : List V) (lo hi : Option Int) : List V := (xs.drop (HT.sIx xs.length 0 lo)).take (HT.sIx xs.length xs.length hi - HT.sIx xs.length 0 lo)
theorem tI (xs : List V) (lo hi : Option Int) : (zR xs lo hi).length ≤ xs.length := by
  unfold zR
  rw [List.length_take, List.length_drop]
  omega
def MM (K : PySem.W.Frag) : V → Option Int → Option Int → Hp → VK → Prop := fun x lo hi H Q => ∃ a xs, x = .ref a ∧ SqT K H a xs ∧
  ¬ (HT.sIx xs.length 0 lo = 0 ∧ HT.sIx xs.length xs.length hi = xs.length) ∧ ∀ p, H p = none → Q (.ref p) (upd H p (.tup (zR xs lo hi)))
theorem JH : SlR X (MM X.K) := by
  intro pins s σ H x v vl vu lo hi sl Q I rx hs pl pu h
  obtain ⟨a, xs, rfl, hx, hw, q⟩ := h
  cases rx
  obtain ⟨its, r, ht, hz⟩ := I.tuple hx
  have hlen : its.toArray.size = xs.length := by rw [List.size_toArray]; exact r.length.symm
  refine ⟨"tuple", _, PyProof.Rows.slot_tuple_getitem.lookup, ht.typeIs, ?_⟩
  refine HT.qB ht hs pl pu (by rw [hlen]; exact hw) ?_ (by rw [hlen]; exact hz)
  rw [hlen]
  refine ⟨.ref s.heap.objs.size, _, I.laid (t' := s.toks) (o := .tup (zR xs lo hi)) (fun b ob q => Heap.get?_push_of_some _ q) (Nat.le_refl _) ?_, rfl, q _ (I.hok.fresh (Nat.le_refl _))⟩
  exact ⟨Nat.le_trans (tI xs lo hi) hz, _, (r.drop (HT.sIx xs.length 0 lo)).take (HT.sIx xs.length xs.length hi - HT.sIx xs.length 0 lo), IsTup.new _ _⟩
end
end L2
namespace L2
open PySem PySem.Spec PyProof.Rows
def ixN (n : Nat) (i : Int) : Option Nat := if 0 ≤ i then (if i < n then some i.toNat else none) else if -(n : Int) ≤ i then some (i + n).toNat else none
def atI {α : Type} (xs : List α) (i : Int) : Option α := (ixN xs.length i).bind fun j => xs[j]?
theorem CV {n : Nat} {i : Int} {j : Nat} (h : ixN n i = some j) : seqIndex? i n = some j ∧ j < n ∧ -(n : Int) ≤ i ∧ i < n := by
  unfold ixN at h
  by_cases h0 : 0 ≤ i
  · rw [if_pos h0] at h
    by_cases h1 : i < n
    · rw [if_pos h1] at h
      have e : i.toNat = j := Option.some.inj h
      exact ⟨by rw [seqIndex_of h0 h1, e], by omega, by omega, h1⟩
    · rw [if_neg h1] at h; cases h
  · rw [if_neg h0] at h
    by_cases h1 : -(n : Int) ≤ i
    · rw [if_pos h1] at h
      have e : (i + n).toNat = j := Option.some.inj h
      exact ⟨by rw [seqIndex_neg (by omega) h1, e], by omega, h1, by omega⟩
    · rw [if_neg h1] at h; cases h
theorem y6 {α : Type} {xs : List α} {i : Int} {v : α} (h : atI xs i = some v) : ∃ j, seqIndex? i xs.length = some j ∧ xs[j]? = some v ∧ j < xs.length ∧ -(xs.length : Int) ≤ i ∧ i < xs.length := by
  unfold atI at h
  cases e : ixN xs.length i with
  | none => rw [e] at h; cases h
  | some j =>
    rw [e] at h
    obtain ⟨h1, h2, h3, h4⟩ := CV e
    exact ⟨j, h1, h, h2, h3, h4⟩
theorem uF {α : Type} {xs : List α} {j : Nat} {v : α} (h : xs[j]? = some v) : atI xs (j : Int) = some v := by
  have hj : j < xs.length := (List.getElem?_eq_some_iff.mp h).1
  have e : ixN xs.length (j : Int) = some j := by
    unfold ixN
    rw [if_pos (by omega), if_pos (by omega)]; simp
  unfold atI; rw [e]; exact h
def Di (b : Expr) : Prop := ∀ o i, subscripted b false o i = operate [o, i] (getItem o i)
def IxR (X : Cx) (r : R2) : Prop :=
  ∀ (value slice : Expr) (pins : List (Addr × Obj)) (s : Shared) (σ : St) (H : Hp) (x y : V) (v u : Value) (Q : VK), Inv X pins σ H s → RelV x v → RelV y u → r x y H Q →
    subscripted slice false v u = operate [v, u] (getItem v u) → wpAny (model X.prog X.w) X.A (subscriptTail value slice v u) (EP X pins σ Q) X.xe s
def MtR (X : Cx) (id : String) (r : V → List V → Hp → VK → Prop) : Prop :=
  ∀ (pins : List (Addr × Obj)) (s : Shared) (σ : St) (H : Hp) (x : V) (xs : List V) (v : Value) (us : List Value) (Q : VK), Inv X pins σ H s → RelV x v → Vals xs us → r x xs H Q →
    wpAny (model X.prog X.w) X.A (call (.builtin id) (v :: us)) (EP X pins σ Q) X.xe s
section
variable {X : Cx} {a b : Expr} {ta tb : TE} {pos : Pos}
theorem IxR.or {r r' : R2} (h : IxR X r) (h' : IxR X r') : IxR X (fun x y H Q => r x y H Q ∨ r' x y H Q) := by
  intro value slice pins s σ H x y v u Q I rx ry q hs
  rcases q with q | q
  · exact h value slice pins s σ H x y v u Q I rx ry q hs
  · exact h' value slice pins s σ H x y v u Q I rx ry q hs
theorem MtR.or {id : String} {r r' : V → List V → Hp → VK → Prop} (h : MtR X id r) (h' : MtR X id r') : MtR X id (fun x xs H Q => r x xs H Q ∨ r' x xs H Q) := by
  intro pins s σ H x xs v us Q I rx rs q
  rcases q with q | q
  · exact h pins s σ H x xs v us Q I rx rs q
  · exact h' pins s σ H x xs v us Q I rx rs q
theorem Md {r : R2} (hr : IxR X r) (ha : PE X a ta) (hb : PE X b tb) (hs : Di b) : PE X (.Subscript a b pos) (tOp r ta tb) := by
  intro pins s σ H Q I h
  exact Subscript_ (JZ ha hb I h fun v u s2 x y H2 I2 rx ry q => hr a b pins s2 σ H2 x y v u Q I2 rx ry q (hs _ _))
def L9 (K : PySem.W.Frag) : R2 := fun x y H Q => ∃ p xs i v, x = .ref p ∧ y = .int i ∧ SqL K H p xs ∧ atI xs i = some v ∧ Q v H
def Mw (K : PySem.W.Frag) : R2 := fun x y H Q => ∃ p xs i v, x = .ref p ∧ y = .int i ∧ SqT K H p xs ∧ atI xs i = some v ∧ Q v H
def Mm : R2 := fun x y H Q => ∃ z i c, x = .str z ∧ y = .int i ∧ z.length ≤ sizeLine ∧ atI z.cps.toList i = some c ∧ Q (.str ⟨#[c]⟩) H
theorem HJ : IxR X (L9 X.K) := by
  intro value slice pins s σ H x y v u Q I rx ry h hs
  obtain ⟨p, xs, i, z, rfl, rfl, hq, he, q⟩ := h
  cases rx
  obtain ⟨t, rfl⟩ := ry
  obtain ⟨its, r, pl, hz⟩ := I.list hq
  obtain ⟨j, h1, h2, h3, h4, h5⟩ := y6 he
  obtain ⟨w, ew, rw'⟩ := r.get h2
  have hl := r.length
  have hn := vM
  have fin : EP X pins σ Q w s := ⟨z, H, I, rw', q⟩
  by_cases h0 : 0 ≤ i
  · have hj : i.toNat = j := by
      rw [seqIndex_of h0 h5] at h1
      exact Option.some.inj h1
    exact item_listR pl.isList h0 (by omega) (by rw [hj]; simpa using ew) fin hs
  · have hj : (i + (its.toArray.size : Int)).toNat = j := by
      rw [seqIndex_neg (by omega) h4] at h1
      rw [List.size_toArray, ← hl]
      exact Option.some.inj h1
    exact subscriptTail_builtinR (x := w) pl.isList.typeIs slot_list_getitem.lookup
      (wpAny_getItem_list_neg (Q := fun r s' => r = w ∧ EP X pins σ Q r s') pl.isList (by omega) (by rw [List.size_toArray] <;> omega) (by omega) (by rw [hj]; simpa using ew) ⟨rfl, fin⟩) hs
theorem KD : IxR X (Mw X.K) := by
  intro value slice pins s σ H x y v u Q I rx ry h hs
  obtain ⟨p, xs, i, z, rfl, rfl, hq, he, q⟩ := h
  cases rx
  obtain ⟨t, rfl⟩ := ry
  obtain ⟨its, r, pl, hz⟩ := I.tuple hq
  obtain ⟨j, h1, h2, h3, h4, h5⟩ := y6 he
  obtain ⟨w, ew, rw'⟩ := r.get h2
  have hl := r.length
  have hn := vM
  have fin : EP X pins σ Q w s := ⟨z, H, I, rw', q⟩
  exact subscriptTail_builtinR (x := w) pl.typeIs slot_tuple_getitem.lookup
    (getItem_tuple (j := j) (Q := fun r s' => r = w ∧ EP X pins σ Q r s') pl (by omega) (by omega) (by rw [List.size_toArray, ← hl]; exact h1) (by simpa using ew) ⟨rfl, fin⟩) hs
theorem J6 : IxR X Mm := by
  intro value slice pins s σ H x y v u Q I rx ry h hs
  obtain ⟨z, i, c, rfl, rfl, hz, he, q⟩ := h
  obtain ⟨t, rfl⟩ := rx
  obtain ⟨t', rfl⟩ := ry
  obtain ⟨j, h1, h2, h3, h4, h5⟩ := y6 he
  have hl : z.cps.toList.length = z.length := by simp [Str.length]
  rw [hl] at h1 h4 h5
  have hn := vM
  exact tail_any (typeIs_str s z t) slot_str_getitem.lookup (getItem_str (c := c) (by
    have e1 : decide (i < -(2 ^ 63 : Int)) = false := decide_eq_false (by omega)
    have e2 : decide (i ≥ 2 ^ 63) = false := decide_eq_false (by omega)
    rw [e1, e2, Bool.or_false]) (by rw [h1]; simpa using h2) ⟨.str ⟨#[c]⟩, H, I.tok _, ⟨_, rfl⟩, q⟩) hs
def rIx (K : PySem.W.Frag) : R2 := fun x y H Q => L9 K x y H Q ∨ Mw K x y H Q ∨ Mm x y H Q
theorem JP : IxR X (rIx X.K) := HJ.or (KD.or J6)
theorem Bx (its : List Value) (n j : Nat) (u : Value) : Obj.mapSeq (·.setIfInBounds j u) { cls := .type "list", data := .seq its.toArray n } = { cls := .type "list", data := .seq (its.set j u).toArray n } := by
  simp [Obj.mapSeq]
theorem Inv.lst {pins : List (Addr × Obj)} {σ : St} {H : Hp} {s : Shared} {p : Addr} {xs : List V} (I : Inv X pins σ H s) (h : H p = some (.lst xs)) :
    ∃ (its : List Value) (n : Nat), Vals xs its ∧ s.heap.get? p = some { cls := .type "list", data := .seq its.toArray n } ∧ xs.length ≤ sizeLine := by
  obtain ⟨z, its, n, r, e⟩ := I.hok p _ h
  exact ⟨its, n, r, e, z⟩
theorem Inv.JG {pins : List (Addr × Obj)} {σ : St} {H : Hp} {s : Shared} {p : Addr} {xs ys : List V} {its its' : List Value} {n n' : Nat} {f : Obj → Obj} (I : Inv X pins σ H s) (h : H p = some (.lst xs))
    (ho : s.heap.get? p = some { cls := .type "list", data := .seq its.toArray n }) (hf : f { cls := .type "list", data := .seq its.toArray n } = { cls := .type "list", data := .seq its'.toArray n' }) (r : Vals ys its') (hz : ys.length ≤ sizeLine) (t : Nat) :
    Inv X pins σ (upd H p (.lst ys)) { s with heap := s.heap.update p f, toks := t } := by
  have e : (s.heap.update p f).get? p = some { cls := .type "list", data := .seq its'.toArray n' } := by
    rw [Heap.get?_update_self f ho (by rw [hf] <;> rfl), hf]
  refine I.write (x := p) (e := p) (by rw [h]; trivial) (.inl rfl) (fun b u hb q => (Heap.get?_update_other _ _ (Ne.symm hb)).trans q) ⟨_, e⟩ ?_
  exact ⟨hz, its', n', r, e⟩
def LQ : V → V → V → Hp → (Hp → Prop) → Prop := fun o i v H Q => ∃ p xs k j, o = .ref p ∧ i = .int k ∧ H p = some (.lst xs) ∧ ixN xs.length k = some j ∧ Q (upd H p (.lst (xs.set j v)))
theorem set_list : Ln X LQ := by
  intro pins s σ H o i v ov iv u Q I ro ri rv h
  obtain ⟨p, xs, k, j, rfl, rfl, hp, hj, q⟩ := h
  cases ro
  obtain ⟨t, rfl⟩ := ri
  obtain ⟨its, n, r, ho, hz⟩ := I.lst hp
  obtain ⟨h1, h2, h3, h4⟩ := CV hj
  have hl := r.length
  have hn := vM
  have I' : Inv X pins σ (upd H p (.lst (xs.set j v))) { s with heap := s.heap.update p (Obj.mapSeq (·.setIfInBounds j u)) } :=
    I.JG hp ho (Bx its n j u) (r.set rv j) (by rw [List.length_set]; exact hz) s.toks
  by_cases h0 : 0 ≤ k
  · have hk : k.toNat = j := by
      rw [seqIndex_of h0 h4] at h1
      exact Option.some.inj h1
    exact PySem.W.ki_setAt ho h0 (by omega) (by rw [List.size_toArray, ← hl]; exact h4) (by rw [hk]; exact ⟨_, I', q⟩)
  · have hk : (k + (its.toArray.size : Int)).toNat = j := by
      rw [seqIndex_neg (by omega) h3] at h1
      rw [List.size_toArray, ← hl]
      exact Option.some.inj h1
    exact PySem.W.ki_setBack ho (by omega) (by rw [List.size_toArray, ← hl]; exact h3) (by omega) (by rw [hk]; exact ⟨_, I', q⟩)
theorem yk (lo hi : Option Int) (n : Nat) : (sliceBounds lo hi none n).1 = ((HT.sIx n 0 lo : Nat) : Int) ∧ (sliceBounds lo hi none n).2.1 = ((HT.sIx n n hi : Nat) : Int) ∧ (sliceBounds lo hi none n).2.2 = 1 := by
  refine ⟨?_, ?_, rfl⟩
  · cases lo with
    | none => simp [sliceBounds, HT.sIx]
    | some i =>
      simp only [sliceBounds, HT.sIx, Option.getD_none, show (1 : Int) > 0 by decide, if_true]
      by_cases h : i < 0
      · simp only [h, if_true] <;> omega
      · simp only [h, if_false] <;> omega
  · cases hi with
    | none => simp [sliceBounds, HT.sIx]
    | some i =>
      simp only [sliceBounds, HT.sIx, Option.getD_none, show (1 : Int) > 0 by decide, if_true]
      by_cases h : i < 0
      · simp only [h, if_true] <;> omega
      · simp only [h, if_false] <;> omega
theorem xb (its : List Value) (lo hi : Option Int) : slicePick its.toArray lo hi none = ((its.drop (HT.sIx its.length 0 lo)).take (HT.sIx its.length its.length hi - HT.sIx its.length 0 lo)).toArray := by
  obtain ⟨h1, h2, h3⟩ := yk lo hi its.toArray.size
  unfold slicePick
  rw [h1, h2, h3]
  simp only [sliceRange_one, pick_run, List.size_toArray] <;> rfl
def MW (K : PySem.W.Frag) : V → Option Int → Option Int → Hp → VK → Prop := fun x lo hi H Q => ∃ a xs, x = .ref a ∧ SqL K H a xs ∧ ∀ p, H p = none → Q (.ref p) (upd H p (.lst (zR xs lo hi)))
theorem HD : SlR X (MW X.K) := by
  intro pins s σ H x v vl vu lo hi sl Q I rx hs pl pu h
  obtain ⟨a, xs, rfl, hx, q⟩ := h
  cases rx
  obtain ⟨its, r, ht, hz⟩ := I.list hx
  have hlen := r.length
  refine ⟨"list", _, slot_list_getitem.lookup, ht.isList.typeIs, ?_⟩
  refine wpAny_getItem_list_slice ht.isList hs pl pu .none (by simp) ?_ (by rw [List.size_toArray] <;> omega)
  rw [xb, ← hlen]
  refine ⟨.ref s.heap.objs.size, _, I.laid (t' := s.toks) (o := .lst (zR xs lo hi)) (fun b ob q => Heap.get?_push_of_some _ q) (Nat.le_refl _) ?_, rfl, q _ (I.hok.fresh (Nat.le_refl _))⟩
  exact ⟨Nat.le_trans (tI xs lo hi) hz, _, 0, (r.drop (HT.sIx xs.length 0 lo)).take (HT.sIx xs.length xs.length hi - HT.sIx xs.length 0 lo), Heap.get?_push_size _ rfl⟩
theorem yt : g9 X (.builtin "len") (fun xs H Q => ∃ p ys, xs = [.ref p] ∧ (SqL X.K H p ys ∨ SqT X.K H p ys) ∧ Q (.int ys.length) H) := by
  intro pins s σ H xs us Q I r h
  obtain ⟨p, ys, rfl, hq, q⟩ := h
  obtain ⟨u, rfl, rx⟩ := vals1 r
  cases rx
  have hn := vM
  rcases hq with hq | hq
  · obtain ⟨its, r', pl, hz⟩ := I.list hq
    have hlen := r'.length
    exact Calls.call_len_list pl.isList (by simp only [List.size_toArray] <;> omega) ⟨.int ys.length, H, I.tok _, ⟨s.toks + 1, by rw [List.size_toArray, hlen]⟩, q⟩
  · obtain ⟨its, r', pl, hz⟩ := I.tuple hq
    have hlen := r'.length
    exact len_tuple pl (by simp only [List.size_toArray] <;> omega) ⟨.int ys.length, H, I.tok _, ⟨s.toks + 1, by rw [List.size_toArray, hlen]⟩, q⟩
theorem g9.or {f : Value} {r r' : List V → Hp → VK → Prop} (h : g9 X f r) (h' : g9 X f r') : g9 X f (fun xs H Q => r xs H Q ∨ r' xs H Q) := by
  intro pins s σ H xs us Q I rs q
  rcases q with q | q
  · exact h pins s σ H xs us Q I rs q
  · exact h' pins s σ H xs us Q I rs q
theorem xq : g9 X (.type "tuple") (fun xs H Q => ∃ p ys, xs = [.ref p] ∧ ((SqL X.K H p ys ∧ ∀ l, H l = none → Q (.ref l) (upd H l (.tup ys))) ∨ (SqT X.K H p ys ∧ Q (.ref p) H))) := by
  intro pins s σ H xs us Q I r h
  obtain ⟨p, ys, rfl, h⟩ := h
  obtain ⟨u, rfl, rx⟩ := vals1 r
  cases rx
  rcases h with ⟨hq, q⟩ | ⟨hq, q⟩
  · obtain ⟨its, r', pl, hz⟩ := I.list hq
    have hlen := r'.length
    refine call_tuple_list pl.isList (fun h' kp => ?_) (by simp only [List.size_toArray] <;> omega)
    have I1 : Inv X pins σ H { s with heap := h' } := I.kept (t' := s.toks) kp
    have I2 : Inv X pins σ (upd H h'.objs.size (.tup ys)) { s with heap := h'.push { cls := .type "tuple", data := .seq its.toArray } } :=
      I1.laid (t' := s.toks) (fun b o e => Heap.get?_push_of_some _ e) (Nat.le_refl _) (show k6 X.prog X.w _ _ _ (.tup ys) from ⟨hz, its, r', IsTup.new _ _⟩)
    exact ⟨.ref h'.objs.size, _, I2, rfl, q _ (I1.hok.fresh (Nat.le_refl _))⟩
  · obtain ⟨its, r', pl, hz⟩ := I.tuple hq
    exact call_tuple_same pl ⟨.ref p, H, I, rfl, q⟩
def tyV (K : PySem.W.Frag) (T : String) (x : V) (H : Hp) : Prop := match x with
  | .str _ => T = "str"
  | .int _ => T = "int"
  | .ref p => (T = "list" ∧ ∃ xs, SqL K H p xs) ∨ (T = "tuple" ∧ ∃ o, K.lookup p = some o ∧ o.cls = .type "tuple" ∧ o.dict = none) ∨
      (T = "dict" ∧ ((∃ kvs, H p = some (.dK kvs)) ∨ ∃ kvs, H p = some (.dT kvs))) ∨ (T = "set" ∧ ∃ S n, H p = some (.set S n))
  | _ => False
theorem KY {pins : List (Addr × Obj)} {σ : St} {H : Hp} {s : Shared} {T : String} {x : V} {v : Value} (I : Inv X pins σ H s) (r : RelV x v) (ty : tyV X.K T x H) :
    s.TypeIs v T ∧ ∀ a, v = .ref a → ∃ ob, s.heap.get? a = some ob ∧ ob.dict = none := by
  cases x with
  | str z =>
    obtain ⟨t, rfl⟩ := r
    cases (show T = "str" from ty)
    exact ⟨typeIs_str s z t, fun _ e => nomatch e⟩
  | int i =>
    obtain ⟨t, rfl⟩ := r
    cases (show T = "int" from ty)
    exact ⟨typeIs_int s i t, fun _ e => nomatch e⟩
  | ref p =>
    cases r
    rcases ty with ⟨rfl, xs, hq⟩ | ⟨rfl, o, hk, hc, hd⟩ | ⟨rfl, hk⟩ | ⟨rfl, S, n, hk⟩
    · obtain ⟨its, _, pl, _⟩ := I.list hq
      refine ⟨pl.isList.typeIs, fun a e => ?_⟩
      cases e
      obtain ⟨o, n, e, c, hd, _⟩ := pl
      exact ⟨o, e, hd⟩
    · refine ⟨⟨o, I.kIn p o hk, hc⟩, fun a e => ?_⟩
      cases e
      exact ⟨o, I.kIn _ o hk, hd⟩
    · have z : ∃ o, s.heap.get? p = some o ∧ o.ExactDict := by
        rcases hk with ⟨kvs, hk⟩ | ⟨kvs, hk⟩
        · obtain ⟨_, _, _, _, o, _, _, e, ex, _⟩ := I.hok p _ hk
          exact ⟨o, e, ex⟩
        · obtain ⟨_, _, _, _, o, _, _, e, ex, _⟩ := I.hok p _ hk
          exact ⟨o, e, ex⟩
      obtain ⟨o, e, ex⟩ := z
      refine ⟨⟨o, e, ex.1⟩, fun a e2 => ?_⟩
      cases e2
      exact ⟨o, e, ex.2.1⟩
    · obtain ⟨o, _, _, _, e, ex, _⟩ := I.hok p _ hk
      refine ⟨⟨o, e, ex.1⟩, fun a e2 => ?_⟩
      cases e2
      exact ⟨o, e, ex.2.1⟩
  | _ => exact False.elim ty
def tBM (K : PySem.W.Frag) (T : String) (r : V → List V → Hp → VK → Prop) (to : TE) (t : TA) : TE := fun σ H Q => to σ H fun x H1 => tyV K T x H1 ∧ t σ H1 fun xs H2 => r x xs H2 Q
variable {o e : Expr} {es : List Expr} {to : TE} {t : TA} {name : Str} {apos cpos : Pos} {T id : String} {r : V → List V → Hp → VK → Prop}
theorem Lp (pa : PlainAttrs T) (slot : Slot T name id) (hty : typeOf (.builtin id) = pure (.type "method_descriptor")) (hm : MtR X id r) (ho : PE X o to) (ha : PA X (e :: es) t)
    (hbase : attributeBase o name X.env (eval o X.env) = eval o X.env := by rfl)
    (hfew : ((backTo cpos (starEach (e :: es) X.env)).all (fun x => !x.1) && (backToKw cpos (keywordEach [] X.env)).all (fun x => x.1.isSome)
      && decide ((e :: es).length + ([] : List Keyword).length + (if ([] : List Keyword).isEmpty then 0 else 1) < 30)) = true := by rfl)
    (hline : (apos.endLine == cpos.line) = true := by rfl) (hs : starEach (e :: es) X.env = (false, eval e X.env) :: starEach es X.env := by rfl) (hplain : (backTo cpos (starEach es X.env)).any (·.1) = false := by rfl) :
    PE X (.Call (.Attribute o name apos) (e :: es) [] cpos) (tBM X.K T r to t) := by
  intro pins s σ H Q I h
  refine wpAny_Call_method_late hbase hfew hline rfl (thn (ho pins s σ H _ I h) fun v s1 ⟨x, H1, I1, r1, ty, q1⟩ => ?_)
  obtain ⟨h1, h2⟩ := KY I1 r1 ty
  refine ⟨T, id, pa, slot, hty, h1, h2, ?_⟩
  have hA := ha cpos pins s1 σ H1 _ I1 q1
  rw [hs] at hA ⊢
  refine Calls.callWith_builtin (by show (false || (backTo cpos (starEach es X.env)).any (·.1)) = false; rw [hplain] <;> rfl) (Calls.evalArgs_plain ?_)
  exact thn hA fun us s2 ⟨vs, H2, I2, r2, q2⟩ => hm pins s2 σ H2 x vs v us Q I2 r1 r2 q2
end
end L2
namespace L2
open PySem PySem.Spec PyProof.Rows
def MtM (X : Cx) (id : String) (r : V → List V → Hp → VK → Prop) : Prop :=
  ∀ (pins : List (Addr × Obj)) (s : Shared) (σ : St) (H : Hp) (x : V) (xs : List V) (v : Value) (us : List Value) (Q : VK), Inv X pins σ H s → RelV x v → Vals xs us → r x xs H Q →
    wpAny (model X.prog X.w) X.A (call (.builtin id) (v :: us)) (EP X pins σ Q) X.xe s
theorem Vals.one : ∀ {x : V} {us : List Value}, Vals [x] us → ∃ u, us = [u] ∧ RelV x u
  | _, _, .cons r .nil => ⟨_, rfl, r⟩
theorem Vals.two : ∀ {x y : V} {us : List Value}, Vals [x, y] us → ∃ u v, us = [u, v] ∧ RelV x u ∧ RelV y v
  | _, _, _, .cons r (.cons q .nil) => ⟨_, _, rfl, r, q⟩
theorem Vals.reverse {xs : List V} {us : List Value} (h : Vals xs us) : Vals xs.reverse us.reverse := by
  induction h with
  | nil => exact .nil
  | cons r t ih => rw [List.reverse_cons, List.reverse_cons]; exact Vals.append ih (.cons r .nil)
section
variable {X : Cx} {pins : List (Addr × Obj)} {σ : St} {H : Hp} {s : Shared} {l b : Addr} {xs ys zs : List V}
theorem Inv.M4 {its its' : List Value} {n : Nat} {f : Array Value → Array Value} {t' : Nat} (I : Inv X pins σ H s) (hH : H l = some (.lst xs))
    (e : s.heap.get? l = some { cls := .type "list", data := .seq its.toArray n }) (hf : f its.toArray = its'.toArray) (hv : Vals ys its') (hz : ys.length ≤ sizeLine) :
    Inv X pins σ (upd H l (.lst ys)) { s with heap := s.heap.update l (Obj.mapSeq f), toks := t' } := by
  have q := PySem.IsL.update e f
  rw [hf] at q
  refine I.write (x := l) (e := l) (by rw [hH]; exact trivial) (.inl rfl) (fun b' u hb hu => (Heap.get?_update_other s.heap (Obj.mapSeq f) (Ne.symm hb)).trans hu) ⟨_, q⟩ ?_
  exact ⟨hz, its', _, hv, q⟩
theorem Inv.MR (I : Inv X pins σ H s) (hH : H l = some (.lst xs)) : xs.length ≤ sizeLine ∧ ∃ (its : List Value) (n : Nat), Vals xs its ∧ xs.length = its.length ∧ s.heap.get? l = some { cls := .type "list", data := .seq its.toArray n } := by
  obtain ⟨z, its, n, r, e⟩ := I.hok l _ hH
  exact ⟨z, its, n, r, r.length, e⟩
end
section
variable {X : Cx}
def G7 : V → List V → Hp → VK → Prop := fun x vs H Q => ∃ l xs y, x = .ref l ∧ vs = [y] ∧ H l = some (.lst xs) ∧ xs.length < sizeLine ∧ Q .non (upd H l (.lst (xs ++ [y])))
theorem oW : MtM X "list.append" G7 := by
  intro pins s σ H x vs v us Q I rx rv h
  obtain ⟨l, xs, y, rfl, rfl, hH, hz, q⟩ := h
  cases rx
  obtain ⟨u, rfl, ru⟩ := rv.one
  obtain ⟨z, its, n, r, hl, e⟩ := I.MR hH
  refine call_meets F.slot_list_append ⟨_, e, rfl⟩ F.entry_list_append (F.args_list_append_2 _ _) (PySem.list_append l its.toArray n u (by rw [List.size_toArray]; omega)) ⟨e, ?_⟩
  refine ⟨.non, _, I.M4 (its' := its ++ [u]) hH e (by simp) (r.append (.cons ru .nil)) ?_, rfl, q⟩
  rw [List.length_append, List.length_singleton]
  omega
end
section
variable {prog : Program} {w : World} {A : Around} {E : Value → Shared → Prop} {s : Shared}
end
section
variable {X : Cx}
end
end L2
namespace Att
open PySem PySem.W PySem.Calls PyProof.Rows
theorem tR {P : Params} {h : Heap} : ∀ (ns : List Int) (vs : List Value), WellAll P h vs (ns.map WData.int) → IntsAre vs ns := by
  intro ns
  induction ns with
  | nil =>
    intro vs w
    rw [List.map_nil] at w
    cases w
    exact .nil
  | cons n ns ih =>
    intro vs w
    rw [List.map_cons] at w
    cases w with
    | cons a b =>
      cases a
      exact .cons _ _ (ih _ b)
theorem D6 {l : OpenLaw} {n : Nat} (hn : l.most = some n) {P : Params} {h : Heap} {args : List WData} {vals : List Value}
    (hpre : l.row.toRowW.claim.pre args = true) (hwl : WellAll P h vals args) :
    ∃ a vs ns, vals = [Value.ref a] ∧ args = [WData.list (ns.map WData.int)] ∧ h.get? a = some { cls := .type "list", data := .seq vs.toArray } ∧ IntsAre vs ns ∧ ns.length ≤ n := by
  have hsh : WShape.hasAll [] args [.list .int] = true := (pre_splitW hpre).1
  have hc : l.pre.holds [] { args := args } = true := (pre_splitW hpre).2
  obtain ⟨d, r, rfl, h1, h2⟩ := hasAllW_cons hsh
  obtain rfl := hasAllW_nil h2
  obtain ⟨xs, rfl, h3⟩ := hasW_list h1
  obtain ⟨ns, rfl⟩ := items_int h3
  have hlen : ns.length ≤ n := by
    unfold OpenLaw.pre at hc
    have h4 : (WTm.not (.lt (.lit (.int (n : Int))) (.len (.arg 0)))).holds [] { args := [.list (ns.map .int)] } = true := by
      have h4 := (holds_andW hc).1
      rw [hn] at h4
      exact h4
    have h5 := condW_of h4 (w_not (w_lt w_lit (w_len_list (w_arg rfl))))
    rw [List.length_map] at h5
    refine Nat.le_of_not_lt fun q => ?_
    have q' : (n : Int) < ((ns.length : Nat) : Int) := by omega
    first
      | (rw [decide_eq_true q'] at h5; exact absurd h5 (by decide))
      | (simp at h5; omega)
  cases hwl with
  | cons w1 w2 =>
    cases w2
    cases w1 with
    | list ho hall => exact ⟨_, _, ns, rfl, rfl, ho, tR ns _ hall, hlen⟩
theorem Ep (l : OpenLaw) (args : List WData) : l.row.toRowW.claim.post args (.bool true) args = true :=
  postW_of (r := l.row.toRowW) (X := (true == true))
    (show WShape.has [] (.bool true) .bool = true by first | rfl | decide | simp [WShape.has, WShape.arms, WShape.armsAll])
    (show (WTm.eq .res (.lit (.bool true))).value [] { args := args, res := some (.bool true), after := args } = some (.bool (true == true)) from w_eq_bool (w_res rfl) w_lit) rfl
theorem An {l : OpenLaw} {n : Nat} {q : Program} {loose : List Str} {XP : (Str → Option Value) → Heap → Prop} {YP : World → Heap → Prop} {d : DefRec}
    (hn : l.most = some n) (hdf : d.params.defaults = [])
    (call : ∀ (w : World) (s₀ s₁ : Shared) (mg mb : Str → Option Value) (fa : Addr) (o : Obj) (pm cd doc : Value) (a : Addr) (vs : List Value) (ns : List Int),
      Ground q loose [] XP w s₀ mg mb s₁.heap → YP w s₁.heap →
      s₁.heap.get? fa = some o → o.data = .func (docDef d.name d.params d.body d.scope pm cd doc) → s₁.heap.CodeRec cd d.name → mg d.name = some (.ref fa) →
      s₁.heap.get? a = some { cls := .type "list", data := .seq vs.toArray } → IntsAre vs ns → ns.length ≤ n → s₁.gens = #[] →
      codeAny (model l.prog w) callerA (.call (.ref fa) ⟨[.ref a], []⟩) (fun r s' => r = .ok (.ret (.bool true)) ∧ OldK s₁.heap s'.heap ∧ s'.os = s₁.os ∧ AllBare s'.gens) s₁) :
    WalkO q loose XP YP l.row.toRowW d [] (fun f vs => PySem.call f vs) := by
  intro w s₀ s₁ mg mb G Y fa o pm cd doc dV kV ho hd hcd hD hmg hg args vals as hpre hlay hrd hwl hlo
  obtain rfl : dV = .none := Dflts.none hD hdf
  obtain rfl : kV = .none := Dflts.noKw hD
  obtain ⟨a, vs, ns, rfl, rfl, hobj, hints, hlen⟩ := D6 hn hpre hwl
  refine enter_call (codeAny_mono (call w s₀ s₁ mg mb fa o pm cd doc a vs ns G Y ho (fd_plain hd) hcd hmg hobj hints hlen hg) fun r s' hq => ?_)
  obtain ⟨rfl, h2, h3, h4⟩ := hq
  exact ⟨.inl ⟨.bool true, .bool true, [], rfl, fun _ => rfl, .bool true, Ep l _, fun _ => ⟨List.Pairwise.nil, fun _ hm => (nomatch hm)⟩⟩, h2, h3, h4⟩
section
variable {prog : Program} {w : World} {A : Around} {E : Value → Shared → Prop} {s : Shared} {K : Frag}
def ledger (h : Heap) (L d : Addr) : List (Addr × Obj) := (List.range h.objs.size).filterMap fun a => if a = L ∨ a = d then none else (h.get? a).map fun o => (a, o)
end
end Att
namespace L2
open PySem PySem.Spec PyProof.Rows
theorem xC : ∀ {vs : List Value} {ns : List Int}, IntsAre vs ns → Vals (ns.map V.int) vs
  | _, _, .nil => .nil
  | _, _, .cons n t h => .cons ⟨t, rfl⟩ (xC h)
end L2
namespace L2
open PySem PySem.Spec PyProof.Rows
end L2
namespace L2
open PySem PySem.Spec PyProof.Rows
abbrev CX0 : CXT := fun _ _ _ _ _ _ => False
abbrev E0 : XK := fun _ _ _ => False
theorem LO {X : Cx} : Passes CX0 X E0 := fun _ _ _ _ _ _ _ h => h.elim
structure Fun (K : PySem.W.Frag) (x qual : Str) (st : Stmt) (f : Addr) (fd : FuncData) : Prop where
  ex : ∃ (oc : Value) (od : Option Addr) (kV doc pm : Value) (an : Option Addr) (cdv ct : Value) (osl : Array (Option Value)),
    fd = PySem.W.fnOf x qual (oi st) (kc st) (aC st) .none kV doc pm an cdv ct ∧ K.lookup f = some ⟨oc, od, .func fd, osl⟩ ∧ PySem.W.codeIn K cdv qual = true
  kp : PySem.W.keepIn K (.ref f) = true
section
variable {P : Program} {w : World} {K : PySem.W.Frag} {mg : Str → Option Value} {base : Heap}
theorem Fun.ok {x qual : Str} {st : Stmt} {f : Addr} {fd : FuncData} {N ps : List Str} {k : Nat} {sp : Sp} (F : Fun K x qual st f fd) (S : aQ N ps (aC st)) (len : ∀ vs H Q E, sp vs H Q E → vs.length = ps.length)
    (hbody : ∀ (cdv : Value) (A : Around) (outer : List Env) (s : Shared) (H : Hp) (vs : List V) (Q : VK) (E : XK), mE k (A.deeper (envOfC qual (aC st) s.heap.objs.size f cdv)) → sp vs H Q E →
      ∃ t, PSs (B2 CX0 P w K mg base N qual (aC st) f cdv A outer s H E).nox (kc st) t ∧ t { nx := fun _ H' => Q .non H', rt := Q } (start N vs) H) : cu P w K mg base CX0 (k + 1) f fd ps sp := by
  obtain ⟨oc, od, kV, doc, pm, an, cdv, ct, osl, rfl, lk, hcd⟩ := F.ex
  refine LZ lk hcd S len fun A outer s H vs Q E hr hsp => ?_
  obtain ⟨t, h, q⟩ := hbody cdv A outer s H vs Q E hr hsp
  exact ⟨t, h.nox, q⟩
theorem Fun.binds {x qual : Str} {st : Stmt} {f : Addr} {fd : FuncData} {ps : List Str} (F : Fun K x qual st f fd)
    (h : ∀ (kV doc pm : Value) (an : Option Addr) (cdv ct : Value) (us : List Value), us.length = ps.length → bindArgs (PySem.W.fnOf x qual (oi st) (kc st) (aC st) .none kV doc pm an cdv ct) ⟨us, []⟩ = pure (ps.zip us)) : Binds K fd ps [] := by
  obtain ⟨oc, od, kV, doc, pm, an, cdv, ct, osl, rfl, lk, hcd⟩ := F.ex
  exact .all (h kV doc pm an cdv ct)
theorem bB {x qual : Str} {st : Stmt} {f : Addr} {oc : Value} {od an : Option Addr} {osl : Array (Option Value)} {kV doc pm cdv ct : Value} (l : K.lookup f = some ⟨oc, od, .func (PySem.W.fnOf x qual (oi st) (kc st) (aC st) .none kV doc pm an cdv ct), osl⟩)
    (c : PySem.W.codeIn K cdv qual = true) (k : PySem.W.keepIn K (.ref f) = true) : Fun K x qual st f (PySem.W.fnOf x qual (oi st) (kc st) (aC st) .none kV doc pm an cdv ct) := ⟨⟨oc, od, kV, doc, pm, an, cdv, ct, osl, rfl, l, c⟩, k⟩
end
theorem iy {n : Nat} (h : n ≤ 1000) : n < sizeLine := Nat.lt_of_le_of_lt h (by decide)
section
variable {X : Cx}
end
theorem xo {A B : Prop} (h : B) : if false = true then A else B := by
  rw [if_neg Bool.false_ne_true]
  exact h
theorem w4 {A B : Prop} (h : A) : if true = true then A else B := by
  rw [if_pos rfl]
  exact h
def nJ (H H' : Hp) : Prop := ∀ b o, H b = some o → H' b = some o
theorem nJ.refl (H : Hp) : nJ H H := fun _ _ h => h
theorem nJ.trans {H H1 H2 : Hp} (a : nJ H H1) (b : nJ H1 H2) : nJ H H2 := fun c o h => b c o (a c o h)
theorem nJ.free {H H' : Hp} (e : nJ H H') {l : Addr} (h : H' l = Option.none) : H l = Option.none := by
  cases q : H l with
  | none => rfl
  | some o =>
    rw [e l o q] at h
    cases h
end L2
set_option linter.all false
set_option maxRecDepth 100000
set_option maxHeartbeats 4000000
namespace NM
@[irreducible] def Sz (n : Nat) (i : Int) : Prop := i.natAbs < 2 ^ n
theorem Sz.mono {n m : Nat} {i : Int} (h : Sz n i) (l : n ≤ m) : Sz m i := by unfold Sz at *; exact Nat.lt_of_lt_of_le h (Nat.pow_le_pow_right (by decide) l)
theorem Sz.mul {n m : Nat} {i j : Int} (h : Sz n i) (g : Sz m j) : Sz (n + m) (i * j) := by
  unfold Sz at *
  rw [Int.natAbs_mul, Nat.pow_add]
  exact Nat.mul_lt_mul'' h g
theorem Sz.add {n : Nat} {i j : Int} (h : Sz n i) (g : Sz n j) : Sz (n + 1) (i + j) := by
  unfold Sz at *
  have := Int.natAbs_add_le i j
  rw [Nat.pow_succ]
  omega
theorem Sz.neg {n : Nat} {i : Int} (h : Sz n i) : Sz n (-i) := by unfold Sz at *; rw [Int.natAbs_neg]; exact h
theorem Sz.sub {n : Nat} {i j : Int} (h : Sz n i) (g : Sz n j) : Sz (n + 1) (i - j) := by rw [Int.sub_eq_add_neg]; exact h.add g.neg
theorem Sz.le {n : Nat} {i j : Int} (h : Sz n i) (g : j.natAbs ≤ i.natAbs) : Sz n j := by unfold Sz at *; exact Nat.lt_of_le_of_lt g h
theorem Sz.of {n : Nat} {i : Int} (h : i.natAbs < 2 ^ n) : Sz n i := by unfold Sz; exact h
theorem Sz.lt {n : Nat} {i : Int} (h : Sz n i) : i.natAbs < 2 ^ n := by unfold Sz at h; exact h
def g3 (a b c : Int) : Nat := Int.gcd (Int.gcd a b : Nat) c
theorem Hs (a b c : Int) : Int.gcd (Int.gcd c a : Nat) b = g3 a b c := by
  unfold g3
  simp only [Int.gcd, Int.natAbs_natCast]
  rw [Nat.gcd_assoc, Nat.gcd_comm]
theorem Gy (a b c : Int) : ((g3 a b c : Nat) : Int) ∣ a ∧ ((g3 a b c : Nat) : Int) ∣ b ∧ ((g3 a b c : Nat) : Int) ∣ c := by
  have h : ((g3 a b c : Nat) : Int) ∣ ((Int.gcd a b : Nat) : Int) := Int.gcd_dvd_left ..
  exact ⟨Int.dvd_trans h (Int.gcd_dvd_left ..), Int.dvd_trans h (Int.gcd_dvd_right ..), Int.gcd_dvd_right ..⟩
theorem KU {a b c : Int} {k : Nat} (h1 : (k : Int) ∣ a) (h2 : (k : Int) ∣ b) (h3 : (k : Int) ∣ c) : k ∣ g3 a b c := by
  unfold g3
  exact Int.dvd_gcd (Int.natCast_dvd_natCast.mpr (Int.dvd_gcd h1 h2)) h3
theorem ye {a b c : Int} (h : c ≠ 0) : 0 < g3 a b c := by
  unfold g3
  exact Int.gcd_pos_of_ne_zero_right _ h
theorem FY (a b c k : Int) : g3 (a * k) (b * k) (c * k) = g3 a b c * k.natAbs := by
  unfold g3
  simp only [Int.gcd, Int.natAbs_natCast, Int.natAbs_mul, Nat.gcd_mul_right]
theorem Bg (a b c : Int) : g3 a (-b) c = g3 a b c := by
  unfold g3
  rw [Int.gcd_neg]
theorem Fc (a b c : Int) : g3 (-a) b c = g3 a b c := by
  unfold g3
  rw [Int.neg_gcd]
structure N3 where
  a : Int
  b : Int
  c : Int
deriving DecidableEq
theorem N3.ext' {x y : N3} (h1 : x.a = y.a) (h2 : x.b = y.b) (h3 : x.c = y.c) : x = y := by cases x; cases y; simp_all
structure Ok (x : N3) : Prop where
  c : 0 < x.c
  g : g3 x.a x.b x.c = 1
def dv (a b c : Int) : Int := if c < 0 then -(g3 a b c : Nat) else (g3 a b c : Nat)
def low (a b c : Int) : N3 := ⟨a.fdiv (dv a b c), b.fdiv (dv a b c), c.fdiv (dv a b c)⟩
theorem zp {a k q : Int} (hk : k ≠ 0) (h : a = k * q) : a.fdiv k = q := by
  subst h
  exact Int.mul_fdiv_cancel_left q hk
theorem Lq {a b c : Int} (h : c ≠ 0) : dv a b c ≠ 0 := by
  have := ye (a := a) (b := b) h
  unfold dv
  split <;> omega
theorem KQ (a b c : Int) : dv a b c ∣ a ∧ dv a b c ∣ b ∧ dv a b c ∣ c := by
  obtain ⟨h1, h2, h3⟩ := Gy a b c
  unfold dv
  split
  · exact ⟨Int.neg_dvd.mpr h1, Int.neg_dvd.mpr h2, Int.neg_dvd.mpr h3⟩
  · exact ⟨h1, h2, h3⟩
theorem iU (a b : Int) {c : Int} (h : c ≠ 0) : ∃ k : Int, k ≠ 0 ∧ (0 < k ↔ 0 < c) ∧ a = k * (low a b c).a ∧ b = k * (low a b c).b ∧ c = k * (low a b c).c ∧ Ok (low a b c) := by
  have hk := Lq (a := a) (b := b) h
  obtain ⟨⟨p, hp⟩, ⟨q, hq⟩, ⟨r, hr⟩⟩ := KQ a b c
  have ep : (low a b c).a = p := zp hk hp
  have eq : (low a b c).b = q := zp hk hq
  have er : (low a b c).c = r := zp hk hr
  have hg := ye (a := a) (b := b) h
  have hs : 0 < dv a b c ↔ 0 < c := by unfold dv; split <;> omega
  have hr0 : 0 < r := by
    have hr' : r ≠ 0 := fun z => h (by rw [hr, z, Int.mul_zero])
    rcases Int.lt_trichotomy 0 (dv a b c) with z | z | z
    · have := hs.mp z
      rw [hr] at this
      rw [Int.mul_comm] at this
      exact Int.pos_of_mul_pos_left this z |> fun t => t
    · exact absurd z.symm hk
    · have : c < 0 := by omega
      rcases Int.lt_trichotomy 0 r with w | w | w
      · exact w
      · exact absurd w.symm hr'
      · have := Int.mul_pos_of_neg_of_neg z w
        rw [← hr] at this
        omega
  refine ⟨dv a b c, hk, hs, by rw [ep]; exact hp, by rw [eq]; exact hq, by rw [er]; exact hr, by rw [er]; exact hr0, ?_⟩
  rw [ep, eq, er]
  have e := FY p q r (dv a b c)
  rw [Int.mul_comm p, Int.mul_comm q, Int.mul_comm r, ← hp, ← hq, ← hr] at e
  have e2 : (dv a b c).natAbs = g3 a b c := by unfold dv; split <;> simp
  rw [e2] at e
  have : g3 p q r * g3 a b c = 1 * g3 a b c := by omega
  exact Nat.eq_of_mul_eq_mul_right hg this
theorem ip (a b : Int) {c : Int} (h : c ≠ 0) : Ok (low a b c) := (iU a b h).choose_spec.2.2.2.2.2
theorem Ok.same {x y : N3} (hx : Ok x) (hy : Ok y) (h1 : x.a * y.c = y.a * x.c) (h2 : x.b * y.c = y.b * x.c) : x = y := by
  have key : ∀ {u v : N3}, Ok u → Ok v → u.a * v.c = v.a * u.c → u.b * v.c = v.b * u.c → u.c ∣ v.c := fun {u v} hu hv e1 e2 => by
    have hd : u.c.natAbs ∣ g3 (u.a * v.c) (u.b * v.c) (u.c * v.c) := KU
      (by rw [Int.natAbs_of_nonneg (Int.le_of_lt hu.c), e1]; exact Int.dvd_mul_left _ _) (by rw [Int.natAbs_of_nonneg (Int.le_of_lt hu.c), e2]; exact Int.dvd_mul_left _ _) (by rw [Int.natAbs_of_nonneg (Int.le_of_lt hu.c)]; exact Int.dvd_mul_right _ _)
    rw [FY, hu.g, Nat.one_mul] at hd
    exact Int.natAbs_dvd_natAbs.mp hd
  have hc : x.c = y.c := Int.dvd_antisymm (Int.le_of_lt hx.c) (Int.le_of_lt hy.c) (key hx hy h1 h2) (key hy hx h1.symm h2.symm)
  have hn : y.c ≠ 0 := by have := hy.c; omega
  rw [hc] at h1 h2
  exact N3.ext' (Int.eq_of_mul_eq_mul_right hn h1) (Int.eq_of_mul_eq_mul_right hn h2) hc
theorem Ks {a b c a' b' c' : Int} (h : c ≠ 0) (h' : c' ≠ 0) (e1 : a * c' = a' * c) (e2 : b * c' = b' * c) : low a b c = low a' b' c' := by
  obtain ⟨k, hk, _, p1, p2, p3, o⟩ := iU a b h
  obtain ⟨l, hl, _, q1, q2, q3, o'⟩ := iU a' b' h'
  generalize low a b c = x at *
  generalize low a' b' c' = y at *
  subst p1 p2 p3 q1 q2 q3
  have hkl : k * l ≠ 0 := Int.mul_ne_zero hk hl
  refine o.same o' (Int.eq_of_mul_eq_mul_left hkl (by grind)) (Int.eq_of_mul_eq_mul_left hkl (by grind))
theorem Ok.low {x : N3} (h : Ok x) : low x.a x.b x.c = x := by
  have hc : x.c ≠ 0 := by have := h.c; omega
  obtain ⟨k, hk, _, p1, p2, p3, o⟩ := iU x.a x.b hc
  refine o.same h ?_ ?_
  · exact Int.eq_of_mul_eq_mul_left hk (by grind)
  · exact Int.eq_of_mul_eq_mul_left hk (by grind)
theorem Ok.Lg {x : N3} {a b c : Int} (h : Ok x) (hc : c ≠ 0) (e1 : x.a * c = a * x.c) (e2 : x.b * c = b * x.c) : x = NM.low a b c := by
  have q := Ks (by have := h.c; omega) hc e1 e2
  rw [h.low] at q
  exact q
theorem Fn (a b : Int) {c : Int} (h : c ≠ 0) : (low a b c).a.natAbs ≤ a.natAbs ∧ (low a b c).b.natAbs ≤ b.natAbs ∧ (low a b c).c.natAbs ≤ c.natAbs := by
  obtain ⟨k, hk, _, p1, p2, p3, _⟩ := iU a b h
  have hk' : 1 ≤ k.natAbs := by omega
  have le : ∀ {u v : Int}, u = k * v → v.natAbs ≤ u.natAbs := fun {u v} e => by
    rw [e, Int.natAbs_mul]
    exact Nat.le_mul_of_pos_left _ hk'
  exact ⟨le p1, le p2, le p3⟩
structure Bd (n : Nat) (x : N3) : Prop where
  a : Sz n x.a
  b : Sz n x.b
  c : Sz n x.c
theorem Bd.mono {n m : Nat} {x : N3} (h : Bd n x) (l : n ≤ m) : Bd m x := ⟨h.a.mono l, h.b.mono l, h.c.mono l⟩
theorem jN {a b c : Int} {n : Nat} (h : c ≠ 0) (ha : Sz n a) (hb : Sz n b) (hc : Sz n c) : Bd n (low a b c) := by
  obtain ⟨h1, h2, h3⟩ := Fn a b h
  exact ⟨ha.le h1, hb.le h2, hc.le h3⟩
def plus (x y : N3) : N3 := low (x.a * y.c + y.a * x.c) (x.b * y.c + y.b * x.c) (x.c * y.c)
def less (x y : N3) : N3 := low (x.a * y.c - y.a * x.c) (x.b * y.c - y.b * x.c) (x.c * y.c)
def times (d : Int) (x y : N3) : N3 := low (x.a * y.a + d * x.b * y.b) (x.a * y.b + x.b * y.a) (x.c * y.c)
def norm (d : Int) (x : N3) : Int := x.a * x.a - d * x.b * x.b
def au (d : Int) (x : N3) : N3 := low (x.c * x.a) (-x.c * x.b) (norm d x)
def bC (x : N3) : N3 := ⟨x.a, -x.b, x.c⟩
def minus (x : N3) : N3 := ⟨-x.a, -x.b, x.c⟩
def aE : N3 := ⟨0, 0, 1⟩
def one : N3 := ⟨1, 0, 1⟩
theorem Ok.cn {x : N3} (h : Ok x) : x.c ≠ 0 := by have := h.c; omega
theorem pP {x y : N3} (h : Ok x) (g : Ok y) : x.c * y.c ≠ 0 := Int.mul_ne_zero h.cn g.cn
theorem aA {x : N3} (h : Ok x) : Ok (bC x) := ⟨h.c, by show g3 x.a (-x.b) x.c = 1; rw [Bg]; exact h.g⟩
theorem kP {x : N3} (h : Ok x) : Ok (minus x) := ⟨h.c, by show g3 (-x.a) (-x.b) x.c = 1; rw [Fc, Bg]; exact h.g⟩
theorem aW {x y : N3} (h : Ok x) (g : Ok y) : Ok (plus x y) := ip _ _ (pP h g)
theorem j8 {x y : N3} (h : Ok x) (g : Ok y) : Ok (less x y) := ip _ _ (pP h g)
theorem ah {d : Int} {x y : N3} (h : Ok x) (g : Ok y) : Ok (times d x y) := ip _ _ (pP h g)
theorem cE : Ok aE := ⟨by decide, by decide⟩
theorem gJ : Ok one := ⟨by decide, by decide⟩
theorem d4 {n : Nat} {x : N3} (h : Bd n x) : Bd n (bC x) := ⟨h.a, h.b.neg, h.c⟩
theorem rn {n : Nat} {x : N3} (h : Bd n x) : Bd n (minus x) := ⟨h.a.neg, h.b.neg, h.c⟩
theorem eC {n m : Nat} {x y : N3} (hx : Ok x) (hy : Ok y) (h : Bd n x) (g : Bd m y) : Bd (n + m + 1) (plus x y) :=
  jN (pP hx hy) ((h.a.mul g.c).add ((g.a.mul h.c).mono (by omega))) ((h.b.mul g.c).add ((g.b.mul h.c).mono (by omega))) ((h.c.mul g.c).mono (by omega))
theorem HS {n m : Nat} {x y : N3} (hx : Ok x) (hy : Ok y) (h : Bd n x) (g : Bd m y) : Bd (n + m + 1) (less x y) :=
  jN (pP hx hy) ((h.a.mul g.c).sub ((g.a.mul h.c).mono (by omega))) ((h.b.mul g.c).sub ((g.b.mul h.c).mono (by omega))) ((h.c.mul g.c).mono (by omega))
theorem kv {d : Int} (h : 2 ≤ d) (h' : d ≤ 30) : Sz 5 d := by unfold Sz; omega
theorem aO {n m : Nat} {d : Int} {x y : N3} (hd : Sz 5 d) (hx : Ok x) (hy : Ok y) (h : Bd n x) (g : Bd m y) : Bd (n + m + 6) (times d x y) :=
  jN (pP hx hy) (((h.a.mul g.a).mono (by omega)).add (((hd.mul h.b).mul g.b).mono (by omega))) ((((h.a.mul g.b).mono (by omega : n + m ≤ n + m)).add ((h.b.mul g.a).mono (by omega))).mono (by omega)) ((h.c.mul g.c).mono (by omega))
theorem oA {n : Nat} {d : Int} {x : N3} (hd : Sz 5 d) (h : Bd n x) : Sz (2 * n + 6) (norm d x) := by
  have e1 := h.a.mul h.a
  have e2 := (hd.mul h.b).mul h.b
  exact ((e1.mono (by omega : n + n ≤ 5 + n + n)).sub e2).mono (by omega)
theorem cg {n : Nat} {d : Int} {x : N3} (hd : Sz 5 d) (hn : norm d x ≠ 0) (h : Bd n x) : Bd (2 * n + 6) (au d x) :=
  jN hn ((h.c.mul h.a).mono (by omega)) ((h.c.neg.mul h.b).mono (by omega)) (oA hd h)
def aB (d : Int) : Prop := 2 ≤ d ∧ d ≤ 30 ∧ d ≠ 4 ∧ d ≠ 9 ∧ d ≠ 16 ∧ d ≠ 25
theorem D8 {d : Nat} (h : ∀ m : Nat, m * m ≠ d) : ∀ {a b : Nat}, a * a = d * (b * b) → b = 0 := fun {a b} e => by
  rcases Nat.eq_zero_or_pos b with hb | hb
  · exact hb
  exfalso
  obtain ⟨g, p, q, hg, hc, rfl, rfl⟩ := Nat.exists_coprime' (m := a) (n := b) (Nat.gcd_pos_of_pos_right _ hb)
  have e2 : (p * p) * (g * g) = (d * (q * q)) * (g * g) := by grind
  have e3 : p * p = d * (q * q) := Nat.eq_of_mul_eq_mul_right (Nat.mul_pos hg hg) e2
  have hq : q ∣ p * p := ⟨d * q, by rw [e3]; grind⟩
  have hq1 : q ∣ p := hc.symm.dvd_of_dvd_mul_left hq
  have hq2 : q = 1 := by
    have := Nat.dvd_gcd hq1 (Nat.dvd_refl q)
    rw [hc] at this
    exact Nat.dvd_one.mp this
  subst hq2
  exact h p (by rw [e3]; simp)
theorem aB.nat {d : Int} (h : aB d) : ∀ m : Nat, m * m ≠ d.toNat := fun m e => by
  obtain ⟨h1, h2, h3, h4, h5, h6⟩ := h
  have hm : m ≤ 5 := by
    rcases Nat.lt_or_ge 5 m with z | z
    · have := Nat.mul_le_mul z z; omega
    · exact z
  have : m = 0 ∨ m = 1 ∨ m = 2 ∨ m = 3 ∨ m = 4 ∨ m = 5 := by omega
  rcases this with rfl | rfl | rfl | rfl | rfl | rfl <;> omega
theorem aB.BS {d a b : Int} (h : aB d) (e : a * a = d * b * b) : a = 0 ∧ b = 0 := by
  have hd : d = ((d.toNat : Nat) : Int) := by have := h.1; omega
  have e1 : a.natAbs * a.natAbs = d.toNat * (b.natAbs * b.natAbs) := by
    have e2 := congrArg Int.natAbs e
    rw [Int.natAbs_mul, Int.natAbs_mul, Int.natAbs_mul] at e2
    rw [e2, Nat.mul_assoc]
    congr 1
    omega
  have hb := D8 h.nat e1
  have hb' : b = 0 := by omega
  subst hb'
  have : a * a = 0 := by rw [e]; simp
  exact ⟨by rcases Int.mul_eq_zero.mp this with z | z <;> exact z, rfl⟩
theorem aB.norm {d : Int} {x : N3} (h : aB d) (ok : Ok x) (hx : x ≠ aE) : norm d x ≠ 0 := fun e => by
  have e' : x.a * x.a = d * x.b * x.b := by unfold NM.norm at e; omega
  obtain ⟨h1, h2⟩ := h.BS e'
  apply hx
  have hg := ok.g
  rw [h1, h2] at hg
  have hc := ok.c
  have : x.c = 1 := by
    unfold g3 at hg
    simp [Int.gcd] at hg
    omega
  exact N3.ext' h1 h2 this
theorem ax {d : Int} {x : N3} (h : NM.norm d x ≠ 0) : Ok (au d x) := ip _ _ h
def sg (d a b : Int) : Int :=
  if a = 0 ∧ b = 0 then 0 else if 0 ≤ a ∧ 0 ≤ b then 1 else if a ≤ 0 ∧ b ≤ 0 then -1 else if (if d * b * b < a * a then a else b) > 0 then 1 else -1
theorem Dg {u v : Int} (hu : 0 ≤ u) (h : u * u ≤ v * v) (hv : 0 ≤ v) : u ≤ v := by
  rcases Int.lt_or_le v u with z | z
  · have := Int.mul_lt_mul_of_pos_left z (show 0 < u by omega)
    have := Int.mul_le_mul_of_nonneg_right (Int.le_of_lt z) hv
    omega
  · exact z
theorem sq_nonneg (u : Int) : 0 ≤ u * u := by
  rcases Int.le_total 0 u with h | h
  · exact Int.mul_nonneg h h
  · exact Int.mul_nonneg_of_nonpos_of_nonpos h h
theorem sq_pos {u : Int} (h : u ≠ 0) : 0 < u * u := by
  have := sq_nonneg u
  have : u * u ≠ 0 := Int.mul_ne_zero h h
  omega
def P (d a b : Int) : Prop := (0 ≤ a ∧ 0 ≤ b ∧ ¬ (a = 0 ∧ b = 0)) ∨ (0 < a ∧ b < 0 ∧ d * b * b < a * a) ∨ (a < 0 ∧ 0 < b ∧ a * a < d * b * b)
theorem i9 {d a b : Int} (h : aB d) : sg d a b = 1 ↔ P d a b := by
  unfold sg P
  have key : a * a = d * b * b → a = 0 ∧ b = 0 := h.BS
  by_cases c1 : d * b * b < a * a
  · simp only [c1, if_true]; split <;> (try split) <;> (try split) <;> (try split) <;> simp <;> omega
  · simp only [c1, if_false]; split <;> (try split) <;> (try split) <;> (try split) <;> simp <;> omega
theorem yh {d a b : Int} (h : aB d) : sg d (-a) (-b) = - sg d a b := by
  unfold sg
  have key : a * a = d * b * b → a = 0 ∧ b = 0 := h.BS
  have e1 : d * -b * -b = d * b * b := by grind
  have e2 : -a * -a = a * a := by grind
  rw [e1, e2]
  by_cases c1 : d * b * b < a * a
  · simp only [c1, if_true]; split <;> split <;> (try split) <;> (try split) <;> (try split) <;> (try split) <;> (try split) <;> (try split) <;> omega
  · simp only [c1, if_false]; split <;> split <;> (try split) <;> (try split) <;> (try split) <;> (try split) <;> (try split) <;> (try split) <;> omega
theorem dZ {d a b : Int} : sg d a b = 0 ↔ a = 0 ∧ b = 0 := by
  unfold sg; split <;> (try split) <;> (try split) <;> (try split) <;> omega
theorem hZ (d a b : Int) : sg d a b = 0 ∨ sg d a b = 1 ∨ sg d a b = -1 := by
  unfold sg; split <;> (try split) <;> (try split) <;> (try split) <;> omega
theorem LW {d a b : Int} (h : aB d) : (a = 0 ∧ b = 0) ∨ P d a b ∨ P d (-a) (-b) := by
  rcases hZ d a b with e | e | e
  · exact .inl (dZ.mp e)
  · exact .inr (.inl ((i9 h).mp e))
  · exact .inr (.inr ((i9 h).mp (by rw [yh h, e]; rfl)))
theorem mv {d a b : Int} (h : aB d) (n : d * b * b < a * a) : P d a b ↔ 0 < a := by
  unfold P
  have := sq_nonneg b
  have h0 : 0 ≤ d * b * b := by rw [Int.mul_assoc]; exact Int.mul_nonneg (by have := h.1; omega) this
  have ha : a ≠ 0 := fun z => by subst z; simp at n; omega
  omega
theorem jU {d a b : Int} (h : aB d) (n : a * a < d * b * b) : P d a b ↔ 0 < b := by
  unfold P
  have h0 := sq_nonneg a
  have hb : b ≠ 0 := fun z => by subst z; simp at n; omega
  omega
theorem rm {u v : Int} (h : v * v < u * u) : 0 < u + v ↔ 0 < u := by
  have hu : u ≠ 0 := fun z => by subst z; have := sq_nonneg v; simp at h; omega
  have l : v.natAbs < u.natAbs := by
    rcases Nat.lt_or_ge v.natAbs u.natAbs with z | z
    · exact z
    · have := Nat.mul_le_mul z z
      have e1 : ((u.natAbs * u.natAbs : Nat) : Int) = u * u := Int.natAbs_mul_self
      have e2 : ((v.natAbs * v.natAbs : Nat) : Int) = v * v := Int.natAbs_mul_self
      omega
  omega
theorem mul_pos_iff {u v : Int} (hu : u ≠ 0) (hv : v ≠ 0) : 0 < u * v ↔ (0 < u ↔ 0 < v) := by
  rcases Int.lt_or_gt_of_ne hu with h | h <;> rcases Int.lt_or_gt_of_ne hv with g | g
  · have := Int.mul_pos_of_neg_of_neg h g; omega
  · have := Int.mul_neg_of_neg_of_pos h g; omega
  · have := Int.mul_neg_of_pos_of_neg h g; omega
  · have := Int.mul_pos h g; omega
theorem vp {u v s t : Int} (hu : 0 ≤ u) (h : u < v) (hs : 0 ≤ s) (g : s < t) : u * s < v * t := by
  have e1 : u * s ≤ v * s := Int.mul_le_mul_of_nonneg_right (Int.le_of_lt h) hs
  have e2 : v * s < v * t := Int.mul_lt_mul_of_pos_left g (by omega)
  omega
theorem dsq {d b : Int} (hd : 0 < d) : 0 ≤ d * b * b := by rw [Int.mul_assoc]; exact Int.mul_nonneg (Int.le_of_lt hd) (sq_nonneg b)
theorem Lu {d a b p q : Int} (h : aB d) (h1 : ¬ (a = 0 ∧ b = 0)) (h2 : ¬ (p = 0 ∧ q = 0)) : P d (a * p + d * b * q) (a * q + b * p) ↔ (P d a b ↔ P d p q) := by
  have hd : 0 < d := by have := h.1; omega
  have n1 : a * a ≠ d * b * b := fun e => h1 (h.BS e)
  have n2 : p * p ≠ d * q * q := fun e => h2 (h.BS e)
  have pz : ∀ {u v : Int}, d * v * v < u * u → u ≠ 0 := fun {u v} e z => by subst z; have := dsq (b := v) hd; simp at e; omega
  have qz : ∀ {u v : Int}, u * u < d * v * v → v ≠ 0 := fun {u v} e z => by subst z; have := sq_nonneg u; simp at e; omega
  have id1 : (a * p + d * b * q) * (a * p + d * b * q) - d * (a * q + b * p) * (a * q + b * p) = (a * a - d * b * b) * (p * p - d * q * q) := by grind
  rcases Int.lt_or_gt_of_ne n1 with c1 | c1 <;> rcases Int.lt_or_gt_of_ne n2 with c2 | c2
  · have pp := Int.mul_pos_of_neg_of_neg (show a * a - d * b * b < 0 by omega) (show p * p - d * q * q < 0 by omega)
    rw [mv h (by omega), jU h c1, jU h c2]
    have sq : (a * p) * (a * p) < (d * b * q) * (d * b * q) := by
      have e2 := vp (sq_nonneg a) c1 (sq_nonneg p) c2
      grind
    rw [Int.add_comm, rm sq, Int.mul_assoc, mul_pos_iff (by omega) (Int.mul_ne_zero (qz c1) (qz c2)), mul_pos_iff (qz c1) (qz c2)]
    omega
  · have pp := Int.mul_neg_of_neg_of_pos (show a * a - d * b * b < 0 by omega) (show 0 < p * p - d * q * q by omega)
    rw [jU h (by omega), jU h c1, mv h c2]
    have sq : (a * q) * (a * q) < (b * p) * (b * p) := by
      have e2 := vp (sq_nonneg a) c1 (dsq (b := q) hd) c2
      have e3 : d * ((a * q) * (a * q)) < d * ((b * p) * (b * p)) := by grind
      exact Int.lt_of_mul_lt_mul_left e3 (Int.le_of_lt hd)
    rw [Int.add_comm, rm sq, mul_pos_iff (qz c1) (pz c2)]
  · have pp := Int.mul_neg_of_pos_of_neg (show 0 < a * a - d * b * b by omega) (show p * p - d * q * q < 0 by omega)
    rw [jU h (by omega), mv h c1, jU h c2]
    have sq : (b * p) * (b * p) < (a * q) * (a * q) := by
      have e2 := vp (dsq (b := b) hd) c1 (sq_nonneg p) c2
      have e3 : d * ((b * p) * (b * p)) < d * ((a * q) * (a * q)) := by grind
      exact Int.lt_of_mul_lt_mul_left e3 (Int.le_of_lt hd)
    rw [rm sq, mul_pos_iff (pz c1) (qz c2)]
  · have pp := Int.mul_pos (show 0 < a * a - d * b * b by omega) (show 0 < p * p - d * q * q by omega)
    rw [mv h (by omega), mv h c1, mv h c2]
    have sq : (d * b * q) * (d * b * q) < (a * p) * (a * p) := by
      have e2 := vp (dsq (b := b) hd) c1 (dsq (b := q) hd) c2
      grind
    rw [rm sq, mul_pos_iff (pz c1) (pz c2)]
theorem Mb {d A x B y : Int} (hd : 0 < d) (hA : 0 ≤ A) (hx : 0 ≤ x) (hB : 0 ≤ B) (hy : 0 ≤ y) (h1 : A * A ≤ d * B * B) (h2 : x * x ≤ d * y * y) : A * x ≤ d * (B * y) := by
  refine Dg (Int.mul_nonneg hA hx) ?_ (Int.mul_nonneg (Int.le_of_lt hd) (Int.mul_nonneg hB hy))
  have := Int.mul_le_mul h1 h2 (sq_nonneg x) (dsq hd)
  grind
theorem T1 {d A x B y : Int} (hd : 0 < d) (hA : 0 ≤ A) (hx : 0 ≤ x) (hB : 0 ≤ B) (hy : 0 ≤ y) (h1 : A * A < d * B * B) (h2 : x * x < d * y * y) : (A + x) * (A + x) < d * (B + y) * (B + y) := by
  have := Mb hd hA hx hB hy (Int.le_of_lt h1) (Int.le_of_lt h2)
  grind
theorem T2 {d A x B y : Int} (hd : 0 < d) (hA : 0 ≤ A) (hx : 0 ≤ x) (hB : 0 ≤ B) (hy : 0 ≤ y) (h1 : d * B * B < A * A) (h2 : d * y * y < x * x) : d * (B + y) * (B + y) < (A + x) * (A + x) := by
  have : d * (B * y) ≤ A * x := by
    refine Dg (Int.mul_nonneg (Int.le_of_lt hd) (Int.mul_nonneg hB hy)) ?_ (Int.mul_nonneg hA hx)
    have := vp (dsq (b := B) hd) h1 (dsq (b := y) hd) h2
    grind
  grind
theorem Z1 {d x1 y1 x2 y2 : Int} (hd : 0 < d) (h1 : x1 * x1 < d * y1 * y1) (h2 : d * y2 * y2 < x2 * x2) (a1 : 0 ≤ x2) (a2 : x2 ≤ x1) (a3 : 0 ≤ y1) (a4 : y1 ≤ y2) : False := by
  have e1 := Int.mul_le_mul a2 a2 a1 (Int.le_trans a1 a2)
  have e2 := Int.mul_le_mul_of_nonneg_left (Int.mul_le_mul a4 a4 a3 (Int.le_trans a3 a4)) (Int.le_of_lt hd)
  grind
theorem Z2 {d x1 y1 x2 y2 x3 y3 : Int} (hd : 0 < d) (h1 : x1 * x1 < d * y1 * y1) (h2 : d * y2 * y2 < x2 * x2) (h3 : d * y3 * y3 < x3 * x3) (a1 : 0 ≤ x2) (a2 : 0 ≤ y2) (a3 : 0 ≤ x3) (a4 : 0 ≤ y3) (e1 : x1 = x2 + x3) (e2 : y1 = y2 + y3) : False := by
  subst e1 e2
  have := T2 hd a1 a3 a2 a4 h2 h3
  omega
theorem Z3 {d x1 y1 x2 y2 x3 y3 : Int} (hd : 0 < d) (h1 : d * y1 * y1 < x1 * x1) (h2 : x2 * x2 < d * y2 * y2) (h3 : x3 * x3 < d * y3 * y3) (a1 : 0 ≤ x2) (a2 : 0 ≤ y2) (a3 : 0 ≤ x3) (a4 : 0 ≤ y3) (e1 : x1 = x2 + x3) (e2 : y1 = y2 + y3) : False := by
  subst e1 e2
  have := T1 hd a1 a3 a2 a4 h2 h3
  omega
theorem Mq {d a b p q u v : Int} (h : aB d) (h1 : P d a b) (h2 : P d p q) (h3 : P d u v) (e1 : a + p + u = 0) (e2 : b + q + v = 0) : False := by
  have hd : 0 < d := by have := h.1; omega
  unfold P at h1 h2 h3
  have x1 : ∀ {u c : Int}, u * u < c → -u * -u < c := fun {u c} e => by grind
  have x2 : ∀ {u c : Int}, c < u * u → c < -u * -u := fun {u c} e => by grind
  have x3 : ∀ {u c : Int}, c < d * u * u → c < d * -u * -u := fun {u c} e => by grind
  have x4 : ∀ {u c : Int}, d * u * u < c → d * -u * -u < c := fun {u c} e => by grind
  rcases h1 with ⟨u1, u2, u3⟩ | ⟨u1, u2, u3⟩ | ⟨u1, u2, u3⟩ <;> rcases h2 with ⟨v1, v2, v3⟩ | ⟨v1, v2, v3⟩ | ⟨v1, v2, v3⟩ <;> rcases h3 with ⟨w1, w2, w3⟩ | ⟨w1, w2, w3⟩ | ⟨w1, w2, w3⟩ <;> (try omega)
  all_goals first
    | exact Z1 hd (x1 u3) (x4 v3) (by omega) (by omega) (by omega) (by omega)
    | exact Z1 hd (x1 v3) (x4 u3) (by omega) (by omega) (by omega) (by omega)
    | exact Z1 hd (x1 u3) (x4 w3) (by omega) (by omega) (by omega) (by omega)
    | exact Z1 hd (x1 w3) (x4 u3) (by omega) (by omega) (by omega) (by omega)
    | exact Z1 hd (x1 v3) (x4 w3) (by omega) (by omega) (by omega) (by omega)
    | exact Z1 hd (x1 w3) (x4 v3) (by omega) (by omega) (by omega) (by omega)
    | exact Z2 hd (x1 u3) (x4 v3) (x4 w3) (by omega) (by omega) (by omega) (by omega) (by omega) (by omega)
    | exact Z2 hd (x1 v3) (x4 u3) (x4 w3) (by omega) (by omega) (by omega) (by omega) (by omega) (by omega)
    | exact Z2 hd (x1 w3) (x4 u3) (x4 v3) (by omega) (by omega) (by omega) (by omega) (by omega) (by omega)
    | exact Z3 hd (x4 u3) (x1 v3) (x1 w3) (by omega) (by omega) (by omega) (by omega) (by omega) (by omega)
    | exact Z3 hd (x4 v3) (x1 u3) (x1 w3) (by omega) (by omega) (by omega) (by omega) (by omega) (by omega)
    | exact Z3 hd (x4 w3) (x1 u3) (x1 v3) (by omega) (by omega) (by omega) (by omega) (by omega) (by omega)
theorem L5 {d a b p q : Int} (h : aB d) (h1 : P d a b) (h2 : P d p q) : P d (a + p) (b + q) := by
  rcases LW (a := a + p) (b := b + q) h with ⟨e1, e2⟩ | e | e
  · have ea : p = -a := by omega
    have eb : q = -b := by omega
    subst ea eb
    have s1 := (i9 h).mpr h1
    have s2 := (i9 h).mpr h2
    rw [yh h, s1] at s2
    omega
  · exact e
  · exact (Mq h h1 h2 e (by omega) (by omega)).elim
theorem zy {d a b p q : Int} (h : aB d) : sg d (a * p + d * b * q) (a * q + b * p) = sg d a b * sg d p q := by
  by_cases h1 : a = 0 ∧ b = 0
  · obtain ⟨rfl, rfl⟩ := h1
    have e : sg d (0 : Int) 0 = 0 := dZ.mpr ⟨rfl, rfl⟩
    rw [e]; simp [dZ]
  by_cases h2 : p = 0 ∧ q = 0
  · obtain ⟨rfl, rfl⟩ := h2
    have e : sg d (0 : Int) 0 = 0 := dZ.mpr ⟨rfl, rfl⟩
    rw [e]; simp [dZ]
  have k := Lu h h1 h2
  have h3 : ¬ (a * p + d * b * q = 0 ∧ a * q + b * p = 0) := fun ⟨e1, e2⟩ => by
    have id1 : (a * p + d * b * q) * (a * p + d * b * q) - d * (a * q + b * p) * (a * q + b * p) = (a * a - d * b * b) * (p * p - d * q * q) := by grind
    rw [e1, e2] at id1
    simp only [Int.mul_zero, Int.sub_self] at id1
    rcases Int.mul_eq_zero.mp id1.symm with z | z
    · exact h1 (h.BS (by omega))
    · exact h2 (h.BS (by omega))
  rw [← i9 h, ← i9 h, ← i9 h] at k
  have t1 := hZ d a b
  have t2 := hZ d p q
  have t3 := hZ d (a * p + d * b * q) (a * q + b * p)
  have z1 : sg d a b ≠ 0 := fun z => h1 (dZ.mp z)
  have z2 : sg d p q ≠ 0 := fun z => h2 (dZ.mp z)
  have z3 : sg d (a * p + d * b * q) (a * q + b * p) ≠ 0 := fun z => h3 (dZ.mp z)
  rcases t1 with e | e | e <;> rcases t2 with f | f | f <;> rcases t3 with g | g | g <;> simp_all
theorem kQ {d a b k : Int} (h : aB d) (hk : 0 < k) : sg d (k * a) (k * b) = sg d a b := by
  have e := zy (a := k) (b := 0) (p := a) (q := b) h
  have e1 : sg d k 0 = 1 := by unfold sg; rw [if_neg (by omega), if_pos (by omega)]
  rw [e1] at e
  simpa using e
end NM
set_option linter.all false
set_option maxRecDepth 100000
set_option maxHeartbeats 4000000
namespace NM
structure Rep (x : N3) (A B C : Int) : Prop where
  c : C ≠ 0
  a : x.a * C = A * x.c
  b : x.b * C = B * x.c
section
variable {x y : N3} {A B C A' B' C' d : Int}
theorem ai (h : Ok x) : Rep x x.a x.b x.c := ⟨h.cn, rfl, rfl⟩
theorem iO {a b c : Int} (h : c ≠ 0) : Rep (low a b c) a b c := by
  obtain ⟨k, hk, _, p1, p2, p3, _⟩ := iU a b h
  generalize low a b c = z at *
  exact ⟨h, by grind, by grind⟩
theorem Rep.eq (ox : Ok x) (oy : Ok y) (h : Rep x A B C) (g : Rep y A' B' C') (e1 : A * C' = A' * C) (e2 : B * C' = B' * C) : x = y := by
  have hc : C * C' ≠ 0 := Int.mul_ne_zero h.c g.c
  obtain ⟨_, h1, h2⟩ := h
  obtain ⟨_, g1, g2⟩ := g
  exact ox.same oy (Int.eq_of_mul_eq_mul_right hc (by grind)) (Int.eq_of_mul_eq_mul_right hc (by grind))
theorem Rep.bC (h : Rep x A B C) : Rep (bC x) A (-B) C := ⟨h.c, h.a, by show -x.b * C = -B * x.c; have := h.b; grind⟩
theorem Rep.minus (h : Rep x A B C) : Rep (minus x) (-A) (-B) C := ⟨h.c, by show -x.a * C = -A * x.c; have := h.a; grind, by show -x.b * C = -B * x.c; have := h.b; grind⟩
theorem Rep.plus (ox : Ok x) (oy : Ok y) (h : Rep x A B C) (g : Rep y A' B' C') : Rep (plus x y) (A * C' + A' * C) (B * C' + B' * C) (C * C') := by
  have hc := pP ox oy
  obtain ⟨_, q1, q2⟩ := iO (a := x.a * y.c + y.a * x.c) (b := x.b * y.c + y.b * x.c) hc
  obtain ⟨hc1, h1, h2⟩ := h
  obtain ⟨hc2, g1, g2⟩ := g
  change (NM.plus x y).a * (x.c * y.c) = _ * (NM.plus x y).c at q1
  change (NM.plus x y).b * (x.c * y.c) = _ * (NM.plus x y).c at q2
  generalize NM.plus x y = z at *
  exact ⟨Int.mul_ne_zero hc1 hc2, Int.eq_of_mul_eq_mul_right hc (by grind), Int.eq_of_mul_eq_mul_right hc (by grind)⟩
theorem Rep.less (ox : Ok x) (oy : Ok y) (h : Rep x A B C) (g : Rep y A' B' C') : Rep (less x y) (A * C' - A' * C) (B * C' - B' * C) (C * C') := by
  have hc := pP ox oy
  obtain ⟨_, q1, q2⟩ := iO (a := x.a * y.c - y.a * x.c) (b := x.b * y.c - y.b * x.c) hc
  obtain ⟨hc1, h1, h2⟩ := h
  obtain ⟨hc2, g1, g2⟩ := g
  change (NM.less x y).a * (x.c * y.c) = _ * (NM.less x y).c at q1
  change (NM.less x y).b * (x.c * y.c) = _ * (NM.less x y).c at q2
  generalize NM.less x y = z at *
  exact ⟨Int.mul_ne_zero hc1 hc2, Int.eq_of_mul_eq_mul_right hc (by grind), Int.eq_of_mul_eq_mul_right hc (by grind)⟩
theorem Rep.times (ox : Ok x) (oy : Ok y) (h : Rep x A B C) (g : Rep y A' B' C') : Rep (times d x y) (A * A' + d * B * B') (A * B' + B * A') (C * C') := by
  have hc := pP ox oy
  obtain ⟨_, q1, q2⟩ := iO (a := x.a * y.a + d * x.b * y.b) (b := x.a * y.b + x.b * y.a) hc
  obtain ⟨hc1, h1, h2⟩ := h
  obtain ⟨hc2, g1, g2⟩ := g
  change (NM.times d x y).a * (x.c * y.c) = _ * (NM.times d x y).c at q1
  change (NM.times d x y).b * (x.c * y.c) = _ * (NM.times d x y).c at q2
  generalize NM.times d x y = z at *
  exact ⟨Int.mul_ne_zero hc1 hc2, Int.eq_of_mul_eq_mul_right hc (by grind), Int.eq_of_mul_eq_mul_right hc (by grind)⟩
theorem Rep.norm (h : Rep x A B C) : NM.norm d x * (C * C) = (A * A - d * B * B) * (x.c * x.c) := by
  obtain ⟨_, h1, h2⟩ := h
  unfold NM.norm
  have e1 : x.a * x.a * (C * C) = A * A * (x.c * x.c) := by
    have : (x.a * C) * (x.a * C) = (A * x.c) * (A * x.c) := by rw [h1]
    grind
  have e2 : x.b * x.b * (C * C) = B * B * (x.c * x.c) := by
    have : (x.b * C) * (x.b * C) = (B * x.c) * (B * x.c) := by rw [h2]
    grind
  grind
theorem Rep.au (ox : Ok x) (hn : NM.norm d x ≠ 0) (h : Rep x A B C) : Rep (au d x) (C * A) (-C * B) (A * A - d * B * B) := by
  have hN := h.norm (d := d)
  have hcc : x.c * x.c ≠ 0 := Int.mul_ne_zero ox.cn ox.cn
  have hN0 : A * A - d * B * B ≠ 0 := fun z => by
    rw [z, Int.zero_mul] at hN
    rcases Int.mul_eq_zero.mp hN with w | w
    · exact hn w
    · rcases Int.mul_eq_zero.mp w with w | w <;> exact h.c w
  obtain ⟨_, q1, q2⟩ := iO (a := x.c * x.a) (b := -x.c * x.b) hn
  change (NM.au d x).a * NM.norm d x = _ * (NM.au d x).c at q1
  change (NM.au d x).b * NM.norm d x = _ * (NM.au d x).c at q2
  obtain ⟨hc1, h1, h2⟩ := h
  generalize NM.au d x = z at *
  generalize NM.norm d x = n at *
  generalize A * A - d * B * B = m at *
  refine ⟨hN0, ?_, ?_⟩
  · have e : z.a * m * (x.c * x.c) = C * A * z.c * (x.c * x.c) := by grind
    exact Int.eq_of_mul_eq_mul_right hcc e
  · have e : z.b * m * (x.c * x.c) = -C * B * z.c * (x.c * x.c) := by grind
    exact Int.eq_of_mul_eq_mul_right hcc e
theorem Rep.sg (hd : aB d) (ox : Ok x) (h : Rep x A B C) (hC : 0 < C) : sg d x.a x.b = NM.sg d A B := by
  have e1 := kQ (a := x.a) (b := x.b) hd hC
  have e2 := kQ (a := A) (b := B) hd ox.c
  rw [show C * x.a = x.c * A by have := h.a; grind, show C * x.b = x.c * B by have := h.b; grind] at e1
  rw [← e1, e2]
end
end NM
set_option linter.all false
set_option maxRecDepth 100000
set_option maxHeartbeats 4000000
namespace NM
def lean (d : Int) (x : N3) : N3 := times d (bC x) (au d x)
def bG (d : Int) (x : N3) : N3 := times d (times d (plus x (bC x)) (plus x (bC x))) (au d (times d x (bC x)))
section
variable {d : Int} {x y z : N3}
theorem Rep.div {A B C k : Int} (hk : k ≠ 0) (h : Rep x (k * A) (k * B) (k * C)) : Rep x A B C := by
  obtain ⟨c, e1, e2⟩ := h
  exact ⟨fun z => c (by rw [z, Int.mul_zero]), Int.eq_of_mul_eq_mul_left hk (by grind), Int.eq_of_mul_eq_mul_left hk (by grind)⟩
theorem DD {a b c : Int} (h : aB d) (hc : 0 < c) : sg d (low a b c).a (low a b c).b = sg d a b := (iO (show c ≠ 0 by omega)).sg h (ip _ _ (by omega)) hc
theorem bT (h : aB d) (ox : Ok x) (oy : Ok y) : sg d (times d x y).a (times d x y).b = sg d x.a x.b * sg d y.a y.b := by
  unfold times
  rw [DD h (Int.mul_pos ox.c oy.c), zy h]
theorem uO : sg d one.a one.b = 1 := by
  unfold one sg
  rw [if_neg (by simp), if_pos (by simp)]
theorem aZ (h : aB d) (ox : Ok x) (hx : sg d x.a x.b = 1) : norm d x ≠ 0 := h.norm ox (fun e => by subst e; have : sg d aE.a aE.b = 0 := dZ.mpr ⟨rfl, rfl⟩; omega)
theorem fh (ox : Ok x) (hn : norm d x ≠ 0) : times d x (au d x) = one := by
  have oc := ax hn
  exact ((ai ox).times ox oc ((ai ox).au ox hn)).eq (ah ox oc) gJ (ai gJ) (by simp only [one]; grind) (by simp only [one]; grind)
theorem eZ (h : aB d) (ox : Ok x) (hx : sg d x.a x.b = 1) : sg d (au d x).a (au d x).b = 1 := by
  have hn := aZ h ox hx
  have e := bT h ox (ax hn)
  rw [fh ox hn, uO, hx] at e
  omega
theorem xS : norm d (bC y) = norm d y := by unfold norm bC; grind
theorem se (h : aB d) (ox : Ok x) (hn : norm d x ≠ 0) : norm d (times d x (bC x)) ≠ 0 := by
  refine h.norm (ah ox (aA ox)) (fun e => ?_)
  have r := (ai ox).times (d := d) ox (aA ox) (ai ox).bC
  rw [e] at r
  have := r.a
  simp only [aE, Int.zero_mul, Int.mul_one] at this
  apply hn
  unfold norm
  grind
theorem fP (h : aB d) (hn : norm d x ≠ 0) (ox : Ok x) : Ok (bG d x) := by
  have op := aW ox (aA ox)
  exact ah (ah op op) (ax (se h ox hn))
theorem Iu (h : aB d) (ox : Ok x) (hx : sg d x.a x.b = 1) : sg d x.a (-x.b) = sg d (norm d x) 0 := by
  have e := zy (a := x.a) (b := x.b) (p := x.a) (q := -x.b) h
  rw [hx, Int.one_mul] at e
  rw [← e]
  unfold norm
  congr 1 <;> grind
theorem kL {n : Int} : sg d n 0 = if n = 0 then 0 else if 0 < n then 1 else -1 := by
  unfold sg
  by_cases h : n = 0
  · simp [h]
  · rcases Int.lt_or_gt_of_ne h with z | z
    · rw [if_neg (by omega), if_neg (by omega), if_pos (by omega), if_neg h, if_neg (by omega)]
    · rw [if_neg (by omega), if_pos (by omega), if_neg h, if_pos (by omega)]
theorem zE {n : Int} : sg d 0 n = if n = 0 then 0 else if 0 < n then 1 else -1 := by
  unfold sg
  by_cases h : n = 0
  · simp [h]
  · rcases Int.lt_or_gt_of_ne h with z | z
    · rw [if_neg (by omega), if_neg (by omega), if_pos (by omega), if_neg h, if_neg (by omega)]
    · rw [if_neg (by omega), if_pos (by omega), if_neg h, if_pos (by omega)]
def W (x y : N3) : Int := x.b * y.a - x.a * y.b
def Iy (d : Int) (x y : N3) : Int := sg d (x.a * y.c - y.a * x.c) (x.b * y.c - y.b * x.c)
theorem Rep.congr {A B C A' B' C' : Int} (h : Rep x A B C) (e1 : A = A') (e2 : B = B') (e3 : C = C') : Rep x A' B' C' := by subst e1 e2 e3; exact h
theorem Rep.neg {A B C : Int} (h : Rep x A B C) : Rep x (-A) (-B) (-C) := ⟨by have := h.c; omega, by rw [Int.mul_neg, Int.neg_mul, h.a], by rw [Int.mul_neg, Int.neg_mul, h.b]⟩
theorem lf1 (a c : Int) : a * c + a * c = c * (2 * a) := by grind
theorem lf2 (b c : Int) : b * c + -b * c = c * 0 := by grind
theorem lf3 (a b d : Int) : a * a + d * b * -b = a * a - d * b * b := by grind
theorem lf4 (a b : Int) : a * -b + b * a = 0 := by grind
theorem lf5 (a c n d : Int) : (2 * a * (2 * a) + d * 0 * 0) * (c * c * n) + d * (2 * a * 0 + 0 * (2 * a)) * (-(c * c) * 0) = c * c * n * (4 * (a * a)) := by grind
theorem lf6 (a c n d : Int) : (2 * a * (2 * a) + d * 0 * 0) * (-(c * c) * 0) + (2 * a * 0 + 0 * (2 * a)) * (c * c * n) = c * c * n * 0 := by grind
theorem lf7 (c n d : Int) : c * c * (n * n - d * 0 * 0) = c * c * n * n := by grind
structure HI (z x y : N3) : Prop where
  ex : ∃ p q C : Int, 0 < p ∧ 0 < q ∧ 0 < C ∧ Rep z (p * x.a + q * y.a) (p * x.b + q * y.b) C
theorem DR (ox : Ok x) (oy : Ok y) : HI (plus x y) x y :=
  ⟨y.c, x.c, x.c * y.c, oy.c, ox.c, Int.mul_pos ox.c oy.c, by
    have r := (ai ox).plus ox oy (ai oy)
    exact ⟨r.c, by have := r.a; grind, by have := r.b; grind⟩⟩
theorem HI.pos (hd : aB d) (oz : Ok z) (h : HI z x y) (hx : sg d x.a x.b = 1) (hy : sg d y.a y.b = 1) : sg d z.a z.b = 1 := by
  obtain ⟨p, q, C, hp, hq, hC, r⟩ := h.ex
  rw [r.sg hd oz hC, i9 hd]
  refine L5 hd ?_ ?_
  · rw [← i9 hd, kQ hd hp]; exact hx
  · rw [← i9 hd, kQ hd hq]; exact hy
theorem ll (hd : aB d) (ox : Ok x) (hn : norm d x ≠ 0) : Rep (bG d x) (4 * (x.a * x.a)) 0 (norm d x) := by
  have op := aW ox (aA ox)
  have ot := ah (d := d) ox (aA ox)
  have np := se hd ox hn
  have r1 := (ai ox).plus ox (aA ox) (ai ox).bC
  have r1' : Rep (plus x (bC x)) (2 * x.a) 0 x.c := Rep.div (k := x.c) ox.cn (r1.congr (lf1 ..) (lf2 ..) rfl)
  have r2 := (ai ox).times (d := d) ox (aA ox) (ai ox).bC
  have r2' : Rep (times d x (bC x)) (norm d x) 0 (x.c * x.c) := r2.congr (lf3 ..) (lf4 ..) rfl
  have r3 := (r1'.times (d := d) op op r1').times (d := d) (ah op op) (ax np) (r2'.au ot np)
  have hk : x.c * x.c * norm d x ≠ 0 := Int.mul_ne_zero (pP ox ox) hn
  exact Rep.div hk (r3.congr (lf5 ..) (lf6 ..) (lf7 ..))
end
end NM
set_option Elab.async false
set_option linter.all false
set_option maxRecDepth 100000
set_option maxHeartbeats 4000000
namespace L2.DL
open PySem PySem.Spec PyProof.Rows
abbrev Mu := Addr → Option (List PyData)
abbrev PQ := PySem.W.Frag → V → Mu → Hp → Prop
inductive D where
  | v (x : PyData)
  | m (a : Addr)
  | s (ns : List Int)
  /-- an object that is handed on -/
  | o (a : Addr)
  /-- a thing of which something is known that stays -/
  | q (P : PQ)
abbrev Rho := List (Option D)
def aM (μ : Mu) (a : Addr) (ds : List PyData) : Mu := fun b => if b = a then some ds else μ b
theorem bA {μ : Mu} {a : Addr} {ds} : aM μ a ds a = some ds := by unfold aM; rw [if_pos rfl]
theorem bU {μ : Mu} {a b : Addr} {ds} (h : b ≠ a) : aM μ a ds b = μ b := by unfold aM; rw [if_neg h]
theorem oT {μ : Mu} {a : Addr} {ds es} : aM (aM μ a ds) a es = aM μ a es := by
  funext b; unfold aM; split <;> rfl
mutual
inductive Rp (K : PySem.W.Frag) (μ : Mu) (H : Hp) : PyData → V → Prop
  | none : Rp K μ H .none .non
  | bool (b : Bool) : Rp K μ H (.bool b) (.bl b)
  | int (i : Int) : Rp K μ H (.int i) (.int i)
  | str (x : Str) : Rp K μ H (.str x) (.str x)
  | list {a : Addr} {xs : List V} {ds : List PyData} : H a = some (.lst xs) → μ a = Option.none → RpL K μ H ds xs → Rp K μ H (.list ds) (.ref a)
  | tuple {a : Addr} {xs : List V} {ds : List PyData} : SqT K H a xs → RpL K μ H ds xs → Rp K μ H (.tuple ds) (.ref a)
inductive RpL (K : PySem.W.Frag) (μ : Mu) (H : Hp) : List PyData → List V → Prop
  | nil : RpL K μ H [] []
  | cons {d : PyData} {v : V} {ds : List PyData} {vs : List V} : Rp K μ H d v → RpL K μ H ds vs → RpL K μ H (d :: ds) (v :: vs)
end
def NT : HO → Prop
  | .tbl _ => False
  | _ => True
structure Ext (K : PySem.W.Frag) (μ : Mu) (H : Hp) (μ' : Mu) (H' : Hp) : Prop where
  keep : ∀ b o, H b = some o → μ b = none → NT o → H' b = some o
  tb : ∀ b ps, H b = some (.tbl ps) → μ b = none → ∃ ps', H' b = some (.tbl ps')
  dom : ∀ b ds, μ b = some ds → ∃ es, μ' b = some es
  fresh : ∀ b, μ b = none → (H b ≠ none ∨ K.lookup b ≠ none) → μ' b = none
def RpD (K : PySem.W.Frag) (μ : Mu) (H : Hp) : D → V → Prop
  | .v x, u => Rp K μ H x u
  | .m a, u => u = .ref a ∧ ∃ ds, μ a = some ds
  | .s ns, u => ∃ a, u = .ref a ∧ SqL K H a (ns.map V.int) ∧ μ a = none
  | .o a, u => u = .ref a
  | .q P, u => ∀ μ' H', Ext K μ H μ' H' → P K u μ' H'
def codeAt (c : Addr) (q : Str) (h : Heap) : Prop := ∃ o vs t, h.get? c = some o ∧ o.data = .fields vs ∧ vs[1]? = some (.str q t)
abbrev Hv (q : Str) : Str := (q ++ ".<locals>.") ++ "<lambda>"
def Nb (H : Hp) (P : Addr) (q : Str) : Prop := ∃ ps : Array Value, H P = some (.tbl ps) ∧ TriplesOk ps.toList ∧ ∀ pos cv, codeAmong pos ps.toList = some cv → ∃ c, cv = .ref c ∧ H c = some (.ext (codeAt c (Hv q)))
def zW (K : PySem.W.Frag) (H : Hp) : Prop := ∀ c o P q, K.lookup c = some o → d5 o = some (P, q) → Nb H P q
structure dF (K : PySem.W.Frag) (μ : Mu) (H : Hp) : Prop where
  lst : ∀ a ds, μ a = some ds → ∃ xs, H a = some (.lst xs) ∧ RpL K μ H ds xs
  tab : zW K H
instance {K : PySem.W.Frag} {μ : Mu} {H : Hp} : CoeFun (dF K μ H) fun _ => ∀ a ds, μ a = some ds → ∃ xs, H a = some (.lst xs) ∧ RpL K μ H ds xs := ⟨dF.lst⟩
theorem zW.of {K : PySem.W.Frag} {H H1 : Hp} (t : zW K H) (s : ∀ b o, H b = some o → (∀ xs, o ≠ .lst xs) → H1 b = some o) : zW K H1 := fun c o P q h1 h2 => by
  obtain ⟨ps, a1, a2, a3⟩ := t c o P q h1 h2
  exact ⟨ps, s _ _ a1 (fun _ z => nomatch z), a2, fun pos cv e => let ⟨c, q1, q2⟩ := a3 pos cv e; ⟨c, q1, s _ _ q2 (fun _ z => nomatch z)⟩⟩
def iT (K : PySem.W.Frag) (μ : Mu) (H : Hp) (ρ : Rho) (σ : St) : Prop :=
  ρ.length = σ.length ∧ ∀ (i : Nat) (d : D), ρ[i]? = some (some d) → ∃ u, σ[i]? = some (some u) ∧ RpD K μ H d u
structure St0 (K : PySem.W.Frag) (H : Hp) (ρ : Rho) (μ : Mu) (σ : St) : Prop where
  mu : dF K μ H
  rho : iT K μ H ρ σ
section
variable {K : PySem.W.Frag} {μ μ1 μ2 : Mu} {H H1 H2 : Hp}
theorem Ext.refl : Ext K μ H μ H := ⟨fun _ _ h _ _ => h, fun _ ps h _ => ⟨ps, h⟩, fun _ ds h => ⟨ds, h⟩, fun _ h _ => h⟩
theorem Ext.trans (a : Ext K μ H μ1 H1) (b : Ext K μ1 H1 μ2 H2) : Ext K μ H μ2 H2 where
  keep := fun c o h n t => b.keep c o (a.keep c o h n t) (a.fresh c n (.inl (by rw [h]; exact fun z => nomatch z))) t
  tb := fun c ps h n => by
    obtain ⟨ps1, h1⟩ := a.tb c ps h n
    exact b.tb c ps1 h1 (a.fresh c n (.inl (by rw [h]; exact fun z => nomatch z)))
  dom := fun c ds h => let ⟨es, q⟩ := a.dom c ds h; b.dom c es q
  fresh := fun c n h => by
    refine b.fresh c (a.fresh c n h) ?_
    rcases h with h | h
    · cases q : H c with
      | none => exact absurd q h
      | some o =>
        by_cases t : NT o
        · exact .inl (by rw [a.keep c o q n t]; exact fun z => nomatch z)
        · cases o with
          | tbl ps =>
            obtain ⟨ps1, h1⟩ := a.tb c ps q n
            exact .inl (by rw [h1]; exact fun z => nomatch z)
          | _ => exact absurd trivial t
    · exact .inr h
theorem Ext.of_same (s : nJ H H1) : Ext K μ H μ H1 := ⟨fun b o h _ _ => s b o h, fun b ps h _ => ⟨ps, s b _ h⟩, fun _ ds h => ⟨ds, h⟩, fun _ h _ => h⟩
theorem dF.not {a : Addr} {o : HO} (ok : dF K μ H) (h : H a = some o) (n : ∀ xs, o ≠ .lst xs) : μ a = none := by
  cases q : μ a with
  | none => rfl
  | some ds =>
    obtain ⟨ys, e, _⟩ := ok a ds q
    rw [h] at e
    exact absurd (Option.some.inj e) (n ys)
theorem dF.free {a : Addr} (ok : dF K μ H) (h : H a = none) : μ a = none := by
  cases q : μ a with
  | none => rfl
  | some ds =>
    obtain ⟨ys, e, _⟩ := ok a ds q
    rw [h] at e; cases e
theorem yO {a : Addr} {xs : List V} (ok : dF K μ H) (e : Ext K μ H μ1 H1) (h : SqT K H a xs) : SqT K H1 a xs := by
  rcases h with (h | ⟨o, h⟩) | h
  · exact .inl (.inl (e.keep _ _ h (ok.not h fun _ z => nomatch z) trivial))
  · exact .inl (.inr ⟨o, e.keep _ _ h (ok.not h fun _ z => nomatch z) trivial⟩)
  · exact .inr h
theorem Df {a : Addr} {xs : List V} (e : Ext K μ H μ1 H1) (h : SqL K H a xs) (n : μ a = none) : SqL K H1 a xs ∧ μ1 a = none := by
  rcases h with (h | ⟨o, h⟩) | h
  · exact ⟨.inl (.inl (e.keep _ _ h n trivial)), e.fresh _ n (.inl (by rw [h]; exact fun z => nomatch z))⟩
  · exact ⟨.inl (.inr ⟨o, e.keep _ _ h n trivial⟩), e.fresh _ n (.inl (by rw [h]; exact fun z => nomatch z))⟩
  · obtain ⟨o, its, k, hk, r⟩ := id h
    exact ⟨.inr h, e.fresh _ n (.inr (by rw [hk]; exact fun z => nomatch z))⟩
mutual
theorem Rp.ext {d : PyData} {u : V} (ok : dF K μ H) (e : Ext K μ H μ1 H1) : Rp K μ H d u → Rp K μ1 H1 d u
  | .none => .none
  | .bool b => .bool b
  | .int i => .int i
  | .str x => .str x
  | .list h n r => .list (e.keep _ _ h n trivial) (e.fresh _ n (.inl (by rw [h]; exact fun z => nomatch z))) (RpL.ext ok e r)
  | .tuple h r => .tuple (yO ok e h) (RpL.ext ok e r)
theorem RpL.ext {ds : List PyData} {us : List V} (ok : dF K μ H) (e : Ext K μ H μ1 H1) : RpL K μ H ds us → RpL K μ1 H1 ds us
  | .nil => .nil
  | .cons h r => .cons (Rp.ext ok e h) (RpL.ext ok e r)
end
theorem RpD.ext {d : D} {u : V} (ok : dF K μ H) (e : Ext K μ H μ1 H1) (r : RpD K μ H d u) : RpD K μ1 H1 d u := by
  cases d with
  | v x => exact Rp.ext ok e r
  | m a => obtain ⟨h, ds, q⟩ := r; exact ⟨h, e.dom a ds q⟩
  | s ns => obtain ⟨a, h, q, n⟩ := r; exact ⟨a, h, (Df e q n).1, (Df e q n).2⟩
  | o a => exact r
  | q P => exact fun μ' H' e' => r μ' H' (e.trans e')
theorem iT.ext {ρ : Rho} {σ : St} (ok : dF K μ H) (e : Ext K μ H μ1 H1) (r : iT K μ H ρ σ) : iT K μ1 H1 ρ σ :=
  ⟨r.1, fun i d h => let ⟨u, h1, h2⟩ := r.2 i d h; ⟨u, h1, h2.ext ok e⟩⟩
theorem RpL.length {ds : List PyData} {us : List V} : RpL K μ H ds us → ds.length = us.length
  | .nil => rfl
  | .cons _ r => congrArg (· + 1) (RpL.length r)
theorem RpL.get {ds : List PyData} {us : List V} : ∀ {i : Nat} {d : PyData}, RpL K μ H ds us → ds[i]? = some d → ∃ u, us[i]? = some u ∧ Rp K μ H d u
  | _, _, .nil, h => by simp at h
  | 0, _, .cons r _, h => by simp at h; subst h; exact ⟨_, rfl, r⟩
  | i + 1, d, .cons _ t, h => by
    obtain ⟨u, h1, h2⟩ := RpL.get (i := i) (d := d) t (by simpa using h)
    exact ⟨u, by simpa using h1, h2⟩
theorem RpL.append {ds es : List PyData} {us ws : List V} : RpL K μ H ds us → RpL K μ H es ws → RpL K μ H (ds ++ es) (us ++ ws)
  | .nil, s => s
  | .cons r t, s => .cons r (RpL.append t s)
theorem RpL.take {ds : List PyData} {us : List V} : ∀ (n : Nat), RpL K μ H ds us → RpL K μ H (ds.take n) (us.take n)
  | 0, _ => by simp; exact .nil
  | _ + 1, .nil => by simp; exact .nil
  | n + 1, .cons r t => .cons r (RpL.take n t)
theorem RpL.drop {ds : List PyData} {us : List V} : ∀ (n : Nat), RpL K μ H ds us → RpL K μ H (ds.drop n) (us.drop n)
  | 0, r => r
  | _ + 1, .nil => by simp; exact .nil
  | n + 1, .cons _ t => RpL.drop n t
theorem RpL.reverse {ds : List PyData} {us : List V} : RpL K μ H ds us → RpL K μ H ds.reverse us.reverse
  | .nil => .nil
  | .cons r t => by rw [List.reverse_cons, List.reverse_cons]; exact (RpL.reverse t).append (.cons r .nil)
theorem RpL.set {ds : List PyData} {us : List V} {d : PyData} {u : V} (q : Rp K μ H d u) : ∀ (i : Nat), RpL K μ H ds us → RpL K μ H (ds.set i d) (us.set i u)
  | _, .nil => .nil
  | 0, .cons _ t => .cons q t
  | i + 1, .cons r t => .cons r (RpL.set q i t)
theorem BX {ds : List PyData} {us : List V} {i : Int} {d : PyData} (r : RpL K μ H ds us) (h : atI ds i = some d) : ∃ u, atI us i = some u ∧ Rp K μ H d u := by
  unfold atI at h ⊢
  rw [← r.length]
  cases q : ixN ds.length i with
  | none => rw [q] at h; cases h
  | some j =>
    rw [q] at h
    exact r.get h
abbrev DK := D → Mu → Prop
abbrev DTE := Rho → Mu → DK → Prop
abbrev DTT := Rho → Mu → (Bool → Mu → Prop) → Prop
abbrev DTA := Rho → Mu → (List D → Mu → Prop) → Prop
structure DB where
  nx : Rho → Mu → Prop
  rt : DK
  bk : Rho → Mu → Prop := fun _ _ => False
  ct : Rho → Mu → Prop := fun _ _ => False
abbrev DTS := DB → Rho → Mu → Prop
inductive kz (K : PySem.W.Frag) (μ : Mu) (H : Hp) : List D → List V → Prop
  | nil : kz K μ H [] []
  | cons {d : D} {u : V} {ds : List D} {us : List V} : RpD K μ H d u → kz K μ H ds us → kz K μ H (d :: ds) (u :: us)
theorem kz.ext {ds : List D} {us : List V} (ok : dF K μ H) (e : Ext K μ H μ1 H1) : kz K μ H ds us → kz K μ1 H1 ds us
  | .nil => .nil
  | .cons h r => .cons (h.ext ok e) (kz.ext ok e r)
theorem kz.length {ds : List D} {us : List V} : kz K μ H ds us → ds.length = us.length
  | .nil => rfl
  | .cons _ r => congrArg (· + 1) (kz.length r)
end
def qF (K : PySem.W.Frag) (t : TE) (td : DTE) : Prop := ∀ (σ : St) (H : Hp) (ρ : Rho) (μ : Mu) (Qd : DK) (Q : VK), St0 K H ρ μ σ → td ρ μ Qd →
  (∀ d u μ' H', Ext K μ H μ' H' → St0 K H' ρ μ' σ → RpD K μ' H' d u → Qd d μ' → Q u H') → t σ H Q
def FV (K : PySem.W.Frag) (t : TT) (td : DTT) : Prop := ∀ (σ : St) (H : Hp) (ρ : Rho) (μ : Mu) (Qd : Bool → Mu → Prop) (Q : Bool → Hp → Prop), St0 K H ρ μ σ → td ρ μ Qd →
  (∀ b μ' H', Ext K μ H μ' H' → St0 K H' ρ μ' σ → Qd b μ' → Q b H') → t σ H Q
def IC (K : PySem.W.Frag) (n : Nat) (t : TA) (td : DTA) : Prop := ∀ (σ : St) (H : Hp) (ρ : Rho) (μ : Mu) (Qd : List D → Mu → Prop) (Q : List V → Hp → Prop), St0 K H ρ μ σ → td ρ μ Qd →
  (∀ ds us μ' H', Ext K μ H μ' H' → St0 K H' ρ μ' σ → kz K μ' H' ds us → ds.length = n → Qd ds μ' → Q us H') → t σ H Q
def xN (K : PySem.W.Frag) (t : TS) (td : DTS) : Prop := ∀ (σ : St) (H : Hp) (ρ : Rho) (μ : Mu) (Dd : DB) (De : Ends), St0 K H ρ μ σ → td Dd ρ μ →
  (∀ σ' ρ' μ' H', Ext K μ H μ' H' → St0 K H' ρ' μ' σ' → Dd.nx ρ' μ' → De.nx σ' H') →
  (∀ d u μ' H', Ext K μ H μ' H' → dF K μ' H' → RpD K μ' H' d u → Dd.rt d μ' → De.rt u H') →
  (∀ σ' ρ' μ' H', Ext K μ H μ' H' → St0 K H' ρ' μ' σ' → Dd.bk ρ' μ' → De.bk σ' H') →
  (∀ σ' ρ' μ' H', Ext K μ H μ' H' → St0 K H' ρ' μ' σ' → Dd.ct ρ' μ' → De.ct σ' H') → t De σ H
def DE (X : Cx) (e : Expr) (td : DTE) : Prop := ∃ t, PE X e t ∧ qF X.K t td
def DT (X : Cx) (e : Expr) (td : DTT) : Prop := ∃ t, PT X e t ∧ FV X.K t td
def DA (X : Cx) (es : List Expr) (td : DTA) : Prop := ∃ t, PA X es t ∧ IC X.K es.length t td
def DS (X : Cx) (st : Stmt) (td : DTS) : Prop := ∃ t, PS X st t ∧ xN X.K t td
def DSs (X : Cx) (st : List Stmt) (td : DTS) : Prop := ∃ t, PSs X st t ∧ xN X.K t td
section
variable {X : Cx} {a b c : Expr} {ta tb tc : DTE} {pos : Pos}
def af (i : Nat) : DTE := fun ρ μ Q => match ρ[i]? with
  | some (some d) => Q d μ
  | _ => False
def dC (x : PyData) : DTE := fun _ μ Q => Q (.v x) μ
theorem Fp {K : PySem.W.Frag} (i : Nat) : qF K (L1 i) (af i) := by
  intro σ H ρ μ Qd Q S h k
  unfold af at h
  split at h
  · rename_i d e
    obtain ⟨u, h1, h2⟩ := S.rho.2 i d e
    exact ⟨u, h1, k d u μ H .refl S h2 h⟩
  · exact h.elim
theorem dv (i : Nat) {x : Str} {pos : Pos} (hN : X.N[i]? = some x := by rfl) (hv : Vis X.env.scope x := by first | exact Or.inl rfl | exact Or.inr (Or.inl rfl) | exact Or.inr (Or.inr rfl)) (hd : (x == ("__debug__" : Str)) = false := by decide)
    (hcd : (x == ("__classdict__" : Str)) = false := by decide) : DE X (.Name x pos) (af i) := ⟨_, K0 hN hv hd hcd, Fp i⟩
theorem yB {K : PySem.W.Frag} {x : PyData} {u : V} (h : ∀ μ H, dF K μ H → Rp K μ H x u) : qF K (tC u) (dC x) := fun σ H ρ μ Qd Q S q k => k (.v x) u μ H .refl S (h μ H S.mu) q
theorem ae {i j pos} : DE X (.Constant (.int i) j pos) (dC (.int i)) := ⟨_, J8, yB fun _ _ _ => .int i⟩
theorem iP {i j pos} : DE X (.Constant (.bool i) j pos) (dC (.bool i)) := ⟨_, Mk, yB fun _ _ _ => .bool i⟩
theorem qp {x j pos} : DE X (.Constant (.str x) j pos) (dC (.str x)) := ⟨_, JD, yB fun _ _ _ => .str x⟩
theorem HF {x : Str} {d : PyData} {u : V} {w : Value} {pos : Pos} (hg : Gl X x) (hm : X.mg x = some w) (r : RelV u w) (h : ∀ μ H, dF X.K μ H → Rp X.K μ H d u) (hd : (x == ("__debug__" : Str)) = false := by decide) : DE X (.Name x pos) (dC d) :=
  ⟨_, Ha hg hm r hd, yB h⟩
def pH (K : PySem.W.Frag) (rr : R2) (r : D → D → Mu → DK → Prop) : Prop := ∀ (x y : D) (ux uy : V) (H : Hp) (μ : Mu) (Qd : DK) (Q : VK), dF K μ H → RpD K μ H x ux → RpD K μ H y uy → r x y μ Qd →
  (∀ d u μ' H', Ext K μ H μ' H' → dF K μ' H' → RpD K μ' H' d u → Qd d μ' → Q u H') → rr ux uy H Q
def dOp (r : D → D → Mu → DK → Prop) (ta tb : DTE) : DTE := fun ρ μ Q => ta ρ μ fun x μ1 => tb ρ μ1 fun y μ2 => r x y μ2 Q
theorem uN {K : PySem.W.Frag} {rr : R2} {r} {t1 t2 : TE} (lo : pH K rr r) (la : qF K t1 ta) (lb : qF K t2 tb) : qF K (tOp rr t1 t2) (dOp r ta tb) := by
  intro σ H ρ μ Qd Q S h k
  refine la σ H ρ μ _ _ S h fun x ux μ1 H1 e1 S1 rx h1 => ?_
  refine lb σ H1 ρ μ1 _ _ S1 h1 fun y uy μ2 H2 e2 S2 ry h2 => ?_
  exact lo x y ux uy H2 μ2 _ _ S2.mu (rx.ext S1.mu e2) ry h2 fun d u μ' H' e3 ok r q => k d u μ' H' (e1.trans (e2.trans e3)) ⟨ok, S2.rho.ext S2.mu e3⟩ r q
theorem xO {op : Operator} {rr : R2} {r} (ho : OpR X (binaryOp op) rr) (lo : pH X.K rr r) (ha : DE X a ta) (hb : DE X b tb) : DE X (.BinOp a op b pos) (dOp r ta tb) := by
  obtain ⟨t1, p1, l1⟩ := ha
  obtain ⟨t2, p2, l2⟩ := hb
  exact ⟨_, Lo ho p1 p2, uN lo l1 l2⟩
theorem dY {op : CmpOp} {rr : R2} {r} (ho : OpR X (compareOp op) rr) (lo : pH X.K rr r) (ha : DE X a ta) (hb : DE X b tb) (hm : behindInMarks op b = false) : DE X (.Compare a [op] [b] pos) (dOp r ta tb) := by
  obtain ⟨t1, p1, l1⟩ := ha
  obtain ⟨t2, p2, l2⟩ := hb
  exact ⟨_, HN ho p1 p2 hm, uN lo l1 l2⟩
def dB (t : DTE) : DTT := fun ρ μ Q => t ρ μ fun d μ1 => match d with
  | .v (.bool k) => Q k μ1
  | _ => False
theorem xY {K : PySem.W.Frag} {t : TE} {td : DTE} (l : qF K t td) : FV K (IK t) (dB td) := by
  intro σ H ρ μ Qd Q S h k
  refine l σ H ρ μ _ _ S h fun d u μ1 H1 e1 S1 r q => ?_
  split at q
  · rename_i b
    cases r
    exact ⟨b, rfl, k b μ1 H1 e1 S1 q⟩
  · exact q.elim
theorem bI {op : CmpOp} {rr : R2} {r} (ho : OpR X (compareOp op) rr) (lo : pH X.K rr r) (ha : DE X a ta) (hb : DE X b tb) (hm : behindInMarks op b = false) : DT X (.Compare a [op] [b] pos) (dB (dOp r ta tb)) := by
  obtain ⟨t1, p1, l1⟩ := ha
  obtain ⟨t2, p2, l2⟩ := hb
  exact ⟨_, Hl ho p1 p2 hm, xY (uN lo l1 l2)⟩
theorem dD {e : Expr} {td : DTE} (h : DE X e td) (he : ∀ whole, isTrue e X.env whole = (do let v ← whole; standAt e.pos; holding [v] (truthy v)) := by intro _; rfl) : DT X e (dB td) := by
  obtain ⟨t, p, l⟩ := h
  exact ⟨_, K9 p he, xY l⟩
def rII (C : Int → Int → Prop) (g : Int → Int → PyData) : D → D → Mu → DK → Prop := fun x y μ Q => match x, y with
  | .v (.int i), .v (.int j) => C i j ∧ Q (.v (g i j)) μ
  | _, _ => False
theorem HZ {K : PySem.W.Frag} {C : Int → Int → Prop} {g : Int → Int → V} {gd : Int → Int → PyData} (hg : ∀ μ H i j, Rp K μ H (gd i j) (g i j)) : pH K (rI C g) (rII C gd) := by
  intro x y ux uy H μ Qd Q ok rx ry h k
  unfold rII at h
  split at h
  · rename_i i j
    cases rx; cases ry
    exact ⟨i, j, rfl, rfl, h.1, k (.v _) _ μ H .refl ok (hg μ H i j) h.2⟩
  · exact h.elim
def wK (g : Int → Int → PyData) : D → D → Mu → DK → Prop := fun x y μ Q => match x, y with
  | .v (.int i), .v (.int j) => Q (.v (g i j)) μ
  | _, _ => False
theorem FD {K : PySem.W.Frag} {g : Int → Int → V} {gd : Int → Int → PyData} (hg : ∀ μ H i j, Rp K μ H (gd i j) (g i j)) : pH K (rI0 g) (wK gd) := by
  intro x y ux uy H μ Qd Q ok rx ry h k
  unfold wK at h
  split at h
  · rename_i i j
    cases rx; cases ry
    exact ⟨i, j, rfl, rfl, k (.v _) _ μ H .refl ok (hg μ H i j) h⟩
  · exact h.elim
abbrev kN (ta tb : DTE) : DTE := dOp (wK fun i j => .int (i + j)) ta tb
abbrev pd (ta tb : DTE) : DTE := dOp (wK fun i j => .int (i - j)) ta tb
abbrev MulOk (i j : Int) : Prop := IntMulOk i j
abbrev cI (ta tb : DTE) : DTE := dOp (rII MulOk fun i j => .int (i * j)) ta tb
abbrev ug (ta tb : DTE) : DTE := dOp (rII (fun _ j => j ≠ 0) fun i j => .int (i.fmod j)) ta tb
abbrev tE (i j : Int) : Prop := j ≠ 0 ∧ Builtin.divisionGoesByPylong i j = false
abbrev ui (ta tb : DTE) : DTE := dOp (rII tE fun i j => .int (i.fdiv j)) ta tb
abbrev vC (ta tb : DTE) : DTE := dOp (rII Ee fun i j => .int (i ^ j.toNat)) ta tb
theorem Ib : OpR X (binaryOp .Mult) (rI MulOk fun i j => .int (i * j)) := opI fun _ _ _ _ _ _ _ hc q => mul_int q hc
theorem G4 : OpR X (binaryOp .FloorDiv) (rI tE fun i j => .int (i.fdiv j)) := opI fun _ _ _ _ _ _ _ hc q => floordiv_int hc.1 q (.inl hc.2)
theorem ey (ha : DE X a ta) (hb : DE X b tb) : DE X (.BinOp a .Add b pos) (kN ta tb) := xO KN (FD fun _ _ _ _ => .int _) ha hb
theorem gq (ha : DE X a ta) (hb : DE X b tb) : DE X (.BinOp a .Sub b pos) (pd ta tb) := xO KC (FD fun _ _ _ _ => .int _) ha hb
theorem aY (ha : DE X a ta) (hb : DE X b tb) : DE X (.BinOp a .Mult b pos) (cI ta tb) := xO Ib (HZ fun _ _ _ _ => .int _) ha hb
theorem jV (ha : DE X a ta) (hb : DE X b tb) : DE X (.BinOp a .Mod b pos) (ug ta tb) := xO HU (HZ fun _ _ _ _ => .int _) ha hb
theorem jX (ha : DE X a ta) (hb : DE X b tb) : DE X (.BinOp a .FloorDiv b pos) (ui ta tb) := xO G4 (HZ fun _ _ _ _ => .int _) ha hb
theorem kq (ha : DE X a ta) (hb : DE X b tb) : DE X (.BinOp a .Pow b pos) (vC ta tb) := xO JL (HZ fun _ _ _ _ => .int _) ha hb
abbrev rLt := wK fun i j => .bool (decide (i < j))
abbrev rLe := wK fun i j => .bool (decide (i ≤ j))
abbrev rGt := wK fun i j => .bool (decide (j < i))
abbrev rGe := wK fun i j => .bool (decide (j ≤ i))
theorem fm {K : PySem.W.Frag} {p : Int → Int → Bool} : pH K (rI0 fun i j => .bl (p i j)) (wK fun i j => .bool (p i j)) := FD fun _ _ _ _ => .bool _
def wH (ta : DTE) : DTE := fun ρ μ Q => ta ρ μ fun x μ1 => match x with
  | .v (.int i) => Q (.v (.int (-i))) μ1
  | _ => False
theorem nG (ha : DE X a ta) : DE X (.UnaryOp .USub a pos) (wH ta) := by
  obtain ⟨t1, p1, l1⟩ := ha
  refine ⟨_, Mv KJ p1, fun σ H ρ μ Qd Q S h k => ?_⟩
  refine l1 σ H ρ μ _ _ S h fun x ux μ1 H1 e1 S1 rx h1 => ?_
  split at h1
  · rename_i i
    cases rx
    exact ⟨i, rfl, k (.v _) _ μ1 H1 e1 S1 (Rp.int _) h1⟩
  · exact h1.elim
def xy (t u : DTT) : DTT := fun ρ μ Q => t ρ μ fun c μ1 => if c = true then u ρ μ1 Q else Q false μ1
def jh (t u : DTT) : DTT := fun ρ μ Q => t ρ μ fun c μ1 => if c = true then Q true μ1 else u ρ μ1 Q
def en (t : DTT) : DTT := fun ρ μ Q => t ρ μ fun c μ1 => Q (!c) μ1
def DW (X : Cx) (e : Expr) (td : DTT) : Prop := ∃ t, PW X e t ∧ FV X.K t td
theorem DW.dt {e : Expr} {td : DTT} (h : DW X e td) : DT X e td := let ⟨t, p, l⟩ := h; ⟨t, p.pt, l⟩
variable {tA tB' : DTT} {rest : List Expr}
theorem uH (ha : DT X a tA) : DW X (.BoolOp .And [a] pos) tA := let ⟨t, p, l⟩ := ha; ⟨t, pw_and1 p, l⟩
theorem jY (ha : DT X a tA) : DW X (.BoolOp .Or [a] pos) tA := let ⟨t, p, l⟩ := ha; ⟨t, pw_or1 p, l⟩
theorem zl (ha : DT X a tA) (hb : DW X (.BoolOp .And (b :: rest) pos) tB') : DW X (.BoolOp .And (a :: b :: rest) pos) (xy tA tB') := by
  obtain ⟨t1, p1, l1⟩ := ha
  obtain ⟨t2, p2, l2⟩ := hb
  refine ⟨_, pw_and p1 p2, fun σ H ρ μ Qd Q S h k => ?_⟩
  refine l1 σ H ρ μ _ _ S h fun c μ1 H1 e1 S1 h1 => ?_
  cases c with
  | true =>
    refine w4 (l2 σ H1 ρ μ1 _ _ S1 (by simpa using h1) fun c μ2 H2 e2 S2 h2 => k c μ2 H2 (e1.trans e2) S2 h2)
  | false => exact xo (k false μ1 H1 e1 S1 (by simpa using h1))
theorem ib (ha : DT X a tA) (hb : DW X (.BoolOp .Or (b :: rest) pos) tB') : DW X (.BoolOp .Or (a :: b :: rest) pos) (jh tA tB') := by
  obtain ⟨t1, p1, l1⟩ := ha
  obtain ⟨t2, p2, l2⟩ := hb
  refine ⟨_, pw_or p1 p2, fun σ H ρ μ Qd Q S h k => ?_⟩
  refine l1 σ H ρ μ _ _ S h fun c μ1 H1 e1 S1 h1 => ?_
  cases c with
  | true => exact w4 (k true μ1 H1 e1 S1 (by simpa using h1))
  | false =>
    refine xo (l2 σ H1 ρ μ1 _ _ S1 (by simpa using h1) fun c μ2 H2 e2 S2 h2 => k c μ2 H2 (e1.trans e2) S2 h2)
theorem dX (ha : DT X a tA) : DT X (.UnaryOp .Not a pos) (en tA) := by
  obtain ⟨t1, p1, l1⟩ := ha
  refine ⟨_, JW p1, fun σ H ρ μ Qd Q S h k => ?_⟩
  exact l1 σ H ρ μ _ _ S h fun c μ1 H1 e1 S1 h1 => k _ μ1 H1 e1 S1 h1
def qs (ta tb : DTE) : DTE := fun ρ μ Q => ta ρ μ fun x μ1 => match x with
  | .v (.bool c) => if c = true then tb ρ μ1 Q else Q (.v (.bool false)) μ1
  | _ => False
def HP (ta tb : DTE) : DTE := fun ρ μ Q => ta ρ μ fun x μ1 => match x with
  | .v (.bool c) => if c = true then Q (.v (.bool true)) μ1 else tb ρ μ1 Q
  | _ => False
def ve (ta : DTE) : DTE := fun ρ μ Q => ta ρ μ fun x μ1 => match x with
  | .v (.bool c) => Q (.v (.bool (!c))) μ1
  | _ => False
theorem kF {op} (h : DE X a ta) : DE X (.BoolOp op [a] pos) ta := let ⟨t, p, l⟩ := h; ⟨t, Kz p, l⟩
theorem n6 (ha : DE X a ta) (hb : DE X (.BoolOp .And (b :: rest) pos) tb) : DE X (.BoolOp .And (a :: b :: rest) pos) (qs ta tb) := by
  obtain ⟨t1, p1, l1⟩ := ha
  obtain ⟨t2, p2, l2⟩ := hb
  refine ⟨_, JX p1 p2, fun σ H ρ μ Qd Q S h k => ?_⟩
  refine l1 σ H ρ μ _ _ S h fun x ux μ1 H1 e1 S1 rx h1 => ?_
  split at h1
  · rename_i c
    cases rx
    refine ⟨c, rfl, ?_⟩
    cases c with
    | true => exact w4 (l2 σ H1 ρ μ1 _ _ S1 (by simpa using h1) fun d u μ2 H2 e2 S2 r2 h2 => k d u μ2 H2 (e1.trans e2) S2 r2 h2)
    | false => exact xo (k (.v _) _ μ1 H1 e1 S1 (Rp.bool false) (by simpa using h1))
  · exact h1.elim
theorem Je (ha : DE X a ta) (hb : DE X (.BoolOp .Or (b :: rest) pos) tb) : DE X (.BoolOp .Or (a :: b :: rest) pos) (HP ta tb) := by
  obtain ⟨t1, p1, l1⟩ := ha
  obtain ⟨t2, p2, l2⟩ := hb
  refine ⟨_, LK p1 p2, fun σ H ρ μ Qd Q S h k => ?_⟩
  refine l1 σ H ρ μ _ _ S h fun x ux μ1 H1 e1 S1 rx h1 => ?_
  split at h1
  · rename_i c
    cases rx
    refine ⟨c, rfl, ?_⟩
    cases c with
    | true => exact w4 (k (.v _) _ μ1 H1 e1 S1 (Rp.bool true) (by simpa using h1))
    | false => exact xo (l2 σ H1 ρ μ1 _ _ S1 (by simpa using h1) fun d u μ2 H2 e2 S2 r2 h2 => k d u μ2 H2 (e1.trans e2) S2 r2 h2)
  · exact h1.elim
theorem rQ (ha : DE X a ta) : DE X (.UnaryOp .Not a pos) (ve ta) := by
  obtain ⟨t1, p1, l1⟩ := ha
  refine ⟨_, Ku p1, fun σ H ρ μ Qd Q S h k => ?_⟩
  refine l1 σ H ρ μ _ _ S h fun x ux μ1 H1 e1 S1 rx h1 => ?_
  split at h1
  · rename_i c
    cases rx
    exact ⟨c, rfl, k (.v _) _ μ1 H1 e1 S1 (Rp.bool _) h1⟩
  · exact h1.elim
def dIf (t : DTT) (ta tb : DTE) : DTE := fun ρ μ Q => t ρ μ fun c μ1 => if c = true then ta ρ μ1 Q else tb ρ μ1 Q
theorem xU {c : Expr} (hc : DT X c tA) (ha : DE X a ta) (hb : DE X b tb) : DE X (.IfExp c a b pos) (dIf tA ta tb) := by
  obtain ⟨t0, p0, l0⟩ := hc
  obtain ⟨t1, p1, l1⟩ := ha
  obtain ⟨t2, p2, l2⟩ := hb
  refine ⟨_, FC p0 p1 p2, fun σ H ρ μ Qd Q S h k => ?_⟩
  refine l0 σ H ρ μ _ _ S h fun c μ1 H1 e1 S1 h1 => ?_
  cases c with
  | true => exact w4 (l1 σ H1 ρ μ1 _ _ S1 (by simpa using h1) fun d u μ2 H2 e2 S2 r2 h2 => k d u μ2 H2 (e1.trans e2) S2 r2 h2)
  | false => exact xo (l2 σ H1 ρ μ1 _ _ S1 (by simpa using h1) fun d u μ2 H2 e2 S2 r2 h2 => k d u μ2 H2 (e1.trans e2) S2 r2 h2)
end
open PySem PySem.Spec PyProof.Rows
section
variable {K : PySem.W.Frag} {μ μ1 : Mu} {H H1 : Hp} {p : Addr}
theorem fX {o : HO} (h : H p = none) : Ext K μ H μ (upd H p o) :=
  ⟨fun b u e _ _ => by rw [cD (dy e h)]; exact e, fun b ps e _ => ⟨ps, by rw [cD (dy e h)]; exact e⟩, fun _ ds q => ⟨ds, q⟩, fun _ q _ => q⟩
theorem dF.Fe (ok : dF K μ H) (e : Ext K μ H μ H1) (s : nJ H H1) : dF K μ H1 := ⟨fun a ds q => by
  obtain ⟨xs, h1, h2⟩ := ok a ds q
  exact ⟨xs, s _ _ h1, h2.ext ok e⟩, ok.tab.of fun b o h _ => s b o h⟩
theorem E7 {o : HO} (h : H p = none) : nJ H (upd H p o) := fun b u q => by rw [cD (dy q h)]; exact q
theorem dF.new {o : HO} (ok : dF K μ H) (h : H p = none) : dF K μ (upd H p o) := ok.Fe (fX h) (E7 h)
theorem St0.new {o : HO} {ρ : Rho} {σ : St} (S : St0 K H ρ μ σ) (h : H p = none) : St0 K (upd H p o) ρ μ σ := ⟨S.mu.new h, S.rho.ext S.mu (fX h)⟩
theorem mD {us : List V} {ds : List PyData} (ok : dF K μ H) (r : RpL K μ H ds us) (h : H p = none) : Rp K μ (upd H p (.tup us)) (.tuple ds) (.ref p) :=
  .tuple (SqT.of iV) (r.ext ok (fX h))
theorem qb {us : List V} {ds : List PyData} (ok : dF K μ H) (r : RpL K μ H ds us) (h : H p = none) : Rp K μ (upd H p (.lst us)) (.list ds) (.ref p) :=
  .list iV (ok.free h) (r.ext ok (fX h))
theorem ki {o : HO} {ds : List PyData} (ok : dF K μ H) (h : H p = none) (hk : K.lookup p = none) : Ext K μ H (aM μ p ds) (upd H p o) where
  keep := fun b u e _ _ => by rw [cD (dy e h)]; exact e
  tb := fun b ps e _ => ⟨ps, by rw [cD (dy e h)]; exact e⟩
  dom := fun b es q => by
    have : b ≠ p := fun z => by rw [z, ok.free h] at q; cases q
    exact ⟨es, by rw [bU this]; exact q⟩
  fresh := fun b n q => by
    have : b ≠ p := fun z => by
      rcases q with q | q
      · exact q (by rw [z]; exact h)
      · exact q (by rw [z]; exact hk)
    rw [bU this]; exact n
theorem dF.mut {us : List V} {ds : List PyData} (ok : dF K μ H) (r : RpL K μ H ds us) (h : H p = none) (hk : K.lookup p = none) : dF K (aM μ p ds) (upd H p (.lst us)) := ⟨fun a es q => by
  have e := ki (o := .lst us) (ds := ds) ok h hk
  by_cases ha : a = p
  · subst ha
    rw [bA] at q
    cases q
    exact ⟨us, iV, r.ext ok e⟩
  · rw [bU ha] at q
    obtain ⟨xs, h1, h2⟩ := ok a es q
    exact ⟨xs, by rw [cD ha]; exact h1, h2.ext ok e⟩, ok.tab.of fun b o e _ => by rw [cD (dy e h)]; exact e⟩
theorem oF {o : HO} {ds es : List PyData} (h : μ p = some ds) : Ext K μ H (aM μ p es) (upd H p o) where
  keep := fun b u e n _ => by
    have : b ≠ p := fun z => by rw [z, h] at n; cases n
    rw [cD this]; exact e
  tb := fun b ps e n => by
    have : b ≠ p := fun z => by rw [z, h] at n; cases n
    exact ⟨ps, by rw [cD this]; exact e⟩
  dom := fun b fs q => by
    by_cases hb : b = p
    · subst hb; exact ⟨es, bA⟩
    · exact ⟨fs, by rw [bU hb]; exact q⟩
  fresh := fun b n q => by
    have : b ≠ p := fun z => by rw [z, h] at n; cases n
    rw [bU this]; exact n
theorem dF.set {us : List V} {ds es : List PyData} (ok : dF K μ H) (h : μ p = some ds) (r : RpL K μ H es us) : dF K (aM μ p es) (upd H p (.lst us)) := ⟨fun a fs q => by
  have e : Ext K μ H (aM μ p es) (upd H p (.lst us)) := oF h
  by_cases ha : a = p
  · subst ha
    rw [bA] at q
    cases q
    exact ⟨us, iV, r.ext ok e⟩
  · rw [bU ha] at q
    obtain ⟨xs, h1, h2⟩ := ok a fs q
    exact ⟨xs, by rw [cD ha]; exact h1, h2.ext ok e⟩, by
  obtain ⟨ys, hy, _⟩ := ok p ds h
  exact ok.tab.of fun b o e n => by
    have : b ≠ p := fun z => by rw [z, hy] at e; exact n ys (Option.some.inj e).symm
    rw [cD this]; exact e⟩
end
def dr : List D → Option (List PyData)
  | [] => some []
  | .v x :: r => (dr r).map (x :: ·)
  | _ :: _ => none
theorem kz.data {K : PySem.W.Frag} {μ : Mu} {H : Hp} : ∀ {ds : List D} {us : List V} {xs : List PyData}, kz K μ H ds us → dr ds = some xs → RpL K μ H xs us
  | _, _, _, .nil, e => by cases e; exact .nil
  | .v x :: r, _, xs, .cons h t, e => by
    simp only [dr] at e
    cases q : dr r with
    | none => rw [q] at e; cases e
    | some ys => rw [q] at e; cases e; exact .cons h (kz.data t q)
  | .m _ :: _, _, _, .cons _ _, e => by simp [dr] at e
  | .s _ :: _, _, _, .cons _ _, e => by simp [dr] at e
  | .o _ :: _, _, _, .cons _ _, e => by simp [dr] at e
section
variable {X : Cx} {e : Expr} {es : List Expr} {te : DTE} {t : DTA} {pos : Pos}
def aq : DTA := fun _ μ Q => Q [] μ
def ab (ta : DTE) (tr : DTA) : DTA := fun ρ μ Q => ta ρ μ fun x μ1 => tr ρ μ1 fun xs μ2 => Q (x :: xs) μ2
theorem ag : DA X [] aq := ⟨_, uU, fun σ H ρ μ Qd Q S h k => k [] [] μ H .refl S .nil rfl h⟩
theorem aa (ha : DE X e te) (hr : DA X es t) (hs : starEach (e :: es) X.env = (false, eval e X.env) :: starEach es X.env := by rfl) : DA X (e :: es) (ab te t) := by
  obtain ⟨t1, p1, l1⟩ := ha
  obtain ⟨t2, p2, l2⟩ := hr
  refine ⟨_, oM p1 p2 hs, fun σ H ρ μ Qd Q S h k => ?_⟩
  refine l1 σ H ρ μ _ _ S h fun x ux μ1 H1 e1 S1 rx h1 => ?_
  refine l2 σ H1 ρ μ1 _ _ S1 h1 fun xs us μ2 H2 e2 S2 rs len h2 => ?_
  exact k (x :: xs) (ux :: us) μ2 H2 (e1.trans e2) S2 (.cons (rx.ext S1.mu e2) rs) (by rw [List.length_cons, List.length_cons, len]) h2
def dm (t : DTA) : DTE := fun ρ μ Q => t ρ μ fun ds μ1 => match dr ds with
  | some xs => Q (.v (.tuple xs)) μ1
  | none => False
def mP (t : DTA) : DTE := fun ρ μ Q => t ρ μ fun ds μ1 => match dr ds with
  | some xs => Q (.v (.list xs)) μ1
  | none => False
def xM (t : DTA) : DTE := fun ρ μ Q => t ρ μ fun ds μ1 => match dr ds with
  | some xs => ∀ p, μ1 p = none → Q (.m p) (aM μ1 p xs)
  | none => False
theorem bM {x1} (h : DA X es t) (hl : es.length ≤ 1000 := by decide) : DE X (.Tuple es x1 pos) (dm t) := by
  obtain ⟨t1, p1, l1⟩ := h
  refine ⟨_, Kr p1, fun σ H ρ μ Qd Q S h k => ?_⟩
  refine l1 σ H ρ μ _ _ S h fun ds us μ1 H1 e1 S1 rs len h1 => ?_
  cases q : dr ds with
  | none => rw [q] at h1; exact h1.elim
  | some xs =>
    rw [q] at h1
    refine ⟨Nat.le_of_lt (iy (by rw [← rs.length, len]; exact hl)), fun p hp => ?_⟩
    exact k (.v (.tuple xs)) _ μ1 _ (e1.trans (fX hp)) (S1.new hp) (mD S1.mu (rs.data q) hp) h1
theorem fM (h : DA X es t) (hl : es.length ≤ 1000 := by decide) : DE X (.List es pos) (mP t) := by
  obtain ⟨t1, p1, l1⟩ := h
  refine ⟨_, Kx p1, fun σ H ρ μ Qd Q S h k => ?_⟩
  refine l1 σ H ρ μ _ _ S h fun ds us μ1 H1 e1 S1 rs len h1 => ?_
  cases q : dr ds with
  | none => rw [q] at h1; exact h1.elim
  | some xs =>
    rw [q] at h1
    refine ⟨Nat.le_of_lt (iy (by rw [← rs.length, len]; exact hl)), fun p hp => ?_⟩
    exact k (.v (.list xs)) _ μ1 _ (e1.trans (fX hp)) (S1.new hp) (qb S1.mu (rs.data q) hp) h1
def Mp (K : PySem.W.Frag) (t : TA) : TE := fun σ H Q => t σ H fun xs H1 => xs.length ≤ sizeLine ∧ ∀ p, H1 p = none → K.lookup p = none → Q (.ref p) (upd H1 p (.lst xs))
theorem HH {t : TA} (h : PA X es t) : PE X (.List es pos) (Mp X.K t) := by
  intro pins s σ H Q I hq
  refine wpAny_List_spliced (thn (h pos pins s σ H _ I hq) fun us s1 ⟨xs, H1, I1, r, z, q⟩ => ⟨by rw [← r.length]; exact z, ?_⟩)
  have hf : H1 s1.heap.objs.size = none := I1.hok.fresh (Nat.le_refl _)
  have hk : X.K.lookup s1.heap.objs.size = none := by
    cases c : X.K.lookup s1.heap.objs.size with
    | none => rfl
    | some o => exact absurd (Heap.lt_size (I1.kIn _ _ c)) (Nat.lt_irrefl _)
  refine ⟨.ref s1.heap.objs.size, upd H1 s1.heap.objs.size (.lst xs), I1.laid (t' := s1.toks) (fun b u e => Heap.get?_push_of_some _ e) (Nat.le_refl _) ?_, rfl, q _ hf hk⟩
  exact ⟨z, us, 0, r, Heap.get?_push_size _ rfl⟩
theorem uD (h : DA X es t) (hl : es.length ≤ 1000 := by decide) : DE X (.List es pos) (xM t) := by
  obtain ⟨t1, p1, l1⟩ := h
  refine ⟨_, HH p1, fun σ H ρ μ Qd Q S h k => ?_⟩
  refine l1 σ H ρ μ _ _ S h fun ds us μ1 H1 e1 S1 rs len h1 => ?_
  cases q : dr ds with
  | none => rw [q] at h1; exact h1.elim
  | some xs =>
    rw [q] at h1
    refine ⟨Nat.le_of_lt (iy (by rw [← rs.length, len]; exact hl)), fun p hp hk => ?_⟩
    have ex := ki (o := .lst us) (ds := xs) S1.mu hp hk
    exact k (.m p) _ (aM μ1 p xs) _ (e1.trans ex) ⟨S1.mu.mut (rs.data q) hp hk, S1.rho.ext S1.mu ex⟩ ⟨rfl, xs, bA⟩ (h1 p (S1.mu.free hp))
end
section
variable {X : Cx} {pins : List (Addr × Obj)} {σ : St} {H : Hp} {s : Shared} {μ : Mu}
mutual
theorem g8 (I : Inv X pins σ H s) : ∀ {d : PyData} {x : V} {u : Value}, Rp X.K μ H d x → RelV x u → ∃ as, Reads s.heap u d as
  | _, _, _, .none, r => by cases r; exact ⟨_, .none⟩
  | _, _, _, .bool b, r => by cases r; exact ⟨_, .bool b⟩
  | _, _, _, .int i, r => by obtain ⟨t, rfl⟩ := r; exact ⟨_, .int i t⟩
  | _, _, _, .str y, r => by obtain ⟨t, rfl⟩ := r; exact ⟨_, .str y t⟩
  | _, _, _, .list h _ q, r => by
    cases r
    obtain ⟨its, rv, ⟨o, n, ho, hc, _, hd⟩, _⟩ := I.list (SqL.of h)
    obtain ⟨as, ra⟩ := nL I q rv
    exact ⟨_, .list ho hc hd (by simpa using ra)⟩
  | _, _, _, .tuple h q, r => by
    cases r
    obtain ⟨its, rv, ⟨o, ho, hc, n, hd⟩, _⟩ := I.tuple h
    obtain ⟨as, ra⟩ := nL I q rv
    exact ⟨_, .tuple ho hc hd (by simpa using ra)⟩
theorem nL (I : Inv X pins σ H s) : ∀ {ds : List PyData} {xs : List V} {us : List Value}, RpL X.K μ H ds xs → Vals xs us → ∃ as, ReadsAll s.heap us ds as
  | _, _, _, .nil, .nil => ⟨_, .nil⟩
  | _, _, _, .cons h t, .cons r q => by
    obtain ⟨as, ra⟩ := g8 I h r
    obtain ⟨bs, rb⟩ := nL I t q
    exact ⟨_, .cons ra rb⟩
end
end
section
variable {X : Cx}
def Kt (K : PySem.W.Frag) (neg : Bool) : R2 := fun x y H Q => ∃ μ a b, Rp K μ H a x ∧ Rp K μ H b y ∧ SeqAt.shaped a = true ∧ SeqAt.shaped b = true ∧ Q (.bl (neg ^^ PyData.eqv a b)) H
theorem eI (hu : X.A.units + 64 < cLine) : OpR X (compareOp .Eq) (Kt X.K false) := by
  intro pins s σ H x y v u Q I rx ry h
  obtain ⟨μ, a, b, ha, hb, sa, sb, q⟩ := h
  obtain ⟨as, ra⟩ := g8 I ha rx
  obtain ⟨bs, rb⟩ := g8 I hb ry
  exact eq_dataH ra rb sa sb hu ⟨.bl (PyData.eqv a b), H, I, rfl, by simpa using q⟩
theorem gb (hu : X.A.units + 64 < cLine) : OpR X (compareOp .NotEq) (Kt X.K true) := by
  intro pins s σ H x y v u Q I rx ry h
  obtain ⟨μ, a, b, ha, hb, sa, sb, q⟩ := h
  obtain ⟨as, ra⟩ := g8 I ha rx
  obtain ⟨bs, rb⟩ := g8 I hb ry
  exact ne_dataH ra rb sa sb hu ⟨.bl (!PyData.eqv a b), H, I, rfl, by simpa using q⟩
def di (neg : Bool) : D → D → Mu → DK → Prop := fun x y μ Q => match x, y with
  | .v a, .v b => SeqAt.shaped a = true ∧ SeqAt.shaped b = true ∧ Q (.v (.bool (neg ^^ PyData.eqv a b))) μ
  | _, _ => False
theorem bZ {K : PySem.W.Frag} {neg : Bool} : pH K (Kt K neg) (di neg) := by
  intro x y ux uy H μ Qd Q ok rx ry h k
  unfold di at h
  split at h
  · rename_i a b
    exact ⟨μ, a, b, rx, ry, h.1, h.2.1, k (.v _) _ μ H .refl ok (Rp.bool _) h.2.2⟩
  · exact h.elim
def Lb (K : PySem.W.Frag) (neg : Bool) : R2 := fun x y H Q => ∃ μ a bs, Rp K μ H a x ∧ Rp K μ H (.list bs) y ∧ PyData.canLayAll0 bs = true ∧ a.canLay0 = true ∧ PyData.depth a ≤ 60 ∧ Q (.bl (neg ^^ bs.any fun b => PyData.eqv b a)) H
theorem MF (hu : X.A.units + 64 < cLine) : OpR X (compareOp .In) (Lb X.K false) := by
  intro pins s σ H x y v u Q I rx ry h
  obtain ⟨μ, a, b, ha, hb, sb, sa, dp, q⟩ := h
  obtain ⟨as, ra⟩ := g8 I ha rx
  obtain ⟨bs, rb⟩ := g8 I hb ry
  refine SeqAt.in_list_reads rb ra sb sa (by omega) ⟨.bl (b.any fun z => PyData.eqv z a), H, I, rfl, by simpa using q⟩
theorem Ej (hu : X.A.units + 64 < cLine) : OpR X (compareOp .NotIn) (Lb X.K true) := by
  intro pins s σ H x y v u Q I rx ry h
  obtain ⟨μ, a, b, ha, hb, sb, sa, dp, q⟩ := h
  obtain ⟨as, ra⟩ := g8 I ha rx
  obtain ⟨bs, rb⟩ := g8 I hb ry
  refine SeqAt.notIn_list_reads rb ra sb sa (by omega) ⟨.bl (!b.any fun z => PyData.eqv z a), H, I, rfl, by simpa using q⟩
def HW (neg : Bool) : D → D → Mu → DK → Prop := fun x y μ Q => match x, y with
  | .v a, .v (.list bs) => PyData.canLayAll0 bs = true ∧ a.canLay0 = true ∧ PyData.depth a ≤ 60 ∧ Q (.v (.bool (neg ^^ bs.any fun b => PyData.eqv b a))) μ
  | _, _ => False
theorem Kl {K : PySem.W.Frag} {neg : Bool} : pH K (Lb K neg) (HW neg) := by
  intro x y ux uy H μ Qd Q ok rx ry h k
  unfold HW at h
  split at h
  · rename_i a b
    exact ⟨μ, a, b, rx, ry, h.1, h.2.1, h.2.2.1, k (.v _) _ μ H .refl ok (Rp.bool _) h.2.2.2⟩
  · exact h.elim
end
open PySem PySem.Spec PyProof.Rows
section
variable {X : Cx} {a b e : Expr} {es : List Expr} {ta tb te : DTE} {t : DTA} {p pos : Pos}
def aH : D → D → Mu → DK → Prop := fun x y μ Q => match x, y with
  | .v (.list xs), .v (.int i) => (match atI xs i with | some d => Q (.v d) μ | none => False)
  | .v (.tuple xs), .v (.int i) => (match atI xs i with | some d => Q (.v d) μ | none => False)
  | .m l, .v (.int i) => (match μ l with
    | some xs => (match atI xs i with | some d => Q (.v d) μ | none => False)
    | none => False)
  | .s ns, .v (.int i) => (match atI ns i with | some d => Q (.v (.int d)) μ | none => False)
  | _, _ => False
theorem LM {K : PySem.W.Frag} : pH K (rIx K) aH := by
  intro x y ux uy H μ Qd Q ok rx ry h k
  unfold aH at h
  split at h
  · rename_i xs i
    cases ry
    cases q : atI xs i with
    | none => rw [q] at h; exact h.elim
    | some d =>
      rw [q] at h
      cases rx with
      | list hs hn r =>
        obtain ⟨u, e1, e2⟩ := BX r q
        exact .inl ⟨_, _, i, u, rfl, rfl, SqL.of hs, e1, k (.v d) u μ H .refl ok e2 h⟩
  · rename_i xs i
    cases ry
    cases q : atI xs i with
    | none => rw [q] at h; exact h.elim
    | some d =>
      rw [q] at h
      cases rx with
      | tuple hs r =>
        obtain ⟨u, e1, e2⟩ := BX r q
        exact .inr (.inl ⟨_, _, i, u, rfl, rfl, hs, e1, k (.v d) u μ H .refl ok e2 h⟩)
  · rename_i l i
    cases ry
    obtain ⟨rfl, ds, hm⟩ := rx
    rw [hm] at h
    simp only at h
    cases q : atI ds i with
    | none => rw [q] at h; exact h.elim
    | some d =>
      rw [q] at h
      obtain ⟨us, hl, r⟩ := ok l ds hm
      obtain ⟨u, e1, e2⟩ := BX r q
      exact .inl ⟨_, _, i, u, rfl, rfl, SqL.of hl, e1, k (.v d) u μ H .refl ok e2 h⟩
  · rename_i ns i
    cases ry
    obtain ⟨a, rfl, hs, hn⟩ := rx
    cases q : atI ns i with
    | none => rw [q] at h; exact h.elim
    | some d =>
      rw [q] at h
      have e1 : atI (ns.map V.int) i = some (.int d) := by
        unfold atI at q ⊢
        rw [List.length_map]
        cases z : ixN ns.length i with
        | none => rw [z] at q; cases q
        | some j =>
          rw [z] at q
          simp only [Option.bind_some, List.getElem?_map] at q ⊢
          rw [q] <;> rfl
      exact .inl ⟨_, _, i, _, rfl, rfl, hs, e1, k (.v (.int d)) _ μ H .refl ok (Rp.int d) h⟩
  · exact h.elim
theorem ay (ha : DE X a ta) (hb : DE X b tb) (hs : Di b) : DE X (.Subscript a b pos) (dOp aH ta tb) := by
  obtain ⟨t1, p1, l1⟩ := ha
  obtain ⟨t2, p2, l2⟩ := hb
  exact ⟨_, Md JP p1 p2 hs, uN LM l1 l2⟩
def xK (μ : Mu) : D → Option (List PyData)
  | .v (.list xs) => some xs
  | .m l => μ l
  | _ => none
def GW : D → D → Mu → DK → Prop := fun x y μ Q => match xK μ x, xK μ y with
  | some xs, some ys => xs.length + ys.length ≤ 1000 ∧ Q (.v (.list (xs ++ ys))) μ
  | _, _ => False
def KP : D → D → Mu → DK → Prop := fun x y μ Q => match x, y with
  | .v (.tuple xs), .v (.tuple ys) => xs.length + ys.length ≤ 1000 ∧ Q (.v (.tuple (xs ++ ys))) μ
  | _, _ => False
end
end L2.DL
set_option Elab.async false
set_option linter.all false
set_option maxRecDepth 100000
set_option maxHeartbeats 4000000
namespace HT
open PySem PyProof.Rows
section
variable {prog : Program} {w : World} {A : Around} {E : Value → Shared → Prop} {s : Shared}
theorem qr {t sl : Addr} {items : Array Value} {vl vu : Value} {lo hi : Option Int} {Q : Value → Shared → Prop} (ht : IsTup s.heap t items) (hs : s.heap.IsSliceOf sl vl vu .none) (pl : IsPart vl lo) (pu : IsPart vu hi)
    (hw : sIx items.size 0 lo = 0 ∧ sIx items.size items.size hi = items.size) (h : Q (.ref t) s) : wpAny (model prog w) A (getItem (.ref t) (.ref sl)) Q E s := by
  obtain ⟨os, hos, hcs, hds⟩ := id hs
  have hTs : s.TypeIs (.ref sl) "slice" := ⟨os, hos, hcs⟩
  unfold getItem
  try with_reducible refine wpAny_holding ?_
  first | refine wpAny_bind (wpAny_pure ?_) | skip
  refine wpAny_bind (wpAny_sequenceKey ht.typeIs (by decide) ?_)
  refine wpAny_bind (wpAny_callSpecial?_slot (name := Str.ofString "__getitem__") ht.typeIs PyProof.Rows.slot_tuple_getitem
    (wpAny_call_entry PyProof.Rows.slot_tuple_getitem ht.typeIs entry_tuple_getitem ?_ (args_tuple_getitem _ _)))
  show wpAny _ _ (Builtin.Tuple.tupleItemsOf (.ref t) >>= _) _ _ s
  refine wpAny_bind (tupleItemsOf_ ht ?_)
  refine wpAny_bind (wpAny_typeOf hTs ?_)
  rw [if_pos (by decide)]
  refine wpAny_bind (kY hs pl pu ?_)
  have hno : ((((sIx items.size 0 lo : Nat) : Int) == 0 && (1 : Int) == 1 && (sIx items.size items.size hi - sIx items.size 0 lo) == items.size) = true) := by
    rw [hw.1, hw.2]
    simp
  show wpAny _ _ (if (((sIx items.size 0 lo : Nat) : Int) == 0 && (1 : Int) == 1 && (sIx items.size items.size hi - sIx items.size 0 lo) == items.size) = true then _ else _) _ _ s
  rw [if_pos hno]
  refine wpAny_bind ?_
  unfold Builtin.Tuple.tupleIsExact
  refine wpAny_bind (wpAny_typeOf ht.typeIs (wpAny_pure ?_))
  rw [if_pos (by decide)]
  refine wpAny_bind (wpAny_rule ?_)
  exact wpAny_pure ⟨_, rfl, wpAny_pure h⟩
end
end HT
namespace L2.DL
open PySem PySem.Spec PyProof.Rows
section
variable {X : Cx} {a b e : Expr} {lo hi : Option Expr} {ta tb te : DTE} {pos p2 : Pos}
def vd {α : Type} (xs : List α) (lo hi : Option Int) : List α := (xs.drop (HT.sIx xs.length 0 lo)).take (HT.sIx xs.length xs.length hi - HT.sIx xs.length 0 lo)
theorem RpL.cut {K : PySem.W.Frag} {μ : Mu} {H : Hp} {ds : List PyData} {us : List V} {lo hi : Option Int} (r : RpL K μ H ds us) : RpL K μ H (vd ds lo hi) (zR us lo hi) := by
  unfold vd zR
  rw [r.length]
  exact (r.drop _).take _
theorem Iw {α : Type} {xs : List α} {lo hi : Option Int} (h : HT.sIx xs.length 0 lo = 0 ∧ HT.sIx xs.length xs.length hi = xs.length) : vd xs lo hi = xs := by
  unfold vd
  rw [h.1, h.2]
  simp
def L7 (K : PySem.W.Frag) : V → Option Int → Option Int → Hp → VK → Prop := fun x lo hi H Q => ∃ a xs, x = .ref a ∧ SqT K H a xs ∧
  (HT.sIx xs.length 0 lo = 0 ∧ HT.sIx xs.length xs.length hi = xs.length → Q (.ref a) H) ∧ ∀ p, H p = none → Q (.ref p) (upd H p (.tup (zR xs lo hi)))
theorem Hk : SlR X (L7 X.K) := by
  intro pins s σ H x v vl vu lo hi sl Q I rx hs pl pu h
  obtain ⟨a, xs, rfl, hx, q1, q⟩ := h
  by_cases hw : HT.sIx xs.length 0 lo = 0 ∧ HT.sIx xs.length xs.length hi = xs.length
  · cases rx
    obtain ⟨its, r, ht, hz⟩ := I.tuple hx
    have hlen : its.toArray.size = xs.length := by rw [List.size_toArray]; exact r.length.symm
    refine ⟨"tuple", _, PyProof.Rows.slot_tuple_getitem.lookup, ht.typeIs, ?_⟩
    exact HT.qr ht hs pl pu (by rw [hlen]; exact hw) ⟨.ref a, H, I, rfl, q1 hw⟩
  · exact JH pins s σ H _ v vl vu lo hi sl Q I rx hs pl pu ⟨a, xs, rfl, hx, hw, q⟩
abbrev DTO := Rho → Mu → (Option Int → Mu → Prop) → Prop
def LS (K : PySem.W.Frag) (t : TO) (td : DTO) : Prop := ∀ (σ : St) (H : Hp) (ρ : Rho) (μ : Mu) (Qd : Option Int → Mu → Prop) (Q : Option Int → Hp → Prop), St0 K H ρ μ σ → td ρ μ Qd →
  (∀ o μ' H', Ext K μ H μ' H' → St0 K H' ρ μ' σ → Qd o μ' → Q o H') → t σ H Q
def DO (X : Cx) (e : Option Expr) (td : DTO) : Prop := ∃ t, PO X e t ∧ LS X.K t td
def uo : DTO := fun _ μ Q => Q none μ
def CH (t : DTE) : DTO := fun ρ μ Q => t ρ μ fun x μ1 => match x with
  | .v (.int i) => Q (some i) μ1
  | _ => False
theorem Dt : DO X none uo := ⟨_, Hu, fun σ H ρ μ Qd Q S h k => k none μ H .refl S h⟩
theorem CY (h : DE X e te) : DO X (some e) (CH te) := by
  obtain ⟨t1, p1, l1⟩ := h
  refine ⟨_, Hh p1, fun σ H ρ μ Qd Q S h k => ?_⟩
  refine l1 σ H ρ μ _ _ S h fun x ux μ1 H1 e1 S1 rx h1 => ?_
  split at h1
  · cases rx
    exact ⟨_, rfl, k _ μ1 H1 e1 S1 h1⟩
  · exact h1.elim
def D3 (x : D) (lo hi : Option Int) (μ : Mu) (Q : DK) : Prop := match x with
  | .v (.tuple xs) => Q (.v (.tuple (vd xs lo hi))) μ
  | .v (.list xs) => Q (.v (.list (vd xs lo hi))) μ
  | .m l => (match μ l with | some xs => Q (.v (.list (vd xs lo hi))) μ | none => False)
  | _ => False
def dSl (te : DTE) (tl th : DTO) : DTE := fun ρ μ Q => te ρ μ fun x μ1 => tl ρ μ1 fun l μ2 => th ρ μ2 fun u μ3 => D3 x l u μ3 Q
theorem Bq {tl th : DTO} (he : DE X e te) (hl : DO X lo tl) (hu : DO X hi th) : DE X (.Subscript e (.Slice lo hi none p2) pos) (dSl te tl th) := by
  obtain ⟨t1, p1, l1⟩ := he
  obtain ⟨t2, p2, l2⟩ := hl
  obtain ⟨t3, p3, l3⟩ := hu
  refine ⟨_, GA (HD.or Hk) p1 p2 p3, fun σ H ρ μ Qd Q S h k => ?_⟩
  refine l1 σ H ρ μ _ _ S h fun x ux μ1 H1 e1 S1 rx h1 => ?_
  refine l2 σ H1 ρ μ1 _ _ S1 h1 fun l μ2 H2 e2 S2 h2 => ?_
  refine l3 σ H2 ρ μ2 _ _ S2 h2 fun u μ3 H3 e3 S3 h3 => ?_
  have rx3 := (rx.ext S1.mu e2).ext S2.mu e3
  have ee := e1.trans (e2.trans e3)
  unfold D3 at h3
  split at h3
  · rename_i xs
    cases id rx3 with
    | @tuple a us _ ha ra =>
      refine .inr ⟨a, us, rfl, ha, fun hw => ?_, fun p hp => ?_⟩
      · refine k (.v _) _ μ3 H3 ee S3 (show Rp _ _ _ (.tuple (vd xs l u)) _ from ?_) h3
        rw [Iw (by rw [ra.length]; exact hw)]
        exact rx3
      · exact k (.v _) _ μ3 _ (ee.trans (fX hp)) (S3.new hp) (mD S3.mu ra.cut hp) h3
  · rename_i xs
    cases id rx3 with
    | @list a us _ ha hn ra => exact .inl ⟨a, us, rfl, SqL.of ha, fun p hp => k (.v _) _ μ3 _ (ee.trans (fX hp)) (S3.new hp) (qb S3.mu ra.cut hp) h3⟩
  · rename_i a
    obtain ⟨rfl, ds, hm⟩ := rx3
    rw [hm] at h3
    obtain ⟨us, ha, ra⟩ := S3.mu a ds hm
    exact .inl ⟨a, us, rfl, SqL.of ha, fun p hp => k (.v _) _ μ3 _ (ee.trans (fX hp)) (S3.new hp) (qb S3.mu ra.cut hp) h3⟩
  · exact h3.elim
def MU (te : DTE) : DTE := fun ρ μ Q => te ρ μ fun x μ1 => match x with
  | .v (.tuple xs) => Q (.v (.tuple xs.reverse)) μ1
  | .v (.list xs) => Q (.v (.list xs.reverse)) μ1
  | .m l => (match μ1 l with | some xs => Q (.v (.list xs.reverse)) μ1 | none => False)
  | _ => False
end
open PySem PySem.Spec PyProof.Rows
section
variable {X : Cx} {a b e : Expr} {es : List Expr} {ta tb te : DTE} {t : DTA} {p pos : Pos} {x : Str} {bid T : String}
def pE (K : PySem.W.Frag) (r : List V → Hp → VK → Prop) (rd : List D → Mu → DK → Prop) : Prop := ∀ (xs : List D) (us : List V) (H : Hp) (μ : Mu) (Qd : DK) (Q : VK), dF K μ H → kz K μ H xs us → rd xs μ Qd →
  (∀ d u μ' H', Ext K μ H μ' H' → dF K μ' H' → RpD K μ' H' d u → Qd d μ' → Q u H') → r us H Q
def dCB (rd : List D → Mu → DK → Prop) (t : DTA) : DTE := fun ρ μ Q => t ρ μ fun ds μ1 => rd ds μ1 Q
theorem CO {K : PySem.W.Frag} {n : Nat} {r : List V → Hp → VK → Prop} {rd : List D → Mu → DK → Prop} {t1 : TA} (lc : pE K r rd) (l1 : IC K n t1 t) : qF K (tCB r t1) (dCB rd t) := by
  intro σ H ρ μ Qd Q S h k
  refine l1 σ H ρ μ _ _ S h fun xs us μ1 H1 e1 S1 rs len h1 => ?_
  exact lc xs us H1 μ1 _ _ S1.mu rs h1 fun d u μ' H' e2 ok r q => k d u μ' H' (e1.trans e2) ⟨ok, S1.rho.ext S1.mu e2⟩ r q
theorem ly {r : List V → Hp → VK → Prop} {rd : List D → Mu → DK → Prop} (hc : g9 X (.builtin bid) r) (lc : pE X.K r rd) (hg : Gl X x) (hm : X.mg x = none) (hv : bootBuiltins x = some (.builtin bid)) (ha : DA X (e :: es) t) (hn : x ≠ "__name__" := by decide) (hdb : (x == ("__debug__" : Str)) = false := by decide)
    (he : starEach (e :: es) X.env = (false, eval e X.env) :: starEach es X.env := by rfl) (hpl : (backTo pos (starEach es X.env)).any (·.1) = false := by rfl) : DE X (.Call (.Name x p) (e :: es) [] pos) (dCB rd t) := by
  obtain ⟨t1, p1, l1⟩ := ha
  exact ⟨_, vy hc hg hm hv p1 hn hdb he hpl, CO lc l1⟩
theorem xG {r : List V → Hp → VK → Prop} {rd : List D → Mu → DK → Prop} (hc : g9 X (.type T) r) (lc : pE X.K r rd) (hg : Gl X x) (hm : X.mg x = none) (hv : bootBuiltins x = some (.type T)) (ha : DA X (e :: es) t) (hn : x ≠ "__name__" := by decide) (hdb : (x == ("__debug__" : Str)) = false := by decide)
    (he : starEach (e :: es) X.env = (false, eval e X.env) :: starEach es X.env := by rfl) (hpl : (backTo pos (starEach es X.env)).any (·.1) = false := by rfl) : DE X (.Call (.Name x p) (e :: es) [] pos) (dCB rd t) := by
  obtain ⟨t1, p1, l1⟩ := ha
  exact ⟨_, xw hc hg hm hv p1 hn hdb he hpl, CO lc l1⟩
def gS : List D → Mu → DK → Prop := fun xs μ Q => match xs with
  | [.v (.list ys)] => Q (.v (.int (ys.length : Nat))) μ
  | [.v (.tuple ys)] => Q (.v (.int (ys.length : Nat))) μ
  | [.m l] => (match μ l with | some ys => Q (.v (.int (ys.length : Nat))) μ | none => False)
  | [.s ns] => Q (.v (.int (ns.length : Nat))) μ
  | _ => False
theorem JO {K : PySem.W.Frag} : pE K (fun xs H Q => ∃ p ys, xs = [.ref p] ∧ (SqL K H p ys ∨ SqT K H p ys) ∧ Q (.int ys.length) H) gS := by
  intro xs us H μ Qd Q ok rs h k
  unfold gS at h
  split at h
  · cases rs with
    | cons r1 r2 =>
      cases r2
      cases r1 with
      | list hs hn r => exact ⟨_, _, rfl, .inl (SqL.of hs), k (.v _) _ μ H .refl ok (by rw [← r.length]; exact Rp.int _) h⟩
  · cases rs with
    | cons r1 r2 =>
      cases r2
      cases r1 with
      | tuple hs r => exact ⟨_, _, rfl, .inr hs, k (.v _) _ μ H .refl ok (by rw [← r.length]; exact Rp.int _) h⟩
  · cases rs with
    | cons r1 r2 =>
      cases r2
      obtain ⟨rfl, ds, hm⟩ := r1
      rw [hm] at h
      obtain ⟨us, hl, r⟩ := ok _ ds hm
      exact ⟨_, _, rfl, .inl (SqL.of hl), k (.v _) _ μ H .refl ok (by rw [← r.length]; exact Rp.int _) h⟩
  · cases rs with
    | cons r1 r2 =>
      cases r2
      obtain ⟨a, rfl, hs, hn⟩ := r1
      exact ⟨_, _, rfl, .inl hs, k (.v _) _ μ H .refl ok (by rw [List.length_map]; exact Rp.int _) h⟩
  · exact h.elim
theorem i7 (hg : Gl X "len") (hm : X.mg "len" = none) (ha : DA X (e :: es) t)
    (he : starEach (e :: es) X.env = (false, eval e X.env) :: starEach es X.env := by rfl) (hpl : (backTo pos (starEach es X.env)).any (·.1) = false := by rfl) : DE X (.Call (.Name "len" p) (e :: es) [] pos) (dCB gS t) :=
  ly yt JO hg hm PySem.boot_len ha (by decide) (by decide) he hpl
def qw : List D → Mu → DK → Prop := fun xs μ Q => match xs with
  | [.v (.int i)] => Q (.v (.int (i.natAbs : Nat))) μ
  | _ => False
theorem Kv {K : PySem.W.Frag} : pE K (fun xs H Q => ∃ i, xs = [.int i] ∧ Q (.int (if i < 0 then -i else i)) H) qw := by
  intro xs us H μ Qd Q ok rs h k
  unfold qw at h
  split at h
  · rename_i i
    cases rs with
    | cons r1 r2 =>
      cases r2
      cases r1
      refine ⟨i, rfl, k (.v (.int (i.natAbs : Nat))) _ μ H .refl ok ?_ h⟩
      have : (if i < 0 then -i else i) = ((i.natAbs : Nat) : Int) := by split <;> omega
      rw [this]
      exact Rp.int _
  · exact h.elim
theorem vw (hg : Gl X "abs") (hm : X.mg "abs" = none) (ha : DA X (e :: es) t)
    (he : starEach (e :: es) X.env = (false, eval e X.env) :: starEach es X.env := by rfl) (hpl : (backTo pos (starEach es X.env)).any (·.1) = false := by rfl) : DE X (.Call (.Name "abs" p) (e :: es) [] pos) (dCB qw t) :=
  ly GC Kv hg hm PyProof.Rows.Boot.«abs» ha (by decide) (by decide) he hpl
def BW (g : Int → Int → Int) : List D → Mu → DK → Prop := fun xs μ Q => match xs with
  | [.v (.int i), .v (.int j)] => Q (.v (.int (g i j))) μ
  | _ => False
theorem Jv {K : PySem.W.Frag} {g g' : Int → Int → Int} (hg : ∀ i j, g i j = g' i j) : pE K (fun xs H Q => ∃ i j, xs = [.int i, .int j] ∧ Q (.int (g i j)) H) (BW g') := by
  intro xs us H μ Qd Q ok rs h k
  unfold BW at h
  split at h
  · rename_i i j
    cases rs with
    | cons r1 r2 =>
      cases r2 with
      | cons r2 r3 =>
        cases r3
        cases r1
        cases r2
        exact ⟨i, j, rfl, k (.v _) _ μ H .refl ok (by rw [hg]; exact Rp.int _) h⟩
  · exact h.elim
theorem KA (hc : X.calm = true) (hg : Gl X "max") (hm : X.mg "max" = none) (ha : DA X (e :: es) t)
    (he : starEach (e :: es) X.env = (false, eval e X.env) :: starEach es X.env := by rfl) (hpl : (backTo pos (starEach es X.env)).any (·.1) = false := by rfl) : DE X (.Call (.Name "max" p) (e :: es) [] pos) (dCB (BW max) t) :=
  ly (Er hc) (Jv (fun i j => by show (if j > i then j else i) = max i j; simp only [Int.max_def]; split <;> split <;> omega)) hg hm PyProof.Rows.Boot.«max» ha (by decide) (by decide) he hpl
theorem J9 (hc : X.calm = true) (hg : Gl X "min") (hm : X.mg "min" = none) (ha : DA X (e :: es) t)
    (he : starEach (e :: es) X.env = (false, eval e X.env) :: starEach es X.env := by rfl) (hpl : (backTo pos (starEach es X.env)).any (·.1) = false := by rfl) : DE X (.Call (.Name "min" p) (e :: es) [] pos) (dCB (BW min) t) :=
  ly (Ey hc) (Jv (fun i j => by show (if j < i then j else i) = min i j; simp only [Int.min_def]; split <;> split <;> omega)) hg hm PyProof.Rows.Boot.«min» ha (by decide) (by decide) he hpl
def pF : List D → Mu → DK → Prop := fun xs μ Q => match xs with
  | [.v (.int i)] => Q (.v (.int i)) μ
  | [.v (.bool k)] => Q (.v (.int (if k then 1 else 0))) μ
  | _ => False
theorem Kn {K : PySem.W.Frag} : pE K (fun xs H Q => (∃ i, xs = [.int i] ∧ Q (.int i) H) ∨ ∃ k, xs = [.bl k] ∧ Q (.int (if k then 1 else 0)) H) pF := by
  intro xs us H μ Qd Q ok rs h k
  unfold pF at h
  split at h
  · rename_i i
    cases rs with
    | cons r1 r2 => cases r2; cases r1; exact .inl ⟨i, rfl, k (.v _) _ μ H .refl ok (Rp.int _) h⟩
  · rename_i b
    cases rs with
    | cons r1 r2 => cases r2; cases r1; exact .inr ⟨b, rfl, k (.v _) _ μ H .refl ok (Rp.int _) h⟩
  · exact h.elim
theorem n8 (hg : Gl X "int") (hm : X.mg "int" = none) (ha : DA X (e :: es) t)
    (he : starEach (e :: es) X.env = (false, eval e X.env) :: starEach es X.env := by rfl) (hpl : (backTo pos (starEach es X.env)).any (·.1) = false := by rfl) : DE X (.Call (.Name "int" p) (e :: es) [] pos) (dCB pF t) :=
  xG Eu Kn hg hm PyProof.Rows.Boot.«int» ha (by decide) (by decide) he hpl
def GQ : List D → Mu → DK → Prop := fun xs μ Q => match xs with
  | [.v (.list ys)] => Q (.v (.list ys)) μ
  | [.v (.tuple ys)] => Q (.v (.list ys)) μ
  | _ => False
theorem vm : ∀ {bs : List Bool} {us : List Value}, Vals (bs.map V.bl) us → us = bs.map Value.bool
  | [], _, .nil => rfl
  | b :: r, _, .cons h t => by cases h; rw [vm t]; rfl
theorem Eb (hc : X.calm = true) : g9 X (.builtin "all") (fun xs H Q => ∃ (p : Addr) (bs : List Bool), xs = [.ref p] ∧ H p = some (.lst (bs.map V.bl)) ∧ Q (.bl (bs.all id)) H) := by
  intro pins s σ H xs us Q I r h
  obtain ⟨l, bs, rfl, hl, q⟩ := h
  obtain ⟨u, rfl, rx⟩ := vals1 r
  cases rx
  obtain ⟨its, rv, pl, _⟩ := I.list (SqL.of hl)
  have eb := vm rv
  subst eb
  have hL := pl.isList
  have hlt := pl.lt
  refine call_all_walk (wpAny_pyIter_list hL ?_)
  refine ⟨s.heap.objs.size, [s.heap.objs.size, l], [s.heap.objs.size], (bs.map Value.bool).toArray.size, _, _, fun i => (bs[i]?).getD true, rfl, Walks.list (A := X.A.in1) (by exact I.ok.hd hc) _ l (Nat.ne_of_lt hlt) (bs.map Value.bool).toArray,
    ⟨⟨_, Heap.get?_push_size _ rfl, rfl, rfl⟩, hL.push _⟩, fun i v s' Q' E' hP hQ => ?_, fun h' tk hk => ?_⟩
  · have hP' : (bs.map Value.bool)[i]? = some v := by simpa using hP
    rw [List.getElem?_map] at hP'
    cases z : bs[i]? with
    | none => rw [z] at hP'; cases hP'
    | some b =>
      rw [z] at hP'
      cases hP'
      simp only [z, Option.getD_some] at hQ
      exact wpAny_truthy_bool hQ
  · have e : ((List.range (bs.map Value.bool).toArray.size).all fun i => (bs[i]?).getD true) = bs.all id := by
      rw [List.size_toArray, List.length_map]; exact PyProof.Rows.LSm.range_all bs
    rw [e]
    exact ⟨.bl (bs.all id), H, I.kept (PyProof.Rows.LSm.kept_iter hk), rfl, q⟩
def cS : List PyData → Option (List Bool)
  | [] => some []
  | .bool b :: r => (cS r).map (b :: ·)
  | _ :: _ => none
theorem pO {K : PySem.W.Frag} {μ : Mu} {H : Hp} : ∀ {xs : List PyData} {us : List V} {bs : List Bool}, RpL K μ H xs us → cS xs = some bs → us = bs.map V.bl
  | _, _, _, .nil, e => by cases e; rfl
  | .bool b :: r, _, bs, .cons h t, e => by
    simp only [cS] at e
    cases q : cS r with
    | none => rw [q] at e; cases e
    | some cs => rw [q] at e; cases e; cases h; rw [pO t q]; rfl
  | .none :: r, _, bs, .cons h t, e => by simp [cS] at e
  | .int _ :: r, _, bs, .cons h t, e => by simp [cS] at e
  | .str _ :: r, _, bs, .cons h t, e => by simp [cS] at e
  | .list _ :: r, _, bs, .cons h t, e => by simp [cS] at e
  | .tuple _ :: r, _, bs, .cons h t, e => by simp [cS] at e
  | .dict _ :: r, _, bs, .cons h t, e => by simp [cS] at e
def pL : List D → Mu → DK → Prop := fun xs μ Q => match xs with
  | [.v (.list ys)] => (match cS ys with | some bs => Q (.v (.bool (bs.all id))) μ | none => False)
  | _ => False
theorem JB {K : PySem.W.Frag} : pE K (fun xs H Q => ∃ (p : Addr) (bs : List Bool), xs = [.ref p] ∧ H p = some (.lst (bs.map V.bl)) ∧ Q (.bl (bs.all id)) H) pL := by
  intro xs us H μ Qd Q ok rs h k
  unfold pL at h
  split at h
  · rename_i ys
    cases q : cS ys with
    | none => rw [q] at h; exact h.elim
    | some bs =>
      rw [q] at h
      cases rs with
      | cons r1 r2 =>
        cases r2
        cases r1 with
        | list hs hn r => exact ⟨_, bs, rfl, by rw [hs, pO r q], k (.v _) _ μ H .refl ok (Rp.bool _) h⟩
  · exact h.elim
theorem sA (hc : X.calm = true) (hg : Gl X "all") (hm : X.mg "all" = none) (ha : DA X (e :: es) t)
    (he : starEach (e :: es) X.env = (false, eval e X.env) :: starEach es X.env := by rfl) (hpl : (backTo pos (starEach es X.env)).any (·.1) = false := by rfl) : DE X (.Call (.Name "all" p) (e :: es) [] pos) (dCB pL t) :=
  ly (Eb hc) JB hg hm PyProof.Rows.Boot.«all» ha (by decide) (by decide) he hpl
def tyD : PyData → String
  | .none => "NoneType"
  | .bool _ => "bool"
  | .int _ => "int"
  | .str _ => "str"
  | .list _ => "list"
  | .tuple _ => "tuple"
  | .dict _ => "dict"
def isT (T : String) (d : PyData) : Bool := tyD d == T || (T == "int" && tyD d == "bool")
theorem DV {pins : List (Addr × Obj)} {σ : St} {H : Hp} {s : Shared} {μ : Mu} {d : PyData} {u : V} {v : Value} {k : Bool} {A : Around} {E : Value → Shared → Prop} {Q : Value → Shared → Prop} (I : Inv X pins σ H s) (r : Rp X.K μ H d u) (rx : RelV u v)
    (ek : PySem.W.kitOne X.K (.type (tyD d)) (.type T) = some k) (h : ∀ tk, Q (.bool k) { s with toks := tk }) : wpAny (model X.prog X.w) A (call (.builtin "isinstance") [v, .type T]) Q E s := by
  cases r with
  | none => cases rx; exact PySem.W.kia_one PySem.W.kitx_none I.kIn True.intro ek (fun z => nomatch z) h
  | bool b => cases rx; exact PySem.W.kia_one PySem.W.kitx_bool I.kIn True.intro ek (fun z => nomatch z) h
  | int i => obtain ⟨t, rfl⟩ := rx; exact PySem.W.kia_one PySem.W.kitx_int I.kIn True.intro ek (fun z => nomatch z) h
  | str y => obtain ⟨t, rfl⟩ := rx; exact PySem.W.kia_one PySem.W.kitx_str I.kIn True.intro ek (fun z => nomatch z) h
  | list hs hn q =>
    cases rx
    obtain ⟨its, rv, ⟨o, n, h1, h2, _⟩, _⟩ := I.list (SqL.of hs)
    exact PySem.W.kia_one PySem.W.kitx_list I.kIn ⟨o, h1, h2⟩ ek (fun z => nomatch z) h
  | tuple hs q =>
    cases rx
    obtain ⟨its, rv, ⟨o, h1, h2, _⟩, _⟩ := I.tuple hs
    exact PySem.W.kia_one PySem.W.kitx_tuple I.kIn ⟨o, h1, h2⟩ ek (fun z => nomatch z) h
theorem C2 (K : PySem.W.Frag) (d : PyData) : PySem.W.kitOne K (.type (tyD d)) (.type "int") = some (isT "int" d) := by cases d <;> rfl
theorem Bl (K : PySem.W.Frag) (d : PyData) : PySem.W.kitOne K (.type (tyD d)) (.type "bool") = some (isT "bool" d) := by cases d <;> rfl
theorem kit_tuple (K : PySem.W.Frag) (d : PyData) : PySem.W.kitOne K (.type (tyD d)) (.type "tuple") = some (isT "tuple" d) := by cases d <;> rfl
theorem Aa (kt : ∀ d, PySem.W.kitOne X.K (.type (tyD d)) (.type T) = some (isT T d)) : g9 X (.builtin "isinstance") (fun xs H Q => ∃ μ d u, xs = [u, .ty T] ∧ Rp X.K μ H d u ∧ Q (.bl (isT T d)) H) := by
  intro pins s σ H xs us Q I r h
  obtain ⟨μ, d, u, rfl, rd, q⟩ := h
  obtain ⟨v, w', rfl, r1, r2⟩ := vals2 r
  cases r2
  exact DV I rd r1 (kt d) fun tk => ⟨.bl (isT T d), H, I.tok _, rfl, q⟩
def vK (T : String) (te : DTE) : DTE := fun ρ μ Q => te ρ μ fun x μ1 => match x with
  | .v d => Q (.v (.bool (isT T d))) μ1
  | _ => False
theorem jM {y : Str} {py : Pos} (kt : ∀ d, PySem.W.kitOne X.K (.type (tyD d)) (.type T) = some (isT T d)) (hg : Gl X "isinstance") (hm : X.mg "isinstance" = none) (hgy : Gl X y) (hmy : X.mg y = none) (hvy : bootBuiltins y = some (.type T)) (ha : DE X e te)
    (hny : y ≠ "__name__" := by decide) (hdy : (y == ("__debug__" : Str)) = false := by decide)
    (he : starEach [e, .Name y py] X.env = (false, eval e X.env) :: starEach [.Name y py] X.env := by rfl) (he2 : starEach [.Name y py] X.env = [(false, eval (.Name y py) X.env)] := by rfl) (hpl : (backTo pos (starEach [.Name y py] X.env)).any (·.1) = false := by rfl) : DE X (.Call (.Name "isinstance" p) [e, .Name y py] [] pos) (vK T te) := by
  obtain ⟨t1, p1, l1⟩ := ha
  refine ⟨_, vy (Aa kt) hg hm PyProof.Rows.Boot.«isinstance» (oM p1 (oM (Hq (v := .ty T) hgy hmy hvy rfl hny hdy) uU he2) he) (by decide) (by decide) he hpl, fun σ H ρ μ Qd Q S h k => ?_⟩
  refine l1 σ H ρ μ _ _ S h fun x ux μ1 H1 e1 S1 rx h1 => ?_
  split at h1
  · exact ⟨μ1, _, ux, rfl, rx, k (.v _) _ μ1 H1 e1 S1 (Rp.bool _) h1⟩
  · exact h1.elim
def Lr : D → D → Mu → DK → Prop := fun x y μ Q => match x, y with
  | .v (.bool i), .v (.bool j) => Q (.v (.bool (i == j))) μ
  | .v .none, .v .none => Q (.v (.bool true)) μ
  | _, _ => False
end
open PySem PySem.Spec PyProof.Rows
section
variable {X : Cx} {a b e : Expr} {es : List Expr} {ta tb te : DTE} {t : DTA} {p pos : Pos} {st : Stmt} {rest sts : List Stmt} {td ud : DTS} {tc : DTT}
def cf : DTS := fun Dd ρ μ => Dd.nx ρ μ
def aV (t u : DTS) : DTS := fun Dd ρ μ => t { Dd with nx := u Dd } ρ μ
def bQ (te : DTE) : DTS := fun Dd ρ μ => te ρ μ Dd.rt
def tH (te : DTE) : DTS := fun Dd ρ μ => te ρ μ fun _ μ1 => Dd.nx ρ μ1
def dA (c : DTT) (t u : DTS) : DTS := fun Dd ρ μ => c ρ μ fun b μ1 => if b = true then t Dd ρ μ1 else u Dd ρ μ1
theorem bJ : DSs X [] cf := ⟨_, HQ, fun σ H ρ μ Dd De S h k1 k2 k3 k4 => k1 σ ρ μ H .refl S h⟩
theorem aw (h : DS X st td) : DSs X [st] td := let ⟨t, p, l⟩ := h; ⟨t, Hw p, l⟩
theorem lift_seq {K : PySem.W.Frag} {t u : TS} (l1 : xN K t td) (l2 : xN K u ud) : xN K (LY t u) (aV td ud) := by
  intro σ H ρ μ Dd De S h k1 k2 k3 k4
  refine l1 σ H ρ μ _ _ S h (fun σ' ρ' μ' H' e' S' h' => ?_) k2 k3 k4
  exact l2 σ' H' ρ' μ' Dd De S' h' (fun a b c d e2 => k1 a b c d (e'.trans e2)) (fun a b c d e2 => k2 a b c d (e'.trans e2)) (fun a b c d e2 => k3 a b c d (e'.trans e2)) (fun a b c d e2 => k4 a b c d (e'.trans e2))
theorem ao (h1 : DS X st td) (h2 : DSs X rest ud) : DSs X (st :: rest) (aV td ud) := by
  obtain ⟨t1, p1, l1⟩ := h1
  obtain ⟨t2, p2, l2⟩ := h2
  exact ⟨_, GV p1 p2, lift_seq l1 l2⟩
theorem aK (he : DE X e te) : DS X (.Return (some e) pos) (bQ te) := by
  obtain ⟨t1, p1, l1⟩ := he
  exact ⟨_, KS p1, fun σ H ρ μ Dd De S h k1 k2 k3 k4 => l1 σ H ρ μ _ _ S h fun d u μ' H' e' S' r q => k2 d u μ' H' e' S'.mu r q⟩
theorem oU (he : DE X e te) (hs : swapsWith e none pos.line X.env = pure false := by rfl) : DS X (.Expr e pos) (tH te) := by
  obtain ⟨t1, p1, l1⟩ := he
  exact ⟨_, Io p1 hs, fun σ H ρ μ Dd De S h k1 k2 k3 k4 => l1 σ H ρ μ _ _ S h fun d u μ' H' e' S' r q => k1 σ ρ μ' H' e' S' q⟩
theorem cz {c : Expr} {x y : List Stmt} (hc : DT X c tc) (ha : DSs X x td) (hb : DSs X y ud) : DS X (.If c x y pos) (dA tc td ud) := by
  obtain ⟨t0, p0, l0⟩ := hc
  obtain ⟨t1, p1, l1⟩ := ha
  obtain ⟨t2, p2, l2⟩ := hb
  refine ⟨_, Mi p0 p1 p2, fun σ H ρ μ Dd De S h k1 k2 k3 k4 => ?_⟩
  refine l0 σ H ρ μ _ _ S h fun c μ1 H1 e1 S1 h1 => ?_
  cases c with
  | true => exact w4 (l1 σ H1 ρ μ1 Dd De S1 (by simpa using h1) (fun a b c d e2 => k1 a b c d (e1.trans e2)) (fun a b c d e2 => k2 a b c d (e1.trans e2)) (fun a b c d e2 => k3 a b c d (e1.trans e2)) (fun a b c d e2 => k4 a b c d (e1.trans e2)))
  | false => exact xo (l2 σ H1 ρ μ1 Dd De S1 (by simpa using h1) (fun a b c d e2 => k1 a b c d (e1.trans e2)) (fun a b c d e2 => k2 a b c d (e1.trans e2)) (fun a b c d e2 => k3 a b c d (e1.trans e2)) (fun a b c d e2 => k4 a b c d (e1.trans e2)))
abbrev DTG := D → Rho → Mu → (Rho → Mu → Prop) → Prop
abbrev tU := List PyData → Rho → Mu → (Rho → Mu → Prop) → Prop
def Fw (K : PySem.W.Frag) (g : TG) (gd : DTG) : Prop := ∀ (σ : St) (H : Hp) (ρ : Rho) (μ : Mu) (d : D) (u : V) (Qd : Rho → Mu → Prop) (Q : St → Hp → Prop), St0 K H ρ μ σ → RpD K μ H d u → gd d ρ μ Qd →
  (∀ σ' ρ' μ' H', Ext K μ H μ' H' → St0 K H' ρ' μ' σ' → Qd ρ' μ' → Q σ' H') → g u σ H Q
def Ko (K : PySem.W.Frag) (g : TGs) (gd : tU) : Prop := ∀ (σ : St) (H : Hp) (ρ : Rho) (μ : Mu) (ds : List PyData) (us : List V) (Qd : Rho → Mu → Prop) (Q : St → Hp → Prop), St0 K H ρ μ σ → RpL K μ H ds us → gd ds ρ μ Qd →
  (∀ σ' ρ' μ' H', Ext K μ H μ' H' → St0 K H' ρ' μ' σ' → Qd ρ' μ' → Q σ' H') → g us σ H Q
def DG (X : Cx) (tg : Expr) (gd : DTG) : Prop := ∃ g, PG X tg g ∧ Fw X.K g gd
def DGs (X : Cx) (tg : List Expr) (gd : tU) : Prop := ∃ g, PGs X tg g ∧ Ko X.K g gd
theorem iT.set {K : PySem.W.Frag} {μ : Mu} {H : Hp} {ρ : Rho} {σ : St} {i : Nat} {d : D} {u : V} (r : iT K μ H ρ σ) (h : RpD K μ H d u) : iT K μ H (ρ.set i (some d)) (σ.set i (some u)) := by
  refine ⟨by rw [List.length_set, List.length_set]; exact r.1, fun j d' e => ?_⟩
  by_cases hj : i = j
  · subst hj
    have hl : i < ρ.length := by
      have := (List.getElem?_eq_some_iff.mp e).1
      rw [List.length_set] at this
      exact this
    rw [List.getElem?_set_self hl] at e
    cases e
    exact ⟨u, List.getElem?_set_self (by rw [← r.1]; exact hl), h⟩
  · rw [List.getElem?_set_ne hj] at e
    obtain ⟨w, e1, e2⟩ := r.2 j d' e
    exact ⟨w, by rw [List.getElem?_set_ne hj]; exact e1, e2⟩
def az (i : Nat) : DTG := fun d ρ μ Q => Q (ρ.set i (some d)) μ
theorem vH {K : PySem.W.Frag} {i : Nat} : Fw K (E9 i) (az i) := fun σ H ρ μ d u Qd Q S r h k => k _ _ μ H .refl ⟨S.mu, S.rho.set r⟩ h
theorem bO {i : Nat} {x : Str} (hN : X.N.Nodup) (hi : X.N[i]? = some x) (hx : Loc X.env.scope x) (hf : X.fn x = true ∨ X.env.scope.names.lookup x = some .local := by first | exact .inl rfl | exact .inr rfl | assumption) : DG X (.Name x pos) (az i) := ⟨_, Ij hN hi hx hf, vH⟩
def x6 : tU := fun ds ρ μ Q => match ds with
  | [] => Q ρ μ
  | _ => False
def gf (g : DTG) (gs : tU) : tU := fun ds ρ μ Q => match ds with
  | d :: r => g (.v d) ρ μ fun ρ1 μ1 => gs r ρ1 μ1 Q
  | _ => False
theorem uJ : DGs X [] x6 := ⟨_, Ip, fun σ H ρ μ ds us Qd Q S r h k => by
  cases r with
  | nil => exact ⟨rfl, k σ ρ μ H .refl S h⟩
  | cons _ _ => exact h.elim⟩
theorem eg {g : DTG} {gs : tU} (h1 : DG X e g) (h2 : DGs X es gs) (hs : (assignEach (e :: es) X.env).map (·.2) = assign e X.env :: (assignEach es X.env).map (·.2) := by rfl) : DGs X (e :: es) (gf g gs) := by
  obtain ⟨t1, p1, l1⟩ := h1
  obtain ⟨t2, p2, l2⟩ := h2
  refine ⟨_, ED p1 p2 hs, fun σ H ρ μ ds us Qd Q S r h k => ?_⟩
  cases r with
  | nil => exact h.elim
  | @cons d u ds us r1 r2 =>
    refine ⟨u, us, rfl, l1 σ H ρ μ (.v d) u _ _ S r1 h fun σ' ρ' μ' H' e1 S' h1 => ?_⟩
    exact l2 σ' H' ρ' μ' ds us _ _ S' (r2.ext S.mu e1) h1 fun a b c d e2 => k a b c d (e1.trans e2)
def x8 (n : Nat) (gs : tU) : DTG := fun d ρ μ Q => match d with
  | .v (.tuple xs) => xs.length = n ∧ gs xs ρ μ Q
  | _ => False
theorem BD {k n : Nat} {gs : tU} (hc : X.calm = X.calm) (h : DGs X es gs)
    (hn : (assignEach es X.env).length = n := by rfl) (hst : (assignEach es X.env).findIdx? (·.1) = none := by rfl) : DG X (.Tuple es k pos) (x8 n gs) := by
  obtain ⟨t1, p1, l1⟩ := h
  refine ⟨_, Kj hc p1 hn hst, fun σ H ρ μ d u Qd Q S r h k => ?_⟩
  unfold x8 at h
  split at h
  · cases r with
    | @tuple a us _ ha ra => exact ⟨a, us, rfl, ha, by rw [← ra.length]; exact h.1, l1 σ H ρ μ _ us _ _ S ra h.2 k⟩
  · exact h.elim
def Dv (to ti : DTE) : DTG := fun d ρ μ Q => to ρ μ fun o μ1 => ti ρ μ1 fun i μ2 => match o, i, d with
  | .m l, .v (.int k), .v x => (match μ2 l with
    | some xs => (match ixN xs.length k with
      | some j => Q ρ (aM μ2 l (xs.set j x))
      | none => False)
    | none => False)
  | _, _, _ => False
theorem EX {o i : Expr} {to ti : DTE} (ho : DE X o to) (hi : DE X i ti)
    (ha : ∀ v, assign (.Subscript o i pos) X.env v = (do
      let ov ← holding [v] (eval o X.env)
      let iv ← holding [v, ov] (eval i X.env)
      standAt pos
      holding [v, ov, iv] (setItem ov iv v)
      release [v, ov, iv] []) := by intro _; rfl) : DG X (.Subscript o i pos) (Dv to ti) := by
  obtain ⟨t1, p1, l1⟩ := ho
  obtain ⟨t2, p2, l2⟩ := hi
  refine ⟨_, JU p1 p2 set_list ha, fun σ H ρ μ d u Qd Q S r h k => ?_⟩
  refine l1 σ H ρ μ _ _ S h fun x ux μ1 H1 e1 S1 rx h1 => ?_
  refine l2 σ H1 ρ μ1 _ _ S1 h1 fun y uy μ2 H2 e2 S2 ry h2 => ?_
  have r2 := (r.ext S.mu e1).ext S1.mu e2
  have rx2 := rx.ext S1.mu e2
  split at h2
  · rename_i l kk xv
    obtain ⟨rfl, ds, hm⟩ := rx2
    cases ry
    rw [hm] at h2
    obtain ⟨us, hl, rl⟩ := S2.mu l ds hm
    simp only at h2
    cases q : ixN ds.length kk with
    | none => rw [q] at h2; exact h2.elim
    | some j =>
      rw [q] at h2
      refine ⟨l, us, kk, j, rfl, rfl, hl, by rw [← rl.length]; exact q, ?_⟩
      have ex : Ext X.K μ2 H2 (aM μ2 l (ds.set j xv)) (upd H2 l (.lst (us.set j u))) := oF hm
      exact k σ ρ _ _ (e1.trans (e2.trans ex)) ⟨S2.mu.set hm (rl.set r2 j), S2.rho.ext S2.mu ex⟩ h2
  · exact h2.elim
def bK (te : DTE) (g : DTG) : DTS := fun Dd ρ μ => te ρ μ fun d μ1 => g d ρ μ1 Dd.nx
theorem AL {K : PySem.W.Frag} {t : TE} {g : TG} {gd : DTG} (l1 : qF K t te) (l2 : Fw K g gd) : xN K (K6 t g) (bK te gd) := by
  intro σ H ρ μ Dd De S h k1 k2 k3 k4
  refine l1 σ H ρ μ _ _ S h fun d u μ1 H1 e1 S1 r h1 => ?_
  exact l2 σ H1 ρ μ1 d u _ _ S1 r h1 fun a b c d e2 => k1 a b c d (e1.trans e2)
theorem sJ {tg : Expr} {g : DTG} (he : DE X e te) (hg : DG X tg g) (hs : swapsWithSole [tg] e pos.line X.env = pure false := by rfl) (hw : swappedStores [tg] e X.env = pure none := by rfl)
    (h1 : (assignEach [tg] X.env).map (·.2) = [assign tg X.env] := by rfl) : DS X (.Assign [tg] e pos) (bK te g) := by
  obtain ⟨t1, p1, l1⟩ := he
  obtain ⟨t2, p2, l2⟩ := hg
  exact ⟨_, Km p1 p2 hs hw h1, AL l1 l2⟩
theorem aS {i : Nat} {x : Str} {pos' : Pos} (hN : X.N.Nodup) (hi : X.N[i]? = some x) (hx : Loc X.env.scope x) (he : DE X e te) (hs : swapsWith e (some (.Name x pos')) pos.line X.env = pure false := by rfl) (hf : X.fn x = true ∨ X.env.scope.names.lookup x = some .local := by first | exact .inl rfl | exact .inr rfl | assumption) :
    DS X (.Assign [.Name x pos'] e pos) (bK te (az i)) := by
  obtain ⟨t1, p1, l1⟩ := he
  exact ⟨_, Lk hN hi hx p1 hs hf, AL l1 vH⟩
def xh (i j : Nat) (t : DTA) : DTS := fun Dd ρ μ => t ρ μ fun ds μ1 => match ds with
  | [v, w] => Dd.nx ((ρ.set i (some v)).set j (some w)) μ1
  | _ => False
theorem n4 {i j : Nat} {x y : Str} {a b : Expr} {t : DTA} {px py pt : Pos} {kt k2 pt2} (hc : X.calm = true) (hN : X.N.Nodup) (hi : X.N[i]? = some x) (hj : X.N[j]? = some y) (hij : i ≠ j)
    (hx : X.env.scope.names.lookup x = some .local) (hy : X.env.scope.names.lookup y = some .local) (ha : DA X [a, b] t)
    (hw : swappedStores [.Tuple [.Name x px, .Name y py] kt pt] (.Tuple [a, b] k2 pt2) X.env = pure (some [x, y]))
    (hs : swapsWithSole [.Tuple [.Name x px, .Name y py] kt pt] (.Tuple [a, b] k2 pt2) pos.line X.env = pure false := by rfl) :
    DS X (.Assign [.Tuple [.Name x px, .Name y py] kt pt] (.Tuple [a, b] k2 pt2) pos) (xh i j t) := by
  obtain ⟨t1, p1, l1⟩ := ha
  refine ⟨_, JQ hc hN hi hj hij hx hy p1 hw hs, fun σ H ρ μ Dd De S h k1 k2 k3 k4 => ?_⟩
  refine l1 σ H ρ μ _ _ S h fun ds us μ1 H1 e1 S1 rs len h1 => ?_
  split at h1
  · cases rs with
    | cons r1 r2 =>
      cases r2 with
      | cons r2 r3 =>
        cases r3
        exact ⟨_, _, rfl, k1 _ _ μ1 H1 e1 ⟨S1.mu, (S1.rho.set r1).set r2⟩ h1⟩
  · exact h1.elim
def Cp (c : DTT) (tb : DTS) : DTS := fun Dd ρ μ => ∃ W : Nat → Rho → Mu → Prop, (∃ m, W m ρ μ) ∧ ∀ m ρ μ, W m ρ μ →
  c ρ μ fun b μ1 => if b = true then tb { Dd with nx := fun ρ' μ' => ∃ m', m' < m ∧ W m' ρ' μ', ct := fun ρ' μ' => ∃ m', m' < m ∧ W m' ρ' μ', bk := Dd.nx } ρ μ1 else Dd.nx ρ μ1
theorem zU {c : Expr} {body : List Stmt} (hp : PassesOwn (model X.prog X.w) X.A X.env X.xe) (hc : DT X c tc) (hb : DSs X body td) : DS X (.While c body [] pos) (Cp tc td) := by
  obtain ⟨t0, p0, l0⟩ := hc
  obtain ⟨t1, p1, l1⟩ := hb
  refine ⟨_, Gx hp p0 p1, fun σ H ρ μ Dd De S h k1 k2 k3 k4 => ?_⟩
  obtain ⟨W, ⟨m, w0⟩, turn⟩ := h
  refine ⟨fun m σ' H' => ∃ ρ' μ', Ext X.K μ H μ' H' ∧ St0 X.K H' ρ' μ' σ' ∧ W m ρ' μ', ⟨m, ρ, μ, .refl, S, w0⟩, ?_⟩
  rintro m σ1 H1 ⟨ρ1, μ1, e1, S1, w1⟩
  refine l0 σ1 H1 ρ1 μ1 _ _ S1 (turn m ρ1 μ1 w1) fun b μ2 H2 e2 S2 h2 => ?_
  cases b with
  | true =>
    refine w4 ⟨fun σ' H' => ∃ m', m' < m ∧ ∃ ρ' μ', Ext X.K μ H μ' H' ∧ St0 X.K H' ρ' μ' σ' ∧ W m' ρ' μ', fun σ' H' ⟨m', hm, q⟩ => ⟨m', hm, q⟩, ?_⟩
    have nxt : ∀ σ' ρ' μ' H', Ext X.K μ2 H2 μ' H' → St0 X.K H' ρ' μ' σ' → (∃ m', m' < m ∧ W m' ρ' μ') → ∃ m', m' < m ∧ ∃ ρ' μ', Ext X.K μ H μ' H' ∧ St0 X.K H' ρ' μ' σ' ∧ W m' ρ' μ' :=
      fun σ' ρ' μ' H' e3 S3 ⟨m', hm, q⟩ => ⟨m', hm, ρ', μ', e1.trans (e2.trans e3), S3, q⟩
    rw [if_pos rfl] at h2
    exact l1 σ1 H2 ρ1 μ2 _ _ S2 h2 nxt (fun a b c d e3 => k2 a b c d (e1.trans (e2.trans e3))) (fun a b c d e3 => k1 a b c d (e1.trans (e2.trans e3))) nxt
  | false => exact xo (k1 σ1 ρ1 μ2 H2 (e1.trans e2) S2 (by simpa using h2))
abbrev DTI := Rho → Mu → (List PyData → Mu → Prop) → Prop
def G9 (K : PySem.W.Frag) (J : It) (xs : List PyData) (μ1 : Mu) (H1 : Hp) : Prop := ∀ μ2 H2, Ext K μ1 H1 μ2 H2 → dF K μ2 H2 → ∀ i, (i < xs.length → J.go i H2 ∧ ∀ x H', J.yld i H2 x H' → ∃ d, xs[i]? = some d ∧ nJ H2 H' ∧ Rp K μ2 H' d x) ∧ (i = xs.length → J.stop i H2)
def Ma (K : PySem.W.Frag) (wi : TI) (src : DTI) : Prop := ∀ (σ : St) (H : Hp) (ρ : Rho) (μ : Mu) (Qd : List PyData → Mu → Prop) (R : It → Hp → Prop), St0 K H ρ μ σ → src ρ μ Qd →
  (∀ xs μ1 H1 J, Ext K μ H μ1 H1 → St0 K H1 ρ μ1 σ → G9 K J xs μ1 H1 → Qd xs μ1 → R J H1) → wi σ H R
def DI (X : Cx) (tg iter : Expr) (src : DTI) : Prop := ∃ wi, PI X tg iter wi ∧ Ma X.K wi src
variable {tg : Expr}
def uZ (te : DTE) : DTI := fun ρ μ Q => te ρ μ fun d μ1 => match d with
  | .v (.list xs) => Q xs μ1
  | _ => False
def nO (te : DTE) : DTI := fun ρ μ Q => te ρ μ fun d μ1 => match d with
  | .v (.tuple xs) => Q xs μ1
  | _ => False
theorem yQ (h : DE X e te) : DI X tg e (uZ te) := by
  obtain ⟨t1, p1, l1⟩ := h
  refine ⟨_, Dl p1, fun σ H ρ μ Qd R S h k => ?_⟩
  refine l1 σ H ρ μ _ _ S h fun d u μ1 H1 e1 S1 r h1 => ?_
  split at h1
  · rename_i xs
    cases r with
    | @list a us _ ha hn ra =>
      refine ⟨a, rfl, ⟨us, SqL.of ha⟩, k xs μ1 H1 _ e1 S1 (fun μ2 H2 e2 ok2 i => ⟨fun hi => ?_, fun hi => ?_⟩) h1⟩
      · have ha2 := e2.keep _ _ ha hn trivial
        have hiu : i < us.length := by rw [← ra.length]; exact hi
        refine ⟨⟨us, us[i], SqL.of ha2, by simp [hiu]⟩, fun x H' ⟨eH, hx⟩ => ?_⟩
        subst eH
        obtain ⟨u', h1', h2'⟩ := ra.get (i := i) (d := xs[i]) (by simp [hi])
        have := hx us (SqL.of ha2)
        rw [h1'] at this
        cases this
        exact ⟨xs[i], by simp [hi], nJ.refl _, h2'.ext S1.mu e2⟩
      · exact ⟨us, SqL.of (e2.keep _ _ ha hn trivial), by rw [← ra.length]; omega⟩
  · exact h1.elim
theorem l6 (h : DE X e te) : DI X tg e (nO te) := by
  obtain ⟨t1, p1, l1⟩ := h
  refine ⟨_, J3 p1, fun σ H ρ μ Qd R S h k => ?_⟩
  refine l1 σ H ρ μ _ _ S h fun d u μ1 H1 e1 S1 r h1 => ?_
  split at h1
  · rename_i xs
    cases r with
    | @tuple a us _ ha ra =>
      refine ⟨a, rfl, ⟨us, ha⟩, k xs μ1 H1 _ e1 S1 (fun μ2 H2 e2 ok2 i => ⟨fun hi => ?_, fun hi => ?_⟩) h1⟩
      · have ha2 := yO S1.mu e2 ha
        have hiu : i < us.length := by rw [← ra.length]; exact hi
        refine ⟨⟨us, us[i], ha2, by simp [hiu]⟩, fun x H' ⟨eH, hx⟩ => ?_⟩
        subst eH
        obtain ⟨u', h1', h2'⟩ := ra.get (i := i) (d := xs[i]) (by simp [hi])
        have := hx us ha2
        rw [h1'] at this
        cases this
        exact ⟨xs[i], by simp [hi], nJ.refl _, h2'.ext S1.mu e2⟩
      · exact ⟨us, yO S1.mu e2 ha, by rw [← ra.length]; omega⟩
  · exact h1.elim
def nU (lo : Int) (n : Nat) : List PyData := (List.range n).map fun (i : Nat) => PyData.int (lo + (i : Int))
theorem Gi {K : PySem.W.Frag} {lo : Int} {n : Nat} {μ : Mu} {H : Hp} : G9 K (Itr lo n) (nU lo n) μ H := fun μ2 H2 e2 ok2 i => by
  have hl : (nU lo n).length = n := by unfold nU; simp
  refine ⟨fun hi => ?_, fun hi => ?_⟩
  · rw [hl] at hi
    refine ⟨hi, fun x H' ⟨eH, hx⟩ => ?_⟩
    subst eH hx
    exact ⟨.int (lo + i), by unfold nU; simp [hi], nJ.refl _, .int _⟩
  · show n ≤ i
    omega
def nS (t : DTA) : DTI := fun ρ μ Q => t ρ μ fun ds μ1 => match ds with
  | [.v (.int j)] => (-(2 ^ 62) ≤ j ∧ j < 2 ^ 62) ∧ Q (nU 0 j.toNat) μ1
  | _ => False
def BV (t : DTA) : DTI := fun ρ μ Q => t ρ μ fun ds μ1 => match ds with
  | [.v (.int i), .v (.int j)] => (-(2 ^ 62) ≤ i ∧ i < 2 ^ 62 ∧ -(2 ^ 62) ≤ j ∧ j < 2 ^ 62) ∧ Q (nU i (j - i).toNat) μ1
  | _ => False
theorem oR {a : Expr} {t : DTA} {p pos : Pos} (hg : Gl X "range") (hm : X.mg "range" = none) (ha : DA X [a] t) (hs : starEach [a] X.env = [(false, eval a X.env)] := by rfl) (hc : X.calm = true := by rfl) : DI X tg (.Call (.Name "range" p) [a] [] pos) (nS t) := by
  obtain ⟨t1, p1, l1⟩ := ha
  refine ⟨_, D9 hc hg hm p1 hs, fun σ H ρ μ Qd R S h k => ?_⟩
  refine l1 σ H ρ μ _ _ S h fun ds us μ1 H1 e1 S1 rs len h1 => ?_
  split at h1
  · rename_i j
    cases rs with
    | cons r1 r2 => cases r2; cases r1; exact ⟨j, rfl, h1.1.1, h1.1.2, k _ μ1 H1 _ e1 S1 Gi h1.2⟩
  · exact h1.elim
theorem Hi {a b : Expr} {t : DTA} {p pos : Pos} (hg : Gl X "range") (hm : X.mg "range" = none) (ha : DA X [a, b] t) (hs : starEach [a, b] X.env = [(false, eval a X.env), (false, eval b X.env)] := by rfl) (hs2 : starEach [b] X.env = [(false, eval b X.env)] := by rfl) (hc : X.calm = true := by rfl) : DI X tg (.Call (.Name "range" p) [a, b] [] pos) (BV t) := by
  obtain ⟨t1, p1, l1⟩ := ha
  refine ⟨_, D4 hc hg hm p1 hs hs2, fun σ H ρ μ Qd R S h k => ?_⟩
  refine l1 σ H ρ μ _ _ S h fun ds us μ1 H1 e1 S1 rs len h1 => ?_
  split at h1
  · rename_i i j
    cases rs with
    | cons r1 r2 =>
      cases r2 with
      | cons r2 r3 => cases r3; cases r1; cases r2; exact ⟨i, j, rfl, h1.1, k _ μ1 H1 _ e1 S1 Gi h1.2⟩
  · exact h1.elim
def vz (src : DTI) (g : DTG) (tb : DTS) : DTS := fun Dd ρ μ => src ρ μ fun xs μ1 => ∃ Pv : Nat → Rho → Mu → Prop, Pv 0 ρ μ1 ∧
  (∀ i x ρ' μ', xs[i]? = some x → Pv i ρ' μ' → g (.v x) ρ' μ' fun ρ2 μ2 => tb { Dd with nx := Pv (i + 1), ct := Pv (i + 1), bk := Dd.nx } ρ2 μ2) ∧ (∀ ρ' μ', Pv xs.length ρ' μ' → Dd.nx ρ' μ')
theorem mj {iter : Expr} {body : List Stmt} {src : DTI} {g : DTG} (hp : PassesOwn (model X.prog X.w) X.A X.env X.xe) (hc : X.calm = true) (hi : DI X tg iter src) (hg : DG X tg g) (hb : DSs X body td)
    (hs : ∀ x, foldedSetIterable iter X.env x = pure x := by intro _; rfl) : DS X (.For tg iter body [] pos) (vz src g td) := by
  obtain ⟨t0, p0, l0⟩ := hi
  obtain ⟨t1, p1, l1⟩ := hg
  obtain ⟨t2, p2, l2⟩ := hb
  refine ⟨_, J2 hp hc p0 p1 p2 hs, fun σ H ρ μ Dd De S h k1 k2 k3 k4 => ?_⟩
  refine l0 σ H ρ μ _ _ S h fun xs μ1 H1 J e1 S1 it h1 => ?_
  obtain ⟨Pv, pv0, turn, fin⟩ := h1
  refine ⟨fun i m σ' H' => m = xs.length - i ∧ i ≤ xs.length ∧ ∃ ρ' μ', Ext X.K μ1 H1 μ' H' ∧ St0 X.K H' ρ' μ' σ' ∧ Pv i ρ' μ', ⟨xs.length, by simp, Nat.zero_le _, ρ, μ1, .refl, S1, pv0⟩, ?_⟩
  rintro i m σ' H' ⟨rfl, hi, ρ', μ', e2, S2, pv⟩
  obtain ⟨go, stop⟩ := it μ' H' e2 S2.mu i
  by_cases hlt : i < xs.length
  · obtain ⟨g1, y1⟩ := go hlt
    refine .inr ⟨g1, fun σ2 H2 => ∃ ρ2 μ2, Ext X.K μ1 H1 μ2 H2 ∧ St0 X.K H2 ρ2 μ2 σ2 ∧ Pv (i + 1) ρ2 μ2, fun σ2 H2 q => ⟨xs.length - (i + 1), by omega, rfl, hlt, q⟩, fun x H2 yl => ?_⟩
    obtain ⟨d, hd, sm, rd⟩ := y1 x H2 yl
    have e3 : Ext X.K μ' H' μ' H2 := .of_same sm
    have S3 : St0 X.K H2 ρ' μ' σ' := ⟨S2.mu.Fe e3 sm, S2.rho.ext S2.mu e3⟩
    refine l1 σ' H2 ρ' μ' (.v d) x _ _ S3 rd (turn i d ρ' μ' hd pv) fun σ4 ρ4 μ4 H4 e4 S4 h4 => ?_
    have nxt : ∀ a b c dd, Ext X.K μ4 H4 c dd → St0 X.K dd b c a → Pv (i + 1) b c → ∃ ρ2 μ2, Ext X.K μ1 H1 μ2 dd ∧ St0 X.K dd ρ2 μ2 a ∧ Pv (i + 1) ρ2 μ2 := fun a b c dd e5 S5 q => ⟨b, c, e2.trans (e3.trans (e4.trans e5)), S5, q⟩
    have ee := e1.trans (e2.trans (e3.trans e4))
    exact l2 σ4 H4 ρ4 μ4 _ _ S4 h4 nxt (fun a b c d e5 => k2 a b c d (ee.trans e5)) (fun a b c d e5 => k1 a b c d (ee.trans e5)) nxt
  · have ei : i = xs.length := by omega
    subst ei
    exact .inl ⟨stop rfl, k1 σ' ρ' μ' H' (e1.trans e2) S2 (fin ρ' μ' pv)⟩
end
abbrev DSp := List D → Mu → DK → Prop
def spD (K : PySem.W.Frag) (dsp : DSp) : Sp := fun vs H Q _ => ∃ (ds : List D) (μ : Mu) (Qd : DK), dF K μ H ∧ kz K μ H ds vs ∧ dsp ds μ Qd ∧
  (∀ d u μ' H', Ext K μ H μ' H' → dF K μ' H' → RpD K μ' H' d u → Qd d μ' → Q u H')
def aX (N : List Str) (ds : List D) : Rho := ds.map some ++ List.replicate (N.length - ds.length) none
theorem kz.get {K : PySem.W.Frag} {μ : Mu} {H : Hp} {ds : List D} {us : List V} : ∀ {i : Nat} {d : D}, kz K μ H ds us → ds[i]? = some d → ∃ u, us[i]? = some u ∧ RpD K μ H d u
  | _, _, .nil, h => by simp at h
  | 0, _, .cons r _, h => by simp at h; subst h; exact ⟨_, rfl, r⟩
  | i + 1, d, .cons _ t, h => by
    obtain ⟨u, h1, h2⟩ := kz.get (i := i) (d := d) t (by simpa using h)
    exact ⟨u, by simpa using h1, h2⟩
theorem Eh {K : PySem.W.Frag} {μ : Mu} {H : Hp} {N : List Str} {ds : List D} {vs : List V} (r : kz K μ H ds vs) : iT K μ H (aX N ds) (start N vs) := by
  have hl := r.length
  refine ⟨by unfold aX start; simp [hl], fun i d e => ?_⟩
  unfold aX at e
  by_cases hi : i < ds.length
  · rw [List.getElem?_append_left (by simpa using hi), List.getElem?_map] at e
    unfold start
    rw [List.getElem?_append_left (by simpa [hl] using hi), List.getElem?_map]
    cases q : ds[i]? with
    | none => rw [q] at e; cases e
    | some d' =>
      rw [q] at e
      cases e
      obtain ⟨u, h1, h2⟩ := r.get q
      exact ⟨u, by rw [h1]; rfl, h2⟩
  · rw [List.getElem?_append_right (by simpa using hi), List.getElem?_replicate] at e
    split at e <;> cases e
section
variable {P : Program} {w : World} {K : PySem.W.Frag} {mg : Str → Option Value} {base : Heap}
theorem _root_.L2.Fun.okD {x qual : Str} {st : Stmt} {f : Addr} {fd : FuncData} {N ps : List Str} {k : Nat} {dsp : DSp} (F : Fun K x qual st f fd) (S : aQ N ps (aC st)) (len : ∀ ds μ Q, dsp ds μ Q → ds.length = ps.length)
    (hbody : ∀ (cdv : Value) (A : Around) (outer : List Env) (s : Shared) (H : Hp) (E : XK), mE k (A.deeper (envOfC qual (aC st) s.heap.objs.size f cdv)) →
      ∃ td, DSs (B2 CX0 P w K mg base N qual (aC st) f cdv A outer s H E).nox (kc st) td ∧ ∀ ds μ Qd, dsp ds μ Qd → td { nx := fun _ μ' => Qd (.v .none) μ', rt := Qd } (aX N ds) μ) : cu P w K mg base CX0 (k + 1) f fd ps (spD K dsp) := by
  refine F.ok S (fun vs H Q E h => ?_) (fun cdv A outer s H vs Q E hr h => ?_)
  · obtain ⟨ds, μ, Qd, _, r, h, _⟩ := h
    rw [← r.length]
    exact len ds μ Qd h
  · obtain ⟨ds, μ, Qd, ok, r, h, fin⟩ := h
    obtain ⟨td, ⟨t, p, l⟩, rd⟩ := hbody cdv A outer s H E hr
    refine ⟨t, p, ?_⟩
    exact l (start N vs) H (aX N ds) μ _ _ ⟨ok, Eh r⟩ (rd ds μ Qd h) (fun σ' ρ' μ' H' e' S' q => fin (.v .none) .non μ' H' e' S'.mu Rp.none q) (fun d u μ' H' e' ok' r' q => fin d u μ' H' e' ok' r' q) (fun _ _ _ _ _ _ q => q) (fun _ _ _ _ _ _ q => q)
end
section
variable {X : Cx} {e : Expr} {es : List Expr} {t : DTA} {p pos : Pos} {x : Str} {k : Nat} {f : Addr} {fd : FuncData} {ps : List Str} {dsp : DSp}
def ar (dsp : DSp) (t : DTA) : DTE := fun ρ μ Q => t ρ μ fun ds μ1 => dsp ds μ1 Q
theorem aj (F : cu X.prog X.w X.K X.mg X.base CX0 k f fd ps (spD X.K dsp)) (hr : mE k X.A) (hg : Gl X x) (hm : X.mg x = some (.ref f)) (hk : PySem.W.keepIn X.K (.ref f) = true) (hb : Binds X.K fd ps [])
    (ha : DA X (e :: es) t) (hdb : (x == ("__debug__" : Str)) = false := by decide) (he : starEach (e :: es) X.env = (false, eval e X.env) :: starEach es X.env := by rfl) (hpl : (backTo pos (starEach es X.env)).any (·.1) = false := by rfl) :
    DE X (.Call (.Name x p) (e :: es) [] pos) (ar dsp t) := by
  obtain ⟨t1, p1, l1⟩ := ha
  refine ⟨_, Hm F hr hg hm hk hb .nil LO p1 hdb he hpl, fun σ H ρ μ Qd Q S h kk => ?_⟩
  refine l1 σ H ρ μ _ _ S h fun ds us μ1 H1 e1 S1 rs len h1 => ?_
  refine ⟨ds, μ1, Qd, S1.mu, by rw [List.append_nil]; exact rs, h1, fun d u μ' H' e2 ok r q => ?_⟩
  exact kk d u μ' H' (e1.trans e2) ⟨ok, S1.rho.ext S1.mu e2⟩ r q
end
section
variable {X : Cx} {o e : Expr} {to te : DTE} {apos cpos : Pos}
def Cs (to te : DTE) : DTE := fun ρ μ Q => to ρ μ fun x μ1 => match x with
  | .m l => te ρ μ1 fun y μ2 => (match y, μ2 l with
    | .v d, some xs => xs.length < 1000 ∧ Q (.v .none) (aM μ2 l (xs ++ [d]))
    | _, _ => False)
  | _ => False
theorem oD (ho : DE X o to) (ha : DE X e te) (hbase : attributeBase o "append" X.env (eval o X.env) = eval o X.env := by rfl)
    (hfew : ((backTo cpos (starEach [e] X.env)).all (fun x => !x.1) && (backToKw cpos (keywordEach [] X.env)).all (fun x => x.1.isSome)
      && decide ([e].length + ([] : List Keyword).length + (if ([] : List Keyword).isEmpty then 0 else 1) < 30)) = true := by rfl)
    (hline : (apos.endLine == cpos.line) = true := by rfl) (hs : starEach [e] X.env = (false, eval e X.env) :: starEach [] X.env := by rfl) (hplain : (backTo cpos (starEach [] X.env)).any (·.1) = false := by rfl) :
    DE X (.Call (.Attribute o "append" apos) [e] [] cpos) (Cs to te) := by
  obtain ⟨t1, p1, l1⟩ := ho
  obtain ⟨t2, p2, l2⟩ := ha
  refine ⟨_, Lp PySem.F.plainAttrs_list PySem.F.slot_list_append PySem.F.type_list_append oW p1 (oM p2 uU hs) hbase hfew hline hs hplain, fun σ H ρ μ Qd Q S h k => ?_⟩
  refine l1 σ H ρ μ _ _ S h fun x ux μ1 H1 e1 S1 rx h1 => ?_
  cases x with
  | m l =>
    obtain ⟨rfl, ds, hm⟩ := id rx
    obtain ⟨us, hl, rl⟩ := S1.mu l ds hm
    refine ⟨.inl ⟨rfl, us, SqL.of hl⟩, ?_⟩
    refine l2 σ H1 ρ μ1 _ _ S1 h1 fun y uy μ2 H2 e2 S2 ry h2 => ?_
    obtain ⟨_, ds2, hm2⟩ := rx.ext S1.mu e2
    obtain ⟨us2, hl2, rl2⟩ := S2.mu l ds2 hm2
    rw [hm2] at h2
    cases y with
    | v d =>
      have h3 : ds2.length < 1000 ∧ Qd (.v .none) (aM μ2 l (ds2 ++ [d])) := h2
      refine ⟨l, us2, uy, rfl, rfl, hl2, by rw [← rl2.length]; exact iy (Nat.le_of_lt h3.1), ?_⟩
      have ex : Ext X.K μ2 H2 (aM μ2 l (ds2 ++ [d])) (upd H2 l (.lst (us2 ++ [uy]))) := oF hm2
      exact k (.v .none) .non _ _ (e1.trans (e2.trans ex)) ⟨S2.mu.set hm2 (rl2.append (.cons ry .nil)), S2.rho.ext S2.mu ex⟩ Rp.none h3.2
    | m _ => exact h2.elim
    | s _ => exact h2.elim
    | o _ => exact h2.elim
    | q _ => exact h2.elim
  | v d => exact h1.elim
  | s ns => exact h1.elim
  | o _ => exact h1.elim
  | q _ => exact h1.elim
def Mz (to te : DTE) : DTE := fun ρ μ Q => to ρ μ fun x μ1 => match x with
  | .m l => te ρ μ1 fun y μ2 => (match y, μ2 l with
    | .v (.list ys), some xs => xs.length + ys.length ≤ 1000 ∧ Q (.v .none) (aM μ2 l (xs ++ ys))
    | _, _ => False)
  | _ => False
def Lx (to : DTE) : DTE := fun ρ μ Q => to ρ μ fun x μ1 => match x with
  | .v (.int i) => Q (.v (.int (Builtin.Int.intBits i : Nat))) μ1
  | _ => False
end
open PySem PySem.Spec PyProof.Rows
theorem gR {prog : Program} {w : World} {A : Around} {R : Result → Shared → Prop} {s : Shared} {elt target iter : Expr} {ifs : List Expr} {scope : Scope} {pos : Pos} {it acc : Value} {env : Env} (I : Nat → Shared → Prop)
    (turn : ∀ n s, I n s → wpAny (model prog w) A (pyNext it) (fun r s₁ => match r with
      | none => R (.ok .next) s₁
      | some v => wpAny (model prog w) A (letOwnedTupleGo target it v) (fun _ s' => wpAny (model prog w) A (assign target env v) (fun _ s₂ =>
          wpAny (model prog w) A (forIn ifs true fun c r => if r = true then do let ok ← isTrue c env (eval c env); pure (ForInStep.yield ok) else pure (ForInStep.yield r)) (fun ok s₃ =>
            if ok = true then wpAny (model prog w) A (eval elt env) (fun x s₄ =>
              wpAny (model prog w) A (call (.builtin "list.append") [acc, x]) (fun _ s₅ => ∃ m, m < n ∧ I m s₅) (fun _ _ => False) s₄) (fun _ _ => False) s₃
            else ∃ m, m < n ∧ I m s₃) (fun _ _ => False) s₂) (fun _ _ => False) s') (fun _ _ => False) s₁) (fun _ _ => False) s)
    (n : Nat) (h : I n s) :
    codeAny (model prog w) A (.compLoop (.ListComp elt [⟨target, iter, ifs, 0⟩] scope pos) 0 it acc env) R s := by
  refine codeAny_loop rfl I (fun n s hI => ?_) n h
  show wpAny _ A ((compTurn (.ListComp elt [⟨target, iter, ifs, 0⟩] scope pos) 0 it acc env).onRaise (fun x => do noteFrame x env; theTreesLotGoes x)) _ _ s
  refine wpAny_noted ?_
  rw [compTurn_list]
  refine wpAny_bind (wpAny_standAt (wpAny_bind (wpAny_mono (turn n s hI) (fun r s₁ h₁ => ?_) fun _ _ h' => h'.elim)))
  cases r with
  | none => exact wpAny_pure h₁
  | some v =>
    refine wpAny_bind (wpAny_mono h₁ (fun _ s' h' => ?_) fun _ _ h' => h'.elim)
    refine wpAny_bind (wpAny_mono h' (fun _ s₂ h₂ => wpAny_bind (wpAny_mono h₂ (fun ok s₃ h₃ => ?_) fun _ _ h' => h'.elim)) fun _ _ h' => h'.elim)
    cases ok with
    | false => exact wpAny_pure ⟨rfl, h₃⟩
    | true =>
      exact wpAny_bind (wpAny_bind (wpAny_mono h₃ (fun x s₄ h₄ => wpAny_bind (wpAny_mono h₄ (fun _ s₅ h₅ => wpAny_pure (wpAny_pure ⟨rfl, h₅⟩)) fun _ _ h' => h'.elim)) fun _ _ h' => h'.elim))
section
variable {K : PySem.W.Frag} {μ μ' : Mu} {H : Hp}
mutual
theorem Rp.shrink {d : PyData} {u : V} (sub : ∀ a, μ' a = none → μ a = none) : Rp K μ' H d u → Rp K μ H d u
  | .none => .none
  | .bool b => .bool b
  | .int i => .int i
  | .str x => .str x
  | .list h n r => .list h (sub _ n) (RpL.shrink sub r)
  | .tuple h r => .tuple h (RpL.shrink sub r)
theorem RpL.shrink {ds : List PyData} {us : List V} (sub : ∀ a, μ' a = none → μ a = none) : RpL K μ' H ds us → RpL K μ H ds us
  | .nil => .nil
  | .cons h r => .cons (Rp.shrink sub h) (RpL.shrink sub r)
end
end
theorem Gb {X : Cx} {e : Expr} {td : DTE} (h : ∀ (pins : List (Addr × Obj)) (s : Shared) (σ : St) (H : Hp) (ρ : Rho) (μ : Mu) (Qd : DK) (Q : VK), Inv X pins σ H s → St0 X.K H ρ μ σ → td ρ μ Qd →
    (∀ d u μ' H', Ext X.K μ H μ' H' → St0 X.K H' ρ μ' σ → RpD X.K μ' H' d u → Qd d μ' → Q u H') → wpAny (model X.prog X.w) X.A (eval e X.env) (EP X pins σ Q) X.xe s) : DE X e td :=
  ⟨fun σ H Q => ∃ ρ μ Qd, St0 X.K H ρ μ σ ∧ td ρ μ Qd ∧ (∀ d u μ' H', Ext X.K μ H μ' H' → St0 X.K H' ρ μ' σ → RpD X.K μ' H' d u → Qd d μ' → Q u H'),
    fun pins s σ H Q I ⟨ρ, μ, Qd, S, q, k⟩ => h pins s σ H ρ μ Qd Q I S q k, fun σ H ρ μ Qd Q S q k => ⟨ρ, μ, Qd, S, q, k⟩⟩
def bH (X : Cx) (N' : List Str) (scope : Scope) (cl : List (Str × Addr)) (fp : List Addr) (s₃ : Shared) (H₃ : Hp) : Cx :=
  { X with N := N', s₀ := s₃, H₀ := H₃, env := compEnvC scope cl s₃.heap.objs.size X.env, outer := X.stack, stack := X.stack, ex := fp, fn := fun _ => false, pn := X.pn, xe := fun _ _ => False }
def Le : Rho → Rho → Prop
  | [], [] => True
  | none :: r, _ :: r' => Le r r'
  | some d :: r, some d' :: r' => d = d' ∧ Le r r'
  | _, _ => False
theorem Le.get : ∀ {ρ ρ' : Rho}, Le ρ ρ' → ρ.length = ρ'.length ∧ ∀ (i : Nat) d, ρ[i]? = some (some d) → ρ'[i]? = some (some d)
  | [], [], _ => ⟨rfl, fun _ _ h => h⟩
  | none :: r, x :: r', h => by
    obtain ⟨h1, h2⟩ := Le.get (ρ := r) (ρ' := r') h
    refine ⟨congrArg (· + 1) h1, fun i d e => ?_⟩
    cases i with
    | zero => simp at e
    | succ j => exact h2 j d (by simpa using e)
  | some d :: r, some d' :: r', h => by
    obtain ⟨rfl, h⟩ := h
    obtain ⟨h1, h2⟩ := Le.get (ρ := r) (ρ' := r') h
    refine ⟨congrArg (· + 1) h1, fun i d e => ?_⟩
    cases i with
    | zero => simpa using e
    | succ j => exact h2 j d (by simpa using e)
  | some d :: r, none :: r', h => h.elim
  | [], _ :: _, h => h.elim
  | none :: _, [], h => h.elim
  | some _ :: _, [], h => h.elim
def cM {α : Type} (cap : List (Option Nat)) (ρ : List (Option α)) : List (Option α) := cap.map fun o => o.bind fun j => (ρ[j]?).join
def nX (cap : List (Option Nat)) (src : DTI) (g : DTG) (c : DTT) (elt : DTE) : DTE := fun ρ μ Q => src ρ μ fun xs μ1 => xs.length ≤ 1000 ∧ ∃ f : PyData → Option PyData,
  (∀ x ∈ xs, ∀ μ' : Mu, (∀ a ds, μ1 a = some ds → μ' a = some ds) → g (.v x) (cM cap ρ) μ' fun ρ2 μ2 => Le (cM cap ρ) ρ2 ∧ c ρ2 μ2 fun b μ3 =>
    if b = true then elt ρ2 μ3 fun d μ4 => μ4 = μ' ∧ (match d with | .v y => f x = some y | _ => False) else μ3 = μ' ∧ f x = none) ∧ Q (.v (.list (xs.filterMap f))) μ1
def BR (X : Cx) (ifs : List Expr) (c : DTT) : Prop := ∀ (pins : List (Addr × Obj)) (s : Shared) (σ : St) (H : Hp) (ρ : Rho) (μ : Mu) (Qd : Bool → Mu → Prop) (Q : Bool → Hp → Prop), Inv X pins σ H s → St0 X.K H ρ μ σ → c ρ μ Qd →
  (∀ b μ' H', Ext X.K μ H μ' H' → St0 X.K H' ρ μ' σ → Qd b μ' → Q b H') →
  wpAny (model X.prog X.w) X.A (forIn ifs true fun c r => if r = true then do let ok ← isTrue c X.env (eval c X.env); pure (ForInStep.yield ok) else pure (ForInStep.yield r)) (TP X pins σ Q) X.xe s
def mM : DTT := fun _ μ Q => Q true μ
theorem fQ {X : Cx} : BR X [] mM := fun pins s σ H ρ μ Qd Q I S h k => wpAny_tests_nil ⟨H, I, k true μ H .refl S h⟩
theorem FJ {X : Cx} {c : Expr} {tc : DTT} (h : DT X c tc) : BR X [c] tc := by
  obtain ⟨t, p, l⟩ := h
  exact fun pins s σ H ρ μ Qd Q I S h k => wpAny_tests_one (p pins s σ H _ I (l σ H ρ μ _ _ S h k))
theorem Un.after {fs ex : List Addr} {H H1 : Hp} {h h1 h' : Heap} (u : Un fs ex H H1 h h1) (k : ∀ b o, b < h.objs.size → h1.get? b = some o → h'.get? b = some o) : Un fs ex H H1 h h' :=
  ⟨fun b o e n hb hx => k b o (Heap.lt_size e) (u.keep b o e n hb hx), fun b o e n hb hx => let ⟨sl, q⟩ := u.slot b o e n hb hx; ⟨sl, k b _ (Heap.lt_size e) q⟩, u.free, fun b o e hx => let ⟨o', q⟩ := u.there b o e hx; ⟨o', k b _ (Heap.lt_size e) q⟩, u.sC, u.qv, u.qT⟩
theorem qR {α : Type} {cap : List (Option Nat)} {ρ : List (Option α)} {i : Nat} {d : α} (h : (cM cap ρ)[i]? = some (some d)) : ∃ j, cap[i]? = some (some j) ∧ ρ[j]? = some (some d) := by
  unfold cM at h
  rw [List.getElem?_map] at h
  cases q : cap[i]? with
  | none => rw [q] at h; cases h
  | some o =>
    rw [q] at h
    cases o with
    | none => cases h
    | some j =>
      refine ⟨j, rfl, ?_⟩
      simp only [Option.map_some, Option.bind_some, Option.some.injEq] at h
      cases z : ρ[j]? with
      | none => rw [z] at h; cases h
      | some y => rw [z] at h; simp only [Option.join_some] at h; rw [h]
theorem FZ {α : Type} {cap : List (Option Nat)} {ρ : List (Option α)} {i j : Nat} {d : α} (h : cap[i]? = some (some j)) (e : ρ[j]? = some (some d)) : (cM cap ρ)[i]? = some (some d) := by
  unfold cM
  rw [List.getElem?_map, h]
  simp [e]
theorem iT.cap {K : PySem.W.Frag} {μ : Mu} {H : Hp} {ρ : Rho} {σ : St} {cap : List (Option Nat)} (r : iT K μ H ρ σ) : iT K μ H (cM cap ρ) (cM cap σ) := by
  refine ⟨by unfold cM; simp, fun i d e => ?_⟩
  obtain ⟨j, h1, h2⟩ := qR e
  obtain ⟨u, h3, h4⟩ := r.2 j d h2
  exact ⟨u, FZ h1 h3, h4⟩
theorem iT.le {K : PySem.W.Frag} {μ : Mu} {H : Hp} {ρ ρ' : Rho} {σ : St} (r : iT K μ H ρ' σ) (l : Le ρ ρ') : iT K μ H ρ σ :=
  ⟨l.get.1.trans r.1, fun i d e => r.2 i d (l.get.2 i d e)⟩
theorem rq {xs : List PyData} {f : PyData → Option PyData} {i : Nat} {d : PyData} (h : xs[i]? = some d) : (xs.take (i + 1)).filterMap f = (xs.take i).filterMap f ++ (f d).toList := by
  obtain ⟨hi, e⟩ := List.getElem?_eq_some_iff.mp h
  rw [List.take_succ_eq_append_getElem hi, List.filterMap_append, e]
  cases q : f d <;> simp [q]
theorem lG {X : Cx} {N' : List Str} {scope : Scope} {cl : List (Str × Addr)} {elt iter tg : Expr} {ifs : List Expr} {pos : Pos} {cap : List (Option Nat)} {src : DTI} {g : DTG} {c : DTT} {te : DTE} (hc : X.calm = X.calm)
    (hi : DI X tg iter src) (hg : ∀ fp s₃ H₃, DG (bH X N' scope cl fp s₃ H₃) tg g) (hif : ∀ fp s₃ H₃, BR (bH X N' scope cl fp s₃ H₃) ifs c) (he : ∀ fp s₃ H₃, DE (bH X N' scope cl fp s₃ H₃) elt te)
    (hclos : closureFor scope X.env = pure cl) (hcell : ∀ y ∈ scope.names, y.2 ≠ .cell) (hkind : scope.kind = .function) (hnames : ∀ y ∈ scope.names, y.2 = .local → scope.names.lookup y.1 = some .local)
    (hcl : ∀ x a, cl.lookup x = some a → X.env.cells.lookup x = some a) (hhas : ∀ x, (relabel scope X.env).names.lookup x = some .cell ∨ (relabel scope X.env).names.lookup x = some .free → ∃ a, cl.lookup x = some a)
    (hlen : cap.length = N'.length) (hcap : ∀ (i j : Nat) (x : Str), cap[i]? = some (some j) → N'[i]? = some x → X.N[j]? = some x ∧ Vis X.env.scope x ∧ X.env.kindOf x ≠ some .local ∧ ((relabel scope X.env).names.lookup x = some .cell ∨ (relabel scope X.env).names.lookup x = some .free))
    (hs : ∀ x, foldedSetIterable iter X.env x = pure x := by intro _; rfl) : DE X (.ListComp elt [⟨tg, iter, ifs, 0⟩] scope pos) (nX cap src g c te) := by
  refine Gb fun pins s σ H ρ μ Qd Q I S h k => ?_
  obtain ⟨wi, pw, li⟩ := hi
  rw [eval_ListComp]
  refine wpAny_comprehension_free (use := none) rfl hs hclos hkind hnames (thn (pw pins s σ H _ I (li σ H ρ μ _ (fun J H1 => ∃ xs μ1, Ext X.K μ H μ1 H1 ∧ St0 X.K H1 ρ μ1 σ ∧ G9 X.K J xs μ1 H1 ∧ xs.length ≤ 1000 ∧ ∃ f : PyData → Option PyData,
      (∀ x ∈ xs, ∀ μ' : Mu, (∀ a ds, μ1 a = some ds → μ' a = some ds) → g (.v x) (cM cap ρ) μ' fun ρ2 μ2 => Le (cM cap ρ) ρ2 ∧ c ρ2 μ2 fun b μ3 =>
        if b = true then te ρ2 μ3 fun d μ4 => μ4 = μ' ∧ (match d with | .v y => f x = some y | _ => False) else μ3 = μ' ∧ f x = none) ∧ Qd (.v (.list (xs.filterMap f))) μ1) S h (fun xs μ1 H1 J e1 S1 it q => ⟨xs, μ1, e1, S1, it, q⟩)))
    fun v s1 h1 => thn h1 fun itv s2 h2 => ?_)
  obtain ⟨it, fp, tn, J, H2, rfl, I2, T, st2, f2, xs, μ1, e1, S1, itok, hxs, f, body, fin⟩ := h2
  refine wpAny_newObj_type (wpAny_newFunctionEnv hcell (by intro y hy; simp at hy) (fun h₁ hns₁ hsb₁ => ?_) hkind)
  dsimp only at hns₁ hsb₁ ⊢
  have hfree2 : H2 s2.heap.objs.size = none := I2.hok.fresh (Nat.le_refl _)
  have hK2 : X.K.lookup s2.heap.objs.size = none := by
    cases z : X.K.lookup s2.heap.objs.size with
    | none => rfl
    | some o => exact absurd (Heap.lt_size (I2.kIn _ _ z)) (Nat.lt_irrefl _)
  have I3 : Inv X pins σ (upd H2 s2.heap.objs.size (.lst [])) { s2 with heap := s2.heap.push { cls := .type "list", dict := none, data := .seq ([] : List Value).toArray } } :=
    I2.laid (t' := s2.toks) (fun b u e => Heap.get?_push_of_some _ e) (Nat.le_refl _) ⟨Nat.zero_le _, [], 0, .nil, Heap.get?_push_size _ rfl⟩
  generalize hH : s2.heap.push { cls := .type "list", dict := none, data := .seq ([] : List Value).toArray } = hp3 at hns₁ hsb₁ I3 ⊢
  have hsz3 : hp3.objs.size = s2.heap.objs.size + 1 := by rw [← hH, Heap.size_push]
  have kept3 : ∀ b o, hp3.get? b = some o → h₁.get? b = some o := fun b o e => hsb₁.extBut b o (Nat.ne_of_lt (Heap.lt_size e)) (Heap.get?_push_of_some _ e)
  have old3 : ∀ b o, s2.heap.get? b = some o → hp3.get? b = some o := fun b o e => by rw [← hH]; exact Heap.get?_push_of_some _ e
  have fplt : ∀ b ∈ fp, b < s2.heap.objs.size := fun b hb => by obtain ⟨o, e, _⟩ := T.obj 0 _ st2 b hb; exact Heap.lt_size e
  have fpst : ∀ b ∈ fp, b ∉ frs X.stack := fun b hb hz => by
    rcases List.mem_cons.mp (I2.nu b hz) with e | e
    · exact (f2 b hb).2.1 e
    · exact (f2 b hb).2.2.1 e
  obtain ⟨s3, hs3⟩ : ∃ s3 : Shared, s3 = { s2 with heap := hp3 } := ⟨_, rfl⟩
  obtain ⟨H3, hH3⟩ : ∃ H3 : Hp, H3 = upd H2 s2.heap.objs.size (.lst []) := ⟨_, rfl⟩
  have heap3 : s3.heap = hp3 := by rw [hs3]
  rw [← hH3] at I3
  have I3' : Inv X pins σ H3 s3 := by rw [hs3]; exact I3
  have hloc : H3 hp3.objs.size = none := by have := I3'.hok.fresh (a := hp3.objs.size) (by rw [heap3]; exact Nat.le_refl _); exact this
  have okc : (bH X N' scope cl fp s3 H3).Ok := by
    refine ⟨I3.ok.mod, ?_, I3.ok.glob, I3.ok.blt, Nat.le_refl _, fun x y a h1 h2 => I3.ok.inj x y a (hcl x a h1) (hcl y a h2), fun x hx => hhas x hx, fun x a h => (nomatch h), I3.ok.hd, I3.ok.qt, I3.ok.frames, .inl rfl, fun b hb => ⟨?_, fun x a h => (f2 b hb).2.2.2.2.1 x a (hcl x a h)⟩,
      I3'.bs, Nat.le_trans I3.ok.bsz I3'.sz, fun b o e hb => ?_, fun b hb => fpst b hb, I3'.stack, I3'.uK⟩
    · exact hkind
    · show b ≠ s3.heap.objs.size
      rw [heap3, hsz3]
      exact Nat.ne_of_lt (Nat.lt_succ_of_lt (fplt b hb))
    · rcases (f2 b hb).2.2.2.1 with z | z
      · exact I3.ok.Bz b o e z
      · exact absurd (Nat.lt_of_lt_of_le (Heap.lt_size (I3.ok.bs b o e).1) z) (Nat.lt_irrefl _)
  have I4 : Inv (bH X N' scope cl fp s3 H3) [] (cM cap σ) H3 { s2 with heap := h₁, toks := s2.toks + ([] : List (Str × Value)).length } := by
    refine ⟨okc, by show s2.os = s3.os; rw [hs3], I3.bare, Un.kept (by show ∀ b o, s3.heap.get? b = some o → _; rw [heap3]; exact kept3), ⟨_, (by show h₁.Ns s3.heap.objs.size _; rw [heap3]; exact hns₁), fun i x v e1 e2 e3 => ?_⟩, fun x a h => ?_, (by show H3 s3.heap.objs.size = none; rw [heap3]; exact hloc), fun x a h => I3.mJ x a (hcl x a h), fun p hp => ?_, I3.hok.kept kept3, ?_⟩
    · obtain ⟨j, h1, h2⟩ := qR e2
      obtain ⟨hN, hv, hnl, hk⟩ := hcap i j x h1 e1
      obtain ⟨m, _, hl⟩ := I3.loc
      obtain ⟨u, r, lk⟩ := hl j x v hN h2 hv
      refine ⟨u, r, .inr ⟨hk, ?_⟩⟩
      obtain ⟨a, ha⟩ := hhas x hk
      rcases lk with ⟨z, _⟩ | ⟨_, a', z1, z2⟩
      · exact absurd z hnl
      · have : a' = a := by have q := hcl x a ha; rw [z1] at q; exact Option.some.inj q
        subst this
        obtain ⟨o, ho, hd⟩ := z2
        exact ⟨a', ha, o, kept3 _ _ ho, hd⟩
    · obtain ⟨v, o, ho, hd⟩ := I3.cell x a (hcl x a h)
      exact ⟨v, o, kept3 _ _ ho, hd⟩
    · have hp' : p ∈ X.pn ++ pins := List.mem_append_left _ (by simpa using (show p ∈ X.pn ++ [] from hp))
      obtain ⟨z1, z2, z3, z4, z5⟩ := I3'.pin p hp'
      refine ⟨kept3 _ _ (by rw [← heap3]; exact z1), z2, (show p.1 ≠ s3.heap.objs.size from Nat.ne_of_lt (Heap.lt_size z1)), fun z => ?_, z5⟩
      rcases List.mem_cons.mp (I3'.nu p.1 z) with e | e
      · exact z3 e
      · exact z4 e
    · show (cM cap σ).length = N'.length
      unfold cM
      rw [List.length_map]
      exact hlen
  have hμ1 : μ1 s2.heap.objs.size = none := S1.mu.free hfree2
  have sub1 : ∀ ys a ds, μ1 a = some ds → aM μ1 s2.heap.objs.size ys a = some ds := fun ys a ds e => by
    have : a ≠ s2.heap.objs.size := fun z => by rw [z, hμ1] at e; cases e
    rw [bU this]; exact e
  have loop : codeAny (model X.prog X.w) X.A (.compLoop (.ListComp elt [⟨tg, iter, ifs, 0⟩] scope pos) 0 (.ref it) (.ref s2.heap.objs.size) (bH X N' scope cl fp s3 H3).env)
      (compPost (model X.prog X.w) X.A X.xe none (EP X pins σ Q) (.ref s2.heap.objs.size) hp3.objs.size) { s2 with heap := h₁, toks := s2.toks + ([] : List (Str × Value)).length } := by
    refine gR (fun n s' => ∃ (i : Nat) (σc : St) (Hc : Hp), n = xs.length - i ∧ i ≤ xs.length ∧ Inv (bH X N' scope cl fp s3 H3) [] σc Hc s' ∧ tn i s'.heap ∧ (∀ b ∈ fp, Hc b = none) ∧
      St0 X.K Hc (cM cap ρ) (aM μ1 s2.heap.objs.size ((xs.take i).filterMap f)) σc ∧ Ext X.K μ1 H2 (aM μ1 s2.heap.objs.size ((xs.take i).filterMap f)) Hc) ?_ xs.length
      ⟨0, cM cap σ, H3, by simp, Nat.zero_le _, I4, T.keep 0 _ _ st2 (fun b hb o e => kept3 b o (old3 b o e)), fun b hb => ?_, ?_, ?_⟩
    · rintro n s' ⟨i, σc, Hc, rfl, hi, Ic, tc, frc, Sc, Ec⟩
      have stat : ∀ {Hd : Hp}, (∀ b ∈ fp, Hd b = none) → ∀ b ∈ fp, wQ (bH X N' scope cl fp s3 H3) [] Hd b := fun hn b hb =>
        ⟨hn b hb, (okc.exf b hb).1, fpst b hb, .inl hb, fun x a h => (okc.exf b hb).2 x a h, fun p hp => (f2 b hb).2.2.2.2.2 p (List.mem_append_left _ (by simpa using (show p ∈ X.pn ++ [] from hp)))⟩
      obtain ⟨go, stop⟩ := itok _ Hc Ec Sc.mu i
      by_cases hlt : i < xs.length
      · obtain ⟨g1, y1⟩ := go hlt
        refine thn (T.item (bH X N' scope cl fp s3 H3) rfl rfl rfl (fun z => z) i [] s' σc Hc (fun _ _ => False) Ic (stat frc) tc g1) fun r s4 ⟨u, hr, h4⟩ => ?_
        subst hr
        refine thn h4 fun _ s5 ⟨x, H5, I5, r5, y5, st5, fr5⟩ => ?_
        obtain ⟨d, hd, sm, rd⟩ := y1 x H5 y5
        have I5' := I5.pinned (stat fr5) (T.obj _ _ st5)
        have e5 : Ext X.K _ Hc _ H5 := .of_same (μ := aM μ1 s2.heap.objs.size ((xs.take i).filterMap f)) sm
        have S5 : St0 X.K H5 (cM cap ρ) (aM μ1 s2.heap.objs.size ((xs.take i).filterMap f)) σc := ⟨Sc.mu.Fe e5 sm, Sc.rho.ext Sc.mu e5⟩
        obtain ⟨gt, pg, lg⟩ := hg fp s3 H3
        have hmem : d ∈ xs := List.mem_of_getElem? hd
        refine thn (pg _ s5 σc H5 x u (fun σ' H' => ∃ ρ' μ', Ext X.K (aM μ1 s2.heap.objs.size ((xs.take i).filterMap f)) H5 μ' H' ∧ St0 X.K H' ρ' μ' σ' ∧ Le (cM cap ρ) ρ' ∧ c ρ' μ' fun b μ3 =>
            if b = true then te ρ' μ3 fun d' μ4 => μ4 = aM μ1 s2.heap.objs.size ((xs.take i).filterMap f) ∧ (match d' with | .v y => f d = some y | _ => False) else μ3 = aM μ1 s2.heap.objs.size ((xs.take i).filterMap f) ∧ f d = none) I5' r5
          (lg σc H5 (cM cap ρ) _ (.v d) x _ _ S5 rd (body d hmem _ (sub1 _)) fun σ' ρ' μ' H' e' S' q => ⟨ρ', μ', e', S', q⟩)) fun _ s6 ⟨σ6, H6, I6, ρ6, μ6, e6, S6, le6, q6⟩ => ?_
        refine thn (hif fp s3 H3 _ s6 σ6 H6 ρ6 μ6 _ (fun b H' => ∃ μ', Ext X.K μ6 H6 μ' H' ∧ St0 X.K H' ρ6 μ' σ6 ∧ if b = true then te ρ6 μ' fun d' μ4 => μ4 = aM μ1 s2.heap.objs.size ((xs.take i).filterMap f) ∧ (match d' with | .v y => f d = some y | _ => False) else μ' = aM μ1 s2.heap.objs.size ((xs.take i).filterMap f) ∧ f d = none)
          I6 S6 q6 fun b μ' H' e' S' q => ⟨μ', e', S', q⟩) fun b s7 ⟨H7, I7, μ7, e7, S7, q7⟩ => ?_
        have again : ∀ {H9 : Hp} {s9 : Shared}, Inv (bH X N' scope cl fp s3 H3) ([] ++ pV fp s5.heap) σ6 H9 s9 → dF X.K (aM μ1 s2.heap.objs.size ((xs.take (i + 1)).filterMap f)) H9 → iT X.K (aM μ1 s2.heap.objs.size ((xs.take (i + 1)).filterMap f)) H9 (cM cap ρ) σ6 →
            Ext X.K μ1 H2 (aM μ1 s2.heap.objs.size ((xs.take (i + 1)).filterMap f)) H9 → ∃ m, m < xs.length - i ∧ ∃ (i : Nat) (σc : St) (Hc : Hp), m = xs.length - i ∧ i ≤ xs.length ∧ Inv (bH X N' scope cl fp s3 H3) [] σc Hc s9 ∧ tn i s9.heap ∧ (∀ b ∈ fp, Hc b = none) ∧
              St0 X.K Hc (cM cap ρ) (aM μ1 s2.heap.objs.size ((xs.take i).filterMap f)) σc ∧ Ext X.K μ1 H2 (aM μ1 s2.heap.objs.size ((xs.take i).filterMap f)) Hc := fun {H9 s9} I9 m9 r9 e9 => by
          refine ⟨xs.length - (i + 1), by omega, i + 1, σ6, H9, rfl, hlt, I9.jZ, T.keep _ _ _ st5 fun b hb o e => (I9.pin (b, o) (List.mem_append_right _ (List.mem_append_right _ (eB hb e)))).1, fun b hb => ?_, ⟨m9, r9⟩, e9⟩
          obtain ⟨o, e, _⟩ := T.obj _ _ st5 b hb
          exact (I9.pin (b, o) (List.mem_append_right _ (List.mem_append_right _ (eB hb e)))).2.1
        cases b with
        | false =>
          have q8 : μ7 = aM μ1 s2.heap.objs.size ((xs.take i).filterMap f) ∧ f d = none := by simpa using q7
          refine xo ?_
          have et : (xs.take (i + 1)).filterMap f = (xs.take i).filterMap f := by rw [rq hd, q8.2]; simp
          have eμ : aM μ1 s2.heap.objs.size ((xs.take (i + 1)).filterMap f) = μ7 := by rw [et, q8.1]
          refine again I7 (by rw [eμ]; exact S7.mu) (by rw [eμ]; exact S7.rho.le le6) ?_
          rw [eμ]
          exact Ec.trans (e5.trans (e6.trans e7))
        | true =>
          refine w4 ?_
          obtain ⟨t8, p8, l8⟩ := he fp s3 H3
          refine thn (p8 _ s7 σ6 H7 (fun v H' => ∃ y, Ext X.K μ7 H7 (aM μ1 s2.heap.objs.size ((xs.take i).filterMap f)) H' ∧ St0 X.K H' ρ6 (aM μ1 s2.heap.objs.size ((xs.take i).filterMap f)) σ6 ∧ Rp X.K (aM μ1 s2.heap.objs.size ((xs.take i).filterMap f)) H' y v ∧ f d = some y) I7
            (l8 σ6 H7 ρ6 μ7 _ _ S7 (by simpa using q7) fun d' v μ8 H8 e8 S8 r8 q8 => ?_)) fun v s8 ⟨v8, H8, I8, r8, y, e8, S8, ry, fy⟩ => ?_
          · obtain ⟨rfl, q8⟩ := q8
            cases d' with
            | v y => exact ⟨y, e8, S8, r8, q8⟩
            | m _ => exact q8.elim
            | s _ => exact q8.elim
            | o _ => exact q8.elim
            | q _ => exact q8.elim
          · obtain ⟨us, hacc, rus⟩ := S8.mu s2.heap.objs.size _ bA
            have hle : ((xs.take i).filterMap f).length ≤ 1000 := Nat.le_trans (List.length_filterMap_le _ _) (Nat.le_trans (by rw [List.length_take]; exact Nat.min_le_right _ _) hxs)
            refine thn (oW (X := bH X N' scope cl fp s3 H3) _ s8 σ6 H8 (.ref s2.heap.objs.size) [v8] (.ref s2.heap.objs.size) [v] (fun _ H' => H' = upd H8 s2.heap.objs.size (.lst (us ++ [v8]))) I8 rfl (.cons r8 .nil) ⟨_, us, v8, rfl, rfl, hacc, by rw [← rus.length]; exact iy hle, rfl⟩) fun _ s9 ⟨_, H9, I9, _, e9⟩ => ?_
            subst e9
            have et : (xs.take (i + 1)).filterMap f = (xs.take i).filterMap f ++ [y] := by rw [rq hd, fy]; rfl
            have mset : aM (aM μ1 s2.heap.objs.size ((xs.take i).filterMap f)) s2.heap.objs.size ((xs.take (i + 1)).filterMap f) = aM μ1 s2.heap.objs.size ((xs.take (i + 1)).filterMap f) := oT
            have ex : Ext X.K (aM μ1 s2.heap.objs.size ((xs.take i).filterMap f)) H8 (aM μ1 s2.heap.objs.size ((xs.take (i + 1)).filterMap f)) (upd H8 s2.heap.objs.size (.lst (us ++ [v8]))) := by
              rw [← mset]
              exact oF bA
            refine again I9 ?_ ((S8.rho.le le6).ext S8.mu ex) (Ec.trans (e5.trans (e6.trans (e7.trans (e8.trans ex)))))
            rw [← mset]
            refine S8.mu.set bA ?_
            rw [et]
            exact rus.append (.cons ry .nil)
      · have ei : i = xs.length := by omega
        subst ei
        refine thn (T.done (bH X N' scope cl fp s3 H3) rfl rfl rfl (fun z => z) _ [] s' σc Hc (fun _ _ => False) Ic (stat frc) tc (stop rfl)) fun r s4 ⟨hr, I5⟩ => ?_
        subst hr
        rw [List.take_length] at Sc Ec
        obtain ⟨m, hn, _⟩ := I5.loc
        refine ⟨m, (by have z : s4.heap.Ns s3.heap.objs.size m := hn; rw [heap3] at z; exact z), fun h' hs' => ?_⟩
        have kp : ∀ b o, b < s2.heap.objs.size → s4.heap.get? b = some o → h'.get? b = some o := fun b o hb e => hs'.extBut b o (by rw [hsz3]; exact Nat.ne_of_lt (Nat.lt_succ_of_lt hb)) e
        have hcC : Hc hp3.objs.size = none := by have z : Hc s3.heap.objs.size = none := I5.free; rw [heap3] at z; exact z
        have hok' : HOk X.prog X.w Hc h' := fun b ob e => by
          refine (I5.hok b ob e).zg (fun cc v hcc q => hs'.extBut cc v ?_ q) (fun _ q => q) fun _ _ q => q
          rintro rfl
          rcases hcc with z | z
          · rw [← z, hcC] at e; cases e
          · rw [hcC] at z; cases z
        have u1 : Un (frs X.stack) fp H2 H3 s2.heap s3.heap := by rw [heap3, hH3]; exact Un.laid old3 (Nat.le_refl _) hfree2
        have u2 : Un (frs X.stack) fp H3 Hc s3.heap s4.heap := I5.base
        have If : Inv X pins σ Hc { s4 with heap := h' } := I2.Dn (ch := fp) (by show s4.os = s2.os; have z : s4.os = s3.os := I5.os; rw [z, hs3]) (Un.after (u1.trans u2) kp) hok' I5.bare fun b hb => ⟨(f2 b hb).2.2.2.1, (f2 b hb).2.1, (f2 b hb).2.2.2.2.1, (f2 b hb).2.2.2.2.2⟩
        obtain ⟨us, hacc, rus⟩ := Sc.mu s2.heap.objs.size _ bA
        have shr : ∀ a, aM μ1 s2.heap.objs.size (xs.filterMap f) a = none → μ1 a = none := fun a e => by
          by_cases ha : a = s2.heap.objs.size
          · rw [ha]; exact hμ1
          · rw [bU ha] at e; exact e
        have eF : Ext X.K μ1 H2 μ1 Hc := ⟨Ec.keep, Ec.tb, fun _ ds q => ⟨ds, q⟩, fun _ q _ => q⟩
        have mF : dF X.K μ1 Hc := ⟨fun a ds q => by
          obtain ⟨ys, z1, z2⟩ := Sc.mu a ds (sub1 _ a ds q)
          exact ⟨ys, z1, z2.shrink shr⟩, Sc.mu.tab⟩
        exact ⟨.ref s2.heap.objs.size, Hc, If, rfl, k (.v (.list (xs.filterMap f))) _ μ1 Hc (e1.trans eF) ⟨mF, S1.rho.ext S1.mu eF⟩ (Rp.list hacc hμ1 (rus.shrink shr)) fin⟩
    · have z : b ≠ s2.heap.objs.size := Nat.ne_of_lt (fplt b hb)
      rw [hH3, cD z]
      exact (f2 b hb).1
    · have ex := ki (o := .lst []) (ds := []) S1.mu hfree2 hK2
      rw [hH3]
      exact ⟨S1.mu.mut .nil hfree2 hK2, (S1.rho.ext S1.mu ex).cap⟩
    · rw [hH3]
      exact ki (o := .lst []) (ds := []) S1.mu hfree2 hK2
  have envE : (bH X N' scope cl fp s3 H3).env = compEnvC scope cl hp3.objs.size X.env := by show compEnvC scope cl s3.heap.objs.size X.env = _; rw [heap3]
  rw [envE] at loop
  exact codeAny_compStart_list loop (T.self X.A 0 _ _ _ (T.keep 0 _ _ st2 (fun b hb o e => kept3 b o (old3 b o e))) loop)
open PySem PySem.Spec PyProof.Rows
section
variable {X : Cx} {a b c : Expr} {ta tb tc : DTE} {pos : Pos}
def Jy (r r' : D → D → Mu → DK → Prop) (ta tb tc : DTE) : DTE := fun ρ μ Q => ta ρ μ fun x μ1 => tb ρ μ1 fun y μ2 => r x y μ2 fun z μ3 => match z with
  | .v (.bool k) => if k = true then tc ρ μ3 fun w μ4 => r' y w μ4 Q else Q (.v (.bool false)) μ3
  | _ => False
end
open PySem PySem.Spec PyProof.Rows
theorem Am {α : Type} {x : α} {xs : List α} : atI (x :: xs) 0 = some x := by unfold atI ixN; simp
theorem AR {α : Type} {x y : α} {xs : List α} : atI (x :: y :: xs) 1 = some y := by
  have h := uF (xs := x :: y :: xs) (j := 1) (v := y) rfl
  exact h
theorem Dq {α : Type} {x y z : α} {xs : List α} : atI (x :: y :: z :: xs) 2 = some z := by
  have h := uF (xs := x :: y :: z :: xs) (j := 2) (v := z) rfl
  exact h
theorem FT {α : Type} {x y z u : α} {xs : List α} : atI (x :: y :: z :: u :: xs) 3 = some u := by
  have h := uF (xs := x :: y :: z :: u :: xs) (j := 3) (v := u) rfl
  exact h
def CF : D → D → Mu → DK → Prop := fun x y μ Q => match x, y with
  | .v (.int i), .v (.int j) => Q (.v (.int (i + j))) μ
  | .v (.tuple xs), .v (.tuple ys) => xs.length + ys.length ≤ 1000 ∧ Q (.v (.tuple (xs ++ ys))) μ
  | _, _ => GW x y μ Q
theorem OpR.or {X : Cx} {f} {r1 r2 : R2} (h1 : OpR X f r1) (h2 : OpR X f r2) : OpR X f (fun x y H Q => r1 x y H Q ∨ r2 x y H Q) := by
  intro pins s σ H x y v u Q I rx ry h
  rcases h with h | h
  · exact h1 pins s σ H x y v u Q I rx ry h
  · exact h2 pins s σ H x y v u Q I rx ry h
section
variable {ρ : Rho} {μ : Mu} {Q : DK} {QT : Bool → Mu → Prop} {QA : List D → Mu → Prop} {QG : Rho → Mu → Prop} {QI : List PyData → Mu → Prop} {QO : Option Int → Mu → Prop} {Dd : DB} {ta tb tc : DTE} {t u : DTT} {tA : DTA} {s1 s2 : DTS} {i j : Int} {x y : PyData} {xs ys : List PyData} {d e : D}
def vD : DTS := fun _ _ _ => False
theorem vP {X : Cx} {st : Stmt} : DS X st vD := ⟨fun _ _ _ => False, fun _ _ _ _ _ _ h => h.elim, fun _ _ _ _ _ _ _ h => h.elim⟩
theorem EM {o : Rho} : af 0 (some d :: o) μ Q = Q d μ := propext Iff.rfl
theorem GS {a} {o : Rho} : af 1 (a :: some d :: o) μ Q = Q d μ := propext Iff.rfl
theorem Bt {a b} {o : Rho} : af 2 (a :: b :: some d :: o) μ Q = Q d μ := propext Iff.rfl
theorem Cn {a b c} {o : Rho} : af 3 (a :: b :: c :: some d :: o) μ Q = Q d μ := propext Iff.rfl
theorem Gq {a b c f} {o : Rho} : af 4 (a :: b :: c :: f :: some d :: o) μ Q = Q d μ := propext Iff.rfl
theorem Fj {a b c f g} {o : Rho} : af 5 (a :: b :: c :: f :: g :: some d :: o) μ Q = Q d μ := propext Iff.rfl
theorem FH {a b c f g h} {o : Rho} : af 6 (a :: b :: c :: f :: g :: h :: some d :: o) μ Q = Q d μ := propext Iff.rfl
theorem Ck {a b c f g h k} {o : Rho} : af 7 (a :: b :: c :: f :: g :: h :: k :: some d :: o) μ Q = Q d μ := propext Iff.rfl
theorem B3 {a b c f g h k l} {o : Rho} : af 8 (a :: b :: c :: f :: g :: h :: k :: l :: some d :: o) μ Q = Q d μ := propext Iff.rfl
theorem Fq {a b c f g h k l m} {o : Rho} : af 9 (a :: b :: c :: f :: g :: h :: k :: l :: m :: some d :: o) μ Q = Q d μ := propext Iff.rfl
theorem CP {a b c f g h k l m n} {o : Rho} : af 10 (a :: b :: c :: f :: g :: h :: k :: l :: m :: n :: some d :: o) μ Q = Q d μ := propext Iff.rfl
theorem q_c : dC x ρ μ Q = Q (.v x) μ := propext Iff.rfl
theorem KH {r} : dOp r ta tb ρ μ Q = ta ρ μ fun x μ1 => tb ρ μ1 fun y μ2 => r x y μ2 Q := propext Iff.rfl
theorem q_B : dB ta ρ μ QT = ta ρ μ fun d μ1 => match d with | .v (.bool k) => QT k μ1 | _ => False := propext Iff.rfl
theorem Mn {C : Int → Int → Prop} {g : Int → Int → PyData} : rII C g (.v (.int i)) (.v (.int j)) μ Q = (C i j ∧ Q (.v (g i j)) μ) := propext Iff.rfl
theorem IQ {g : Int → Int → PyData} : wK g (.v (.int i)) (.v (.int j)) μ Q = Q (.v (g i j)) μ := propext Iff.rfl
theorem IW : wH ta ρ μ Q = ta ρ μ fun x μ1 => match x with | .v (.int i) => Q (.v (.int (-i))) μ1 | _ => False := propext Iff.rfl
theorem Cf : xy t u ρ μ QT = t ρ μ fun c μ1 => if c = true then u ρ μ1 QT else QT false μ1 := propext Iff.rfl
theorem Jq : jh t u ρ μ QT = t ρ μ fun c μ1 => if c = true then QT true μ1 else u ρ μ1 QT := propext Iff.rfl
theorem EK : en t ρ μ QT = t ρ μ fun c μ1 => QT (!c) μ1 := propext Iff.rfl
theorem EO : qs ta tb ρ μ Q = ta ρ μ fun x μ1 => match x with | .v (.bool c) => if c = true then tb ρ μ1 Q else Q (.v (.bool false)) μ1 | _ => False := propext Iff.rfl
theorem Jo : HP ta tb ρ μ Q = ta ρ μ fun x μ1 => match x with | .v (.bool c) => if c = true then Q (.v (.bool true)) μ1 else tb ρ μ1 Q | _ => False := propext Iff.rfl
theorem Ga : ve ta ρ μ Q = ta ρ μ fun x μ1 => match x with | .v (.bool c) => Q (.v (.bool (!c))) μ1 | _ => False := propext Iff.rfl
theorem Lw : dIf t ta tb ρ μ Q = t ρ μ fun c μ1 => if c = true then ta ρ μ1 Q else tb ρ μ1 Q := propext Iff.rfl
theorem A1 : aq ρ μ QA = QA [] μ := propext Iff.rfl
theorem vi : ab ta tA ρ μ QA = ta ρ μ fun x μ1 => tA ρ μ1 fun xs μ2 => QA (x :: xs) μ2 := propext Iff.rfl
theorem C5 : dm tA ρ μ Q = tA ρ μ fun ds μ1 => match dr ds with | some xs => Q (.v (.tuple xs)) μ1 | none => False := propext Iff.rfl
theorem IS : mP tA ρ μ Q = tA ρ μ fun ds μ1 => match dr ds with | some xs => Q (.v (.list xs)) μ1 | none => False := propext Iff.rfl
theorem FL : xM tA ρ μ Q = tA ρ μ fun ds μ1 => match dr ds with | some xs => ∀ p, μ1 p = none → Q (.m p) (aM μ1 p xs) | none => False := propext Iff.rfl
theorem Dk : dr [] = some [] := by rw [dr]
theorem Dj {r : List D} : dr (.v x :: r) = (dr r).map (x :: ·) := by rw [dr]
theorem x5 {neg : Bool} : di neg (.v x) (.v y) μ Q = (SeqAt.shaped x = true ∧ SeqAt.shaped y = true ∧ Q (.v (.bool (neg ^^ PyData.eqv x y))) μ) := propext Iff.rfl
theorem Jw {neg : Bool} : di neg (.v (.int i)) (.v (.int j)) μ Q = Q (.v (.bool (neg ^^ decide (i = j)))) μ := by
  have e : PyData.eqv (.int i) (.int j) = decide (i = j) := by simp [PyData.eqv]; rfl
  rw [x5, e]
  exact propext ⟨fun h => h.2.2, fun h => ⟨rfl, rfl, h⟩⟩
theorem Jd {neg : Bool} : di neg (.v (.tuple xs)) (.v (.tuple ys)) μ Q = (SeqAt.shaped (.tuple xs) = true ∧ SeqAt.shaped (.tuple ys) = true ∧ Q (.v (.bool (neg ^^ PyData.eqv (.tuple xs) (.tuple ys)))) μ) := propext Iff.rfl
theorem IT {neg : Bool} : di neg (.v (.list xs)) (.v (.list ys)) μ Q = (SeqAt.shaped (.list xs) = true ∧ SeqAt.shaped (.list ys) = true ∧ Q (.v (.bool (neg ^^ PyData.eqv (.list xs) (.list ys)))) μ) := propext Iff.rfl
theorem IV {neg a b : Bool} : di neg (.v (.bool a)) (.v (.bool b)) μ Q = Q (.v (.bool (neg ^^ (a == b)))) μ := by
  have e : PyData.eqv (.bool a) (.bool b) = (a == b) := by cases a <;> cases b <;> simp [PyData.eqv] <;> rfl
  rw [x5, e]
  exact propext ⟨fun h => h.2.2, fun h => ⟨rfl, rfl, h⟩⟩
theorem I0 {neg : Bool} : HW neg (.v x) (.v (.list ys)) μ Q = (PyData.canLayAll0 ys = true ∧ x.canLay0 = true ∧ PyData.depth x ≤ 60 ∧ Q (.v (.bool (neg ^^ ys.any fun b => PyData.eqv b x))) μ) := propext Iff.rfl
theorem AO : aH (.v (.list xs)) (.v (.int i)) μ Q = (match atI xs i with | some d => Q (.v d) μ | none => False) := propext Iff.rfl
theorem x9 : aH (.v (.tuple xs)) (.v (.int i)) μ Q = (match atI xs i with | some d => Q (.v d) μ | none => False) := propext Iff.rfl
theorem IF {l : Addr} : aH (.m l) (.v (.int i)) μ Q = (match μ l with | some xs => (match atI xs i with | some d => Q (.v d) μ | none => False) | none => False) := propext Iff.rfl
theorem Jr {ns : List Int} : aH (.s ns) (.v (.int i)) μ Q = (match atI ns i with | some d => Q (.v (.int d)) μ | none => False) := propext Iff.rfl
theorem FG : aH (.v (.list (x :: xs))) (.v (.int 0)) μ Q = Q (.v x) μ := by rw [AO, Am]
theorem Cu : aH (.v (.tuple (x :: xs))) (.v (.int 0)) μ Q = Q (.v x) μ := by rw [x9, Am]
theorem EC {z} : aH (.v (.list (z :: x :: xs))) (.v (.int 1)) μ Q = Q (.v x) μ := by rw [AO, AR]
theorem Cv {z} : aH (.v (.tuple (z :: x :: xs))) (.v (.int 1)) μ Q = Q (.v x) μ := by rw [x9, AR]
theorem Fx {z w} : aH (.v (.list (z :: w :: x :: xs))) (.v (.int 2)) μ Q = Q (.v x) μ := by rw [AO, Dq]
theorem Bu {z w} : aH (.v (.tuple (z :: w :: x :: xs))) (.v (.int 2)) μ Q = Q (.v x) μ := by rw [x9, Dq]
theorem Ff {z w v} : aH (.v (.tuple (z :: w :: v :: x :: xs))) (.v (.int 3)) μ Q = Q (.v x) μ := by rw [x9, FT]
theorem Ji : GW d e μ Q = (match xK μ d, xK μ e with | some xs, some ys => xs.length + ys.length ≤ 1000 ∧ Q (.v (.list (xs ++ ys))) μ | _, _ => False) := propext Iff.rfl
theorem G2 : KP (.v (.tuple xs)) (.v (.tuple ys)) μ Q = (xs.length + ys.length ≤ 1000 ∧ Q (.v (.tuple (xs ++ ys))) μ) := propext Iff.rfl
theorem GZ : CF (.v (.int i)) (.v (.int j)) μ Q = Q (.v (.int (i + j))) μ := propext Iff.rfl
theorem ER : CF (.v (.tuple xs)) (.v (.tuple ys)) μ Q = (xs.length + ys.length ≤ 1000 ∧ Q (.v (.tuple (xs ++ ys))) μ) := propext Iff.rfl
theorem FK : CF (.v (.list xs)) (.v (.list ys)) μ Q = (xs.length + ys.length ≤ 1000 ∧ Q (.v (.list (xs ++ ys))) μ) := propext Iff.rfl
theorem GJ {a : Addr} : CF (.m a) e μ Q = GW (.m a) e μ Q := propext Iff.rfl
theorem L4 {tl th : DTO} : dSl ta tl th ρ μ Q = ta ρ μ fun x μ1 => tl ρ μ1 fun l μ2 => th ρ μ2 fun u μ3 => D3 x l u μ3 Q := propext Iff.rfl
theorem zV : uo ρ μ QO = QO none μ := propext Iff.rfl
theorem GI : CH ta ρ μ QO = ta ρ μ fun x μ1 => match x with | .v (.int i) => QO (some i) μ1 | _ => False := propext Iff.rfl
theorem Jp {lo hi : Option Int} : D3 (.v (.tuple xs)) lo hi μ Q = Q (.v (.tuple (vd xs lo hi))) μ := propext Iff.rfl
theorem IY {lo hi : Option Int} : D3 (.v (.list xs)) lo hi μ Q = Q (.v (.list (vd xs lo hi))) μ := propext Iff.rfl
theorem II : MU ta ρ μ Q = ta ρ μ fun x μ1 => match x with | .v (.tuple xs) => Q (.v (.tuple xs.reverse)) μ1 | .v (.list xs) => Q (.v (.list xs.reverse)) μ1 | .m l => (match μ1 l with | some xs => Q (.v (.list xs.reverse)) μ1 | none => False) | _ => False := propext Iff.rfl
theorem LA {rd} : dCB rd tA ρ μ Q = tA ρ μ fun ds μ1 => rd ds μ1 Q := propext Iff.rfl
theorem Gd : gS [.v (.list ys)] μ Q = Q (.v (.int (ys.length : Nat))) μ := propext Iff.rfl
theorem EU : gS [.v (.tuple ys)] μ Q = Q (.v (.int (ys.length : Nat))) μ := propext Iff.rfl
theorem GD {ns : List Int} : gS [.s ns] μ Q = Q (.v (.int (ns.length : Nat))) μ := propext Iff.rfl
theorem EN {l : Addr} : gS [.m l] μ Q = (match μ l with | some ys => Q (.v (.int (ys.length : Nat))) μ | none => False) := propext Iff.rfl
theorem Jn : qw [.v (.int i)] μ Q = Q (.v (.int (i.natAbs : Nat))) μ := propext Iff.rfl
theorem Mh {g : Int → Int → Int} : BW g [.v (.int i), .v (.int j)] μ Q = Q (.v (.int (g i j))) μ := propext Iff.rfl
theorem E5 {k : Bool} : pF [.v (.bool k)] μ Q = Q (.v (.int (if k then 1 else 0))) μ := propext Iff.rfl
theorem E8 : pF [.v (.int i)] μ Q = Q (.v (.int i)) μ := propext Iff.rfl
theorem C3 : GQ [.v (.list ys)] μ Q = Q (.v (.list ys)) μ := propext Iff.rfl
theorem CL : GQ [.v (.tuple ys)] μ Q = Q (.v (.list ys)) μ := propext Iff.rfl
theorem IH : pL [.v (.list ys)] μ Q = (match cS ys with | some bs => Q (.v (.bool (bs.all id))) μ | none => False) := propext Iff.rfl
theorem Ja {T : String} : vK T ta ρ μ Q = ta ρ μ fun x μ1 => match x with | .v d => Q (.v (.bool (isT T d))) μ1 | _ => False := propext Iff.rfl
theorem Jl {a b : Bool} : Lr (.v (.bool a)) (.v (.bool b)) μ Q = Q (.v (.bool (a == b))) μ := propext Iff.rfl
theorem Jh : Lr (.v .none) (.v .none) μ Q = Q (.v (.bool true)) μ := propext Iff.rfl
theorem ur {n : Nat} : az n d ρ μ QG = QG (ρ.set n (some d)) μ := propext Iff.rfl
theorem CC : x6 [] ρ μ QG = QG ρ μ := propext Iff.rfl
theorem yx {g : DTG} {gs : tU} : gf g gs (x :: xs) ρ μ QG = g (.v x) ρ μ fun ρ1 μ1 => gs xs ρ1 μ1 QG := propext Iff.rfl
theorem G1 {n : Nat} {gs : tU} : x8 n gs (.v (.tuple xs)) ρ μ QG = (xs.length = n ∧ gs xs ρ μ QG) := propext Iff.rfl
theorem FP : Dv ta tb d ρ μ QG = ta ρ μ fun o μ1 => tb ρ μ1 fun i μ2 => match o, i, d with
  | .m l, .v (.int k), .v x => (match μ2 l with
    | some xs => (match ixN xs.length k with
      | some j => QG ρ (aM μ2 l (xs.set j x))
      | none => False)
    | none => False)
  | _, _, _ => False := propext Iff.rfl
theorem EF {g : DTG} : bK ta g Dd ρ μ = ta ρ μ fun d μ1 => g d ρ μ1 Dd.nx := propext Iff.rfl
theorem Js {i j : Nat} : xh i j tA Dd ρ μ = tA ρ μ fun ds μ1 => match ds with | [v, w] => Dd.nx ((ρ.set i (some v)).set j (some w)) μ1 | _ => False := propext Iff.rfl
theorem GP : cf Dd ρ μ = Dd.nx ρ μ := propext Iff.rfl
theorem CZ : aV s1 s2 Dd ρ μ = s1 { Dd with nx := s2 Dd } ρ μ := propext Iff.rfl
theorem IG : bQ ta Dd ρ μ = ta ρ μ Dd.rt := propext Iff.rfl
theorem Fu : tH ta Dd ρ μ = ta ρ μ fun _ μ1 => Dd.nx ρ μ1 := propext Iff.rfl
theorem Fv : dA t s1 s2 Dd ρ μ = t ρ μ fun b μ1 => if b = true then s1 Dd ρ μ1 else s2 Dd ρ μ1 := propext Iff.rfl
theorem DC : vD Dd ρ μ = False := propext Iff.rfl
theorem Cm {dsp : DSp} : ar dsp tA ρ μ Q = tA ρ μ fun ds μ1 => dsp ds μ1 Q := propext Iff.rfl
theorem Jm : Cs ta tb ρ μ Q = ta ρ μ fun x μ1 => match x with
  | .m l => tb ρ μ1 fun y μ2 => (match y, μ2 l with
    | .v d, some xs => xs.length < 1000 ∧ Q (.v .none) (aM μ2 l (xs ++ [d]))
    | _, _ => False)
  | _ => False := propext Iff.rfl
theorem IJ : Mz ta tb ρ μ Q = ta ρ μ fun x μ1 => match x with
  | .m l => tb ρ μ1 fun y μ2 => (match y, μ2 l with
    | .v (.list ys), some xs => xs.length + ys.length ≤ 1000 ∧ Q (.v .none) (aM μ2 l (xs ++ ys))
    | _, _ => False)
  | _ => False := propext Iff.rfl
theorem Fo : Lx ta ρ μ Q = ta ρ μ fun x μ1 => match x with | .v (.int i) => Q (.v (.int (Builtin.Int.intBits i : Nat))) μ1 | _ => False := propext Iff.rfl
theorem CN {r r'} : Jy r r' ta tb tc ρ μ Q = ta ρ μ fun x μ1 => tb ρ μ1 fun y μ2 => r x y μ2 fun z μ3 => match z with
  | .v (.bool k) => if k = true then tc ρ μ3 fun w μ4 => r' y w μ4 Q else Q (.v (.bool false)) μ3
  | _ => False := propext Iff.rfl
theorem E3 : mM ρ μ QT = QT true μ := propext Iff.rfl
theorem AE : uZ ta ρ μ QI = ta ρ μ fun d μ1 => match d with | .v (.list xs) => QI xs μ1 | _ => False := propext Iff.rfl
theorem Dp : nO ta ρ μ QI = ta ρ μ fun d μ1 => match d with | .v (.tuple xs) => QI xs μ1 | _ => False := propext Iff.rfl
theorem Al : nS tA ρ μ QI = tA ρ μ fun ds μ1 => match ds with | [.v (.int j)] => (-(2 ^ 62) ≤ j ∧ j < 2 ^ 62) ∧ QI (nU 0 j.toNat) μ1 | _ => False := propext Iff.rfl
theorem Ao : BV tA ρ μ QI = tA ρ μ fun ds μ1 => match ds with | [.v (.int i), .v (.int j)] => (-(2 ^ 62) ≤ i ∧ i < 2 ^ 62 ∧ -(2 ^ 62) ≤ j ∧ j < 2 ^ 62) ∧ QI (nU i (j - i).toNat) μ1 | _ => False := propext Iff.rfl
theorem qA {src : DTI} {g : DTG} : vz src g s1 Dd ρ μ = src ρ μ fun xs μ1 => ∃ Pv : Nat → Rho → Mu → Prop, Pv 0 ρ μ1 ∧
  (∀ i x ρ' μ', xs[i]? = some x → Pv i ρ' μ' → g (.v x) ρ' μ' fun ρ2 μ2 => s1 { Dd with nx := Pv (i + 1), ct := Pv (i + 1), bk := Dd.nx } ρ2 μ2) ∧ (∀ ρ' μ', Pv xs.length ρ' μ' → Dd.nx ρ' μ') := propext Iff.rfl
theorem Gv {cap : List (Option Nat)} {src : DTI} {g : DTG} : nX cap src g t ta ρ μ Q = src ρ μ fun xs μ1 => xs.length ≤ 1000 ∧ ∃ f : PyData → Option PyData,
  (∀ x ∈ xs, ∀ μ' : Mu, (∀ a ds, μ1 a = some ds → μ' a = some ds) → g (.v x) (cM cap ρ) μ' fun ρ2 μ2 => Le (cM cap ρ) ρ2 ∧ t ρ2 μ2 fun b μ3 =>
    if b = true then ta ρ2 μ3 fun d μ4 => μ4 = μ' ∧ (match d with | .v y => f x = some y | _ => False) else μ3 = μ' ∧ f x = none) ∧ Q (.v (.list (xs.filterMap f))) μ1 := propext Iff.rfl
theorem EG {α : Type} {r : List (Option α)} : cM [] r = [] := rfl
theorem EJ {α : Type} {o : Option Nat} {c : List (Option Nat)} {r : List (Option α)} : cM (o :: c) r = (o.bind fun j => (r[j]?).join) :: cM c r := rfl
theorem Jg : Le [] [] = True := propext ⟨fun _ => trivial, fun h => h⟩
theorem IP {r r' : Rho} {o : Option D} : Le (none :: r) (o :: r') = Le r r' := propext Iff.rfl
theorem IU {r r' : Rho} {d d' : D} : Le (some d :: r) (some d' :: r') = (d = d' ∧ Le r r') := propext Iff.rfl
theorem sZ {α : Type} (p : α → Bool) : ∀ xs : List α, cS (xs.map fun x => PyData.bool (p x)) = some (xs.map p)
  | [] => rfl
  | x :: r => by rw [List.map_cons, cS, sZ p r]; rfl
theorem DN {α β : Type} (p : α → β) : ∀ xs : List α, xs.filterMap (fun x => some (p x)) = xs.map p
  | [] => rfl
  | x :: r => by rw [List.filterMap_cons, DN p r]; rfl
end
theorem EI {α β : Type} [BEq α] [LawfulBEq α] {x : α} {k : β} : ∀ {l : List (α × β)}, l.lookup x = some k → (x, k) ∈ l
  | [], h => by cases h
  | (y, j) :: r, h => by
    rw [List.lookup_cons] at h
    cases e : x == y with
    | true =>
      rw [e] at h
      simp only [Option.some.injEq] at h
      have : x = y := eq_of_beq e
      subst this h
      exact List.mem_cons_self
    | false =>
      rw [e] at h
      exact List.mem_cons_of_mem _ (EI h)
def cfK : NameKind → Bool
  | .cell => true
  | .free => true
  | _ => false
theorem jH {names : List (Str × NameKind)} {cl : List (Str × Addr)} (h : (names.all fun y => !(cfK y.2) || (cl.lookup y.1).isSome) = true) (x : Str) (hx : names.lookup x = some .cell ∨ names.lookup x = some .free) : ∃ a, cl.lookup x = some a := by
  rw [List.all_eq_true] at h
  have key : ∀ k, cfK k = true → names.lookup x = some k → ∃ a, cl.lookup x = some a := fun k hk e => by
    have q := h _ (EI e)
    simp only [hk, Bool.not_true, Bool.false_or] at q
    exact Option.isSome_iff_exists.mp q
  rcases hx with e | e
  · exact key _ rfl e
  · exact key _ rfl e
def Ge (X : Cx) (sc : Scope) : List (Option Nat) → List Str → Prop
  | none :: c, _ :: n => Ge X sc c n
  | some j :: c, x :: n => (X.N[j]? = some x ∧ Vis X.env.scope x ∧ X.env.kindOf x ≠ some .local ∧ ((relabel sc X.env).names.lookup x = some .cell ∨ (relabel sc X.env).names.lookup x = some .free)) ∧ Ge X sc c n
  | _, _ => True
theorem ix {X : Cx} {sc : Scope} : ∀ {c : List (Option Nat)} {n : List Str}, Ge X sc c n → ∀ (i j : Nat) (x : Str), c[i]? = some (some j) → n[i]? = some x →
    X.N[j]? = some x ∧ Vis X.env.scope x ∧ X.env.kindOf x ≠ some .local ∧ ((relabel sc X.env).names.lookup x = some .cell ∨ (relabel sc X.env).names.lookup x = some .free)
  | [], _, _, i, j, x, h, _ => by simp at h
  | _ :: _, [], _, i, j, x, _, h => by simp at h
  | none :: c, y :: n, k, 0, j, x, h, _ => by simp at h
  | none :: c, y :: n, k, i + 1, j, x, h, g => ix (c := c) (n := n) k i j x (by simpa using h) (by simpa using g)
  | some l :: c, y :: n, k, 0, j, x, h, g => by
    simp only [List.getElem?_cons_zero, Option.some.injEq] at h g
    subst h g
    exact k.1
  | some l :: c, y :: n, k, i + 1, j, x, h, g => ix (c := c) (n := n) k.2 i j x (by simpa using h) (by simpa using g)
theorem zL {X : Cx} {sc : Scope} {j : Nat} {x : Str} (h1 : X.N[j]? = some x := by rfl) (h2 : Vis X.env.scope x := by first | exact Or.inl rfl | exact Or.inr (Or.inl rfl) | exact Or.inr (Or.inr rfl)) (h3 : X.env.kindOf x ≠ some .local := by first | (intro z; cases z) | exact (fun z => nomatch z))
    (h4 : (relabel sc X.env).names.lookup x = some .cell ∨ (relabel sc X.env).names.lookup x = some .free := by first | exact Or.inl rfl | exact Or.inr rfl) : X.N[j]? = some x ∧ Vis X.env.scope x ∧ X.env.kindOf x ≠ some .local ∧ ((relabel sc X.env).names.lookup x = some .cell ∨ (relabel sc X.env).names.lookup x = some .free) := ⟨h1, h2, h3, h4⟩
open PySem PySem.Spec PyProof.Rows
def gF (μ : Mu) (p : Addr) : Mu := fun b => if b = p then none else μ b
theorem ES {μ : Mu} {p b : Addr} (h : b ≠ p) : gF μ p b = μ b := by unfold gF; rw [if_neg h]
def ni (cap : List (Option Nat)) (src : DTI) (g : DTG) (c : DTT) (elt : DTE) : DTE := fun ρ μ Q => src ρ μ fun xs μ1 => xs.length ≤ 1000 ∧ ∀ p, μ1 p = none → ∃ Pv : Nat → List PyData → Mu → Prop, Pv 0 [] (aM μ1 p []) ∧
  (∀ i x acc μ', xs[i]? = some x → μ' p = some acc → Pv i acc μ' → g (.v x) (cM cap ρ) μ' fun ρ2 μ2 => Le (cM cap ρ) ρ2 ∧ c ρ2 μ2 fun b μ3 =>
    if b = true then elt ρ2 μ3 fun d μ4 => μ4 p = some acc ∧ (match d with | .v y => Pv (i + 1) (acc ++ [y]) (aM μ4 p (acc ++ [y])) | _ => False) else μ3 p = some acc ∧ Pv (i + 1) acc μ3) ∧
  (∀ acc μ', Pv xs.length acc μ' → μ' p = some acc → Q (.v (.list acc)) (gF μ' p))
theorem xT {X : Cx} {pos2 : Pos} {use : Option (Value → Sem Unit)} {QQ : Value → Shared → Prop} {pins : List (Addr × Obj)} {s : Shared} {σ : St} {H : Hp} {ρ : Rho} {μ : Mu} {Qd : DK} {N' : List Str} {scope : Scope} {cl : List (Str × Addr)} {elt iter tg : Expr} {ifs : List Expr} {pos : Pos} {cap : List (Option Nat)} {src : DTI} {g : DTG} {c : DTT} {te : DTE} (hc : X.calm = X.calm)
    (hi : DI X tg iter src) (hg : ∀ fp s₃ H₃, DG (bH X N' scope cl fp s₃ H₃) tg g) (hif : ∀ fp s₃ H₃, BR (bH X N' scope cl fp s₃ H₃) ifs c) (he : ∀ fp s₃ H₃, DE (bH X N' scope cl fp s₃ H₃) elt te)
    (hclos : closureFor scope X.env = pure cl) (hcell : ∀ y ∈ scope.names, y.2 ≠ .cell) (hkind : scope.kind = .function) (hnames : ∀ y ∈ scope.names, y.2 = .local → scope.names.lookup y.1 = some .local)
    (hcl : ∀ x a, cl.lookup x = some a → X.env.cells.lookup x = some a) (hhas : ∀ x, (relabel scope X.env).names.lookup x = some .cell ∨ (relabel scope X.env).names.lookup x = some .free → ∃ a, cl.lookup x = some a)
    (hlen : cap.length = N'.length) (hcap : ∀ (i j : Nat) (x : Str), cap[i]? = some (some j) → N'[i]? = some x → X.N[j]? = some x ∧ Vis X.env.scope x ∧ X.env.kindOf x ≠ some .local ∧ ((relabel scope X.env).names.lookup x = some .cell ∨ (relabel scope X.env).names.lookup x = some .free))
    (hs : ∀ x, foldedSetIterable iter X.env x = pure x )
    (I : Inv X pins σ H s) (S : St0 X.K H ρ μ σ) (h : ni cap src g c te ρ μ Qd)
    (hend : ∀ (s4 : Shared) (Hc : Hp) (C pa : Addr) (m : Str → Option Value) (acc : List PyData) (μF : Mu), s4.heap.Ns C m → wQ X pins Hc C → (∀ h', Heap.SameBut C s4.heap h' → Inv X pins σ Hc { s4 with heap := h' }) →
      Ext X.K μ H μF Hc → St0 X.K Hc ρ μF σ → Rp X.K μF Hc (.list acc) (.ref pa) → Qd (.v (.list acc)) μF → compPost (model X.prog X.w) X.A X.xe use QQ (.ref pa) C (.ok .next) s4) :
    wpAny (model X.prog X.w) X.A (comprehension (.ListComp elt [⟨tg, iter, ifs, 0⟩] scope pos) scope X.env pos2 (newList []) false (eval iter X.env) use) QQ X.xe s := by
  obtain ⟨wi, pw, li⟩ := hi
  refine wpAny_comprehension_free rfl hs hclos hkind hnames (thn (pw pins s σ H _ I (li σ H ρ μ _ (fun J H1 => ∃ xs μ1, Ext X.K μ H μ1 H1 ∧ St0 X.K H1 ρ μ1 σ ∧ G9 X.K J xs μ1 H1 ∧ xs.length ≤ 1000 ∧ ∀ p, μ1 p = none → ∃ Pv : Nat → List PyData → Mu → Prop, Pv 0 [] (aM μ1 p []) ∧
      (∀ i x acc μ', xs[i]? = some x → μ' p = some acc → Pv i acc μ' → g (.v x) (cM cap ρ) μ' fun ρ2 μ2 => Le (cM cap ρ) ρ2 ∧ c ρ2 μ2 fun b μ3 =>
        if b = true then te ρ2 μ3 fun d μ4 => μ4 p = some acc ∧ (match d with | .v y => Pv (i + 1) (acc ++ [y]) (aM μ4 p (acc ++ [y])) | _ => False) else μ3 p = some acc ∧ Pv (i + 1) acc μ3) ∧
      (∀ acc μ', Pv xs.length acc μ' → μ' p = some acc → Qd (.v (.list acc)) (gF μ' p))) S h (fun xs μ1 H1 J e1 S1 it q => ⟨xs, μ1, e1, S1, it, q⟩)))
    fun v s1 h1 => thn h1 fun itv s2 h2 => ?_)
  obtain ⟨it, fp, tn, J, H2, rfl, I2, T, st2, f2, xs, μ1, e1, S1, itok, hxs, allp⟩ := h2
  refine wpAny_newObj_type (wpAny_newFunctionEnv hcell (by intro y hy; simp at hy) (fun h₁ hns₁ hsb₁ => ?_) hkind)
  dsimp only at hns₁ hsb₁ ⊢
  have hfree2 : H2 s2.heap.objs.size = none := I2.hok.fresh (Nat.le_refl _)
  have hK2 : X.K.lookup s2.heap.objs.size = none := by
    cases z : X.K.lookup s2.heap.objs.size with
    | none => rfl
    | some o => exact absurd (Heap.lt_size (I2.kIn _ _ z)) (Nat.lt_irrefl _)
  have I3 : Inv X pins σ (upd H2 s2.heap.objs.size (.lst [])) { s2 with heap := s2.heap.push { cls := .type "list", dict := none, data := .seq ([] : List Value).toArray } } :=
    I2.laid (t' := s2.toks) (fun b u e => Heap.get?_push_of_some _ e) (Nat.le_refl _) ⟨Nat.zero_le _, [], 0, .nil, Heap.get?_push_size _ rfl⟩
  generalize hH : s2.heap.push { cls := .type "list", dict := none, data := .seq ([] : List Value).toArray } = hp3 at hns₁ hsb₁ I3 ⊢
  have hsz3 : hp3.objs.size = s2.heap.objs.size + 1 := by rw [← hH, Heap.size_push]
  have kept3 : ∀ b o, hp3.get? b = some o → h₁.get? b = some o := fun b o e => hsb₁.extBut b o (Nat.ne_of_lt (Heap.lt_size e)) (Heap.get?_push_of_some _ e)
  have old3 : ∀ b o, s2.heap.get? b = some o → hp3.get? b = some o := fun b o e => by rw [← hH]; exact Heap.get?_push_of_some _ e
  have fplt : ∀ b ∈ fp, b < s2.heap.objs.size := fun b hb => by obtain ⟨o, e, _⟩ := T.obj 0 _ st2 b hb; exact Heap.lt_size e
  have fpst : ∀ b ∈ fp, b ∉ frs X.stack := fun b hb hz => by
    rcases List.mem_cons.mp (I2.nu b hz) with e | e
    · exact (f2 b hb).2.1 e
    · exact (f2 b hb).2.2.1 e
  obtain ⟨s3, hs3⟩ : ∃ s3 : Shared, s3 = { s2 with heap := hp3 } := ⟨_, rfl⟩
  obtain ⟨H3, hH3⟩ : ∃ H3 : Hp, H3 = upd H2 s2.heap.objs.size (.lst []) := ⟨_, rfl⟩
  have heap3 : s3.heap = hp3 := by rw [hs3]
  rw [← hH3] at I3
  have I3' : Inv X pins σ H3 s3 := by rw [hs3]; exact I3
  have hloc : H3 hp3.objs.size = none := by have := I3'.hok.fresh (a := hp3.objs.size) (by rw [heap3]; exact Nat.le_refl _); exact this
  have okc : (bH X N' scope cl fp s3 H3).Ok := by
    refine ⟨I3.ok.mod, ?_, I3.ok.glob, I3.ok.blt, Nat.le_refl _, fun x y a h1 h2 => I3.ok.inj x y a (hcl x a h1) (hcl y a h2), fun x hx => hhas x hx, fun x a h => (nomatch h), I3.ok.hd, I3.ok.qt, I3.ok.frames, .inl rfl, fun b hb => ⟨?_, fun x a h => (f2 b hb).2.2.2.2.1 x a (hcl x a h)⟩,
      I3'.bs, Nat.le_trans I3.ok.bsz I3'.sz, fun b o e hb => ?_, fun b hb => fpst b hb, I3'.stack, I3'.uK⟩
    · exact hkind
    · show b ≠ s3.heap.objs.size
      rw [heap3, hsz3]
      exact Nat.ne_of_lt (Nat.lt_succ_of_lt (fplt b hb))
    · rcases (f2 b hb).2.2.2.1 with z | z
      · exact I3.ok.Bz b o e z
      · exact absurd (Nat.lt_of_lt_of_le (Heap.lt_size (I3.ok.bs b o e).1) z) (Nat.lt_irrefl _)
  have I4 : Inv (bH X N' scope cl fp s3 H3) [] (cM cap σ) H3 { s2 with heap := h₁, toks := s2.toks + ([] : List (Str × Value)).length } := by
    refine ⟨okc, by show s2.os = s3.os; rw [hs3], I3.bare, Un.kept (by show ∀ b o, s3.heap.get? b = some o → _; rw [heap3]; exact kept3), ⟨_, (by show h₁.Ns s3.heap.objs.size _; rw [heap3]; exact hns₁), fun i x v e1 e2 e3 => ?_⟩, fun x a h => ?_, (by show H3 s3.heap.objs.size = none; rw [heap3]; exact hloc), fun x a h => I3.mJ x a (hcl x a h), fun p hp => ?_, I3.hok.kept kept3, ?_⟩
    · obtain ⟨j, h1, h2⟩ := qR e2
      obtain ⟨hN, hv, hnl, hk⟩ := hcap i j x h1 e1
      obtain ⟨m, _, hl⟩ := I3.loc
      obtain ⟨u, r, lk⟩ := hl j x v hN h2 hv
      refine ⟨u, r, .inr ⟨hk, ?_⟩⟩
      obtain ⟨a, ha⟩ := hhas x hk
      rcases lk with ⟨z, _⟩ | ⟨_, a', z1, z2⟩
      · exact absurd z hnl
      · have : a' = a := by have q := hcl x a ha; rw [z1] at q; exact Option.some.inj q
        subst this
        obtain ⟨o, ho, hd⟩ := z2
        exact ⟨a', ha, o, kept3 _ _ ho, hd⟩
    · obtain ⟨v, o, ho, hd⟩ := I3.cell x a (hcl x a h)
      exact ⟨v, o, kept3 _ _ ho, hd⟩
    · have hp' : p ∈ X.pn ++ pins := List.mem_append_left _ (by simpa using (show p ∈ X.pn ++ [] from hp))
      obtain ⟨z1, z2, z3, z4, z5⟩ := I3'.pin p hp'
      refine ⟨kept3 _ _ (by rw [← heap3]; exact z1), z2, (show p.1 ≠ s3.heap.objs.size from Nat.ne_of_lt (Heap.lt_size z1)), fun z => ?_, z5⟩
      rcases List.mem_cons.mp (I3'.nu p.1 z) with e | e
      · exact z3 e
      · exact z4 e
    · show (cM cap σ).length = N'.length
      unfold cM
      rw [List.length_map]
      exact hlen
  have hμ1 : μ1 s2.heap.objs.size = none := S1.mu.free hfree2
  obtain ⟨Pv, pv0, body, fin⟩ := allp s2.heap.objs.size hμ1
  have loop : codeAny (model X.prog X.w) X.A (.compLoop (.ListComp elt [⟨tg, iter, ifs, 0⟩] scope pos) 0 (.ref it) (.ref s2.heap.objs.size) (bH X N' scope cl fp s3 H3).env)
      (compPost (model X.prog X.w) X.A X.xe use QQ (.ref s2.heap.objs.size) hp3.objs.size) { s2 with heap := h₁, toks := s2.toks + ([] : List (Str × Value)).length } := by
    refine gR (fun n s' => ∃ (i : Nat) (σc : St) (Hc : Hp) (acc : List PyData) (μc : Mu), n = xs.length - i ∧ i ≤ xs.length ∧ Inv (bH X N' scope cl fp s3 H3) [] σc Hc s' ∧ tn i s'.heap ∧ (∀ b ∈ fp, Hc b = none) ∧
      acc.length ≤ i ∧ μc s2.heap.objs.size = some acc ∧ Pv i acc μc ∧ St0 X.K Hc (cM cap ρ) μc σc ∧ Ext X.K μ1 H2 μc Hc) ?_ xs.length
      ⟨0, cM cap σ, H3, [], aM μ1 s2.heap.objs.size [], by simp, Nat.zero_le _, I4, T.keep 0 _ _ st2 (fun b hb o e => kept3 b o (old3 b o e)), fun b hb => ?_, Nat.le_refl _, bA, pv0, ?_, ?_⟩
    · rintro n s' ⟨i, σc, Hc, acc, μc, rfl, hi, Ic, tc, frc, hal, hpa, pvi, Sc, Ec⟩
      have stat : ∀ {Hd : Hp}, (∀ b ∈ fp, Hd b = none) → ∀ b ∈ fp, wQ (bH X N' scope cl fp s3 H3) [] Hd b := fun hn b hb =>
        ⟨hn b hb, (okc.exf b hb).1, fpst b hb, .inl hb, fun x a h => (okc.exf b hb).2 x a h, fun p hp => (f2 b hb).2.2.2.2.2 p (List.mem_append_left _ (by simpa using (show p ∈ X.pn ++ [] from hp)))⟩
      obtain ⟨go, stop⟩ := itok _ Hc Ec Sc.mu i
      by_cases hlt : i < xs.length
      · obtain ⟨g1, y1⟩ := go hlt
        refine thn (T.item (bH X N' scope cl fp s3 H3) rfl rfl rfl (fun z => z) i [] s' σc Hc (fun _ _ => False) Ic (stat frc) tc g1) fun r s4 ⟨u, hr, h4⟩ => ?_
        subst hr
        refine thn h4 fun _ s5 ⟨x, H5, I5, r5, y5, st5, fr5⟩ => ?_
        obtain ⟨d, hd, sm, rd⟩ := y1 x H5 y5
        have I5' := I5.pinned (stat fr5) (T.obj _ _ st5)
        have e5 : Ext X.K _ Hc _ H5 := .of_same (μ := μc) sm
        have S5 : St0 X.K H5 (cM cap ρ) μc σc := ⟨Sc.mu.Fe e5 sm, Sc.rho.ext Sc.mu e5⟩
        obtain ⟨gt, pg, lg⟩ := hg fp s3 H3
        refine thn (pg _ s5 σc H5 x u (fun σ' H' => ∃ ρ' μ', Ext X.K μc H5 μ' H' ∧ St0 X.K H' ρ' μ' σ' ∧ Le (cM cap ρ) ρ' ∧ c ρ' μ' fun b μ3 =>
            if b = true then te ρ' μ3 fun d' μ4 => μ4 s2.heap.objs.size = some acc ∧ (match d' with | .v y => Pv (i + 1) (acc ++ [y]) (aM μ4 s2.heap.objs.size (acc ++ [y])) | _ => False) else μ3 s2.heap.objs.size = some acc ∧ Pv (i + 1) acc μ3) I5' r5
          (lg σc H5 (cM cap ρ) _ (.v d) x _ _ S5 rd (body i d acc μc hd hpa pvi) fun σ' ρ' μ' H' e' S' q => ⟨ρ', μ', e', S', q⟩)) fun _ s6 ⟨σ6, H6, I6, ρ6, μ6, e6, S6, le6, q6⟩ => ?_
        refine thn (hif fp s3 H3 _ s6 σ6 H6 ρ6 μ6 _ (fun b H' => ∃ μ', Ext X.K μ6 H6 μ' H' ∧ St0 X.K H' ρ6 μ' σ6 ∧ if b = true then te ρ6 μ' fun d' μ4 => μ4 s2.heap.objs.size = some acc ∧ (match d' with | .v y => Pv (i + 1) (acc ++ [y]) (aM μ4 s2.heap.objs.size (acc ++ [y])) | _ => False) else μ' s2.heap.objs.size = some acc ∧ Pv (i + 1) acc μ')
          I6 S6 q6 fun b μ' H' e' S' q => ⟨μ', e', S', q⟩) fun b s7 ⟨H7, I7, μ7, e7, S7, q7⟩ => ?_
        have again : ∀ {H9 : Hp} {s9 : Shared} {acc' : List PyData} {μ9 : Mu}, Inv (bH X N' scope cl fp s3 H3) ([] ++ pV fp s5.heap) σ6 H9 s9 → acc'.length ≤ i + 1 → μ9 s2.heap.objs.size = some acc' → Pv (i + 1) acc' μ9 → dF X.K μ9 H9 → iT X.K μ9 H9 (cM cap ρ) σ6 →
            Ext X.K μ1 H2 μ9 H9 → ∃ m, m < xs.length - i ∧ ∃ (i : Nat) (σc : St) (Hc : Hp) (acc : List PyData) (μc : Mu), m = xs.length - i ∧ i ≤ xs.length ∧ Inv (bH X N' scope cl fp s3 H3) [] σc Hc s9 ∧ tn i s9.heap ∧ (∀ b ∈ fp, Hc b = none) ∧
              acc.length ≤ i ∧ μc s2.heap.objs.size = some acc ∧ Pv i acc μc ∧ St0 X.K Hc (cM cap ρ) μc σc ∧ Ext X.K μ1 H2 μc Hc := fun {H9 s9 acc' μ9} I9 l9 p9 v9 m9 r9 e9 => by
          refine ⟨xs.length - (i + 1), by omega, i + 1, σ6, H9, acc', μ9, rfl, hlt, I9.jZ, T.keep _ _ _ st5 fun b hb o e => (I9.pin (b, o) (List.mem_append_right _ (List.mem_append_right _ (eB hb e)))).1, fun b hb => ?_, l9, p9, v9, ⟨m9, r9⟩, e9⟩
          obtain ⟨o, e, _⟩ := T.obj _ _ st5 b hb
          exact (I9.pin (b, o) (List.mem_append_right _ (List.mem_append_right _ (eB hb e)))).2.1
        cases b with
        | false =>
          have q8 : μ7 s2.heap.objs.size = some acc ∧ Pv (i + 1) acc μ7 := by simpa using q7
          refine xo ?_
          exact again I7 (by omega) q8.1 q8.2 S7.mu (S7.rho.le le6) (Ec.trans (e5.trans (e6.trans e7)))
        | true =>
          refine w4 ?_
          obtain ⟨t8, p8, l8⟩ := he fp s3 H3
          refine thn (p8 _ s7 σ6 H7 (fun v H' => ∃ y μ8, Ext X.K μ7 H7 μ8 H' ∧ St0 X.K H' ρ6 μ8 σ6 ∧ Rp X.K μ8 H' y v ∧ μ8 s2.heap.objs.size = some acc ∧ Pv (i + 1) (acc ++ [y]) (aM μ8 s2.heap.objs.size (acc ++ [y]))) I7
            (l8 σ6 H7 ρ6 μ7 _ _ S7 (by simpa using q7) fun d' v μ8 H8 e8 S8 r8 q8 => ?_)) fun v s8 ⟨v8, H8, I8, r8, y, μ8, e8, S8, ry, pa8, fy⟩ => ?_
          · obtain ⟨q80, q8⟩ := q8
            cases d' with
            | v y => exact ⟨y, μ8, e8, S8, r8, q80, q8⟩
            | m _ => exact q8.elim
            | s _ => exact q8.elim
            | o _ => exact q8.elim
            | q _ => exact q8.elim
          · obtain ⟨us, hacc, rus⟩ := S8.mu s2.heap.objs.size _ pa8
            have hle : acc.length ≤ 1000 := by omega
            refine thn (oW (X := bH X N' scope cl fp s3 H3) _ s8 σ6 H8 (.ref s2.heap.objs.size) [v8] (.ref s2.heap.objs.size) [v] (fun _ H' => H' = upd H8 s2.heap.objs.size (.lst (us ++ [v8]))) I8 rfl (.cons r8 .nil) ⟨_, us, v8, rfl, rfl, hacc, by rw [← rus.length]; exact iy hle, rfl⟩) fun _ s9 ⟨_, H9, I9, _, e9⟩ => ?_
            subst e9
            have ex : Ext X.K μ8 H8 (aM μ8 s2.heap.objs.size (acc ++ [y])) (upd H8 s2.heap.objs.size (.lst (us ++ [v8]))) := oF pa8
            exact again I9 (by rw [List.length_append, List.length_singleton]; omega) bA fy (S8.mu.set pa8 (rus.append (.cons ry .nil))) ((S8.rho.le le6).ext S8.mu ex) (Ec.trans (e5.trans (e6.trans (e7.trans (e8.trans ex)))))
      · have ei : i = xs.length := by omega
        subst ei
        refine thn (T.done (bH X N' scope cl fp s3 H3) rfl rfl rfl (fun z => z) _ [] s' σc Hc (fun _ _ => False) Ic (stat frc) tc (stop rfl)) fun r s4 ⟨hr, I5⟩ => ?_
        subst hr
        obtain ⟨m, hn, _⟩ := I5.loc
        have hcC : Hc hp3.objs.size = none := by have z : Hc s3.heap.objs.size = none := I5.free; rw [heap3] at z; exact z
        obtain ⟨us, hacc, rus⟩ := Sc.mu s2.heap.objs.size _ hpa
        have shr : ∀ a, μc a = none → gF μc s2.heap.objs.size a = none := fun a e => by
          unfold gF
          split
          · rfl
          · exact e
        have dne : ∀ a ds, gF μc s2.heap.objs.size a = some ds → μc a = some ds := fun a ds e => by
          unfold gF at e
          split at e
          · cases e
          · exact e
        have eF : Ext X.K μ1 H2 (gF μc s2.heap.objs.size) Hc := by
          refine ⟨Ec.keep, Ec.tb, fun b ds q => ?_, fun b q z => shr b (Ec.fresh b q z)⟩
          obtain ⟨es, q2⟩ := Ec.dom b ds q
          have : b ≠ s2.heap.objs.size := fun z => by rw [z, hμ1] at q; cases q
          exact ⟨es, by unfold gF; rw [if_neg this]; exact q2⟩
        have mF : dF X.K (gF μc s2.heap.objs.size) Hc := ⟨fun a ds q => by
          obtain ⟨ys, z1, z2⟩ := Sc.mu a ds (dne a ds q)
          exact ⟨ys, z1, z2.shrink shr⟩, Sc.mu.tab⟩
        refine hend s4 Hc hp3.objs.size s2.heap.objs.size m acc (gF μc s2.heap.objs.size) (by have z : s4.heap.Ns s3.heap.objs.size m := hn; rw [heap3] at z; exact z) (I2.Ho (by rw [hsz3]; exact Nat.le_succ _) hcC) (fun h' hs' => ?_) (e1.trans eF) ⟨mF, S1.rho.ext S1.mu eF⟩ (Rp.list hacc (by unfold gF; rw [if_pos rfl]) (rus.shrink shr)) (fin acc μc pvi hpa)
        have kp : ∀ b o, b < s2.heap.objs.size → s4.heap.get? b = some o → h'.get? b = some o := fun b o hb e => hs'.extBut b o (by rw [hsz3]; exact Nat.ne_of_lt (Nat.lt_succ_of_lt hb)) e
        have hok' : HOk X.prog X.w Hc h' := fun b ob e => by
          refine (I5.hok b ob e).zg (fun cc v hcc q => hs'.extBut cc v ?_ q) (fun _ q => q) fun _ _ q => q
          rintro rfl
          rcases hcc with z | z
          · rw [← z, hcC] at e; cases e
          · rw [hcC] at z; cases z
        have u1 : Un (frs X.stack) fp H2 H3 s2.heap s3.heap := by rw [heap3, hH3]; exact Un.laid old3 (Nat.le_refl _) hfree2
        have u2 : Un (frs X.stack) fp H3 Hc s3.heap s4.heap := I5.base
        exact I2.Dn (ch := fp) (by show s4.os = s2.os; have z : s4.os = s3.os := I5.os; rw [z, hs3]) (Un.after (u1.trans u2) kp) hok' I5.bare fun b hb => ⟨(f2 b hb).2.2.2.1, (f2 b hb).2.1, (f2 b hb).2.2.2.2.1, (f2 b hb).2.2.2.2.2⟩
    · have z : b ≠ s2.heap.objs.size := Nat.ne_of_lt (fplt b hb)
      rw [hH3, cD z]
      exact (f2 b hb).1
    · have ex := ki (o := .lst []) (ds := []) S1.mu hfree2 hK2
      rw [hH3]
      exact ⟨S1.mu.mut .nil hfree2 hK2, (S1.rho.ext S1.mu ex).cap⟩
    · rw [hH3]
      exact ki (o := .lst []) (ds := []) S1.mu hfree2 hK2
  have envE : (bH X N' scope cl fp s3 H3).env = compEnvC scope cl hp3.objs.size X.env := by show compEnvC scope cl s3.heap.objs.size X.env = _; rw [heap3]
  rw [envE] at loop
  exact codeAny_compStart_list loop (T.self X.A 0 _ _ _ (T.keep 0 _ _ st2 (fun b hb o e => kept3 b o (old3 b o e))) loop)
theorem GN {X : Cx} {N' : List Str} {scope : Scope} {cl : List (Str × Addr)} {elt iter tg : Expr} {ifs : List Expr} {pos : Pos} {cap : List (Option Nat)} {src : DTI} {g : DTG} {c : DTT} {te : DTE} (hc : X.calm = X.calm)
    (hi : DI X tg iter src) (hg : ∀ fp s₃ H₃, DG (bH X N' scope cl fp s₃ H₃) tg g) (hif : ∀ fp s₃ H₃, BR (bH X N' scope cl fp s₃ H₃) ifs c) (he : ∀ fp s₃ H₃, DE (bH X N' scope cl fp s₃ H₃) elt te)
    (hclos : closureFor scope X.env = pure cl) (hcell : ∀ y ∈ scope.names, y.2 ≠ .cell) (hkind : scope.kind = .function) (hnames : ∀ y ∈ scope.names, y.2 = .local → scope.names.lookup y.1 = some .local)
    (hcl : ∀ x a, cl.lookup x = some a → X.env.cells.lookup x = some a) (hhas : ∀ x, (relabel scope X.env).names.lookup x = some .cell ∨ (relabel scope X.env).names.lookup x = some .free → ∃ a, cl.lookup x = some a)
    (hlen : cap.length = N'.length) (hcap : ∀ (i j : Nat) (x : Str), cap[i]? = some (some j) → N'[i]? = some x → X.N[j]? = some x ∧ Vis X.env.scope x ∧ X.env.kindOf x ≠ some .local ∧ ((relabel scope X.env).names.lookup x = some .cell ∨ (relabel scope X.env).names.lookup x = some .free))
    (hs : ∀ x, foldedSetIterable iter X.env x = pure x := by intro _; rfl) : DE X (.ListComp elt [⟨tg, iter, ifs, 0⟩] scope pos) (ni cap src g c te) := by
  refine Gb fun pins s σ H ρ μ Qd Q I S h k => ?_
  rw [eval_ListComp]
  refine xT hc hi hg hif he hclos hcell hkind hnames hcl hhas hlen hcap hs I S h fun s4 Hc C pa m acc μF hn _ hI e1 S1 r q => ?_
  exact ⟨m, hn, fun h' hs' => ⟨.ref pa, Hc, hI h' hs', rfl, k (.v (.list acc)) _ μF Hc e1 S1 r q⟩⟩
theorem ns_obj {h : Heap} {C : Addr} {m : Str → Option Value} (hn : h.Ns C m) : ∃ o, h.get? C = some o ∧ ∀ v, o.data ≠ .cell v := let ⟨o, es, ep, ho, hd, _⟩ := hn; ⟨o, ho, fun v z => by rw [hd] at z; cases z⟩
theorem Ih {h h' : Heap} {C : Addr} {m : Str → Option Value} (hn : h.Ns C m) (e : h'.get? C = h.get? C) : h'.Ns C m := let ⟨o, es, ep, ho, r⟩ := hn; ⟨o, es, ep, e.trans ho, r⟩
theorem C4 {X : Cx} {i : Nat} {x : Str} {pos' spos : Pos} {N' : List Str} {scope : Scope} {cl : List (Str × Addr)} {elt iter tg : Expr} {ifs : List Expr} {pos : Pos} {cap : List (Option Nat)} {src : DTI} {g : DTG} {c : DTT} {te : DTE} (hN : X.N.Nodup) (hix : X.N[i]? = some x) (hx : X.env.scope.names.lookup x = some .local) (hc : X.calm = X.calm)
    (hi : DI X tg iter src) (hg : ∀ fp s₃ H₃, DG (bH X N' scope cl fp s₃ H₃) tg g) (hif : ∀ fp s₃ H₃, BR (bH X N' scope cl fp s₃ H₃) ifs c) (he : ∀ fp s₃ H₃, DE (bH X N' scope cl fp s₃ H₃) elt te)
    (hclos : closureFor scope X.env = pure cl) (hcell : ∀ y ∈ scope.names, y.2 ≠ .cell) (hkind : scope.kind = .function) (hnames : ∀ y ∈ scope.names, y.2 = .local → scope.names.lookup y.1 = some .local)
    (hcl : ∀ x a, cl.lookup x = some a → X.env.cells.lookup x = some a) (hhas : ∀ x, (relabel scope X.env).names.lookup x = some .cell ∨ (relabel scope X.env).names.lookup x = some .free → ∃ a, cl.lookup x = some a)
    (hlen : cap.length = N'.length) (hcap : ∀ (i j : Nat) (x : Str), cap[i]? = some (some j) → N'[i]? = some x → X.N[j]? = some x ∧ Vis X.env.scope x ∧ X.env.kindOf x ≠ some .local ∧ ((relabel scope X.env).names.lookup x = some .cell ∨ (relabel scope X.env).names.lookup x = some .free))
    (hs : ∀ x, foldedSetIterable iter X.env x = pure x := by intro _; rfl)
    (hsw : swapsWith (.ListComp elt [⟨tg, iter, ifs, 0⟩] scope pos) (some (.Name x pos')) spos.line X.env = pure true := by rfl) : DS X (.Assign [.Name x pos'] (.ListComp elt [⟨tg, iter, ifs, 0⟩] scope pos) spos) (bK (ni cap src g c te) (az i)) := by
  refine ⟨fun D σ H => ∃ ρ μ Dd, St0 X.K H ρ μ σ ∧ bK (ni cap src g c te) (az i) Dd ρ μ ∧ (∀ σ' ρ' μ' H', Ext X.K μ H μ' H' → St0 X.K H' ρ' μ' σ' → Dd.nx ρ' μ' → D.nx σ' H'), ?_, fun σ H ρ μ Dd De S h k1 k2 k3 k4 => ⟨ρ, μ, Dd, S, h, k1⟩⟩
  rintro pins s σ H D I ⟨ρ, μ, Dd, S, h, k1⟩
  rw [exec_Assign_Name_used _ _ _ _ hsw]
  refine wpAny_bind (wpAny_standAt ?_)
  show wpAny _ _ ((comprehension (.ListComp elt [⟨tg, iter, ifs, 0⟩] scope pos) scope X.env (firstIterPos [⟨tg, iter, ifs, 0⟩] pos) (newList []) false (eval iter X.env) (some (assign (.Name x pos') X.env)) >>= fun _ => pure ()) >>= _) _ _ s
  refine wpAny_bind (wpAny_bind (xT (Qd := fun d μ1 => az i d ρ μ1 Dd.nx) hc hi hg hif he hclos hcell hkind hnames hcl hhas hlen hcap hs I S h fun s4 Hc C pa m acc μF hn fC hI e1 S1 r q => ?_))
  have I4 : Inv X pins σ Hc s4 := hI s4.heap (Heap.SameBut.refl _ _)
  obtain ⟨oC, hoC, hdC⟩ : ∃ o, s4.heap.get? C = some o ∧ ∀ v, o.data ≠ .cell v := by
    obtain ⟨o, h1, h2⟩ := ns_obj hn
    exact ⟨o, h1, h2⟩
  have I5 := I4.pinned (fp := [C]) (fun b hb => by rw [List.mem_singleton.mp hb]; exact fC) (fun b hb => by rw [List.mem_singleton.mp hb]; exact ⟨oC, hoC, hdC⟩)
  show wpAny _ _ (assign (.Name x pos') X.env (.ref pa)) _ _ s4
  refine wpAny_assign_Name (nH I5 hN hix (Or.inl hx) (show RelV (.ref pa) (.ref pa) from rfl) (fun s' I' => ?_) (.inr hx))
  have keepC : s'.heap.get? C = some oC := (I'.pin (C, oC) (List.mem_append_right _ (List.mem_append_right _ (eB (List.mem_singleton.mpr rfl) hoC)))).1
  have hn' : s'.heap.Ns C m := Ih hn (by rw [keepC, hoC])
  refine ⟨m, hn', fun h' hs' => wpAny_pure (wpAny_pure ?_)⟩
  refine ⟨σ.set i (some (.ref pa)), Hc, ?_, k1 _ _ _ _ e1 ⟨S1.mu, S1.rho.set (d := .v (.list acc)) r⟩ q⟩
  refine I'.jZ.Dn (ch := [C]) rfl ⟨fun b o e n hb hx => ?_, fun b o e n hb hx => ?_, fun b o e n hx => n, fun b o e hx => ?_, fun b xs e => e, fun b o u e => e, fun b ps e => ⟨#[], by rw [Array.append_empty]; exact e⟩⟩ ?_ I'.bare fun b hb => ?_
  · exact hs'.extBut b o (fun z => hx (List.mem_singleton.mpr z)) e
  · exact ⟨o.slots, hs'.extBut b o (fun z => hx (List.mem_singleton.mpr z)) e⟩
  · exact ⟨o, hs'.extBut b o (fun z => hx (List.mem_singleton.mpr z)) e⟩
  · exact fun b ob e => by
      refine (I'.hok b ob e).zg (fun cc v hcc q => hs'.extBut cc v ?_ q) (fun _ q => q) fun _ _ q => q
      rintro rfl
      rcases hcc with z | z
      · rw [← z, fC.1] at e; cases e
      · rw [fC.1] at z; cases z
  · rw [List.mem_singleton.mp hb]
    exact ⟨fC.2.2.2.1, fC.2.1, fC.2.2.2.2.1, fC.2.2.2.2.2⟩
theorem CM {cap : List (Option Nat)} {src : DTI} {g : DTG} {t : DTT} {ta : DTE} {ρ : Rho} {μ : Mu} {Q : DK} : ni cap src g t ta ρ μ Q = src ρ μ fun xs μ1 => xs.length ≤ 1000 ∧ ∀ p, μ1 p = none → ∃ Pv : Nat → List PyData → Mu → Prop, Pv 0 [] (aM μ1 p []) ∧
  (∀ i x acc μ', xs[i]? = some x → μ' p = some acc → Pv i acc μ' → g (.v x) (cM cap ρ) μ' fun ρ2 μ2 => Le (cM cap ρ) ρ2 ∧ t ρ2 μ2 fun b μ3 =>
    if b = true then ta ρ2 μ3 fun d μ4 => μ4 p = some acc ∧ (match d with | .v y => Pv (i + 1) (acc ++ [y]) (aM μ4 p (acc ++ [y])) | _ => False) else μ3 p = some acc ∧ Pv (i + 1) acc μ3) ∧
  (∀ acc μ', Pv xs.length acc μ' → μ' p = some acc → Q (.v (.list acc)) (gF μ' p)) := propext Iff.rfl
theorem xA {μ : Mu} {p : Addr} {ds : List PyData} (h : μ p = none) : gF (aM μ p ds) p = μ := by
  funext b
  unfold gF aM
  by_cases e : b = p
  · rw [if_pos e, e, h]
  · rw [if_neg e, if_neg e]
theorem JJ {xs : List PyData} {f : PyData → Option PyData} {i : Nat} {d : PyData} (h : xs[i]? = some d) : (xs.take (i + 1)).filterMap f = (xs.take i).filterMap f ++ (f d).toList := rq h
open PySem PySem.Spec PyProof.Rows
section
variable {X : Cx} {es : List Expr} {x1 : Nat} {tpos : Pos}
def D7 : List PyData → List PyData → List PyData
  | x :: xs, y :: ys => .tuple [x, y] :: D7 xs ys
  | _, _ => []
def Mj (t : DTA) : DTI := fun ρ μ Q => t ρ μ fun ds μ1 => match ds with
  | [.v (.list xs), .v (.list ys)] => Q (D7 xs ys) μ1
  | _ => False
theorem CG {t : DTA} {ρ : Rho} {μ : Mu} {Q : List PyData → Mu → Prop} : Mj t ρ μ Q = t ρ μ fun ds μ1 => match ds with | [.v (.list xs), .v (.list ys)] => Q (D7 xs ys) μ1 | _ => False := propext Iff.rfl
end
open PySem PySem.Spec PyProof.Rows
section
variable {X : Cx} {a b e : Expr} {es : List Expr} {ta tb te : DTE} {t : DTA} {p pos : Pos}
def mm : List D → Mu → DK → Prop := fun xs μ Q => match xs with
  | [.v (.list ys)] => Q (.v (.tuple ys)) μ
  | [.v (.tuple ys)] => Q (.v (.tuple ys)) μ
  | [.m l] => (match μ l with | some ys => Q (.v (.tuple ys)) μ | none => False)
  | _ => False
theorem FF {K : PySem.W.Frag} : pE K (fun xs H Q => ∃ p ys, xs = [.ref p] ∧ ((SqL K H p ys ∧ ∀ l, H l = none → Q (.ref l) (upd H l (.tup ys))) ∨ (SqT K H p ys ∧ Q (.ref p) H))) mm := by
  intro xs us H μ Qd Q ok rs h k
  unfold mm at h
  split at h
  · cases rs with
    | cons r1 r2 =>
      cases r2
      cases r1 with
      | list hs hn r => exact ⟨_, _, rfl, .inl ⟨SqL.of hs, fun l hl => k (.v _) _ μ _ (fX hl) (ok.new hl) (mD ok r hl) h⟩⟩
  · cases rs with
    | cons r1 r2 =>
      cases r2
      cases id r1 with
      | tuple hs r => exact ⟨_, _, rfl, .inr ⟨hs, k (.v _) _ μ H .refl ok r1 h⟩⟩
  · cases rs with
    | cons r1 r2 =>
      cases r2
      obtain ⟨rfl, ds, hm⟩ := r1
      rw [hm] at h
      obtain ⟨us, hl, r⟩ := ok _ ds hm
      exact ⟨_, _, rfl, .inl ⟨SqL.of hl, fun l hl' => k (.v _) _ μ _ (fX hl') (ok.new hl') (mD ok r hl') h⟩⟩
  · exact h.elim
theorem GL (hg : Gl X "tuple") (hm : X.mg "tuple" = none) (ha : DA X (e :: es) t)
    (he : starEach (e :: es) X.env = (false, eval e X.env) :: starEach es X.env := by rfl) (hpl : (backTo pos (starEach es X.env)).any (·.1) = false := by rfl) : DE X (.Call (.Name "tuple" p) (e :: es) [] pos) (dCB mm t) :=
  xG xq FF hg hm PyProof.Rows.Boot.«tuple» ha (by decide) (by decide) he hpl
theorem Ae {ys : List PyData} {μ : Mu} {Q : DK} : mm [.v (.list ys)] μ Q = Q (.v (.tuple ys)) μ := propext Iff.rfl
theorem A2 {ys : List PyData} {μ : Mu} {Q : DK} : mm [.v (.tuple ys)] μ Q = Q (.v (.tuple ys)) μ := propext Iff.rfl
theorem AX {l : Addr} {μ : Mu} {Q : DK} : mm [.m l] μ Q = (match μ l with | some ys => Q (.v (.tuple ys)) μ | none => False) := propext Iff.rfl
def Lv : D → D → Mu → DK → Prop := fun x y μ Q => match x, y with
  | .v (.list xs), .v (.int k) => (0 ≤ k ∧ k ≤ 1000 ∧ xs.length * k.toNat ≤ 1000) ∧ Q (.v (.list (List.replicate k.toNat xs).flatten)) μ
  | _, _ => False
theorem ID {xs : List PyData} {k : Int} {μ : Mu} {Q : DK} : Lv (.v (.list xs)) (.v (.int k)) μ Q = ((0 ≤ k ∧ k ≤ 1000 ∧ xs.length * k.toNat ≤ 1000) ∧ Q (.v (.list (List.replicate k.toNat xs).flatten)) μ) := propext Iff.rfl
end
open PySem PySem.Spec PyProof.Rows
section
variable {prog : Program} {w : World} {A : Around} {E : Value → Shared → Prop} {s : Shared}
end
open PySem PySem.Spec PyProof.Rows
section
variable {X : Cx} {es : List Expr} {x1 : Nat} {tpos : Pos}
def MX (t : DTA) : DTI := fun ρ μ Q => t ρ μ fun ds μ1 => match ds with
  | [.v (.tuple xs), .v (.tuple ys)] => Q (D7 xs ys) μ1
  | _ => False
end
section
variable {X : Cx} {es : List Expr} {pos : Pos}
def Na (K : PySem.W.Frag) (n : Nat) (t : TGs) : TG := fun v σ H Q => ∃ a xs, v = .ref a ∧ SqL K H a xs ∧ xs.length = n ∧ t xs σ H Q
theorem Kw {k : Nat} {t : TGs} {n : Nat} (hc : X.calm = true) (h : PGs X es t)
    (hn : (assignEach es X.env).length = n := by rfl) (hst : (assignEach es X.env).findIdx? (·.1) = none := by rfl) : PG X (.Tuple es k pos) (Na X.K n t) := by
  intro pins s σ H v u Q I r hw
  obtain ⟨a, xs, e1, hq, hl, hw⟩ := hw
  subst e1
  cases r
  obtain ⟨its, rv, p, _⟩ := I.list hq
  rw [assign_Tuple]
  refine wpAny_bind (wpAny_standAt ?_)
  unfold unpack
  rw [hst, show (assignEach es X.env).length = its.toArray.size by simp [hn, ← hl, rv.length]]
  refine wpAny_bind (wpAny_holding (PySem.W.kun_itemsOf (I.ok.hd hc) p.isList fun h' hx => ?_))
  have I1 : Inv X pins σ H { s with heap := h' } := I.kept (t' := s.toks) fun b o e => hx b o (Nat.ne_of_lt (Heap.lt_size e)) e
  exact h pins _ σ H xs _ Q I1 (by simpa using rv) hw
def FU (n : Nat) (gs : tU) : DTG := fun d ρ μ Q => match d with
  | .v (.list xs) => xs.length = n ∧ gs xs ρ μ Q
  | _ => False
theorem JF {k n : Nat} {gs : tU} (hc : X.calm = true) (h : DGs X es gs)
    (hn : (assignEach es X.env).length = n := by rfl) (hst : (assignEach es X.env).findIdx? (·.1) = none := by rfl) : DG X (.Tuple es k pos) (FU n gs) := by
  obtain ⟨t1, p1, l1⟩ := h
  refine ⟨_, Kw hc p1 hn hst, fun σ H ρ μ d u Qd Q S r h k => ?_⟩
  unfold FU at h
  split at h
  · cases r with
    | @list a us _ ha hn' ra => exact ⟨a, us, rfl, SqL.of ha, by rw [← ra.length]; exact h.1, l1 σ H ρ μ _ us _ _ S ra h.2 k⟩
  · exact h.elim
end
theorem cl1 {k : Str} {v : Addr} {r : List (Str × Addr)} {x : Str} {a : Addr} (h : List.lookup x [(k, v)] = some a) : List.lookup x ((k, v) :: r) = some a := by
  simp only [List.lookup_cons] at h ⊢
  cases e : x == k with
  | true => rw [e] at h; exact h
  | false => rw [e] at h; exact absurd h (by simp)
theorem cl2 {k k' : Str} {v v' : Addr} {r : List (Str × Addr)} {x : Str} {a : Addr} (n : (k == k') = false) (h : List.lookup x [(k, v)] = some a) : List.lookup x ((k', v') :: (k, v) :: r) = some a := by
  have g := cl1 (r := r) h
  simp only [List.lookup_cons] at h
  cases e : x == k with
  | true =>
    have e' : x = k := by simpa using e
    subst e'
    rw [List.lookup_cons, n]
    exact g
  | false => rw [e] at h; exact absurd h (by simp)
open PySem PySem.Spec PyProof.Rows
section
variable {X : Cx} {e : Expr} {es : List Expr} {t : DTA} {p pos : Pos}
def iw : List PyData → Option (List Int)
  | [] => some []
  | .int b :: r => (iw r).map (b :: ·)
  | _ :: _ => none
theorem xB {K : PySem.W.Frag} {μ : Mu} {H : Hp} : ∀ {xs : List PyData} {us : List V} {bs : List Int}, RpL K μ H xs us → iw xs = some bs → us = bs.map V.int
  | _, _, _, .nil, e => by cases e; rfl
  | .int b :: r, _, bs, .cons h t, e => by
    simp only [iw] at e
    cases q : iw r with
    | none => rw [q] at e; cases e
    | some cs => rw [q] at e; cases e; cases h; rw [xB t q]; rfl
  | .none :: r, _, bs, .cons h t, e => by simp [iw] at e
  | .bool _ :: r, _, bs, .cons h t, e => by simp [iw] at e
  | .str _ :: r, _, bs, .cons h t, e => by simp [iw] at e
  | .list _ :: r, _, bs, .cons h t, e => by simp [iw] at e
  | .tuple _ :: r, _, bs, .cons h t, e => by simp [iw] at e
  | .dict _ :: r, _, bs, .cons h t, e => by simp [iw] at e
end
section
variable {X : Cx} {e tg : Expr} {te : DTE} {td : DTS} {pos : Pos}
end
section
variable {X : Cx} {a b c : Expr} {ta tb tc : DTE} {pos : Pos}
end
open PySem PySem.Spec PyProof.Rows
section
variable {X : Cx} {o e : Expr} {to te : DTE} {apos cpos pos : Pos}
end
section
variable {X : Cx} {e : Expr} {es : List Expr} {t : DTA} {p pos : Pos}
end
section
variable {X : Cx} {a b : Expr} {ta tb : DTE} {pos : Pos}
end
open PySem PySem.Spec PyProof.Rows
def FN (cells : List (Str × Addr)) : List (Str × Addr) → Prop
  | [] => True
  | (k, v) :: r => cells.lookup k = some v ∧ FN cells r
theorem fO {cells : List (Str × Addr)} : FN cells [] := trivial
theorem cj {cells r : List (Str × Addr)} {k : Str} {v : Addr} (h : cells.lookup k = some v) (t : FN cells r) : FN cells ((k, v) :: r) := ⟨h, t⟩
theorem cR {cells : List (Str × Addr)} : ∀ {cl : List (Str × Addr)}, FN cells cl → ∀ x a, cl.lookup x = some a → cells.lookup x = some a
  | [], _, _, _, h => by simp at h
  | (k, v) :: r, c, x, a, h => by
    rw [List.lookup_cons] at h
    cases e : x == k with
    | true =>
      have e' : x = k := by simpa using e
      rw [e] at h
      subst e'
      rw [c.1]; exact h
    | false =>
      rw [e] at h
      exact cR c.2 x a h
open PySem PySem.Spec PyProof.Rows
structure Kp (O : Addr → Prop) (fs : List Addr) (h h' : Heap) : Prop where
  keep : ∀ b o, h.get? b = some o → O b → b ∉ fs → h'.get? b = some o
  slot : ∀ b o, h.get? b = some o → (∀ vs, o.data ≠ .fields vs) → ∃ sl, h'.get? b = some { o with slots := sl }
section
variable {O : Addr → Prop} {fs : List Addr} {h h1 h2 : Heap}
theorem Kp.refl : Kp O fs h h := ⟨fun _ _ e _ _ => e, fun _ o e _ => ⟨o.slots, e⟩⟩
theorem Kp.trans (a : Kp O fs h h1) (b : Kp O fs h1 h2) : Kp O fs h h2 := ⟨fun c o e l f => b.keep c o (a.keep c o e l f) l f, fun c o e d => let ⟨_, e1⟩ := a.slot c o e d; let ⟨sl, e2⟩ := b.slot c _ e1 d; ⟨sl, e2⟩⟩
theorem Kp.of (k : ∀ b o, h.get? b = some o → h1.get? b = some o) : Kp O fs h h1 := ⟨fun b o e _ _ => k b o e, fun b o e _ => ⟨o.slots, k b o e⟩⟩
theorem Kp.frames {base : Heap} {l : List Env} (a : Kp O fs h h1) (k : h.FunFrames base l) : h1.FunFrames base l := k.of_keeps fun b o e d => let ⟨_, e1⟩ := a.slot b o e d; ⟨_, e1, rfl⟩
end
section
variable {M : Model} {A : Around} {E : Value → Shared → Prop} {s : Shared} {O : Addr → Prop} {e L : Addr} {cls fl : Value} {env : Env} {outer : List Env} {base : Heap} {Q : Unit → Shared → Prop}
end
open PySem PySem.Spec PyProof.Rows
section
variable {X : Cx} {pins : List (Addr × Obj)} {σ : St} {H : Hp} {s : Shared} {O : Addr → Prop} {ea : Addr} {cls : Value} {E : XK} {base : Heap}
end
abbrev DTX := Rho → Mu → (Mu → Prop) → Prop
abbrev XSp := List D → Mu → (Mu → Prop) → Prop
def JI (K : PySem.W.Frag) (E : XK) (C : Value) (μ : Mu) (H : Hp) (Xk : Mu → Prop) : Prop := ∀ μ' H', Ext K μ H μ' H' → dF K μ' H' → Xk μ' → E C none H'
theorem JI.on {K : PySem.W.Frag} {E : XK} {C : Value} {μ μ1 : Mu} {H H1 : Hp} {Xk : Mu → Prop} (w : JI K E C μ H Xk) (e : Ext K μ H μ1 H1) : JI K E C μ1 H1 Xk := fun μ' H' e' => w μ' H' (e.trans e')
section
variable {X : Cx} {E : XK} {C : Value} {e : Expr} {es : List Expr} {t : DTA} {te : DTE} {tx ty : DTX} {p pos : Pos} {x : Str} {k : Nat} {f : Addr} {fd : FuncData} {ps : List Str} {dsp : XSp} {st : Stmt} {sts : List Stmt}
end
open PySem PySem.Spec PyProof.Rows
section
variable {X : Cx} {E : XK} {x : Str} {C : Addr}
end
open PySem PySem.Spec PyProof.Rows
section
variable {prog : Program} {w : World} {A : Around} {E : Value → Shared → Prop} {h : Heap} {g : Array GenState} {d : Drawn} {t : Nat} {os : OsState} {a C : Addr} {o : Obj} {K : PySem.W.Frag}
end
open PySem PySem.Spec PyProof.Rows
section
variable {X : Cx} {pins : List (Addr × Obj)} {σ : St} {H : Hp} {s : Shared}
end
open PySem PySem.Spec PyProof.Rows
section
variable {P : Program} {w : World} {K : PySem.W.Frag} {mg : Str → Option Value} {base : Heap} {N : List Str} {lsc : Scope} {cl : List (Str × Addr)} {q : Str} {fa c1 : Addr} {A : Around} {outer : List Env} {s : Shared} {H : Hp} {E : XK} {σ : St} {k : Nat} {params : Arguments} {body : Expr} {pm ctv : Value} {t : TE}
end
open PySem PySem.Spec PyProof.Rows
section
variable {X : Cx} {pins : List (Addr × Obj)} {σ : St} {H : Hp} {s : Shared} {O : Addr → Prop} {ea : Addr} {oe : Obj} {vs : Array Value}
end
open PySem PySem.Spec PyProof.Rows
open PySem PySem.Spec PyProof.Rows
section
variable {X : Cx} {e : Expr} {te : DTE} {p py pos : Pos} {y : Str} {C : Addr} {b : Bool} {ea : Addr} {oe : Obj}
end
end L2.DL
set_option Elab.async false
set_option linter.all false
set_option maxRecDepth 100000
set_option maxHeartbeats 4000000
namespace L2
open PySem PySem.Spec PyProof.Rows DL
def Mt (tabs : List Addr) (H : Hp) : Prop := ∀ b, H b = none ∨ (∃ o xs, H b = some (.frz o (.lst xs))) ∨ (b ∈ tabs ∧ H b = some (.tbl #[]))
theorem Ek {P : Program} {w : World} {K : PySem.W.Frag} {mg mb : Str → Option Value} {CX : CXT} {k : Nat} {fa a : Addr} {fd : FuncData} {x : Str} {sp : Sp} {s₁ : Shared} {vs : List Value} {ns : List Int} (tabs : List Addr)
    (hT : ∀ p ∈ tabs, s₁.heap.get? p = some (PySem.W.tabObj #[]) ∧ K.lookup p = none) (hA2 : ∀ c o p q, K.lookup c = some o → d5 o = some (p, q) → p ∈ tabs) (hC : ∀ p ∈ tabs, isCodeTable s₁.heap p)
    (KX : K.In s₁.heap) (hns : s₁.heap.Ns mainGlobals mg) (hb : s₁.heap.Ns builtinsNs mb) (hbb : ∀ x : Str, x ≠ "__name__" → mb x = bootBuiltins x) (hlim : s₁.heap.NoLimit) (hg : s₁.gens = #[])
    (ha : s₁.heap.get? a = some { cls := .type "list", data := .seq vs.toArray }) (hi : IntsAre vs ns) (hl : ns.length ≤ sizeLine) (hr : mE k callerA)
    (F : ∀ base : Heap, K.In base → base.Ns mainGlobals mg → cu P w K mg base CX k fa fd [x] sp) (hbind : ∀ (s : Shared) (u : Value), BindsTo s fd ⟨[u], []⟩ [(x, u)])
    (hsp : ∀ H : Hp, zW K H → SqL K H a (ns.map V.int) → sp [.ref a] H (fun v _ => v = .bl true) fun _ _ _ => False)
    (hCX : ∀ H e s', CX [] H s₁ (fun _ _ _ => False) e s' → False) :
    codeAny (model P w) callerA (.call (.ref fa) ⟨[.ref a], []⟩) (fun r s' => r = .ok (.ret (.bool true)) ∧ OldK s₁.heap s'.heap ∧ s'.os = s₁.os ∧ AllBare s'.gens) s₁ := by
  have rv := xC hi
  have lenV := hi.length
  have ant : a ∉ tabs := fun z => by have := (hT a z).1; rw [ha] at this; cases this
  have core : ∀ H : Hp, Mt tabs H → SqL K H a (ns.map V.int) → HOk P w H s₁.heap → (∀ b, H b ≠ none → b = a ∨ b ∈ tabs) → (H a ≠ none → K.lookup a = none) → (∀ p ∈ tabs, H p = some (.tbl #[])) →
      codeAny (model P w) callerA (.call (.ref fa) ⟨[.ref a], []⟩) (fun r s' => r = .ok (.ret (.bool true)) ∧ OldK s₁.heap s'.heap ∧ s'.os = s₁.os ∧ AllBare s'.gens) s₁ := by
    intro H hO hS hok hA hK hP
    have base_of : ∀ {b : Addr} {o : Obj}, s₁.heap.get? b = some o → H b = none → (yd s₁.heap H).get? b = some o := fun e n => Fz e n
    have noA : ∀ {b : Addr} {o : Obj} {es : Array DictEntry} {ep : Nat}, s₁.heap.get? b = some o → o.data = .dict es ep → H b = none := fun {b o es ep} e d => by
      cases q : H b with
      | none => rfl
      | some u =>
        rcases hA b (by rw [q]; simp) with e' | e'
        · subst e'
          rw [ha] at e; cases e
          have d' : Data.seq vs.toArray _ = Data.dict es ep := d
          cases d'
        · rw [(hT b e').1] at e; cases e
          have d' : Data.fields #[] = Data.dict es ep := d
          cases d'
    have nsK : ∀ {b : Addr} {m : Str → Option Value}, s₁.heap.Ns b m → (yd s₁.heap H).Ns b m := fun {b m} ⟨o, es, ep, e, d, r⟩ => ⟨o, es, ep, base_of e (noA e d), d, r⟩
    have hKb : K.In (yd s₁.heap H) := fun b o e => base_of (KX b o e) (by
      cases q : H b with
      | none => rfl
      | some u =>
        rcases hA b (by rw [q]; simp) with e' | e'
        · subst e'
          rw [hK (by rw [q]; simp)] at e; cases e
        · have e2 := e; rw [show K.lookup b = none from (hT b e').2] at e2; cases e2)
    have hM : Mod K mg (yd s₁.heap H) := ⟨hKb, nsK hns, ⟨mb, nsK hb, hbb⟩, let ⟨mc, h1, h2⟩ := hlim; ⟨mc, nsK h1, h2⟩⟩
    have e0 : HL P w K mg (yd s₁.heap H) callerA [] s₁ H := ⟨rfl, hM, fun b o e => Hj e, Nat.le_of_eq (D1 _ _), trivial, fun b hb => absurd (show b ∈ ([] : List Addr) from hb) (by simp), hok, .of_eq hg⟩
    have tb : zW K H := fun c o p q h1 h2 => ⟨#[], hP p (hA2 c o p q h1 h2), trivial, fun pos cv e => by simp [codeAmong] at e⟩
    refine codeAny_mono ((F _ hKb (nsK hns)).run callerA [] s₁ H ⟨[.ref a], []⟩ [.ref a] [.ref a] _ _ hr e0 (hbind s₁ (.ref a)) (.cons rfl .nil) (hsp H tb hS)) fun r s' h => ?_
    cases r with
    | error e => exact (hCX H e s' h).elim
    | ok fl =>
      cases fl with
      | next => exact False.elim h
      | brk => exact False.elim h
      | cont => exact False.elim h
      | ret u =>
        obtain ⟨v, H', os, bare, un, hok', r', q⟩ := h
        have q' : v = .bl true := q
        subst q'
        obtain rfl : u = Value.bool true := r'
        refine ⟨rfl, ⟨fun b o e => ?_, fun b o e => un.there b o e (by simp)⟩, os, bare⟩
        cases q : H b with
        | none => exact .inl (un.keep b o e q (by intro z; exact absurd (show b ∈ ([] : List Addr) from z) (by simp)) (by simp))
        | some u =>
          rcases hO b with z | ⟨ob, xs, z⟩ | ⟨zt, z⟩
          · rw [q] at z; cases z
          · have z2 := un.qv b ob _ z
            obtain ⟨e1, _⟩ := hok b _ z
            obtain ⟨e2, _⟩ := hok' b _ z2
            rw [e] at e1; cases e1
            exact .inl e2
          · obtain ⟨more, z2⟩ := un.qT b _ z
            have e2 : s'.heap.get? b = some { cls := .none, data := .fields (#[] ++ more) } := hok' b _ z2
            have e1 := (hT b zt).1
            rw [e] at e1; cases e1
            exact .inr (.inl ⟨hC b zt, rfl, #[], more, rfl, e2⟩)
  have okT : ∀ p ∈ tabs, s₁.heap.get? p = some { cls := .none, data := .fields #[] } := fun p hp => (hT p hp).1
  cases hk : K.lookup a with
  | some o =>
    have e := KX a o hk
    rw [ha] at e
    cases e
    refine core (fun b => if b ∈ tabs then some (.tbl #[]) else none) (fun b => ?_) (.inr ⟨_, vs.toArray, _, hk, rfl, rfl, rfl, by rw [List.size_toArray, lenV]; exact hl, by simpa using rv⟩) (fun b u z => ?_) (fun b z => ?_) (fun z => absurd (if_neg ant) z) (fun p hp => if_pos hp)
    · by_cases hb : b ∈ tabs
      · exact .inr (.inr ⟨hb, if_pos hb⟩)
      · exact .inl (if_neg hb)
    · by_cases hb : b ∈ tabs
      · have z' := (if_pos hb).symm.trans z; cases z'; exact okT b hb
      · have z' := (if_neg hb).symm.trans z; cases z'
    · by_cases hb : b ∈ tabs
      · exact .inr hb
      · exact absurd (if_neg hb) z
  | none =>
    refine core (fun b => if b = a then some (.frz { cls := .type "list", data := .seq vs.toArray } (.lst (ns.map V.int))) else if b ∈ tabs then some (.tbl #[]) else none) (fun b => ?_) (.inl (.inr ⟨{ cls := .type "list", data := .seq vs.toArray }, if_pos rfl⟩)) (fun b u z => ?_) (fun b z => ?_) (fun _ => hk) (fun p hp => by
      have : p ≠ a := fun y => ant (by rw [← y]; exact hp)
      exact (if_neg this).trans (if_pos hp))
    · by_cases hb : b = a
      · exact .inr (.inl ⟨_, _, if_pos hb⟩)
      · by_cases hb2 : b ∈ tabs
        · exact .inr (.inr ⟨hb2, (if_neg hb).trans (if_pos hb2)⟩)
        · exact .inl ((if_neg hb).trans (if_neg hb2))
    · by_cases hb : b = a
      · have z' := (if_pos hb).symm.trans z
        cases z'
        subst hb
        exact ⟨ha, by rw [List.length_map]; exact hl, vs, _, rv, ha⟩
      · by_cases hb2 : b ∈ tabs
        · have z' := ((if_neg hb).trans (if_pos hb2)).symm.trans z; cases z'; exact okT b hb2
        · have z' := ((if_neg hb).trans (if_neg hb2)).symm.trans z; cases z'
    · by_cases hb : b = a
      · exact .inl hb
      · by_cases hb2 : b ∈ tabs
        · exact .inr hb2
        · exact absurd ((if_neg hb).trans (if_neg hb2)) z
theorem Fm {l : PySem.W.OpenLaw} {n k : Nat} {q : Program} {loose : List Str} {XP : (Str → Option Value) → Heap → Prop} {YP : World → Heap → Prop} {d : DefRec} {K : Params → PySem.W.Frag} {CX : World → CXT} {sp : World → Sp} {x : Str} (tabs : List Addr)
    (hn : l.most = some n) (hn2 : n ≤ sizeLine) (hdf : d.params.defaults = []) (hr : mE k callerA)
    (hY : ∀ (w : World) (h : Heap), YP w h → (K w.params).In h ∧ (∀ p ∈ tabs, h.get? p = some (PySem.W.tabObj #[]) ∧ (K w.params).lookup p = none) ∧ (∀ p ∈ tabs, isCodeTable h p))
    (hA2 : ∀ (w : World) c o p q, (K w.params).lookup c = some o → d5 o = some (p, q) → p ∈ tabs)
    (F : ∀ (w : World) (mg : Str → Option Value) (fa : Addr) (h : Heap), (K w.params).In h → h.Ns mainGlobals mg → mg d.name = some (.ref fa) →
      ∃ fd : FuncData, (∀ (s : Shared) (u : Value), BindsTo s fd ⟨[u], []⟩ [(x, u)]) ∧
        ∀ base : Heap, (K w.params).In base → base.Ns mainGlobals mg → cu l.prog w (K w.params) mg base (CX w) k fa fd [x] (sp w))
    (hsp : ∀ (w : World) (H : Hp) (a : Addr) (ns : List Int), ns.length ≤ n → zW (K w.params) H → SqL (K w.params) H a (ns.map V.int) → sp w [.ref a] H (fun v _ => v = .bl true) fun _ _ _ => False)
    (hCX : ∀ (w : World) (H : Hp) (s : Shared) (e : Value) (s' : Shared), CX w [] H s (fun _ _ _ => False) e s' → False) :
    PySem.W.WalkO q loose XP YP l.row.toRowW d [] (fun f vs => PySem.call f vs) := by
  refine Att.An hn hdf fun w s₀ s₁ mg mb fa o pm cd doc a vs ns G Y ho hd hcd hmg hobj hints hlen hg => ?_
  obtain ⟨KX, hT, hC⟩ := hY w _ Y
  obtain ⟨fd, hb, hF⟩ := F w mg fa _ KX G.T.g hmg
  exact Ek tabs hT (hA2 w) hC KX G.T.g G.T.b G.T.builtins G.T.nolimit hg hobj hints (Nat.le_trans hlen hn2) hr hF hb (fun H hO hS => hsp w H a ns hlen hO hS) fun H e s' => hCX w H s₁ e s'
end L2
namespace L2.DL
open PySem PySem.Spec PyProof.Rows
theorem IA {K : PySem.W.Frag} {l : List (Addr × Str)} (h : (K.filterMap fun p => d5 p.2) = l) {c : Addr} {o : Obj} {P : Addr} {q : Str} (e : K.lookup c = some o) (e2 : d5 o = some (P, q)) : (P, q) ∈ l := by
  rw [← h]
  have mem : ∀ (L : List (Addr × Obj)), List.lookup c L = some o → (c, o) ∈ L := fun L => by
    induction L with
    | nil => intro z; cases z
    | cons a r ih =>
      intro z
      rw [List.lookup_cons] at z
      by_cases y : c = a.1
      · rw [y] at z ⊢; simp at z; rw [← z]; exact List.mem_cons_self
      · rw [show (c == a.1) = false from by simpa using y] at z
        exact List.mem_cons_of_mem _ (ih z)
  exact List.mem_filterMap.mpr ⟨(c, o), mem K e, e2⟩
theorem xu {K : PySem.W.Frag} {h : Heap} {c P : Addr} {o : Obj} {q : Str} (X : K.In h) (l : K.lookup c = some o) (e : d5 o = some (P, q)) : isCodeTable h P := by
  have ho := X _ _ l
  unfold d5 at e
  split at e
  · rename_i cn vs hcls hd
    split at e
    · rename_i hcn
      subst hcn
      split at e
      · rename_i e11 e18
        split at e
        · cases e
          exact ⟨c, o, vs, ho, hcls, hd, by assumption⟩
        · cases e
      · cases e
    · cases e
  · cases e
theorem Dw {K : PySem.W.Frag} {c P : Addr} {q : Str} (h : (K.lookup c).bind d5 = some (P, q)) : ∃ o, K.lookup c = some o ∧ d5 o = some (P, q) := Option.bind_eq_some_iff.mp h
theorem zh {K T : PySem.W.Frag} {h : Heap} (X : PySem.W.Frag.In (K ++ T) h) : K.In h := fun b o e => X b o (by
  show List.lookup b (K ++ T) = some o
  rw [List.lookup_append, show List.lookup b K = some o from e]; rfl)
open PySem PySem.Spec PyProof.Rows
section
def Jt (K : PySem.W.Frag) (J : It) (xs : List PyData) (μ1 : Mu) (H1 : Hp) : Prop := ∀ μ2 H2, Ext K μ1 H1 μ2 H2 → dF K μ2 H2 → (∀ a ds, μ1 a = some ds → μ2 a = some ds) → ∀ i, (i < xs.length → J.go i H2 ∧ ∀ x H', J.yld i H2 x H' → ∃ d, xs[i]? = some d ∧ nJ H2 H' ∧ Rp K μ2 H' d x) ∧ (i = xs.length → J.stop i H2)
def Kb (K : PySem.W.Frag) (wi : TI) (src : DTI) : Prop := ∀ (σ : St) (H : Hp) (ρ : Rho) (μ : Mu) (Qd : List PyData → Mu → Prop) (R : It → Hp → Prop), St0 K H ρ μ σ → src ρ μ Qd →
  (∀ xs μ1 H1 J, Ext K μ H μ1 H1 → St0 K H1 ρ μ1 σ → Jt K J xs μ1 H1 → Qd xs μ1 → R J H1) → wi σ H R
def DIW (X : Cx) (tg iter : Expr) (src : DTI) : Prop := ∃ wi, PI X tg iter wi ∧ Kb X.K wi src
def diM (te : DTE) : DTI := fun ρ μ Q => te ρ μ fun d μ1 => match d with
  | .m l => ∃ xs, μ1 l = some xs ∧ Q xs μ1
  | _ => False
theorem MD {te : DTE} {ρ : Rho} {μ : Mu} {Q : List PyData → Mu → Prop} : diM te ρ μ Q = te ρ μ fun d μ1 => match d with
  | .m l => ∃ xs, μ1 l = some xs ∧ Q xs μ1
  | _ => False := propext Iff.rfl
theorem MN {X : Cx} {e tg : Expr} {te : DTE} (h : DE X e te) : DIW X tg e (diM te) := by
  obtain ⟨t1, p1, l1⟩ := h
  refine ⟨_, Dl p1, fun σ H ρ μ Qd R S h k => ?_⟩
  refine l1 σ H ρ μ _ _ S h fun d u μ1 H1 e1 S1 r h1 => ?_
  split at h1
  · rename_i l
    obtain ⟨xs, hl, h1⟩ := h1
    obtain ⟨rfl, _⟩ := r
    obtain ⟨us0, hus0, _⟩ := S1.mu l xs hl
    refine ⟨l, rfl, ⟨us0, SqL.of hus0⟩, k xs μ1 H1 _ e1 S1 (fun μ2 H2 e2 ok2 st i => ?_) h1⟩
    obtain ⟨us, hus, ra⟩ := ok2 l xs (st l xs hl)
    refine ⟨fun hi => ?_, fun hi => ⟨us, SqL.of hus, by rw [← ra.length]; omega⟩⟩
    have hiu : i < us.length := by rw [← ra.length]; exact hi
    refine ⟨⟨us, us[i], SqL.of hus, by simp [hiu]⟩, fun x H' ⟨eH, hx⟩ => ?_⟩
    subst eH
    obtain ⟨u', h1', h2'⟩ := ra.get (i := i) (d := xs[i]) (by simp [hi])
    have := hx us (SqL.of hus)
    rw [h1'] at this
    cases this
    exact ⟨xs[i], by simp [hi], nJ.refl _, h2'⟩
  · exact h1.elim
theorem ET {X : Cx} {N' : List Str} {scope : Scope} {cl : List (Str × Addr)} {elt iter tg : Expr} {ifs : List Expr} {pos : Pos} {cap : List (Option Nat)} {src : DTI} {g : DTG} {c : DTT} {te : DTE} (hc : X.calm = X.calm)
    (hi : DIW X tg iter src) (hg : ∀ fp s₃ H₃, DG (bH X N' scope cl fp s₃ H₃) tg g) (hif : ∀ fp s₃ H₃, BR (bH X N' scope cl fp s₃ H₃) ifs c) (he : ∀ fp s₃ H₃, DE (bH X N' scope cl fp s₃ H₃) elt te)
    (hclos : closureFor scope X.env = pure cl) (hcell : ∀ y ∈ scope.names, y.2 ≠ .cell) (hkind : scope.kind = .function) (hnames : ∀ y ∈ scope.names, y.2 = .local → scope.names.lookup y.1 = some .local)
    (hcl : ∀ x a, cl.lookup x = some a → X.env.cells.lookup x = some a) (hhas : ∀ x, (relabel scope X.env).names.lookup x = some .cell ∨ (relabel scope X.env).names.lookup x = some .free → ∃ a, cl.lookup x = some a)
    (hlen : cap.length = N'.length) (hcap : ∀ (i j : Nat) (x : Str), cap[i]? = some (some j) → N'[i]? = some x → X.N[j]? = some x ∧ Vis X.env.scope x ∧ X.env.kindOf x ≠ some .local ∧ ((relabel scope X.env).names.lookup x = some .cell ∨ (relabel scope X.env).names.lookup x = some .free))
    (hs : ∀ x, foldedSetIterable iter X.env x = pure x := by intro _; rfl) : DE X (.ListComp elt [⟨tg, iter, ifs, 0⟩] scope pos) (nX cap src g c te) := by
  refine Gb fun pins s σ H ρ μ Qd Q I S h k => ?_
  obtain ⟨wi, pw, li⟩ := hi
  rw [eval_ListComp]
  refine wpAny_comprehension_free (use := none) rfl hs hclos hkind hnames (thn (pw pins s σ H _ I (li σ H ρ μ _ (fun J H1 => ∃ xs μ1, Ext X.K μ H μ1 H1 ∧ St0 X.K H1 ρ μ1 σ ∧ Jt X.K J xs μ1 H1 ∧ xs.length ≤ 1000 ∧ ∃ f : PyData → Option PyData,
      (∀ x ∈ xs, ∀ μ' : Mu, (∀ a ds, μ1 a = some ds → μ' a = some ds) → g (.v x) (cM cap ρ) μ' fun ρ2 μ2 => Le (cM cap ρ) ρ2 ∧ c ρ2 μ2 fun b μ3 =>
        if b = true then te ρ2 μ3 fun d μ4 => μ4 = μ' ∧ (match d with | .v y => f x = some y | _ => False) else μ3 = μ' ∧ f x = none) ∧ Qd (.v (.list (xs.filterMap f))) μ1) S h (fun xs μ1 H1 J e1 S1 it q => ⟨xs, μ1, e1, S1, it, q⟩)))
    fun v s1 h1 => thn h1 fun itv s2 h2 => ?_)
  obtain ⟨it, fp, tn, J, H2, rfl, I2, T, st2, f2, xs, μ1, e1, S1, itok, hxs, f, body, fin⟩ := h2
  refine wpAny_newObj_type (wpAny_newFunctionEnv hcell (by intro y hy; simp at hy) (fun h₁ hns₁ hsb₁ => ?_) hkind)
  dsimp only at hns₁ hsb₁ ⊢
  have hfree2 : H2 s2.heap.objs.size = none := I2.hok.fresh (Nat.le_refl _)
  have hK2 : X.K.lookup s2.heap.objs.size = none := by
    cases z : X.K.lookup s2.heap.objs.size with
    | none => rfl
    | some o => exact absurd (Heap.lt_size (I2.kIn _ _ z)) (Nat.lt_irrefl _)
  have I3 : Inv X pins σ (upd H2 s2.heap.objs.size (.lst [])) { s2 with heap := s2.heap.push { cls := .type "list", dict := none, data := .seq ([] : List Value).toArray } } :=
    I2.laid (t' := s2.toks) (fun b u e => Heap.get?_push_of_some _ e) (Nat.le_refl _) ⟨Nat.zero_le _, [], 0, .nil, Heap.get?_push_size _ rfl⟩
  generalize hH : s2.heap.push { cls := .type "list", dict := none, data := .seq ([] : List Value).toArray } = hp3 at hns₁ hsb₁ I3 ⊢
  have hsz3 : hp3.objs.size = s2.heap.objs.size + 1 := by rw [← hH, Heap.size_push]
  have kept3 : ∀ b o, hp3.get? b = some o → h₁.get? b = some o := fun b o e => hsb₁.extBut b o (Nat.ne_of_lt (Heap.lt_size e)) (Heap.get?_push_of_some _ e)
  have old3 : ∀ b o, s2.heap.get? b = some o → hp3.get? b = some o := fun b o e => by rw [← hH]; exact Heap.get?_push_of_some _ e
  have fplt : ∀ b ∈ fp, b < s2.heap.objs.size := fun b hb => by obtain ⟨o, e, _⟩ := T.obj 0 _ st2 b hb; exact Heap.lt_size e
  have fpst : ∀ b ∈ fp, b ∉ frs X.stack := fun b hb hz => by
    rcases List.mem_cons.mp (I2.nu b hz) with e | e
    · exact (f2 b hb).2.1 e
    · exact (f2 b hb).2.2.1 e
  obtain ⟨s3, hs3⟩ : ∃ s3 : Shared, s3 = { s2 with heap := hp3 } := ⟨_, rfl⟩
  obtain ⟨H3, hH3⟩ : ∃ H3 : Hp, H3 = upd H2 s2.heap.objs.size (.lst []) := ⟨_, rfl⟩
  have heap3 : s3.heap = hp3 := by rw [hs3]
  rw [← hH3] at I3
  have I3' : Inv X pins σ H3 s3 := by rw [hs3]; exact I3
  have hloc : H3 hp3.objs.size = none := by have := I3'.hok.fresh (a := hp3.objs.size) (by rw [heap3]; exact Nat.le_refl _); exact this
  have okc : (bH X N' scope cl fp s3 H3).Ok := by
    refine ⟨I3.ok.mod, ?_, I3.ok.glob, I3.ok.blt, Nat.le_refl _, fun x y a h1 h2 => I3.ok.inj x y a (hcl x a h1) (hcl y a h2), fun x hx => hhas x hx, fun x a h => (nomatch h), I3.ok.hd, I3.ok.qt, I3.ok.frames, .inl rfl, fun b hb => ⟨?_, fun x a h => (f2 b hb).2.2.2.2.1 x a (hcl x a h)⟩,
      I3'.bs, Nat.le_trans I3.ok.bsz I3'.sz, fun b o e hb => ?_, fun b hb => fpst b hb, I3'.stack, I3'.uK⟩
    · exact hkind
    · show b ≠ s3.heap.objs.size
      rw [heap3, hsz3]
      exact Nat.ne_of_lt (Nat.lt_succ_of_lt (fplt b hb))
    · rcases (f2 b hb).2.2.2.1 with z | z
      · exact I3.ok.Bz b o e z
      · exact absurd (Nat.lt_of_lt_of_le (Heap.lt_size (I3.ok.bs b o e).1) z) (Nat.lt_irrefl _)
  have I4 : Inv (bH X N' scope cl fp s3 H3) [] (cM cap σ) H3 { s2 with heap := h₁, toks := s2.toks + ([] : List (Str × Value)).length } := by
    refine ⟨okc, by show s2.os = s3.os; rw [hs3], I3.bare, Un.kept (by show ∀ b o, s3.heap.get? b = some o → _; rw [heap3]; exact kept3), ⟨_, (by show h₁.Ns s3.heap.objs.size _; rw [heap3]; exact hns₁), fun i x v e1 e2 e3 => ?_⟩, fun x a h => ?_, (by show H3 s3.heap.objs.size = none; rw [heap3]; exact hloc), fun x a h => I3.mJ x a (hcl x a h), fun p hp => ?_, I3.hok.kept kept3, ?_⟩
    · obtain ⟨j, h1, h2⟩ := qR e2
      obtain ⟨hN, hv, hnl, hk⟩ := hcap i j x h1 e1
      obtain ⟨m, _, hl⟩ := I3.loc
      obtain ⟨u, r, lk⟩ := hl j x v hN h2 hv
      refine ⟨u, r, .inr ⟨hk, ?_⟩⟩
      obtain ⟨a, ha⟩ := hhas x hk
      rcases lk with ⟨z, _⟩ | ⟨_, a', z1, z2⟩
      · exact absurd z hnl
      · have : a' = a := by have q := hcl x a ha; rw [z1] at q; exact Option.some.inj q
        subst this
        obtain ⟨o, ho, hd⟩ := z2
        exact ⟨a', ha, o, kept3 _ _ ho, hd⟩
    · obtain ⟨v, o, ho, hd⟩ := I3.cell x a (hcl x a h)
      exact ⟨v, o, kept3 _ _ ho, hd⟩
    · have hp' : p ∈ X.pn ++ pins := List.mem_append_left _ (by simpa using (show p ∈ X.pn ++ [] from hp))
      obtain ⟨z1, z2, z3, z4, z5⟩ := I3'.pin p hp'
      refine ⟨kept3 _ _ (by rw [← heap3]; exact z1), z2, (show p.1 ≠ s3.heap.objs.size from Nat.ne_of_lt (Heap.lt_size z1)), fun z => ?_, z5⟩
      rcases List.mem_cons.mp (I3'.nu p.1 z) with e | e
      · exact z3 e
      · exact z4 e
    · show (cM cap σ).length = N'.length
      unfold cM
      rw [List.length_map]
      exact hlen
  have hμ1 : μ1 s2.heap.objs.size = none := S1.mu.free hfree2
  have sub1 : ∀ ys a ds, μ1 a = some ds → aM μ1 s2.heap.objs.size ys a = some ds := fun ys a ds e => by
    have : a ≠ s2.heap.objs.size := fun z => by rw [z, hμ1] at e; cases e
    rw [bU this]; exact e
  have loop : codeAny (model X.prog X.w) X.A (.compLoop (.ListComp elt [⟨tg, iter, ifs, 0⟩] scope pos) 0 (.ref it) (.ref s2.heap.objs.size) (bH X N' scope cl fp s3 H3).env)
      (compPost (model X.prog X.w) X.A X.xe none (EP X pins σ Q) (.ref s2.heap.objs.size) hp3.objs.size) { s2 with heap := h₁, toks := s2.toks + ([] : List (Str × Value)).length } := by
    refine gR (fun n s' => ∃ (i : Nat) (σc : St) (Hc : Hp), n = xs.length - i ∧ i ≤ xs.length ∧ Inv (bH X N' scope cl fp s3 H3) [] σc Hc s' ∧ tn i s'.heap ∧ (∀ b ∈ fp, Hc b = none) ∧
      St0 X.K Hc (cM cap ρ) (aM μ1 s2.heap.objs.size ((xs.take i).filterMap f)) σc ∧ Ext X.K μ1 H2 (aM μ1 s2.heap.objs.size ((xs.take i).filterMap f)) Hc) ?_ xs.length
      ⟨0, cM cap σ, H3, by simp, Nat.zero_le _, I4, T.keep 0 _ _ st2 (fun b hb o e => kept3 b o (old3 b o e)), fun b hb => ?_, ?_, ?_⟩
    · rintro n s' ⟨i, σc, Hc, rfl, hi, Ic, tc, frc, Sc, Ec⟩
      have stat : ∀ {Hd : Hp}, (∀ b ∈ fp, Hd b = none) → ∀ b ∈ fp, wQ (bH X N' scope cl fp s3 H3) [] Hd b := fun hn b hb =>
        ⟨hn b hb, (okc.exf b hb).1, fpst b hb, .inl hb, fun x a h => (okc.exf b hb).2 x a h, fun p hp => (f2 b hb).2.2.2.2.2 p (List.mem_append_left _ (by simpa using (show p ∈ X.pn ++ [] from hp)))⟩
      obtain ⟨go, stop⟩ := itok _ Hc Ec Sc.mu (sub1 _) i
      by_cases hlt : i < xs.length
      · obtain ⟨g1, y1⟩ := go hlt
        refine thn (T.item (bH X N' scope cl fp s3 H3) rfl rfl rfl (fun z => z) i [] s' σc Hc (fun _ _ => False) Ic (stat frc) tc g1) fun r s4 ⟨u, hr, h4⟩ => ?_
        subst hr
        refine thn h4 fun _ s5 ⟨x, H5, I5, r5, y5, st5, fr5⟩ => ?_
        obtain ⟨d, hd, sm, rd⟩ := y1 x H5 y5
        have I5' := I5.pinned (stat fr5) (T.obj _ _ st5)
        have e5 : Ext X.K _ Hc _ H5 := .of_same (μ := aM μ1 s2.heap.objs.size ((xs.take i).filterMap f)) sm
        have S5 : St0 X.K H5 (cM cap ρ) (aM μ1 s2.heap.objs.size ((xs.take i).filterMap f)) σc := ⟨Sc.mu.Fe e5 sm, Sc.rho.ext Sc.mu e5⟩
        obtain ⟨gt, pg, lg⟩ := hg fp s3 H3
        have hmem : d ∈ xs := List.mem_of_getElem? hd
        refine thn (pg _ s5 σc H5 x u (fun σ' H' => ∃ ρ' μ', Ext X.K (aM μ1 s2.heap.objs.size ((xs.take i).filterMap f)) H5 μ' H' ∧ St0 X.K H' ρ' μ' σ' ∧ Le (cM cap ρ) ρ' ∧ c ρ' μ' fun b μ3 =>
            if b = true then te ρ' μ3 fun d' μ4 => μ4 = aM μ1 s2.heap.objs.size ((xs.take i).filterMap f) ∧ (match d' with | .v y => f d = some y | _ => False) else μ3 = aM μ1 s2.heap.objs.size ((xs.take i).filterMap f) ∧ f d = none) I5' r5
          (lg σc H5 (cM cap ρ) _ (.v d) x _ _ S5 rd (body d hmem _ (sub1 _)) fun σ' ρ' μ' H' e' S' q => ⟨ρ', μ', e', S', q⟩)) fun _ s6 ⟨σ6, H6, I6, ρ6, μ6, e6, S6, le6, q6⟩ => ?_
        refine thn (hif fp s3 H3 _ s6 σ6 H6 ρ6 μ6 _ (fun b H' => ∃ μ', Ext X.K μ6 H6 μ' H' ∧ St0 X.K H' ρ6 μ' σ6 ∧ if b = true then te ρ6 μ' fun d' μ4 => μ4 = aM μ1 s2.heap.objs.size ((xs.take i).filterMap f) ∧ (match d' with | .v y => f d = some y | _ => False) else μ' = aM μ1 s2.heap.objs.size ((xs.take i).filterMap f) ∧ f d = none)
          I6 S6 q6 fun b μ' H' e' S' q => ⟨μ', e', S', q⟩) fun b s7 ⟨H7, I7, μ7, e7, S7, q7⟩ => ?_
        have again : ∀ {H9 : Hp} {s9 : Shared}, Inv (bH X N' scope cl fp s3 H3) ([] ++ pV fp s5.heap) σ6 H9 s9 → dF X.K (aM μ1 s2.heap.objs.size ((xs.take (i + 1)).filterMap f)) H9 → iT X.K (aM μ1 s2.heap.objs.size ((xs.take (i + 1)).filterMap f)) H9 (cM cap ρ) σ6 →
            Ext X.K μ1 H2 (aM μ1 s2.heap.objs.size ((xs.take (i + 1)).filterMap f)) H9 → ∃ m, m < xs.length - i ∧ ∃ (i : Nat) (σc : St) (Hc : Hp), m = xs.length - i ∧ i ≤ xs.length ∧ Inv (bH X N' scope cl fp s3 H3) [] σc Hc s9 ∧ tn i s9.heap ∧ (∀ b ∈ fp, Hc b = none) ∧
              St0 X.K Hc (cM cap ρ) (aM μ1 s2.heap.objs.size ((xs.take i).filterMap f)) σc ∧ Ext X.K μ1 H2 (aM μ1 s2.heap.objs.size ((xs.take i).filterMap f)) Hc := fun {H9 s9} I9 m9 r9 e9 => by
          refine ⟨xs.length - (i + 1), by omega, i + 1, σ6, H9, rfl, hlt, I9.jZ, T.keep _ _ _ st5 fun b hb o e => (I9.pin (b, o) (List.mem_append_right _ (List.mem_append_right _ (eB hb e)))).1, fun b hb => ?_, ⟨m9, r9⟩, e9⟩
          obtain ⟨o, e, _⟩ := T.obj _ _ st5 b hb
          exact (I9.pin (b, o) (List.mem_append_right _ (List.mem_append_right _ (eB hb e)))).2.1
        cases b with
        | false =>
          have q8 : μ7 = aM μ1 s2.heap.objs.size ((xs.take i).filterMap f) ∧ f d = none := by simpa using q7
          refine xo ?_
          have et : (xs.take (i + 1)).filterMap f = (xs.take i).filterMap f := by rw [rq hd, q8.2]; simp
          have eμ : aM μ1 s2.heap.objs.size ((xs.take (i + 1)).filterMap f) = μ7 := by rw [et, q8.1]
          refine again I7 (by rw [eμ]; exact S7.mu) (by rw [eμ]; exact S7.rho.le le6) ?_
          rw [eμ]
          exact Ec.trans (e5.trans (e6.trans e7))
        | true =>
          refine w4 ?_
          obtain ⟨t8, p8, l8⟩ := he fp s3 H3
          refine thn (p8 _ s7 σ6 H7 (fun v H' => ∃ y, Ext X.K μ7 H7 (aM μ1 s2.heap.objs.size ((xs.take i).filterMap f)) H' ∧ St0 X.K H' ρ6 (aM μ1 s2.heap.objs.size ((xs.take i).filterMap f)) σ6 ∧ Rp X.K (aM μ1 s2.heap.objs.size ((xs.take i).filterMap f)) H' y v ∧ f d = some y) I7
            (l8 σ6 H7 ρ6 μ7 _ _ S7 (by simpa using q7) fun d' v μ8 H8 e8 S8 r8 q8 => ?_)) fun v s8 ⟨v8, H8, I8, r8, y, e8, S8, ry, fy⟩ => ?_
          · obtain ⟨rfl, q8⟩ := q8
            cases d' with
            | v y => exact ⟨y, e8, S8, r8, q8⟩
            | m _ => exact q8.elim
            | s _ => exact q8.elim
            | o _ => exact q8.elim
            | q _ => exact q8.elim
          · obtain ⟨us, hacc, rus⟩ := S8.mu s2.heap.objs.size _ bA
            have hle : ((xs.take i).filterMap f).length ≤ 1000 := Nat.le_trans (List.length_filterMap_le _ _) (Nat.le_trans (by rw [List.length_take]; exact Nat.min_le_right _ _) hxs)
            refine thn (oW (X := bH X N' scope cl fp s3 H3) _ s8 σ6 H8 (.ref s2.heap.objs.size) [v8] (.ref s2.heap.objs.size) [v] (fun _ H' => H' = upd H8 s2.heap.objs.size (.lst (us ++ [v8]))) I8 rfl (.cons r8 .nil) ⟨_, us, v8, rfl, rfl, hacc, by rw [← rus.length]; exact iy hle, rfl⟩) fun _ s9 ⟨_, H9, I9, _, e9⟩ => ?_
            subst e9
            have et : (xs.take (i + 1)).filterMap f = (xs.take i).filterMap f ++ [y] := by rw [rq hd, fy]; rfl
            have mset : aM (aM μ1 s2.heap.objs.size ((xs.take i).filterMap f)) s2.heap.objs.size ((xs.take (i + 1)).filterMap f) = aM μ1 s2.heap.objs.size ((xs.take (i + 1)).filterMap f) := oT
            have ex : Ext X.K (aM μ1 s2.heap.objs.size ((xs.take i).filterMap f)) H8 (aM μ1 s2.heap.objs.size ((xs.take (i + 1)).filterMap f)) (upd H8 s2.heap.objs.size (.lst (us ++ [v8]))) := by
              rw [← mset]
              exact oF bA
            refine again I9 ?_ ((S8.rho.le le6).ext S8.mu ex) (Ec.trans (e5.trans (e6.trans (e7.trans (e8.trans ex)))))
            rw [← mset]
            refine S8.mu.set bA ?_
            rw [et]
            exact rus.append (.cons ry .nil)
      · have ei : i = xs.length := by omega
        subst ei
        refine thn (T.done (bH X N' scope cl fp s3 H3) rfl rfl rfl (fun z => z) _ [] s' σc Hc (fun _ _ => False) Ic (stat frc) tc (stop rfl)) fun r s4 ⟨hr, I5⟩ => ?_
        subst hr
        rw [List.take_length] at Sc Ec
        obtain ⟨m, hn, _⟩ := I5.loc
        refine ⟨m, (by have z : s4.heap.Ns s3.heap.objs.size m := hn; rw [heap3] at z; exact z), fun h' hs' => ?_⟩
        have kp : ∀ b o, b < s2.heap.objs.size → s4.heap.get? b = some o → h'.get? b = some o := fun b o hb e => hs'.extBut b o (by rw [hsz3]; exact Nat.ne_of_lt (Nat.lt_succ_of_lt hb)) e
        have hcC : Hc hp3.objs.size = none := by have z : Hc s3.heap.objs.size = none := I5.free; rw [heap3] at z; exact z
        have hok' : HOk X.prog X.w Hc h' := fun b ob e => by
          refine (I5.hok b ob e).zg (fun cc v hcc q => hs'.extBut cc v ?_ q) (fun _ q => q) fun _ _ q => q
          rintro rfl
          rcases hcc with z | z
          · rw [← z, hcC] at e; cases e
          · rw [hcC] at z; cases z
        have u1 : Un (frs X.stack) fp H2 H3 s2.heap s3.heap := by rw [heap3, hH3]; exact Un.laid old3 (Nat.le_refl _) hfree2
        have u2 : Un (frs X.stack) fp H3 Hc s3.heap s4.heap := I5.base
        have If : Inv X pins σ Hc { s4 with heap := h' } := I2.Dn (ch := fp) (by show s4.os = s2.os; have z : s4.os = s3.os := I5.os; rw [z, hs3]) (Un.after (u1.trans u2) kp) hok' I5.bare fun b hb => ⟨(f2 b hb).2.2.2.1, (f2 b hb).2.1, (f2 b hb).2.2.2.2.1, (f2 b hb).2.2.2.2.2⟩
        obtain ⟨us, hacc, rus⟩ := Sc.mu s2.heap.objs.size _ bA
        have shr : ∀ a, aM μ1 s2.heap.objs.size (xs.filterMap f) a = none → μ1 a = none := fun a e => by
          by_cases ha : a = s2.heap.objs.size
          · rw [ha]; exact hμ1
          · rw [bU ha] at e; exact e
        have eF : Ext X.K μ1 H2 μ1 Hc := ⟨Ec.keep, Ec.tb, fun _ ds q => ⟨ds, q⟩, fun _ q _ => q⟩
        have mF : dF X.K μ1 Hc := ⟨fun a ds q => by
          obtain ⟨ys, z1, z2⟩ := Sc.mu a ds (sub1 _ a ds q)
          exact ⟨ys, z1, z2.shrink shr⟩, Sc.mu.tab⟩
        exact ⟨.ref s2.heap.objs.size, Hc, If, rfl, k (.v (.list (xs.filterMap f))) _ μ1 Hc (e1.trans eF) ⟨mF, S1.rho.ext S1.mu eF⟩ (Rp.list hacc hμ1 (rus.shrink shr)) fin⟩
    · have z : b ≠ s2.heap.objs.size := Nat.ne_of_lt (fplt b hb)
      rw [hH3, cD z]
      exact (f2 b hb).1
    · have ex := ki (o := .lst []) (ds := []) S1.mu hfree2 hK2
      rw [hH3]
      exact ⟨S1.mu.mut .nil hfree2 hK2, (S1.rho.ext S1.mu ex).cap⟩
    · rw [hH3]
      exact ki (o := .lst []) (ds := []) S1.mu hfree2 hK2
  have envE : (bH X N' scope cl fp s3 H3).env = compEnvC scope cl hp3.objs.size X.env := by show compEnvC scope cl s3.heap.objs.size X.env = _; rw [heap3]
  rw [envE] at loop
  exact codeAny_compStart_list loop (T.self X.A 0 _ _ _ (T.keep 0 _ _ st2 (fun b hb o e => kept3 b o (old3 b o e))) loop)
end
open PySem PySem.Spec PyProof.Rows
theorem Cg (bs : List Bool) : ((List.range bs.length).any fun i => (bs[i]?).getD false) = bs.any id := by
  rw [Bool.eq_iff_iff, List.any_eq_true, List.any_eq_true]
  constructor
  · rintro ⟨i, hi, h⟩
    have hl := List.mem_range.mp hi
    rw [List.getElem?_eq_getElem hl, Option.getD_some] at h
    exact ⟨bs[i], List.getElem_mem hl, h⟩
  · rintro ⟨b, hb, h⟩
    obtain ⟨i, hi, rfl⟩ := List.getElem_of_mem hb
    exact ⟨i, List.mem_range.mpr hi, by rw [List.getElem?_eq_getElem hi, Option.getD_some]; exact h⟩
section
variable {X : Cx} {a b e : Expr} {es : List Expr} {ta tb te : DTE} {t : DTA} {p pos : Pos} {x : Str} {bid T : String}
theorem DY (hc : X.calm = true) : g9 X (.builtin "any") (fun xs H Q => ∃ (p : Addr) (bs : List Bool), xs = [.ref p] ∧ H p = some (.lst (bs.map V.bl)) ∧ Q (.bl (bs.any id)) H) := by
  intro pins s σ H xs us Q I r h
  obtain ⟨l, bs, rfl, hl, q⟩ := h
  obtain ⟨u, rfl, rx⟩ := vals1 r
  cases rx
  obtain ⟨its, rv, pl, _⟩ := I.list (SqL.of hl)
  have eb := vm rv
  subst eb
  have hL := pl.isList
  have hlt := pl.lt
  refine call_any_walk (wpAny_pyIter_list hL ?_)
  refine ⟨s.heap.objs.size, [s.heap.objs.size, l], [s.heap.objs.size], (bs.map Value.bool).toArray.size, _, _, fun i => (bs[i]?).getD false, rfl, Walks.list (A := X.A.in1) (by exact I.ok.hd hc) _ l (Nat.ne_of_lt hlt) (bs.map Value.bool).toArray,
    ⟨⟨_, Heap.get?_push_size _ rfl, rfl, rfl⟩, hL.push _⟩, fun i v s' Q' E' hP hQ => ?_, fun h' tk hk => ?_⟩
  · have hP' : (bs.map Value.bool)[i]? = some v := by simpa using hP
    rw [List.getElem?_map] at hP'
    cases z : bs[i]? with
    | none => rw [z] at hP'; cases hP'
    | some b =>
      rw [z] at hP'
      cases hP'
      simp only [z, Option.getD_some] at hQ
      exact wpAny_truthy_bool hQ
  · have e : ((List.range (bs.map Value.bool).toArray.size).any fun i => (bs[i]?).getD false) = bs.any id := by
      rw [List.size_toArray, List.length_map]; exact Cg bs
    rw [e]
    exact ⟨.bl (bs.any id), H, I.kept (PyProof.Rows.LSm.kept_iter hk), rfl, q⟩
def Bi : List D → Mu → DK → Prop := fun xs μ Q => match xs with
  | [.v (.list ys)] => (match cS ys with | some bs => Q (.v (.bool (bs.any id))) μ | none => False)
  | _ => False
theorem K4 {K : PySem.W.Frag} : pE K (fun xs H Q => ∃ (p : Addr) (bs : List Bool), xs = [.ref p] ∧ H p = some (.lst (bs.map V.bl)) ∧ Q (.bl (bs.any id)) H) Bi := by
  intro xs us H μ Qd Q ok rs h k
  unfold Bi at h
  split at h
  · rename_i ys
    cases q : cS ys with
    | none => rw [q] at h; exact h.elim
    | some bs =>
      rw [q] at h
      cases rs with
      | cons r1 r2 =>
        cases r2
        cases r1 with
        | list hs hn r => exact ⟨_, bs, rfl, by rw [hs, pO r q], k (.v _) _ μ H .refl ok (Rp.bool _) h⟩
  · exact h.elim
theorem GY (hc : X.calm = true) (hg : Gl X "any") (hm : X.mg "any" = none) (ha : DA X (e :: es) t)
    (he : starEach (e :: es) X.env = (false, eval e X.env) :: starEach es X.env := by rfl) (hpl : (backTo pos (starEach es X.env)).any (·.1) = false := by rfl) : DE X (.Call (.Name "any" p) (e :: es) [] pos) (dCB Bi t) :=
  ly (DY hc) K4 hg hm PyProof.Rows.Boot.«any» ha (by decide) (by decide) he hpl
end
open PySem PySem.Spec PyProof.Rows
section
variable {X : Cx} {es : List Expr} {x1 : Nat} {tpos : Pos}
end
open PySem PySem.Spec PyProof.Rows
def sY (ns : List Int) : Nat := (PyProof.Rows.firstMet (fun i => ns.getD i 0) ns.length).length
def setAt (p : Addr) (n : Nat) (h : Heap) : Prop := ∃ o es ep t, h.get? p = some o ∧ o.ExactSet ∧ o.data = .set es ep t ∧ t.fits es.size = true ∧ (es.size : Int) < 2 ^ 63 ∧ es.size = n
theorem xE : ∀ {ns : List Int} {vs : List Value}, Vals (ns.map V.int) vs → IntsAre vs ns
  | [], _, .nil => .nil
  | n :: ns, _, .cons h t => by
    obtain ⟨tk, rfl⟩ := h
    exact .cons n tk (xE t)
section
variable {X : Cx} {e : Expr} {te : DTE} {p p2 pos pos2 : Pos}
theorem En (hc : X.calm = true) : g9 X (.type "set") (fun xs H Q => ∃ (l : Addr) (ns : List Int), xs = [.ref l] ∧ H l = some (.lst (ns.map V.int)) ∧ ns.length ≤ 1000 ∧ ∀ q, H q = none → Q (.ref q) (upd H q (.ext (setAt q (sY ns))))) := by
  intro pins s σ H xs us Q I r h
  obtain ⟨l, ns, rfl, hl, hn, q⟩ := h
  obtain ⟨u, rfl, rx⟩ := vals1 r
  cases rx
  obtain ⟨its, rv, pl, _⟩ := I.list (SqL.of hl)
  have hi := xE rv
  have hlen : its.length = ns.length := IntsAre.length hi
  refine PySem.call_set_list (items := its.toArray) (ns := ns) (I.ok.hd hc) pl.isList (by simpa using hi) (by unfold scanBound; simp; omega) fun h' tk hS hk => ?_
  obtain ⟨o, es, ep, t, ho, hex, hd, _, _, hb, hf, hn'⟩ := hS
  have hsz : its.toArray.size = ns.length := by simpa using hlen
  rw [hsz] at hn'
  have h63 : (es.size : Int) < 2 ^ 63 := by
    have : (es.size : Int) < 4096 := by unfold scanBound at hb; omega
    exact Int.lt_of_lt_of_le this (by decide)
  refine ⟨.ref s.heap.objs.size, _, I.laid (t' := tk) (fun b o' e' => hk b o' (Heap.lt_size e') e') (Nat.le_refl _) (o := .ext (setAt s.heap.objs.size (sY ns))) ⟨⟨o, es, ep, t, ho, hex, hd, hf, h63, hn'⟩, ⟨o, ho⟩, ?_⟩, rfl, q _ (I.hok.fresh (Nat.le_refl _))⟩
  rintro h1 h2 ⟨o, es, ep, t, ho, hex, hd, hf, h63, hn'⟩ k
  exact ⟨o, es, ep, t, k o ho, hex, hd, hf, h63, hn'⟩
theorem Ea : g9 X (.builtin "len") (fun xs H Q => ∃ (q : Addr) (n : Nat), xs = [.ref q] ∧ H q = some (.ext (setAt q n)) ∧ Q (.int n) H) := by
  intro pins s σ H xs us Q I r h
  obtain ⟨q, n, rfl, hq, hQ⟩ := h
  obtain ⟨u, rfl, rx⟩ := vals1 r
  cases rx
  obtain ⟨⟨o, es, ep, t, ho, hex, hd, hf, h63, rfl⟩, _, _⟩ := I.hok q _ hq
  refine PySem.call_len_set ho hex hd hf h63 ?_
  exact ⟨.int es.size, H, I.kept (h' := s.heap) (t' := s.toks + 1 + 1) (fun _ _ e => e), ⟨_, rfl⟩, hQ⟩
def yp (te : DTE) : DTE := fun ρ μ Q => te ρ μ fun d μ1 => match d with
  | .v (.list ys) => (match iw ys with | some ns => ns.length ≤ 1000 ∧ Q (.v (.int (sY ns))) μ1 | none => False)
  | _ => False
theorem GB {ρ : Rho} {μ : Mu} {Q : DK} : yp te ρ μ Q = te ρ μ fun d μ1 => match d with
  | .v (.list ys) => (match iw ys with | some ns => ns.length ≤ 1000 ∧ Q (.v (.int (sY ns))) μ1 | none => False)
  | _ => False := propext Iff.rfl
theorem D0 (hc : X.calm = true) (hg : Gl X "len") (hm : X.mg "len" = none) (hg2 : Gl X "set") (hm2 : X.mg "set" = none) (h : DE X e te)
    (he : starEach [Expr.Call (.Name "set" p2) [e] [] pos2] X.env = (false, eval (Expr.Call (.Name "set" p2) [e] [] pos2) X.env) :: starEach [] X.env := by rfl)
    (he2 : starEach [e] X.env = (false, eval e X.env) :: starEach [] X.env := by rfl) : DE X (.Call (.Name "len" p) [.Call (.Name "set" p2) [e] [] pos2] [] pos) (yp te) := by
  obtain ⟨t1, p1, l1⟩ := h
  refine ⟨_, vy Ea hg hm PyProof.Rows.Boot.«len» (oM (xw (En hc) hg2 hm2 PyProof.Rows.Boot.«set» (oM p1 uU he2) (by decide) (by decide) he2 rfl) uU he) (by decide) (by decide) he rfl, fun σ H ρ μ Qd Q S q k => ?_⟩
  refine l1 σ H ρ μ _ _ S q fun d u μ1 H1 e1 S1 r h1 => ?_
  split at h1
  · rename_i ys
    cases z : iw ys with
    | none => rw [z] at h1; exact h1.elim
    | some ns =>
      rw [z] at h1
      cases r with
      | @list a us _ ha hn ra =>
        have eu := xB ra z
        subst eu
        refine ⟨a, ns, rfl, ha, h1.1, fun q hq => ⟨q, sY ns, rfl, iV, ?_⟩⟩
        have ex : Ext X.K μ1 H1 μ1 (upd H1 q (.ext (setAt q (sY ns)))) := fX hq
        exact k (.v (.int (sY ns))) _ μ1 _ (e1.trans ex) ⟨S1.mu.new hq, S1.rho.ext S1.mu ex⟩ (Rp.int _) h1.2
  · exact h1.elim
end
open PySem PySem.Spec PyProof.Rows
def QT (ds : List D) : PQ := fun K u μ H => ∃ a us, u = .ref a ∧ H a = some (.tup us) ∧ kz K μ H ds us
section
variable {X : Cx} {pins : List (Addr × Obj)} {σ : St} {H : Hp} {s : Shared}
end
section
variable {K : PySem.W.Frag} {μ : Mu} {H : Hp} {a : Addr} {us : List V} {ds : List D}
end
section
variable {X : Cx} {es : List Expr} {t : DTA} {pos : Pos}
end
open PySem PySem.Spec PyProof.Rows
open PySem PySem.Spec PyProof.Rows
open PySem PySem.Spec PyProof.Rows
section
variable {X : Cx} {o e : Expr} {to te : DTE} {apos cpos : Pos}
end
section
variable {X : Cx} {E : XK} {C : Value} {a b : Expr} {tx : DTX} {pos : Pos}
end
section
variable {X : Cx}
end
open PySem PySem.Spec PyProof.Rows
section
variable {X : Cx}
end
end L2.DL
set_option linter.all false
set_option maxRecDepth 100000
set_option maxHeartbeats 1000000
namespace NM
section
variable {d : Int} {x y z k s o : N3} {A B C A' B' C' P Q R E F G : Int}
theorem Rep.conv (h : Rep x A B C) (hc : C' ≠ 0) (e1 : A * C' = A' * C) (e2 : B * C' = B' * C) : Rep x A' B' C' := by
  obtain ⟨h0, h1, h2⟩ := h
  refine ⟨hc, Int.eq_of_mul_eq_mul_right h0 ?_, Int.eq_of_mul_eq_mul_right h0 ?_⟩
  · have : x.a * C' * C = (x.a * C) * C' := by grind
    rw [this, h1]
    have : A * x.c * C' = (A * C') * x.c := by grind
    rw [this, e1]
    grind
  · have : x.b * C' * C = (x.b * C) * C' := by grind
    rw [this, h2]
    have : B * x.c * C' = (B * C') * x.c := by grind
    rw [this, e2]
    grind
theorem zI (h : Rep x A B C) (ox : Ok x) : x.b = 0 ↔ B = 0 := by
  have e := h.b
  constructor
  · intro z
    rw [z, Int.zero_mul] at e
    exact (Int.mul_eq_zero.mp e.symm).resolve_right ox.cn
  · intro z
    rw [z, Int.zero_mul] at e
    exact (Int.mul_eq_zero.mp e).resolve_right h.c
theorem pD {u v : Int} (hv : v ≠ 0) : 0 ≤ u * (v * v) ↔ 0 ≤ u := by
  have h := sq_pos hv
  constructor
  · intro z
    rcases Int.lt_or_le u 0 with w | w
    · have := Int.mul_neg_of_neg_of_pos w h; omega
    · exact w
  · intro z; exact Int.mul_nonneg z (Int.le_of_lt h)
theorem gK {u v : Int} (hv : 0 < v) : 0 ≤ u * v ↔ 0 ≤ u := by
  constructor
  · intro z
    rcases Int.lt_or_le u 0 with w | w
    · have := Int.mul_neg_of_neg_of_pos w hv; omega
    · exact w
  · intro z; exact Int.mul_nonneg z (Int.le_of_lt hv)
theorem G8 {u v : Int} (hv : v < 0) : 0 ≤ u * v ↔ u ≤ 0 := by
  have := gK (u := -u) (v := -v) (by omega)
  rw [Int.neg_mul_neg] at this
  omega
def bN (d : Int) (x : N3) : Bool := decide (x.b = 0) && decide (0 ≤ sg d x.a x.b)
theorem sg0 {n : Int} : 0 ≤ sg d n 0 ↔ 0 ≤ n := by
  rw [kL]
  split
  · omega
  · split <;> omega
theorem oB (ox : Ok x) (h : Rep x A 0 C) : bN d x = true ↔ 0 ≤ A * C := by
  have hb := (zI h ox).mpr rfl
  unfold bN
  rw [hb]
  simp only [decide_true, Bool.true_and, decide_eq_true_eq, sg0]
  have e := h.a
  rw [← gK ox.c, ← pD (u := x.a * x.c) h.c]
  have e2 : x.a * x.c * (C * C) = (A * C) * (x.c * x.c) := by
    have : x.a * x.c * (C * C) = (x.a * C) * (x.c * C) := by grind
    rw [this, e]; grind
  rw [e2, pD ox.cn]
def shA (d : Int) (k s : N3) : N3 := times d s (au d k)
def prt (d : Int) (k : N3) : N3 := times d (au d k) (au d k)
def shV (d : Int) (k s : N3) : N3 := low ((shA d k s).b * (prt d k).c) 0 ((shA d k s).c * (prt d k).b)
def shU (d : Int) (k s : N3) : N3 := less (shA d k s) (times d (shV d k s) (prt d k))
def ff (d : Int) (k s : N3) : N3 := if (times d k k).b = 0 then shA d k s else shU d k s
def eW (d : Int) (k s : N3) : N3 := if (times d k k).b = 0 then aE else shV d k s
def de (d : Int) (k s : N3) : Bool := bN d (ff d k s) && bN d (eW d k s)
theorem Ls {a b c : Int} (hc : c ≠ 0) : (low a b c).b = 0 ↔ b = 0 := zI (iO hc) (ip _ _ hc)
theorem cN (ok : Ok k) : (times d k k).b = 0 ↔ k.a * k.b = 0 := by
  unfold times
  rw [Ls (pP ok ok)]
  have : k.a * k.b + k.b * k.a = 2 * (k.a * k.b) := by grind
  omega
theorem oJ (hn : norm d k ≠ 0) : Rep (au d k) (k.c * k.a) (-k.c * k.b) (norm d k) := iO hn
theorem C6 (ok : Ok k) (hn : norm d k ≠ 0) (rk : Rep k P Q R) : P * P - d * Q * Q ≠ 0 := fun z => by
  have h := rk.norm (d := d)
  rw [z, Int.zero_mul] at h
  rcases Int.mul_eq_zero.mp h with w | w
  · exact hn w
  · rcases Int.mul_eq_zero.mp w with w | w <;> exact rk.c w
theorem eK (os : Ok s) (hn : norm d k ≠ 0) : Ok (shA d k s) := ah os (ax hn)
theorem uT (hn : norm d k ≠ 0) : Ok (prt d k) := ah (ax hn) (ax hn)
theorem rf (ok : Ok k) (os : Ok s) (hn : norm d k ≠ 0) (rk : Rep k P Q R) (rs : Rep s E F G) : Rep (shA d k s) (R * (E * P - d * F * Q)) (R * (F * P - E * Q)) (G * (P * P - d * Q * Q)) :=
  (Rep.times os (ax hn) rs (rk.au ok hn)).congr (by grind) (by grind) rfl
theorem Fh (ok : Ok k) (hn : norm d k ≠ 0) (rk : Rep k P Q R) : Rep (prt d k) (R * R * (P * P + d * Q * Q)) (-(2 * (R * R * (P * Q)))) ((P * P - d * Q * Q) * (P * P - d * Q * Q)) :=
  (Rep.times (ax hn) (ax hn) (rk.au ok hn) (rk.au ok hn)).congr (by grind) (by grind) rfl
theorem zT (ok : Ok k) (hn : norm d k ≠ 0) (rk : Rep k P Q R) (hab : P * Q ≠ 0) : (prt d k).b ≠ 0 := fun z => by
  have := (zI (Fh ok hn rk) (uT hn)).mp z
  have h2 : R * R * (P * Q) = 0 := by omega
  exact (Int.mul_ne_zero (Int.mul_ne_zero rk.c rk.c) hab) h2
theorem Ft (ok : Ok k) (rk : Rep k P Q R) : P * Q = 0 ↔ k.a * k.b = 0 := by
  have e : (k.a * k.b) * (R * R) = (P * Q) * (k.c * k.c) := by
    have h1 := rk.a
    have h2 := rk.b
    have : (k.a * k.b) * (R * R) = (k.a * R) * (k.b * R) := by grind
    rw [this, h1, h2]; grind
  constructor
  · intro z
    rw [z, Int.zero_mul] at e
    exact (Int.mul_eq_zero.mp e).resolve_right (Int.mul_ne_zero rk.c rk.c)
  · intro z
    rw [z, Int.zero_mul] at e
    exact (Int.mul_eq_zero.mp e.symm).resolve_right (Int.mul_ne_zero ok.cn ok.cn)
theorem vv {wb wc pb pc r D g M N : Int} (e1 : wb * (g * N) = r * D * wc) (e2 : pb * (N * N) = -(2 * (r * r * M)) * pc) (hK : g * N * (N * N) ≠ 0) : wb * pc * (2 * (g * r * M)) = N * -D * (wc * pb) := by
  apply Int.eq_of_mul_eq_mul_right hK
  have a1 : wb * pc * (2 * (g * r * M)) * (g * N * (N * N)) = (wb * (g * N)) * (pc * (2 * (g * r * M)) * (N * N)) := by grind
  have a2 : N * -D * (wc * pb) * (g * N * (N * N)) = (N * -D * wc * (g * N)) * (pb * (N * N)) := by grind
  rw [a1, a2, e1, e2]
  grind
theorem pK (ok : Ok k) (os : Ok s) (hn : norm d k ≠ 0) (rk : Rep k P Q R) (rs : Rep s E F G) (hab : P * Q ≠ 0) : Rep (shV d k s) ((P * P - d * Q * Q) * (E * Q - F * P)) 0 (2 * (G * R * (P * Q))) := by
  have ra := rf ok os hn rk rs
  have rp := Fh ok hn rk
  have hN := C6 ok hn rk
  have h1 := ra.b
  have h2 := rp.b
  have hc : (shA d k s).c * (prt d k).b ≠ 0 := Int.mul_ne_zero (eK os hn).cn (zT ok hn rk hab)
  have h0 := iO (a := (shA d k s).b * (prt d k).c) (b := 0) hc
  have hC : 2 * (G * R * (P * Q)) ≠ 0 := Int.mul_ne_zero (by decide) (Int.mul_ne_zero (Int.mul_ne_zero rs.c rk.c) hab)
  refine Rep.conv h0 hC ?_ (by simp)
  have := vv h1 h2 (Int.mul_ne_zero (Int.mul_ne_zero rs.c hN) (Int.mul_ne_zero hN hN))
  rw [this]
  grind
theorem sI (ok : Ok k) (os : Ok s) (hn : norm d k ≠ 0) (hab : k.a * k.b ≠ 0) : Ok (shV d k s) := ip _ _ (Int.mul_ne_zero (eK os hn).cn (zT ok hn (ai ok) hab))
theorem uu {e f g p q r d N : Int} (hN : N = p * p - d * q * q) : (r * (e * p - d * f * q) * (2 * (g * (p * q) * N)) - r * (e * q - f * p) * (p * p + d * q * q) * (g * N)) * (2 * (g * (p * q))) = r * (e * q + f * p) * (g * N * (2 * (g * (p * q) * N))) := by
  have key : (e * p - d * f * q) * (2 * (p * q)) - (e * q - f * p) * (p * p + d * q * q) = (e * q + f * p) * N := by subst hN; grind
  have : (r * (e * p - d * f * q) * (2 * (g * (p * q) * N)) - r * (e * q - f * p) * (p * p + d * q * q) * (g * N)) = r * g * N * ((e * p - d * f * q) * (2 * (p * q)) - (e * q - f * p) * (p * p + d * q * q)) := by grind
  rw [this, key]
  grind
theorem qx (ok : Ok k) (os : Ok s) (hn : norm d k ≠ 0) (rk : Rep k P Q R) (rs : Rep s E F G) (hab : P * Q ≠ 0) : Rep (shU d k s) (R * (E * Q + F * P)) 0 (2 * (G * (P * Q))) := by
  have ra := rf ok os hn rk rs
  have rp := Fh ok hn rk
  have rv := pK ok os hn rk rs hab
  have hN := C6 ok hn rk
  have hab' : k.a * k.b ≠ 0 := fun z => hab ((Ft ok rk).mpr z)
  have oa := eK (s := s) os hn
  have op := uT (k := k) hn
  have ov := sI ok os hn hab'
  have rt := Rep.times (d := d) ov op rv rp
  generalize hM : P * P - d * Q * Q = N at *
  have hC2 : 2 * (G * (P * Q) * N) ≠ 0 := Int.mul_ne_zero (by decide) (Int.mul_ne_zero (Int.mul_ne_zero rs.c hab) hN)
  have rt2 : Rep (times d (shV d k s) (prt d k)) (R * (E * Q - F * P) * (P * P + d * Q * Q)) (-(2 * (R * (E * Q - F * P) * (P * Q)))) (2 * (G * (P * Q) * N)) := by
    refine rt.conv hC2 ?_ ?_
    · generalize E * Q - F * P = T
      generalize P * P + d * Q * Q = S
      generalize P * Q = M
      grind
    · generalize E * Q - F * P = T
      generalize P * P + d * Q * Q = S
      generalize P * Q = M
      grind
  have rl := Rep.less oa (ah ov op) ra rt2
  have hC : 2 * (G * (P * Q)) ≠ 0 := Int.mul_ne_zero (by decide) (Int.mul_ne_zero rs.c hab)
  refine rl.conv hC ?_ ?_
  · exact uu hM.symm
  · rw [Int.zero_mul]
    have : R * (F * P - E * Q) * (2 * (G * (P * Q) * N)) - -(2 * (R * (E * Q - F * P) * (P * Q))) * (G * N) = 0 := by grind
    rw [this, Int.zero_mul]
end
end NM
set_option linter.all false
set_option maxRecDepth 100000
set_option maxHeartbeats 4000000
namespace NM
section
variable {d : Int} {x y z : N3}
theorem ry1 (d a b a' b' p q : Int) (h1 : a' * p = a * q) (h2 : b' * p = b * q ∨ b' * p = -b * q) : (a' * a' - d * b' * b') * (p * p) = (a * a - d * b * b) * (q * q) := by
  have e1 : a' * a' * (p * p) = a * a * (q * q) := by
    have : (a' * p) * (a' * p) = (a * q) * (a * q) := by rw [h1]
    grind
  have e2 : b' * b' * (p * p) = b * b * (q * q) := by
    have : (b' * p) * (b' * p) = (b * q) * (b * q) := by
      rcases h2 with h | h <;> rw [h] <;> grind
    grind
  have : (a' * a' - d * b' * b') * (p * p) = a' * a' * (p * p) - d * (b' * b' * (p * p)) := by grind
  rw [this, e1, e2]
  grind
theorem LF (ox : Ok x) (hn : norm d x ≠ 0) : (au d x).a * norm d x = x.a * (x.c * (au d x).c) := by
  have := ((ai ox).au ox hn).a
  have e : x.a * x.a - d * x.b * x.b = norm d x := rfl
  rw [e] at this
  rw [this]; grind
theorem LN (ox : Ok x) (hn : norm d x ≠ 0) : (au d x).b * norm d x = -x.b * (x.c * (au d x).c) := by
  have := ((ai ox).au ox hn).b
  have e : x.a * x.a - d * x.b * x.b = norm d x := rfl
  rw [e] at this
  rw [this]; grind
section
variable {f : N3}
theorem Dy (h : 0 < f.a) (fb : f.b = 0) : sg d f.a f.b = 1 := by rw [fb, kL, if_neg (by omega), if_pos h]
end
theorem Dc (hd : aB d) (ox : Ok x) (nx : norm d x ≠ 0) : (bG d x).b = 0 := by
  have := (ll hd ox nx).b
  rw [Int.zero_mul] at this
  exact (Int.mul_eq_zero.mp this).resolve_right nx
theorem xZ (hd : aB d) (ox : Ok x) (nx : norm d x < 0) : (bG d x).a ≤ 0 := by
  have r := (ll hd ox (by omega)).a
  have hc := (fP hd (show norm d x ≠ 0 by omega) ox).c
  refine Int.not_lt.mp fun h => ?_
  have h1 : (bG d x).a * norm d x < 0 := Int.mul_neg_of_pos_of_neg h nx
  have h2 : 0 ≤ 4 * (x.a * x.a) * (bG d x).c := Int.mul_nonneg (Int.mul_nonneg (by decide) (sq_nonneg _)) (Int.le_of_lt hc)
  omega
end
end NM
set_option linter.all false
set_option maxRecDepth 100000
set_option maxHeartbeats 4000000
namespace NM
def Ht (d : Int) (n : Nat) (x : N3) : Prop := ∃ a b e f : Int, Sz n a ∧ Sz n b ∧ Sz n e ∧ Sz n f ∧ e * e - d * f * f ≠ 0 ∧ x.a * e + d * x.b * f = a * x.c ∧ x.a * f + x.b * e = b * x.c
section
variable {d : Int} {n m : Nat} {x y : N3}
theorem Ht.mono (h : Ht d n x) (l : n ≤ m) : Ht d m x := by
  obtain ⟨a, b, e, f, h1, h2, h3, h4, r⟩ := h
  exact ⟨a, b, e, f, h1.mono l, h2.mono l, h3.mono l, h4.mono l, r⟩
theorem sz0 : Sz n 0 := Sz.of (by simp; exact Nat.pos_of_ne_zero (by simp))
end
end NM
set_option linter.all false
set_option maxRecDepth 100000
set_option maxHeartbeats 4000000
namespace NM
section
variable {d : Int} {x y z : N3}
def gtL (d : Int) (k o : N3) : Prop := ((bG d o).a.natAbs : Int) * (bG d k).c < ((bG d k).a.natAbs : Int) * (bG d o).c
instance : Decidable (gtL d x y) := by unfold gtL; infer_instance
theorem Bo (hd : aB d) (ox : Ok x) (nx : 0 < norm d x) : 0 ≤ (bG d x).a := by
  have r := (ll hd ox (show norm d x ≠ 0 by omega)).a
  have hc := (fP hd (show norm d x ≠ 0 by omega) ox).c
  refine Int.not_lt.mp fun h => ?_
  have h1 : (bG d x).a * norm d x < 0 := Int.mul_neg_of_neg_of_pos h nx
  have h2 : 0 ≤ 4 * (x.a * x.a) * (bG d x).c := Int.mul_nonneg (Int.mul_nonneg (by decide) (sq_nonneg _)) (Int.le_of_lt hc)
  omega
theorem Ly (hd : aB d) (ox : Ok x) (oy : Ok y) (nx : norm d x ≠ 0) (ny : norm d y ≠ 0) : Iy d (bG d y) (bG d x) = 1 ↔ (bG d x).a * (bG d y).c < (bG d y).a * (bG d x).c := by
  unfold Iy
  rw [Dc hd ox nx, Dc hd oy ny]
  rw [show (0 : Int) * (bG d x).c - 0 * (bG d y).c = 0 by omega, kL]
  constructor
  · intro h
    split at h
    · cases h
    · split at h
      · omega
      · cases h
  · intro h
    rw [if_neg (by omega), if_pos (by omega)]
theorem JY (hd : aB d) (ox : Ok x) (oy : Ok y) (nx : 0 < norm d x) (ny : 0 < norm d y) : Iy d (bG d y) (bG d x) = 1 ↔ gtL d y x := by
  rw [Ly hd ox oy (by omega) (by omega)]
  unfold gtL
  have h1 := Bo hd ox nx
  have h2 := Bo hd oy ny
  rw [show ((bG d x).a.natAbs : Int) = (bG d x).a by omega, show ((bG d y).a.natAbs : Int) = (bG d y).a by omega]
theorem Ki (hd : aB d) (ox : Ok x) (oy : Ok y) (nx : norm d x < 0) (ny : norm d y < 0) : Iy d (bG d x) (bG d y) = 1 ↔ gtL d y x := by
  rw [Ly hd oy ox (by omega) (by omega)]
  unfold gtL
  have h1 := xZ hd ox nx
  have h2 := xZ hd oy ny
  rw [show ((bG d x).a.natAbs : Int) = -(bG d x).a by omega, show ((bG d y).a.natAbs : Int) = -(bG d y).a by omega, Int.neg_mul, Int.neg_mul]
  omega
end
end NM
set_option linter.all false
set_option maxRecDepth 100000
set_option maxHeartbeats 400000
namespace NM
section
variable {d : Int} {x y z k s o f : N3}
def Lay (d : Int) (k s : N3) : Prop := (0 < norm d k ∧ 0 < norm d s ∧ s.b * s.b * (k.a * k.a) ≤ s.a * s.a * (k.b * k.b)) ∨ (norm d k < 0 ∧ norm d s < 0 ∧ s.a * s.a * (k.b * k.b) ≤ s.b * s.b * (k.a * k.a))
theorem EV {u v : Int} (hv : 0 ≤ v) (h : u * u ≤ v * v) : 0 ≤ v + u ∧ 0 ≤ v - u := by
  rcases Int.lt_or_le u 0 with w | w
  · have := Dg (u := -u) (v := v) (by omega) (by rw [Int.neg_mul_neg]; exact h) hv
    omega
  · have := Dg w h hv
    omega
theorem ly1 {d P Q E F : Int} (hd : 0 < d) (hQ : Q ≠ 0) (hP : P ≠ 0) (hN : d * Q * Q < P * P) (h1 : 0 ≤ (E * Q + F * P) * (P * Q)) (h2 : 0 ≤ (E * Q - F * P) * (P * Q)) : F * F * (P * P) ≤ E * E * (Q * Q) ∧ d * F * F ≤ E * E := by
  have h := Int.mul_nonneg h1 h2
  have e : (E * Q + F * P) * (P * Q) * ((E * Q - F * P) * (P * Q)) = (E * E * (Q * Q) - F * F * (P * P)) * ((P * Q) * (P * Q)) := by grind
  rw [e, pD (Int.mul_ne_zero hP hQ)] at h
  refine ⟨by omega, ?_⟩
  have h3 : 0 ≤ (P * P - d * Q * Q) * (F * F) := Int.mul_nonneg (by omega) (sq_nonneg F)
  have e2 : (P * P - d * Q * Q) * (F * F) = F * F * (P * P) - d * F * F * (Q * Q) := by grind
  have h4 : 0 ≤ (E * E - d * F * F) * (Q * Q) := by
    have : (E * E - d * F * F) * (Q * Q) = E * E * (Q * Q) - d * F * F * (Q * Q) := by grind
    rw [this]; omega
  rw [pD hQ] at h4
  omega
theorem ly2 {P Q E F : Int} (hP : 0 < P) (hE : 0 ≤ E) (h : F * F * (P * P) ≤ E * E * (Q * Q)) : 0 ≤ (E * Q + F * P) * (P * Q) ∧ 0 ≤ (E * Q - F * P) * (P * Q) := by
  have hX : 0 ≤ E * P * (Q * Q) := Int.mul_nonneg (Int.mul_nonneg hE (by omega)) (sq_nonneg Q)
  have hs : (F * (P * P) * Q) * (F * (P * P) * Q) ≤ (E * P * (Q * Q)) * (E * P * (Q * Q)) := by
    have h1 := Int.mul_nonneg (show 0 ≤ E * E * (Q * Q) - F * F * (P * P) by omega) (sq_nonneg (P * Q))
    have e1 : (E * E * (Q * Q) - F * F * (P * P)) * (P * Q * (P * Q)) = (E * P * (Q * Q)) * (E * P * (Q * Q)) - (F * (P * P) * Q) * (F * (P * P) * Q) := by grind
    omega
  obtain ⟨a1, a2⟩ := EV hX hs
  have e1 : (E * Q + F * P) * (P * Q) = E * P * (Q * Q) + F * (P * P) * Q := by grind
  have e2 : (E * Q - F * P) * (P * Q) = E * P * (Q * Q) - F * (P * P) * Q := by grind
  rw [e1, e2]
  exact ⟨a1, a2⟩
theorem ly3 {d P Q E F : Int} (hd : 0 < d) (hQ : Q ≠ 0) (hP : P ≠ 0) (hN : P * P < d * Q * Q) (h1 : 0 ≤ (E * Q + F * P) * (P * Q)) (h2 : (E * Q - F * P) * (P * Q) ≤ 0) : E * E * (Q * Q) ≤ F * F * (P * P) ∧ E * E ≤ d * F * F := by
  have h := Int.mul_nonneg h1 (show 0 ≤ -((E * Q - F * P) * (P * Q)) by omega)
  have e : (E * Q + F * P) * (P * Q) * -((E * Q - F * P) * (P * Q)) = (F * F * (P * P) - E * E * (Q * Q)) * ((P * Q) * (P * Q)) := by grind
  rw [e, pD (Int.mul_ne_zero hP hQ)] at h
  refine ⟨by omega, ?_⟩
  have h3 : 0 ≤ (d * Q * Q - P * P) * (F * F) := Int.mul_nonneg (by omega) (sq_nonneg F)
  have e2 : (d * Q * Q - P * P) * (F * F) = d * F * F * (Q * Q) - F * F * (P * P) := by grind
  have h4 : 0 ≤ (d * F * F - E * E) * (Q * Q) := by
    have : (d * F * F - E * E) * (Q * Q) = d * F * F * (Q * Q) - E * E * (Q * Q) := by grind
    rw [this]; omega
  rw [pD hQ] at h4
  omega
theorem ly4 {P Q E F : Int} (hQ : 0 < Q) (hF : 0 ≤ F) (h : E * E * (Q * Q) ≤ F * F * (P * P)) : 0 ≤ (E * Q + F * P) * (P * Q) ∧ (E * Q - F * P) * (P * Q) ≤ 0 := by
  have hY : 0 ≤ F * (P * P) * Q := Int.mul_nonneg (Int.mul_nonneg hF (sq_nonneg P)) (by omega)
  have hs : (E * P * (Q * Q)) * (E * P * (Q * Q)) ≤ (F * (P * P) * Q) * (F * (P * P) * Q) := by
    have h1 := Int.mul_nonneg (show 0 ≤ F * F * (P * P) - E * E * (Q * Q) by omega) (sq_nonneg (P * Q))
    have e1 : (F * F * (P * P) - E * E * (Q * Q)) * (P * Q * (P * Q)) = (F * (P * P) * Q) * (F * (P * P) * Q) - (E * P * (Q * Q)) * (E * P * (Q * Q)) := by grind
    omega
  obtain ⟨a1, a2⟩ := EV hY hs
  have e1 : (E * Q + F * P) * (P * Q) = F * (P * P) * Q + E * P * (Q * Q) := by grind
  have e2 : (E * Q - F * P) * (P * Q) = -(F * (P * P) * Q - E * P * (Q * Q)) := by grind
  rw [e1, e2]
  exact ⟨a1, by omega⟩
theorem Ju (hd : aB d) (hs : sg d s.a s.b = 1) (hn : 0 < norm d s) : 0 < s.a := by
  have h : d * s.b * s.b < s.a * s.a := by have : norm d s = s.a * s.a - d * s.b * s.b := rfl; omega
  exact (mv hd h).mp ((i9 hd).mp hs)
theorem IM (hd : aB d) (hs : sg d s.a s.b = 1) (hn : norm d s < 0) : 0 < s.b := by
  have h : s.a * s.a < d * s.b * s.b := by have : norm d s = s.a * s.a - d * s.b * s.b := rfl; omega
  exact (jU hd h).mp ((i9 hd).mp hs)
theorem zr : bN d aE = true := by
  unfold bN
  rw [show aE.b = 0 from rfl, show aE.a = 0 from rfl, show sg d 0 0 = 0 from dZ.mpr ⟨rfl, rfl⟩]
  rfl
theorem sgA (hd : aB d) (ok : Ok k) (os : Ok s) (hk : sg d k.a k.b = 1) (hs : sg d s.a s.b = 1) : sg d (shA d k s).a (shA d k s).b = 1 := by
  have hn := aZ hd ok hk
  unfold shA
  rw [bT hd os (ax hn), hs, eZ hd ok hk]
  rfl
theorem Fi (hd : aB d) (ok : Ok k) (os : Ok s) (hk : sg d k.a k.b = 1) (hs : sg d s.a s.b = 1) (hl : k.a * k.b = 0) : de d k s = true ↔ s.b * k.a = s.a * k.b := by
  have hn := aZ hd ok hk
  unfold de ff eW
  rw [if_pos ((cN ok).mpr hl), if_pos ((cN ok).mpr hl), zr, Bool.and_true]
  unfold bN
  rw [sgA hd ok os hk hs]
  simp only [show decide ((0 : Int) ≤ 1) = true from rfl, Bool.and_true, decide_eq_true_eq]
  rw [zI (rf ok os hn (ai ok) (ai os)) (eK os hn)]
  constructor
  · intro h
    have := (Int.mul_eq_zero.mp h).resolve_left ok.cn
    omega
  · intro h
    rw [show s.b * k.a - s.a * k.b = 0 by omega, Int.mul_zero]
theorem Hr (hd : aB d) (ok : Ok k) (os : Ok s) (hk : sg d k.a k.b = 1) (hl : k.a * k.b ≠ 0) : de d k s = true ↔ 0 ≤ (s.a * k.b + s.b * k.a) * (k.a * k.b) ∧ 0 ≤ norm d k * ((s.a * k.b - s.b * k.a) * (k.a * k.b)) := by
  have hn := aZ hd ok hk
  have hl' : ¬ (times d k k).b = 0 := fun z => hl ((cN ok).mp z)
  unfold de ff eW
  rw [if_neg hl', if_neg hl', Bool.and_eq_true]
  have ru := qx ok os hn (ai ok) (ai os) hl
  have rv := pK ok os hn (ai ok) (ai os) hl
  have ou : Ok (shU d k s) := j8 (eK os hn) (ah (sI ok os hn hl) (uT hn))
  rw [oB ou ru, oB (sI ok os hn hl) rv]
  have hc := ok.c
  have hg := os.c
  have e1 : k.c * (s.a * k.b + s.b * k.a) * (2 * (s.c * (k.a * k.b))) = (s.a * k.b + s.b * k.a) * (k.a * k.b) * (2 * (k.c * s.c)) := by grind
  have e2 : (k.a * k.a - d * k.b * k.b) * (s.a * k.b - s.b * k.a) * (2 * (s.c * k.c * (k.a * k.b))) = norm d k * ((s.a * k.b - s.b * k.a) * (k.a * k.b)) * (2 * (k.c * s.c)) := by
    show norm d k * _ * _ = _
    grind
  have hp : 0 < 2 * (k.c * s.c) := Int.mul_pos (by decide) (Int.mul_pos hc hg)
  rw [e1, e2, gK hp, gK hp]
theorem oj (hd : aB d) (ok : Ok k) (os : Ok s) (hk : sg d k.a k.b = 1) (hs : sg d s.a s.b = 1) : de d k s = true ↔ Lay d k s := by
  have hn := aZ hd ok hk
  have hm := aZ hd os hs
  have d0 : 0 < d := by have := hd.1; omega
  have nk : norm d k = k.a * k.a - d * k.b * k.b := rfl
  have ns : norm d s = s.a * s.a - d * s.b * s.b := rfl
  by_cases hl : k.a * k.b = 0
  · rw [Fi hd ok os hk hs hl]
    rcases Int.mul_eq_zero.mp hl with h0 | h0
    · have kb : k.b ≠ 0 := fun z => by rw [h0, z] at nk; simp at nk; exact hn nk
      have n1 : norm d k < 0 := by
        have := Int.mul_pos d0 (sq_pos kb)
        rw [nk, h0, Int.mul_assoc]; simp; omega
      rw [h0, Int.mul_zero]
      constructor
      · intro h
        have hE : s.a = 0 := (Int.mul_eq_zero.mp h.symm).resolve_right kb
        have sb : s.b ≠ 0 := fun z => by rw [hE, z] at ns; simp at ns; exact hm ns
        refine .inr ⟨n1, ?_, ?_⟩
        · have := Int.mul_pos d0 (sq_pos sb)
          rw [ns, hE, Int.mul_assoc]; simp; omega
        · rw [hE]; simp [h0]
      · rintro (⟨z, _⟩ | ⟨_, _, h⟩)
        · omega
        · rw [h0] at h
          simp only [Int.mul_zero] at h
          have h2 := Int.mul_nonneg (sq_nonneg s.a) (sq_nonneg k.b)
          have h3 : s.a * s.a * (k.b * k.b) = 0 := by omega
          have h4 := (Int.mul_eq_zero.mp h3).resolve_right (Int.mul_ne_zero kb kb)
          have h5 : s.a = 0 := by rcases Int.mul_eq_zero.mp h4 with w | w <;> exact w
          rw [h5]; simp
    · have ka : k.a ≠ 0 := fun z => by rw [h0, z] at nk; simp at nk; exact hn nk
      have n1 : 0 < norm d k := by
        have := sq_pos ka
        rw [nk, h0]; simp; omega
      rw [h0, Int.mul_zero]
      constructor
      · intro h
        have hF : s.b = 0 := (Int.mul_eq_zero.mp h).resolve_right ka
        have sa : s.a ≠ 0 := fun z => by rw [hF, z] at ns; simp at ns; exact hm ns
        refine .inl ⟨n1, ?_, ?_⟩
        · have := sq_pos sa
          rw [ns, hF]; simp; omega
        · rw [hF]; simp [h0]
      · rintro (⟨_, _, h⟩ | ⟨z, _⟩)
        · rw [h0] at h
          simp only [Int.mul_zero] at h
          have h2 := Int.mul_nonneg (sq_nonneg s.b) (sq_nonneg k.a)
          have h3 : s.b * s.b * (k.a * k.a) = 0 := by omega
          have h4 := (Int.mul_eq_zero.mp h3).resolve_right (Int.mul_ne_zero ka ka)
          have h5 : s.b = 0 := by rcases Int.mul_eq_zero.mp h4 with w | w <;> exact w
          rw [h5]; simp
        · omega
  · rw [Hr hd ok os hk hl]
    have ka : k.a ≠ 0 := fun z => hl (by rw [z, Int.zero_mul])
    have kb : k.b ≠ 0 := fun z => hl (by rw [z, Int.mul_zero])
    rcases Int.lt_or_le 0 (norm d k) with n1 | n1
    · have hk' := Ju hd hk n1
      rw [show (0 ≤ norm d k * ((s.a * k.b - s.b * k.a) * (k.a * k.b))) ↔ 0 ≤ (s.a * k.b - s.b * k.a) * (k.a * k.b) from by rw [Int.mul_comm]; exact gK n1]
      constructor
      · rintro ⟨h1, h2⟩
        obtain ⟨a1, a2⟩ := ly1 d0 kb ka (by omega) h1 h2
        exact .inl ⟨n1, by omega, a1⟩
      · rintro (⟨_, n2, h⟩ | ⟨z, _⟩)
        · have := Ju hd hs n2
          exact ly2 hk' (by omega) h
        · omega
    · have n1 : norm d k < 0 := by omega
      have hk' := IM hd hk n1
      rw [show (0 ≤ norm d k * ((s.a * k.b - s.b * k.a) * (k.a * k.b))) ↔ (s.a * k.b - s.b * k.a) * (k.a * k.b) ≤ 0 from by rw [Int.mul_comm]; exact G8 n1]
      constructor
      · rintro ⟨h1, h2⟩
        obtain ⟨a1, a2⟩ := ly3 d0 kb ka (by omega) h1 h2
        exact .inr ⟨n1, by omega, a1⟩
      · rintro (⟨z, _⟩ | ⟨_, n2, h⟩)
        · omega
        · have := IM hd hs n2
          exact ly4 hk' (by omega) h
end
end NM
set_option linter.all false
set_option maxRecDepth 100000
set_option maxHeartbeats 400000
namespace NM
section
variable {d : Int} {x y z k s o f : N3}
structure Ray (d : Int) (s t : N3) : Prop where
  ex : ∃ p q : Int, p ≠ 0 ∧ q ≠ 0 ∧ t.a * p = s.a * q ∧ (t.b * p = s.b * q ∨ t.b * p = -s.b * q)
theorem FO {t : N3} (h : Ray d s t) : (0 < norm d t ↔ 0 < norm d s) ∧ (norm d t < 0 ↔ norm d s < 0) := by
  obtain ⟨p, q, hp, hq, h1, h2⟩ := h.ex
  have e := ry1 d _ _ _ _ p q h1 h2
  change norm d t * (p * p) = norm d s * (q * q) at e
  have a1 := pD (u := norm d t) hp
  have a2 := pD (u := norm d s) hq
  have b1 := pD (u := -norm d t) hp
  have b2 := pD (u := -norm d s) hq
  rw [Int.neg_mul] at b1 b2
  rw [e] at a1 b1
  omega
theorem KZ {t : N3} (h : Ray d s t) : ∃ p q : Int, 0 < p ∧ 0 < q ∧ t.a * t.a * p = s.a * s.a * q ∧ t.b * t.b * p = s.b * s.b * q := by
  obtain ⟨p, q, hp, hq, h1, h2⟩ := h.ex
  refine ⟨p * p, q * q, sq_pos hp, sq_pos hq, ?_, ?_⟩
  · have : (t.a * p) * (t.a * p) = (s.a * q) * (s.a * q) := by rw [h1]
    grind
  · have : (t.b * p) * (t.b * p) = (s.b * q) * (s.b * q) := by
      rcases h2 with h | h <;> rw [h] <;> grind
    grind
theorem Fs {A B A' B' p q X Y : Int} (hp : 0 < p) (hq : 0 < q) (h1 : A' * p = A * q) (h2 : B' * p = B * q) : (A' * X ≤ B' * Y) ↔ (A * X ≤ B * Y) := by
  have a := gK (u := B' * Y - A' * X) hp
  have b := gK (u := B * Y - A * X) hq
  have e : (B' * Y - A' * X) * p = (B * Y - A * X) * q := by
    have : (B' * Y - A' * X) * p = B' * p * Y - A' * p * X := by grind
    rw [this, h1, h2]; grind
  rw [e] at a
  omega
theorem DF {t : N3} (h : Ray d s t) : Lay d k t ↔ Lay d k s := by
  obtain ⟨n1, n2⟩ := FO h
  obtain ⟨p, q, hp, hq, e1, e2⟩ := KZ h
  unfold Lay
  rw [n1, n2, Fs hp hq e2 e1, Fs hp hq e1 e2]
theorem rB (ox : Ok s) (hn : norm d s ≠ 0) : Ray d s (au d s) :=
  ⟨_, _, hn, Int.mul_ne_zero ox.cn (ax hn).cn, LF ox hn, .inr (LN ox hn)⟩
theorem tP (ok : Ok k) (os : Ok s) (hn : norm d k ≠ 0) : Ok (ff d k s) := by
  unfold ff
  split
  · exact eK os hn
  · rename_i h
    exact j8 (eK os hn) (ah (sI ok os hn (fun z => h ((cN ok).mpr z))) (uT hn))
theorem tY (ok : Ok k) (os : Ok s) (hn : norm d k ≠ 0) : Ok (eW d k s) := by
  unfold eW
  split
  · exact cE
  · rename_i h
    exact sI ok os hn (fun z => h ((cN ok).mpr z))
theorem mI (hl : (times d k k).b = 0) : ff d k s = shA d k s := if_pos hl
theorem mw (hl : (times d k k).b = 0) : eW d k s = aE := if_pos hl
theorem pC (hl : ¬ (times d k k).b = 0) : ff d k s = shU d k s := if_neg hl
theorem pB (hl : ¬ (times d k k).b = 0) : eW d k s = shV d k s := if_neg hl
theorem BZ (ok : Ok k) (os : Ok s) (of : Ok f) (hn : norm d k ≠ 0) (fb : f.b = 0) : ff d k (times d s f) = times d (ff d k s) f := by
  by_cases hl : (times d k k).b = 0
  · rw [mI hl, mI hl]
    have r1 := rf ok (ah (d := d) os of) hn (ai ok) (Rep.times (d := d) os of (ai os) (ai of))
    have r2 := Rep.times (d := d) (eK os hn) of (rf ok os hn (ai ok) (ai os)) (ai of)
    rw [fb] at r1 r2
    exact Rep.eq (eK (ah os of) hn) (ah (eK os hn) of) r1 r2 (by grind) (by grind)
  · have h' : k.a * k.b ≠ 0 := fun z => hl ((cN ok).mpr z)
    have o1 := tP (d := d) ok (ah (d := d) os of) hn
    have o2 := tP (d := d) ok os hn
    rw [pC hl] at o1 o2 ⊢
    rw [pC hl]
    have r1 := qx ok (ah (d := d) os of) hn (ai ok) (Rep.times (d := d) os of (ai os) (ai of)) h'
    have r2 := Rep.times (d := d) o2 of (qx ok os hn (ai ok) (ai os) h') (ai of)
    rw [fb] at r1 r2
    exact Rep.eq o1 (ah o2 of) r1 r2 (by grind) (by grind)
theorem BQ (ok : Ok k) (os : Ok s) (of : Ok f) (hn : norm d k ≠ 0) (fb : f.b = 0) : eW d k (times d s f) = times d (eW d k s) f := by
  by_cases hl : (times d k k).b = 0
  · rw [mw hl, mw hl]
    exact Rep.eq cE (ah cE of) (ai cE) (Rep.times (d := d) cE of (ai cE) (ai of)) (by show 0 * _ = (0 * _ + d * 0 * _) * 1; grind) (by show 0 * _ = (0 * _ + 0 * _) * 1; grind)
  · have h' : k.a * k.b ≠ 0 := fun z => hl ((cN ok).mpr z)
    have o1 := tY (d := d) ok (ah (d := d) os of) hn
    have o2 := tY (d := d) ok os hn
    rw [pB hl] at o1 o2 ⊢
    rw [pB hl]
    have r1 := pK ok (ah (d := d) os of) hn (ai ok) (Rep.times (d := d) os of (ai os) (ai of)) h'
    have r2 := Rep.times (d := d) o2 of (pK ok os hn (ai ok) (ai os) h') (ai of)
    rw [fb] at r1 r2
    exact Rep.eq o1 (ah o2 of) r1 r2 (by grind) (by grind)
theorem Gu (ok : Ok k) (os : Ok s) (oo : Ok o) (hn : norm d k ≠ 0) : ff d k (plus s o) = plus (ff d k s) (ff d k o) := by
  by_cases hl : (times d k k).b = 0
  · rw [mI hl, mI hl, mI hl]
    have r1 := rf ok (aW os oo) hn (ai ok) (Rep.plus os oo (ai os) (ai oo))
    have r2 := Rep.plus (eK os hn) (eK oo hn) (rf ok os hn (ai ok) (ai os)) (rf ok oo hn (ai ok) (ai oo))
    exact Rep.eq (eK (aW os oo) hn) (aW (eK os hn) (eK oo hn)) r1 r2 (by grind) (by grind)
  · have h' : k.a * k.b ≠ 0 := fun z => hl ((cN ok).mpr z)
    have o1 := tP (d := d) ok (aW os oo) hn
    have o2 := tP (d := d) ok os hn
    have o3 := tP (d := d) ok oo hn
    rw [pC hl] at o1 o2 o3 ⊢
    rw [pC hl, pC hl]
    have r1 := qx ok (aW os oo) hn (ai ok) (Rep.plus os oo (ai os) (ai oo)) h'
    have r2 := Rep.plus o2 o3 (qx ok os hn (ai ok) (ai os) h') (qx ok oo hn (ai ok) (ai oo) h')
    exact Rep.eq o1 (aW o2 o3) r1 r2 (by grind) (by grind)
theorem EL (ok : Ok k) (os : Ok s) (oo : Ok o) (hn : norm d k ≠ 0) : eW d k (plus s o) = plus (eW d k s) (eW d k o) := by
  by_cases hl : (times d k k).b = 0
  · rw [mw hl, mw hl, mw hl]
    exact (by decide : aE = plus aE aE)
  · have h' : k.a * k.b ≠ 0 := fun z => hl ((cN ok).mpr z)
    have o1 := tY (d := d) ok (aW os oo) hn
    have o2 := tY (d := d) ok os hn
    have o3 := tY (d := d) ok oo hn
    rw [pB hl] at o1 o2 o3 ⊢
    rw [pB hl, pB hl]
    have r1 := pK ok (aW os oo) hn (ai ok) (Rep.plus os oo (ai os) (ai oo)) h'
    have r2 := Rep.plus o2 o3 (pK ok os hn (ai ok) (ai os) h') (pK ok oo hn (ai ok) (ai oo) h')
    exact Rep.eq o1 (aW o2 o3) r1 r2 (by grind) (by grind)
theorem jo (h : bN d x = true) : x.b = 0 := by
  unfold bN at h
  simp only [Bool.and_eq_true, decide_eq_true_eq] at h
  exact h.1
theorem oY (h : bN d x = true) : 0 ≤ x.a := by
  have hb := jo h
  unfold bN at h
  simp only [Bool.and_eq_true, decide_eq_true_eq] at h
  rw [hb] at h
  exact sg0.mp h.2
theorem Bb (hb : x.b = 0) (ha : 0 ≤ x.a) : bN d x = true := by
  unfold bN
  rw [hb]
  simp only [decide_true, Bool.true_and, decide_eq_true_eq]
  exact sg0.mpr ha
theorem vX (ox : Ok x) (oy : Ok y) (hx : bN d x = true) (hy : bN d y = true) : bN d (plus x y) = true := by
  have r := Rep.plus ox oy (ai ox) (ai oy)
  rw [jo hx, jo hy] at r
  simp only [Int.zero_mul, Int.add_zero] at r
  rw [oB (aW ox oy) r]
  have a := oY hx
  have b := oY hy
  have c := ox.c
  have c2 := oy.c
  exact Int.mul_nonneg (Int.add_nonneg (Int.mul_nonneg a (by omega)) (Int.mul_nonneg b (by omega))) (Int.mul_nonneg (by omega) (by omega))
theorem tw (ox : Ok x) (oy : Ok y) (hx : bN d x = true) (hy : bN d y = true) : bN d (times d x y) = true := by
  have r := Rep.times (d := d) ox oy (ai ox) (ai oy)
  rw [jo hx, jo hy] at r
  simp only [Int.mul_zero, Int.zero_mul, Int.add_zero] at r
  rw [oB (ah ox oy) r]
  have a := oY hx
  have b := oY hy
  have c := ox.c
  have c2 := oy.c
  exact Int.mul_nonneg (Int.mul_nonneg a b) (Int.mul_nonneg (by omega) (by omega))
theorem GK (ok : Ok k) (os : Ok s) (oo : Ok o) (hn : norm d k ≠ 0) (h1 : de d k s = true) (h2 : de d k o = true) : de d k (plus s o) = true := by
  unfold de at *
  rw [Bool.and_eq_true] at *
  rw [Gu ok os oo hn, EL ok os oo hn]
  exact ⟨vX (tP ok os hn) (tP ok oo hn) h1.1 h2.1, vX (tY ok os hn) (tY ok oo hn) h1.2 h2.2⟩
theorem Il (ok : Ok k) (os : Ok s) (hn : norm d k ≠ 0) : plus (times d (ff d k s) k) (times d (eW d k s) (au d k)) = s := by
  have oc := ax hn
  by_cases hl : (times d k k).b = 0
  · rw [mI hl, mw hl]
    have oa := eK os hn
    have r := Rep.plus (ah (d := d) oa ok) (ah (d := d) cE oc) (Rep.times (d := d) oa ok (rf ok os hn (ai ok) (ai os)) (ai ok)) (Rep.times (d := d) cE oc (ai cE) (oJ hn))
    refine Rep.eq (aW (ah oa ok) (ah cE oc)) os r (ai os) ?_ ?_
    · show ((_ + _) * (1 * _) + (0 * _ + d * 0 * _) * _) * _ = _
      show _ = s.a * (s.c * norm d k * k.c * (1 * norm d k))
      have : norm d k = k.a * k.a - d * k.b * k.b := rfl
      generalize norm d k = N at *
      subst this
      grind
    · show ((_ + _) * (1 * _) + (0 * _ + 0 * _) * _) * _ = _
      show _ = s.b * (s.c * norm d k * k.c * (1 * norm d k))
      have : norm d k = k.a * k.a - d * k.b * k.b := rfl
      generalize norm d k = N at *
      subst this
      grind
  · have h' : k.a * k.b ≠ 0 := fun z => hl ((cN ok).mpr z)
    have ou := tP (d := d) ok os hn
    have ov := tY (d := d) ok os hn
    rw [pC hl] at ou ⊢
    rw [pB hl] at ov ⊢
    have r := Rep.plus (ah (d := d) ou ok) (ah (d := d) ov oc) (Rep.times (d := d) ou ok (qx ok os hn (ai ok) (ai os) h') (ai ok)) (Rep.times (d := d) ov oc (pK ok os hn (ai ok) (ai os) h') (oJ hn))
    refine Rep.eq (aW (ah ou ok) (ah ov oc)) os r (ai os) ?_ ?_
    · have : k.a * k.a - d * k.b * k.b = norm d k := rfl
      rw [this]
      generalize norm d k = N at *
      grind
    · have : k.a * k.a - d * k.b * k.b = norm d k := rfl
      rw [this]
      generalize norm d k = N at *
      grind
end
end NM
set_option Elab.async false
set_option linter.all false
set_option maxHeartbeats 4000000
namespace NM
section
variable {d : Int} {x y z u p q s t w h p' q' s' t' w' h' : N3}
theorem MG (ox : Ok x) (oy : Ok y) (oz : Ok z) : times d (plus y z) x = plus (times d y x) (times d z x) :=
  (((ai oy).plus oy oz (ai oz)).times (aW oy oz) ox (ai ox)).eq (ah (aW oy oz) ox) (aW (ah oy ox) (ah oz ox)) (((ai oy).times oy ox (ai ox)).plus (ah oy ox) (ah oz ox) ((ai oz).times oz ox (ai ox))) (by grind) (by grind)
theorem fS : Ok aE := ⟨by decide, by decide⟩
theorem E1 : Ok one := ⟨by decide, by decide⟩
theorem Hn (ox : Ok x) : plus x aE = x :=
  ((ai ox).plus ox fS (ai fS)).eq (aW ox fS) ox (ai ox) (by simp only [aE]; grind) (by simp only [aE]; grind)
theorem Iq (ox : Ok x) : plus aE x = x :=
  ((ai fS).plus fS ox (ai ox)).eq (aW fS ox) ox (ai ox) (by simp only [aE]; grind) (by simp only [aE]; grind)
theorem GF (ox : Ok x) : times d one x = x :=
  ((ai E1).times E1 ox (ai ox)).eq (ah E1 ox) ox (ai ox) (by simp only [one]; grind) (by simp only [one]; grind)
theorem uY (ox : Ok x) : times d aE x = aE :=
  ((ai fS).times fS ox (ai ox)).eq (ah fS ox) fS (ai fS) (by simp only [aE]; grind) (by simp only [aE]; grind)
def hf (d : Int) (p q h : N3) : N3 := plus (times d p h) (times d q (bC h))
end
end NM
set_option linter.all false
set_option maxRecDepth 100000
set_option maxHeartbeats 400000
namespace NM
section
variable {d : Int} {x y z k s o f u v : N3}
theorem qi (ox : Ok x) (oy : Ok y) : times d x y = times d y x :=
  Rep.eq (ah ox oy) (ah oy ox) (Rep.times ox oy (ai ox) (ai oy)) (Rep.times oy ox (ai oy) (ai ox)) (by grind) (by grind)
theorem ya (ox : Ok x) (oy : Ok y) (oz : Ok z) : times d (times d x y) z = times d x (times d y z) :=
  Rep.eq (ah (ah ox oy) oz) (ah ox (ah oy oz)) (Rep.times (ah ox oy) oz (Rep.times ox oy (ai ox) (ai oy)) (ai oz)) (Rep.times ox (ah oy oz) (ai ox) (Rep.times oy oz (ai oy) (ai oz))) (by grind) (by grind)
theorem Kq (ox : Ok x) (oy : Ok y) (oz : Ok z) (ou : Ok u) : times d (times d x y) (times d z u) = times d (times d x z) (times d y u) :=
  Rep.eq (ah (ah ox oy) (ah oz ou)) (ah (ah ox oz) (ah oy ou)) (Rep.times (ah ox oy) (ah oz ou) (Rep.times ox oy (ai ox) (ai oy)) (Rep.times oz ou (ai oz) (ai ou))) (Rep.times (ah ox oz) (ah oy ou) (Rep.times ox oz (ai ox) (ai oz)) (Rep.times oy ou (ai oy) (ai ou))) (by grind) (by grind)
theorem EH (ox : Ok x) : times d x one = x := by rw [qi ox gJ, GF ox]
theorem FW (hd : aB d) (ox : Ok x) (hn : norm d x ≠ 0) : sg d (au d x).a (au d x).b = sg d x.a x.b := by
  have h := bT hd ox (ax hn)
  rw [fh ox hn, uO] at h
  rcases hZ d x.a x.b with a | a | a <;> rcases hZ d (au d x).a (au d x).b with b | b | b <;> rw [a, b] at h ⊢ <;> exact absurd h (by decide)
theorem qL {A C : Int} (hd : aB d) (ox : Ok x) (r : Rep x A 0 C) : (sg d x.a x.b = 1 ↔ 0 < A * C) ∧ (sg d x.a x.b = -1 ↔ A * C < 0) := by
  have hC := r.c
  have key : ∀ {A C : Int}, Rep x A 0 C → 0 < C → (sg d x.a x.b = 1 ↔ 0 < A * C) ∧ (sg d x.a x.b = -1 ↔ A * C < 0) := fun {A C} r hC => by
    rw [r.sg hd ox hC, kL]
    have p1 : 0 < A * C ↔ 0 < A := by
      constructor
      · intro h
        rcases Int.lt_trichotomy 0 A with w | w | w
        · exact w
        · rw [← w, Int.zero_mul] at h; omega
        · have := Int.mul_neg_of_neg_of_pos w hC; omega
      · intro h; exact Int.mul_pos h hC
    have p2 : A * C < 0 ↔ A < 0 := by
      constructor
      · intro h
        rcases Int.lt_trichotomy 0 A with w | w | w
        · have := Int.mul_pos w hC; omega
        · rw [← w, Int.zero_mul] at h; omega
        · exact w
      · intro h; exact Int.mul_neg_of_neg_of_pos h hC
    rw [p1, p2]
    split
    · omega
    · split <;> omega
  rcases Int.lt_or_gt_of_ne hC with h | h
  · have r2 := r.neg
    rw [Int.neg_zero] at r2
    have := key r2 (by omega)
    rw [Int.neg_mul_neg] at this
    exact this
  · exact key r h
theorem Dz {B C : Int} (hd : aB d) (ox : Ok x) (r : Rep x 0 B C) : (sg d x.a x.b = 1 ↔ 0 < B * C) ∧ (sg d x.a x.b = -1 ↔ B * C < 0) := by
  have hC := r.c
  have key : ∀ {B C : Int}, Rep x 0 B C → 0 < C → (sg d x.a x.b = 1 ↔ 0 < B * C) ∧ (sg d x.a x.b = -1 ↔ B * C < 0) := fun {A C} r hC => by
    rw [r.sg hd ox hC, zE]
    have p1 : 0 < A * C ↔ 0 < A := by
      constructor
      · intro h
        rcases Int.lt_trichotomy 0 A with w | w | w
        · exact w
        · rw [← w, Int.zero_mul] at h; omega
        · have := Int.mul_neg_of_neg_of_pos w hC; omega
      · intro h; exact Int.mul_pos h hC
    have p2 : A * C < 0 ↔ A < 0 := by
      constructor
      · intro h
        rcases Int.lt_trichotomy 0 A with w | w | w
        · have := Int.mul_pos w hC; omega
        · rw [← w, Int.zero_mul] at h; omega
        · exact w
      · intro h; exact Int.mul_neg_of_neg_of_pos h hC
    rw [p1, p2]
    split
    · omega
    · split <;> omega
  rcases Int.lt_or_gt_of_ne hC with h | h
  · have r2 := r.neg
    rw [Int.neg_zero] at r2
    have := key r2 (by omega)
    rw [Int.neg_mul_neg] at this
    exact this
  · exact key r h
end
end NM
set_option Elab.async false
set_option linter.all false
set_option maxRecDepth 100000
set_option maxHeartbeats 4000000
namespace L2.DL
open PySem PySem.Spec PyProof.Rows NM
theorem gW {n m : Nat} {i j : Int} (h : Sz n i) (g : Sz m j) (l : n + m ≤ 100000) : IntMulOk i j := by
  have b1 : ∀ {k : Nat} {z : Int}, Sz k z → Builtin.Int.intBits z ≤ k := fun {k z} hz => by
    unfold Builtin.Int.intBits
    split
    · exact Nat.zero_le _
    · rename_i q
      have hz' : z.natAbs ≠ 0 := by simp at q; omega
      have := (Nat.log2_lt hz').mpr hz.lt
      omega
  have e1 := b1 h
  have e2 := b1 g
  unfold IntMulOk
  intro z
  simp only [Bool.and_eq_true] at z
  have z3 := z.2
  unfold Builtin.Int.intTooBig at z3
  simp only [decide_eq_true_eq] at z3
  have : (100000 : Int) ≤ bitsLine := by decide
  omega
theorem Ay {n : Nat} {i j : Int} (h0 : j ≠ 0) (h : Sz n j) (l : n ≤ 8900) : tE i j := by
  refine ⟨h0, PyProof.noPylong_of_log2 ?_⟩
  have hz' : j.natAbs ≠ 0 := by omega
  have := (Nat.log2_lt hz').mpr h.lt
  omega
theorem divC {i j : Int} (h0 : j ≠ 0) (h1 : j.natAbs < 1073741824) : tE i j := ⟨h0, PyProof.noPylong_small h1⟩
theorem mulL {i j : Int} (h : i.natAbs < 2 ^ 64) : IntMulOk i j := Hy.ok (.inl (by omega))
theorem mulR {i j : Int} (h : j.natAbs < 2 ^ 64) : IntMulOk i j := Hy.ok (.inr (by omega))
def dN (x : N3) : PyData := .tuple [.int x.a, .int x.b, .int x.c]
def isWhole (d : PyData) : Bool := isT "int" d && !isT "bool" d
def isNum : PyData → Bool
  | .tuple [.int a, .int b, .int c] => decide (1 ≤ c) && (g3 a b c == 1)
  | _ => false
def jm : DSp := fun ds μ Q => ∃ d, ds = [.v d] ∧ Q (.v (.bool (isWhole d))) μ
def nQ : DSp := fun ds μ Q => ∃ a b : Int, ds = [.v (.int a), .v (.int b)] ∧ Q (.v (.int (Int.gcd a b : Nat))) μ
def vF : DSp := fun ds μ Q => ∃ a b c : Int, ds = [.v (.int a), .v (.int b), .v (.int c)] ∧ Q (.v (.int (g3 a b c : Nat))) μ
def Few : PyData → Prop
  | .tuple xs => xs.length ≤ 1000
  | _ => True
def lK : DSp := fun ds μ Q => ∃ d, ds = [.v d] ∧ Few d ∧ Q (.v (.bool (isNum d))) μ
def cP : DSp := fun ds μ Q => ∃ a b c : Int, ds = [.v (.int a), .v (.int b), .v (.int c)] ∧ c ≠ 0 ∧ Sz 8800 c ∧ Q (.v (dN (low a b c))) μ
def d7 : DSp := fun ds μ Q => ∃ x : N3, ds = [.v (dN x)] ∧ Q (.v (dN (bC x))) μ
def oV : DSp := fun ds μ Q => ∃ x : N3, ds = [.v (dN x)] ∧ Q (.v (dN (minus x))) μ
def sp2 (f : N3 → N3 → N3) : DSp := fun ds μ Q => ∃ x y : N3, ds = [.v (dN x), .v (dN y)] ∧ Ok x ∧ Ok y ∧ Bd 4300 x ∧ Bd 4300 y ∧ Q (.v (dN (f x y))) μ
abbrev dw : DSp := sp2 plus
abbrev vj : DSp := sp2 less
def aU : DSp := fun ds μ Q => ∃ (d : Int) (x y : N3), ds = [.v (.int d), .v (dN x), .v (dN y)] ∧ Sz 5 d ∧ Ok x ∧ Ok y ∧ Bd 4300 x ∧ Bd 4300 y ∧ Q (.v (dN (times d x y))) μ
def bV : DSp := fun ds μ Q => ∃ (d : Int) (x : N3), ds = [.v (.int d), .v (dN x)] ∧ Sz 5 d ∧ norm d x ≠ 0 ∧ Bd 4300 x ∧ Q (.v (dN (au d x))) μ
def lF : DSp := fun ds μ Q => ∃ (d : Int) (x y : N3), ds = [.v (.int d), .v (dN x), .v (dN y)] ∧ aB d ∧ Ok x ∧ Ok y ∧ y ≠ aE ∧ Bd 2100 x ∧ Bd 2100 y ∧ Q (.v (dN (times d x (au d y)))) μ
def uG : DSp := fun ds μ Q => ∃ d a b : Int, ds = [.v (.int d), .v (.int a), .v (.int b)] ∧ Sz 5 d ∧ Sz 9900 a ∧ Sz 9900 b ∧ Q (.v (.int (sg d a b))) μ
def el : DSp := fun ds μ Q => ∃ (d : Int) (x : N3), ds = [.v (.int d), .v (dN x)] ∧ aB d ∧ Bd 8900 x ∧ Q (.v (.int (sg d x.a x.b))) μ
def dif (d : Int) (x y : N3) : Int := sg d (x.a * y.c - y.a * x.c) (x.b * y.c - y.b * x.c)
def oI : DSp := fun ds μ Q => ∃ (d : Int) (x y : N3), ds = [.v (.int d), .v (dN x), .v (dN y)] ∧ aB d ∧ Ok x ∧ Ok y ∧ Bd 4300 x ∧ Bd 4300 y ∧ Q (.v (.bool (decide (dif d y x = 1)))) μ
def Bag (μ : Mu) (a : Addr) : Prop := ∃ g m : Int, μ a = some [.int g, .int m] ∧ 0 ≤ g ∧ 0 ≤ m ∧ m < 2147483648
def Step (a : Addr) (μ μ' : Mu) : Prop := Bag μ' a ∧ ∀ b, b ≠ a → μ' b = μ b
def CD : DSp := fun ds μ Q => ∃ (ns : List Int) (k : Int), ds = [.s ns, .v (.int k)] ∧ 0 ≤ k ∧ k ≤ 1000 ∧ ∀ p μ', μ p = none → Step p μ μ' → Q (.m p) μ'
def cU : DSp := fun ds μ Q => ∃ (a : Addr) (n : Int), ds = [.m a, .v (.int n)] ∧ 1 ≤ n ∧ n ≤ 1000000000 ∧ Bag μ a ∧ ∀ r μ', 0 ≤ r → r < n → Step a μ μ' → Q (.v (.int r)) μ'
def oE : DSp := fun ds μ Q => ∃ a : Addr, ds = [.m a] ∧ Bag μ a ∧ ∀ x μ', Ok x → Bd 20 x → Step a μ μ' → Q (.v (dN x)) μ'
def uv : DSp := fun ds μ Q => ∃ a : Addr, ds = [.m a] ∧ Bag μ a ∧ ∀ d μ', aB d → Step a μ μ' → Q (.v (.int d)) μ'
theorem Step.trans {a : Addr} {μ μ1 μ2 : Mu} (h : Step a μ μ1) (g : Step a μ1 μ2) : Step a μ μ2 := ⟨g.1, fun b n => (g.2 b n).trans (h.2 b n)⟩
theorem Step.set {a : Addr} {μ : Mu} {g m : Int} (h1 : 0 ≤ g) (h2 : 0 ≤ m) (h3 : m < 2147483648) : Step a μ (aM μ a [.int g, .int m]) := ⟨⟨g, m, bA, h1, h2, h3⟩, fun b n => bU n⟩
local macro_rules | `(tactic| walk_at "rd") => `(tactic| simp only [↓EM, ↓GS, ↓Bt, ↓Cn, ↓Gq, ↓Fj, ↓FH, ↓Ck, ↓B3, ↓Fq, ↓CP, ↓q_c, ↓KH, ↓q_B, ↓Mn, ↓IQ, ↓IW, ↓Cf, ↓Jq, ↓EK, ↓EO, ↓Jo, ↓Ga, ↓Lw, ↓A1, ↓vi, ↓C5, ↓IS, ↓FL, ↓Dk, ↓Dj, ↓Jw, ↓Jd, ↓IT, ↓IV, ↓I0, ↓FG, ↓EC, ↓Fx, ↓Cu, ↓Cv, ↓Bu, ↓Ff, ↓AO, ↓x9, ↓IF, ↓Jr, ↓Ji, ↓G2, ↓GZ, ↓ER, ↓FK, ↓GJ, ↓L4, ↓zV, ↓GI, ↓Jp, ↓IY, ↓II, ↓LA, ↓Gd, ↓EU, ↓GD, ↓EN, ↓Jn, ↓Mh, ↓E5, ↓E8, ↓C3, ↓CL, ↓IH, ↓Ja, ↓Jl, ↓Jh, ↓ur, ↓CC, ↓yx, ↓G1, ↓FP, ↓EF, ↓Js, ↓GP, ↓CZ, ↓IG, ↓Fu, ↓Fv, ↓DC, ↓Cm, ↓Jm, ↓IJ, ↓Fo, ↓CN, ↓E3, ↓AE, ↓Dp, ↓Al, ↓Ao, ↓CG, ↓Ae, ↓A2, ↓AX, ↓ID, D7, ↓Gv, ↓CM, EG, EJ, Jg, IP, IU, Option.bind_none, Option.bind_some, Option.join_some, List.getElem?_cons_zero, List.getElem?_cons_succ, aX, dN, xK, Am, AR, Dq, FT, List.map, List.append, List.replicate, List.length_cons, List.length_nil, Nat.reduceAdd, Nat.reduceSub, List.nil_append, List.cons_append, List.set_cons_zero, List.set_cons_succ, Option.map_some, ↓reduceIte, Bool.not_true, Bool.not_false, Bool.false_eq_true, Bool.true_eq_false, Bool.xor_false, Bool.false_xor])
def kn : DTS :=
  (bQ (qs (vK "int" (af 0)) (ve (vK "bool" (af 0)))))
def gP : DTS :=
  (aV (Cp (dB (dOp (di true) (af 1) (dC (.int 0)))) (xh 0 1 (ab (af 1) (ab (ug (af 0) (af 1)) aq))))
  (bQ (dCB qw (ab (af 0) aq))))
def gL : DTS :=
  (bQ (ar nQ (ab (ar nQ (ab (af 2) (ab (af 0) aq))) (ab (af 1) aq))))
def j2 : DTS :=
  (aV (xh 0 1 (ab (dCB qw (ab (af 0) aq)) (ab (dCB qw (ab (af 1) aq)) aq)))
  (aV (Cp (dB (dOp rGt (af 1) (dC (.int 0)))) (xh 0 1 (ab (af 1) (ab (ug (af 0) (af 1)) aq))))
  (bQ (af 0))))
section
theorem Du (x : Int) {y : Int} (h : y ≠ 0) : (x.fmod y).natAbs < y.natAbs := by
  have e := Int.mul_fdiv_add_fmod x y
  have := Int.fmod_def x y
  rcases Int.lt_or_gt_of_ne h with h | h
  · have k := Int.neg_fmod_neg (a := x) (b := y)
    have h1 := Int.fmod_nonneg_of_pos (-x) (show 0 < -y by omega)
    have h2 := Int.fmod_lt_of_pos (-x) (show 0 < -y by omega)
    omega
  · have h1 := Int.fmod_nonneg_of_pos x h
    have h2 := Int.fmod_lt_of_pos x h
    omega
theorem As (x y : Int) : Int.gcd y (x.fmod y) = Int.gcd x y := by
  have e := Int.mul_fdiv_add_fmod x y
  have e' : x.fmod y = x + y * (-(x.fdiv y)) := by rw [Int.mul_neg]; omega
  rw [e', Int.gcd_add_mul_left_right, Int.gcd_comm]
theorem tu {μ Qd ds} (h : jm ds μ Qd) : kn { nx := fun _ μ' => Qd (.v .none) μ', rt := Qd } (aX ["thing"] ds) μ := by
  obtain ⟨d, rfl, q⟩ := h
  unfold kn
  walk_at "rd"
  unfold isWhole at q
  cases hb : isT "int" d <;> simp_all
theorem qQ {μ Qd ds} (h : nQ ds μ Qd) : gP { nx := fun _ μ' => Qd (.v .none) μ', rt := Qd } (aX ["a", "b"] ds) μ := by
  obtain ⟨a, b, rfl, q⟩ := h
  unfold gP
  walk_at "rd"
  refine ⟨fun m ρ μ' => ∃ x y : Int, ρ = [some (.v (.int x)), some (.v (.int y))] ∧ m = y.natAbs ∧ Int.gcd x y = Int.gcd a b ∧ μ' = μ, ⟨_, a, b, rfl, rfl, rfl, rfl⟩, ?_⟩
  rintro m ρ μ' ⟨x, y, rfl, rfl, hg, rfl⟩
  walk_at "rd"
  by_cases hy : y = 0
  · subst hy
    have e : Int.gcd x 0 = x.natAbs := Int.gcd_zero_right x
    rw [← hg, e] at q
    simpa using q
  · have z : (true ^^ decide (y = 0)) = true := by simp [hy]
    rw [if_pos z]
    exact ⟨hy, _, Du x hy, y, x.fmod y, rfl, rfl, (As x y).trans hg, trivial⟩
theorem vE {μ Qd ds} (h : nQ ds μ Qd) : j2 { nx := fun _ μ' => Qd (.v .none) μ', rt := Qd } (aX ["_law_one", "_law_other"] ds) μ := by
  obtain ⟨a, b, rfl, q⟩ := h
  unfold j2
  walk_at "rd"
  refine ⟨fun m ρ μ' => ∃ x y : Int, ρ = [some (.v (.int x)), some (.v (.int y))] ∧ m = y.natAbs ∧ 0 ≤ x ∧ 0 ≤ y ∧ Int.gcd x y = Int.gcd a b ∧ μ' = μ, ⟨_, _, _, rfl, rfl, by omega, by omega, by simp [Int.gcd], rfl⟩, ?_⟩
  rintro m ρ μ' ⟨x, y, rfl, rfl, hx, hy, hg, rfl⟩
  walk_at "rd"
  by_cases h0 : 0 < y
  · rw [if_pos (by simpa using h0)]
    have hy' : y ≠ 0 := by omega
    exact ⟨hy', _, Du x hy', y, x.fmod y, rfl, rfl, by omega, Int.fmod_nonneg_of_pos x h0, (As x y).trans hg, trivial⟩
  · rw [if_neg (by simpa using h0)]
    have e : y = 0 := by omega
    subst e
    rw [Int.gcd_zero_right] at hg
    have : x = ((Int.gcd a b : Nat) : Int) := by omega
    rw [this]
    exact q
theorem qq {μ Qd ds} (h : vF ds μ Qd) : gL { nx := fun _ μ' => Qd (.v .none) μ', rt := Qd } (aX ["a", "b", "c"] ds) μ := by
  obtain ⟨a, b, c, rfl, q⟩ := h
  unfold gL
  walk_at "rd"
  rw [← Hs] at q
  exact ⟨c, a, rfl, _, b, rfl, q⟩
end
open PySem PySem.Spec PyProof.Rows NM
def sr : DTS :=
  (aV (dA (dB (dOp (di false) (af 2) (dC (.int 0)))) vD cf)
  (aV (bK (ar vF (ab (af 0) (ab (af 1) (ab (af 2) aq)))) (az 3))
  (aV (dA (dB (dOp rLt (af 2) (dC (.int 0)))) (bK (wH (af 3)) (az 3)) cf)
  (bQ (dm (ab (ui (af 0) (af 3)) (ab (ui (af 1) (af 3)) (ab (ui (af 2) (af 3)) aq))))))))
def nE : DTS :=
  (aV (bK (cI (ar nQ (ab (ar nQ (ab (af 0) (ab (af 1) aq))) (ab (af 2) aq))) (dOp aH (mP (ab (dC (.int 1)) (ab (wH (dC (.int 1))) aq))) (dCB pF (ab (dOp rLt (af 2) (dC (.int 0))) aq)))) (az 3))
  (bQ (dm (ab (ui (af 0) (af 3)) (ab (ui (af 1) (af 3)) (ab (ui (af 2) (af 3)) aq))))))
def lT : DTS :=
  (bQ (dm (ab (dOp aH (af 0) (dC (.int 0))) (ab (pd (dC (.int 0)) (dOp aH (af 0) (dC (.int 1)))) (ab (dOp aH (af 0) (dC (.int 2))) aq)))))
def kO : DTS :=
  (bQ (dm (ab (pd (dC (.int 0)) (dOp aH (af 0) (dC (.int 0)))) (ab (pd (dC (.int 0)) (dOp aH (af 0) (dC (.int 1)))) (ab (dOp aH (af 0) (dC (.int 2))) aq)))))
def zO : DTS :=
  (bQ (ar cP (ab (kN (cI (dOp aH (af 0) (dC (.int 0))) (dOp aH (af 1) (dC (.int 2)))) (cI (dOp aH (af 1) (dC (.int 0))) (dOp aH (af 0) (dC (.int 2))))) (ab (kN (cI (dOp aH (af 0) (dC (.int 1))) (dOp aH (af 1) (dC (.int 2)))) (cI (dOp aH (af 1) (dC (.int 1))) (dOp aH (af 0) (dC (.int 2))))) (ab (cI (dOp aH (af 0) (dC (.int 2))) (dOp aH (af 1) (dC (.int 2)))) aq)))))
def qJ : DTS :=
  (bQ (ar cP (ab (kN (cI (dOp aH (af 0) (dC (.int 0))) (dOp aH (af 1) (dC (.int 2)))) (cI (dOp aH (af 1) (dC (.int 0))) (dOp aH (af 0) (dC (.int 2))))) (ab (kN (cI (dOp aH (af 0) (dC (.int 1))) (dOp aH (af 1) (dC (.int 2)))) (cI (dOp aH (af 1) (dC (.int 1))) (dOp aH (af 0) (dC (.int 2))))) (ab (cI (dOp aH (af 0) (dC (.int 2))) (dOp aH (af 1) (dC (.int 2)))) aq)))))
def y7 : DTS :=
  (bQ (ar cP (ab (pd (cI (dOp aH (af 0) (dC (.int 0))) (dOp aH (af 1) (dC (.int 2)))) (cI (dOp aH (af 1) (dC (.int 0))) (dOp aH (af 0) (dC (.int 2))))) (ab (pd (cI (dOp aH (af 0) (dC (.int 1))) (dOp aH (af 1) (dC (.int 2)))) (cI (dOp aH (af 1) (dC (.int 1))) (dOp aH (af 0) (dC (.int 2))))) (ab (cI (dOp aH (af 0) (dC (.int 2))) (dOp aH (af 1) (dC (.int 2)))) aq)))))
def uW : DTS :=
  (bQ (ar cP (ab (kN (cI (dOp aH (af 1) (dC (.int 0))) (dOp aH (af 2) (dC (.int 0)))) (cI (cI (af 0) (dOp aH (af 1) (dC (.int 1)))) (dOp aH (af 2) (dC (.int 1))))) (ab (kN (cI (dOp aH (af 1) (dC (.int 0))) (dOp aH (af 2) (dC (.int 1)))) (cI (dOp aH (af 1) (dC (.int 1))) (dOp aH (af 2) (dC (.int 0))))) (ab (cI (dOp aH (af 1) (dC (.int 2))) (dOp aH (af 2) (dC (.int 2)))) aq)))))
def pM : DTS :=
  (bQ (ar cP (ab (kN (cI (dOp aH (af 1) (dC (.int 0))) (dOp aH (af 2) (dC (.int 0)))) (cI (cI (af 0) (dOp aH (af 1) (dC (.int 1)))) (dOp aH (af 2) (dC (.int 1))))) (ab (kN (cI (dOp aH (af 1) (dC (.int 0))) (dOp aH (af 2) (dC (.int 1)))) (cI (dOp aH (af 1) (dC (.int 1))) (dOp aH (af 2) (dC (.int 0))))) (ab (cI (dOp aH (af 1) (dC (.int 2))) (dOp aH (af 2) (dC (.int 2)))) aq)))))
def ng : DTS :=
  (aV (bK (pd (cI (dOp aH (af 1) (dC (.int 0))) (dOp aH (af 1) (dC (.int 0)))) (cI (cI (af 0) (dOp aH (af 1) (dC (.int 1)))) (dOp aH (af 1) (dC (.int 1))))) (az 2))
  (bQ (ar cP (ab (cI (dOp aH (af 1) (dC (.int 2))) (dOp aH (af 1) (dC (.int 0)))) (ab (cI (wH (dOp aH (af 1) (dC (.int 2)))) (dOp aH (af 1) (dC (.int 1)))) (ab (af 2) aq))))))
def iA : DTS :=
  (bQ (ar cP (ab (cI (dOp aH (af 1) (dC (.int 0))) (dOp aH (af 1) (dC (.int 2)))) (ab (pd (dC (.int 0)) (cI (dOp aH (af 1) (dC (.int 1))) (dOp aH (af 1) (dC (.int 2))))) (ab (pd (cI (dOp aH (af 1) (dC (.int 0))) (dOp aH (af 1) (dC (.int 0)))) (cI (cI (af 0) (dOp aH (af 1) (dC (.int 1)))) (dOp aH (af 1) (dC (.int 1))))) aq)))))
def yW : DTS :=
  (aV (dA (dB (dOp (di false) (af 2) (dC (.tuple [.int 0, .int 0, .int 1])))) vD cf)
  (bQ (ar aU (ab (af 0) (ab (af 1) (ab (ar bV (ab (af 0) (ab (af 2) aq))) aq))))))
def yC : DTS :=
  (bQ (dm (ab (dOp aH (af 0) (dC (.int 0))) (ab (wH (dOp aH (af 0) (dC (.int 1)))) (ab (dOp aH (af 0) (dC (.int 2))) aq)))))
section
variable {μ : Mu} {Qd : DK} {ds : List D}
theorem MO (i j : Int) : PyData.eqv (.int i) (.int j) = decide (i = j) := by simp [PyData.eqv]; rfl
theorem gdv {a b c : Int} (h : Sz 8800 c) (hc : c ≠ 0) : Sz 8800 ((g3 a b c : Nat) : Int) := by
  have h1 := (Gy a b c).2.2
  have h2 := Int.natAbs_dvd_natAbs.mpr h1
  exact h.le (Nat.le_of_dvd (by omega) h2)
theorem D5 (h : cP ds μ Qd) : sr { nx := fun _ μ' => Qd (.v .none) μ', rt := Qd } (aX ["a", "b", "c", "divisor"] ds) μ := by
  obtain ⟨a, b, c, rfl, hc, hz, q⟩ := h
  unfold sr
  walk_at "rd"
  rw [decide_eq_false hc]
  simp only [Bool.xor_false, Bool.false_eq_true, ↓reduceIte]
  refine ⟨a, b, c, rfl, ?_⟩
  walk_at "rd"
  have hp := ye (a := a) (b := b) hc
  have hg := gdv (a := a) (b := b) hz hc
  unfold low NM.dv dN at q
  simp only at q
  by_cases hn : c < 0
  · rw [if_pos (by simpa using hn)]
    rw [if_pos hn] at q
    have o : ∀ i : Int, tE i (-((g3 a b c : Nat) : Int)) := fun i => Ay (by omega) hg.neg (by decide)
    exact ⟨o _, o _, o _, q⟩
  · rw [if_neg (by simpa using hn)]
    rw [if_neg hn] at q
    have o : ∀ i : Int, tE i ((g3 a b c : Nat) : Int) := fun i => Ay (by omega) hg (by decide)
    exact ⟨o _, o _, o _, q⟩
theorem Ar (h : cP ds μ Qd) : nE { nx := fun _ μ' => Qd (.v .none) μ', rt := Qd } (aX ["_law_a", "_law_b", "_law_c", "_law_common"] ds) μ := by
  obtain ⟨a, b, c, rfl, hc, hz, q⟩ := h
  unfold nE
  walk_at "rd"
  refine ⟨a, b, rfl, _, c, rfl, ?_⟩
  walk_at "rd"
  have hp := ye (a := a) (b := b) hc
  have hg := gdv (a := a) (b := b) hz hc
  unfold low NM.dv dN at q
  simp only at q
  by_cases hn : c < 0
  · simp only [hn, decide_true, ↓reduceIte, AR]
    rw [if_pos hn] at q
    have e : ((Int.gcd (Int.gcd a b : Nat) c : Nat) : Int) * -1 = -((g3 a b c : Nat) : Int) := by unfold g3; omega
    walk_at "rd"
    rw [e]
    have o : ∀ i : Int, tE i (-((g3 a b c : Nat) : Int)) := fun i => Ay (by omega) hg.neg (by decide)
    exact ⟨mulR (by decide), o _, o _, o _, q⟩
  · simp only [hn, decide_false, Bool.false_eq_true, ↓reduceIte, Am]
    rw [if_neg hn] at q
    have e : ((Int.gcd (Int.gcd a b : Nat) c : Nat) : Int) * 1 = ((g3 a b c : Nat) : Int) := by unfold g3; omega
    walk_at "rd"
    rw [e]
    have o : ∀ i : Int, tE i ((g3 a b c : Nat) : Int) := fun i => Ay (by omega) hg (by decide)
    exact ⟨mulR (by decide), o _, o _, o _, q⟩
theorem Hx (h : d7 ds μ Qd) : yC { nx := fun _ μ' => Qd (.v .none) μ', rt := Qd } (aX ["x"] ds) μ := by
  obtain ⟨x, rfl, q⟩ := h
  unfold yC
  walk_at "rd"
  exact q
theorem zA (h : d7 ds μ Qd) : lT { nx := fun _ μ' => Qd (.v .none) μ', rt := Qd } (aX ["_law_x"] ds) μ := by
  obtain ⟨x, rfl, q⟩ := h
  unfold lT
  walk_at "rd"
  trace_state
  simp only [Int.zero_sub]
  exact q
theorem wm (h : oV ds μ Qd) : kO { nx := fun _ μ' => Qd (.v .none) μ', rt := Qd } (aX ["_law_x"] ds) μ := by
  obtain ⟨x, rfl, q⟩ := h
  unfold kO
  walk_at "rd"
  simp only [Int.zero_sub]
  exact q
theorem CQ (h : dw ds μ Qd) : zO { nx := fun _ μ' => Qd (.v .none) μ', rt := Qd } (aX ["x", "y"] ds) μ := by
  obtain ⟨x, y, rfl, ox, oy, bx, by', q⟩ := h
  unfold zO
  walk_at "rd"
  have m : ∀ {i j : Int}, Sz 4300 i → Sz 4300 j → IntMulOk i j := fun h g => gW h g (by decide)
  exact ⟨m bx.a by'.c, m by'.a bx.c, m bx.b by'.c, m by'.b bx.c, m bx.c by'.c, _, _, _, rfl, pP ox oy, (bx.c.mul by'.c).mono (by decide), q⟩
theorem yc (h : dw ds μ Qd) : qJ { nx := fun _ μ' => Qd (.v .none) μ', rt := Qd } (aX ["_law_x", "_law_y"] ds) μ := CQ h
theorem Im (h : vj ds μ Qd) : y7 { nx := fun _ μ' => Qd (.v .none) μ', rt := Qd } (aX ["x", "y"] ds) μ := by
  obtain ⟨x, y, rfl, ox, oy, bx, by', q⟩ := h
  unfold y7
  walk_at "rd"
  have m : ∀ {i j : Int}, Sz 4300 i → Sz 4300 j → IntMulOk i j := fun h g => gW h g (by decide)
  exact ⟨m bx.a by'.c, m by'.a bx.c, m bx.b by'.c, m by'.b bx.c, m bx.c by'.c, _, _, _, rfl, pP ox oy, (bx.c.mul by'.c).mono (by decide), q⟩
theorem A3 (h : aU ds μ Qd) : uW { nx := fun _ μ' => Qd (.v .none) μ', rt := Qd } (aX ["d", "x", "y"] ds) μ := by
  obtain ⟨d, x, y, rfl, hd, ox, oy, bx, by', q⟩ := h
  unfold uW
  walk_at "rd"
  have m : ∀ {i j : Int}, Sz 4300 i → Sz 4300 j → IntMulOk i j := fun h g => gW h g (by decide)
  exact ⟨m bx.a by'.a, gW hd bx.b (by decide), gW (hd.mul bx.b) by'.b (by decide), m bx.a by'.b, m bx.b by'.a, m bx.c by'.c, _, _, _, rfl, pP ox oy, (bx.c.mul by'.c).mono (by decide), q⟩
theorem wV (h : aU ds μ Qd) : pM { nx := fun _ μ' => Qd (.v .none) μ', rt := Qd } (aX ["_law_d", "_law_x", "_law_y"] ds) μ := A3 h
theorem Ba (h : bV ds μ Qd) : ng { nx := fun _ μ' => Qd (.v .none) μ', rt := Qd } (aX ["d", "x", "norm"] ds) μ := by
  obtain ⟨d, x, rfl, hd, hn, bx, q⟩ := h
  unfold ng
  walk_at "rd"
  have m : ∀ {i j : Int}, Sz 4300 i → Sz 4300 j → IntMulOk i j := fun h g => gW h g (by decide)
  exact ⟨m bx.a bx.a, gW hd bx.b (by decide), gW (hd.mul bx.b) bx.b (by decide), m bx.c bx.a, m bx.c.neg bx.b, _, _, _, rfl, hn, (oA hd bx).mono (by decide), q⟩
theorem rP (h : bV ds μ Qd) : iA { nx := fun _ μ' => Qd (.v .none) μ', rt := Qd } (aX ["_law_d", "_law_x"] ds) μ := by
  obtain ⟨d, x, rfl, hd, hn, bx, q⟩ := h
  unfold iA
  walk_at "rd"
  have m : ∀ {i j : Int}, Sz 4300 i → Sz 4300 j → IntMulOk i j := fun h g => gW h g (by decide)
  refine ⟨m bx.a bx.c, m bx.b bx.c, m bx.a bx.a, gW hd bx.b (by decide), gW (hd.mul bx.b) bx.b (by decide), _, _, _, rfl, hn, (oA hd bx).mono (by decide), ?_⟩
  have e1 : x.a * x.c = x.c * x.a := Int.mul_comm ..
  have e2 : 0 - x.b * x.c = -x.c * x.b := by grind
  rw [e1, e2]
  exact q
theorem LG (a b c a' b' c' : Int) : PyData.eqv (.tuple [.int a, .int b, .int c]) (.tuple [.int a', .int b', .int c']) = decide (a = a' ∧ b = b' ∧ c = c') := by
  simp [PyData.eqv, PyData.eqvAll]
  rfl
theorem HM (h : lF ds μ Qd) : yW { nx := fun _ μ' => Qd (.v .none) μ', rt := Qd } (aX ["d", "x", "y"] ds) μ := by
  obtain ⟨d, x, y, rfl, hd, ox, oy, hy, bx, by', q⟩ := h
  unfold yW
  walk_at "rd"
  refine ⟨rfl, rfl, ?_⟩
  have hn : ¬ (y.a = 0 ∧ y.b = 0 ∧ y.c = 1) := fun z => hy (N3.ext' z.1 z.2.1 z.2.2)
  rw [LG, decide_eq_false hn]
  simp only [Bool.xor_false, Bool.false_eq_true, ↓reduceIte]
  have s5 := kv hd.1 hd.2.1
  have nz := hd.norm oy hy
  exact ⟨d, y, rfl, s5, nz, by'.mono (by decide), d, x, _, rfl, s5, ox, ax nz, bx.mono (by decide), (cg s5 nz by').mono (by decide), q⟩
end
open PySem PySem.Spec PyProof.Rows NM
def il : DTS :=
  (aV (dA (xy (dB (dOp (di false) (af 1) (dC (.int 0)))) (dB (dOp (di false) (af 2) (dC (.int 0))))) (bQ (dC (.int 0))) cf)
  (aV (dA (xy (dB (dOp rGe (af 1) (dC (.int 0)))) (dB (dOp rGe (af 2) (dC (.int 0))))) (bQ (dC (.int 1))) cf)
  (aV (dA (xy (dB (dOp rLe (af 1) (dC (.int 0)))) (dB (dOp rLe (af 2) (dC (.int 0))))) (bQ (wH (dC (.int 1)))) cf)
  (aV (bK (dIf (dB (dOp rGt (cI (af 1) (af 1)) (cI (cI (af 0) (af 2)) (af 2)))) (af 1) (af 2)) (az 3))
  (bQ (dIf (dB (dOp rGt (af 3) (dC (.int 0)))) (dC (.int 1)) (wH (dC (.int 1)))))))))
def p6 : DTS :=
  (bQ (ar uG (ab (af 0) (ab (dOp aH (af 1) (dC (.int 0))) (ab (dOp aH (af 1) (dC (.int 1))) aq)))))
def lU : DTS :=
  (aV (xh 2 3 (ab (cI (dOp aH (af 1) (dC (.int 0))) (dOp aH (af 1) (dC (.int 0)))) (ab (cI (cI (af 0) (dOp aH (af 1) (dC (.int 1)))) (dOp aH (af 1) (dC (.int 1)))) aq)))
  (aV (bK (mP (ab (pd (dCB pF (ab (dOp rGt (dOp aH (af 1) (dC (.int 0))) (dC (.int 0))) aq)) (dCB pF (ab (dOp rLt (dOp aH (af 1) (dC (.int 0))) (dC (.int 0))) aq))) (ab (pd (dCB pF (ab (dOp rGt (dOp aH (af 1) (dC (.int 1))) (dC (.int 0))) aq)) (dCB pF (ab (dOp rLt (dOp aH (af 1) (dC (.int 1))) (dC (.int 0))) aq))) aq))) (az 4))
  (aV (dA (dB (dOp rGe (cI (dOp aH (af 4) (dC (.int 0))) (dOp aH (af 4) (dC (.int 1)))) (dC (.int 0)))) (bQ (dIf (dB (dOp (di true) (dOp aH (af 4) (dC (.int 0))) (dC (.int 0)))) (dOp aH (af 4) (dC (.int 0))) (dOp aH (af 4) (dC (.int 1))))) cf)
  (bQ (dIf (dB (dOp rGt (af 2) (af 3))) (dOp aH (af 4) (dC (.int 0))) (dOp aH (af 4) (dC (.int 1))))))))
def ky : DTS :=
  (bQ (dOp rGt (ar el (ab (af 0) (ab (ar dw (ab (af 2) (ab (ar oV (ab (af 1) aq)) aq))) aq))) (dC (.int 0))))
section
variable {μ : Mu} {Qd : DK} {ds : List D}
theorem rL (h : uG ds μ Qd) : il { nx := fun _ μ' => Qd (.v .none) μ', rt := Qd } (aX ["d", "a", "b", "prevailing"] ds) μ := by
  obtain ⟨d, a, b, rfl, hd, ha, hb, q⟩ := h
  unfold il
  walk_at "rd"
  have m1 : MulOk a a := gW ha ha (by decide)
  have m2 : MulOk d b := gW hd hb (by decide)
  have m3 : MulOk (d * b) b := gW (hd.mul hb) hb (by decide)
  unfold sg at q
  by_cases h1 : a = 0
  · by_cases h2 : b = 0
    · subst h1 h2; simpa using q
    · subst h1
      rcases Int.lt_or_gt_of_ne h2 with h3 | h3
      · have e : ¬ (0 ≤ b) := by omega
        have e' : b ≤ 0 := by omega
        simp only [h2, e, e', and_false, true_and, if_true, if_false, decide_true, decide_false, Int.le_refl, ↓reduceIte, Bool.false_eq_true] at q ⊢
        exact q
      · have e : (0 ≤ b) := by omega
        simp only [h2, e, and_false, true_and, if_true, if_false, decide_true, decide_false, Int.le_refl, ↓reduceIte, Bool.false_eq_true] at q ⊢
        exact q
  · by_cases h3 : 0 ≤ a <;> by_cases h4 : 0 ≤ b <;> by_cases h5 : a ≤ 0 <;> by_cases h6 : b ≤ 0 <;> by_cases h7 : d * b * b < a * a <;> (try (exfalso; omega)) <;>
      simp only [h1, h3, h4, h5, h6, h7, and_false, false_and, and_true, true_and, if_true, if_false, decide_true, decide_false, ↓reduceIte, Bool.false_eq_true, and_self, m1, m2, m3, gt_iff_lt] at q ⊢ <;> (try exact q)
    all_goals
      first
      | (by_cases h8 : 0 < a <;> simp only [h8, if_true, if_false, decide_true, decide_false, ↓reduceIte, Bool.false_eq_true] at q ⊢ <;> exact q)
      | (by_cases h8 : 0 < b <;> simp only [h8, if_true, if_false, decide_true, decide_false, ↓reduceIte, Bool.false_eq_true] at q ⊢ <;> exact q)
theorem BO (h : el ds μ Qd) : p6 { nx := fun _ μ' => Qd (.v .none) μ', rt := Qd } (aX ["d", "x"] ds) μ := by
  obtain ⟨d, x, rfl, hd, bx, q⟩ := h
  unfold p6
  walk_at "rd"
  exact ⟨d, x.a, x.b, rfl, kv hd.1 hd.2.1, bx.a.mono (by decide), bx.b.mono (by decide), q⟩
theorem J7 {d a b sa sb : Int} (ha : (a < 0 ∧ sa = -1) ∨ (a = 0 ∧ sa = 0) ∨ (0 < a ∧ sa = 1)) (hb : (b < 0 ∧ sb = -1) ∨ (b = 0 ∧ sb = 0) ∨ (0 < b ∧ sb = 1)) :
    sg d a b = if 0 ≤ sa * sb then (if sa ≠ 0 then sa else sb) else if d * b * b < a * a then sa else sb := by
  unfold sg
  by_cases h7 : d * b * b < a * a <;> rcases ha with ⟨h1, rfl⟩ | ⟨h1, rfl⟩ | ⟨h1, rfl⟩ <;> rcases hb with ⟨h2, rfl⟩ | ⟨h2, rfl⟩ | ⟨h2, rfl⟩ <;> simp only [h7, ↓reduceIte] <;> (repeat' split) <;> omega
theorem zu (h : el ds μ Qd) : lU { nx := fun _ μ' => Qd (.v .none) μ', rt := Qd } (aX ["_law_d", "_law_x", "_law_first", "_law_second", "_law_sides"] ds) μ := by
  obtain ⟨d, x, rfl, hd, bx, q⟩ := h
  unfold lU
  walk_at "rd"
  have s5 := kv hd.1 hd.2.1
  refine ⟨gW bx.a bx.a (by decide), gW s5 bx.b (by decide), gW (s5.mul bx.b) bx.b (by decide), ?_⟩
  have sd : ∀ u : Int, (u < 0 ∧ ((if decide (0 < u) = true then 1 else 0) - if decide (u < 0) = true then 1 else 0 : Int) = -1) ∨ (u = 0 ∧ ((if decide (0 < u) = true then 1 else 0) - if decide (u < 0) = true then 1 else 0 : Int) = 0) ∨ (0 < u ∧ ((if decide (0 < u) = true then 1 else 0) - if decide (u < 0) = true then 1 else 0 : Int) = 1) := fun u => by
    simp only [decide_eq_true_eq]
    split <;> split <;> omega
  have ha := sd x.a
  have hb := sd x.b
  generalize ((if decide (0 < x.a) = true then 1 else 0) - if decide (x.a < 0) = true then 1 else 0 : Int) = sa at ha ⊢
  generalize ((if decide (0 < x.b) = true then 1 else 0) - if decide (x.b < 0) = true then 1 else 0 : Int) = sb at hb ⊢
  rw [J7 ha hb] at q
  refine ⟨mulL (by omega), ?_⟩
  by_cases c1 : 0 ≤ sa * sb <;> by_cases c2 : sa = 0 <;> by_cases c3 : d * x.b * x.b < x.a * x.a <;> simp only [c1, c2, c3, decide_true, decide_false, ↓reduceIte, Bool.false_eq_true, Bool.xor_false, Bool.xor_true, Bool.not_true, ne_eq, not_true_eq_false, not_false_eq_true, Int.zero_mul, Int.le_refl] at q ⊢ <;> exact q
theorem wx (h : oI ds μ Qd) : ky { nx := fun _ μ' => Qd (.v .none) μ', rt := Qd } (aX ["_law_d", "_law_x", "_law_y"] ds) μ := by
  obtain ⟨d, x, y, rfl, hd, ox, oy, bx, by', q⟩ := h
  unfold ky
  walk_at "rd"
  refine ⟨x, rfl, y, minus x, rfl, oy, kP ox, by'.mono (by decide), (rn bx).mono (by decide), d, plus y (minus x), rfl, hd, (eC oy (kP ox) by' (rn bx)).mono (by decide), ?_⟩
  walk_at "rd"
  have e : sg d (plus y (minus x)).a (plus y (minus x)).b = dif d y x := by
    obtain ⟨k, hk, hs, p1, p2, p3, _⟩ := iU (y.a * (minus x).c + (minus x).a * y.c) (y.b * (minus x).c + (minus x).b * y.c) (pP oy (kP ox))
    have hk0 : 0 < k := hs.mpr (Int.mul_pos oy.c (kP ox).c)
    unfold dif
    have e1 : y.a * x.c - x.a * y.c = k * (plus y (minus x)).a := by rw [show k * (plus y (minus x)).a = _ from p1.symm]; show _ = y.a * x.c + -x.a * y.c; grind
    have e2 : y.b * x.c - x.b * y.c = k * (plus y (minus x)).b := by rw [show k * (plus y (minus x)).b = _ from p2.symm]; show _ = y.b * x.c + -x.b * y.c; grind
    rw [e1, e2, kQ hd hk0]
  rw [e]
  have t := hZ d (y.a * x.c - x.a * y.c) (y.b * x.c - x.b * y.c)
  have f : decide (0 < dif d y x) = decide (dif d y x = 1) := by unfold dif; rcases t with z | z | z <;> rw [z] <;> decide
  rw [f]
  exact q
end
open PySem PySem.Spec PyProof.Rows NM
def nK : DTS :=
  (aV (bK (dC (.int 0)) (az 2))
  (aV (dA (dB (dOp rLt (af 1) (dCB gS (ab (af 0) aq)))) (bK (dOp aH (af 0) (af 1)) (az 2)) cf)
  (aV (bK (dC (.int 0)) (az 3))
  (aV (dA (dB (dOp rGe (dCB qw (ab (af 2) aq)) (vC (dC (.int 10)) (dC (.int 18))))) (bK (dCB qw (ab (af 2) aq)) (az 3)) cf)
  (aV (bK (mP (ab (dC (.int 2147483647)) (ab (dC (.int 2147483629)) (ab (dC (.int 2147483587)) (ab (dC (.int 2147483579)) (ab (dC (.int 2147483563)) (ab (dC (.int 2147483549)) (ab (dC (.int 2147483543)) (ab (dC (.int 2147483497)) aq))))))))) (az 4))
  (aV (bK (kN (kN (kN (cI (ug (af 2) (dC (.int 2147483647))) (dC (.int 69623))) (cI (cI (dC (.int 104729)) (af 1)) (af 1))) (cI (dC (.int 7919)) (af 1))) (dC (.int 12345))) (az 5))
  (bQ (xM (ab (af 3) (ab (ug (af 5) (dOp aH (af 4) (ug (af 1) (dC (.int 8))))) aq))))))))))
def mx : DTS :=
  (aV (dA (dB (dOp rGt (dOp aH (af 0) (dC (.int 0))) (dC (.int 0)))) (aV (bK (ug (dOp aH (af 0) (dC (.int 0))) (af 1)) (az 2))
  (aV (bK (ui (dOp aH (af 0) (dC (.int 0))) (af 1)) (Dv (af 0) (dC (.int 0))))
  (bQ (af 2)))) cf)
  (aV (bK (ug (kN (cI (dOp aH (af 0) (dC (.int 1))) (dC (.int 48271))) (dC (.int 2531011))) (dC (.int 2147483647))) (Dv (af 0) (dC (.int 1))))
  (bQ (ug (ui (ug (vC (dOp aH (af 0) (dC (.int 1))) (dC (.int 3))) (dC (.int 2147483629))) (dC (.int 64))) (af 1)))))
section
variable {μ : Mu} {Qd : DK} {ds : List D}
theorem uL {α : Type} {xs : List α} {i : Int} (h0 : 0 ≤ i) (h : i < (xs.length : Nat)) : ∃ d, atI xs i = some d ∧ d ∈ xs := by
  have hj : i.toNat < xs.length := by omega
  have e := uF (xs := xs) (j := i.toNat) (v := xs[i.toNat]) (by simp [hj])
  rw [show ((i.toNat : Nat) : Int) = i by omega] at e
  exact ⟨_, e, List.getElem_mem _⟩
theorem j1 (x : Int) {y : Int} (h : 0 < y) : 0 ≤ x.fmod y ∧ x.fmod y < y := ⟨Int.fmod_nonneg_of_pos x h, Int.fmod_lt_of_pos x h⟩
theorem H0 {x y : Int} (hx : 0 ≤ x) (hy : 0 < y) : 0 ≤ x.fdiv y := by rw [Int.fdiv_eq_ediv_of_nonneg _ (by omega)]; exact Int.ediv_nonneg hx (by omega)
def oN : List PyData := [.int 2147483647, .int 2147483629, .int 2147483587, .int 2147483579, .int 2147483563, .int 2147483549, .int 2147483543, .int 2147483497]
theorem AV (h : CD ds μ Qd) : nK { nx := fun _ μ' => Qd (.v .none) μ', rt := Qd } (aX ["_law_script", "_law_at", "_law_cell", "_law_great", "_law_primes", "_law_mixed"] ds) μ := by
  obtain ⟨ns, k, rfl, h0, h1, q⟩ := h
  unfold nK
  have hp : ∃ pr : Int, atI oN (k.fmod 8) = some (.int pr) ∧ 0 < pr ∧ pr < 2147483648 := by
    obtain ⟨h2, h3⟩ := j1 k (show (0 : Int) < 8 by decide)
    obtain ⟨p, e, hm⟩ := uL (xs := oN) h2 (by exact h3)
    simp only [oN, List.mem_cons, List.not_mem_nil, or_false] at hm
    rcases hm with rfl | rfl | rfl | rfl | rfl | rfl | rfl | rfl <;> exact ⟨_, e, by decide, by decide⟩
  obtain ⟨pr, hpe, hp0, hp1⟩ := hp
  unfold oN at hpe
  walk_at "rd"
  rw [hpe]
  walk_at "rd"
  have c1 : Ee 10 18 := ⟨by decide, by decide, by decide⟩
  have z1 : (2147483647 : Int) ≠ 0 := by decide
  have z2 : (8 : Int) ≠ 0 := by decide
  have m1 : ∀ i : Int, MulOk i 69623 := fun i => mulR (by decide)
  have m2 : MulOk 104729 k := mulL (by decide)
  have m3 : MulOk (104729 * k) k := mulR (by omega)
  have m4 : MulOk 7919 k := mulL (by decide)
  have z3 : pr ≠ 0 := by omega
  have fin : ∀ G x : Int, 0 ≤ G → ∀ p, μ p = none → Qd (.m p) (aM μ p [.int G, .int (x.fmod pr)]) := fun G x hG p hp => by
    obtain ⟨h2, h3⟩ := j1 x hp0
    exact q p _ hp (Step.set hG h2 (by omega))
  by_cases hk : k < (ns.length : Nat)
  · rw [if_pos (by simpa using hk)]
    obtain ⟨c, hc, _⟩ := uL h0 hk
    rw [hc]
    walk_at "rd"
    refine ⟨c1, ?_⟩
    split
    · exact ⟨z1, m1 _, m2, m3, m4, z2, z3, fin _ _ (by omega)⟩
    · exact ⟨z1, m1 _, m2, m3, m4, z2, z3, fin _ _ (by omega)⟩
  · rw [if_neg (by simpa using hk)]
    refine ⟨c1, ?_⟩
    split
    · exact ⟨z1, m1 _, m2, m3, m4, z2, z3, fin _ _ (by omega)⟩
    · exact ⟨z1, m1 _, m2, m3, m4, z2, z3, fin _ _ (by omega)⟩
theorem yI (h : cU ds μ Qd) : mx { nx := fun _ μ' => Qd (.v .none) μ', rt := Qd } (aX ["_law_bag_here", "_law_many", "_law_digit"] ds) μ := by
  obtain ⟨a, n, rfl, h0, h1, ⟨g, m, hb, hg, hm, hm'⟩, q⟩ := h
  unfold mx
  walk_at "rd"
  rw [hb]
  walk_at "rd"
  rw [hb]
  walk_at "rd"
  have n0 : n ≠ 0 := by omega
  have i0 : ixN 2 0 = some 0 := by rfl
  have i1 : ixN 2 1 = some 1 := by rfl
  by_cases hg0 : 0 < g
  · rw [if_pos (by simpa using hg0)]
    simp only [hb]
    walk_at "rd"
    obtain ⟨r0, r1⟩ := j1 g (show 0 < n by omega)
    refine ⟨n0, ?_⟩
    simp only [hb]
    walk_at "rd"
    refine ⟨divC n0 (by omega), ?_⟩
    simp only [hb, List.length_cons, List.length_nil, Nat.reduceAdd, i0, List.set_cons_zero]
    exact q _ _ r0 r1 (Step.set (H0 hg (by omega)) hm hm')
  · rw [if_neg (by simpa using hg0)]
    simp only [hb, i1, bA]
    walk_at "rd"
    obtain ⟨s0, s1⟩ := j1 (m * 48271 + 2531011) (show (0 : Int) < 2147483647 by decide)
    generalize (m * 48271 + 2531011).fmod 2147483647 = w at s0 s1 ⊢
    obtain ⟨r0, r1⟩ := j1 ((((w ^ Int.toNat 3).fmod 2147483629).fdiv 64)) (show 0 < n by omega)
    refine ⟨mulL (by omega), by decide, ?_⟩
    refine ⟨⟨by decide, by decide, by omega⟩, (by show (2147483629 : Int) ≠ 0; decide), divC (by decide) (by decide), n0, ?_⟩
    exact q _ _ r0 r1 (Step.set hg s0 (by omega))
end
open PySem PySem.Spec PyProof.Rows NM
section
variable {μ : Mu} {Qd : DK} {ds : List D}
end
open PySem PySem.Spec PyProof.Rows NM
def mq : DTS :=
  (aV (dA (jh (en (dB (vK "tuple" (af 0)))) (dB (dOp (di true) (dCB gS (ab (af 0) aq)) (dC (.int 3))))) (bQ (dC (.bool false))) cf)
  (aV (bK (af 0) (x8 3 (gf (az 1) (gf (az 2) (gf (az 3) x6)))))
  (aV (dA (jh (en (dB (ar jm (ab (af 1) aq)))) (jh (en (dB (ar jm (ab (af 2) aq)))) (en (dB (ar jm (ab (af 3) aq)))))) (bQ (dC (.bool false))) cf)
  (bQ (qs (dOp rGe (af 3) (dC (.int 1))) (dOp (di false) (ar vF (ab (af 1) (ab (af 2) (ab (af 3) aq)))) (dC (.int 1))))))))
section
variable {μ : Mu} {Qd : DK} {ds : List D}
def Ds (i : Int) : Bool := decide (2 ≤ i) && decide (i ≤ 30) && !(decide (i = 4) || decide (i = 9) || decide (i = 16) || decide (i = 25))
theorem eS (d : PyData) : (∃ i, d = .int i ∧ isWhole d = true) ∨ ((∀ i, d ≠ .int i) ∧ isWhole d = false) := by
  cases d <;> first | exact .inl ⟨_, rfl, rfl⟩ | exact .inr ⟨fun _ z => (by cases z), rfl⟩
theorem CT (d : PyData) : (∃ xs, d = .tuple xs ∧ isT "tuple" d = true) ∨ ((∀ xs, d ≠ .tuple xs) ∧ isT "tuple" d = false) := by
  cases d <;> first | exact .inl ⟨_, rfl, rfl⟩ | exact .inr ⟨fun _ z => (by cases z), rfl⟩
theorem xx {d : PyData} (h : ∀ xs, d ≠ .tuple xs) : isNum d = false := by cases d <;> first | rfl | exact absurd rfl (h _)
theorem xJ {xs : List PyData} (h : xs.length ≠ 3) : isNum (.tuple xs) = false := by
  unfold isNum
  split
  · rename_i e; cases e; exact absurd rfl h
  · rfl
theorem three {α : Type} {xs : List α} (h : xs.length = 3) : ∃ a b c, xs = [a, b, c] := by
  match xs, h with
  | [a, b, c], _ => exact ⟨a, b, c, rfl⟩
theorem yb (h : lK ds μ Qd) : mq { nx := fun _ μ' => Qd (.v .none) μ', rt := Qd } (aX ["thing", "a", "b", "c"] ds) μ := by
  obtain ⟨d, rfl, _, q⟩ := h
  unfold mq
  walk_at "rd"
  rcases CT d with ⟨xs, rfl, e⟩ | ⟨hn, e⟩
  · rw [e]
    walk_at "rd"
    by_cases hl : xs.length = 3
    · obtain ⟨a, b, c, rfl⟩ := three hl
      have e3 : decide ((([a, b, c].length : Nat) : Int) = 3) = true := rfl
      have e3' : [a, b, c].length = 3 := rfl
      simp only [e3, Bool.xor_self, Bool.false_eq_true, ↓reduceIte]
      refine ⟨rfl, ?_⟩
      walk_at "rd"
      refine ⟨a, rfl, ?_⟩
      rcases eS a with ⟨i, rfl, e⟩ | ⟨hn, e⟩
      · rw [e]
        walk_at "rd"
        refine ⟨b, rfl, ?_⟩
        rcases eS b with ⟨j, rfl, e⟩ | ⟨hn, e⟩
        · rw [e]
          walk_at "rd"
          refine ⟨c, rfl, ?_⟩
          rcases eS c with ⟨k, rfl, e⟩ | ⟨hn, e⟩
          · rw [e]
            walk_at "rd"
            have q' : Qd (.v (.bool (decide (1 ≤ k) && (g3 i j k == 1)))) μ := q
            by_cases hk : 1 ≤ k
            · rw [if_pos (by simpa using hk)]
              refine ⟨i, j, k, rfl, ?_⟩
              walk_at "rd"
              have ee : decide (((g3 i j k : Nat) : Int) = 1) = (decide (1 ≤ k) && (g3 i j k == 1)) := by
                rw [decide_eq_true hk, Bool.true_and, Bool.eq_iff_iff]; simp; omega
              rw [ee]
              exact q'
            · rw [if_neg (by simpa using hk)]
              rw [decide_eq_false hk] at q'
              exact q'
          · rw [e]
            walk_at "rd"
            have : isNum (.tuple [.int i, .int j, c]) = false := by cases c <;> first | rfl | exact absurd rfl (hn _)
            rw [this] at q
            exact q
        · rw [e]
          walk_at "rd"
          have : isNum (.tuple [.int i, b, c]) = false := by cases b <;> first | rfl | exact absurd rfl (hn _)
          rw [this] at q
          exact q
      · rw [e]
        walk_at "rd"
        have : isNum (.tuple [a, b, c]) = false := by cases a <;> first | rfl | exact absurd rfl (hn _)
        rw [this] at q
        exact q
    · rw [xJ hl] at q
      have : decide (((xs.length : Nat) : Int) = 3) = false := by simp; omega
      rw [this]
      simp only [Bool.xor_false, ↓reduceIte]
      exact q
  · rw [e]
    rw [xx hn] at q
    walk_at "rd"
    exact q
end
open PySem PySem.Spec PyProof.Rows NM
def gY : DTS :=
  (aV (dA (jh (en (dB (vK "tuple" (af 0)))) (jh (dB (dOp (di true) (dCB gS (ab (af 0) aq)) (dC (.int 3)))) (en (dB (dCB pL (ab (nX [none] (nO (af 0)) (az 0) mM (ar jm (ab (af 0) aq))) aq)))))) (bQ (dC (.bool false))) cf)
  (bQ (qs (dOp rGt (dOp aH (af 0) (dC (.int 2))) (dC (.int 0))) (dOp (di false) (ar nQ (ab (ar nQ (ab (dOp aH (af 0) (dC (.int 0))) (ab (dOp aH (af 0) (dC (.int 1))) aq))) (ab (dOp aH (af 0) (dC (.int 2))) aq))) (dC (.int 1))))))
def jI : DTS :=
  (aV (bK (dOp aH (mP (ab (dC (.int 4)) (ab (dC (.int 10)) (ab (dC (.int 100)) (ab (dC (.int 1000000)) aq))))) (ar cU (ab (af 0) (ab (dC (.int 4)) aq)))) (az 1))
  (aV (xh 2 3 (ab (pd (ar cU (ab (af 0) (ab (af 1) aq))) (ui (af 1) (dC (.int 2)))) (ab (pd (ar cU (ab (af 0) (ab (af 1) aq))) (ui (af 1) (dC (.int 2)))) aq)))
  (aV (bK (kN (dC (.int 1)) (ar cU (ab (af 0) (ab (pd (af 1) (dC (.int 1))) aq)))) (az 4))
  (aV (bK (ar cU (ab (af 0) (ab (dC (.int 8)) aq))) (az 5))
  (bQ (ar cP (ab (dOp aH (mP (ab (af 2) (ab (af 2) (ab (af 2) (ab (af 2) (ab (af 2) (ab (af 2) (ab (af 2) (ab (dC (.int 0)) aq))))))))) (af 5)) (ab (dOp aH (mP (ab (af 3) (ab (af 3) (ab (af 3) (ab (af 3) (ab (af 3) (ab (dC (.int 0)) (ab (dC (.int 0)) (ab (af 3) aq))))))))) (af 5)) (ab (dOp aH (mP (ab (af 4) (ab (af 4) (ab (dC (.int 1)) (ab (af 4) (ab (dC (.int 1)) (ab (af 4) (ab (dC (.int 1)) (ab (af 4) aq))))))))) (af 5)) aq)))))))))
section
variable {μ : Mu} {Qd : DK} {ds : List D}
theorem qO (h : lK ds μ Qd) : gY { nx := fun _ μ' => Qd (.v .none) μ', rt := Qd } (aX ["_law_thing"] ds) μ := by
  obtain ⟨d, rfl, few, q⟩ := h
  unfold gY
  walk_at "rd"
  rcases CT d with ⟨xs, rfl, e⟩ | ⟨hn, e⟩
  · rw [e]
    walk_at "rd"
    by_cases hl : xs.length = 3
    · obtain ⟨a, b, c, rfl⟩ := three hl
      have e3 : decide ((([a, b, c].length : Nat) : Int) = 3) = true := rfl
      simp only [e3, Bool.xor_self, Bool.false_eq_true, ↓reduceIte]
      refine ⟨by simp, fun x => some (.bool (isWhole x)), fun x hx μ' hs => ⟨trivial, x, rfl, rfl, rfl⟩, ?_⟩
      rw [DN (fun x => PyData.bool (isWhole x)), sZ]
      simp only [List.map_cons, List.map_nil, List.all_cons, List.all_nil, id, Bool.and_true]
      rcases eS a with ⟨i, rfl, ea⟩ | ⟨hn, ea⟩
      · rcases eS b with ⟨j, rfl, e1⟩ | ⟨hn, e1⟩
        · rcases eS c with ⟨k, rfl, e2⟩ | ⟨hn, e2⟩
          · rw [ea, e1, e2]
            simp only [Bool.and_self]
            walk_at "rd"
            have q' : Qd (.v (.bool (decide (1 ≤ k) && (g3 i j k == 1)))) μ := q
            by_cases hk : 1 ≤ k
            · rw [if_pos (by simp; omega)]
              refine ⟨i, j, rfl, _, k, rfl, ?_⟩
              walk_at "rd"
              have ee : decide (((Int.gcd (Int.gcd i j : Nat) k : Nat) : Int) = 1) = (decide (1 ≤ k) && (g3 i j k == 1)) := by
                unfold g3
                rw [decide_eq_true hk, Bool.true_and, Bool.eq_iff_iff]; simp; omega
              rw [ee]
              exact q'
            · rw [if_neg (by simp; omega)]
              rw [decide_eq_false hk] at q'
              exact q'
          · rw [ea, e1, e2]
            simp only [Bool.and_false]
            walk_at "rd"
            have : isNum (.tuple [.int i, .int j, c]) = false := by cases c <;> first | rfl | exact absurd rfl (hn _)
            rw [this] at q
            exact q
        · rw [ea, e1]
          simp only [Bool.and_false, Bool.false_and]
          walk_at "rd"
          have : isNum (.tuple [.int i, b, c]) = false := by cases b <;> first | rfl | exact absurd rfl (hn _)
          rw [this] at q
          exact q
      · rw [ea]
        simp only [Bool.and_false, Bool.false_and]
        walk_at "rd"
        have : isNum (.tuple [a, b, c]) = false := by cases a <;> first | rfl | exact absurd rfl (hn _)
        rw [this] at q
        exact q
    · rw [xJ hl] at q
      have : decide (((xs.length : Nat) : Int) = 3) = false := by simp; omega
      rw [this]
      simp only [Bool.xor_false, ↓reduceIte]
      exact q
  · rw [e]
    rw [xx hn] at q
    walk_at "rd"
    exact q
theorem pick {P : PyData → Prop} {xs : List PyData} {i : Int} (h0 : 0 ≤ i) (h1 : i < (xs.length : Nat)) (h : ∀ x ∈ xs, P x) : ∃ d, atI xs i = some d ∧ P d := let ⟨d, e, m⟩ := uL h0 h1; ⟨d, e, h d m⟩
theorem Step.refl {a : Addr} (h : Bag μ a) : Step a μ μ := ⟨h, fun _ _ => rfl⟩
theorem A6 {i : Int} (h1 : -1048576 < i) (h2 : i < 1048576) : Sz 20 i := Sz.of (by show i.natAbs < 1048576; omega)
theorem uQ (h : oE ds μ Qd) : jI { nx := fun _ μ' => Qd (.v .none) μ', rt := Qd } (aX ["_law_bag_here", "_law_wide", "_law_a", "_law_b", "_law_c", "_law_way"] ds) μ := by
  obtain ⟨a, rfl, hb, q⟩ := h
  unfold jI
  walk_at "rd"
  refine ⟨a, 4, rfl, by decide, by decide, hb, fun r0 μ1 h0 h1 s1 => ?_⟩
  walk_at "rd"
  obtain ⟨w, e, i, rfl, w0, w1⟩ := pick (P := fun d => ∃ i : Int, d = .int i ∧ 4 ≤ i ∧ i ≤ 1000000) (xs := [PyData.int 4, PyData.int 10, PyData.int 100, PyData.int 1000000]) h0 (by exact h1) (by
    intro x hx
    simp only [List.mem_cons, List.not_mem_nil, or_false] at hx
    rcases hx with rfl | rfl | rfl | rfl <;> exact ⟨_, rfl, by decide, by decide⟩)
  rw [e]
  walk_at "rd"
  refine ⟨a, i, rfl, by omega, by omega, s1.1, fun r1 μ2 h2 h3 s2 => ?_⟩
  walk_at "rd"
  refine ⟨divC (by decide) (by decide), a, i, rfl, by omega, by omega, s2.1, fun r2 μ3 h4 h5 s3 => ?_⟩
  walk_at "rd"
  refine ⟨divC (by decide) (by decide), a, i - 1, rfl, by omega, by omega, s3.1, fun r3 μ4 h6 h7 s4 => ?_⟩
  walk_at "rd"
  refine ⟨a, 8, rfl, by decide, by decide, s4.1, fun r4 μ5 h8 h9 s5 => ?_⟩
  walk_at "rd"
  have ef : i.fdiv 2 = i / 2 := Int.fdiv_eq_ediv_of_nonneg _ (by omega)
  rw [ef]
  have za : Sz 20 (r1 - i / 2) := A6 (by omega) (by omega)
  have zb : Sz 20 (r2 - i / 2) := A6 (by omega) (by omega)
  have zc : Sz 20 (1 + r3) := A6 (by omega) (by omega)
  have z0 : Sz 20 0 := A6 (by omega) (by omega)
  have z1 : Sz 20 1 := A6 (by omega) (by omega)
  obtain ⟨d1, e1, i1, rfl, b1⟩ := pick (P := fun d => ∃ i : Int, d = .int i ∧ Sz 20 i) (xs := [PyData.int (r1 - i / 2), PyData.int (r1 - i / 2), PyData.int (r1 - i / 2), PyData.int (r1 - i / 2), PyData.int (r1 - i / 2), PyData.int (r1 - i / 2), PyData.int (r1 - i / 2), PyData.int 0]) h8 (by exact h9) (by
    intro x hx
    simp only [List.mem_cons, List.not_mem_nil, or_false] at hx
    rcases hx with rfl | rfl | rfl | rfl | rfl | rfl | rfl | rfl <;> exact ⟨_, rfl, by assumption⟩)
  rw [e1]
  walk_at "rd"
  obtain ⟨d2, e2, i2, rfl, b2⟩ := pick (P := fun d => ∃ i : Int, d = .int i ∧ Sz 20 i) (xs := [PyData.int (r2 - i / 2), PyData.int (r2 - i / 2), PyData.int (r2 - i / 2), PyData.int (r2 - i / 2), PyData.int (r2 - i / 2), PyData.int 0, PyData.int 0, PyData.int (r2 - i / 2)]) h8 (by exact h9) (by
    intro x hx
    simp only [List.mem_cons, List.not_mem_nil, or_false] at hx
    rcases hx with rfl | rfl | rfl | rfl | rfl | rfl | rfl | rfl <;> exact ⟨_, rfl, by assumption⟩)
  rw [e2]
  walk_at "rd"
  obtain ⟨d3, e3, i3, rfl, b3, p3⟩ := pick (P := fun d => ∃ i : Int, d = .int i ∧ Sz 20 i ∧ 0 < i) (xs := [PyData.int (1 + r3), PyData.int (1 + r3), PyData.int 1, PyData.int (1 + r3), PyData.int 1, PyData.int (1 + r3), PyData.int 1, PyData.int (1 + r3)]) h8 (by exact h9) (by
    intro x hx
    simp only [List.mem_cons, List.not_mem_nil, or_false] at hx
    rcases hx with rfl | rfl | rfl | rfl | rfl | rfl | rfl | rfl <;> exact ⟨_, rfl, by assumption, by omega⟩)
  rw [e3]
  walk_at "rd"
  have n3 : i3 ≠ 0 := by omega
  exact ⟨i1, i2, i3, rfl, n3, b3.mono (by decide), q _ _ (ip _ _ n3) (jN n3 b1 b2 b3) (s1.trans (s2.trans (s3.trans (s4.trans s5))))⟩
end
open PySem PySem.Spec PyProof.Rows NM
def md : DTS :=
  (aV (dA (dB (dOp (di false) (ar cU (ab (af 0) (ab (dC (.int 2)) aq))) (dC (.int 0)))) (bQ (dOp aH (mP (ab (dC (.int 2)) (ab (dC (.int 3)) (ab (dC (.int 5)) aq)))) (ar cU (ab (af 0) (ab (dC (.int 3)) aq))))) cf)
  (aV (bK (ni [none] (BV (ab (dC (.int 2)) (ab (dC (.int 31)) aq))) (az 0) (dB (dOp (HW true) (af 0) (mP (ab (dC (.int 4)) (ab (dC (.int 9)) (ab (dC (.int 16)) (ab (dC (.int 25)) aq))))))) (af 0)) (az 1))
  (bQ (dOp aH (af 1) (ar cU (ab (af 0) (ab (dC (.int 25)) aq)))))))
def kE : DTS :=
  (aV (bK (ar oE (ab (af 0) aq)) (az 2))
  (aV (bK (ar el (ab (af 1) (ab (af 2) aq))) (az 3))
  (aV (dA (dB (dOp (di false) (af 3) (dC (.int 0)))) (bQ (dm (ab (kN (dC (.int 1)) (ar cU (ab (af 0) (ab (dC (.int 5)) aq)))) (ab (dC (.int 0)) (ab (dC (.int 1)) aq))))) cf)
  (bQ (dIf (dB (dOp rGt (af 3) (dC (.int 0)))) (af 2) (ar oV (ab (af 2) aq)))))))
section
variable {μ : Mu} {Qd : DK} {ds : List D}
theorem Ir {lo : Int} {n : Nat} {x : PyData} (h : x ∈ nU lo n) : ∃ i : Int, x = .int i ∧ lo ≤ i ∧ i < lo + n := by
  unfold nU at h
  obtain ⟨k, hk, rfl⟩ := List.mem_map.mp h
  have := List.mem_range.mp hk
  exact ⟨_, rfl, by omega, by omega⟩
def A7 : PyData → Option PyData
  | .int i => if Ds i then some (.int i) else none
  | _ => none
def zC : List PyData := [2, 3, 5, 6, 7, 8, 10, 11, 12, 13, 14, 15, 17, 18, 19, 20, 21, 22, 23, 24, 26, 27, 28, 29, 30].map PyData.int
theorem in4 (i : Int) : (List.any [PyData.int 4, PyData.int 9, PyData.int 16, PyData.int 25] fun b => PyData.eqv b (.int i)) = (decide (i = 4) || decide (i = 9) || decide (i = 16) || decide (i = 25)) := by
  have ev : ∀ j : Int, PyData.eqv (.int j) (.int i) = decide (i = j) := fun j => by rw [MO]; simp [eq_comm]
  simp only [List.any_cons, List.any_nil, ev, Bool.or_false, Bool.or_assoc]
theorem zq (h : uv ds μ Qd) : md { nx := fun _ μ' => Qd (.v .none) μ', rt := Qd } (aX ["_law_bag_here", "_law_some"] ds) μ := by
  obtain ⟨a, rfl, hb, q⟩ := h
  unfold md
  walk_at "rd"
  refine ⟨a, 2, rfl, by decide, by decide, hb, fun r0 μ1 h0 h1 s1 => ?_⟩
  walk_at "rd"
  by_cases hr : r0 = 0
  · rw [if_pos (by simpa using hr)]
    refine ⟨a, 3, rfl, by decide, by decide, s1.1, fun r1 μ2 h2 h3 s2 => ?_⟩
    walk_at "rd"
    obtain ⟨w, e, i, rfl, w0⟩ := pick (P := fun d => ∃ i : Int, d = .int i ∧ aB i) (xs := [PyData.int 2, PyData.int 3, PyData.int 5]) h2 (by exact h3) (by
      intro x hx
      simp only [List.mem_cons, List.not_mem_nil, or_false] at hx
      rcases hx with rfl | rfl | rfl <;> exact ⟨_, rfl, by unfold aB; omega⟩)
    rw [e]
    exact q _ _ w0 (s1.trans s2)
  · rw [if_neg (by simpa using hr)]
    refine ⟨⟨by decide, by decide, by decide, by decide⟩, by decide, fun p hp => ⟨fun i acc μ' => acc = ((nU 2 29).take i).filterMap A7 ∧ μ' = aM μ1 p acc, ⟨rfl, rfl⟩, ?_, ?_⟩⟩
    · rintro i x acc μ' hx hpa ⟨e0, e1⟩
      obtain ⟨k, rfl, i0, i1⟩ := Ir (List.mem_of_getElem? hx)
      refine ⟨trivial, rfl, rfl, by show 0 ≤ 60; decide, ?_⟩
      rw [in4]
      have i1' : k < 31 := by simpa using i1
      have e : A7 (.int k) = if Ds k then some (.int k) else none := rfl
      have e2 : Ds k = !(decide (k = 4) || decide (k = 9) || decide (k = 16) || decide (k = 25)) := by
        unfold Ds
        rw [decide_eq_true i0, decide_eq_true (show k ≤ 30 by omega)]
        rfl
      have ft : ((nU 2 29).take (i + 1)).filterMap A7 = ((nU 2 29).take i).filterMap A7 ++ (A7 (.int k)).toList := JJ hx
      rw [e, e2] at ft
      cases hh : (decide (k = 4) || decide (k = 9) || decide (k = 16) || decide (k = 25))
      · rw [hh] at ft
        simp only [Bool.true_xor, Bool.not_false, ↓reduceIte] at ft ⊢
        refine ⟨hpa, ?_, ?_⟩
        · rw [ft, e0]; rfl
        · rw [e1, oT]
      · rw [hh] at ft
        simp only [Bool.true_xor, Bool.not_true, ↓reduceIte, Bool.false_eq_true] at ft ⊢
        refine ⟨hpa, ?_, e1⟩
        rw [ft, e0]; simp
    rintro acc μ' ⟨e0, e1⟩ _
    have ed : gF μ' p = μ1 := by rw [e1]; exact xA hp
    rw [ed]
    have e0' : acc = zC := by rw [e0]; rfl
    rw [e0']
    refine ⟨a, 25, rfl, by decide, by decide, s1.1, fun r1 μ2 h2 h3 s2 => ?_⟩
    walk_at "rd"
    obtain ⟨w, e, i, rfl, w0⟩ := pick (P := fun d => ∃ i : Int, d = .int i ∧ aB i) (xs := zC) h2 (by exact h3) (by
      intro x hx
      unfold zC at hx
      obtain ⟨k, hk, rfl⟩ := List.mem_map.mp hx
      refine ⟨_, rfl, ?_⟩
      simp only [List.mem_cons, List.not_mem_nil, or_false] at hk
      unfold aB
      omega)
    rw [e]
    exact q _ _ w0 (s1.trans s2)
def CW : List PyData := [.none, .bool true, .bool false, .str "1", .str "", .int (-1), .int 0, .int 1, .int (10 ^ Int.toNat 59), .tuple [], .list [], .list [.int 0], .tuple [.int 0, .int 0], .tuple [.int 1, .int 0, .int 0], .tuple [.int 2, .int 0, .int 2], .tuple [.int 1, .bool true, .int 1], .tuple [.int 1, .int 1, .int (-1)], .list [.int 1, .int 0, .int 1], .tuple [.int 1, .int 0], .str "a"]
def jK : DSp := fun ds μ Q => ∃ (a : Addr) (d : Int), ds = [.m a, .v (.int d)] ∧ aB d ∧ Bag μ a ∧ ∀ x μ', Ok x → Bd 20 x → sg d x.a x.b = 1 → Step a μ μ' → Q (.v (dN x)) μ'
theorem wu (h : jK ds μ Qd) : kE { nx := fun _ μ' => Qd (.v .none) μ', rt := Qd } (aX ["_law_bag_here", "_law_d", "_law_x", "_law_sign_here"] ds) μ := by
  obtain ⟨a, d, rfl, hd, hb, q⟩ := h
  unfold kE
  walk_at "rd"
  refine ⟨a, rfl, hb, fun x μ1 ox bx s1 => ?_⟩
  walk_at "rd"
  refine ⟨d, x, rfl, hd, bx.mono (by decide), ?_⟩
  walk_at "rd"
  have t := hZ d x.a x.b
  by_cases h0 : sg d x.a x.b = 0
  · rw [if_pos (by simpa using h0)]
    refine ⟨a, 5, rfl, by decide, by decide, s1.1, fun r μ2 r0 r1 s2 => ?_⟩
    walk_at "rd"
    have ok : Ok ⟨1 + r, 0, 1⟩ := ⟨by show (0 : Int) < 1; decide, by unfold g3; simp⟩
    refine q ⟨1 + r, 0, 1⟩ μ2 ok ⟨A6 (by show -1048576 < 1 + r; omega) (by show 1 + r < 1048576; omega), A6 (by show -1048576 < (0 : Int); decide) (by show (0 : Int) < 1048576; decide), A6 (by show -1048576 < (1 : Int); decide) (by show (1 : Int) < 1048576; decide)⟩ ?_ (s1.trans s2)
    show sg d (1 + r) 0 = 1
    unfold sg
    rw [if_neg (by omega), if_pos (by omega)]
  · rw [if_neg (by simpa using h0)]
    by_cases h1 : 0 < sg d x.a x.b
    · rw [if_pos (by simpa using h1)]
      exact q x μ1 ox bx (by omega) s1
    · rw [if_neg (by simpa using h1)]
      refine ⟨x, rfl, ?_⟩
      refine q (minus x) μ1 (kP ox) (rn bx) ?_ s1
      show sg d (-x.a) (-x.b) = 1
      rw [yh hd]
      omega
end
open PySem PySem.Spec PyProof.Rows NM
section
variable {μ : Mu} {Q : DK} {ds : List D}
def wd : DSp := fun ds μ Q => ∃ ns : List Int, ds = [.s ns] ∧ ns.length ≤ 63 ∧ ∀ μ', Q (.v (.bool true)) μ'
theorem sX (h : jm ds μ Q) : ds.length = 1 := by obtain ⟨_, rfl, _⟩ := h; rfl
theorem xX (h : nQ ds μ Q) : ds.length = 2 := by obtain ⟨_, _, rfl, _⟩ := h; rfl
theorem Ci (h : vF ds μ Q) : ds.length = 3 := by obtain ⟨_, _, _, rfl, _⟩ := h; rfl
theorem u4 (h : lK ds μ Q) : ds.length = 1 := by obtain ⟨_, rfl, _⟩ := h; rfl
theorem qP (h : cP ds μ Q) : ds.length = 3 := by obtain ⟨_, _, _, rfl, _⟩ := h; rfl
theorem u9 (h : d7 ds μ Q) : ds.length = 1 := by obtain ⟨_, rfl, _⟩ := h; rfl
theorem Ah (h : oV ds μ Q) : ds.length = 1 := by obtain ⟨_, rfl, _⟩ := h; rfl
theorem vh (h : dw ds μ Q) : ds.length = 2 := by obtain ⟨_, _, rfl, _⟩ := h; rfl
theorem BB (h : vj ds μ Q) : ds.length = 2 := by obtain ⟨_, _, rfl, _⟩ := h; rfl
theorem tF (h : aU ds μ Q) : ds.length = 3 := by obtain ⟨_, _, _, rfl, _⟩ := h; rfl
theorem nT (h : bV ds μ Q) : ds.length = 2 := by obtain ⟨_, _, rfl, _⟩ := h; rfl
theorem Cw (h : lF ds μ Q) : ds.length = 3 := by obtain ⟨_, _, _, rfl, _⟩ := h; rfl
theorem Bs (h : uG ds μ Q) : ds.length = 3 := by obtain ⟨_, _, _, rfl, _⟩ := h; rfl
theorem uR (h : el ds μ Q) : ds.length = 2 := by obtain ⟨_, _, rfl, _⟩ := h; rfl
theorem Bc (h : oI ds μ Q) : ds.length = 3 := by obtain ⟨_, _, _, rfl, _⟩ := h; rfl
theorem DU (h : CD ds μ Q) : ds.length = 2 := by obtain ⟨_, _, rfl, _⟩ := h; rfl
theorem Ca (h : cU ds μ Q) : ds.length = 2 := by obtain ⟨_, _, rfl, _⟩ := h; rfl
theorem wU (h : oE ds μ Q) : ds.length = 1 := by obtain ⟨_, rfl, _⟩ := h; rfl
theorem AZ (h : uv ds μ Q) : ds.length = 1 := by obtain ⟨_, rfl, _⟩ := h; rfl
theorem zJ (h : jK ds μ Q) : ds.length = 2 := by obtain ⟨_, _, rfl, _⟩ := h; rfl
theorem DP (h : wd ds μ Q) : ds.length = 1 := by obtain ⟨_, rfl, _⟩ := h; rfl
end
def kZ : DTS := kn
theorem rZ {μ Qd ds} (h : jm ds μ Qd) : kZ { nx := fun _ μ' => Qd (.v .none) μ', rt := Qd } (aX ["_law_thing"] ds) μ := tu h
structure KW (K : PySem.W.Frag) (mg : Str → Option Value) (x : Str) (g : Addr) (a b c : Int) : Prop where
  m : mg x = some (.ref g)
  l : ∃ (od : Option Addr) (n : Nat) (sl : Array (Option Value)) (t u v : Tok), K.lookup g = some ⟨.type "tuple", od, .seq #[.int a t, .int b u, .int c v] n, sl⟩
theorem jL {X : Cx} {x : Str} {g : Addr} {a b c : Int} {pos : Pos} (hg : Gl X x) (h : KW X.K X.mg x g a b c) (hd : (x == ("__debug__" : Str)) = false := by decide) : DE X (.Name x pos) (dC (.tuple [.int a, .int b, .int c])) := by
  obtain ⟨od, n, sl, t, u, v, e⟩ := h.l
  refine HF (u := .ref g) hg h.m rfl (fun μ H _ => Rp.tuple (xs := [.int a, .int b, .int c]) (.inr ⟨_, _, _, e, rfl, rfl, (by show 3 ≤ sizeLine; decide), .cons ⟨t, rfl⟩ (.cons ⟨u, rfl⟩ (.cons ⟨v, rfl⟩ .nil))⟩) (.cons (.int a) (.cons (.int b) (.cons (.int c) .nil)))) hd
theorem Ei {K : PySem.W.Frag} {H : Hp} {a : Addr} {ns : List Int} (hl : ns.length ≤ 63) (hT : zW K H) (hS : SqL K H a (ns.map V.int)) : spD K wd [.ref a] H (fun v _ => v = .bl true) fun _ _ _ => False := by
  refine ⟨[.s ns], fun _ => none, fun d _ => d = .v (.bool true), ⟨fun a ds h => (by cases h), hT⟩, .cons ⟨a, rfl, hS, rfl⟩ .nil, ⟨ns, rfl, hl, fun _ => rfl⟩, fun d u μ' H' _ _ r q => ?_⟩
  subst q
  cases r
  rfl
open PySem PySem.Spec PyProof.Rows NM
section
variable {μ : Mu} {Q : DK} {ds : List D} {x y : N3}
theorem Fl (a b c : Int) : PyData.tuple [.int a, .int b, .int c] = dN ⟨a, b, c⟩ := rfl
theorem JE : aH (.v (dN x)) (.v (.int 0)) μ Q = Q (.v (.int x.a)) μ := by unfold dN; rw [Cu]
theorem Li : aH (.v (dN x)) (.v (.int 1)) μ Q = Q (.v (.int x.b)) μ := by unfold dN; rw [Cv]
theorem JV : aH (.v (dN x)) (.v (.int 2)) μ Q = Q (.v (.int x.c)) μ := by unfold dN; rw [Bu]
theorem eqN : PyData.eqv (dN x) (dN y) = decide (x = y) := by
  unfold dN
  rw [LG, Bool.eq_iff_iff]
  simp only [decide_eq_true_eq]
  exact ⟨fun h => N3.ext' h.1 h.2.1 h.2.2, fun h => by subst h; exact ⟨rfl, rfl, rfl⟩⟩
theorem Gz {neg : Bool} : di neg (.v (dN x)) (.v (dN y)) μ Q = Q (.v (.bool (neg ^^ decide (x = y)))) μ := by
  rw [x5, eqN]
  exact propext ⟨fun h => h.2.2, fun h => ⟨rfl, rfl, h⟩⟩
theorem iQ (h : Ok x) : isNum (dN x) = true := by
  have := h.c
  show (decide (1 ≤ x.c) && (g3 x.a x.b x.c == 1)) = true
  rw [h.g]
  simp; omega
theorem DH : Few (dN x) := by simp [dN, Few]
theorem EY {d a b c : Int} (h : aB d) (hc : 0 < c) : sg d (low a b c).a (low a b c).b = sg d a b := by
  obtain ⟨k, hk, hs, p1, p2, p3, _⟩ := iU a b (show c ≠ 0 by omega)
  have e := kQ (a := (low a b c).a) (b := (low a b c).b) h (hs.mpr hc)
  rw [← p1, ← p2] at e
  exact e.symm
theorem uP {d : Int} (h : aB d) (ox : Ok x) (oy : Ok y) : sg d (times d x y).a (times d x y).b = sg d x.a x.b * sg d y.a y.b := by
  unfold times
  rw [EY h (Int.mul_pos ox.c oy.c), zy h]
theorem Ig {d : Int} (h : aB d) (ox : Ok x) (oy : Ok y) : sg d (less x y).a (less x y).b = dif d x y := by
  unfold less dif
  rw [EY h (Int.mul_pos ox.c oy.c)]
theorem FA {d : Int} : dif d x x = 0 := by unfold dif; rw [Int.sub_self, Int.sub_self]; exact dZ.mpr ⟨rfl, rfl⟩
theorem Ez {d a b : Int} : (sg d a b).natAbs < 2 ^ 64 := by have := hZ d a b; omega
theorem Af {lo : Int} {n i : Nat} {x : PyData} (h : (nU lo n)[i]? = some x) : x = .int (lo + i) ∧ i < n := by
  unfold nU at h
  rw [List.getElem?_map] at h
  by_cases hi : i < n
  · rw [List.getElem?_range hi] at h
    cases h
    exact ⟨rfl, hi⟩
  · rw [List.getElem?_eq_none (by simpa using hi)] at h
    cases h
theorem vU {lo : Int} {n : Nat} : (nU lo n).length = n := by unfold nU; simp
theorem uw (a : Int) : Ok ⟨a, 0, 1⟩ := ⟨by show (0 : Int) < 1; decide, by unfold g3; simp⟩
end
open PySem PySem.Spec PyProof.Rows NM
local macro_rules | `(tactic| walk_at "rn") => `(tactic| simp only [↓EM, ↓GS, ↓Bt, ↓Cn, ↓Gq, ↓Fj, ↓FH, ↓Ck, ↓B3, ↓Fq, ↓CP, ↓q_c, ↓KH, ↓q_B, ↓Mn, ↓IQ, ↓IW, ↓Cf, ↓Jq, ↓EK, ↓EO, ↓Jo, ↓Ga, ↓Lw, ↓A1, ↓vi, ↓C5, ↓IS, ↓FL, ↓Dk, ↓Dj, ↓Jw, ↓Jd, ↓IT, ↓IV, ↓I0, ↓FG, ↓EC, ↓Fx, ↓Cu, ↓Cv, ↓Bu, ↓Ff, ↓AO, ↓x9, ↓IF, ↓Jr, ↓Ji, ↓G2, ↓GZ, ↓ER, ↓FK, ↓GJ, ↓L4, ↓zV, ↓GI, ↓Jp, ↓IY, ↓II, ↓LA, ↓Gd, ↓EU, ↓GD, ↓EN, ↓Jn, ↓Mh, ↓E5, ↓E8, ↓C3, ↓CL, ↓IH, ↓Ja, ↓Jl, ↓Jh, ↓ur, ↓CC, ↓yx, ↓G1, ↓FP, ↓EF, ↓Js, ↓GP, ↓CZ, ↓IG, ↓Fu, ↓Fv, ↓DC, ↓Cm, ↓Jm, ↓IJ, ↓Fo, ↓CN, ↓E3, ↓AE, ↓Dp, ↓Al, ↓Ao, ↓CG, ↓Ae, ↓A2, ↓AX, ↓ID, D7, ↓Gv, ↓CM, EG, EJ, Jg, IP, IU, Option.bind_none, Option.bind_some, Option.join_some, List.getElem?_cons_zero, List.getElem?_cons_succ, aX, Fl, JE, Li, JV, Gz, xK, Am, AR, Dq, FT, List.map, List.append, List.replicate, List.length_cons, List.length_nil, Nat.reduceAdd, Nat.reduceSub, List.nil_append, List.cons_append, List.set_cons_zero, List.set_cons_succ, Option.map_some, ↓reduceIte, Bool.not_true, Bool.not_false, Bool.false_eq_true, Bool.true_eq_false, Bool.xor_false, Bool.false_xor])
def vI (d : Int) : PyData → Bool
  | .tuple [.int a, .int b, .int c] => isNum (.tuple [.int a, .int b, .int c]) && decide (sg d a b = 1)
  | _ => false
def rC : DSp := fun ds μ Q => ∃ (d : Int) (t : PyData), ds = [.v (.int d), .v t] ∧ aB d ∧ Few t ∧ (∀ x, t = dN x → Bd 8900 x) ∧ Q (.v (.bool (vI d t))) μ
theorem yo {μ : Mu} {Q : DK} {ds : List D} (h : rC ds μ Q) : ds.length = 2 := by obtain ⟨_, _, rfl, _⟩ := h; rfl
def iR : DSp := fun ds μ Q => ∃ (d : Int) (x : N3), ds = [.v (.int d), .v (dN x)] ∧ aB d ∧ Ok x ∧ Bd 8900 x ∧ sg d x.a x.b = 1 ∧ Q (.v .none) μ
theorem tT {μ : Mu} {Q : DK} {ds : List D} (h : iR ds μ Q) : ds.length = 2 := by obtain ⟨_, _, rfl, _⟩ := h; rfl
def lr : DSp := fun ds μ Q => ∃ (d : Int) (x : N3), ds = [.v (.int d), .v (dN x)] ∧ aB d ∧ Ok x ∧ norm d x ≠ 0 ∧ Bd 480 x ∧ Q (.v (dN (bG d x))) μ
theorem zj {μ : Mu} {Q : DK} {ds : List D} (h : lr ds μ Q) : ds.length = 2 := by obtain ⟨_, _, rfl, _⟩ := h; rfl
def rG (a : Addr) (μ μ' : Mu) : Prop := Bag μ' a ∧ ∀ b, b ≠ a → ∀ ds, μ b = some ds → μ' b = some ds
structure KindsOk (d : Int) (ks : List N3) : Prop where
  l1 : 1 ≤ ks.length
  l3 : ks.length ≤ 3
  ok : ∀ k ∈ ks, Ok k ∧ Bd 60 k ∧ sg d k.a k.b = 1
def rE : DSp := fun ds μ Q => ∃ (a : Addr) (d : Int), ds = [.m a, .v (.int d)] ∧ aB d ∧ Bag μ a ∧ ∀ ks μ', KindsOk d ks → rG a μ μ' → Q (.v (.tuple (ks.map dN))) μ'
theorem yy {μ : Mu} {Q : DK} {ds : List D} (h : rE ds μ Q) : ds.length = 2 := by obtain ⟨_, _, rfl, _⟩ := h; rfl
structure Fr0 (x : N3) : Prop where
  ok : Ok x
  b : x.b = 0
  a0 : 0 ≤ x.a
  a1 : x.a < 16384
  c1 : x.c < 16384
def kg : DSp := fun ds μ Q => ∃ a : Addr, ds = [.m a] ∧ Bag μ a ∧ ∀ x μ', Fr0 x → 0 < x.a → Step a μ μ' → Q (.v (dN x)) μ'
theorem Aw {μ : Mu} {Q : DK} {ds : List D} (h : kg ds μ Q) : ds.length = 1 := by obtain ⟨_, rfl, _⟩ := h; rfl
def lz : DSp := fun ds μ Q => ∃ (a : Addr) (d : Int) (ks : List N3), ds = [.m a, .v (.int d), .v (.tuple (ks.map dN))] ∧ aB d ∧ KindsOk d ks ∧ Bag μ a ∧ ∀ x μ', Ok x → Bd 230 x → sg d x.a x.b = 1 → Step a μ μ' → Q (.v (dN x)) μ'
theorem yT {μ : Mu} {Q : DK} {ds : List D} (h : lz ds μ Q) : ds.length = 3 := by obtain ⟨_, _, _, rfl, _⟩ := h; rfl
def fZ : DTS :=
  (bQ (qs (ar lK (ab (af 1) aq)) (dOp (di false) (ar el (ab (af 0) (ab (af 1) aq))) (dC (.int 1)))))
def ej : DTS :=
  (dA (en (dB (ar rC (ab (af 0) (ab (af 1) aq))))) vD cf)
def eT : DTS :=
  (aV (bK (ar dw (ab (af 1) (ab (ar d7 (ab (af 1) aq)) aq))) (az 2))
  (bQ (ar aU (ab (af 0) (ab (ar aU (ab (af 0) (ab (af 2) (ab (af 2) aq)))) (ab (ar bV (ab (af 0) (ab (ar aU (ab (af 0) (ab (af 1) (ab (ar d7 (ab (af 1) aq)) aq)))) aq))) aq))))))
def kx : DTS :=
  (aV (bK (xM (ab (ar jK (ab (af 0) (ab (af 1) aq))) aq)) (az 2))
  (aV (vz (nS (ab (ar cU (ab (af 0) (ab (dC (.int 3)) aq))) aq)) (az 3) (aV (bK (ar cU (ab (af 0) (ab (dC (.int 6)) aq))) (az 4))
  (aV (bK (dm (ab (kN (dC (.int 1)) (ar cU (ab (af 0) (ab (dC (.int 9)) aq)))) (ab (dC (.int 0)) (ab (kN (dC (.int 1)) (ar cU (ab (af 0) (ab (dC (.int 9)) aq)))) aq)))) (az 5))
  (aV (bK (dOp aH (mP (ab (dOp aH (af 2) (dC (.int 0))) (ab (ar bV (ab (af 1) (ab (dOp aH (af 2) (dC (.int 0))) aq))) aq))) (ug (af 4) (dC (.int 2)))) (az 6))
  (aV (dA (dB (dOp rGt (af 4) (dC (.int 3)))) (bK (ar jK (ab (af 0) (ab (af 1) aq))) (az 6)) (dA (dB (dOp rGt (af 4) (dC (.int 1)))) (bK (ar aU (ab (af 1) (ab (af 6) (ab (ar cP (ab (dOp aH (af 5) (dC (.int 0))) (ab (dOp aH (af 5) (dC (.int 1))) (ab (dOp aH (af 5) (dC (.int 2))) aq)))) aq)))) (az 6)) cf))
  (tH (Cs (af 2) (af 6))))))))
  (bQ (dCB mm (ab (af 2) aq)))))
def iC : DTS :=
  (aV (bK (dOp aH (mP (ab (dC (.int 2)) (ab (dC (.int 9)) (ab (dC (.int 9)) (ab (dC (.int 9999)) aq))))) (ar cU (ab (af 0) (ab (dC (.int 4)) aq)))) (az 1))
  (bQ (ar cP (ab (kN (dC (.int 1)) (ar cU (ab (af 0) (ab (af 1) aq)))) (ab (dC (.int 0)) (ab (kN (dC (.int 1)) (ar cU (ab (af 0) (ab (af 1) aq)))) aq))))))
def kJ : DTS :=
  (aV (bK (dOp aH (af 2) (ar cU (ab (af 0) (ab (dCB gS (ab (af 2) aq)) aq)))) (az 3))
  (aV (bK (dOp aH (af 2) (ar cU (ab (af 0) (ab (dCB gS (ab (af 2) aq)) aq)))) (az 4))
  (aV (xh 5 6 (ab (ar kg (ab (af 0) aq)) (ab (ar kg (ab (af 0) aq)) aq)))
  (aV (bK (ar cU (ab (af 0) (ab (dC (.int 10)) aq))) (az 7))
  (aV (bK (ar bV (ab (af 1) (ab (af 3) aq))) (az 8))
  (aV (bK (mP (ab (ar jK (ab (af 0) (ab (af 1) aq))) (ab (ar aU (ab (af 1) (ab (af 3) (ab (af 5) aq)))) (ab (ar aU (ab (af 1) (ab (af 8) (ab (af 5) aq)))) (ab (ar dw (ab (ar aU (ab (af 1) (ab (af 3) (ab (af 5) aq)))) (ab (ar aU (ab (af 1) (ab (af 8) (ab (af 6) aq)))) aq))) (ab (ar dw (ab (af 3) (ab (ar aU (ab (af 1) (ab (af 4) (ab (af 6) aq)))) aq))) (ab (af 5) (ab (ar aU (ab (af 1) (ab (dm (ab (dC (.int 0)) (ab (dC (.int 1)) (ab (dC (.int 1)) aq)))) (ab (af 5) aq)))) (ab (ar dw (ab (ar aU (ab (af 1) (ab (af 8) (ab (af 5) aq)))) (ab (dm (ab (dC (.int 0)) (ab (dC (.int 1)) (ab (dC (.int 999999)) aq)))) aq))) (ab (ar dw (ab (ar aU (ab (af 1) (ab (af 3) (ab (af 5) aq)))) (ab (ar aU (ab (af 1) (ab (af 6) (ab (dm (ab (dC (.int 1)) (ab (dC (.int 0)) (ab (dC (.int 99999)) aq)))) aq)))) aq))) (ab (ar jK (ab (af 0) (ab (af 1) aq))) aq))))))))))) (az 9))
  (bQ (dOp aH (af 9) (af 7)))))))))
section
variable {μ : Mu} {Qd : DK} {ds : List D}
theorem y0 {x y : Int} (h : 0 < x * y) (hy : 0 < y) : 0 < x := by
  rcases Int.lt_trichotomy 0 x with z | z | z
  · exact z
  · rw [← z, Int.zero_mul] at h; omega
  · have := Int.mul_neg_of_neg_of_pos z hy; omega
theorem Br {d : Int} {x : N3} (ox : Ok x) : vI d (dN x) = decide (sg d x.a x.b = 1) := by
  show (isNum (dN x) && decide (sg d x.a x.b = 1)) = _
  rw [iQ ox, Bool.true_and]
theorem uX {d : Int} {t : PyData} (h : isNum t = false) : vI d t = false := by
  unfold vI
  split
  · rw [h, Bool.false_and]
  · rfl
theorem BG {t : PyData} (h : isNum t = true) : ∃ x : N3, t = dN x ∧ Ok x := by
  unfold isNum at h
  split at h
  · rename_i a b c
    simp only [Bool.and_eq_true, decide_eq_true_eq, beq_iff_eq] at h
    exact ⟨⟨a, b, c⟩, rfl, by show 0 < c; omega, h.2⟩
  · cases h
theorem qc (h : rC ds μ Qd) : fZ { nx := fun _ μ' => Qd (.v .none) μ', rt := Qd } (aX ["d", "thing"] ds) μ := by
  obtain ⟨d, t, rfl, hd, ft, bt, q⟩ := h
  unfold fZ
  walk_at "rn"
  refine ⟨t, rfl, ft, ?_⟩
  walk_at "rn"
  cases e : isNum t with
  | true =>
    walk_at "rn"
    obtain ⟨x, rfl, ox⟩ := BG e
    refine ⟨d, x, rfl, hd, bt x rfl, ?_⟩
    walk_at "rn"
    rw [Br ox] at q
    exact q
  | false =>
    walk_at "rn"
    rw [uX e] at q
    exact q
theorem kU (h : iR ds μ Qd) : ej { nx := fun _ μ' => Qd (.v .none) μ', rt := Qd } (aX ["d", "thing"] ds) μ := by
  obtain ⟨d, x, rfl, hd, ox, bx, hx, q⟩ := h
  unfold ej
  walk_at "rn"
  refine ⟨d, dN x, rfl, hd, DH, fun y e => ?_, ?_⟩
  · have : y = x := by
      simp only [dN, PyData.tuple.injEq, List.cons.injEq, PyData.int.injEq, and_true] at e
      exact N3.ext' e.1.symm e.2.1.symm e.2.2.symm
    rw [this]; exact bx
  · walk_at "rn"
    rw [Br ox, hx]
    simp only [decide_true, Bool.not_true, Bool.false_eq_true, ↓reduceIte]
    exact q
def M8 (d : Int) (t : PyData) : Prop := Few t ∧ (∀ x, t = dN x → Bd 8900 x) ∧ vI d t = false
theorem Mx {d : Int} {t : PyData} (h : t ∈ CW) : M8 d t := by
  unfold CW at h
  simp only [List.mem_cons, List.not_mem_nil, or_false] at h
  rcases h with rfl | rfl | rfl | rfl | rfl | rfl | rfl | rfl | rfl | rfl | rfl | rfl | rfl | rfl | rfl | rfl | rfl | rfl | rfl | rfl
  all_goals
    refine ⟨by simp [Few], ?_, by first | rfl | exact uX (by decide +kernel)⟩
    (intro x e
     simp only [dN, PyData.tuple.injEq, List.cons.injEq, PyData.int.injEq, and_true, reduceCtorEq, false_and, and_false, List.nil_eq] at e
     try (obtain ⟨e1, e2, e3⟩ := e
          exact ⟨Sz.of (by rw [← e1]; decide +kernel), Sz.of (by rw [← e2]; decide +kernel), Sz.of (by rw [← e3]; decide +kernel)⟩))
theorem rG.trans {a : Addr} {μ μ1 μ2 : Mu} (h : rG a μ μ1) (g : rG a μ1 μ2) : rG a μ μ2 := ⟨g.1, fun b n ds e => g.2 b n ds (h.2 b n ds e)⟩
theorem Step.w {a : Addr} {μ μ' : Mu} (h : Step a μ μ') : rG a μ μ' := ⟨h.1, fun b n ds e => by rw [h.2 b n]; exact e⟩
theorem mS (h : lr ds μ Qd) : eT { nx := fun _ μ' => Qd (.v .none) μ', rt := Qd } (aX ["_law_d", "_law_shape_here", "_law_both"] ds) μ := by
  obtain ⟨d, x, rfl, hd, ox, nx, bx, q⟩ := h
  have s5 := kv hd.1 hd.2.1
  have omx := aA ox
  have bmx := d4 bx
  have op := aW ox omx
  have bp := eC ox omx bx bmx
  have ot := ah (d := d) ox omx
  have bt := aO s5 ox omx bx bmx
  have np := se hd ox nx
  unfold eT
  walk_at "rn"
  refine ⟨x, rfl, x, bC x, rfl, ox, omx, bx.mono (by decide), bmx.mono (by decide), ?_⟩
  walk_at "rn"
  refine ⟨d, _, _, rfl, s5, op, op, bp.mono (by decide), bp.mono (by decide), ?_⟩
  walk_at "rn"
  exact ⟨x, rfl, d, x, bC x, rfl, s5, ox, omx, bx.mono (by decide), bmx.mono (by decide), d, _, rfl, s5, np, bt.mono (by decide), d, _, _, rfl, s5, ah op op, ax np, (aO s5 op op bp bp).mono (by decide), (cg s5 np bt).mono (by decide), q⟩
def Au (a p : Addr) (d : Int) (x : N3) (μ : Mu) (i : Nat) (ρ : Rho) (μ' : Mu) : Prop := ∃ (ks : List N3) (r3 r4 r5 r6 : Option D), ρ = [some (.m a), some (.v (.int d)), some (.m p), r3, r4, r5, r6] ∧ Bag μ' a ∧ (∀ b, b ≠ a → ∀ ds, μ b = some ds → μ' b = some ds) ∧ μ' p = some ((x :: ks).map dN) ∧ ks.length = i ∧ (∀ k ∈ x :: ks, Ok k ∧ Bd 60 k ∧ sg d k.a k.b = 1)
theorem xa (h : rE ds μ Qd) : kx { nx := fun _ μ' => Qd (.v .none) μ', rt := Qd } (aX ["_law_bag_here", "_law_d", "_law_found", "_law_turn", "_law_way", "_law_part", "_law_kind"] ds) μ := by
  obtain ⟨a, d, rfl, hd, hb, q⟩ := h
  have s5 := kv hd.1 hd.2.1
  unfold kx
  walk_at "rn"
  refine ⟨a, d, rfl, hd, hb, fun x μ1 ox bx sx s1 => ?_⟩
  walk_at "rn"
  intro p hp
  have hap : a ≠ p := fun z => by obtain ⟨g, m, e, _⟩ := s1.1; rw [z, hp] at e; cases e
  have sb : Bag (aM μ1 p [dN x]) a := by obtain ⟨g, m, e, z⟩ := s1.1; exact ⟨g, m, by rw [bU hap]; exact e, z⟩
  rw [qA]
  walk_at "rn"
  refine ⟨a, 3, rfl, by decide, by decide, sb, fun n μ2 n0 n1 s2 => ?_⟩
  walk_at "rn"
  have keep2 : ∀ b, b ≠ a → ∀ ds, μ b = some ds → μ2 b = some ds := fun b hb' ds e => by
    have e1 := (s1.2 b hb').trans e
    have : b ≠ p := fun z => by rw [z, hp] at e1; cases e1
    rw [s2.2 b hb', bU this]; exact e1
  have hp2 : μ2 p = some ([x].map dN) := by rw [s2.2 p (fun z => hap z.symm)]; exact bA
  refine ⟨⟨by omega, by omega⟩, Au a p d x μ, ⟨[], _, _, _, _, rfl, s2.1, keep2, hp2, rfl, fun k hk => by rw [List.mem_singleton.mp hk]; exact ⟨ox, bx.mono (by decide), sx⟩⟩, ?_, ?_⟩
  · rintro i v ρ μ3 hv ⟨ks, r3, r4, r5, r6, rfl, hb3, kp, hpk, hl, hok⟩
    obtain ⟨rfl, hi⟩ := Af hv
    have hi2 : i < 2 := by omega
    walk_at "rn"
    refine ⟨a, 6, rfl, by decide, by decide, hb3, fun way μ4 w0 w1 s4 => ?_⟩
    walk_at "rn"
    refine ⟨a, 9, rfl, by decide, by decide, s4.1, fun t μ5 t0 t1 s5' => ?_⟩
    walk_at "rn"
    refine ⟨a, 9, rfl, by decide, by decide, s5'.1, fun u μ6 u0 u1 s6 => ?_⟩
    walk_at "rn"
    have s46 := s4.trans (s5'.trans s6)
    have hp6 : μ6 p = some (dN x :: ks.map dN) := by rw [s46.2 p (fun z => hap z.symm)]; exact hpk
    simp only [hp6]
    walk_at "rn"
    have nx := aZ hd ox sx
    have ocx := ax nx
    have bcx := cg s5 nx bx
    refine ⟨d, x, rfl, s5, nx, bx.mono (by decide), ?_⟩
    walk_at "rn"
    obtain ⟨m0, m1⟩ := j1 way (show (0 : Int) < 2 by decide)
    obtain ⟨_, e1, k1, rfl, ok1, bk1, sk1⟩ := pick (P := fun v => ∃ k, v = dN k ∧ Ok k ∧ Bd 46 k ∧ sg d k.a k.b = 1) (xs := [dN x, dN (au d x)]) m0 (by exact m1) (by
      intro v hv
      simp only [List.mem_cons, List.not_mem_nil, or_false] at hv
      rcases hv with rfl | rfl
      · exact ⟨_, rfl, ox, bx.mono (by decide), sx⟩
      · exact ⟨_, rfl, ocx, bcx.mono (by decide), eZ hd ox sx⟩)
    rw [e1]
    refine ⟨by decide, ?_⟩
    walk_at "rn"
    have fin : ∀ (μ7 : Mu) (k : N3) (r3 r4 r5 : Option D), Step a μ6 μ7 → Ok k → Bd 60 k → sg d k.a k.b = 1 → Cs (af 2) (af 6) [some (.m a), some (.v (.int d)), some (.m p), r3, r4, r5, some (.v (dN k))] μ7 (fun _ μ' => Au a p d x μ (i + 1) [some (.m a), some (.v (.int d)), some (.m p), r3, r4, r5, some (.v (dN k))] μ') := fun μ7 k r3 r4 r5 s7 ok bk sk => by
      have s47 := s46.trans s7
      have hp7 : μ7 p = some (dN x :: ks.map dN) := by rw [s47.2 p (fun z => hap z.symm)]; exact hpk
      walk_at "rn"
      simp only [hp7]
      refine ⟨by simp; omega, ks ++ [k], _, _, _, _, rfl, ?_, fun b hb' ds e => ?_, ?_, by simp [hl], fun z hz => ?_⟩
      · obtain ⟨g, m, e, z⟩ := s47.1; exact ⟨g, m, by rw [bU hap]; exact e, z⟩
      · have h3 := kp b hb' ds e
        by_cases hbp : b = p
        · subst hbp
          exfalso
          have e1 := (s1.2 b hb').trans e
          rw [hp] at e1; cases e1
        · rw [bU hbp, s47.2 b hb']; exact h3
      · rw [bA]; simp
      · rcases List.mem_cons.mp hz with z' | z'
        · exact hok z (by rw [z']; exact List.mem_cons_self)
        · rcases List.mem_append.mp z' with z'' | z''
          · exact hok z (List.mem_cons_of_mem _ z'')
          · rw [List.mem_singleton.mp z'']; exact ⟨ok, bk, sk⟩
    by_cases c1 : 3 < way
    · rw [if_pos (by simpa using c1)]
      refine ⟨a, d, rfl, hd, s6.1, fun k μ7 ok bk sk s7 => ?_⟩
      have := fin μ7 k (some (.v (.int (0 + (i : Int))))) (some (.v (.int way))) (some (.v (dN ⟨1 + t, 0, 1 + u⟩))) s7 ok (bk.mono (by decide)) sk
      walk_at "rn"
      exact this
    · rw [if_neg (by simpa using c1)]
      by_cases c2 : 1 < way
      · rw [if_pos (by simpa using c2)]
        have un : 1 + u ≠ 0 := by omega
        have z4 : ∀ v : Int, 0 ≤ v → v < 9 → Sz 4 (1 + v) := fun v h1 h2 => Sz.of (by show (1 + v).natAbs < 16; omega)
        have op := ip (1 + t) 0 un
        have bp : Bd 4 (low (1 + t) 0 (1 + u)) := jN un (z4 t t0 t1) (Sz.of (by show (0 : Int).natAbs < 16; decide)) (z4 u u0 u1)
        have hp' : sg d (low (1 + t) 0 (1 + u)).a (low (1 + t) 0 (1 + u)).b = 1 := by
          rw [DD hd (by omega)]
          unfold sg
          rw [if_neg (by omega), if_pos (by omega)]
        refine ⟨_, _, _, rfl, un, (z4 u u0 u1).mono (by decide), d, k1, _, rfl, s5, ok1, op, bk1.mono (by decide), bp.mono (by decide), ?_⟩
        exact fin μ6 _ _ _ _ (Step.refl s6.1) (ah ok1 op) ((aO s5 ok1 op bk1 bp).mono (by decide)) (by rw [uP hd ok1 op, sk1, hp']; rfl)
      · rw [if_neg (by simpa using c2)]
        exact fin μ6 k1 _ _ _ (Step.refl s6.1) ok1 (bk1.mono (by decide)) sk1
  · rintro ρ μ3 ⟨ks, r3, r4, r5, r6, rfl, hb3, kp, hpk, hl, hok⟩
    rw [vU] at hl
    walk_at "rn"
    simp only [hpk]
    exact q (x :: ks) μ3 ⟨by simp, by simp; omega, hok⟩ ⟨hb3, kp⟩
theorem rM (h : kg ds μ Qd) : iC { nx := fun _ μ' => Qd (.v .none) μ', rt := Qd } (aX ["_law_bag_here", "_law_wide"] ds) μ := by
  obtain ⟨a, rfl, hb, q⟩ := h
  unfold iC
  walk_at "rn"
  refine ⟨a, 4, rfl, by decide, by decide, hb, fun r μ1 r0 r1 s1 => ?_⟩
  walk_at "rn"
  obtain ⟨_, e1, w, rfl, w0, w1⟩ := pick (P := fun v => ∃ w : Int, v = .int w ∧ 2 ≤ w ∧ w ≤ 9999) (xs := [.int 2, .int 9, .int 9, .int 9999]) r0 (by exact r1) (by
    intro v hv
    simp only [List.mem_cons, List.not_mem_nil, or_false] at hv
    rcases hv with rfl | rfl | rfl | rfl <;> exact ⟨_, rfl, by decide, by decide⟩)
  rw [e1]
  walk_at "rn"
  refine ⟨a, w, rfl, by omega, by omega, s1.1, fun t μ2 t0 t1 s2 => ?_⟩
  walk_at "rn"
  refine ⟨a, w, rfl, by omega, by omega, s2.1, fun u μ3 u0 u1 s3 => ?_⟩
  walk_at "rn"
  have un : 1 + u ≠ 0 := by omega
  have z : ∀ v : Int, 0 ≤ v → v < w → Sz 14 (1 + v) := fun v h1 h2 => Sz.of (by show (1 + v).natAbs < 16384; omega)
  refine ⟨_, _, _, rfl, un, (z u u0 u1).mono (by decide), q _ μ3 ?_ ?_ (s1.trans (s2.trans s3))⟩
  · have r := iO (a := 1 + t) (b := 0) un
    have ok := ip (1 + t) 0 un
    obtain ⟨l1, l2, l3⟩ := Fn (1 + t) 0 un
    have hp : 0 < (low (1 + t) 0 (1 + u)).a := by
      have e := r.a
      have hc := ok.c
      have : 0 < (low (1 + t) 0 (1 + u)).a * (1 + u) := by rw [e]; exact Int.mul_pos (by omega) hc
      exact y0 this (by omega)
    exact ⟨ok, (by have := l2; omega), by omega, by omega, by have := ok.c; omega⟩
  · have r := iO (a := 1 + t) (b := 0) un
    have ok := ip (1 + t) 0 un
    have e := r.a
    have hc := ok.c
    have : 0 < (low (1 + t) 0 (1 + u)).a * (1 + u) := by rw [e]; exact Int.mul_pos (by omega) hc
    exact y0 this (by omega)
theorem Fr0.bd {x : N3} (h : Fr0 x) : Bd 14 x := by
  have hc := h.ok.c
  have a0 := h.a0
  have a1 := h.a1
  have c1 := h.c1
  exact ⟨Sz.of (by show x.a.natAbs < 16384; omega), by rw [h.b]; exact Sz.of (by show (0 : Int).natAbs < 16384; decide), Sz.of (by show x.c.natAbs < 16384; omega)⟩
theorem FX {d : Int} {ks : List N3} (ho : KindsOk d ks) {r : Int} (r0 : 0 ≤ r) (r1 : r < (ks.length : Nat)) : ∃ k ∈ ks, atI (ks.map dN) r = some (dN k) := by
  obtain ⟨v, e, m⟩ := uL (xs := ks.map dN) r0 (by rw [List.length_map]; exact r1)
  obtain ⟨k, hk, rfl⟩ := List.mem_map.mp m
  exact ⟨k, hk, e⟩
theorem vA {d : Int} {x y : N3} (hd : aB d) (ox : Ok x) (oy : Ok y) (hx : sg d x.a x.b = 1) (hy : sg d y.a y.b = 1) : sg d (plus x y).a (plus x y).b = 1 := HI.pos hd (aW ox oy) (DR ox oy) hx hy
theorem wN (h : lz ds μ Qd) : kJ { nx := fun _ μ' => Qd (.v .none) μ', rt := Qd } (aX ["_law_bag_here", "_law_d", "_law_kinds_here", "_law_kind", "_law_other", "_law_u", "_law_v", "_law_way", "_law_turned_kind", "_law_some"] ds) μ := by
  obtain ⟨a, d, ks, rfl, hd, ho, hb, q⟩ := h
  have s5 := kv hd.1 hd.2.1
  have l1 := ho.l1
  have l3 := ho.l3
  unfold kJ
  walk_at "rn"
  rw [List.length_map]
  refine ⟨a, _, rfl, by omega, by omega, hb, fun r μ1 r0 r1 s1 => ?_⟩
  obtain ⟨k, hk, e1⟩ := FX ho r0 r1
  walk_at "rn"
  rw [e1]
  obtain ⟨ok, bk, sk⟩ := ho.ok k hk
  walk_at "rn"
  refine ⟨a, _, rfl, by omega, by omega, s1.1, fun r' μ2 r0' r1' s2 => ?_⟩
  obtain ⟨o, ho', e2⟩ := FX ho r0' r1'
  walk_at "rn"
  rw [e2]
  obtain ⟨oo, bo, so⟩ := ho.ok o ho'
  walk_at "rn"
  refine ⟨a, rfl, s2.1, fun u μ3 fu u0 s3 => ?_⟩
  walk_at "rn"
  refine ⟨a, rfl, s3.1, fun v μ4 fv v0 s4 => ?_⟩
  walk_at "rn"
  refine ⟨a, 10, rfl, by decide, by decide, s4.1, fun w μ5 w0 w1 s5' => ?_⟩
  walk_at "rn"
  have nk := aZ hd ok sk
  refine ⟨d, k, rfl, s5, nk, bk.mono (by decide), ?_⟩
  walk_at "rn"
  refine ⟨a, d, rfl, hd, s5'.1, fun x μ6 ox bx sx s6 => ?_⟩
  have oc := ax nk
  have bc := cg s5 nk bk
  have sc := eZ hd ok sk
  have bu := fu.bd
  have bv := fv.bd
  have su : sg d u.a u.b = 1 := Dy u0 fu.b
  have sv : sg d v.a v.b = 1 := Dy v0 fv.b
  have o2 := ah (d := d) ok fu.ok
  have b2 := aO s5 ok fu.ok bk bu
  have g2 : sg d (times d k u).a (times d k u).b = 1 := by rw [bT hd ok fu.ok, sk, su]; rfl
  have o3 := ah (d := d) oc fu.ok
  have b3 := aO s5 oc fu.ok bc bu
  have g3 : sg d (times d (au d k) u).a (times d (au d k) u).b = 1 := by rw [bT hd oc fu.ok, sc, su]; rfl
  have o4 := ah (d := d) oc fv.ok
  have b4 := aO s5 oc fv.ok bc bv
  have g4 : sg d (times d (au d k) v).a (times d (au d k) v).b = 1 := by rw [bT hd oc fv.ok, sc, sv]; rfl
  have o5 := ah (d := d) oo fv.ok
  have b5 := aO s5 oo fv.ok bo bv
  have g5 : sg d (times d o v).a (times d o v).b = 1 := by rw [bT hd oo fv.ok, so, sv]; rfl
  have or' : Ok ⟨0, 1, 1⟩ := ⟨by decide, by decide⟩
  have br : Bd 2 ⟨0, 1, 1⟩ := ⟨Sz.of (by decide), Sz.of (by decide), Sz.of (by decide)⟩
  have gr : sg d (⟨0, 1, 1⟩ : N3).a (⟨0, 1, 1⟩ : N3).b = 1 := by show sg d 0 1 = 1; rw [zE]; rfl
  have ot : Ok ⟨0, 1, 999999⟩ := ⟨by decide, by decide⟩
  have bt : Bd 20 ⟨0, 1, 999999⟩ := ⟨Sz.of (by decide), Sz.of (by decide), Sz.of (by decide)⟩
  have gt : sg d (⟨0, 1, 999999⟩ : N3).a (⟨0, 1, 999999⟩ : N3).b = 1 := by show sg d 0 1 = 1; rw [zE]; rfl
  have oh : Ok ⟨1, 0, 99999⟩ := ⟨by decide, by decide⟩
  have bh : Bd 20 ⟨1, 0, 99999⟩ := ⟨Sz.of (by decide), Sz.of (by decide), Sz.of (by decide)⟩
  have gh : sg d (⟨1, 0, 99999⟩ : N3).a (⟨1, 0, 99999⟩ : N3).b = 1 := by show sg d 1 0 = 1; rw [kL]; rfl
  have o6 := ah (d := d) or' fu.ok
  have b6 := aO s5 or' fu.ok br bu
  have g6 : sg d (times d ⟨0, 1, 1⟩ u).a (times d ⟨0, 1, 1⟩ u).b = 1 := by rw [bT hd or' fu.ok, gr, su]; rfl
  have o7 := ah (d := d) fv.ok oh
  have b7 := aO s5 fv.ok oh bv bh
  have g7 : sg d (times d v ⟨1, 0, 99999⟩).a (times d v ⟨1, 0, 99999⟩).b = 1 := by rw [bT hd fv.ok oh, sv, gh]; rfl
  refine ⟨d, k, u, rfl, s5, ok, fu.ok, bk.mono (by decide), bu.mono (by decide), d, _, u, rfl, s5, oc, fu.ok, bc.mono (by decide), bu.mono (by decide), d, k, u, rfl, s5, ok, fu.ok, bk.mono (by decide), bu.mono (by decide), d, _, v, rfl, s5, oc, fv.ok, bc.mono (by decide), bv.mono (by decide), _, _, rfl, o2, o4, b2.mono (by decide), b4.mono (by decide), d, o, v, rfl, s5, oo, fv.ok, bo.mono (by decide), bv.mono (by decide), k, _, rfl, ok, o5, bk.mono (by decide), b5.mono (by decide), d, ⟨0, 1, 1⟩, u, rfl, s5, or', fu.ok, br.mono (by decide), bu.mono (by decide), d, _, u, rfl, s5, oc, fu.ok, bc.mono (by decide), bu.mono (by decide), _, ⟨0, 1, 999999⟩, rfl, o3, ot, b3.mono (by decide), bt.mono (by decide), d, k, u, rfl, s5, ok, fu.ok, bk.mono (by decide), bu.mono (by decide), d, v, ⟨1, 0, 99999⟩, rfl, s5, fv.ok, oh, bv.mono (by decide), bh.mono (by decide), _, _, rfl, o2, o7, b2.mono (by decide), b7.mono (by decide), a, d, rfl, hd, s6.1, fun y μ7 oy by' sy s7 => ?_⟩
  walk_at "rn"
  have hst := s1.trans (s2.trans (s3.trans (s4.trans (s5'.trans (s6.trans s7)))))
  obtain ⟨_, e, z, rfl, oz, bz, sz⟩ := pick (P := fun t => ∃ z, t = dN z ∧ Ok z ∧ Bd 230 z ∧ sg d z.a z.b = 1) (xs := [dN x, dN (times d k u), dN (times d (au d k) u), dN (plus (times d k u) (times d (au d k) v)), dN (plus k (times d o v)), dN u, dN (times d ⟨0, 1, 1⟩ u), dN (plus (times d (au d k) u) ⟨0, 1, 999999⟩), dN (plus (times d k u) (times d v ⟨1, 0, 99999⟩)), dN y]) w0 (by exact w1) (by
    intro t ht
    simp only [List.mem_cons, List.not_mem_nil, or_false] at ht
    rcases ht with rfl | rfl | rfl | rfl | rfl | rfl | rfl | rfl | rfl | rfl
    · exact ⟨_, rfl, ox, bx.mono (by decide), sx⟩
    · exact ⟨_, rfl, o2, b2.mono (by decide), g2⟩
    · exact ⟨_, rfl, o3, b3.mono (by decide), g3⟩
    · exact ⟨_, rfl, aW o2 o4, (eC o2 o4 b2 b4).mono (by decide), vA hd o2 o4 g2 g4⟩
    · exact ⟨_, rfl, aW ok o5, (eC ok o5 bk b5).mono (by decide), vA hd ok o5 sk g5⟩
    · exact ⟨_, rfl, fu.ok, bu.mono (by decide), su⟩
    · exact ⟨_, rfl, o6, b6.mono (by decide), g6⟩
    · exact ⟨_, rfl, aW o3 ot, (eC o3 ot b3 bt).mono (by decide), vA hd o3 ot g3 gt⟩
    · exact ⟨_, rfl, aW o2 o7, (eC o2 o7 b2 b7).mono (by decide), vA hd o2 o7 g2 g7⟩
    · exact ⟨_, rfl, oy, by'.mono (by decide), sy⟩)
  rw [e]
  exact q z _ oz bz sz hst
end
open PySem PySem.Spec PyProof.Rows NM
def GX (d : Int) (f g s : N3) : N3 := low ((shA d f s).b * (shA d f g).c) 0 ((shA d f s).c * (shA d f g).b)
def My (d : Int) (f g s : N3) : N3 := less (shA d f s) (times d (GX d f g s) (shA d f g))
def q5 : DSp := fun ds μ Q => ∃ (d : Int) (f g s : N3), ds = [.v (.int d), .v (dN f), .v (dN g), .v (dN s)] ∧ aB d ∧ Ok f ∧ f ≠ aE ∧ Ok g ∧ Ok s ∧ (∃ n m p : Nat, Bd n f ∧ Bd m g ∧ Bd p s ∧ n ≤ 2000 ∧ m ≤ 2000 ∧ p ≤ 2000 ∧ (p + (2 * n + 12)) + 2 * (m + (2 * n + 12)) + 6 ≤ 4300) ∧ (shA d f g).b ≠ 0 ∧ Q (.v (.tuple [dN (My d f g s), dN (GX d f g s)])) μ
theorem yZ {μ : Mu} {Q : DK} {ds : List D} (h : q5 ds μ Q) : ds.length = 4 := by obtain ⟨_, _, _, _, rfl, _⟩ := h; rfl
def oX : DSp := fun ds μ Q => ∃ (d : Int) (x : N3), ds = [.v (.int d), .v (dN x)] ∧ aB d ∧ Bd 8900 x ∧ Q (.v (.bool (bN d x))) μ
theorem xp {μ : Mu} {Q : DK} {ds : List D} (h : oX ds μ Q) : ds.length = 2 := by obtain ⟨_, _, rfl, _⟩ := h; rfl
def jT (x : N3) (w : Int) : N3 := if 0 < w then less x (bC x) else plus x (bC x)
def vg : DSp := fun ds μ Q => ∃ (x : N3) (w : Int), ds = [.v (dN x), .v (.int w)] ∧ Ok x ∧ Bd 2100 x ∧ Q (.v (dN (jT x w))) μ
theorem Bv {μ : Mu} {Q : DK} {ds : List D} (h : vg ds μ Q) : ds.length = 2 := by obtain ⟨_, _, rfl, _⟩ := h; rfl
def aJ (d : Int) (s : N3) (w : Int) : Int := sg d (jT s w).a (jT s w).b
def bLast (d : Int) (s : N3) (w : Int) : N3 := times d (times d ⟨aJ d s w, 0, 2⟩ (jT s w)) (au d (bC s))
def km (d : Int) (k : N3) (w : Int) : N3 := times d (times d (jT k w) (jT k w)) (au d (times d ⟨4, 0, 1⟩ (times d k (bC k))))
def aT (d : Int) (k : N3) : Int := sg d (bC k).a (bC k).b
def Av (d : Int) (k s : N3) : PyData :=
  if aT d s = aT d k then .tuple [dN one, .tuple [dN (times d (km d k (aT d k)) (au d (bLast d s (aT d k)))), dN ⟨aT d k * aJ d s (aT d k), 0, 1⟩, dN ⟨-aJ d s (aT d k), 0, 1⟩, dN (bLast d s (aT d k))]]
  else .tuple [dN one, .tuple [dN aE, dN aE, dN aE, dN ⟨aT d k, 0, 1⟩]]
def uS (d : Int) (k s : N3) : PyData := if de d k s = true then .tuple [.str "mixture", dN (ff d k s), dN (eW d k s)] else .tuple [.str "bar", Av d k s]
def qy : DSp := fun ds μ Q => ∃ (d : Int) (k s : N3), ds = [.v (.int d), .v (dN k), .v (dN s)] ∧ aB d ∧ Ok k ∧ Bd 230 k ∧ sg d k.a k.b = 1 ∧ Ok s ∧ Bd 1000 s ∧ sg d s.a s.b = 1 ∧ de d k s = false ∧ Q (.v (Av d k s)) μ
theorem zP {μ : Mu} {Q : DK} {ds : List D} (h : qy ds μ Q) : ds.length = 3 := by obtain ⟨_, _, _, rfl, _⟩ := h; rfl
def d9 : DSp := fun ds μ Q => ∃ (d : Int) (k s : N3), ds = [.v (.int d), .v (dN k), .v (dN s)] ∧ aB d ∧ Ok k ∧ Bd 230 k ∧ sg d k.a k.b = 1 ∧ Ok s ∧ Bd 1000 s ∧ sg d s.a s.b = 1 ∧ Q (.v (uS d k s)) μ
theorem wF {μ : Mu} {Q : DK} {ds : List D} (h : d9 ds μ Q) : ds.length = 3 := by obtain ⟨_, _, _, rfl, _⟩ := h; rfl
def my : DTS :=
  (aV (bK (ar lF (ab (af 0) (ab (af 3) (ab (af 1) aq)))) (az 4))
  (aV (bK (ar lF (ab (af 0) (ab (af 2) (ab (af 1) aq)))) (az 5))
  (aV (bK (ar cP (ab (cI (dOp aH (af 4) (dC (.int 1))) (dOp aH (af 5) (dC (.int 2)))) (ab (dC (.int 0)) (ab (cI (dOp aH (af 4) (dC (.int 2))) (dOp aH (af 5) (dC (.int 1)))) aq)))) (az 6))
  (aV (bK (ar vj (ab (af 4) (ab (ar aU (ab (af 0) (ab (af 6) (ab (af 5) aq)))) aq))) (az 7))
  (bQ (dm (ab (af 7) (ab (af 6) aq))))))))
def nD : DTS :=
  (bQ (qs (dOp (di false) (dOp aH (af 1) (dC (.int 1))) (dC (.int 0))) (dOp rGe (ar el (ab (af 0) (ab (af 1) aq))) (dC (.int 0)))))
def y8 : DTS :=
  (bQ (dIf (dB (dOp rGt (af 1) (dC (.int 0)))) (ar vj (ab (af 0) (ab (ar d7 (ab (af 0) aq)) aq))) (ar dw (ab (af 0) (ab (ar d7 (ab (af 0) aq)) aq)))))
def pS : DTS :=
  (aV (bK (ar el (ab (af 0) (ab (ar d7 (ab (af 1) aq)) aq))) (az 3))
  (aV (dA (dB (dOp (di true) (ar el (ab (af 0) (ab (ar d7 (ab (af 2) aq)) aq))) (af 3))) (bQ (dm (ab (dC (.tuple [.int 1, .int 0, .int 1])) (ab (dm (ab (dC (.tuple [.int 0, .int 0, .int 1])) (ab (dC (.tuple [.int 0, .int 0, .int 1])) (ab (dC (.tuple [.int 0, .int 0, .int 1])) (ab (dm (ab (af 3) (ab (dC (.int 0)) (ab (dC (.int 1)) aq)))) aq))))) aq)))) cf)
  (aV (bK (ar vg (ab (af 1) (ab (af 3) aq))) (az 4))
  (aV (bK (ar vg (ab (af 2) (ab (af 3) aq))) (az 5))
  (aV (bK (ar el (ab (af 0) (ab (af 5) aq))) (az 6))
  (aV (bK (ar lF (ab (af 0) (ab (ar aU (ab (af 0) (ab (dm (ab (af 6) (ab (dC (.int 0)) (ab (dC (.int 2)) aq)))) (ab (af 5) aq)))) (ab (ar d7 (ab (af 2) aq)) aq)))) (az 7))
  (aV (bK (ar lF (ab (af 0) (ab (ar aU (ab (af 0) (ab (af 4) (ab (af 4) aq)))) (ab (ar aU (ab (af 0) (ab (dm (ab (dC (.int 4)) (ab (dC (.int 0)) (ab (dC (.int 1)) aq)))) (ab (ar aU (ab (af 0) (ab (af 1) (ab (ar d7 (ab (af 1) aq)) aq)))) aq)))) aq)))) (az 8))
  (bQ (dm (ab (dC (.tuple [.int 1, .int 0, .int 1])) (ab (dm (ab (ar lF (ab (af 0) (ab (af 8) (ab (af 7) aq)))) (ab (dm (ab (cI (af 3) (af 6)) (ab (dC (.int 0)) (ab (dC (.int 1)) aq)))) (ab (dm (ab (wH (af 6)) (ab (dC (.int 0)) (ab (dC (.int 1)) aq)))) (ab (af 7) aq))))) aq)))))))))))
def kM : DTS :=
  (aV (tH (ar iR (ab (af 0) (ab (af 1) aq))))
  (aV (tH (ar iR (ab (af 0) (ab (af 2) aq))))
  (aV (dA (dB (dOp (di false) (dOp aH (ar aU (ab (af 0) (ab (af 1) (ab (af 1) aq)))) (dC (.int 1))) (dC (.int 0)))) (bK (dm (ab (ar lF (ab (af 0) (ab (af 2) (ab (af 1) aq)))) (ab (dC (.tuple [.int 0, .int 0, .int 1])) aq))) (az 3)) (bK (ar q5 (ab (af 0) (ab (af 1) (ab (ar bV (ab (af 0) (ab (af 1) aq))) (ab (af 2) aq))))) (az 3)))
  (aV (dA (dB (dCB pL (ab (nX [none, some 0] (nO (af 3)) (az 0) mM (ar oX (ab (af 1) (ab (af 0) aq)))) aq))) (bQ (dm (ab (dC (.str "mixture")) (ab (dOp aH (af 3) (dC (.int 0))) (ab (dOp aH (af 3) (dC (.int 1))) aq))))) cf)
  (bQ (dm (ab (dC (.str "bar")) (ab (ar qy (ab (af 0) (ab (af 1) (ab (af 2) aq)))) aq))))))))
section
variable {μ : Mu} {Qd : DK} {ds : List D}
theorem gA {d : Int} {x : N3} (h : sg d x.a x.b = 1) : x ≠ aE := fun e => by subst e; have : sg d aE.a aE.b = 0 := dZ.mpr ⟨rfl, rfl⟩; omega
theorem zw (h : q5 ds μ Qd) : my { nx := fun _ μ' => Qd (.v .none) μ', rt := Qd } (aX ["d", "first", "second", "shape", "whole", "part", "of_second", "of_first"] ds) μ := by
  obtain ⟨d, f, g, s, rfl, hd, of, nf, og, os, ⟨n, m, p, bf, bg, bs, ln, lm, lp, lt⟩, hp, q⟩ := h
  have s5 := kv hd.1 hd.2.1
  have hn := hd.norm of nf
  have oa : Ok (shA d f s) := eK os hn
  have op : Ok (shA d f g) := eK og hn
  have ba : Bd (p + (2 * n + 6) + 6) (shA d f s) := aO s5 os (ax hn) bs (cg s5 hn bf)
  have bp : Bd (m + (2 * n + 6) + 6) (shA d f g) := aO s5 og (ax hn) bg (cg s5 hn bf)
  unfold my
  walk_at "rn"
  refine ⟨d, s, f, rfl, hd, os, of, nf, bs.mono (by omega), bf.mono (by omega), ?_⟩
  walk_at "rn"
  refine ⟨d, g, f, rfl, hd, og, of, nf, bg.mono (by omega), bf.mono (by omega), ?_⟩
  walk_at "rn"
  have hc : (shA d f s).c * (shA d f g).b ≠ 0 := Int.mul_ne_zero oa.cn hp
  have sc := ba.c.mul bp.b
  have sb := ba.b.mul bp.c
  refine ⟨gW ba.b bp.c (by omega), gW ba.c bp.b (by omega), _, _, _, rfl, hc, sc.mono (by omega), ?_⟩
  have ov : Ok (GX d f g s) := ip _ _ hc
  have bv : Bd (p + (2 * n + 6) + 6 + (m + (2 * n + 6) + 6)) (GX d f g s) := jN hc sb (sz0) sc
  walk_at "rn"
  refine ⟨d, GX d f g s, shA d f g, rfl, s5, ov, op, bv.mono (by omega), bp.mono (by omega), shA d f s, _, rfl, oa, ah ov op, ba.mono (by omega), (aO s5 ov op bv bp).mono (by omega), ?_⟩
  exact q
theorem Ax (h : oX ds μ Qd) : nD { nx := fun _ μ' => Qd (.v .none) μ', rt := Qd } (aX ["d", "x"] ds) μ := by
  obtain ⟨d, x, rfl, hd, bx, q⟩ := h
  unfold nD
  walk_at "rn"
  unfold bN at q
  cases e : decide (x.b = 0) with
  | true =>
    rw [e, Bool.true_and] at q
    exact ⟨d, x, rfl, hd, bx, q⟩
  | false =>
    rw [e, Bool.false_and] at q
    exact q
theorem Ie (h : vg ds μ Qd) : y8 { nx := fun _ μ' => Qd (.v .none) μ', rt := Qd } (aX ["shape", "way"] ds) μ := by
  obtain ⟨x, w, rfl, ox, bx, q⟩ := h
  unfold y8
  walk_at "rn"
  unfold jT at q
  by_cases hw : 0 < w
  · rw [if_pos hw] at q
    rw [if_pos (by simpa using hw)]
    exact ⟨x, rfl, x, bC x, rfl, ox, aA ox, bx.mono (by decide), (d4 bx).mono (by decide), q⟩
  · rw [if_neg hw] at q
    rw [if_neg (by simpa using hw)]
    exact ⟨x, rfl, x, bC x, rfl, ox, aA ox, bx.mono (by decide), (d4 bx).mono (by decide), q⟩
theorem cw {x : N3} {w : Int} (ox : Ok x) : Ok (jT x w) := by
  unfold jT
  split
  · exact j8 ox (aA ox)
  · exact aW ox (aA ox)
theorem _root_.NM.Rep.bd {x : N3} {A B C : Int} {n : Nat} (ox : Ok x) (r : Rep x A B C) (ha : Sz n A) (hb : Sz n B) (hc : Sz n C) : Bd n x := by
  have e : x = NM.low A B C := ox.Lg r.c r.a r.b
  rw [e]
  exact jN r.c ha hb hc
theorem G3 {n : Nat} {i : Int} (h : Sz n i) : Sz (n + 1) (2 * i) := by
  have := h.add h
  rw [show i + i = 2 * i by omega] at this
  exact this
theorem CI {x : N3} {w : Int} {n : Nat} (ox : Ok x) (bx : Bd n x) : Bd (n + 1) (jT x w) := by
  unfold jT
  split
  · have r := Rep.less ox (aA ox) (ai ox) (ai (aA ox))
    have r2 : Rep (less x (bC x)) 0 (2 * x.b) x.c := r.conv ox.cn (by show (x.a * x.c - x.a * x.c) * x.c = 0 * _; grind) (by show (x.b * x.c - -x.b * x.c) * x.c = 2 * x.b * (x.c * x.c); grind)
    exact r2.bd (j8 ox (aA ox)) sz0 (G3 bx.b) (bx.c.mono (by omega))
  · have r := Rep.plus ox (aA ox) (ai ox) (ai (aA ox))
    have r2 : Rep (plus x (bC x)) (2 * x.a) 0 x.c := r.conv ox.cn (by show (x.a * x.c + x.a * x.c) * x.c = 2 * x.a * (x.c * x.c); grind) (by show (x.b * x.c + -x.b * x.c) * x.c = 0 * _; grind)
    exact r2.bd (aW ox (aA ox)) (G3 bx.a) sz0 (bx.c.mono (by omega))
theorem JR {d : Int} {k : N3} (hd : aB d) (ok : Ok k) (hk : sg d k.a k.b = 1) : aT d k = sg d (norm d k) 0 := Iu hd ok hk
theorem gp {d : Int} {k : N3} (hd : aB d) (ok : Ok k) (hk : sg d k.a k.b = 1) : (aT d k = 1 ∧ 0 < norm d k) ∨ (aT d k = -1 ∧ norm d k < 0) := by
  have hn := aZ hd ok hk
  rw [JR hd ok hk, kL, if_neg hn]
  by_cases h : 0 < norm d k
  · rw [if_pos h]; exact .inl ⟨rfl, h⟩
  · rw [if_neg h]; exact .inr ⟨rfl, by omega⟩
theorem CJ {d : Int} {k s : N3} (hd : aB d) (ok : Ok k) (hk : sg d k.a k.b = 1) (os : Ok s) (hs : sg d s.a s.b = 1) (hm : de d k s = false) (hw : aT d s = aT d k) : jT s (aT d k) ≠ aE := fun e => by
  have hl : ¬ Lay d k s := fun z => by rw [(oj hd ok os hk hs).mpr z] at hm; cases hm
  rcases gp hd ok hk with ⟨w1, n1⟩ | ⟨w1, n1⟩ <;> rcases gp hd os hs with ⟨w2, n2⟩ | ⟨w2, n2⟩
  · rw [w1] at e
    unfold jT at e
    rw [if_pos (by decide)] at e
    have r := Rep.less os (aA os) (ai os) (ai (aA os))
    rw [e] at r
    have rb := r.b
    have h0 : s.b * (bC s).c - (bC s).b * s.c = 0 := by
      have e1 : aE.b = 0 := rfl
      have e2 : aE.c = 1 := rfl
      rw [e1, e2] at rb; omega
    have h1 : s.b * s.c - -s.b * s.c = 0 := h0
    have h2 : s.b * s.c = 0 := by rw [Int.neg_mul] at h1; omega
    have h3 : s.b = 0 := (Int.mul_eq_zero.mp h2).resolve_right os.cn
    refine hl (.inl ⟨n1, n2, ?_⟩)
    rw [h3, Int.zero_mul, Int.zero_mul]
    exact Int.mul_nonneg (sq_nonneg _) (sq_nonneg _)
  · rw [w1, w2] at hw; exact absurd hw (by decide)
  · rw [w1, w2] at hw; exact absurd hw (by decide)
  · rw [w1] at e
    unfold jT at e
    rw [if_neg (by decide)] at e
    have r := Rep.plus os (aA os) (ai os) (ai (aA os))
    rw [e] at r
    have ra := r.a
    have h0 : s.a * (bC s).c + (bC s).a * s.c = 0 := by
      have e1 : aE.a = 0 := rfl
      have e2 : aE.c = 1 := rfl
      rw [e1, e2] at ra; omega
    have h1 : s.a * s.c + s.a * s.c = 0 := h0
    have h2 : s.a * s.c = 0 := by omega
    have h3 : s.a = 0 := (Int.mul_eq_zero.mp h2).resolve_right os.cn
    refine hl (.inr ⟨n1, n2, ?_⟩)
    rw [h3, Int.zero_mul, Int.zero_mul]
    exact Int.mul_nonneg (sq_nonneg _) (sq_nonneg _)
theorem Bh {d : Int} {x : N3} (ox : Ok x) (h : x ≠ aE) : sg d x.a x.b = 1 ∨ sg d x.a x.b = -1 := by
  rcases hZ d x.a x.b with z | z | z
  · exfalso
    obtain ⟨h1, h2⟩ := dZ.mp z
    have g := ox.g
    rw [h1, h2] at g
    have hc := ox.c
    refine h (N3.ext' h1 h2 ?_)
    show x.c = 1
    simp [g3] at g
    omega
  · exact .inl z
  · exact .inr z
theorem iW {d : Int} {x y : N3} (hd : aB d) (ox : Ok x) (oy : Ok y) (hx : x ≠ aE) (hy : y ≠ aE) : times d x y ≠ aE := fun e => by
  have h := bT hd ox oy
  rw [e] at h
  have z : sg d aE.a aE.b = 0 := dZ.mpr ⟨rfl, rfl⟩
  rw [z] at h
  rcases Bh (d := d) ox hx with a | a <;> rcases Bh (d := d) oy hy with b | b <;> rw [a, b] at h <;> exact absurd h (by decide)
theorem Gf {d : Int} {x : N3} (hd : aB d) (ox : Ok x) (hx : x ≠ aE) : au d x ≠ aE := fun e => by
  have hn := hd.norm ox hx
  have t := fh ox hn
  rw [e] at t
  have h := bT hd ox cE
  rw [t, show sg d aE.a aE.b = 0 from dZ.mpr ⟨rfl, rfl⟩, uO] at h
  simp at h
theorem oS {x : N3} (hx : x ≠ aE) : bC x ≠ aE := fun e => hx (by
  have h1 : x.a = 0 := congrArg N3.a e
  have h2 : -x.b = 0 := congrArg N3.b e
  have h3 : x.c = 1 := congrArg N3.c e
  exact N3.ext' h1 (show x.b = 0 by omega) h3)
theorem fY {t : Int} (h : t = 1 ∨ t = -1) : Ok ⟨t, 0, 2⟩ := by
  rcases h with rfl | rfl
  · exact ⟨by decide, by decide⟩
  · exact ⟨by decide, by decide⟩
theorem CK {t : Int} (h : t = 1 ∨ t = -1) : Bd 3 ⟨t, 0, 2⟩ := ⟨Sz.of (by show t.natAbs < 8; omega), Sz.of (by show (0 : Int).natAbs < 8; decide), Sz.of (by show (2 : Int).natAbs < 8; decide)⟩
theorem C0 {t : Int} (h : t = 1 ∨ t = -1) : (⟨t, 0, 2⟩ : N3) ≠ aE := fun e => by
  have : (2 : Int) = 1 := congrArg N3.c e
  exact absurd this (by decide)
structure LastOk (d : Int) (s : N3) (w : Int) : Prop where
  ok : Ok (bLast d s w)
  bd : Bd 2090 (bLast d s w)
  ne : bLast d s w ≠ aE
theorem qZ {n : Nat} {d : Int} {s : N3} {w : Int} (hd : Sz 5 d) (os : Ok s) (bs : Bd n s) (nm : norm d (bC s) ≠ 0) {t : Int} (ht : t = 1 ∨ t = -1) : Bd (2 * n + 10) (times d (times d ⟨t, 0, 2⟩ (jT s w)) (au d (bC s))) := by
  have oh := fY ht
  have of := cw (w := w) os
  have oc := ax nm
  have o1 := ah (d := d) oh of
  have hmc : (bC s).c = s.c := rfl
  have hma : (bC s).a = s.a := rfl
  have hmb : (bC s).b = -s.b := rfl
  have nn : norm d (bC s) = norm d s := xS
  have hN : Sz (2 * n + 6) (norm d s) := oA hd bs
  have tb : t.natAbs = 1 := by omega
  have st : ∀ {k : Nat} {i : Int}, Sz k i → Sz k (t * i) := fun h => h.le (by rw [Int.natAbs_mul, tb]; omega)
  unfold jT at *
  split
  · have r0 := Rep.less os (aA os) (ai os) (ai (aA os))
    have r2 : Rep (less s (bC s)) 0 (2 * s.b) s.c := r0.conv os.cn (by show (s.a * s.c - s.a * s.c) * s.c = 0 * _; grind) (by show (s.b * s.c - -s.b * s.c) * s.c = 2 * s.b * (s.c * s.c); grind)
    have olm := j8 os (aA os)
    have r3 := Rep.times (d := d) (ah (d := d) oh olm) oc (Rep.times (d := d) oh olm (ai oh) r2) ((ai (aA os)).au (d := d) (aA os) nm)
    have r4 : Rep (times d (times d ⟨t, 0, 2⟩ (less s (bC s))) (au d (bC s))) (t * (d * s.b * s.b)) (t * (s.b * s.a)) (norm d s) := by
      refine r3.conv (by rw [← nn]; exact nm) ?_ ?_
      · show ((t * 0 + d * 0 * (2 * s.b)) * (s.c * s.a) + d * (t * (2 * s.b) + 0 * 0) * (-s.c * -s.b)) * norm d s = t * (d * s.b * s.b) * (2 * s.c * (s.a * s.a - d * -s.b * -s.b))
        unfold norm; grind
      · show ((t * 0 + d * 0 * (2 * s.b)) * (-s.c * -s.b) + (t * (2 * s.b) + 0 * 0) * (s.c * s.a)) * norm d s = t * (s.b * s.a) * (2 * s.c * (s.a * s.a - d * -s.b * -s.b))
        unfold norm; grind
    refine r4.bd (ah (ah oh olm) oc) (st ?_) (st ?_) (hN.mono (by omega))
    · exact ((hd.mul bs.b).mul bs.b).mono (by omega)
    · exact (bs.b.mul bs.a).mono (by omega)
  · have r0 := Rep.plus os (aA os) (ai os) (ai (aA os))
    have r2 : Rep (plus s (bC s)) (2 * s.a) 0 s.c := r0.conv os.cn (by show (s.a * s.c + s.a * s.c) * s.c = 2 * s.a * (s.c * s.c); grind) (by show (s.b * s.c + -s.b * s.c) * s.c = 0 * _; grind)
    have olm := aW os (aA os)
    have r3 := Rep.times (d := d) (ah (d := d) oh olm) oc (Rep.times (d := d) oh olm (ai oh) r2) ((ai (aA os)).au (d := d) (aA os) nm)
    have r4 : Rep (times d (times d ⟨t, 0, 2⟩ (plus s (bC s))) (au d (bC s))) (t * (s.a * s.a)) (t * (s.a * s.b)) (norm d s) := by
      refine r3.conv (by rw [← nn]; exact nm) ?_ ?_
      · show ((t * (2 * s.a) + d * 0 * 0) * (s.c * s.a) + d * (t * 0 + 0 * (2 * s.a)) * (-s.c * -s.b)) * norm d s = t * (s.a * s.a) * (2 * s.c * (s.a * s.a - d * -s.b * -s.b))
        unfold norm; grind
      · show ((t * (2 * s.a) + d * 0 * 0) * (-s.c * -s.b) + (t * 0 + 0 * (2 * s.a)) * (s.c * s.a)) * norm d s = t * (s.a * s.b) * (2 * s.c * (s.a * s.a - d * -s.b * -s.b))
        unfold norm; grind
    refine r4.bd (ah (ah oh olm) oc) (st ?_) (st ?_) (hN.mono (by omega))
    · exact (bs.a.mul bs.a).mono (by omega)
    · exact (bs.a.mul bs.b).mono (by omega)
theorem Hf {d : Int} {s : N3} {w : Int} (hd : aB d) (os : Ok s) (bs : Bd 1000 s) (ns : s ≠ aE) (hk : jT s w ≠ aE) : LastOk d s w := by
  have s5 := kv hd.1 hd.2.1
  have of := cw (w := w) os
  have ht : aJ d s w = 1 ∨ aJ d s w = -1 := Bh of hk
  have nm := hd.norm (aA os) (oS ns)
  have oc := ax nm
  have o1 := ah (d := d) (fY ht) of
  exact ⟨ah o1 oc, (qZ s5 os bs nm ht).mono (by decide), iW hd o1 oc (iW hd (fY ht) of (C0 ht) hk) (Gf hd (aA os) (oS ns))⟩
theorem Ct (h : qy ds μ Qd) : pS { nx := fun _ μ' => Qd (.v .none) μ', rt := Qd } (aX ["d", "kind", "shape", "way", "own", "floor", "turn", "last", "both"] ds) μ := by
  obtain ⟨d, k, s, rfl, hd, ok, bk, hk, os, bs, hs, hm, q⟩ := h
  have s5 := kv hd.1 hd.2.1
  have nk := aZ hd ok hk
  have ns := gA hs
  unfold pS
  walk_at "rn"
  refine ⟨k, rfl, d, bC k, rfl, hd, (d4 bk).mono (by decide), ?_⟩
  walk_at "rn"
  refine ⟨s, rfl, d, bC s, rfl, hd, (d4 bs).mono (by decide), ?_⟩
  unfold Av at q
  by_cases hw : aT d s = aT d k
  · rw [if_pos hw] at q
    have hw' : sg d (bC s).a (bC s).b = sg d (bC k).a (bC k).b := hw
    walk_at "rn"
    rw [if_neg (by rw [hw']; simp)]
    have of := cw (w := aT d k) os
    have bf := CI (w := aT d k) os bs
    have oo := cw (w := aT d k) ok
    have bo := CI (w := aT d k) ok bk
    have hf := CJ hd ok hk os hs hm hw
    have ht : aJ d s (aT d k) = 1 ∨ aJ d s (aT d k) = -1 := Bh of hf
    have L := Hf (w := aT d k) hd os bs ns hf
    refine ⟨k, aT d k, rfl, ok, bk.mono (by decide), ?_⟩
    walk_at "rn"
    refine ⟨s, aT d k, rfl, os, bs.mono (by decide), ?_⟩
    walk_at "rn"
    refine ⟨d, _, rfl, hd, bf.mono (by decide), ?_⟩
    walk_at "rn"
    have o1 := ah (d := d) (fY ht) of
    have b1 := aO s5 (fY ht) of (CK ht) bf
    refine ⟨d, ⟨aJ d s (aT d k), 0, 2⟩, jT s (aT d k), rfl, s5, fY ht, of, (CK ht).mono (by decide), bf.mono (by decide), s, rfl, d, _, bC s, rfl, hd, o1, aA os, oS ns, b1.mono (by decide), (d4 bs).mono (by decide), ?_⟩
    walk_at "rn"
    have o2 := ah (d := d) oo oo
    have b2 := aO s5 oo oo bo bo
    have o3 := ah (d := d) ok (aA ok)
    have b3 := aO s5 ok (aA ok) bk (d4 bk)
    have n3 : times d k (bC k) ≠ aE := iW hd ok (aA ok) (gA hk) (oS (gA hk))
    have o4 : Ok ⟨4, 0, 1⟩ := uw 4
    have b4 : Bd 4 ⟨4, 0, 1⟩ := ⟨Sz.of (by decide), Sz.of (by decide), Sz.of (by decide)⟩
    have o5 := ah (d := d) o4 o3
    have b5 := aO s5 o4 o3 b4 b3
    have n5 : times d ⟨4, 0, 1⟩ (times d k (bC k)) ≠ aE := iW hd o4 o3 (fun e => absurd (congrArg N3.a e) (by decide)) n3
    refine ⟨d, _, _, rfl, s5, oo, oo, bo.mono (by decide), bo.mono (by decide), k, rfl, d, k, bC k, rfl, s5, ok, aA ok, bk.mono (by decide), (d4 bk).mono (by decide), d, ⟨4, 0, 1⟩, _, rfl, s5, o4, o3, b4.mono (by decide), b3.mono (by decide), d, _, _, rfl, hd, o2, o5, n5, b2.mono (by decide), b5.mono (by decide), ?_⟩
    walk_at "rn"
    have nn5 := hd.norm o5 n5
    have ob : Ok (km d k (aT d k)) := ah o2 (ax nn5)
    have bb : Bd 1902 (km d k (aT d k)) := (aO s5 o2 (ax nn5) b2 (cg s5 nn5 b5)).mono (by decide)
    refine ⟨d, km d k (aT d k), bLast d s (aT d k), rfl, hd, ob, L.ok, L.ne, bb.mono (by decide), L.bd.mono (by decide), ?_⟩
    refine ⟨mulR Ez, ?_⟩
    exact q
  · rw [if_neg hw] at q
    have hw' : ¬ sg d (bC s).a (bC s).b = sg d (bC k).a (bC k).b := hw
    walk_at "rn"
    rw [if_pos (by simpa using hw')]
    exact q
structure Mf (d : Int) (k s : N3) (n : Nat) : Prop where
  ou : Ok (ff d k s)
  ov : Ok (eW d k s)
  bu : Bd n (ff d k s)
  bv : Bd n (eW d k s)
theorem Gg {d : Int} {k s : N3} {n m : Nat} (hd : aB d) (ok : Ok k) (bk : Bd n k) (hk : sg d k.a k.b = 1) (os : Ok s) (bs : Bd m s) : Mf d k s ((m + (2 * n + 6) + 6) + ((m + (2 * n + 6) + 6) + ((2 * n + 6) + (2 * n + 6) + 6) + ((2 * n + 6) + (2 * n + 6) + 6) + 6) + 1) := by
  have s5 := kv hd.1 hd.2.1
  have hn := aZ hd ok hk
  have oc := ax hn
  have bc := cg s5 hn bk
  have oa := eK (s := s) os hn
  have ba : Bd (m + (2 * n + 6) + 6) (shA d k s) := aO s5 os oc bs bc
  have op := uT (k := k) hn
  have bp : Bd ((2 * n + 6) + (2 * n + 6) + 6) (prt d k) := aO s5 oc oc bc bc
  refine ⟨tP ok os hn, tY ok os hn, ?_, ?_⟩
  · unfold ff
    split
    · exact ba.mono (by omega)
    · rename_i hl
      have h' : k.a * k.b ≠ 0 := fun z => hl ((cN ok).mpr z)
      have hc : (shA d k s).c * (prt d k).b ≠ 0 := Int.mul_ne_zero oa.cn (zT ok hn (ai ok) h')
      have bv : Bd ((m + (2 * n + 6) + 6) + ((2 * n + 6) + (2 * n + 6) + 6)) (shV d k s) := jN hc (ba.b.mul bp.c) sz0 (ba.c.mul bp.b)
      have ov := sI ok os hn h'
      exact (HS oa (ah ov op) ba (aO s5 ov op bv bp)).mono (by omega)
  · unfold eW
    split
    · exact ⟨Sz.of (by show (0 : Int).natAbs < _; exact Nat.pos_of_ne_zero (by simp)), Sz.of (by show (0 : Int).natAbs < _; exact Nat.pos_of_ne_zero (by simp)), Sz.of (by show (1 : Int).natAbs < _; exact Nat.one_lt_two_pow (by omega))⟩
    · rename_i hl
      have h' : k.a * k.b ≠ 0 := fun z => hl ((cN ok).mpr z)
      have hc : (shA d k s).c * (prt d k).b ≠ 0 := Int.mul_ne_zero oa.cn (zT ok hn (ai ok) h')
      exact (jN hc (ba.b.mul bp.c) sz0 (ba.c.mul bp.b)).mono (by omega)
def E4 (d : Int) : PyData → Option PyData
  | .tuple [.int a, .int b, .int c] => some (.bool (bN d ⟨a, b, c⟩))
  | _ => none
theorem w8 (h : d9 ds μ Qd) : kM { nx := fun _ μ' => Qd (.v .none) μ', rt := Qd } (aX ["d", "kind", "shape", "shares"] ds) μ := by
  obtain ⟨d, k, s, rfl, hd, ok, bk, hk, os, bs, hs, q⟩ := h
  have s5 := kv hd.1 hd.2.1
  have nk := aZ hd ok hk
  have M := Gg (s := s) hd ok bk hk os bs
  unfold kM
  walk_at "rn"
  refine ⟨d, k, rfl, hd, ok, bk.mono (by decide), hk, d, s, rfl, hd, os, bs.mono (by decide), hs, d, k, k, rfl, s5, ok, ok, bk.mono (by decide), bk.mono (by decide), ?_⟩
  walk_at "rn"
  by_cases hl : (times d k k).b = 0
  · rw [if_pos (by simpa using hl)]
    have bu := M.bu
    have bv := M.bv
    unfold uS at q
    rw [mI hl] at bu q
    rw [mw hl] at bv q
    refine ⟨d, s, k, rfl, hd, os, ok, gA hk, bs.mono (by decide), bk.mono (by decide), ?_⟩
    refine ⟨(by show 2 ≤ 1000; decide), E4 d, fun x hx μ2 h2 => ⟨⟨trivial, trivial⟩, ?_⟩, ?_⟩
    · simp only [List.mem_cons, List.not_mem_nil, or_false] at hx
      rcases hx with rfl | rfl
      · exact ⟨d, _, rfl, hd, bu.mono (by decide), rfl, rfl⟩
      · exact ⟨d, _, rfl, hd, bv.mono (by decide), rfl, rfl⟩
    · show (if List.all [bN d (shA d k s), bN d aE] id = true then _ else _)
      have e3 : List.all [bN d (shA d k s), bN d aE] id = de d k s := by simp [de, mI hl, mw hl]
      rw [e3]
      cases hm : de d k s with
      | true =>
        rw [hm, if_pos rfl] at q
        exact q
      | false =>
        rw [hm, if_neg (by decide)] at q
        exact ⟨d, k, s, rfl, hd, ok, bk, hk, os, bs, hs, hm, q⟩
  · rw [if_neg (by simpa using hl)]
    have h' : k.a * k.b ≠ 0 := fun z => hl ((cN ok).mpr z)
    have bu := M.bu
    have bv := M.bv
    unfold uS at q
    rw [pC hl] at bu q
    rw [pB hl] at bv q
    refine ⟨d, k, rfl, s5, nk, bk.mono (by decide), d, k, au d k, s, rfl, hd, ok, gA hk, ax nk, os, ⟨230, 2 * 230 + 6, 1000, bk, cg s5 nk bk, bs, by decide, by decide, by decide, by decide⟩, zT ok nk (ai ok) h', ?_⟩
    refine ⟨(by show 2 ≤ 1000; decide), E4 d, fun x hx μ2 h2 => ⟨⟨trivial, trivial⟩, ?_⟩, ?_⟩
    · simp only [List.mem_cons, List.not_mem_nil, or_false] at hx
      rcases hx with rfl | rfl
      · exact ⟨d, _, rfl, hd, bu.mono (by decide), rfl, rfl⟩
      · exact ⟨d, _, rfl, hd, bv.mono (by decide), rfl, rfl⟩
    · show (if List.all [bN d (shU d k s), bN d (shV d k s)] id = true then _ else _)
      have e3 : List.all [bN d (shU d k s), bN d (shV d k s)] id = de d k s := by simp [de, pC hl, pB hl]
      rw [e3]
      cases hm : de d k s with
      | true =>
        rw [hm, if_pos rfl] at q
        exact q
      | false =>
        rw [hm, if_neg (by decide)] at q
        exact ⟨d, k, s, rfl, hd, ok, bk, hk, os, bs, hs, hm, q⟩
end
open PySem PySem.Spec PyProof.Rows NM
section
variable {μ : Mu} {Qd : DK} {ds : List D}
end
open PySem PySem.Spec PyProof.Rows NM
section
variable {μ : Mu} {Qd : DK} {ds : List D}
end
open PySem PySem.Spec PyProof.Rows NM
def weigh (d : Int) (p q s t w h : N3) : N3 := plus (times d w (plus (times d p h) (times d q (bC h)))) (times d (bC w) (plus (times d s h) (times d t (bC h))))
def fk (d : Int) (p q s t k : N3) : Bool :=
  if sg d (times d p k).a (times d p k).b < 0 then false else if sg d (times d t (bC k)).a (times d t (bC k)).b < 0 then false
  else !decide (dif d (times d (plus (times d q (bC k)) (times d s k)) (plus (times d q (bC k)) (times d s k))) (times d ⟨4, 0, 1⟩ (times d (times d p k) (times d t (bC k)))) = 1)
def W4 (p q s t : N3) : PyData := .tuple [dN p, dN q, dN s, dN t]
structure OkW (n n' : Nat) (p q s t : N3) : Prop where
  op : Ok p
  oq : Ok q
  os : Ok s
  ot : Ok t
  bp : Bd n p
  bq : Bd n' q
  bs : Bd n' s
  bt : Bd n t
def uB : DSp := fun ds μ Q => ∃ (d : Int) (p q s t k : N3) (n n' m : Nat), ds = [.v (.int d), .v (W4 p q s t), .v (dN k)] ∧ aB d ∧ OkW n n' p q s t ∧ Ok k ∧ Bd m k ∧ 2 * (n + m) + 40 ≤ 4300 ∧ 4 * (n' + m) + 40 ≤ 4300 ∧ Q (.v (.bool (fk d p q s t k))) μ
theorem A4 {μ : Mu} {Q : DK} {ds : List D} (h : uB ds μ Q) : ds.length = 3 := by obtain ⟨_, _, _, _, _, _, _, _, _, rfl, _⟩ := h; rfl
def oQ : DSp := fun ds μ Q => ∃ (d : Int) (p q s t w h : N3) (n n' m l : Nat), ds = [.v (.int d), .v (W4 p q s t), .v (dN w), .v (dN h)] ∧ aB d ∧ OkW n n' p q s t ∧ Ok w ∧ Bd m w ∧ Ok h ∧ Bd l h ∧ n + n' + 2 * l + m + 30 ≤ 4300 ∧ Q (.v (dN (weigh d p q s t w h))) μ
theorem wq {μ : Mu} {Q : DK} {ds : List D} (h : oQ ds μ Q) : ds.length = 4 := by obtain ⟨_, _, _, _, _, _, _, _, _, _, _, rfl, _⟩ := h; rfl
def vq (d : Int) (ks : List N3) (shape w p q s t : N3) : Bool := ks.all (fun k => fk d p q s t k && fk d p q s t (au d k)) && decide (sg d (weigh d p q s t w (times d shape w)).a (weigh d p q s t w (times d shape w)).b < 0)
section
variable {μ : Mu} {Qd : DK} {ds : List D}
theorem Fd {d : Int} {p q s t w h : N3} {n n' m l : Nat} (hd : aB d) (o4 : OkW n n' p q s t) (ow : Ok w) (bw : Bd m w) (oh : Ok h) (bh : Bd l h) : Bd (2 * (n + n' + 2 * l + m + 30)) (weigh d p q s t w h) := by
  obtain ⟨op, oq, os, ot, bp, bq, bs, bt⟩ := o4
  have s5 := kv hd.1 hd.2.1
  have omh := aA oh
  have bmh := d4 bh
  have o1 := ah (d := d) op oh
  have o2 := ah (d := d) oq omh
  have o3 := ah (d := d) os oh
  have o4 := ah (d := d) ot omh
  have b12 := eC o1 o2 (aO s5 op oh bp bh) (aO s5 oq omh bq bmh)
  have b34 := eC o3 o4 (aO s5 os oh bs bh) (aO s5 ot omh bt bmh)
  have o12 := aW o1 o2
  have o34 := aW o3 o4
  exact (eC (ah ow o12) (ah (aA ow) o34) (aO s5 ow o12 bw b12) (aO s5 (aA ow) o34 (d4 bw) b34)).mono (by omega)
end
open PySem PySem.Spec PyProof.Rows NM
section
variable {d : Int} {k s k2 : N3} {w : Int}
theorem tt1 {t : Int} (h : t = 1 ∨ t = -1) : t * t = 1 := by rcases h with rfl | rfl <;> rfl
theorem uC (ox : Ok s) (hw : 0 < w) : Rep (jT s w) 0 (2 * s.b) s.c := by
  unfold jT
  rw [if_pos hw]
  exact (Rep.less ox (aA ox) (ai ox) (ai (aA ox))).conv ox.cn (by show (s.a * s.c - s.a * s.c) * s.c = 0 * _; grind) (by show (s.b * s.c - -s.b * s.c) * s.c = 2 * s.b * (s.c * s.c); grind)
theorem uz (ox : Ok s) (hw : ¬ 0 < w) : Rep (jT s w) (2 * s.a) 0 s.c := by
  unfold jT
  rw [if_neg hw]
  exact (Rep.plus ox (aA ox) (ai ox) (ai (aA ox))).conv ox.cn (by show (s.a * s.c + s.a * s.c) * s.c = 2 * s.a * (s.c * s.c); grind) (by show (s.b * s.c + -s.b * s.c) * s.c = 0 * _; grind)
structure iS (d : Int) (k s : N3) (w : Int) : Prop where
  hd : aB d
  ok : Ok k
  hk : sg d k.a k.b = 1
  os : Ok s
  hs : sg d s.a s.b = 1
  ne : jT s w ≠ aE
theorem iS.ht (h : iS d k s w) : aJ d s w = 1 ∨ aJ d s w = -1 := Bh (cw h.os) h.ne
theorem iS.nm (h : iS d k s w) : norm d (bC s) ≠ 0 := by rw [xS]; exact aZ h.hd h.os h.hs
theorem iS.ol (h : iS d k s w) : Ok (bLast d s w) := ah (ah (fY h.ht) (cw h.os)) (ax h.nm)
theorem iS.nl (h : iS d k s w) : bLast d s w ≠ aE := iW h.hd (ah (fY h.ht) (cw h.os)) (ax h.nm) (iW h.hd (fY h.ht) (cw h.os) (C0 h.ht) h.ne) (Gf h.hd (aA h.os) (oS (gA h.hs)))
theorem iS.nn (h : iS d k s w) : norm d (bLast d s w) ≠ 0 := h.hd.norm h.ol h.nl
theorem IZ (h : iS d k s w) (hw : 0 < w) : 0 < aJ d s w * s.b := by
  have r := Dz h.hd (cw (w := w) h.os) (uC h.os hw)
  have hc := h.os.c
  have e : 2 * s.b * s.c = s.b * (2 * s.c) := by grind
  rw [e] at r
  rcases h.ht with t | t
  · rw [t, Int.one_mul]
    have := r.1.mp t
    exact y0 this (by omega)
  · rw [t]
    have := r.2.mp t
    have h2 : 0 < -s.b := y0 (y := 2 * s.c) (by rw [Int.neg_mul]; omega) (by omega)
    omega
theorem Jc (h : iS d k s w) (hw : ¬ 0 < w) : 0 < aJ d s w * s.a := by
  have r := qL h.hd (cw (w := w) h.os) (uz h.os hw)
  have hc := h.os.c
  have e : 2 * s.a * s.c = s.a * (2 * s.c) := by grind
  rw [e] at r
  rcases h.ht with t | t
  · rw [t, Int.one_mul]
    have := r.1.mp t
    exact y0 this (by omega)
  · rw [t]
    have := r.2.mp t
    have h2 : 0 < -s.a := y0 (y := 2 * s.c) (by rw [Int.neg_mul]; omega) (by omega)
    omega
theorem xP (h : iS d k s w) (hw : 0 < w) : Rep (bLast d s w) (aJ d s w * (d * s.b * s.b)) (aJ d s w * (s.b * s.a)) (norm d s) := by
  have oh := fY h.ht
  have of := cw (w := w) h.os
  have r3 := Rep.times (d := d) (ah (d := d) oh of) (ax h.nm) (Rep.times (d := d) oh of (ai oh) (uC h.os hw)) ((ai (aA h.os)).au (d := d) (aA h.os) h.nm)
  refine r3.conv (aZ h.hd h.os h.hs) ?_ ?_
  · show ((aJ d s w * 0 + d * 0 * (2 * s.b)) * (s.c * s.a) + d * (aJ d s w * (2 * s.b) + 0 * 0) * (-s.c * -s.b)) * norm d s = aJ d s w * (d * s.b * s.b) * (2 * s.c * (s.a * s.a - d * -s.b * -s.b))
    unfold norm; grind
  · show ((aJ d s w * 0 + d * 0 * (2 * s.b)) * (-s.c * -s.b) + (aJ d s w * (2 * s.b) + 0 * 0) * (s.c * s.a)) * norm d s = aJ d s w * (s.b * s.a) * (2 * s.c * (s.a * s.a - d * -s.b * -s.b))
    unfold norm; grind
theorem xD (h : iS d k s w) (hw : ¬ 0 < w) : Rep (bLast d s w) (aJ d s w * (s.a * s.a)) (aJ d s w * (s.a * s.b)) (norm d s) := by
  have oh := fY h.ht
  have of := cw (w := w) h.os
  have r3 := Rep.times (d := d) (ah (d := d) oh of) (ax h.nm) (Rep.times (d := d) oh of (ai oh) (uz h.os hw)) ((ai (aA h.os)).au (d := d) (aA h.os) h.nm)
  refine r3.conv (aZ h.hd h.os h.hs) ?_ ?_
  · show ((aJ d s w * (2 * s.a) + d * 0 * 0) * (s.c * s.a) + d * (aJ d s w * 0 + 0 * (2 * s.a)) * (-s.c * -s.b)) * norm d s = aJ d s w * (s.a * s.a) * (2 * s.c * (s.a * s.a - d * -s.b * -s.b))
    unfold norm; grind
  · show ((aJ d s w * (2 * s.a) + d * 0 * 0) * (-s.c * -s.b) + (aJ d s w * 0 + 0 * (2 * s.a)) * (s.c * s.a)) * norm d s = aJ d s w * (s.a * s.b) * (2 * s.c * (s.a * s.a - d * -s.b * -s.b))
    unfold norm; grind
theorem gT : Ok ⟨4, 0, 1⟩ := uw 4
theorem vY (hd : aB d) (ok : Ok k) (hk : sg d k.a k.b = 1) : norm d (times d ⟨4, 0, 1⟩ (times d k (bC k))) ≠ 0 := hd.norm (ah gT (ah ok (aA ok))) (iW hd gT (ah ok (aA ok)) (fun e => absurd (congrArg N3.a e) (by decide)) (iW hd ok (aA ok) (gA hk) (oS (gA hk))))
theorem Cy (ok : Ok k) : Rep (times d k (bC k)) (norm d k) 0 (k.c * k.c) := (Rep.times (d := d) ok (aA ok) (ai ok) (ai (aA ok))).congr (by show k.a * k.a + d * k.b * -k.b = _; unfold norm; grind) (by show k.a * -k.b + k.b * k.a = 0; grind) rfl
theorem C9 (ok : Ok k) : Rep (times d ⟨4, 0, 1⟩ (times d k (bC k))) (4 * norm d k) 0 (k.c * k.c) := (Rep.times (d := d) gT (ah (d := d) ok (aA ok)) (ai gT) (Cy ok)).congr (by show 4 * norm d k + d * 0 * 0 = _; grind) (by show 4 * 0 + 0 * norm d k = 0; grind) (by show 1 * _ = _; grind)
theorem oK (hd : aB d) (ok : Ok k) (hk : sg d k.a k.b = 1) : Ok (km d k w) := ah (ah (cw ok) (cw ok)) (ax (vY hd ok hk))
theorem rR (hd : aB d) (ok : Ok k) (hk : sg d k.a k.b = 1) (hw : 0 < w) : Rep (km d k w) (d * k.b * k.b) 0 (norm d k) := by
  have r := Rep.times (d := d) (ah (d := d) (cw (w := w) ok) (cw ok)) (ax (vY hd ok hk)) (Rep.times (d := d) (cw ok) (cw ok) (uC ok hw) (uC ok hw)) ((C9 ok).au (ah gT (ah ok (aA ok))) (vY hd ok hk))
  refine r.conv (aZ hd ok hk) ?_ ?_ <;> grind
theorem sW (hd : aB d) (ok : Ok k) (hk : sg d k.a k.b = 1) (hw : ¬ 0 < w) : Rep (km d k w) (k.a * k.a) 0 (norm d k) := by
  have r := Rep.times (d := d) (ah (d := d) (cw (w := w) ok) (cw ok)) (ax (vY hd ok hk)) (Rep.times (d := d) (cw ok) (cw ok) (uz ok hw) (uz ok hw)) ((C9 ok).au (ah gT (ah ok (aA ok))) (vY hd ok hk))
  refine r.conv (aZ hd ok hk) ?_ ?_ <;> grind
def bP (d : Int) (k s : N3) (w : Int) : N3 := times d (km d k w) (au d (bLast d s w))
theorem iS.op (h : iS d k s w) : Ok (bP d k s w) := ah (oK h.hd h.ok h.hk) (ax h.nn)
theorem GH (h : iS d k s w) (hw : 0 < w) : Rep (bP d k s w) (-(aJ d s w * (d * k.b * k.b * s.b))) (aJ d s w * (k.b * k.b * s.a)) (norm d k * s.b) := by
  have tt := tt1 h.ht
  have tp := IZ h hw
  have sb : s.b ≠ 0 := fun z => by rw [z, Int.mul_zero] at tp; omega
  have nk := aZ h.hd h.ok h.hk
  have ns := aZ h.hd h.os h.hs
  have d0 : d ≠ 0 := by have := h.hd.1; omega
  have rc : Rep (au d (bLast d s w)) (-(aJ d s w * (d * s.b))) (aJ d s w * s.a) (d * s.b) := by
    refine ((xP h hw).au h.ol h.nn).conv (Int.mul_ne_zero d0 sb) ?_ ?_
    · generalize aJ d s w = t at *
      have e : t * (d * s.b * s.b) * (t * (d * s.b * s.b)) - d * (t * (s.b * s.a)) * (t * (s.b * s.a)) = (t * t) * (-(d * s.b * s.b) * norm d s) := by unfold norm; grind
      rw [e, tt]
      grind
    · generalize aJ d s w = t at *
      have e : t * (d * s.b * s.b) * (t * (d * s.b * s.b)) - d * (t * (s.b * s.a)) * (t * (s.b * s.a)) = (t * t) * (-(d * s.b * s.b) * norm d s) := by unfold norm; grind
      rw [e, tt]
      grind
  refine (Rep.times (d := d) (oK h.hd h.ok h.hk) (ax h.nn) (rR h.hd h.ok h.hk hw) rc).conv (Int.mul_ne_zero nk sb) ?_ ?_ <;> grind
theorem Gk (h : iS d k s w) (hw : ¬ 0 < w) : Rep (bP d k s w) (aJ d s w * (k.a * k.a * s.a)) (-(aJ d s w * (k.a * k.a * s.b))) (norm d k * s.a) := by
  have tt := tt1 h.ht
  have tp := Jc h hw
  have sa : s.a ≠ 0 := fun z => by rw [z, Int.mul_zero] at tp; omega
  have nk := aZ h.hd h.ok h.hk
  have ns := aZ h.hd h.os h.hs
  have rc : Rep (au d (bLast d s w)) (aJ d s w * s.a) (-(aJ d s w * s.b)) s.a := by
    refine ((xD h hw).au h.ol h.nn).conv sa ?_ ?_
    · generalize aJ d s w = t at *
      have e : t * (s.a * s.a) * (t * (s.a * s.a)) - d * (t * (s.a * s.b)) * (t * (s.a * s.b)) = (t * t) * (s.a * s.a * norm d s) := by unfold norm; grind
      rw [e, tt]
      grind
    · generalize aJ d s w = t at *
      have e : t * (s.a * s.a) * (t * (s.a * s.a)) - d * (t * (s.a * s.b)) * (t * (s.a * s.b)) = (t * t) * (s.a * s.a * norm d s) := by unfold norm; grind
      rw [e, tt]
      grind
  refine (Rep.times (d := d) (oK h.hd h.ok h.hk) (ax h.nn) (sW h.hd h.ok h.hk hw) rc).conv (Int.mul_ne_zero nk sa) ?_ ?_ <;> grind
end
open PySem PySem.Spec PyProof.Rows NM
section
variable {d : Int} {k s k2 : N3} {w : Int}
theorem Gw (hd : aB d) {t : Int} (h : t = 1 ∨ t = -1) : sg d (⟨t, 0, 1⟩ : N3).a (⟨t, 0, 1⟩ : N3).b = t := by
  show sg d t 0 = t
  rw [kL]
  rcases h with rfl | rfl <;> rfl
theorem Gm (hd : aB d) {t : Int} (h : t = 1 ∨ t = -1) : sg d (⟨t, 0, 2⟩ : N3).a (⟨t, 0, 2⟩ : N3).b = t := by
  show sg d t 0 = t
  rw [kL]
  rcases h with rfl | rfl <;> rfl
theorem C7 (h : iS d k s w) : sg d (bLast d s w).a (bLast d s w).b = aT d s := by
  have of := cw (w := w) h.os
  have oh := fY h.ht
  unfold bLast
  rw [bT h.hd (ah oh of) (ax h.nm), bT h.hd oh of, Gm h.hd h.ht, FW h.hd (aA h.os) h.nm]
  show aJ d s w * aJ d s w * aT d s = aT d s
  rw [tt1 h.ht, Int.one_mul]
theorem jC (hd : aB d) (ok : Ok k) (hk : sg d k.a k.b = 1) (h : 0 < norm d k) : aT d k = 1 := by
  rcases gp hd ok hk with ⟨a, b⟩ | ⟨a, b⟩
  · exact a
  · omega
theorem jR (hd : aB d) (ok : Ok k) (hk : sg d k.a k.b = 1) (h : norm d k < 0) : aT d k = -1 := by
  rcases gp hd ok hk with ⟨a, b⟩ | ⟨a, b⟩
  · omega
  · exact a
theorem M5 (h : iS d k s (aT d k)) (hw : aT d s = aT d k) : 0 ≤ sg d (bP d k s (aT d k)).a (bP d k s (aT d k)).b := by
  have ob := oK (w := aT d k) h.hd h.ok h.hk
  unfold bP
  rw [bT h.hd ob (ax h.nn), FW h.hd h.ol h.nn, C7 h, hw]
  have d0 : 0 < d := by have := h.hd.1; omega
  rcases gp h.hd h.ok h.hk with ⟨a, b⟩ | ⟨a, b⟩
  · have r := qL h.hd ob (rR h.hd h.ok h.hk (by rw [a]; decide))
    have hn : 0 ≤ d * k.b * k.b * norm d k := Int.mul_nonneg (dsq d0) (Int.le_of_lt b)
    rw [a] at r ⊢
    rcases hZ d (km d k 1).a (km d k 1).b with z | z | z
    · rw [z]; decide
    · rw [z]; decide
    · have := r.2.mp z; omega
  · have r := qL h.hd ob (sW h.hd h.ok h.hk (by rw [a]; decide))
    have hn : k.a * k.a * norm d k ≤ 0 := by
      have := Int.mul_nonneg (sq_nonneg k.a) (show 0 ≤ -norm d k by omega)
      rw [Int.mul_neg] at this
      omega
    rw [a] at r ⊢
    rcases hZ d (km d k (-1)).a (km d k (-1)).b with z | z | z
    · rw [z]; decide
    · have := r.1.mp z; omega
    · rw [z]; decide
theorem K8 (h : iS d k s w) : times d (bP d k s w) (bLast d s w) = km d k w := by
  have ob := oK (w := w) h.hd h.ok h.hk
  unfold bP
  rw [ya ob (ax h.nn) h.ol, qi (ax h.nn) h.ol, fh h.ol h.nn, EH ob]
theorem HG (h : iS d k s w) (ok2 : Ok k2) : times d (times d (bP d k s w) k2) (times d (bLast d s w) (bC k2)) = times d (km d k w) (times d k2 (bC k2)) := by
  rw [Kq h.op ok2 h.ol (aA ok2), K8 h]
theorem cC (t : Int) : Ok ⟨t, 0, 1⟩ := uw t
theorem Ms (ok2 : Ok k2) {t : Int} : Rep (plus (times d ⟨1 * t, 0, 1⟩ (bC k2)) (times d ⟨-t, 0, 1⟩ k2)) 0 (-(2 * (t * k2.b))) k2.c := by
  refine (Rep.plus (ah (d := d) (cC (1 * t)) (aA ok2)) (ah (d := d) (cC (-t)) ok2) (Rep.times (d := d) (cC (1 * t)) (aA ok2) (ai (cC (1 * t))) (ai (aA ok2))) (Rep.times (d := d) (cC (-t)) ok2 (ai (cC (-t))) (ai ok2))).conv ok2.cn ?_ ?_
  · show ((1 * t * k2.a + d * 0 * -k2.b) * (1 * k2.c) + (-t * k2.a + d * 0 * k2.b) * (1 * k2.c)) * k2.c = 0 * _
    grind
  · show ((1 * t * -k2.b + 0 * k2.a) * (1 * k2.c) + (-t * k2.b + 0 * k2.a) * (1 * k2.c)) * k2.c = -(2 * (t * k2.b)) * (1 * k2.c * (1 * k2.c))
    grind
theorem Mc (ok2 : Ok k2) {t : Int} : Rep (plus (times d ⟨-1 * t, 0, 1⟩ (bC k2)) (times d ⟨-t, 0, 1⟩ k2)) (-(2 * (t * k2.a))) 0 k2.c := by
  refine (Rep.plus (ah (d := d) (cC (-1 * t)) (aA ok2)) (ah (d := d) (cC (-t)) ok2) (Rep.times (d := d) (cC (-1 * t)) (aA ok2) (ai (cC (-1 * t))) (ai (aA ok2))) (Rep.times (d := d) (cC (-t)) ok2 (ai (cC (-t))) (ai ok2))).conv ok2.cn ?_ ?_
  · show ((-1 * t * k2.a + d * 0 * -k2.b) * (1 * k2.c) + (-t * k2.a + d * 0 * k2.b) * (1 * k2.c)) * k2.c = -(2 * (t * k2.a)) * (1 * k2.c * (1 * k2.c))
    grind
  · show ((-1 * t * -k2.b + 0 * k2.a) * (1 * k2.c) + (-t * k2.b + 0 * k2.a) * (1 * k2.c)) * k2.c = 0 * _
    grind
theorem AU {x y : N3} {A B C E : Int} (hd : aB d) (ox : Ok x) (oy : Ok y) (rx : Rep x A 0 C) (ry : Rep y B 0 E) (h : (A * E - B * C) * (C * E) ≤ 0) : dif d x y ≠ 1 := fun z => by
  have r := Rep.less ox oy rx ry
  rw [Int.zero_mul, Int.zero_mul, Int.sub_zero] at r
  have := (qL hd (j8 ox oy) r).1
  rw [Ig hd ox oy] at this
  have := this.mp z
  omega
theorem DQ (h : iS d k s (aT d k)) (hw : aT d s = aT d k) (ok2 : Ok k2) (hk2 : sg d k2.a k2.b = 1) (hl : Lay d k k2) : fk d (bP d k s (aT d k)) ⟨aT d k * aJ d s (aT d k), 0, 1⟩ ⟨-aJ d s (aT d k), 0, 1⟩ (bLast d s (aT d k)) k2 = true := by
  have d0 : 0 < d := by have := h.hd.1; omega
  have hp := M5 h hw
  have s1 : ¬ sg d (times d (bP d k s (aT d k)) k2).a (times d (bP d k s (aT d k)) k2).b < 0 := by
    rw [bT h.hd h.op ok2, hk2]; omega
  have w2 : aT d k2 = aT d k := by
    rcases hl with ⟨a, b, _⟩ | ⟨a, b, _⟩
    · rw [jC h.hd ok2 hk2 b, jC h.hd h.ok h.hk a]
    · rw [jR h.hd ok2 hk2 b, jR h.hd h.ok h.hk a]
  have s2 : ¬ sg d (times d (bLast d s (aT d k)) (bC k2)).a (times d (bLast d s (aT d k)) (bC k2)).b < 0 := by
    rw [bT h.hd h.ol (aA ok2), C7 h, hw]
    show ¬ aT d k * aT d k2 < 0
    rw [w2]
    have := sq_nonneg (aT d k)
    omega
  unfold fk
  rw [if_neg s1, if_neg s2, HG h ok2]
  rw [Bool.not_eq_true', decide_eq_false_iff_not]
  have ob := oK (w := aT d k) h.hd h.ok h.hk
  have okm := ah (d := d) ok2 (aA ok2)
  have tt := tt1 h.ht
  have hc := ok2.c
  rcases hl with ⟨a, b, c⟩ | ⟨a, b, c⟩
  · have ew := jC h.hd h.ok h.hk a
    rw [ew] at h ob tt ⊢
    have om := aW (ah (d := d) (cC (1 * aJ d s 1)) (aA ok2)) (ah (d := d) (cC (-aJ d s 1)) ok2)
    have rx := Rep.times (d := d) om om (Ms ok2) (Ms ok2)
    have ry := Rep.times (d := d) gT (ah (d := d) ob okm) (ai gT) (Rep.times (d := d) ob okm (rR h.hd h.ok h.hk (by decide)) (Cy ok2))
    have rx2 := rx.congr (A' := 4 * (d * k2.b * k2.b)) (B' := 0) (by
      generalize aJ d s 1 = t at *
      have : 0 * 0 + d * -(2 * (t * k2.b)) * -(2 * (t * k2.b)) = 4 * (d * k2.b * k2.b) * (t * t) := by grind
      rw [this, tt]; grind) (by grind) rfl
    have ry2 := ry.congr (A' := 4 * (d * k.b * k.b * norm d k2)) (B' := 0) (C' := norm d k * (k2.c * k2.c)) (by show 4 * (d * k.b * k.b * norm d k2 + d * 0 * 0) + d * 0 * (d * k.b * k.b * 0 + 0 * norm d k2) = _; grind) (by show 4 * (d * k.b * k.b * 0 + 0 * norm d k2) + 0 * (d * k.b * k.b * norm d k2 + d * 0 * 0) = 0; grind) (by show 1 * _ = _; grind)
    refine AU h.hd (ah om om) (ah gT (ah ob okm)) rx2 ry2 ?_
    have e : (4 * (d * k2.b * k2.b) * (norm d k * (k2.c * k2.c)) - 4 * (d * k.b * k.b * norm d k2) * (k2.c * k2.c)) * (k2.c * k2.c * (norm d k * (k2.c * k2.c))) = 4 * (d * (k2.c * k2.c * (k2.c * k2.c) * (k2.c * k2.c))) * (norm d k * (k2.b * k2.b * (k.a * k.a) - k2.a * k2.a * (k.b * k.b))) := by unfold norm; grind
    rw [e]
    have p1 : 0 ≤ 4 * (d * (k2.c * k2.c * (k2.c * k2.c) * (k2.c * k2.c))) := by
      have := sq_nonneg k2.c
      exact Int.mul_nonneg (by decide) (Int.mul_nonneg (by omega) (Int.mul_nonneg (Int.mul_nonneg this this) this))
    have p2 : 0 ≤ norm d k * (k2.a * k2.a * (k.b * k.b) - k2.b * k2.b * (k.a * k.a)) := Int.mul_nonneg (by omega) (by omega)
    have p3 := Int.mul_nonneg p1 p2
    have e2 : norm d k * (k2.b * k2.b * (k.a * k.a) - k2.a * k2.a * (k.b * k.b)) = -(norm d k * (k2.a * k2.a * (k.b * k.b) - k2.b * k2.b * (k.a * k.a))) := by grind
    rw [e2, Int.mul_neg]
    omega
  · have ew := jR h.hd h.ok h.hk a
    rw [ew] at h ob tt ⊢
    have om := aW (ah (d := d) (cC (-1 * aJ d s (-1))) (aA ok2)) (ah (d := d) (cC (-aJ d s (-1))) ok2)
    have rx := Rep.times (d := d) om om (Mc ok2) (Mc ok2)
    have ry := Rep.times (d := d) gT (ah (d := d) ob okm) (ai gT) (Rep.times (d := d) ob okm (sW h.hd h.ok h.hk (by decide)) (Cy ok2))
    have rx2 := rx.congr (A' := 4 * (k2.a * k2.a)) (B' := 0) (by
      generalize aJ d s (-1) = t at *
      have : -(2 * (t * k2.a)) * -(2 * (t * k2.a)) + d * 0 * 0 = 4 * (k2.a * k2.a) * (t * t) := by grind
      rw [this, tt]; grind) (by grind) rfl
    have ry2 := ry.congr (A' := 4 * (k.a * k.a * norm d k2)) (B' := 0) (C' := norm d k * (k2.c * k2.c)) (by show 4 * (k.a * k.a * norm d k2 + d * 0 * 0) + d * 0 * (k.a * k.a * 0 + 0 * norm d k2) = _; grind) (by show 4 * (k.a * k.a * 0 + 0 * norm d k2) + 0 * (k.a * k.a * norm d k2 + d * 0 * 0) = 0; grind) (by show 1 * _ = _; grind)
    refine AU h.hd (ah om om) (ah gT (ah ob okm)) rx2 ry2 ?_
    have e : (4 * (k2.a * k2.a) * (norm d k * (k2.c * k2.c)) - 4 * (k.a * k.a * norm d k2) * (k2.c * k2.c)) * (k2.c * k2.c * (norm d k * (k2.c * k2.c))) = 4 * (d * (k2.c * k2.c * (k2.c * k2.c) * (k2.c * k2.c))) * (norm d k * (k2.b * k2.b * (k.a * k.a) - k2.a * k2.a * (k.b * k.b))) := by unfold norm; grind
    rw [e]
    have p1 : 0 ≤ 4 * (d * (k2.c * k2.c * (k2.c * k2.c) * (k2.c * k2.c))) := by
      have := sq_nonneg k2.c
      exact Int.mul_nonneg (by decide) (Int.mul_nonneg (by omega) (Int.mul_nonneg (Int.mul_nonneg this this) this))
    have p2 : 0 ≤ -norm d k * (k2.b * k2.b * (k.a * k.a) - k2.a * k2.a * (k.b * k.b)) := Int.mul_nonneg (by omega) (by omega)
    have p3 := Int.mul_nonneg p1 p2
    have e2 : -norm d k * (k2.b * k2.b * (k.a * k.a) - k2.a * k2.a * (k.b * k.b)) = -(norm d k * (k2.b * k2.b * (k.a * k.a) - k2.a * k2.a * (k.b * k.b))) := by grind
    rw [e2, Int.mul_neg] at p3
    omega
end
open PySem PySem.Spec PyProof.Rows NM
section
variable {d : Int} {k s k2 : N3} {w : Int}
theorem B7 (hd : aB d) {p q r t : N3} (op : Ok p) (oq : Ok q) (or' : Ok r) (ot : Ok t) (os : Ok s) : weigh d p q r t one (times d s one) = plus (plus (times d p s) (times d q (bC s))) (plus (times d r s) (times d t (bC s))) := by
  have om := aA os
  unfold weigh
  rw [EH os, show bC one = one from rfl, GF (aW (ah op os) (ah oq om)), GF (aW (ah or' os) (ah ot om))]
theorem Hz (t : Int) : Rep (⟨t, 0, 1⟩ : N3) t 0 1 := ai (cC t)
theorem Hb {t : Int} (os : Ok s) : Rep (times d ⟨t, 0, 1⟩ s) (t * s.a) (t * s.b) s.c := (Rep.times (d := d) (cC t) os (Hz t) (ai os)).congr (by grind) (by grind) (by grind)
theorem BP (h : iS d k s 1) (hn : 0 < norm d k) (hl : s.a * s.a * (k.b * k.b) < s.b * s.b * (k.a * k.a)) : sg d (weigh d (bP d k s 1) ⟨1 * aJ d s 1, 0, 1⟩ ⟨-aJ d s 1, 0, 1⟩ (bLast d s 1) one (times d s one)).a (weigh d (bP d k s 1) ⟨1 * aJ d s 1, 0, 1⟩ ⟨-aJ d s 1, 0, 1⟩ (bLast d s 1) one (times d s one)).b < 0 := by
  have om := aA h.os
  have tp := IZ h (by decide)
  have sb : s.b ≠ 0 := fun z => by rw [z, Int.mul_zero] at tp; omega
  have nk := aZ h.hd h.ok h.hk
  have ns := aZ h.hd h.os h.hs
  have gc := h.os.cn
  rw [B7 h.hd h.op (cC _) (cC _) h.ol h.os]
  have r1 : Rep (times d (bP d k s 1) s) 0 (aJ d s 1 * (k.b * k.b * norm d s)) (norm d k * s.b * s.c) := (Rep.times (d := d) h.op h.os (GH h (by decide)) (ai h.os)).congr (by grind) (by unfold norm; grind) rfl
  have r2 := Hb (d := d) (t := 1 * aJ d s 1) om
  have r3 := Hb (d := d) (t := -aJ d s 1) h.os
  have r4 : Rep (times d (bLast d s 1) (bC s)) 0 (aJ d s 1 * s.b) s.c := by
    refine (Rep.times (d := d) h.ol om (xP h (by decide)) (ai om)).conv gc ?_ ?_
    · show (aJ d s 1 * (d * s.b * s.b) * s.a + d * (aJ d s 1 * (s.b * s.a)) * -s.b) * s.c = 0 * _
      grind
    · show (aJ d s 1 * (d * s.b * s.b) * -s.b + aJ d s 1 * (s.b * s.a) * s.a) * s.c = aJ d s 1 * s.b * (norm d s * s.c)
      unfold norm; grind
  have o12 := aW (ah (d := d) h.op h.os) (ah (d := d) (cC (1 * aJ d s 1)) om)
  have o34 := aW (ah (d := d) (cC (-aJ d s 1)) h.os) (ah (d := d) h.ol om)
  have r34 : Rep (plus (times d ⟨-aJ d s 1, 0, 1⟩ s) (times d (bLast d s 1) (bC s))) (-(aJ d s 1 * s.a)) 0 s.c := by
    refine (Rep.plus (ah (cC _) h.os) (ah h.ol om) r3 r4).conv gc ?_ ?_ <;> grind
  have r := Rep.plus o12 o34 (Rep.plus (ah h.op h.os) (ah (cC _) om) r1 r2) r34
  have rX : Rep (plus (plus (times d (bP d k s 1) s) (times d ⟨1 * aJ d s 1, 0, 1⟩ (bC s))) (plus (times d ⟨-aJ d s 1, 0, 1⟩ s) (times d (bLast d s 1) (bC s)))) 0 (aJ d s 1 * (s.a * s.a * (k.b * k.b) - s.b * s.b * (k.a * k.a))) (norm d k * s.b * s.c) := by
    refine r.conv (Int.mul_ne_zero (Int.mul_ne_zero nk sb) gc) ?_ ?_
    · show ((0 * s.c + 1 * aJ d s 1 * s.a * (norm d k * s.b * s.c)) * s.c + -(aJ d s 1 * s.a) * (norm d k * s.b * s.c * s.c)) * (norm d k * s.b * s.c) = 0 * _
      generalize norm d k = N
      grind
    · show ((aJ d s 1 * (k.b * k.b * norm d s) * s.c + 1 * aJ d s 1 * -s.b * (norm d k * s.b * s.c)) * s.c + 0 * (norm d k * s.b * s.c * s.c)) * (norm d k * s.b * s.c) = aJ d s 1 * (s.a * s.a * (k.b * k.b) - s.b * s.b * (k.a * k.a)) * (norm d k * s.b * s.c * s.c * s.c)
      have e : k.b * k.b * norm d s - norm d k * (s.b * s.b) = s.a * s.a * (k.b * k.b) - s.b * s.b * (k.a * k.a) := by unfold norm; grind
      rw [← e]
      generalize norm d k = N
      generalize norm d s = M
      grind
  have hs := (Dz h.hd (aW o12 o34) rX).2
  have hneg : aJ d s 1 * (s.a * s.a * (k.b * k.b) - s.b * s.b * (k.a * k.a)) * (norm d k * s.b * s.c) < 0 := by
    have e : aJ d s 1 * (s.a * s.a * (k.b * k.b) - s.b * s.b * (k.a * k.a)) * (norm d k * s.b * s.c) = (s.a * s.a * (k.b * k.b) - s.b * s.b * (k.a * k.a)) * ((aJ d s 1 * s.b) * (norm d k * s.c)) := by grind
    rw [e]
    exact Int.mul_neg_of_neg_of_pos (by omega) (Int.mul_pos tp (Int.mul_pos hn h.os.c))
  rw [hs.mpr hneg]
  decide
theorem CA (h : iS d k s (-1)) (hn : norm d k < 0) (hl : s.b * s.b * (k.a * k.a) < s.a * s.a * (k.b * k.b)) : sg d (weigh d (bP d k s (-1)) ⟨-1 * aJ d s (-1), 0, 1⟩ ⟨-aJ d s (-1), 0, 1⟩ (bLast d s (-1)) one (times d s one)).a (weigh d (bP d k s (-1)) ⟨-1 * aJ d s (-1), 0, 1⟩ ⟨-aJ d s (-1), 0, 1⟩ (bLast d s (-1)) one (times d s one)).b < 0 := by
  have om := aA h.os
  have tp := Jc h (by decide)
  have sa : s.a ≠ 0 := fun z => by rw [z, Int.mul_zero] at tp; omega
  have nk := aZ h.hd h.ok h.hk
  have gc := h.os.cn
  have d0 : 0 < d := by have := h.hd.1; omega
  rw [B7 h.hd h.op (cC _) (cC _) h.ol h.os]
  have r1 : Rep (times d (bP d k s (-1)) s) (aJ d s (-1) * (k.a * k.a * norm d s)) 0 (norm d k * s.a * s.c) := (Rep.times (d := d) h.op h.os (Gk h (by decide)) (ai h.os)).congr (by unfold norm; grind) (by grind) rfl
  have r2 := Hb (d := d) (t := -1 * aJ d s (-1)) om
  have r3 := Hb (d := d) (t := -aJ d s (-1)) h.os
  have r4 : Rep (times d (bLast d s (-1)) (bC s)) (aJ d s (-1) * s.a) 0 s.c := by
    refine (Rep.times (d := d) h.ol om (xD h (by decide)) (ai om)).conv gc ?_ ?_
    · show (aJ d s (-1) * (s.a * s.a) * s.a + d * (aJ d s (-1) * (s.a * s.b)) * -s.b) * s.c = aJ d s (-1) * s.a * (norm d s * s.c)
      unfold norm; grind
    · show (aJ d s (-1) * (s.a * s.a) * -s.b + aJ d s (-1) * (s.a * s.b) * s.a) * s.c = 0 * _
      grind
  have o12 := aW (ah (d := d) h.op h.os) (ah (d := d) (cC (-1 * aJ d s (-1))) om)
  have o34 := aW (ah (d := d) (cC (-aJ d s (-1))) h.os) (ah (d := d) h.ol om)
  have r34 : Rep (plus (times d ⟨-aJ d s (-1), 0, 1⟩ s) (times d (bLast d s (-1)) (bC s))) 0 (-(aJ d s (-1) * s.b)) s.c := by
    refine (Rep.plus (ah (cC _) h.os) (ah h.ol om) r3 r4).conv gc ?_ ?_ <;> grind
  have r := Rep.plus o12 o34 (Rep.plus (ah h.op h.os) (ah (cC _) om) r1 r2) r34
  have rX : Rep (plus (plus (times d (bP d k s (-1)) s) (times d ⟨-1 * aJ d s (-1), 0, 1⟩ (bC s))) (plus (times d ⟨-aJ d s (-1), 0, 1⟩ s) (times d (bLast d s (-1)) (bC s)))) (aJ d s (-1) * (d * (s.a * s.a * (k.b * k.b) - s.b * s.b * (k.a * k.a)))) 0 (norm d k * s.a * s.c) := by
    refine r.conv (Int.mul_ne_zero (Int.mul_ne_zero nk sa) gc) ?_ ?_
    · show ((aJ d s (-1) * (k.a * k.a * norm d s) * s.c + -1 * aJ d s (-1) * s.a * (norm d k * s.a * s.c)) * s.c + 0 * (norm d k * s.a * s.c * s.c)) * (norm d k * s.a * s.c) = aJ d s (-1) * (d * (s.a * s.a * (k.b * k.b) - s.b * s.b * (k.a * k.a))) * (norm d k * s.a * s.c * s.c * s.c)
      have e : k.a * k.a * norm d s - norm d k * (s.a * s.a) = d * (s.a * s.a * (k.b * k.b) - s.b * s.b * (k.a * k.a)) := by unfold norm; grind
      rw [← e]
      generalize norm d k = N
      generalize norm d s = M
      grind
    · show ((0 * s.c + -1 * aJ d s (-1) * -s.b * (norm d k * s.a * s.c)) * s.c + -(aJ d s (-1) * s.b) * (norm d k * s.a * s.c * s.c)) * (norm d k * s.a * s.c) = 0 * _
      generalize norm d k = N
      grind
  have hs := (qL h.hd (aW o12 o34) rX).2
  have hneg : aJ d s (-1) * (d * (s.a * s.a * (k.b * k.b) - s.b * s.b * (k.a * k.a))) * (norm d k * s.a * s.c) < 0 := by
    have e : aJ d s (-1) * (d * (s.a * s.a * (k.b * k.b) - s.b * s.b * (k.a * k.a))) * (norm d k * s.a * s.c) = norm d k * ((s.a * s.a * (k.b * k.b) - s.b * s.b * (k.a * k.a)) * ((aJ d s (-1) * s.a) * (d * s.c))) := by grind
    rw [e]
    exact Int.mul_neg_of_neg_of_pos hn (Int.mul_pos (by omega) (Int.mul_pos tp (Int.mul_pos d0 h.os.c)))
  rw [hs.mpr hneg]
  decide
theorem Ce {w : Int} (hd : aB d) (ok2 : Ok k2) (hk2 : sg d k2.a k2.b = 1) (hw : aT d k2 = w) : fk d aE aE aE ⟨w, 0, 1⟩ k2 = true := by
  have hpm : w = 1 ∨ w = -1 := by rw [← hw]; rcases gp hd ok2 hk2 with ⟨a, _⟩ | ⟨a, _⟩ <;> omega
  have om := aA ok2
  have z : sg d aE.a aE.b = 0 := dZ.mpr ⟨rfl, rfl⟩
  unfold fk
  rw [uY ok2, uY om, Hn fS, uY fS, uY (ah (cC w) om), qi gT fS, uY gT, FA, z]
  rw [if_neg (by decide), bT hd (cC w) om, Gw hd hpm]
  have e : sg d (bC k2).a (bC k2).b = w := hw
  rw [e, tt1 hpm, if_neg (by decide)]
  rfl
theorem B4 {w : Int} (hd : aB d) (os : Ok s) (hs : sg d s.a s.b = 1) (hw : w = 1 ∨ w = -1) (hn : aT d s ≠ w) : sg d (weigh d aE aE aE ⟨w, 0, 1⟩ one (times d s one)).a (weigh d aE aE aE ⟨w, 0, 1⟩ one (times d s one)).b < 0 := by
  have om := aA os
  rw [B7 hd fS fS fS (cC w) os, uY os, uY om, Hn fS, Iq (ah (cC w) om), Iq (ah (cC w) om), bT hd (cC w) om, Gw hd hw]
  show w * aT d s < 0
  rcases gp hd os hs with ⟨a, _⟩ | ⟨a, _⟩ <;> rw [a] at hn ⊢ <;> rcases hw with rfl | rfl <;> first | exact absurd rfl hn | decide
end
open PySem PySem.Spec PyProof.Rows NM
section
variable {d : Int} {k s m : N3}
theorem AH (h : norm d k ≠ 0) : Lay d k k := by
  rcases Int.lt_or_gt_of_ne h with z | z
  · exact .inr ⟨z, z, by rw [Int.mul_comm]; exact Int.le_refl _⟩
  · exact .inl ⟨z, z, by rw [Int.mul_comm]; exact Int.le_refl _⟩
theorem tr1 {x y u v p q : Int} (hu : 0 < u) (hx : 0 ≤ x) (hq : 0 ≤ q) (h1 : v * y ≤ u * x) (h2 : p * u ≤ q * v) (hy : 0 ≤ y) : p * y ≤ q * x := by
  have a := Int.mul_le_mul_of_nonneg_right h2 hy
  have b := Int.mul_le_mul_of_nonneg_left h1 hq
  have c : u * (q * x - p * y) = (q * (u * x) - q * (v * y)) + (q * v * y - p * u * y) := by grind
  have e : 0 ≤ (q * x - p * y) * u := by rw [Int.mul_comm, c]; omega
  rw [gK hu] at e
  omega
theorem Lm (hd : aB d) (h1 : Lay d k m) (h2 : Lay d m s) : Lay d k s := by
  have d0 : 0 < d := by have := hd.1; omega
  rcases h1 with ⟨a, b, c⟩ | ⟨a, b, c⟩ <;> rcases h2 with ⟨a', b', c'⟩ | ⟨a', b', c'⟩
  · have hm : 0 < m.a * m.a := by have := dsq (d := d) (b := m.b) d0; have e : norm d m = m.a * m.a - d * m.b * m.b := rfl; omega
    exact .inl ⟨a, b', tr1 hm (sq_nonneg _) (sq_nonneg _) c c' (sq_nonneg _)⟩
  · omega
  · omega
  · have hm : 0 < m.b * m.b := by
      rcases Classical.em (m.b = 0) with z | z
      · have e : norm d m = m.a * m.a - d * m.b * m.b := rfl
        rw [z] at e
        have := sq_nonneg m.a
        omega
      · exact sq_pos z
    exact .inr ⟨a, b', tr1 hm (sq_nonneg _) (sq_nonneg _) c c' (sq_nonneg _)⟩
theorem qE (hd : aB d) (ok : Ok k) (nk : norm d k ≠ 0) : ((bG d k).a.natAbs : Int) * ((norm d k).natAbs : Int) = 4 * (k.a * k.a) * (bG d k).c := by
  have r := ll hd ok nk
  have e := congrArg Int.natAbs r.a
  rw [Int.natAbs_mul] at e
  have hc := (fP hd nk ok).c
  have h0 : 0 ≤ 4 * (k.a * k.a) * (bG d k).c := Int.mul_nonneg (Int.mul_nonneg (by decide) (sq_nonneg _)) (by omega)
  have e2 : ((4 * (k.a * k.a) * (bG d k).c).natAbs : Int) = 4 * (k.a * k.a) * (bG d k).c := Int.natAbs_of_nonneg h0
  rw [← e2, ← e]
  rfl
theorem xH (hd : aB d) (ok : Ok k) (om : Ok m) (hs : (0 < norm d k ∧ 0 < norm d m) ∨ (norm d k < 0 ∧ norm d m < 0)) (h : ¬ gtL d m k) : Lay d k m := by
  have nk : norm d k ≠ 0 := by omega
  have nm : norm d m ≠ 0 := by omega
  have d0 : 0 < d := by have := hd.1; omega
  have ak := qE hd ok nk
  have am := qE hd om nm
  have ck := (fP hd nk ok).c
  have cm := (fP hd nm om).c
  unfold gtL at h
  have h1 : ((bG d m).a.natAbs : Int) * (bG d k).c ≤ ((bG d k).a.natAbs : Int) * (bG d m).c := by omega
  have pk : (0 : Int) < ((norm d k).natAbs : Int) := by omega
  have pm : (0 : Int) < ((norm d m).natAbs : Int) := by omega
  generalize ((bG d m).a.natAbs : Int) = A at *
  generalize ((bG d k).a.natAbs : Int) = B at *
  generalize (bG d k).c = C at *
  generalize (bG d m).c = E at *
  have key : 0 ≤ (k.a * k.a * ((norm d m).natAbs : Int) - m.a * m.a * ((norm d k).natAbs : Int)) * (4 * (C * E)) := by
    have h2 : 0 ≤ (B * E - A * C) * (((norm d k).natAbs : Int) * ((norm d m).natAbs : Int)) := Int.mul_nonneg (by omega) (Int.mul_nonneg (by omega) (by omega))
    have e : (B * E - A * C) * (((norm d k).natAbs : Int) * ((norm d m).natAbs : Int)) = (B * ((norm d k).natAbs : Int)) * (E * ((norm d m).natAbs : Int)) - (A * ((norm d m).natAbs : Int)) * (C * ((norm d k).natAbs : Int)) := by grind
    rw [e, ak, am] at h2
    have e2 : 4 * (k.a * k.a) * C * (E * ((norm d m).natAbs : Int)) - 4 * (m.a * m.a) * E * (C * ((norm d k).natAbs : Int)) = (k.a * k.a * ((norm d m).natAbs : Int) - m.a * m.a * ((norm d k).natAbs : Int)) * (4 * (C * E)) := by grind
    rw [e2] at h2
    exact h2
  rw [gK (Int.mul_pos (by decide) (Int.mul_pos ck cm))] at key
  rcases hs with ⟨a, b⟩ | ⟨a, b⟩
  · refine .inl ⟨a, b, ?_⟩
    rw [Int.natAbs_of_nonneg (Int.le_of_lt a), Int.natAbs_of_nonneg (Int.le_of_lt b)] at key
    have e : k.a * k.a * norm d m - m.a * m.a * norm d k = (m.a * m.a * (k.b * k.b) - m.b * m.b * (k.a * k.a)) * d := by unfold norm; grind
    rw [e, gK d0] at key
    omega
  · refine .inr ⟨a, b, ?_⟩
    have ea : ((norm d k).natAbs : Int) = -norm d k := by omega
    have eb : ((norm d m).natAbs : Int) = -norm d m := by omega
    rw [ea, eb] at key
    have e : k.a * k.a * -norm d m - m.a * m.a * -norm d k = (m.b * m.b * (k.a * k.a) - m.a * m.a * (k.b * k.b)) * d := by unfold norm; grind
    rw [e, gK d0] at key
    omega
theorem Ky {a b : Bool} (h : a = true ↔ b = true) : a = b := by cases a <;> cases b <;> simp_all
end
open PySem PySem.Spec PyProof.Rows NM
section
variable {d : Int} {k s m u v : N3}
theorem xR (hd : aB d) (ok : Ok k) (om : Ok m) (nk : norm d k ≠ 0) (nm : norm d m ≠ 0) (h : Lay d k m) : ¬ gtL d m k := fun z => by
  have d0 : 0 < d := by have := hd.1; omega
  have ak := qE hd ok nk
  have am := qE hd om nm
  have ck := (fP hd nk ok).c
  have cm := (fP hd nm om).c
  unfold gtL at z
  have pk : (0 : Int) < ((norm d k).natAbs : Int) := by omega
  have pm : (0 : Int) < ((norm d m).natAbs : Int) := by omega
  generalize ((bG d m).a.natAbs : Int) = A at *
  generalize ((bG d k).a.natAbs : Int) = B at *
  generalize (bG d k).c = C at *
  generalize (bG d m).c = E at *
  have key : 0 < (m.a * m.a * ((norm d k).natAbs : Int) - k.a * k.a * ((norm d m).natAbs : Int)) * (4 * (C * E)) := by
    have h2 : 0 < (A * C - B * E) * (((norm d k).natAbs : Int) * ((norm d m).natAbs : Int)) := Int.mul_pos (by omega) (Int.mul_pos (by omega) (by omega))
    have e : (A * C - B * E) * (((norm d k).natAbs : Int) * ((norm d m).natAbs : Int)) = (A * ((norm d m).natAbs : Int)) * (C * ((norm d k).natAbs : Int)) - (B * ((norm d k).natAbs : Int)) * (E * ((norm d m).natAbs : Int)) := by grind
    rw [e, ak, am] at h2
    have e2 : 4 * (m.a * m.a) * E * (C * ((norm d k).natAbs : Int)) - 4 * (k.a * k.a) * C * (E * ((norm d m).natAbs : Int)) = (m.a * m.a * ((norm d k).natAbs : Int) - k.a * k.a * ((norm d m).natAbs : Int)) * (4 * (C * E)) := by grind
    rw [e2] at h2
    exact h2
  have key2 := y0 key (Int.mul_pos (by decide) (Int.mul_pos ck cm))
  rcases h with ⟨a, b, c⟩ | ⟨a, b, c⟩
  · rw [Int.natAbs_of_nonneg (Int.le_of_lt a), Int.natAbs_of_nonneg (Int.le_of_lt b)] at key2
    have e : m.a * m.a * norm d k - k.a * k.a * norm d m = (m.b * m.b * (k.a * k.a) - m.a * m.a * (k.b * k.b)) * d := by unfold norm; grind
    rw [e] at key2
    have := y0 key2 d0
    omega
  · have ea : ((norm d k).natAbs : Int) = -norm d k := by omega
    have eb : ((norm d m).natAbs : Int) = -norm d m := by omega
    rw [ea, eb] at key2
    have e : m.a * m.a * -norm d k - k.a * k.a * -norm d m = (m.a * m.a * (k.b * k.b) - m.b * m.b * (k.a * k.a)) * d := by unfold norm; grind
    rw [e] at key2
    have := y0 key2 d0
    omega
theorem Fb (hd : aB d) (ok : Ok k) (os : Ok s) (hk : sg d k.a k.b = 1) (hs : sg d s.a s.b = 1) : de d k s = (decide (aT d s = aT d k) && (if 0 < aT d k then !decide (dif d (bG d s) (bG d k) = 1) else !decide (dif d (bG d k) (bG d s) = 1))) := by
  have nk := aZ hd ok hk
  have ns := aZ hd os hs
  refine Ky ?_
  rw [oj hd ok os hk hs, Bool.and_eq_true, decide_eq_true_eq]
  rcases gp hd ok hk with ⟨a, b⟩ | ⟨a, b⟩ <;> rcases gp hd os hs with ⟨a', b'⟩ | ⟨a', b'⟩
  · rw [a, a', if_pos (by decide), Bool.not_eq_true', decide_eq_false_iff_not]
    have g : dif d (bG d s) (bG d k) = 1 ↔ gtL d s k := JY hd ok os b b'
    rw [g]
    exact ⟨fun h => ⟨rfl, xR hd ok os nk ns h⟩, fun h => xH hd ok os (.inl ⟨b, b'⟩) h.2⟩
  · rw [a, a']
    refine ⟨fun h => ?_, fun h => absurd h.1 (by decide)⟩
    rcases h with ⟨_, z, _⟩ | ⟨z, _, _⟩ <;> omega
  · rw [a, a']
    refine ⟨fun h => ?_, fun h => absurd h.1 (by decide)⟩
    rcases h with ⟨z, _, _⟩ | ⟨_, z, _⟩ <;> omega
  · rw [a, a', if_neg (by decide), Bool.not_eq_true', decide_eq_false_iff_not]
    have g : dif d (bG d k) (bG d s) = 1 ↔ gtL d s k := Ki hd ok os b b'
    rw [g]
    exact ⟨fun h => ⟨rfl, xR hd ok os nk ns h⟩, fun h => xH hd ok os (.inr ⟨b, b'⟩) h.2⟩
theorem AG {n : Nat} (hd : aB d) (ok : Ok k) (nk : norm d k ≠ 0) (bk : Bd n k) : Bd (2 * n + 6) (bG d k) := by
  have s5 := kv hd.1 hd.2.1
  refine (ll hd ok nk).bd (fP hd nk ok) ?_ sz0 (oA s5 bk)
  have := (Sz.mul (n := 4) (i := 4) (Sz.of (by decide)) (bk.a.mul bk.a))
  exact this.mono (by omega)
theorem KI (ok : Ok k) (nk : norm d k ≠ 0) (hl : ¬ (times d k k).b = 0) : ff d k k = one ∧ eW d k k = aE ∧ ff d k (au d k) = aE ∧ eW d k (au d k) = one := by
  have h' : k.a * k.b ≠ 0 := fun z => hl ((cN ok).mpr z)
  have oc := ax nk
  have o1 := tP (d := d) ok ok nk
  have o2 := tY (d := d) ok ok nk
  have o3 := tP (d := d) ok oc nk
  have o4 := tY (d := d) ok oc nk
  rw [pC hl] at o1 o3 ⊢
  rw [pB hl] at o2 o4 ⊢
  rw [pC hl, pB hl]
  refine ⟨?_, ?_, ?_, ?_⟩
  · refine Rep.eq o1 gJ (qx ok ok nk (ai ok) (ai ok) h') (ai gJ) ?_ ?_
    · show k.c * (k.a * k.b + k.b * k.a) * 1 = 1 * _; grind
    · show 0 * 1 = 0 * _; grind
  · refine Rep.eq o2 cE (pK ok ok nk (ai ok) (ai ok) h') (ai cE) ?_ ?_
    · show _ * (k.a * k.b - k.b * k.a) * 1 = 0 * _; grind
    · show 0 * 1 = 0 * _; grind
  · refine Rep.eq o3 cE (qx ok oc nk (ai ok) (oJ nk) h') (ai cE) ?_ ?_
    · show k.c * (k.c * k.a * k.b + -k.c * k.b * k.a) * 1 = 0 * _; grind
    · show 0 * 1 = 0 * _; grind
  · refine Rep.eq o4 gJ (pK ok oc nk (ai ok) (oJ nk) h') (ai gJ) ?_ ?_
    · show norm d k * (k.c * k.a * k.b - -k.c * k.b * k.a) * 1 = 1 * (2 * (norm d k * k.c * (k.a * k.b))); grind
    · show 0 * 1 = 0 * _; grind
def oZ (d : Int) (u v k : N3) : N3 := plus (times d u k) (times d v (au d k))
theorem Kc (ok : Ok k) (nk : norm d k ≠ 0) (hl : ¬ (times d k k).b = 0) (ou : Ok u) (ov : Ok v) (ub : u.b = 0) (vb : v.b = 0) : ff d k (oZ d u v k) = u ∧ eW d k (oZ d u v k) = v := by
  have oc := ax nk
  obtain ⟨a, b, c, e⟩ := KI ok nk hl
  unfold oZ
  rw [qi ou ok, qi ov oc, Gu ok (ah ok ou) (ah oc ov) nk, EL ok (ah ok ou) (ah oc ov) nk, BZ ok ok ou nk ub, BZ ok oc ov nk vb, BQ ok ok ou nk ub, BQ ok oc ov nk vb, a, b, c, e, GF ou, uY ov, uY ou, GF ov, Hn ou, Iq ov]
  exact ⟨rfl, rfl⟩
theorem Ap (hd : aB d) (ok : Ok k) (hk : sg d k.a k.b = 1) : de d k k = true ∧ de d k (au d k) = true := by
  have nk := aZ hd ok hk
  exact ⟨(oj hd ok ok hk hk).mpr (AH nk), (oj hd ok (ax nk) hk (eZ hd ok hk)).mpr ((DF (rB ok nk)).mpr (AH nk))⟩
theorem xF (ok : Ok k) (os : Ok s) (ou : Ok u) (nk : norm d k ≠ 0) (h : de d k s = true) (hu : bN d u = true) : de d k (times d s u) = true := by
  unfold de at *
  rw [Bool.and_eq_true] at *
  rw [BZ ok os ou nk (jo hu), BQ ok os ou nk (jo hu)]
  exact ⟨tw (tP ok os nk) ou h.1 hu, tw (tY ok os nk) ou h.2 hu⟩
theorem HE (hd : aB d) (ok : Ok k) (hk : sg d k.a k.b = 1) (ou : Ok u) (ov : Ok v) (hu : bN d u = true) (hv : bN d v = true) : de d k (oZ d u v k) = true := by
  have nk := aZ hd ok hk
  have oc := ax nk
  obtain ⟨a, b⟩ := Ap hd ok hk
  unfold oZ
  rw [qi ou ok, qi ov oc]
  exact GK ok (ah ok ou) (ah oc ov) nk (xF ok ok ou nk a hu) (xF ok oc ov nk b hv)
theorem xV (ok : Ok k) (nk : norm d k ≠ 0) : norm d (times d k k) ≠ 0 ∧ au d (times d k k) = times d (au d k) (au d k) := by
  have o2 := ah (d := d) ok ok
  have oc := ax nk
  have r := Rep.times (d := d) ok ok (ai ok) (ai ok)
  have n2 : norm d (times d k k) ≠ 0 := fun z => by
    have h := r.norm (d := d)
    rw [z, Int.zero_mul] at h
    have e : (k.a * k.a + d * k.b * k.b) * (k.a * k.a + d * k.b * k.b) - d * (k.a * k.b + k.b * k.a) * (k.a * k.b + k.b * k.a) = norm d k * norm d k := by unfold norm; grind
    rw [e] at h
    exact Int.mul_ne_zero (Int.mul_ne_zero nk nk) (Int.mul_ne_zero o2.cn o2.cn) h.symm
  refine ⟨n2, ?_⟩
  have e := r.au o2 n2
  have f := Rep.times (d := d) oc oc (oJ nk) (oJ nk)
  refine Rep.eq (ax n2) (ah oc oc) e f ?_ ?_
  · have e1 : (k.a * k.a + d * k.b * k.b) * (k.a * k.a + d * k.b * k.b) - d * (k.a * k.b + k.b * k.a) * (k.a * k.b + k.b * k.a) = norm d k * norm d k := by unfold norm; grind
    rw [e1]
    grind
  · have e1 : (k.a * k.a + d * k.b * k.b) * (k.a * k.a + d * k.b * k.b) - d * (k.a * k.b + k.b * k.a) * (k.a * k.b + k.b * k.a) = norm d k * norm d k := by unfold norm; grind
    rw [e1]
    grind
theorem J1 (ok : Ok k) (nk : norm d k ≠ 0) (hl : (times d k k).b = 0) (ou : Ok u) (ov : Ok v) : ff d k (oZ d u v k) = plus u (times d v (au d (times d k k))) ∧ eW d k (oZ d u v k) = aE := by
  have oc := ax nk
  rw [mI hl, mw hl]
  refine ⟨?_, rfl⟩
  unfold shA oZ
  rw [MG oc (ah ou ok) (ah ov oc), ya ou ok oc, fh ok nk, EH ou, ya ov oc oc, (xV ok nk).2]
theorem FI (hd : aB d) (ok : Ok k) (hk : sg d k.a k.b = 1) (ou : Ok u) (ov : Ok v) (hu : u = aE ∨ sg d u.a u.b = 1) (hv : v = aE ∨ sg d v.a v.b = 1) (hn : ¬ (u = aE ∧ v = aE)) : sg d (oZ d u v k).a (oZ d u v k).b = 1 := by
  have nk := aZ hd ok hk
  have oc := ax nk
  have hc := eZ hd ok hk
  unfold oZ
  rcases hu with rfl | hu
  · rw [uY ok, Iq (ah ov oc)]
    rcases hv with rfl | hv
    · exact absurd ⟨rfl, rfl⟩ hn
    · rw [bT hd ov oc, hv, hc]; rfl
  · have h1 : sg d (times d u k).a (times d u k).b = 1 := by rw [bT hd ou ok, hu, hk]; rfl
    rcases hv with rfl | hv
    · rw [uY oc, Hn (ah ou ok)]; exact h1
    · exact vA hd (ah ou ok) (ah ov oc) h1 (by rw [bT hd ov oc, hv, hc]; rfl)
end
open PySem PySem.Spec PyProof.Rows NM
section
variable {d : Int} {k s k2 : N3} {w : Int}
theorem EA (hd : aB d) (ok : Ok k) (bk : Bd 140 k) (hk : sg d k.a k.b = 1) (os : Ok s) (bs : Bd 700 s) (hs : sg d s.a s.b = 1) (hm : de d k s = false) : ∃ p q r t : N3, Av d k s = .tuple [dN one, W4 p q r t] ∧ OkW 1800 10 p q r t ∧ ∀ ks : List N3, (∀ x ∈ ks, Ok x ∧ sg d x.a x.b = 1 ∧ Lay d k x) → vq d ks s one p q r t = true := by
  have s5 := kv hd.1 hd.2.1
  have hl : ¬ Lay d k s := fun z => by rw [(oj hd ok os hk hs).mpr z] at hm; cases hm
  have both : ∀ {p q r t : N3}, (∀ x, Ok x → sg d x.a x.b = 1 → Lay d k x → fk d p q r t x = true) → sg d (weigh d p q r t one (times d s one)).a (weigh d p q r t one (times d s one)).b < 0 → ∀ ks : List N3, (∀ x ∈ ks, Ok x ∧ sg d x.a x.b = 1 ∧ Lay d k x) → vq d ks s one p q r t = true := fun {p q r t} h1 h2 ks hks => by
    unfold vq
    rw [decide_eq_true h2, Bool.and_true, List.all_eq_true]
    intro x hx
    obtain ⟨ox, sx, lx⟩ := hks x hx
    have nx := aZ hd ox sx
    rw [h1 x ox sx lx, h1 _ (ax nx) (eZ hd ox sx) ((DF (rB ox nx)).mpr lx)]
    rfl
  have wl : ∀ x, Ok x → sg d x.a x.b = 1 → Lay d k x → aT d x = aT d k := fun x ox sx lx => by
    rcases lx with ⟨a, b, _⟩ | ⟨a, b, _⟩
    · rw [jC hd ox sx b, jC hd ok hk a]
    · rw [jR hd ox sx b, jR hd ok hk a]
  have hpm : aT d k = 1 ∨ aT d k = -1 := by rcases gp hd ok hk with ⟨a, _⟩ | ⟨a, _⟩ <;> omega
  have bl : ∀ {t : Int}, t.natAbs ≤ 1 → Bd 10 ⟨t, 0, 1⟩ := fun {t} h => ⟨Sz.of (by show t.natAbs < 1024; omega), Sz.of (by show (0 : Int).natAbs < 1024; decide), Sz.of (by show (1 : Int).natAbs < 1024; decide)⟩
  have b0 : Bd 10 aE := ⟨Sz.of (by decide), Sz.of (by decide), Sz.of (by decide)⟩
  by_cases hw : aT d s = aT d k
  · have hne := CJ hd ok hk os hs hm hw
    have B : iS d k s (aT d k) := ⟨hd, ok, hk, os, hs, hne⟩
    have tpm := B.ht
    refine ⟨bP d k s (aT d k), ⟨aT d k * aJ d s (aT d k), 0, 1⟩, ⟨-aJ d s (aT d k), 0, 1⟩, bLast d s (aT d k), ?_, ?_, ?_⟩
    · unfold Av
      rw [if_pos hw]
      rfl
    · refine ⟨B.op, cC _, cC _, B.ol, ?_, bl ?_, bl ?_, (qZ s5 os bs B.nm tpm).mono (by decide)⟩
      · have hN := oA s5 bk
        have st : ∀ {j : Nat} {i : Int}, Sz j i → Sz j (aJ d s (aT d k) * i) := fun h => h.le (by rw [Int.natAbs_mul]; rcases tpm with t | t <;> rw [t] <;> simp)
        rcases gp hd ok hk with ⟨a, b⟩ | ⟨a, b⟩
        · exact ((GH B (by rw [a]; decide)).bd B.op (n := 1000) ((st (((s5.mul bk.b).mul bk.b).mul bs.b)).neg.mono (by decide)) ((st ((bk.b.mul bk.b).mul bs.a)).mono (by decide)) ((hN.mul bs.b).mono (by decide))).mono (by decide)
        · exact ((Gk B (by rw [a]; decide)).bd B.op (n := 1000) ((st ((bk.a.mul bk.a).mul bs.a)).mono (by decide)) ((st ((bk.a.mul bk.a).mul bs.b)).neg.mono (by decide)) ((hN.mul bs.a).mono (by decide))).mono (by decide)
      · rcases hpm with a | a <;> rcases tpm with t | t <;> rw [a] <;> rw [a] at t <;> rw [t] <;> decide
      · rcases tpm with t | t <;> rw [t] <;> decide
    · refine both (fun x ox sx lx => DQ B hw ox sx lx) ?_
      rcases gp hd ok hk with ⟨a, b⟩ | ⟨a, b⟩
      · have ns : 0 < norm d s := by
          rcases gp hd os hs with ⟨a', b'⟩ | ⟨a', b'⟩
          · exact b'
          · rw [a', a] at hw; exact absurd hw (by decide)
        rw [a] at B ⊢
        exact BP B b (Int.not_le.mp fun z => hl (.inl ⟨b, ns, z⟩))
      · have ns : norm d s < 0 := by
          rcases gp hd os hs with ⟨a', b'⟩ | ⟨a', b'⟩
          · rw [a', a] at hw; exact absurd hw (by decide)
          · exact b'
        rw [a] at B ⊢
        exact CA B b (Int.not_le.mp fun z => hl (.inr ⟨b, ns, z⟩))
  · refine ⟨aE, aE, aE, ⟨aT d k, 0, 1⟩, ?_, ?_, both (fun x ox sx lx => Ce hd ox sx (wl x ox sx lx)) (B4 hd os hs hpm hw)⟩
    · unfold Av
      rw [if_neg hw]
      rfl
    · exact ⟨fS, fS, fS, cC _, b0.mono (by decide), b0, b0, (bl (by rcases hpm with a | a <;> rw [a] <;> decide)).mono (by decide)⟩
end
open PySem PySem.Spec PyProof.Rows NM
theorem Jf {a b : Str} {neg : Bool} {μ : Mu} {Q : DK} (ha : SeqAt.shaped (.str a) = true) (hb : SeqAt.shaped (.str b) = true) : di neg (.v (.str a)) (.v (.str b)) μ Q = Q (.v (.bool (neg ^^ decide (a = b)))) μ := by
  rw [x5]
  have e : PyData.eqv (.str a) (.str b) = decide (a = b) := by simp [PyData.eqv]; rfl
  rw [e]
  exact propext ⟨fun h => h.2.2, fun h => ⟨ha, hb, h⟩⟩
def sQ : DSp := fun ds μ Q => ∃ (d : Int) (k : N3), ds = [.v (.int d), .v (dN k)] ∧ Q (.v (.bool (decide (k.a = 0) || decide (k.b = 0)))) μ
theorem BF {μ : Mu} {Q : DK} {ds : List D} (h : sQ ds μ Q) : ds.length = 2 := by obtain ⟨_, _, rfl, _⟩ := h; rfl
def yG (d : Int) (k s : N3) : List PyData := if de d k s = true then [dN (ff d k s), dN (eW d k s)] else [Av d k s]
structure MS (d : Int) (k s : N3) : Prop where
  hd : aB d
  ok : Ok k
  bk : Bd 140 k
  hk : sg d k.a k.b = 1
  os : Ok s
  bs : Bd 480 s
  hs : sg d s.a s.b = 1
def qU : DSp := fun ds μ Q => ∃ (d : Int) (k s : N3), ds = [.v (.int d), .v (dN k), .v (dN s), .v (.tuple (yG d k s))] ∧ MS d k s ∧ Q (.v (.bool (de d k s))) μ
theorem zF {μ : Mu} {Q : DK} {ds : List D} (h : qU ds μ Q) : ds.length = 4 := by obtain ⟨_, _, _, rfl, _⟩ := h; rfl
def oO : DSp := fun ds μ Q => ∃ (d : Int) (k s : N3), ds = [.v (.int d), .v (.tuple [dN k]), .v (dN s)] ∧ MS d k s ∧ Q (.v (.bool (de d k s))) μ
theorem wG {μ : Mu} {Q : DK} {ds : List D} (h : oO ds μ Q) : ds.length = 3 := by obtain ⟨_, _, _, rfl, _⟩ := h; rfl
def uI : DSp := fun ds μ Q => ∃ (d : Int) (k s p q r t : N3), ds = [.v (.int d), .v (.tuple [dN k]), .v (dN s), .v (.tuple [dN one, W4 p q r t])] ∧ MS d k s ∧ OkW 1800 10 p q r t ∧ Q (.v (.bool (vq d [k] s one p q r t))) μ
theorem Bk {μ : Mu} {Q : DK} {ds : List D} (h : uI ds μ Q) : ds.length = 4 := by obtain ⟨_, _, _, _, _, _, _, rfl, _⟩ := h; rfl
def n9 : DSp := fun ds μ Q => ∃ (d : Int) (k s p q r t : N3), ds = [.v (.int d), .v (.tuple [dN k]), .v (dN s), .v (.tuple [.str "bar", .tuple [dN one, W4 p q r t]])] ∧ MS d k s ∧ OkW 1800 10 p q r t ∧ Q (.v (.bool (vq d [k] s one p q r t))) μ
theorem xi {μ : Mu} {Q : DK} {ds : List D} (h : n9 ds μ Q) : ds.length = 4 := by obtain ⟨_, _, _, _, _, _, _, rfl, _⟩ := h; rfl
def fR : DSp := fun ds μ Q => ∃ (d : Int) (k s : N3), ds = [.v (.int d), .v (dN k), .v (dN s)] ∧ MS d k s ∧ Q (.v (.bool true)) μ
theorem yu {μ : Mu} {Q : DK} {ds : List D} (h : fR ds μ Q) : ds.length = 3 := by obtain ⟨_, _, _, rfl, _⟩ := h; rfl
def uM : DSp := fun ds μ Q => ∃ (a : Addr) (d : Int), ds = [.m a, .v (.int d)] ∧ aB d ∧ Bag μ a ∧ ∀ x μ', Ok x → Bd 140 x → sg d x.a x.b = 1 → rG a μ μ' → Q (.v (dN x)) μ'
theorem AM {μ : Mu} {Q : DK} {ds : List D} (h : uM ds μ Q) : ds.length = 2 := by obtain ⟨_, _, rfl, _⟩ := h; rfl
def qG : DSp := fun ds μ Q => ∃ (a : Addr) (d : Int) (k : N3), ds = [.m a, .v (.int d), .v (dN k)] ∧ aB d ∧ Ok k ∧ Bd 140 k ∧ sg d k.a k.b = 1 ∧ Bag μ a ∧ ∀ p L μ', μ p = none → rG a μ μ' → μ' p = some L → L.length ≤ 100 → (∀ x ∈ L, ∃ t, x = dN t ∧ Ok t ∧ Bd 480 t ∧ sg d t.a t.b = 1) → Q (.m p) μ'
theorem zi {μ : Mu} {Q : DK} {ds : List D} (h : qG ds μ Q) : ds.length = 3 := by obtain ⟨_, _, _, rfl, _⟩ := h; rfl
theorem Jj : SeqAt.shaped (.str "mixture") = true := by decide +kernel
theorem Jk : SeqAt.shaped (.str "bar") = true := by decide +kernel
theorem zo {u v : N3} : SeqAt.shaped (.tuple [.str "mixture", dN u, dN v]) = true := by with_unfolding_all rfl
def ja : DTS :=
  (bQ (HP (dOp (di false) (dOp aH (af 1) (dC (.int 0))) (dC (.int 0))) (dOp (di false) (dOp aH (af 1) (dC (.int 1))) (dC (.int 0)))))
def gm : DTS :=
  (aV (dA (jh (en (dB (vK "tuple" (af 3)))) (jh (dB (dOp (di true) (dCB gS (ab (af 3) aq)) (dC (.int 2)))) (en (dB (dCB pL (ab (nX [none] (nO (af 3)) (az 0) mM (ar lK (ab (af 0) aq))) aq)))))) (bQ (dC (.bool false))) cf)
  (aV (dA (en (dB (dCB pL (ab (nX [none] (nO (af 3)) (az 0) mM (qs (dOp (di false) (dOp aH (af 0) (dC (.int 1))) (dC (.int 0))) (dOp rGe (dOp aH (af 0) (dC (.int 0))) (dC (.int 0))))) aq)))) (bQ (dC (.bool false))) cf)
  (aV (bK (mP (ab (ar aU (ab (af 0) (ab (dOp aH (af 3) (dC (.int 0))) (ab (af 1) aq)))) (ab (ar aU (ab (af 0) (ab (dOp aH (af 3) (dC (.int 1))) (ab (ar bV (ab (af 0) (ab (af 1) aq))) aq)))) aq))) (az 4))
  (bQ (dOp (di false) (ar dw (ab (dOp aH (af 4) (dC (.int 0))) (ab (dOp aH (af 4) (dC (.int 1))) aq))) (af 2))))))
def eA : DTS :=
  (aV (bK (af 1) (x8 4 (gf (az 3) (gf (az 4) (gf (az 5) (gf (az 6) x6))))))
  (aV (xh 7 8 (ab (ar aU (ab (af 0) (ab (af 3) (ab (af 2) aq)))) (ab (ar aU (ab (af 0) (ab (af 6) (ab (ar d7 (ab (af 2) aq)) aq)))) aq)))
  (aV (bK (ar dw (ab (ar aU (ab (af 0) (ab (af 4) (ab (ar d7 (ab (af 2) aq)) aq)))) (ab (ar aU (ab (af 0) (ab (af 5) (ab (af 2) aq)))) aq))) (az 9))
  (aV (dA (jh (dB (dOp rLt (ar el (ab (af 0) (ab (af 7) aq))) (dC (.int 0)))) (dB (dOp rLt (ar el (ab (af 0) (ab (af 8) aq))) (dC (.int 0))))) (bQ (dC (.bool false))) cf)
  (aV (bK (ar aU (ab (af 0) (ab (dm (ab (dC (.int 4)) (ab (dC (.int 0)) (ab (dC (.int 1)) aq)))) (ab (ar aU (ab (af 0) (ab (af 7) (ab (af 8) aq)))) aq)))) (az 10))
  (bQ (ve (ar oI (ab (af 0) (ab (af 10) (ab (ar aU (ab (af 0) (ab (af 9) (ab (af 9) aq)))) aq)))))))))))
def kD : DTS :=
  (aV (bK (af 1) (x8 4 (gf (az 4) (gf (az 5) (gf (az 6) (gf (az 7) x6))))))
  (aV (bK (ar dw (ab (ar aU (ab (af 0) (ab (af 4) (ab (af 3) aq)))) (ab (ar aU (ab (af 0) (ab (af 5) (ab (ar d7 (ab (af 3) aq)) aq)))) aq))) (az 8))
  (aV (bK (ar dw (ab (ar aU (ab (af 0) (ab (af 6) (ab (af 3) aq)))) (ab (ar aU (ab (af 0) (ab (af 7) (ab (ar d7 (ab (af 3) aq)) aq)))) aq))) (az 9))
  (bQ (ar dw (ab (ar aU (ab (af 0) (ab (af 2) (ab (af 8) aq)))) (ab (ar aU (ab (af 0) (ab (ar d7 (ab (af 2) aq)) (ab (af 9) aq)))) aq)))))))
def i4 : DTS :=
  (aV (bK (ni [none, some 0] (nO (af 1)) (az 0) mM (ar el (ab (af 1) (ab (ar d7 (ab (af 0) aq)) aq)))) (az 3))
  (aV (dA (dB (dOp rGt (yp (af 3)) (dC (.int 1)))) (bQ (dC (.bool true))) cf)
  (aV (dA (dB (dOp (di true) (ar el (ab (af 0) (ab (ar d7 (ab (af 2) aq)) aq))) (dOp aH (af 3) (dC (.int 0))))) (bQ (dC (.bool false))) cf)
  (aV (bK (ar lr (ab (af 0) (ab (af 2) aq))) (az 4))
  (aV (dA (dB (dOp rGt (dOp aH (af 3) (dC (.int 0))) (dC (.int 0)))) (bQ (dCB Bi (ab (nX [none, some 0, some 4] (nO (af 1)) (az 0) mM (ve (ar oI (ab (af 1) (ab (ar lr (ab (af 1) (ab (af 0) aq))) (ab (af 2) aq)))))) aq))) cf)
  (bQ (dCB Bi (ab (nX [none, some 0, some 4] (nO (af 1)) (az 0) mM (ve (ar oI (ab (af 1) (ab (af 2) (ab (ar lr (ab (af 1) (ab (af 0) aq))) aq)))))) aq))))))))
section
variable {μ : Mu} {Qd : DK} {ds : List D}
theorem tJ (h : sQ ds μ Qd) : ja { nx := fun _ μ' => Qd (.v .none) μ', rt := Qd } (aX ["_law_d", "_law_kind"] ds) μ := by
  obtain ⟨d, k, rfl, q⟩ := h
  unfold ja
  walk_at "rn"
  cases e : decide (k.a = 0) with
  | true => rw [e] at q; exact q
  | false => rw [e] at q; exact q
def HA (x : PyData) : Option PyData := some (.bool (isNum x))
def Dr : PyData → Option PyData
  | .tuple [.int a, .int b, .int c] => some (.bool (decide (b = 0) && decide (0 ≤ a)))
  | _ => none
theorem qf (h : qU ds μ Qd) : gm { nx := fun _ μ' => Qd (.v .none) μ', rt := Qd } (aX ["_law_d", "_law_kind", "_law_shape_here", "_law_thing", "_law_both"] ds) μ := by
  obtain ⟨d, k, s, rfl, ⟨hd, ok, bk, hk, os, bs, hs⟩, q⟩ := h
  have s5 := kv hd.1 hd.2.1
  have nk := aZ hd ok hk
  have M := Gg (s := s) hd ok bk hk os bs
  have bu := M.bu.mono (m := 2720) (by decide)
  have bv := M.bv.mono (m := 2720) (by decide)
  unfold gm yG
  cases hm : de d k s with
  | false =>
    rw [if_neg (by decide)]
    rw [hm] at q
    walk_at "rn"
    have e0 : isT "tuple" (.tuple [Av d k s]) = true := rfl
    rw [e0]
    simp only [Bool.not_true, Bool.false_eq_true, ↓reduceIte]
    exact q
  | true =>
    rw [if_pos rfl]
    rw [hm] at q
    have hm' := hm
    unfold de at hm'
    rw [Bool.and_eq_true] at hm'
    have ub := jo hm'.1
    have vb := jo hm'.2
    have ua := oY hm'.1
    have va := oY hm'.2
    walk_at "rn"
    have e0 : isT "tuple" (.tuple [dN (ff d k s), dN (eW d k s)]) = true := rfl
    rw [e0]
    simp only [Bool.not_true, Bool.false_eq_true, ↓reduceIte]
    refine ⟨(by show 2 ≤ 1000; decide), HA, fun x hx μ2 h2 => ⟨trivial, ?_⟩, ?_⟩
    · simp only [List.mem_cons, List.not_mem_nil, or_false] at hx
      rcases hx with rfl | rfl <;> exact ⟨_, rfl, DH, rfl, rfl⟩
    · have e1 : List.filterMap HA [dN (ff d k s), dN (eW d k s)] = [.bool true, .bool true] := by
        show [PyData.bool (isNum (dN (ff d k s))), PyData.bool (isNum (dN (eW d k s)))] = _
        rw [iQ M.ou, iQ M.ov]
      rw [e1]
      show (if (!true) = true then _ else _)
      simp only [Bool.not_true, Bool.false_eq_true, ↓reduceIte]
      refine ⟨(by show 2 ≤ 1000; decide), Dr, fun x hx μ2 h2 => ⟨trivial, ?_⟩, ?_⟩
      · simp only [List.mem_cons, List.not_mem_nil, or_false] at hx
        rcases hx with rfl | rfl
        · rw [show Dr (dN (ff d k s)) = some (.bool (decide ((ff d k s).b = 0) && decide (0 ≤ (ff d k s).a))) from rfl, ub, decide_eq_true ua]
          walk_at "rn"
          rw [ub, decide_eq_true ua]
          exact ⟨trivial, rfl⟩
        · rw [show Dr (dN (eW d k s)) = some (.bool (decide ((eW d k s).b = 0) && decide (0 ≤ (eW d k s).a))) from rfl, vb, decide_eq_true va]
          walk_at "rn"
          rw [vb, decide_eq_true va]
          exact ⟨trivial, rfl⟩
      · have e2 : List.filterMap Dr [dN (ff d k s), dN (eW d k s)] = [.bool true, .bool true] := by
          show [PyData.bool (decide ((ff d k s).b = 0) && decide (0 ≤ (ff d k s).a)), PyData.bool (decide ((eW d k s).b = 0) && decide (0 ≤ (eW d k s).a))] = _
          rw [ub, vb, decide_eq_true ua, decide_eq_true va]
          rfl
        rw [e2]
        show (if (!true) = true then _ else _)
        simp only [Bool.not_true, Bool.false_eq_true, ↓reduceIte]
        have oc := ax nk
        have bc := cg s5 nk bk
        refine ⟨d, ff d k s, k, rfl, s5, M.ou, ok, bu.mono (by decide), bk.mono (by decide), d, k, rfl, s5, nk, bk.mono (by decide), d, eW d k s, _, rfl, s5, M.ov, oc, bv.mono (by decide), bc.mono (by decide), ?_⟩
        walk_at "rn"
        refine ⟨_, _, rfl, ah M.ou ok, ah M.ov oc, (aO s5 M.ou ok bu bk).mono (by decide), (aO s5 M.ov oc bv bc).mono (by decide), ?_⟩
        rw [Il ok os nk]
        dsimp only
        rw [Gz]
        simp only [decide_true, Bool.false_xor]
        exact q
theorem mf (h : uB ds μ Qd) : eA { nx := fun _ μ' => Qd (.v .none) μ', rt := Qd } (aX ["_law_d", "_law_weights", "_law_kind", "_law_p", "_law_q", "_law_s", "_law_t", "_law_first", "_law_last", "_law_middle", "_law_four"] ds) μ := by
  obtain ⟨d, p, q', s, t, k, n, n', m, rfl, hd, o4, ok, bk, l1, l2, q⟩ := h
  obtain ⟨op, oq, os, ot, bp, bq, bs, bt⟩ := o4
  have s5 := kv hd.1 hd.2.1
  have omk := aA ok
  have bmk := d4 bk
  have o1 := ah (d := d) op ok
  have o2 := ah (d := d) ot omk
  have b1 := aO s5 op ok bp bk
  have b2' := aO s5 ot omk bt bmk
  have oq' := ah (d := d) oq omk
  have os' := ah (d := d) os ok
  have bq' := aO s5 oq omk bq bmk
  have bs' := aO s5 os ok bs bk
  have om := aW oq' os'
  have bm := eC oq' os' bq' bs'
  have o12 := ah (d := d) o1 o2
  have b12 := aO s5 o1 o2 b1 b2'
  have o4' : Ok ⟨4, 0, 1⟩ := uw 4
  have b4' : Bd 4 ⟨4, 0, 1⟩ := ⟨Sz.of (by decide), Sz.of (by decide), Sz.of (by decide)⟩
  unfold fk at q
  unfold eA
  simp only [W4]
  walk_at "rn"
  refine ⟨trivial, d, p, k, rfl, s5, op, ok, bp.mono (by omega), bk.mono (by omega), k, rfl, d, t, bC k, rfl, s5, ot, omk, bt.mono (by omega), bmk.mono (by omega), ?_⟩
  walk_at "rn"
  refine ⟨k, rfl, d, q', bC k, rfl, s5, oq, omk, bq.mono (by omega), bmk.mono (by omega), d, s, k, rfl, s5, os, ok, bs.mono (by omega), bk.mono (by omega), _, _, rfl, oq', os', bq'.mono (by omega), bs'.mono (by omega), ?_⟩
  walk_at "rn"
  refine ⟨d, _, rfl, hd, b1.mono (by omega), ?_⟩
  walk_at "rn"
  by_cases c1 : sg d (times d p k).a (times d p k).b < 0
  · rw [if_pos (by simpa using c1)]
    rw [if_pos c1] at q
    exact q
  · rw [if_neg (by simpa using c1)]
    rw [if_neg c1] at q
    refine ⟨d, _, rfl, hd, b2'.mono (by omega), ?_⟩
    walk_at "rn"
    by_cases c2 : sg d (times d t (bC k)).a (times d t (bC k)).b < 0
    · rw [if_pos (by simpa using c2)]
      rw [if_pos c2] at q
      exact q
    · rw [if_neg (by simpa using c2)]
      rw [if_neg c2] at q
      refine ⟨d, _, _, rfl, s5, o1, o2, b1.mono (by omega), b2'.mono (by omega), d, _, _, rfl, s5, o4', o12, b4'.mono (by decide), b12.mono (by omega), ?_⟩
      walk_at "rn"
      refine ⟨d, _, _, rfl, s5, om, om, bm.mono (by omega), bm.mono (by omega), ?_⟩
      walk_at "rn"
      refine ⟨d, _, _, rfl, hd, ah o4' o12, ah om om, (aO s5 o4' o12 b4' b12).mono (by omega), (aO s5 om om bm bm).mono (by omega), ?_⟩
      walk_at "rn"
      exact q
theorem wJ (h : oQ ds μ Qd) : kD { nx := fun _ μ' => Qd (.v .none) μ', rt := Qd } (aX ["_law_d", "_law_weights", "_law_width", "_law_height", "_law_p", "_law_q", "_law_s", "_law_t", "_law_first", "_law_second"] ds) μ := by
  obtain ⟨d, p, q', s, t, w, h, n, n', m, l, rfl, hd, o4, ow, bw, oh, bh, lt, q⟩ := h
  obtain ⟨op, oq, os, ot, bp, bq, bs, bt⟩ := o4
  have s5 := kv hd.1 hd.2.1
  have omh := aA oh
  have bmh := d4 bh
  have tp := aO s5 op oh bp bh
  have tq := aO s5 oq omh bq bmh
  have ts := aO s5 os oh bs bh
  have tt := aO s5 ot omh bt bmh
  have o1 := ah (d := d) op oh
  have o2 := ah (d := d) oq omh
  have o3 := ah (d := d) os oh
  have o4 := ah (d := d) ot omh
  have b12 := eC o1 o2 tp tq
  have b34 := eC o3 o4 ts tt
  have o12 := aW o1 o2
  have o34 := aW o3 o4
  have ow1 := ah (d := d) ow o12
  have ow2 := ah (d := d) (aA ow) o34
  have bw1 := aO s5 ow o12 bw b12
  have bw2 := aO s5 (aA ow) o34 (d4 bw) b34
  unfold kD
  simp only [W4]
  walk_at "rn"
  refine ⟨trivial, d, p, h, rfl, s5, op, oh, bp.mono (by omega), bh.mono (by omega), ?_⟩
  walk_at "rn"
  refine ⟨h, rfl, d, q', bC h, rfl, s5, oq, omh, bq.mono (by omega), bmh.mono (by omega), _, _, rfl, o1, o2, tp.mono (by omega), tq.mono (by omega), ?_⟩
  walk_at "rn"
  refine ⟨d, s, h, rfl, s5, os, oh, bs.mono (by omega), bh.mono (by omega), ?_⟩
  walk_at "rn"
  refine ⟨h, rfl, d, t, bC h, rfl, s5, ot, omh, bt.mono (by omega), bmh.mono (by omega), _, _, rfl, o3, o4, ts.mono (by omega), tt.mono (by omega), ?_⟩
  walk_at "rn"
  refine ⟨d, w, _, rfl, s5, ow, o12, bw.mono (by omega), b12.mono (by omega), ?_⟩
  walk_at "rn"
  exact ⟨w, rfl, d, bC w, _, rfl, s5, aA ow, o34, (d4 bw).mono (by omega), b34.mono (by omega), _, _, rfl, ow1, ow2, bw1.mono (by omega), bw2.mono (by omega), q⟩
theorem tO (h : oO ds μ Qd) : i4 { nx := fun _ μ' => Qd (.v .none) μ', rt := Qd } (aX ["_law_d", "_law_kinds_here", "_law_shape_here", "_law_signs", "_law_lean"] ds) μ := by
  obtain ⟨d, k, s, rfl, ⟨hd, ok, bk, hk, os, bs, hs⟩, q⟩ := h
  have nk := aZ hd ok hk
  have ns := aZ hd os hs
  have hpm : aT d k = 1 ∨ aT d k = -1 := by rcases gp hd ok hk with ⟨a, _⟩ | ⟨a, _⟩ <;> omega
  unfold i4
  walk_at "rn"
  refine ⟨by show 1 ≤ 1000; decide, fun p hp => ⟨fun i acc μ' => acc = ([PyData.int (aT d k)].take i) ∧ μ' = aM μ p acc, ⟨rfl, rfl⟩, ?_, ?_⟩⟩
  · rintro i x acc μ' hx hpa ⟨e0, e1⟩
    have hi : i = 0 ∧ x = dN k := by
      cases i with
      | zero => exact ⟨rfl, (Option.some.inj hx).symm⟩
      | succ j => simp at hx
    obtain ⟨rfl, rfl⟩ := hi
    refine ⟨⟨trivial, trivial⟩, k, rfl, d, bC k, rfl, hd, (d4 bk).mono (by decide), hpa, ?_⟩
    refine ⟨by rw [e0]; rfl, by rw [e1, oT]⟩
  rintro acc μ' ⟨e0, e1⟩ hpa
  have ed : gF μ' p = μ := by rw [e1]; exact xA hp
  rw [ed]
  have ea : acc = [PyData.int (aT d k)] := e0
  subst ea
  rw [GB]
  show [aT d k].length ≤ 1000 ∧ _
  refine ⟨by show 1 ≤ 1000; decide, ?_⟩
  have dn : sY [aT d k] = 1 := by rcases hpm with z | z <;> rw [z] <;> decide +kernel
  rw [dn]
  walk_at "rn"
  refine ⟨s, rfl, d, bC s, rfl, hd, (d4 bs).mono (by decide), ?_⟩
  walk_at "rn"
  have ml := Fb hd ok os hk hs
  have bk5 := AG hd ok nk bk
  have bs5 := AG hd os ns bs
  have olk := fP hd nk ok
  have ols := fP hd ns os
  have ew : sg d (bC s).a (bC s).b = aT d s := rfl
  rw [ew]
  by_cases hw : aT d s = aT d k
  · rw [if_neg (by simp [hw])]
    rw [decide_eq_true hw, Bool.true_and] at ml
    refine ⟨d, s, rfl, hd, os, ns, bs.mono (by decide), ?_⟩
    by_cases hp0 : 0 < aT d k
    · rw [if_pos hp0] at ml
      rw [if_pos (by simpa using hp0)]
      refine ⟨by decide, fun _ => some (.bool (!decide (dif d (bG d s) (bG d k) = 1))), fun x hx μ2 h2 => ⟨⟨trivial, trivial, trivial⟩, ?_⟩, ?_⟩
      · obtain rfl := List.mem_singleton.mp hx
        exact ⟨d, k, rfl, hd, ok, nk, bk.mono (by decide), d, _, _, rfl, hd, olk, ols, bk5.mono (by decide), bs5.mono (by decide), rfl, rfl⟩
      · rw [ml] at q
        show Qd (.v (.bool ([!decide (dif d (bG d s) (bG d k) = 1)].any id))) μ
        simpa using q
    · rw [if_neg hp0] at ml
      rw [if_neg (by simpa using hp0)]
      refine ⟨by decide, fun _ => some (.bool (!decide (dif d (bG d k) (bG d s) = 1))), fun x hx μ2 h2 => ⟨⟨trivial, trivial, trivial⟩, ?_⟩, ?_⟩
      · obtain rfl := List.mem_singleton.mp hx
        exact ⟨d, k, rfl, hd, ok, nk, bk.mono (by decide), d, _, _, rfl, hd, ols, olk, bs5.mono (by decide), bk5.mono (by decide), rfl, rfl⟩
      · rw [ml] at q
        show Qd (.v (.bool ([!decide (dif d (bG d k) (bG d s) = 1)].any id))) μ
        simpa using q
  · rw [if_pos (by simp [hw])]
    rw [decide_eq_false hw, Bool.false_and] at ml
    rw [ml] at q
    exact q
end
open PySem PySem.Spec PyProof.Rows NM
def jD : DTS :=
  (aV (dA (jh (en (dB (vK "tuple" (af 3)))) (jh (dB (dOp (di true) (dCB gS (ab (af 3) aq)) (dC (.int 2)))) (en (dB (ar lK (ab (dOp aH (af 3) (dC (.int 0))) aq)))))) (bQ (dC (.bool false))) cf)
  (aV (dA (jh (dB (dOp rLe (ar el (ab (af 0) (ab (dOp aH (af 3) (dC (.int 0))) aq))) (dC (.int 0)))) (jh (en (dB (vK "tuple" (dOp aH (af 3) (dC (.int 1)))))) (dB (dOp (di true) (dCB gS (ab (dOp aH (af 3) (dC (.int 1))) aq)) (dC (.int 4)))))) (bQ (dC (.bool false))) cf)
  (aV (dA (en (dB (dCB pL (ab (nX [none] (nO (dOp aH (af 3) (dC (.int 1)))) (az 0) mM (ar lK (ab (af 0) aq))) aq)))) (bQ (dC (.bool false))) cf)
  (aV (vz (nO (af 1)) (az 4) (vz (uZ (mP (ab (af 4) (ab (ar bV (ab (af 0) (ab (af 4) aq))) aq)))) (az 5) (dA (en (dB (ar uB (ab (af 0) (ab (dOp aH (af 3) (dC (.int 1))) (ab (af 5) aq)))))) (bQ (dC (.bool false))) cf)))
  (bQ (dOp rLt (ar el (ab (af 0) (ab (ar oQ (ab (af 0) (ab (dOp aH (af 3) (dC (.int 1))) (ab (dOp aH (af 3) (dC (.int 0))) (ab (ar aU (ab (af 0) (ab (af 2) (ab (dOp aH (af 3) (dC (.int 0))) aq)))) aq))))) aq))) (dC (.int 0))))))))
def fN : DTS :=
  (aV (dA (jh (en (dB (vK "tuple" (af 3)))) (jh (dB (dOp (di true) (dCB gS (ab (af 3) aq)) (dC (.int 2)))) (dB (dOp (di true) (dOp aH (af 3) (dC (.int 0))) (dC (.str "bar")))))) (bQ (dC (.bool false))) cf)
  (bQ (ar uI (ab (af 0) (ab (af 1) (ab (af 2) (ab (dOp aH (af 3) (dC (.int 1))) aq)))))))
def i8 : DTS :=
  (aV (bK (ar d9 (ab (af 0) (ab (af 1) (ab (af 2) aq)))) (az 3))
  (aV (dA (en (dB (ar oO (ab (af 0) (ab (dm (ab (af 1) aq)) (ab (af 2) aq)))))) (bQ (ar n9 (ab (af 0) (ab (dm (ab (af 1) aq)) (ab (af 2) (ab (af 3) aq)))))) cf)
  (aV (dA (jh (en (dB (vK "tuple" (af 3)))) (jh (dB (dOp (di true) (dCB gS (ab (af 3) aq)) (dC (.int 3)))) (dB (dOp (di true) (dOp aH (af 3) (dC (.int 0))) (dC (.str "mixture")))))) (bQ (dC (.bool false))) cf)
  (bQ (qs (ar qU (ab (af 0) (ab (af 1) (ab (af 2) (ab (dSl (af 3) (CH (dC (.int 1))) uo) aq))))) (HP (ve (ar sQ (ab (af 0) (ab (af 1) aq)))) (dOp (di false) (dOp aH (af 3) (dC (.int 2))) (dm (ab (dC (.int 0)) (ab (dC (.int 0)) (ab (dC (.int 1)) aq)))))))))))
section
variable {μ : Mu} {Qd : DK} {ds : List D}
theorem vJ (h : uI ds μ Qd) : jD { nx := fun _ μ' => Qd (.v .none) μ', rt := Qd } (aX ["_law_d", "_law_kinds_here", "_law_shape_here", "_law_thing", "_law_kind", "_law_way"] ds) μ := by
  obtain ⟨d, k, shape, p, q1, s, u, rfl, ⟨hd, ok, bk, hk, osh, bsh, ssh⟩, o4, q⟩ := h
  have s5 := kv hd.1 hd.2.1
  have nk := aZ hd ok hk
  have b1 : Bd 1 one := ⟨Sz.of (by decide), Sz.of (by decide), Sz.of (by decide)⟩
  have ob := o4
  obtain ⟨op, oq, os, ot, _, _, _, _⟩ := ob
  have oc := ax nk
  have bc := cg s5 nk bk
  unfold jD
  walk_at "rn"
  have e : isT "tuple" (.tuple [dN one, W4 p q1 s u]) = true := rfl
  rw [e]
  walk_at "rn"
  refine ⟨_, rfl, DH, ?_⟩
  rw [iQ gJ]
  walk_at "rn"
  refine ⟨d, one, rfl, hd, b1.mono (by decide), ?_⟩
  rw [uO]
  walk_at "rn"
  have e2 : isT "tuple" (W4 p q1 s u) = true := rfl
  rw [e2]
  simp only [W4]
  walk_at "rn"
  refine ⟨by simp, HA, fun x hx μ' hs => ⟨trivial, x, rfl, ?_, rfl, rfl⟩, ?_⟩
  · simp only [List.mem_cons, List.not_mem_nil, or_false] at hx
    rcases hx with rfl | rfl | rfl | rfl <;> exact DH
  have e1 : List.filterMap HA [dN p, dN q1, dN s, dN u] = [.bool true, .bool true, .bool true, .bool true] := by
    show [PyData.bool (isNum (dN p)), PyData.bool (isNum (dN q1)), PyData.bool (isNum (dN s)), PyData.bool (isNum (dN u))] = _
    rw [iQ op, iQ oq, iQ os, iQ ot]
  rw [e1]
  show (if (!true) = true then _ else _)
  simp only [Bool.not_true, Bool.false_eq_true, ↓reduceIte]
  rw [qA]
  walk_at "rn"
  have fin : ∀ c : Bool, (fk d p q1 s u k && fk d p q1 s u (au d k)) = c → vq d [k] shape one p q1 s u = (c && decide (sg d (weigh d p q1 s u one (times d shape one)).a (weigh d p q1 s u one (times d shape one)).b < 0)) := fun c hc => by
    unfold vq
    rw [List.all_cons, List.all_nil, Bool.and_true, hc]
  refine ⟨fun i ρ μ' => ∃ r4 r5, ρ = [some (.v (.int d)), some (.v (.tuple [dN k])), some (.v (dN shape)), some (.v (.tuple [dN one, .tuple [dN p, dN q1, dN s, dN u]])), r4, r5] ∧ μ' = μ ∧ (i = 1 → (fk d p q1 s u k && fk d p q1 s u (au d k)) = true), ⟨_, _, rfl, rfl, fun h => by cases h⟩, ?_, ?_⟩
  · rintro i y ρ μ' hy ⟨r4, r5, rfl, rfl, hi⟩
    have hi0 : i = 0 ∧ y = dN k := by
      cases i with
      | zero => exact ⟨rfl, (Option.some.inj hy).symm⟩
      | succ j => simp at hy
    obtain ⟨rfl, rfl⟩ := hi0
    walk_at "rn"
    rw [qA]
    walk_at "rn"
    refine ⟨d, k, rfl, s5, nk, bk.mono (by decide), ?_⟩
    walk_at "rn"
    refine ⟨fun i ρ μ'' => ∃ r5, ρ = [some (.v (.int d)), some (.v (.tuple [dN k])), some (.v (dN shape)), some (.v (.tuple [dN one, .tuple [dN p, dN q1, dN s, dN u]])), some (.v (dN k)), r5] ∧ μ'' = μ' ∧ (1 ≤ i → fk d p q1 s u k = true) ∧ (2 ≤ i → fk d p q1 s u (au d k) = true), ⟨_, rfl, rfl, fun h => absurd h (by decide), fun h => absurd h (by decide)⟩, ?_, ?_⟩
    · rintro i y ρ μ2 hy ⟨r5, rfl, rfl, g1, g2⟩
      rcases i with _ | _ | i
      · obtain rfl := (Option.some.inj hy).symm
        walk_at "rn"
        refine ⟨d, p, q1, s, u, k, 1800, 10, 140, rfl, hd, o4, ok, bk, by decide, by decide, ?_⟩
        cases n1 : fk d p q1 s u k with
        | false =>
          walk_at "rn"
          rw [fin false (by rw [n1]; rfl)] at q
          exact q
        | true =>
          walk_at "rn"
          exact ⟨_, rfl, trivial, fun _ => trivial, fun h => absurd h (by decide)⟩
      · obtain rfl := (Option.some.inj hy).symm
        walk_at "rn"
        refine ⟨d, p, q1, s, u, _, 1800, 10, 2 * 140 + 6, rfl, hd, o4, oc, bc, by decide, by decide, ?_⟩
        cases n2 : fk d p q1 s u (au d k) with
        | false =>
          walk_at "rn"
          rw [fin false (by rw [n2, Bool.and_false])] at q
          exact q
        | true =>
          walk_at "rn"
          exact ⟨_, rfl, trivial, fun _ => g1 (by omega), fun _ => trivial⟩
      · simp at hy
    · rintro ρ μ2 ⟨r5, rfl, rfl, g1, g2⟩
      refine ⟨_, _, rfl, rfl, fun _ => ?_⟩
      rw [g1 (by decide), g2 (by decide)]
      rfl
  · rintro ρ μ' ⟨r4, r5, rfl, rfl, hi⟩
    rw [fin true (hi rfl), Bool.true_and] at q
    have ot := ah (d := d) osh gJ
    have bt := aO s5 osh gJ bsh b1
    walk_at "rn"
    refine ⟨d, shape, one, rfl, s5, osh, gJ, bsh.mono (by decide), b1.mono (by decide), d, p, q1, s, u, one, _, 1800, 10, 1, 480 + 1 + 6, rfl, hd, o4, gJ, b1, ot, bt, by decide, d, _, rfl, hd, (Fd hd o4 gJ b1 ot bt).mono (by decide), ?_⟩
    walk_at "rn"
    exact q
theorem o9 (h : n9 ds μ Qd) : fN { nx := fun _ μ' => Qd (.v .none) μ', rt := Qd } (aX ["_law_d", "_law_kinds_here", "_law_shape_here", "_law_told"] ds) μ := by
  obtain ⟨d, k, shape, p, q1, s, u, rfl, M, o4, q⟩ := h
  unfold fN
  walk_at "rn"
  have e : isT "tuple" (.tuple [.str "bar", .tuple [dN one, W4 p q1 s u]]) = true := rfl
  rw [e]
  walk_at "rn"
  rw [Jf Jk Jk]
  show (if (true ^^ decide (Str.ofString "bar" = Str.ofString "bar")) = true then _ else _)
  rw [if_neg (by simp)]
  exact ⟨d, k, shape, p, q1, s, u, rfl, M, o4, q⟩
theorem uc (h : fR ds μ Qd) : i8 { nx := fun _ μ' => Qd (.v .none) μ', rt := Qd } (aX ["_law_d", "_law_kind", "_law_shape_here", "_law_told"] ds) μ := by
  obtain ⟨d, k, s, rfl, M, q⟩ := h
  have M' := M
  obtain ⟨hd, ok, bk, hk, os, bs, hs⟩ := M'
  unfold i8
  walk_at "rn"
  refine ⟨d, k, s, rfl, hd, ok, bk.mono (by decide), hk, os, bs.mono (by decide), hs, ?_⟩
  walk_at "rn"
  refine ⟨d, k, s, rfl, M, ?_⟩
  cases hm : de d k s with
  | false =>
    obtain ⟨p, q1, r, t, eb, o4, hb⟩ := EA hd ok bk hk os (bs.mono (by decide)) hs hm
    have em : uS d k s = .tuple [.str "bar", .tuple [dN one, W4 p q1 r t]] := by unfold uS; rw [hm, eb]; rfl
    rw [em]
    walk_at "rn"
    refine ⟨d, k, s, p, q1, r, t, rfl, M, o4, ?_⟩
    rw [hb [k] (fun x hx => by rw [List.mem_singleton.mp hx]; exact ⟨ok, hk, (oj hd ok ok hk hk).mp (Ap hd ok hk).1⟩)]
    exact q
  | true =>
    have em : uS d k s = .tuple [.str "mixture", dN (ff d k s), dN (eW d k s)] := by unfold uS; rw [hm]; rfl
    rw [em]
    have e0 : isT "tuple" (.tuple [.str "mixture", dN (ff d k s), dN (eW d k s)]) = true := rfl
    walk_at "rn"
    rw [e0]
    walk_at "rn"
    rw [Jf Jj Jj]
    show (if (true ^^ decide (Str.ofString "mixture" = Str.ofString "mixture")) = true then _ else _)
    rw [if_neg (by simp)]
    refine ⟨d, k, s, ?_, M, ?_⟩
    · unfold yG; rw [if_pos hm]; rfl
    rw [hm]
    simp only [↓reduceIte]
    refine ⟨d, k, rfl, ?_⟩
    show (if (!(decide (k.a = 0) || decide (k.b = 0))) = true then _ else _)
    by_cases hl : (times d k k).b = 0
    · rw [if_neg (by have := (cN ok).mp hl; rcases Int.mul_eq_zero.mp this with z | z <;> simp [z])]
      have v0 : eW d k s = aE := by unfold eW; rw [if_pos hl]
      rw [v0, show decide (aE = (⟨0, 0, 1⟩ : N3)) = true from rfl]
      exact q
    · rw [if_pos (by have : ¬ (k.a * k.b = 0) := fun z => hl ((cN ok).mpr z); rw [Int.mul_eq_zero] at this; simp at this ⊢; exact this)]
      exact q
end
open PySem PySem.Spec PyProof.Rows NM
def lJ : DTS :=
  (aV (bK (xM aq) (az 2))
  (aV (vz (nS (ab (dC (.int 3)) aq)) (az 3) (aV (bK (dC (.int 0)) (az 4))
  (aV (vz (nS (ab (dC (.int 10)) aq)) (az 5) (bK (kN (cI (af 4) (vC (dC (.int 10)) (dC (.int 4)))) (ar cU (ab (af 0) (ab (vC (dC (.int 10)) (dC (.int 4))) aq)))) (az 4)))
  (tH (Cs (af 2) (af 4))))))
  (aV (bK (ar cP (ab (pd (dOp aH (af 2) (dC (.int 0))) (cI (dC (.int 5)) (vC (dC (.int 10)) (dC (.int 39))))) (ab (pd (dOp aH (af 2) (dC (.int 1))) (cI (dC (.int 5)) (vC (dC (.int 10)) (dC (.int 39))))) (ab (kN (dC (.int 1)) (ug (dOp aH (af 2) (dC (.int 2))) (vC (dC (.int 10)) (dC (.int 39))))) aq)))) (az 6))
  (bQ (dOp aH (mP (ab (dm (ab (dC (.int 1)) (ab (dC (.int 1)) (ab (dC (.int 1)) aq)))) (ab (af 6) (ab (ar oV (ab (af 6) aq)) aq)))) (ar el (ab (af 1) (ab (af 6) aq))))))))
def fL : DTS :=
  (aV (xh 3 4 (ab (ar kg (ab (af 0) aq)) (ab (ar kg (ab (af 0) aq)) aq)))
  (aV (bK (ar bV (ab (af 1) (ab (af 2) aq))) (az 5))
  (aV (bK (xM (ab (ar aU (ab (af 1) (ab (af 3) (ab (af 2) aq)))) (ab (ar aU (ab (af 1) (ab (af 4) (ab (af 5) aq)))) aq))) (az 6))
  (aV (tH (Cs (af 6) (ar dw (ab (dOp aH (af 6) (dC (.int 0))) (ab (dOp aH (af 6) (dC (.int 1))) aq)))))
  (aV (vz (uZ (dSl (af 6) uo (CH (dC (.int 2))))) (az 7) (vz (uZ (mP (ab (dm (ab (dC (.int 0)) (ab (dC (.int 1)) (ab (vC (dC (.int 10)) (dC (.int 50))) aq)))) (ab (dm (ab (dC (.int 0)) (ab (wH (dC (.int 1))) (ab (vC (dC (.int 10)) (dC (.int 50))) aq)))) (ab (dm (ab (dC (.int 1)) (ab (dC (.int 0)) (ab (vC (dC (.int 10)) (dC (.int 50))) aq)))) aq))))) (az 8) (aV (bK (ar dw (ab (af 7) (ab (af 8) aq))) (az 9))
  (dA (dB (dOp rGt (ar el (ab (af 1) (ab (af 9) aq))) (dC (.int 0)))) (tH (Cs (af 6) (af 9))) cf))))
  (bQ (af 6)))))))
section
variable {μ : Mu} {Qd : DK} {ds : List D}
def G6 (a p : Addr) (d : Int) (μ : Mu) (i : Nat) (ρ : Rho) (μ' : Mu) : Prop := ∃ (ns : List Int) (r3 r4 r5 : Option D), ρ = [some (.m a), some (.v (.int d)), some (.m p), r3, r4, r5, none] ∧ Bag μ' a ∧ (∀ b, b ≠ a → ∀ ds, μ b = some ds → μ' b = some ds) ∧ μ' p = some (ns.map .int) ∧ ns.length = i ∧ (∀ n ∈ ns, 0 ≤ n ∧ n < 10 ^ 40)
theorem yP (h : uM ds μ Qd) : lJ { nx := fun _ μ' => Qd (.v .none) μ', rt := Qd } (aX ["_law_bag_here", "_law_d", "_law_parts", "_law_turn", "_law_found", "_law_k", "_law_x"] ds) μ := by
  obtain ⟨a, d, rfl, hd, hb, q⟩ := h
  have s5 := kv hd.1 hd.2.1
  unfold lJ
  walk_at "rn"
  intro p hp
  have hap : a ≠ p := fun z => by obtain ⟨g, m, e, _⟩ := hb; rw [z, hp] at e; cases e
  have sb : Bag (aM μ p []) a := by obtain ⟨g, m, e, z⟩ := hb; exact ⟨g, m, by rw [bU hap]; exact e, z⟩
  rw [qA]
  walk_at "rn"
  have keep : ∀ b, b ≠ a → ∀ ds, μ b = some ds → aM μ p [] b = some ds := fun b hb' ds e => by
    have : b ≠ p := fun z => by rw [z, hp] at e; cases e
    rw [bU this]; exact e
  refine ⟨⟨by decide, by decide⟩, G6 a p d μ, ⟨[], _, _, _, rfl, sb, keep, bA, rfl, fun n hn => by cases hn⟩, ?_, ?_⟩
  · rintro i v ρ μ3 hv ⟨ns, r3, r4, r5, rfl, hb3, kp, hpk, hl, hok⟩
    obtain ⟨rfl, hi⟩ := Af hv
    walk_at "rn"
    rw [qA]
    walk_at "rn"
    refine ⟨⟨by decide, by decide⟩, fun j ρ μ' => ∃ (f : Int) (r5 : Option D), ρ = [some (.m a), some (.v (.int d)), some (.m p), some (.v (.int (0 + (i : Int)))), some (.v (.int f)), r5, none] ∧ Step a μ3 μ' ∧ 0 ≤ f ∧ f < 10 ^ (4 * j), ⟨0, _, rfl, Step.refl hb3, by decide, by decide⟩, ?_, ?_⟩
    · rintro j v ρ μ4 hv ⟨f, r5, rfl, s4, f0, f1⟩
      obtain ⟨rfl, hj⟩ := Af hv
      walk_at "rn"
      have e4 : (10 : Int) ^ Int.toNat 4 = 10000 := by decide
      rw [e4]
      have cp : Ee 10 4 := ⟨by decide, by decide, by decide⟩
      refine ⟨cp, mulR (by decide), cp, a, 10000, rfl, by decide, by decide, s4.1, fun r μ5 r0 r1 s5' => ?_⟩
      walk_at "rn"
      refine ⟨_, _, rfl, s4.trans s5', by omega, ?_⟩
      rw [show 4 * (j + 1) = 4 * j + 4 from by omega, Int.pow_add, show (10 : Int) ^ 4 = 10000 from by decide]
      generalize (10 : Int) ^ (4 * j) = X at f1 ⊢
      omega
    · rintro ρ μ4 ⟨f, r5, rfl, s4, f0, f1⟩
      rw [vU] at f1
      have hp4 : μ4 p = some (ns.map .int) := by rw [s4.2 p (fun z => hap z.symm)]; exact hpk
      walk_at "rn"
      simp only [hp4]
      refine ⟨by simp; omega, ns ++ [f], _, _, _, rfl, ?_, fun b hb' ds e => ?_, ?_, by simp [hl], fun z hz => ?_⟩
      · obtain ⟨g, m, e, z⟩ := s4.1; exact ⟨g, m, by rw [bU hap]; exact e, z⟩
      · have h3 := kp b hb' ds e
        by_cases hbp : b = p
        · subst hbp
          rw [hp] at e; cases e
        · rw [bU hbp, s4.2 b hb']; exact h3
      · rw [bA]; simp
      · rcases List.mem_append.mp hz with z' | z'
        · exact hok z z'
        · rw [List.mem_singleton.mp z']; exact ⟨f0, f1⟩
  · rintro ρ μ3 ⟨ns, r3, r4, r5, rfl, hb3, kp, hpk, hl, hok⟩
    rw [vU] at hl
    obtain ⟨n0, n1, n2, rfl⟩ : ∃ n0 n1 n2, ns = [n0, n1, n2] := by
      match ns, hl with
      | [n0, n1, n2], _ => exact ⟨n0, n1, n2, rfl⟩
    have h0 := hok n0 (by simp)
    have h1 := hok n1 (by simp)
    have h2 := hok n2 (by simp)
    walk_at "rn"
    simp only [hpk]
    walk_at "rn"
    have e39 : (10 : Int) ^ Int.toNat 39 = 1000000000000000000000000000000000000000 := by decide +kernel
    have e40 : (10 : Int) ^ 40 = 10000000000000000000000000000000000000000 := by decide +kernel
    have e140 : (2 : Nat) ^ 140 = 1393796574908163946345982392040522594123776 := by decide +kernel
    rw [e40] at h0 h1 h2
    have cp : Ee 10 39 := ⟨by decide, by decide, by decide⟩
    have mo : MulOk 5 ((10 : Int) ^ Int.toNat 39) := mulL (by decide)
    refine ⟨cp, mo, ?_⟩
    simp only [hpk]
    walk_at "rn"
    refine ⟨cp, mo, ?_⟩
    simp only [hpk]
    walk_at "rn"
    obtain ⟨m0, m1⟩ := j1 n2 (show (0 : Int) < 10 ^ Int.toNat 39 by rw [e39]; decide)
    generalize em : n2.fmod (10 ^ Int.toNat 39) = m at m0 m1
    rw [e39] at m1
    refine ⟨cp, by rw [e39]; decide, ?_⟩
    rw [e39]
    have cn : 1 + m ≠ 0 := by omega
    have zc : Sz 140 (1 + m) := Sz.of (by rw [e140]; omega)
    have za : ∀ {n : Int}, 0 ≤ n ∧ n < 10000000000000000000000000000000000000000 → Sz 140 (n - 5 * 1000000000000000000000000000000000000000) := fun h => Sz.of (by rw [e140]; omega)
    refine ⟨_, _, _, rfl, cn, zc.mono (by decide), ?_⟩
    have ox := ip (n0 - 5 * 1000000000000000000000000000000000000000) (n1 - 5 * 1000000000000000000000000000000000000000) cn
    have bx : Bd 140 (low (n0 - 5 * 1000000000000000000000000000000000000000) (n1 - 5 * 1000000000000000000000000000000000000000) (1 + m)) := jN cn (za h0) (za h1) zc
    generalize low (n0 - 5 * 1000000000000000000000000000000000000000) (n1 - 5 * 1000000000000000000000000000000000000000) (1 + m) = x at ox bx
    walk_at "rn"
    refine ⟨x, rfl, ?_⟩
    dsimp only
    rw [show dr [D.v (dN (minus x))] = some [dN (minus x)] from rfl]
    simp only [Option.map_some]
    refine ⟨d, x, rfl, hd, bx.mono (by decide), ?_⟩
    have b1 : Bd 1 ⟨1, 1, 1⟩ := ⟨Sz.of (by decide), Sz.of (by decide), Sz.of (by decide)⟩
    have sw : rG a μ μ3 := ⟨hb3, kp⟩
    rcases hZ d x.a x.b with z | z | z
    · rw [z]
      exact q ⟨1, 1, 1⟩ μ3 ⟨by decide, by decide⟩ (b1.mono (by decide)) rfl sw
    · rw [z]
      exact q x μ3 ox bx z sw
    · rw [z]
      exact q (minus x) μ3 (kP ox) (rn bx) (by show sg d (-x.a) (-x.b) = 1; rw [yh hd, z]; rfl) sw
theorem sU {a b c : Int} (hc : 0 < c) (h : Int.gcd a b = 1) : Ok ⟨a, b, c⟩ := ⟨hc, by unfold g3; show Int.gcd ((Int.gcd a b : Nat) : Int) c = 1; rw [h]; exact Int.one_gcd⟩
structure WSh (a p : Addr) (d : Int) (μ : Mu) (n : Nat) (μ' : Mu) : Prop where
  bag : Bag μ' a
  kp : ∀ b, b ≠ a → ∀ ds, μ b = some ds → μ' b = some ds
  ls : ∃ L, μ' p = some L ∧ L.length ≤ n ∧ (∀ x ∈ L, ∃ t, x = dN t ∧ Ok t ∧ Bd 480 t ∧ sg d t.a t.b = 1)
theorem WSh.add {a p : Addr} {d : Int} {n : Nat} {μ' : Mu} {t : N3} {L : List PyData} (hap : a ≠ p) (hp : μ p = none) (h : WSh a p d μ n μ') (hL : μ' p = some L) (ot : Ok t) (bt : Bd 480 t) (st : sg d t.a t.b = 1) : WSh a p d μ (n + 1) (aM μ' p (L ++ [dN t])) := by
  obtain ⟨L', e, l, hh⟩ := h.ls
  rw [hL] at e
  cases e
  refine ⟨?_, fun b hb ds e => ?_, _, bA, by simp; omega, fun x hx => ?_⟩
  · obtain ⟨g, m, e, z⟩ := h.bag; exact ⟨g, m, by rw [bU hap]; exact e, z⟩
  · have : b ≠ p := fun z => by rw [z, hp] at e; cases e
    rw [bU this]; exact h.kp b hb ds e
  · rcases List.mem_append.mp hx with z | z
    · exact hh x z
    · rw [List.mem_singleton.mp z]; exact ⟨t, rfl, ot, bt, st⟩
theorem WSh.mono {a p : Addr} {d : Int} {n m : Nat} {μ' : Mu} (h : WSh a p d μ n μ') (l : n ≤ m) : WSh a p d μ m μ' := by
  obtain ⟨x, y, L, e, g, z⟩ := h
  exact ⟨x, y, L, e, by omega, z⟩
theorem pj (h : qG ds μ Qd) : fL { nx := fun _ μ' => Qd (.v .none) μ', rt := Qd } (aX ["_law_bag_here", "_law_d", "_law_kind", "_law_u", "_law_v", "_law_turned_kind", "_law_found", "_law_one", "_law_beside", "_law_shape_here"] ds) μ := by
  obtain ⟨a, d, k, rfl, hd, ok, bk, hk, hb, q⟩ := h
  have s5 := kv hd.1 hd.2.1
  have nk := aZ hd ok hk
  have oc := ax nk
  have bc := cg s5 nk bk
  unfold fL
  walk_at "rn"
  refine ⟨a, rfl, hb, fun u μ1 fu ua s1 => ?_⟩
  walk_at "rn"
  refine ⟨a, rfl, s1.1, fun v μ2 fv va s2 => ?_⟩
  walk_at "rn"
  have bu : ∀ {x : N3}, Fr0 x → Bd 14 x := fun {x} h => by
    have := h.ok.c
    have := h.a0
    have := h.a1
    have := h.c1
    exact ⟨Sz.of (by show x.a.natAbs < 16384; omega), by rw [h.b]; exact Sz.of (by decide), Sz.of (by show x.c.natAbs < 16384; omega)⟩
  have ou := ah (d := d) fu.ok ok
  have ov := ah (d := d) fv.ok oc
  have b1 := aO s5 fu.ok ok (bu fu) bk
  have b2 := aO s5 fv.ok oc (bu fv) bc
  refine ⟨d, k, rfl, s5, nk, bk.mono (by decide), d, u, k, rfl, s5, fu.ok, ok, (bu fu).mono (by decide), bk.mono (by decide), d, v, _, rfl, s5, fv.ok, oc, (bu fv).mono (by decide), bc.mono (by decide), ?_⟩
  dsimp only
  rw [show dr [D.v (dN (times d u k)), D.v (dN (times d v (au d k)))] = some [dN (times d u k), dN (times d v (au d k))] from rfl]
  dsimp only
  intro p hp
  have hap : a ≠ p := fun z => by obtain ⟨g, m, e, _⟩ := s2.1; rw [z, hp] at e; cases e
  have hp0 : μ p = none := by rw [← (s1.trans s2).2 p (fun z => hap z.symm)]; exact hp
  simp only [bA]
  walk_at "rn"
  have sgf : ∀ {x : N3}, Fr0 x → 0 < x.a → sg d x.a x.b = 1 := fun {x} h h0 => by
    rw [h.b, kL, if_neg (by omega), if_pos h0]
  have g1 : sg d (times d u k).a (times d u k).b = 1 := by rw [uP hd fu.ok ok, sgf fu ua, hk]; rfl
  have g2 : sg d (times d v (au d k)).a (times d v (au d k)).b = 1 := by rw [uP hd fv.ok oc, sgf fv va, eZ hd ok hk]; rfl
  have o12 := aW ou ov
  have b12 := eC ou ov b1 b2
  have w0 : WSh a p d μ 2 (aM μ2 p [dN (times d u k), dN (times d v (au d k))]) := by
    have s12 := s1.trans s2
    refine ⟨?_, fun b hb' ds e => ?_, _, bA, by simp, fun x hx => ?_⟩
    · obtain ⟨g, m, e, z⟩ := s2.1; exact ⟨g, m, by rw [bU hap]; exact e, z⟩
    · have : b ≠ p := fun z => by rw [z, hp0] at e; cases e
      rw [bU this, s12.2 b hb']; exact e
    · simp only [List.mem_cons, List.not_mem_nil, or_false] at hx
      rcases hx with rfl | rfl
      · exact ⟨_, rfl, ou, b1.mono (by decide), g1⟩
      · exact ⟨_, rfl, ov, b2.mono (by decide), g2⟩
  refine ⟨_, _, rfl, ou, ov, b1.mono (by decide), b2.mono (by decide), ?_⟩
  simp only [bA]
  have g12 : sg d (plus (times d u k) (times d v (au d k))).a (plus (times d u k) (times d v (au d k))).b = 1 := FI hd ok hk fu.ok fv.ok (.inr (sgf fu ua)) (.inr (sgf fv va)) (fun h => by rw [h.1] at ua; exact absurd ua (by decide))
  have w1 := w0.add hap hp0 bA o12 (b12.mono (by decide)) g12
  refine ⟨by simp, ?_⟩
  generalize eμ : aM (aM μ2 p [dN (times d u k), dN (times d v (au d k))]) p ([dN (times d u k), dN (times d v (au d k))] ++ [dN (plus (times d u k) (times d v (au d k)))]) = μ4 at w1
  have hL4 : μ4 p = some [dN (times d u k), dN (times d v (au d k)), dN (plus (times d u k) (times d v (au d k)))] := by rw [← eμ]; exact bA
  rw [qA]
  walk_at "rn"
  unfold D3
  dsimp only
  rw [hL4]
  dsimp only
  rw [show vd [dN (times d u k), dN (times d v (au d k)), dN (plus (times d u k) (times d v (au d k)))] none (some 2) = [dN (times d u k), dN (times d v (au d k))] from rfl]
  refine ⟨fun i ρ μ' => ∃ r7 r8 r9, ρ = [some (D.m a), some (D.v (PyData.int d)), some (D.v (dN k)), some (D.v (dN u)), some (D.v (dN v)), some (D.v (dN (au d k))), some (D.m p), r7, r8, r9] ∧ WSh a p d μ (3 + 3 * i) μ', ⟨_, _, _, rfl, w1⟩, ?_, ?_⟩
  · rintro i y ρ μ5 hy ⟨r7, r8, r9, rfl, w5⟩
    have hy0 := hy
    obtain ⟨t, rfl, ot, bt, gt⟩ : ∃ t, y = dN t ∧ Ok t ∧ Bd 306 t ∧ sg d t.a t.b = 1 := by
      rcases i with _ | _ | i
      · exact ⟨_, (Option.some.inj hy).symm, ou, b1.mono (by decide), g1⟩
      · exact ⟨_, (Option.some.inj hy).symm, ov, b2.mono (by decide), g2⟩
      · simp at hy
    have e50 : (10 : Int) ^ Int.toNat 50 = 100000000000000000000000000000000000000000000000000 := by decide +kernel
    have e167 : (2 : Nat) ^ 167 = 187072209578355573530071658587684226515959365500928 := by decide +kernel
    have cp : Ee 10 50 := ⟨by decide, by decide, by decide⟩
    rw [qA]
    walk_at "rn"
    refine ⟨cp, cp, cp, ?_⟩
    rw [e50]
    refine ⟨fun j ρ μ' => ∃ r8 r9, ρ = [some (D.m a), some (D.v (PyData.int d)), some (D.v (dN k)), some (D.v (dN u)), some (D.v (dN v)), some (D.v (dN (au d k))), some (D.m p), some (D.v (dN t)), r8, r9] ∧ WSh a p d μ (3 + 3 * i + j) μ', ⟨_, _, rfl, w5⟩, ?_, ?_⟩
    · rintro j y ρ μ6 hy ⟨r8, r9, rfl, w6⟩
      have zB : Sz 167 100000000000000000000000000000000000000000000000000 := Sz.of (by rw [e167]; decide)
      have z1 : Sz 167 1 := Sz.of (by rw [e167]; decide)
      have z0 : Sz 167 0 := Sz.of (by rw [e167]; decide)
      have zm : Sz 167 (-1) := Sz.of (by rw [e167]; decide)
      obtain ⟨b, rfl, ob, bb⟩ : ∃ b, y = dN b ∧ Ok b ∧ Bd 167 b := by
        rcases j with _ | _ | _ | j
        · exact ⟨_, (Option.some.inj hy).symm, sU (by decide) (by decide), z0, z1, zB⟩
        · exact ⟨_, (Option.some.inj hy).symm, sU (by decide) (by decide), z0, zm, zB⟩
        · exact ⟨_, (Option.some.inj hy).symm, sU (by decide) (by decide), z1, z0, zB⟩
        · simp at hy
      have otb := aW ot ob
      have btb := eC ot ob bt bb
      walk_at "rn"
      refine ⟨_, _, rfl, ot, ob, bt.mono (by decide), bb.mono (by decide), ?_⟩
      walk_at "rn"
      refine ⟨d, _, rfl, hd, btb.mono (by decide), ?_⟩
      walk_at "rn"
      by_cases hg : 0 < sg d (plus t b).a (plus t b).b
      · rw [if_pos (by simpa using hg)]
        obtain ⟨L, hL, lL, aL⟩ := w6.ls
        simp only [hL]
        have g : sg d (plus t b).a (plus t b).b = 1 := by rcases hZ d (plus t b).a (plus t b).b with z | z | z <;> omega
        have j3 : j < 3 := by
          have := (List.getElem?_eq_some_iff.mp hy).1
          exact this
        have i3 : i < 2 := by
          have := (List.getElem?_eq_some_iff.mp hy0).1
          exact this
        exact ⟨by omega, _, _, rfl, w6.add hap hp0 hL otb (btb.mono (by decide)) g⟩
      · rw [if_neg (by simpa using hg)]
        exact ⟨_, _, rfl, w6.mono (by omega)⟩
    · rintro ρ μ6 ⟨r8, r9, rfl, w6⟩
      exact ⟨_, _, _, rfl, w6.mono (by omega)⟩
  · rintro ρ μ5 ⟨r7, r8, r9, rfl, w5⟩
    obtain ⟨L, hL, lL, aL⟩ := w5.ls
    walk_at "rn"
    exact q p L μ5 hp0 ⟨w5.bag, w5.kp⟩ hL (Nat.le_trans lL (by show 9 ≤ 100; decide)) aL
end
open PySem PySem.Spec PyProof.Rows NM
def Cd : DTS :=
  (aV (vz (nS (ab (dCB (BW max) (ab (dC (.int 2)) (ab (dCB (BW min) (ab (dC (.int 5)) (ab (dCB gS (ab (af 0) aq)) aq))) aq))) aq)) (az 1) (aV (bK (ar CD (ab (af 0) (ab (af 1) aq))) (az 2))
  (aV (bK (ar uv (ab (af 2) aq)) (az 3))
  (aV (bK (ar rE (ab (af 2) (ab (af 3) aq))) (az 4))
  (aV (vz (nS (ab (dC (.int 3)) aq)) (az 5) (aV (bK (dOp aH (af 4) (ar cU (ab (af 2) (ab (dCB gS (ab (af 4) aq)) aq)))) (az 6))
  (aV (bK (ni [none, some 2] (nS (ab (dC (.int 2)) aq)) (az 0) mM (dOp aH (dm (ab (ar kg (ab (af 1) aq)) (ab (dm (ab (dC (.int 0)) (ab (dC (.int 0)) (ab (dC (.int 1)) aq)))) aq))) (ui (ar cU (ab (af 1) (ab (dC (.int 4)) aq))) (dC (.int 3))))) (FU 2 (gf (az 7) (gf (az 8) x6))))
  (aV (dA (xy (dB (dOp (di false) (af 7) (dm (ab (dC (.int 0)) (ab (dC (.int 0)) (ab (dC (.int 1)) aq)))))) (dB (dOp (di false) (af 8) (af 7)))) (bK (dm (ab (dC (.int 1)) (ab (dC (.int 0)) (ab (dC (.int 1)) aq)))) (az 7)) cf)
  (aV (bK (ar aU (ab (af 3) (ab (af 6) (ab (af 6) aq)))) (az 9))
  (aV (bK (ar dw (ab (ar aU (ab (af 3) (ab (af 7) (ab (af 6) aq)))) (ab (ar aU (ab (af 3) (ab (af 8) (ab (ar bV (ab (af 3) (ab (af 6) aq))) aq)))) aq))) (az 10))
  (aV (bK (dm (ab (dC (.str "mixture")) (ab (af 7) (ab (af 8) aq)))) (az 11))
  (aV (dA (dB (ar sQ (ab (af 3) (ab (af 6) aq)))) (bK (dm (ab (dC (.str "mixture")) (ab (ar dw (ab (af 7) (ab (ar aU (ab (af 3) (ab (af 8) (ab (ar bV (ab (af 3) (ab (af 9) aq))) aq)))) aq))) (ab (dm (ab (dC (.int 0)) (ab (dC (.int 0)) (ab (dC (.int 1)) aq)))) aq)))) (az 11)) cf)
  (aV (bK (ar lz (ab (af 2) (ab (af 3) (ab (af 4) aq)))) (az 12))
  (aV (dA (jh (dB (dOp (di true) (ar d9 (ab (af 3) (ab (af 6) (ab (af 10) aq)))) (af 11))) (en (dB (ar fR (ab (af 3) (ab (af 6) (ab (af 10) aq))))))) (bQ (dC (.bool false))) cf)
  (dA (jh (en (dB (ar fR (ab (af 3) (ab (af 6) (ab (af 12) aq)))))) (dB (dOp (di true) (ar d9 (ab (af 3) (ab (af 6) (ab (af 10) aq)))) (af 11)))) (bQ (dC (.bool false))) cf)))))))))))
  (aV (bK (ar uM (ab (af 2) (ab (af 3) aq))) (az 13))
  (dA (en (dB (dCB pL (ab (nX [none, some 3, some 13] (diM (ar qG (ab (af 2) (ab (af 3) (ab (af 13) aq))))) (az 0) mM (ar fR (ab (af 1) (ab (af 2) (ab (af 0) aq))))) aq)))) (bQ (dC (.bool false))) cf)))))))
  (bQ (dOp (di false) (ar d9 (ab (dC (.int 2)) (ab (dm (ab (dC (.int 1)) (ab (dC (.int 0)) (ab (dC (.int 1)) aq)))) (ab (dm (ab (dC (.int 3)) (ab (dC (.int 0)) (ab (dC (.int 4)) aq)))) aq)))) (dm (ab (dC (.str "mixture")) (ab (dm (ab (dC (.int 3)) (ab (dC (.int 0)) (ab (dC (.int 4)) aq)))) (ab (dm (ab (dC (.int 0)) (ab (dC (.int 0)) (ab (dC (.int 1)) aq)))) aq)))))))
section
variable {μ : Mu} {Qd : DK} {ds : List D}
def AF : DTS :=
  (aV (bK (ar aU (ab (af 3) (ab (af 6) (ab (af 6) aq)))) (az 9))
  (aV (bK (ar dw (ab (ar aU (ab (af 3) (ab (af 7) (ab (af 6) aq)))) (ab (ar aU (ab (af 3) (ab (af 8) (ab (ar bV (ab (af 3) (ab (af 6) aq))) aq)))) aq))) (az 10))
  (aV (bK (dm (ab (dC (.str "mixture")) (ab (af 7) (ab (af 8) aq)))) (az 11))
  (aV (dA (dB (ar sQ (ab (af 3) (ab (af 6) aq)))) (bK (dm (ab (dC (.str "mixture")) (ab (ar dw (ab (af 7) (ab (ar aU (ab (af 3) (ab (af 8) (ab (ar bV (ab (af 3) (ab (af 9) aq))) aq)))) aq))) (ab (dm (ab (dC (.int 0)) (ab (dC (.int 0)) (ab (dC (.int 1)) aq)))) aq)))) (az 11)) cf)
  (aV (bK (ar lz (ab (af 2) (ab (af 3) (ab (af 4) aq)))) (az 12))
  (aV (dA (jh (dB (dOp (di true) (ar d9 (ab (af 3) (ab (af 6) (ab (af 10) aq)))) (af 11))) (en (dB (ar fR (ab (af 3) (ab (af 6) (ab (af 10) aq))))))) (bQ (dC (.bool false))) cf)
  (dA (jh (en (dB (ar fR (ab (af 3) (ab (af 6) (ab (af 12) aq)))))) (dB (dOp (di true) (ar d9 (ab (af 3) (ab (af 6) (ab (af 10) aq)))) (af 11)))) (bQ (dC (.bool false))) cf)))))))
theorem HC {a b c f g h k l m n p} {d : D} {o : Rho} {Q : DK} : af 11 (a :: b :: c :: f :: g :: h :: k :: l :: m :: n :: p :: some d :: o) μ Q = Q d μ := propext Iff.rfl
theorem IB {a b c f g h k l m n p r} {d : D} {o : Rho} {Q : DK} : af 12 (a :: b :: c :: f :: g :: h :: k :: l :: m :: n :: p :: r :: some d :: o) μ Q = Q d μ := propext Iff.rfl
theorem Ii {a b c f g h k l m n p r s} {d : D} {o : Rho} {Q : DK} : af 13 (a :: b :: c :: f :: g :: h :: k :: l :: m :: n :: p :: r :: s :: some d :: o) μ Q = Q d μ := propext Iff.rfl
theorem all_true (L : List PyData) : cS (L.filterMap (fun _ => some (PyData.bool true))) = some (List.replicate L.length true) := by
  induction L with
  | nil => rfl
  | cons x L ih =>
    rw [List.filterMap_cons]
    show cS (PyData.bool true :: _) = _
    unfold cS
    rw [ih]
    rfl
theorem GU {a p : Addr} {μ : Mu} {xs : List PyData} (h : a ≠ p) (hb : Bag μ a) : Bag (aM μ p xs) a := by
  obtain ⟨g, m, e, z⟩ := hb
  exact ⟨g, m, by rw [bU h]; exact e, z⟩
theorem MZ {ks : List N3} (h : ks.length = (2 : Int).toNat) : ∃ a b, ks = [a, b] := by
  match ks, h with
  | [a, b], _ => exact ⟨a, b, rfl⟩
theorem BA : Fr0 ⟨0, 0, 1⟩ := ⟨cE, rfl, by decide, by decide, by decide⟩
theorem He : Fr0 ⟨1, 0, 1⟩ := ⟨gJ, rfl, by decide, by decide, by decide⟩
theorem Gn {d : Int} {u : N3} (h : Fr0 u) : u = aE ∨ sg d u.a u.b = 1 := by
  have := h.a0
  rcases Int.lt_or_eq_of_le this with z | z
  · exact .inr (by rw [h.b, kL, if_neg (by omega), if_pos z])
  · left
    have hg := h.ok.g
    rw [h.b, ← z] at hg
    have hc := h.ok.c
    have : u.c = 1 := by unfold g3 at hg; simp [Int.gcd] at hg; omega
    exact N3.ext' z.symm h.b this
theorem Fg {x : N3} (h : Fr0 x) : Bd 14 x := by
  have := h.ok.c
  have := h.a0
  have := h.a1
  have := h.c1
  exact ⟨Sz.of (by show x.a.natAbs < 16384; omega), by rw [h.b]; exact Sz.of (by decide), Sz.of (by show x.c.natAbs < 16384; omega)⟩
def zx (d : Int) (k u v : N3) : PyData := if k.a = 0 ∨ k.b = 0 then .tuple [.str "mixture", dN (plus u (times d v (au d (times d k k)))), dN ⟨0, 0, 1⟩] else .tuple [.str "mixture", dN u, dN v]
theorem Lh {d : Int} {k u v : N3} (hd : aB d) (ok : Ok k) (hk : sg d k.a k.b = 1) (fu : Fr0 u) (fv : Fr0 v) : uS d k (oZ d u v k) = zx d k u v := by
  have nk := aZ hd ok hk
  have e : (times d k k).b = 0 ↔ (k.a = 0 ∨ k.b = 0) := by rw [cN ok, Int.mul_eq_zero]
  unfold uS zx
  rw [if_pos (HE hd ok hk fu.ok fv.ok (Bb fu.b fu.a0) (Bb fv.b fv.a0))]
  by_cases hl : (times d k k).b = 0
  · obtain ⟨h1, h2⟩ := J1 ok nk hl fu.ok fv.ok
    rw [if_pos (e.mp hl), h1, h2]
    rfl
  · obtain ⟨h1, h2⟩ := Kc ok nk hl fu.ok fv.ok fu.b fv.b
    rw [if_neg (fun z => hl (e.mpr z)), h1, h2]
theorem Kg {d : Int} {k u v : N3} : SeqAt.shaped (zx d k u v) = true := by
  unfold zx
  split <;> exact zo
theorem IE {d : Int} {k u v : N3} {Q : DK} : di true (.v (zx d k u v)) (.v (zx d k u v)) μ Q = Q (.v (.bool false)) μ := by
  have hs := Kg (d := d) (k := k) (u := u) (v := v)
  rw [x5, SeqAt.eqv_refl _ (SeqAt.canLay_of_shaped hs)]
  exact propext ⟨fun h => h.2.2, fun h => ⟨hs, hs, h⟩⟩
theorem vR {ns : List Int} {a : Addr} {d : Int} {ks : List N3} {k u v : N3} {r1 r5 r9 r10 r11 r12 r13 : Option D} {Dd : DB} (hd : aB d) (hK : KindsOk d ks) (hm : k ∈ ks) (hb : Bag μ a) (fu : Fr0 u) (fv : Fr0 v) (hn : ¬ (u = aE ∧ v = aE))
    (kk : ∀ r9 r10 r11 r12 μ', Bag μ' a → Dd.nx [some (.s ns), r1, some (.m a), some (.v (.int d)), some (.v (.tuple (ks.map dN))), r5, some (.v (dN k)), some (.v (dN u)), some (.v (dN v)), r9, r10, r11, r12, r13] μ') :
    AF Dd [some (.s ns), r1, some (.m a), some (.v (.int d)), some (.v (.tuple (ks.map dN))), r5, some (.v (dN k)), some (.v (dN u)), some (.v (dN v)), r9, r10, r11, r12, r13] μ := by
  obtain ⟨ok, bk, hk⟩ := hK.ok k hm
  have s5 := kv hd.1 hd.2.1
  have nk := aZ hd ok hk
  have oc := ax nk
  have bc := cg s5 nk bk
  have bu := Fg fu
  have bv := Fg fv
  have okk := ah (d := d) ok ok
  have bkk := aO s5 ok ok bk bk
  have ou := ah (d := d) fu.ok ok
  have ov := ah (d := d) fv.ok oc
  have b1 := aO s5 fu.ok ok bu bk
  have b2 := aO s5 fv.ok oc bv bc
  have os := aW ou ov
  have bs := eC ou ov b1 b2
  have gs : sg d (oZ d u v k).a (oZ d u v k).b = 1 := FI hd ok hk fu.ok fv.ok (Gn fu) (Gn fv) hn
  have nkk := (xV ok nk).1
  have du := Lh hd ok hk fu fv
  unfold AF
  walk_at "rn"
  refine ⟨d, k, k, rfl, s5, ok, ok, bk.mono (by decide), bk.mono (by decide), ?_⟩
  walk_at "rn"
  refine ⟨d, u, k, rfl, s5, fu.ok, ok, bu.mono (by decide), bk.mono (by decide), ?_⟩
  walk_at "rn"
  refine ⟨d, k, rfl, s5, nk, bk.mono (by decide), d, v, _, rfl, s5, fv.ok, oc, bv.mono (by decide), bc.mono (by decide), _, _, rfl, ou, ov, b1.mono (by decide), b2.mono (by decide), ?_⟩
  walk_at "rn"
  refine ⟨d, k, rfl, ?_⟩
  have fin : aV (bK (ar lz (ab (af 2) (ab (af 3) (ab (af 4) aq)))) (az 12)) (aV (dA (jh (dB (dOp (di true) (ar d9 (ab (af 3) (ab (af 6) (ab (af 10) aq)))) (af 11))) (en (dB (ar fR (ab (af 3) (ab (af 6) (ab (af 10) aq))))))) (bQ (dC (.bool false))) cf)   (dA (jh (en (dB (ar fR (ab (af 3) (ab (af 6) (ab (af 12) aq)))))) (dB (dOp (di true) (ar d9 (ab (af 3) (ab (af 6) (ab (af 10) aq)))) (af 11)))) (bQ (dC (.bool false))) cf)) Dd [some (.s ns), r1, some (.m a), some (.v (.int d)), some (.v (.tuple (ks.map dN))), r5, some (.v (dN k)), some (.v (dN u)), some (.v (dN v)), some (.v (dN (times d k k))), some (.v (dN (oZ d u v k))), some (.v (zx d k u v)), r12, r13] μ := by
    walk_at "rn"
    refine ⟨a, d, ks, rfl, hd, hK, hb, fun o μ1 oo bo go s1 => ?_⟩
    have mo : MS d k o := ⟨hd, ok, bk.mono (by decide), hk, oo, bo.mono (by decide), go⟩
    have mp : MS d k (oZ d u v k) := ⟨hd, ok, bk.mono (by decide), hk, os, bs.mono (by decide), gs⟩
    simp only [HC, IB]
    refine ⟨d, k, _, rfl, hd, ok, bk.mono (by decide), hk, os, bs.mono (by decide), gs, ?_⟩
    rw [du]
    dsimp only
    rw [IE]
    simp only [Bool.false_eq_true, ↓reduceIte]
    refine ⟨d, k, _, rfl, mp, ?_⟩
    simp only [Bool.not_true, Bool.false_eq_true, ↓reduceIte]
    refine ⟨d, k, _, rfl, mo, ?_⟩
    simp only [Bool.not_true, Bool.false_eq_true, ↓reduceIte]
    refine ⟨d, k, _, rfl, hd, ok, bk.mono (by decide), hk, os, bs.mono (by decide), gs, ?_⟩
    rw [du]
    dsimp only
    rw [IE]
    simp only [Bool.false_eq_true, ↓reduceIte]
    exact kk _ _ _ _ _ s1.1
  dsimp only
  by_cases hl : k.a = 0 ∨ k.b = 0
  · rw [if_pos (by simpa using hl)]
    have e : zx d k u v = .tuple [.str "mixture", dN (plus u (times d v (au d (times d k k)))), dN ⟨0, 0, 1⟩] := if_pos hl
    have oc2 := ax nkk
    have bc2 := cg s5 nkk bkk
    have ot := ah (d := d) fv.ok oc2
    have bt := aO s5 fv.ok oc2 bv bc2
    rw [e] at fin
    refine ⟨d, _, rfl, s5, nkk, bkk.mono (by decide), d, v, _, rfl, s5, fv.ok, oc2, bv.mono (by decide), bc2.mono (by decide), u, _, rfl, fu.ok, ot, bu.mono (by decide), bt.mono (by decide), ?_⟩
    exact fin
  · rw [if_neg (by simpa using hl)]
    have e : zx d k u v = .tuple [.str "mixture", dN u, dN v] := if_neg hl
    rw [e] at fin
    exact fin
theorem JA (h : wd ds μ Qd) : Cd { nx := fun _ μ' => Qd (.v .none) μ', rt := Qd } (aX ["_law_script", "_law_k", "_law_bag_here", "_law_d", "_law_kinds_here", "_law_turn", "_law_kind", "_law_u", "_law_v", "_law_square", "_law_shape_here", "_law_due", "_law_other", "_law_wide_here"] ds) μ := by
  obtain ⟨ns, rfl, h63, q⟩ := h
  unfold Cd
  rw [CZ, qA]
  walk_at "rn"
  have hm : (-(2 ^ 62) ≤ max 2 (min 5 ((ns.length : Nat) : Int)) ∧ max 2 (min 5 ((ns.length : Nat) : Int)) < 2 ^ 62) := by omega
  refine ⟨hm, fun i ρ μ' => ∃ r1 r2 r3 r4 r5 r6 r7 r8 r9 r10 r11 r12 r13, ρ = [some (.s ns), r1, r2, r3, r4, r5, r6, r7, r8, r9, r10, r11, r12, r13], ⟨_, _, _, _, _, _, _, _, _, _, _, _, _, rfl⟩, ?_, ?_⟩
  · rintro i x ρ μ0 hx ⟨r1, r2, r3, r4, r5, r6, r7, r8, r9, r10, r11, r12, r13, rfl⟩
    obtain ⟨rfl, hi⟩ := Af hx
    walk_at "rn"
    refine ⟨ns, _, rfl, by omega, by omega, fun a μ1 ha s1 => ?_⟩
    walk_at "rn"
    refine ⟨a, rfl, s1.1, fun d μ2 hd s2 => ?_⟩
    walk_at "rn"
    refine ⟨a, d, rfl, hd, s2.1, fun ks μ3 ho s3 => ?_⟩
    walk_at "rn"
    rw [qA]
    walk_at "rn"
    refine ⟨⟨by decide, by decide⟩, fun j ρ μ' => ∃ r5 r6 r7 r8 r9 r10 r11 r12, ρ = [some (.s ns), some (.v (.int (0 + (i : Int)))), some (.m a), some (.v (.int d)), some (.v (.tuple (ks.map dN))), r5, r6, r7, r8, r9, r10, r11, r12, r13] ∧ Bag μ' a, ⟨_, _, _, _, _, _, _, _, rfl, s3.1⟩, ?_, ?_⟩
    · rintro j y ρ μ4 hy ⟨r5, r6, r7, r8, r9, r10, r11, r12, rfl, hb4⟩
      obtain ⟨rfl, hj⟩ := Af hy
      have l1 := ho.l1
      have l3 := ho.l3
      walk_at "rn"
      refine ⟨a, _, rfl, by rw [List.length_map]; omega, by rw [List.length_map]; omega, hb4, fun r μ5 r0 r1 s5 => ?_⟩
      obtain ⟨_, e1, k, rfl, hk⟩ := pick (P := fun v => ∃ k, v = dN k ∧ k ∈ ks) (xs := ks.map dN) r0 (by exact r1) (by
        intro v hv
        obtain ⟨k, hk, rfl⟩ := List.mem_map.mp hv
        exact ⟨k, rfl, hk⟩)
      walk_at "rn"
      rw [e1]
      dsimp only
      refine ⟨⟨by decide, by decide⟩, by rw [vU]; decide, fun pf hpf => ?_⟩
      have hb5 := s5.1
      have haf : a ≠ pf := fun z => by obtain ⟨g, m, e, _⟩ := hb5; rw [z, hpf] at e; cases e
      refine ⟨fun i acc μ' => Bag μ' a ∧ ∃ us : List N3, acc = us.map dN ∧ us.length = i ∧ ∀ u ∈ us, Fr0 u, ⟨GU haf hb5, [], rfl, rfl, fun k hk => by cases hk⟩, ?_, ?_⟩
      · rintro t y acc μ' hy' hacc ⟨hb, us, rfl, hl, hok⟩
        refine ⟨⟨trivial, trivial⟩, a, rfl, hb, fun x μ5 fx px s5 => ?_⟩
        walk_at "rn"
        refine ⟨a, 4, rfl, by decide, by decide, s5.1, fun r μ6 r0 r1 s6 => ?_⟩
        walk_at "rn"
        refine ⟨Ay (n := 2) (by decide) (Sz.of (by decide)) (by decide), ?_⟩
        have tf : r.fdiv 3 = r / 3 := Int.fdiv_eq_ediv_of_nonneg _ (by decide)
        obtain ⟨_, e1, w, rfl, fw⟩ := pick (P := fun v => ∃ w : N3, v = dN w ∧ Fr0 w) (xs := [dN x, dN ⟨0, 0, 1⟩]) (i := r.fdiv 3) (by rw [tf]; omega) (by rw [tf]; show r / 3 < 2; omega) (by
          intro v hv
          simp only [List.mem_cons, List.not_mem_nil, or_false] at hv
          rcases hv with rfl | rfl
          · exact ⟨_, rfl, fx⟩
          · exact ⟨_, rfl, BA⟩)
        rw [e1]
        have s56 := s5.trans s6
        refine ⟨by rw [s56.2 pf (fun z => haf z.symm)]; exact hacc, ?_⟩
        exact ⟨GU haf s6.1, us ++ [w], by simp, by simp [hl], fun k hk' => by
          rcases List.mem_append.mp hk' with z | z
          · exact hok k z
          · rw [List.mem_singleton.mp z]; exact fw⟩
      · rintro acc μ' ⟨hb, us, rfl, hl, hok⟩ hacc
        rw [vU] at hl
        obtain ⟨u, v, rfl⟩ := MZ hl
        have fu := hok u (by simp)
        have fv := hok v (by simp)
        have hb6 : Bag (gF μ' pf) a := by obtain ⟨g, m, e, z⟩ := hb; exact ⟨g, m, by rw [ES haf]; exact e, z⟩
        generalize gF μ' pf = μ6 at hb6
        refine ⟨rfl, ?_⟩
        simp only [List.map, yx, ur, CC, List.set_cons_zero, List.set_cons_succ]
        rw [CZ, Fv]
        simp only [Cf, q_B, KH, Ck, B3, C5, vi, A1, q_c, Dj, Dk, Option.map_some, Fl, Gz, Bool.false_xor]
        by_cases c1 : u = aE
        · rw [if_pos (by simpa [aE] using c1)]
          by_cases c2 : v = u
          · rw [if_pos (by simpa using c2)]
            rw [EF]
            simp only [C5, vi, A1, q_c, Dj, Dk, Option.map_some, Fl, ur, List.set_cons_zero, List.set_cons_succ]
            exact vR hd ho hk hb6 He fv (fun z => absurd z.1 (by decide)) fun _ _ _ _ μ7 hb7 => ⟨_, _, _, _, _, _, _, _, rfl, hb7⟩
          · rw [if_neg (by simpa using c2)]
            exact vR hd ho hk hb6 fu fv (fun z => c2 (by rw [z.1, z.2])) fun _ _ _ _ μ7 hb7 => ⟨_, _, _, _, _, _, _, _, rfl, hb7⟩
        · rw [if_neg (by simpa [aE] using c1)]
          exact vR hd ho hk hb6 fu fv (fun z => c1 z.1) fun _ _ _ _ μ7 hb7 => ⟨_, _, _, _, _, _, _, _, rfl, hb7⟩
    · rintro ρ μ4 ⟨r5, r6, r7, r8, r9, r10, r11, r12, rfl, hb4⟩
      walk_at "rn"
      refine ⟨a, d, rfl, hd, hb4, fun w μ5 ow bw gw s5 => ?_⟩
      walk_at "rn"
      rw [MD]
      simp only [Cm, vi, A1, Bt, Cn, Ii]
      refine ⟨a, d, w, rfl, hd, ow, bw, gw, s5.1, fun p L μ6 hp s6 hL lL aL => ?_⟩
      refine ⟨L, hL, by omega, fun _ => some (.bool true), fun x hx μ7 h7 => ⟨⟨trivial, trivial, trivial⟩, ?_⟩, ?_⟩
      · obtain ⟨t, rfl, ot, bt, gt⟩ := aL x hx
        exact ⟨d, w, t, rfl, ⟨hd, ow, bw, gw, ot, bt, gt⟩, rfl, rfl⟩
      · rw [all_true L]
        dsimp only
        rw [if_neg (by simp)]
        exact ⟨_, _, _, _, _, _, _, _, _, _, _, _, _, rfl⟩
  · rintro ρ μ0 ⟨r1, r2, r3, r4, r5, r6, r7, r8, r9, r10, r11, r12, r13, rfl⟩
    have h2 : aB 2 := ⟨by decide, by decide, by decide⟩
    have bd34 : Bd 3 ⟨3, 0, 4⟩ := ⟨Sz.of (by decide), Sz.of (by decide), Sz.of (by decide)⟩
    have hL : uS 2 ⟨1, 0, 1⟩ ⟨3, 0, 4⟩ = .tuple [.str "mixture", dN ⟨3, 0, 4⟩, dN ⟨0, 0, 1⟩] := by
      unfold uS
      rw [if_pos (by decide +kernel), show ff 2 ⟨1, 0, 1⟩ ⟨3, 0, 4⟩ = ⟨3, 0, 4⟩ by decide +kernel, show eW 2 ⟨1, 0, 1⟩ ⟨3, 0, 4⟩ = ⟨0, 0, 1⟩ by decide +kernel]
    refine ⟨2, ⟨1, 0, 1⟩, ⟨3, 0, 4⟩, rfl, h2, ⟨by decide, by decide⟩, ⟨Sz.of (by decide), Sz.of (by decide), Sz.of (by decide)⟩, by decide, ⟨by decide, by decide⟩, bd34.mono (by decide), by decide, ?_⟩
    dsimp only
    rw [hL, x5, SeqAt.eqv_refl _ (SeqAt.canLay_of_shaped zo)]
    exact ⟨zo, zo, q _⟩
end
end L2.DL
set_option Elab.async false
set_option linter.all false
set_option maxRecDepth 100000
set_option maxHeartbeats 4000000
namespace K35
open PySem L2 L2.DL
structure Adr where
  lW : Addr
  pN : FuncData
  fB : Addr
  ir : FuncData
  kd : Addr
  nF : FuncData
  fD : Addr
  ie : FuncData
  rA : Addr
  vN : FuncData
  zK : Addr
  BC : FuncData
  ym : Addr
  BH : FuncData
  zH : Addr
  Cj : FuncData
  uA : Addr
  yD : FuncData
  zM : Addr
  BL : FuncData
  mz : Addr
  qg : FuncData
  oP : Addr
  rO : FuncData
  fW : Addr
  i5 : FuncData
  eY : Addr
  hV : FuncData
  cW : Addr
  eL : FuncData
  js : Addr
  mh : FuncData
  kh : Addr
  nM : FuncData
  lP : Addr
  qh : FuncData
  oG : Addr
  sN : FuncData
  yL : Addr
  BY : FuncData
  lI : Addr
  pZ : FuncData
  j5 : Addr
  nW : FuncData
  fU : Addr
  iX : FuncData
  iK : Addr
  kH : FuncData
  mi : Addr
  pU : FuncData
  fq : Addr
  iz : FuncData
  kf : Addr
  nB : FuncData
  ju : Addr
  lO : FuncData
  ke : Addr
  nP : FuncData
  jj : Addr
  lM : FuncData
  fT : Addr
  i6 : FuncData
  kj : Addr
  nv : FuncData
  jv : Addr
  l4 : FuncData
  j9 : Addr
  nZ : FuncData
  iJ : Addr
  kK : FuncData
  jl : Addr
  lZ : FuncData
  jx : Addr
  l7 : FuncData
  dE : Addr
  eU : FuncData
  jr : Addr
  mB : FuncData
  iI : Addr
  kr : FuncData
  dO : Addr
  fj : FuncData
  jq : Addr
  lX : FuncData
  fV : Addr
  iZ : FuncData
  eX : Addr
  hJ : FuncData
  gZ : Addr
  jP : FuncData
  eD : Addr
  gi : FuncData
  gU : Addr
  jJ : FuncData
  j6 : Addr
  mZ : FuncData
  eE : Addr
  gv : FuncData
  hW : Addr
  j4 : FuncData
  CU : Addr
  EB : FuncData
  El : Addr
  Ke : Addr
structure Txt (K : PySem.W.Frag) (mg : Str → Option Value) (t : Adr) : Prop where
  BM : Fun K "is_whole" "is_whole" ik t.lW t.pN
  qe : mg "is_whole" = some (.ref t.lW)
  qo : PySem.W.keepIn K (.ref t.lW) = true
  qm : Binds K t.pN ["thing"] []
  sR : Fun K "common_divisor" "common_divisor" dh t.fB t.ir
  lj : mg "common_divisor" = some (.ref t.fB)
  lB : PySem.W.keepIn K (.ref t.fB) = true
  k7 : Binds K t.ir ["a", "b"] []
  Az : Fun K "is_number" "is_number" gC t.kd t.nF
  Aj : mg "is_number" = some (.ref t.kd)
  AJ : PySem.W.keepIn K (.ref t.kd) = true
  AI : Binds K t.nF ["thing"] []
  sh : Fun K "divisor_of_all" "divisor_of_all" dk t.fD t.ie
  kR : mg "divisor_of_all" = some (.ref t.fD)
  k5 : PySem.W.keepIn K (.ref t.fD) = true
  kT : Binds K t.ie ["a", "b", "c"] []
  Fy : Fun K "number" "number" lh t.rA t.vN
  nY : mg "number" = some (.ref t.rA)
  nR : PySem.W.keepIn K (.ref t.rA) = true
  nr : Binds K t.vN ["a", "b", "c"] []
  K5 : Fun K "mate" "mate" rY t.zK t.BC
  sH : mg "mate" = some (.ref t.zK)
  sj : PySem.W.keepIn K (.ref t.zK) = true
  sS : Binds K t.BC ["x"] []
  Jx : Fun K "plus" "plus" sO t.ym t.BH
  Lf : mg "plus" = some (.ref t.ym)
  KG : PySem.W.keepIn K (.ref t.ym) = true
  La : Binds K t.BH ["x", "y"] []
  JK : Fun K "less" "less" rJ t.zH t.Cj
  E2 : mg "less" = some (.ref t.zH)
  Gj : PySem.W.keepIn K (.ref t.zH) = true
  Gh : Binds K t.Cj ["x", "y"] []
  Iv : Fun K "times" "times" oH t.uA t.yD
  mn : mg "times" = some (.ref t.uA)
  lE : PySem.W.keepIn K (.ref t.uA) = true
  mG : Binds K t.yD ["d", "x", "y"] []
  JN : Fun K "over" "over" rW t.zM t.BL
  sG : mg "over" = some (.ref t.zM)
  rS : PySem.W.keepIn K (.ref t.zM) = true
  sM : Binds K t.BL ["d", "x", "y"] []
  BJ : Fun K "contrary" "contrary" iE t.mz t.qg
  we : mg "contrary" = some (.ref t.mz)
  u6 : PySem.W.keepIn K (.ref t.mz) = true
  vt : Binds K t.qg ["d", "x"] []
  Eo : Fun K "sign_of" "sign_of" jB t.oP t.rO
  k8 : mg "sign_of" = some (.ref t.oP)
  lq : PySem.W.keepIn K (.ref t.oP) = true
  kS : Binds K t.rO ["d", "x"] []
  uf : Fun K "sign_of_parts" "sign_of_parts" dH t.fW t.i5
  um : mg "sign_of_parts" = some (.ref t.fW)
  tX : PySem.W.keepIn K (.ref t.fW) = true
  ue : Binds K t.i5 ["d", "a", "b"] []
  rz : Fun K "is_above_nought" "is_above_nought" cQ t.eY t.hV
  qX : mg "is_above_nought" = some (.ref t.eY)
  rg : PySem.W.keepIn K (.ref t.eY) = true
  rD : Binds K t.hV ["d", "thing"] []
  lN : Fun K "must_be_above_nought" "must_be_above_nought" cb t.cW t.eL
  ia : mg "must_be_above_nought" = some (.ref t.cW)
  gI : PySem.W.keepIn K (.ref t.cW) = true
  hU : Binds K t.eL ["d", "thing"] []
  zD : Fun K "mixture_of" "mixture_of" fI t.js t.mh
  jw : mg "mixture_of" = some (.ref t.js)
  jy : PySem.W.keepIn K (.ref t.js) = true
  jk : Binds K t.mh ["d", "kind", "shape"] []
  Ad : Fun K "shares_of" "shares_of" gD t.kh t.nM
  AA : mg "shares_of" = some (.ref t.kh)
  Ab : PySem.W.keepIn K (.ref t.kh) = true
  Ac : Binds K t.nM ["d", "first", "second", "shape"] []
  Bw : Fun K "is_share" "is_share" ig t.lP t.qh
  By : mg "is_share" = some (.ref t.lP)
  Cr : PySem.W.keepIn K (.ref t.lP) = true
  Cz : Binds K t.qh ["d", "x"] []
  D2 : Fun K "bar_for" "bar_for" jz t.oG t.sN
  DX : mg "bar_for" = some (.ref t.oG)
  Em : PySem.W.keepIn K (.ref t.oG) = true
  Ef : Binds K t.sN ["d", "kind", "shape"] []
  JM : Fun K "skew" "skew" rT t.yL t.BY
  GO : mg "skew" = some (.ref t.yL)
  FR : PySem.W.keepIn K (.ref t.yL) = true
  Gr : Binds K t.BY ["shape", "way"] []
  CB : Fun K "_law_bag" "_law_bag" iq t.lI t.pZ
  Cb : mg "_law_bag" = some (.ref t.lI)
  B1 : PySem.W.keepIn K (.ref t.lI) = true
  BE : Binds K t.pZ ["_law_script", "_law_at"] []
  Bp : Fun K "_law_take" "_law_take" gx t.j5 t.nW
  bD : mg "_law_take" = some (.ref t.j5)
  bE : PySem.W.keepIn K (.ref t.j5) = true
  bF : Binds K t.nW ["_law_bag_here", "_law_many"] []
  uj : Fun K "_law_is_whole" "_law_is_whole" dJ t.fU t.iX
  tW : mg "_law_is_whole" = some (.ref t.fU)
  uk : PySem.W.keepIn K (.ref t.fU) = true
  tQ : Binds K t.iX ["_law_thing"] []
  xf : Fun K "_law_shared" "_law_shared" eQ t.iK t.kH
  iG : mg "_law_shared" = some (.ref t.iK)
  iL : PySem.W.keepIn K (.ref t.iK) = true
  iM : Binds K t.kH ["_law_one", "_law_other"] []
  Cc : Fun K "_law_low" "_law_low" iD t.mi t.pU
  gj : mg "_law_low" = some (.ref t.mi)
  gn : PySem.W.keepIn K (.ref t.mi) = true
  gu : Binds K t.pU ["_law_a", "_law_b", "_law_c"] []
  sE : Fun K "_law_is_number" "_law_is_number" dj t.fq t.iz
  iu : mg "_law_is_number" = some (.ref t.fq)
  iB : PySem.W.keepIn K (.ref t.fq) = true
  iF : Binds K t.iz ["_law_thing"] []
  AS : Fun K "_law_plus" "_law_plus" gH t.kf t.nB
  bW : mg "_law_plus" = some (.ref t.kf)
  bY : PySem.W.keepIn K (.ref t.kf) = true
  bX : Binds K t.nB ["_law_x", "_law_y"] []
  ze : Fun K "_law_minus" "_law_minus" fE t.ju t.lO
  lR : mg "_law_minus" = some (.ref t.ju)
  l5 : PySem.W.keepIn K (.ref t.ju) = true
  lH : Binds K t.lO ["_law_x"] []
  AW : Fun K "_law_mate" "_law_mate" gB t.ke t.nP
  dQ : mg "_law_mate" = some (.ref t.ke)
  dP : PySem.W.keepIn K (.ref t.ke) = true
  dW : Binds K t.nP ["_law_x"] []
  yz : Fun K "_law_times" "_law_times" fo t.jj t.lM
  aD : mg "_law_times" = some (.ref t.jj)
  aF : PySem.W.keepIn K (.ref t.jj) = true
  aG : Binds K t.lM ["_law_d", "_law_x", "_law_y"] []
  tV : Fun K "_law_contrary" "_law_contrary" dG t.fT t.i6
  cH : mg "_law_contrary" = some (.ref t.fT)
  cG : PySem.W.keepIn K (.ref t.fT) = true
  cF : Binds K t.i6 ["_law_d", "_law_x"] []
  AY : Fun K "_law_sign" "_law_sign" gy t.kj t.nv
  da : mg "_law_sign" = some (.ref t.kj)
  dg : PySem.W.keepIn K (.ref t.kj) = true
  df : Binds K t.nv ["_law_d", "_law_x"] []
  yY : Fun K "_law_below" "_law_below" fF t.jv t.l4
  mr : mg "_law_below" = some (.ref t.jv)
  me : PySem.W.keepIn K (.ref t.jv) = true
  ma : Binds K t.l4 ["_law_d", "_law_x", "_law_y"] []
  Aq : Fun K "_law_root" "_law_root" gG t.j9 t.nZ
  Ai : mg "_law_root" = some (.ref t.j9)
  Bj : PySem.W.keepIn K (.ref t.j9) = true
  AD : Binds K t.nZ ["_law_bag_here"] []
  wX : Fun K "_law_number" "_law_number" eP t.iJ t.kK
  wA : mg "_law_number" = some (.ref t.iJ)
  xg : PySem.W.keepIn K (.ref t.iJ) = true
  wM : Binds K t.kK ["_law_bag_here"] []
  zN : Fun K "_law_above" "_law_above" fG t.jl t.lZ
  jt : mg "_law_above" = some (.ref t.jl)
  ji : PySem.W.keepIn K (.ref t.jl) = true
  jn : Binds K t.lZ ["_law_bag_here", "_law_d"] []
  zQ : Fun K "_law_kinds" "_law_kinds" fz t.jx t.l7
  yw : mg "_law_kinds" = some (.ref t.jx)
  zf : PySem.W.keepIn K (.ref t.jx) = true
  zv : Binds K t.l7 ["_law_bag_here", "_law_d"] []
  mQ : Fun K "_law_is_never_below" "_law_is_never_below" cq t.dE t.eU
  mO : mg "_law_is_never_below" = some (.ref t.dE)
  mT : PySem.W.keepIn K (.ref t.dE) = true
  mN : Binds K t.eU ["_law_d", "_law_weights", "_law_kind"] []
  yn : Fun K "_law_weigh" "_law_weigh" fH t.jr t.mB
  yg : mg "_law_weigh" = some (.ref t.jr)
  yS : PySem.W.keepIn K (.ref t.jr) = true
  yr : Binds K t.mB ["_law_d", "_law_weights", "_law_width", "_law_height"] []
  wk : Fun K "_law_is_bar" "_law_is_bar" eR t.iI t.kr
  wy : mg "_law_is_bar" = some (.ref t.iI)
  wg : PySem.W.keepIn K (.ref t.iI) = true
  wO : Binds K t.kr ["_law_d", "_law_kinds_here", "_law_shape_here", "_law_thing"] []
  mY : Fun K "_law_lean_fraction" "_law_lean_fraction" cx t.dO t.fj
  fc : mg "_law_lean_fraction" = some (.ref t.dO)
  fe : PySem.W.keepIn K (.ref t.dO) = true
  fg : Binds K t.fj ["_law_d", "_law_shape_here"] []
  yJ : Fun K "_law_shape" "_law_shape" fA t.jq t.lX
  y4 : mg "_law_shape" = some (.ref t.jq)
  yX : PySem.W.keepIn K (.ref t.jq) = true
  yi : Binds K t.lX ["_law_bag_here", "_law_d", "_law_kinds_here"] []
  tN : Fun K "_law_fraction" "_law_fraction" dI t.fV t.iZ
  eN : mg "_law_fraction" = some (.ref t.fV)
  eM : PySem.W.keepIn K (.ref t.fV) = true
  eO : Binds K t.iZ ["_law_bag_here"] []
  qW : Fun K "_law_is_mixture" "_law_is_mixture" cT t.eX t.hJ
  qu : mg "_law_is_mixture" = some (.ref t.eX)
  qC : PySem.W.keepIn K (.ref t.eX) = true
  q9 : Binds K t.hJ ["_law_d", "_law_kind", "_law_shape_here", "_law_thing"] []
  uV : Fun K "_law_is_lone" "_law_is_lone" ec t.gZ t.jP
  nV : mg "_law_is_lone" = some (.ref t.gZ)
  nc : PySem.W.keepIn K (.ref t.gZ) = true
  mV : Binds K t.jP ["_law_d", "_law_kind"] []
  qd : Fun K "_law_is_told_bar" "_law_is_told_bar" cJ t.eD t.gi
  pX : mg "_law_is_told_bar" = some (.ref t.eD)
  p4 : PySem.W.keepIn K (.ref t.eD) = true
  ql : Binds K t.gi ["_law_d", "_law_kinds_here", "_law_shape_here", "_law_told"] []
  wa : Fun K "_law_is_laid" "_law_is_laid" d6 t.gU t.jJ
  vL : mg "_law_is_laid" = some (.ref t.gU)
  vx : PySem.W.keepIn K (.ref t.gU) = true
  vB : Binds K t.jJ ["_law_d", "_law_kinds_here", "_law_shape_here"] []
  AK : Fun K "_law_wide" "_law_wide" gE t.j6 t.mZ
  zX : mg "_law_wide" = some (.ref t.j6)
  Ak : PySem.W.keepIn K (.ref t.j6) = true
  zY : Binds K t.mZ ["_law_bag_here", "_law_d"] []
  qk : Fun K "_law_wide_shapes" "_law_wide_shapes" cK t.eE t.gv
  pY : mg "_law_wide_shapes" = some (.ref t.eE)
  p5 : PySem.W.keepIn K (.ref t.eE) = true
  pQ : Binds K t.gv ["_law_bag_here", "_law_d", "_law_kind"] []
  vO : Fun K "_law_is_told" "_law_is_told" eo t.hW t.j4
  jQ : mg "_law_is_told" = some (.ref t.hW)
  jE : PySem.W.keepIn K (.ref t.hW) = true
  jW : Binds K t.j4 ["_law_d", "_law_kind", "_law_shape_here"] []
  L8 : Fun K "law" "law" pJ t.CU t.EB
  Nd : mg "law" = some (.ref t.CU)
  Nc : PySem.W.keepIn K (.ref t.CU) = true
  Nf : Binds K t.EB ["_law_script"] []
  cB : mg "isinstance" = none
  vV : mg "int" = none
  G0 : mg "bool" = none
  Ag : mg "abs" = none
  j7 : mg "tuple" = none
  kW : mg "len" = none
  xr : mg "all" = none
  mH : mg "range" = none
  Jb : mg "any" = none
  LL : mg "set" = none
  Mg : mg "max" = none
  L0 : mg "min" = none
  mX : KW K mg "NOUGHT" t.El 0 0 1
  IX : KW K mg "ONE" t.Ke 1 0 1
structure EQ where
  P : Program
  w : World
  K : PySem.W.Frag
  mg : Str → Option Value
  base : Heap
  t : Adr
abbrev TX (e : EQ) : Prop := Txt e.K e.mg e.t
abbrev tD (e : EQ) : Prop := cu e.P e.w e.K e.mg e.base CX0 1 e.t.lW e.t.pN ["thing"] (spD e.K jm)
abbrev ko (e : EQ) : Prop := cu e.P e.w e.K e.mg e.base CX0 1 e.t.fB e.t.ir ["a", "b"] (spD e.K nQ)
abbrev rH (e : EQ) : Prop := cu e.P e.w e.K e.mg e.base CX0 3 e.t.kd e.t.nF ["thing"] (spD e.K lK)
abbrev gQ (e : EQ) : Prop := cu e.P e.w e.K e.mg e.base CX0 2 e.t.fD e.t.ie ["a", "b", "c"] (spD e.K vF)
abbrev jA (e : EQ) : Prop := cu e.P e.w e.K e.mg e.base CX0 3 e.t.rA e.t.vN ["a", "b", "c"] (spD e.K cP)
abbrev yK (e : EQ) : Prop := cu e.P e.w e.K e.mg e.base CX0 1 e.t.zK e.t.BC ["x"] (spD e.K d7)
abbrev DM (e : EQ) : Prop := cu e.P e.w e.K e.mg e.base CX0 4 e.t.ym e.t.BH ["x", "y"] (spD e.K dw)
abbrev yH (e : EQ) : Prop := cu e.P e.w e.K e.mg e.base CX0 4 e.t.zH e.t.Cj ["x", "y"] (spD e.K vj)
abbrev nN (e : EQ) : Prop := cu e.P e.w e.K e.mg e.base CX0 4 e.t.uA e.t.yD ["d", "x", "y"] (spD e.K aU)
abbrev uE (e : EQ) : Prop := cu e.P e.w e.K e.mg e.base CX0 5 e.t.zM e.t.BL ["d", "x", "y"] (spD e.K lF)
abbrev nt (e : EQ) : Prop := cu e.P e.w e.K e.mg e.base CX0 4 e.t.mz e.t.qg ["d", "x"] (spD e.K bV)
abbrev lV (e : EQ) : Prop := cu e.P e.w e.K e.mg e.base CX0 2 e.t.oP e.t.rO ["d", "x"] (spD e.K el)
abbrev k9 (e : EQ) : Prop := cu e.P e.w e.K e.mg e.base CX0 1 e.t.fW e.t.i5 ["d", "a", "b"] (spD e.K uG)
abbrev jO (e : EQ) : Prop := cu e.P e.w e.K e.mg e.base CX0 4 e.t.eY e.t.hV ["d", "thing"] (spD e.K rC)
abbrev gz (e : EQ) : Prop := cu e.P e.w e.K e.mg e.base CX0 5 e.t.cW e.t.eL ["d", "thing"] (spD e.K iR)
abbrev kB (e : EQ) : Prop := cu e.P e.w e.K e.mg e.base CX0 7 e.t.js e.t.mh ["d", "kind", "shape"] (spD e.K d9)
abbrev qS (e : EQ) : Prop := cu e.P e.w e.K e.mg e.base CX0 6 e.t.kh e.t.nM ["d", "first", "second", "shape"] (spD e.K q5)
abbrev tm (e : EQ) : Prop := cu e.P e.w e.K e.mg e.base CX0 3 e.t.lP e.t.qh ["d", "x"] (spD e.K oX)
abbrev u5 (e : EQ) : Prop := cu e.P e.w e.K e.mg e.base CX0 6 e.t.oG e.t.sN ["d", "kind", "shape"] (spD e.K qy)
abbrev DJ (e : EQ) : Prop := cu e.P e.w e.K e.mg e.base CX0 5 e.t.yL e.t.BY ["shape", "way"] (spD e.K vg)
abbrev tj (e : EQ) : Prop := cu e.P e.w e.K e.mg e.base CX0 1 e.t.lI e.t.pZ ["_law_script", "_law_at"] (spD e.K CD)
abbrev cV (e : EQ) : Prop := cu e.P e.w e.K e.mg e.base CX0 1 e.t.j5 e.t.nW ["_law_bag_here", "_law_many"] (spD e.K cU)
abbrev k0 (e : EQ) : Prop := cu e.P e.w e.K e.mg e.base CX0 1 e.t.fU e.t.iX ["_law_thing"] (spD e.K jm)
abbrev jF (e : EQ) : Prop := cu e.P e.w e.K e.mg e.base CX0 1 e.t.iK e.t.kH ["_law_one", "_law_other"] (spD e.K nQ)
abbrev ez (e : EQ) : Prop := cu e.P e.w e.K e.mg e.base CX0 2 e.t.mi e.t.pU ["_law_a", "_law_b", "_law_c"] (spD e.K cP)
abbrev gX (e : EQ) : Prop := cu e.P e.w e.K e.mg e.base CX0 2 e.t.fq e.t.iz ["_law_thing"] (spD e.K lK)
abbrev cZ (e : EQ) : Prop := cu e.P e.w e.K e.mg e.base CX0 3 e.t.kf e.t.nB ["_law_x", "_law_y"] (spD e.K dw)
abbrev iN (e : EQ) : Prop := cu e.P e.w e.K e.mg e.base CX0 1 e.t.ju e.t.lO ["_law_x"] (spD e.K oV)
abbrev gO (e : EQ) : Prop := cu e.P e.w e.K e.mg e.base CX0 1 e.t.ke e.t.nP ["_law_x"] (spD e.K d7)
abbrev cA (e : EQ) : Prop := cu e.P e.w e.K e.mg e.base CX0 3 e.t.jj e.t.lM ["_law_d", "_law_x", "_law_y"] (spD e.K aU)
abbrev cy (e : EQ) : Prop := cu e.P e.w e.K e.mg e.base CX0 3 e.t.fT e.t.i6 ["_law_d", "_law_x"] (spD e.K bV)
abbrev dS (e : EQ) : Prop := cu e.P e.w e.K e.mg e.base CX0 1 e.t.kj e.t.nv ["_law_d", "_law_x"] (spD e.K el)
abbrev kI (e : EQ) : Prop := cu e.P e.w e.K e.mg e.base CX0 4 e.t.jv e.t.l4 ["_law_d", "_law_x", "_law_y"] (spD e.K oI)
abbrev qM (e : EQ) : Prop := cu e.P e.w e.K e.mg e.base CX0 2 e.t.j9 e.t.nZ ["_law_bag_here"] (spD e.K uv)
abbrev nI (e : EQ) : Prop := cu e.P e.w e.K e.mg e.base CX0 3 e.t.iJ e.t.kK ["_law_bag_here"] (spD e.K oE)
abbrev ku (e : EQ) : Prop := cu e.P e.w e.K e.mg e.base CX0 4 e.t.jl e.t.lZ ["_law_bag_here", "_law_d"] (spD e.K jK)
abbrev pG (e : EQ) : Prop := cu e.P e.w e.K e.mg e.base CX0 5 e.t.jx e.t.l7 ["_law_bag_here", "_law_d"] (spD e.K rE)
abbrev gN (e : EQ) : Prop := cu e.P e.w e.K e.mg e.base CX0 5 e.t.dE e.t.eU ["_law_d", "_law_weights", "_law_kind"] (spD e.K uB)
abbrev pA (e : EQ) : Prop := cu e.P e.w e.K e.mg e.base CX0 4 e.t.jr e.t.mB ["_law_d", "_law_weights", "_law_width", "_law_height"] (spD e.K oQ)
abbrev nj (e : EQ) : Prop := cu e.P e.w e.K e.mg e.base CX0 6 e.t.iI e.t.kr ["_law_d", "_law_kinds_here", "_law_shape_here", "_law_thing"] (spD e.K uI)
abbrev ic (e : EQ) : Prop := cu e.P e.w e.K e.mg e.base CX0 4 e.t.dO e.t.fj ["_law_d", "_law_shape_here"] (spD e.K lr)
abbrev pI (e : EQ) : Prop := cu e.P e.w e.K e.mg e.base CX0 5 e.t.jq e.t.lX ["_law_bag_here", "_law_d", "_law_kinds_here"] (spD e.K lz)
abbrev fJ (e : EQ) : Prop := cu e.P e.w e.K e.mg e.base CX0 3 e.t.fV e.t.iZ ["_law_bag_here"] (spD e.K kg)
abbrev j0 (e : EQ) : Prop := cu e.P e.w e.K e.mg e.base CX0 4 e.t.eX e.t.hJ ["_law_d", "_law_kind", "_law_shape_here", "_law_thing"] (spD e.K qU)
abbrev jc (e : EQ) : Prop := cu e.P e.w e.K e.mg e.base CX0 1 e.t.gZ e.t.jP ["_law_d", "_law_kind"] (spD e.K sQ)
abbrev jg (e : EQ) : Prop := cu e.P e.w e.K e.mg e.base CX0 7 e.t.eD e.t.gi ["_law_d", "_law_kinds_here", "_law_shape_here", "_law_told"] (spD e.K n9)
abbrev mL (e : EQ) : Prop := cu e.P e.w e.K e.mg e.base CX0 5 e.t.gU e.t.jJ ["_law_d", "_law_kinds_here", "_law_shape_here"] (spD e.K oO)
abbrev q0 (e : EQ) : Prop := cu e.P e.w e.K e.mg e.base CX0 3 e.t.j6 e.t.mZ ["_law_bag_here", "_law_d"] (spD e.K uM)
abbrev je (e : EQ) : Prop := cu e.P e.w e.K e.mg e.base CX0 4 e.t.eE e.t.gv ["_law_bag_here", "_law_d", "_law_kind"] (spD e.K qG)
abbrev mK (e : EQ) : Prop := cu e.P e.w e.K e.mg e.base CX0 8 e.t.hW e.t.j4 ["_law_d", "_law_kind", "_law_shape_here"] (spD e.K fR)
abbrev Gs (e : EQ) : Prop := cu e.P e.w e.K e.mg e.base CX0 9 e.t.CU e.t.EB ["_law_script"] (spD e.K wd)
section
variable {e : EQ}
theorem Bn : aQ ["thing"] ["thing"] (aC ik) := ⟨rfl, rfl, rfl, by decide +kernel, rfl, by decide +kernel, by decide +kernel⟩
theorem A8 (T : TX e)  : tD e := by
  have S := Bn
  exact T.BM.okD S (fun ds μ Q h => sX h) (fun cdv A outer s H E hr => ⟨kn, (aw (aK (n6 (jM (C2 _) rfl T.cB rfl T.vV PyProof.Rows.Boot.«int» (dv 0)) (kF (rQ (jM (Bl _) rfl T.cB rfl T.G0 PyProof.Rows.Boot.«bool» (dv 0))))))), fun ds μ Qd h => tu h⟩)
theorem qH : aQ ["a", "b"] ["a", "b"] (aC dh) := ⟨rfl, rfl, rfl, by decide +kernel, rfl, by decide +kernel, by decide +kernel⟩
theorem qN (T : TX e)  : ko e := by
  have S := qH
  exact T.sR.okD S (fun ds μ Q h => xX h) (fun cdv A outer s H E hr => ⟨gP, (ao (zU PassesOwn.never (bI (gb hr.units) bZ (dv 1) ae (aR _)) (aw (n4 (i := 0) (j := 1) rfl S.nd rfl rfl (by decide) rfl rfl (aa (dv 1) (aa (jV (dv 0) (dv 1)) ag)) rfl)))
    (aw (aK (vw rfl T.Ag (aa (dv 0) ag))))), fun ds μ Qd h => qQ h⟩)
theorem HY : aQ ["x"] ["x"] (aC rY) := ⟨rfl, rfl, rfl, by decide +kernel, rfl, by decide +kernel, by decide +kernel⟩
theorem aA (T : TX e)  : yK e := by
  have S := HY
  exact T.K5.okD S (fun ds μ Q h => u9 h) (fun cdv A outer s H E hr => ⟨yC, (aw (aK (bM (aa (ay (dv 0) ae (fun _ _ => rfl)) (aa (nG (ay (dv 0) ae (fun _ _ => rfl))) (aa (ay (dv 0) ae (fun _ _ => rfl)) ag)))))), fun ds μ Qd h => Hx h⟩)
theorem rV : aQ ["d", "a", "b", "prevailing"] ["d", "a", "b"] (aC dH) := ⟨rfl, rfl, rfl, by decide +kernel, rfl, by decide +kernel, by decide +kernel⟩
theorem sV (T : TX e)  : k9 e := by
  have S := rV
  exact T.uf.okD S (fun ds μ Q h => Bs h) (fun cdv A outer s H E hr => ⟨il, (ao (cz (DW.dt (zl (bI (eI hr.units) bZ (dv 1) ae (aR _)) (uH (bI (eI hr.units) bZ (dv 2) ae (aR _))))) (aw (aK ae)) bJ)
    (ao (cz (DW.dt (zl (bI vk fm (dv 1) ae (aR _)) (uH (bI vk fm (dv 2) ae (aR _))))) (aw (aK ae)) bJ)
    (ao (cz (DW.dt (zl (bI E6 fm (dv 1) ae (aR _)) (uH (bI E6 fm (dv 2) ae (aR _))))) (aw (aK (nG ae))) bJ)
    (ao (aS (i := 3) S.nd rfl (Or.inl rfl) (xU (bI jf fm (aY (dv 1) (dv 1)) (aY (aY (dv 0) (dv 2)) (dv 2)) (aR _)) (dv 1) (dv 2)))
    (aw (aK (xU (bI jf fm (dv 3) ae (aR _)) ae (nG ae)))))))), fun ds μ Qd h => rL h⟩)
theorem AQ : aQ ["_law_script", "_law_at", "_law_cell", "_law_great", "_law_primes", "_law_mixed"] ["_law_script", "_law_at"] (aC iq) := ⟨rfl, rfl, rfl, by decide +kernel, rfl, by decide +kernel, by decide +kernel⟩
theorem A9 (T : TX e)  : tj e := by
  have S := AQ
  exact T.CB.okD S (fun ds μ Q h => DU h) (fun cdv A outer s H E hr => ⟨nK, (ao (aS (i := 2) S.nd rfl (Or.inl rfl) ae)
    (ao (cz (bI tG fm (dv 1) (i7 rfl T.kW (aa (dv 0) ag)) (aR _)) (aw (aS (i := 2) S.nd rfl (Or.inl rfl) (ay (dv 0) (dv 1) (fun _ _ => rfl)))) bJ)
    (ao (aS (i := 3) S.nd rfl (Or.inl rfl) ae)
    (ao (cz (bI vk fm (vw rfl T.Ag (aa (dv 2) ag)) (kq ae ae) (aR _)) (aw (aS (i := 3) S.nd rfl (Or.inl rfl) (vw rfl T.Ag (aa (dv 2) ag)))) bJ)
    (ao (aS (i := 4) S.nd rfl (Or.inl rfl) (fM (aa ae (aa ae (aa ae (aa ae (aa ae (aa ae (aa ae (aa ae ag))))))))))
    (ao (aS (i := 5) S.nd rfl (Or.inl rfl) (ey (ey (ey (aY (jV (dv 2) ae) ae) (aY (aY ae (dv 1)) (dv 1))) (aY ae (dv 1))) ae))
    (aw (aK (uD (aa (dv 3) (aa (jV (dv 5) (ay (dv 4) (jV (dv 1) ae) (fun _ _ => rfl))) ag))))))))))), fun ds μ Qd h => AV h⟩)
theorem yv : aQ ["_law_bag_here", "_law_many", "_law_digit"] ["_law_bag_here", "_law_many"] (aC gx) := ⟨rfl, rfl, rfl, by decide +kernel, rfl, by decide +kernel, by decide +kernel⟩
theorem yN (T : TX e)  : cV e := by
  have S := yv
  exact T.Bp.okD S (fun ds μ Q h => Ca h) (fun cdv A outer s H E hr => ⟨mx, (ao (cz (bI jf fm (ay (dv 0) ae (fun _ _ => rfl)) ae (aR _)) (ao (aS (i := 2) S.nd rfl (Or.inl rfl) (jV (ay (dv 0) ae (fun _ _ => rfl)) (dv 1)))
    (ao (sJ (jX (ay (dv 0) ae (fun _ _ => rfl)) (dv 1)) (EX (dv 0) ae))
    (aw (aK (dv 2))))) bJ)
    (ao (sJ (jV (ey (aY (ay (dv 0) ae (fun _ _ => rfl)) ae) ae) ae) (EX (dv 0) ae))
    (aw (aK (jV (jX (jV (kq (ay (dv 0) ae (fun _ _ => rfl)) ae) ae) ae) (dv 1)))))), fun ds μ Qd h => yI h⟩)
theorem rN : aQ ["_law_thing"] ["_law_thing"] (aC dJ) := ⟨rfl, rfl, rfl, by decide +kernel, rfl, by decide +kernel, by decide +kernel⟩
theorem si (T : TX e)  : k0 e := by
  have S := rN
  exact T.uj.okD S (fun ds μ Q h => sX h) (fun cdv A outer s H E hr => ⟨kZ, (aw (aK (n6 (jM (C2 _) rfl T.cB rfl T.vV PyProof.Rows.Boot.«int» (dv 0)) (kF (rQ (jM (Bl _) rfl T.cB rfl T.G0 PyProof.Rows.Boot.«bool» (dv 0))))))), fun ds μ Qd h => rZ h⟩)
theorem vZ : aQ ["_law_one", "_law_other"] ["_law_one", "_law_other"] (aC eQ) := ⟨rfl, rfl, rfl, by decide +kernel, rfl, by decide +kernel, by decide +kernel⟩
theorem v7 (T : TX e)  : jF e := by
  have S := vZ
  exact T.xf.okD S (fun ds μ Q h => xX h) (fun cdv A outer s H E hr => ⟨j2, (ao (n4 (i := 0) (j := 1) rfl S.nd rfl rfl (by decide) rfl rfl (aa (vw rfl T.Ag (aa (dv 0) ag)) (aa (vw rfl T.Ag (aa (dv 1) ag)) ag)) rfl)
    (ao (zU PassesOwn.never (bI jf fm (dv 1) ae (aR _)) (aw (n4 (i := 0) (j := 1) rfl S.nd rfl rfl (by decide) rfl rfl (aa (dv 1) (aa (jV (dv 0) (dv 1)) ag)) rfl)))
    (aw (aK (dv 0))))), fun ds μ Qd h => vE h⟩)
theorem wI : aQ ["_law_x"] ["_law_x"] (aC fE) := ⟨rfl, rfl, rfl, by decide +kernel, rfl, by decide +kernel, by decide +kernel⟩
theorem xm (T : TX e)  : iN e := by
  have S := wI
  exact T.ze.okD S (fun ds μ Q h => Ah h) (fun cdv A outer s H E hr => ⟨kO, (aw (aK (bM (aa (gq ae (ay (dv 0) ae (fun _ _ => rfl))) (aa (gq ae (ay (dv 0) ae (fun _ _ => rfl))) (aa (ay (dv 0) ae (fun _ _ => rfl)) ag)))))), fun ds μ Qd h => wm h⟩)
theorem yR : aQ ["_law_x"] ["_law_x"] (aC gB) := ⟨rfl, rfl, rfl, by decide +kernel, rfl, by decide +kernel, by decide +kernel⟩
theorem zk (T : TX e)  : gO e := by
  have S := yR
  exact T.AW.okD S (fun ds μ Q h => u9 h) (fun cdv A outer s H E hr => ⟨lT, (aw (aK (bM (aa (ay (dv 0) ae (fun _ _ => rfl)) (aa (gq ae (ay (dv 0) ae (fun _ _ => rfl))) (aa (ay (dv 0) ae (fun _ _ => rfl)) ag)))))), fun ds μ Qd h => zA h⟩)
theorem y9 : aQ ["_law_d", "_law_x", "_law_first", "_law_second", "_law_sides"] ["_law_d", "_law_x"] (aC gy) := ⟨rfl, rfl, rfl, by decide +kernel, rfl, by decide +kernel, by decide +kernel⟩
theorem zS (T : TX e)  : dS e := by
  have S := y9
  exact T.AY.okD S (fun ds μ Q h => uR h) (fun cdv A outer s H E hr => ⟨lU, (ao (n4 (i := 2) (j := 3) rfl S.nd rfl rfl (by decide) rfl rfl (aa (aY (ay (dv 1) ae (fun _ _ => rfl)) (ay (dv 1) ae (fun _ _ => rfl))) (aa (aY (aY (dv 0) (ay (dv 1) ae (fun _ _ => rfl))) (ay (dv 1) ae (fun _ _ => rfl))) ag)) rfl)
    (ao (aS (i := 4) S.nd rfl (Or.inl rfl) (fM (aa (gq (n8 rfl T.vV (aa (dY jf fm (ay (dv 1) ae (fun _ _ => rfl)) ae (aR _)) ag)) (n8 rfl T.vV (aa (dY tG fm (ay (dv 1) ae (fun _ _ => rfl)) ae (aR _)) ag))) (aa (gq (n8 rfl T.vV (aa (dY jf fm (ay (dv 1) ae (fun _ _ => rfl)) ae (aR _)) ag)) (n8 rfl T.vV (aa (dY tG fm (ay (dv 1) ae (fun _ _ => rfl)) ae (aR _)) ag))) ag))))
    (ao (cz (bI vk fm (aY (ay (dv 4) ae (fun _ _ => rfl)) (ay (dv 4) ae (fun _ _ => rfl))) ae (aR _)) (aw (aK (xU (bI (gb hr.units) bZ (ay (dv 4) ae (fun _ _ => rfl)) ae (aR _)) (ay (dv 4) ae (fun _ _ => rfl)) (ay (dv 4) ae (fun _ _ => rfl))))) bJ)
    (aw (aK (xU (bI jf fm (dv 2) (dv 3) (aR _)) (ay (dv 4) ae (fun _ _ => rfl)) (ay (dv 4) ae (fun _ _ => rfl)))))))), fun ds μ Qd h => zu h⟩)
theorem uh : aQ ["_law_d", "_law_kind"] ["_law_d", "_law_kind"] (aC ec) := ⟨rfl, rfl, rfl, by decide +kernel, rfl, by decide +kernel, by decide +kernel⟩
theorem tM (T : TX e)  : jc e := by
  have S := uh
  exact T.uV.okD S (fun ds μ Q h => BF h) (fun cdv A outer s H E hr => ⟨ja, (aw (aK (Je (dY (eI hr.units) bZ (ay (dv 1) ae (fun _ _ => rfl)) ae (aR _)) (kF (dY (eI hr.units) bZ (ay (dv 1) ae (fun _ _ => rfl)) ae (aR _)))))), fun ds μ Qd h => tJ h⟩)
theorem qY : aQ ["a", "b", "c"] ["a", "b", "c"] (aC dk) := ⟨rfl, rfl, rfl, by decide +kernel, rfl, by decide +kernel, by decide +kernel⟩
theorem qD (T : TX e) (fK : ko e) : gQ e := by
  have S := qY
  exact T.sh.okD S (fun ds μ Q h => Ci h) (fun cdv A outer s H E hr => ⟨gL, (aw (aK (aj fK (hr.mono (by decide)) rfl T.lj T.lB T.k7 (aa (aj fK (hr.mono (by decide)) rfl T.lj T.lB T.k7 (aa (dv 2) (aa (dv 0) ag))) (aa (dv 1) ag))))), fun ds μ Qd h => qq h⟩)
theorem BI : aQ ["d", "x"] ["d", "x"] (aC jB) := ⟨rfl, rfl, rfl, by decide +kernel, rfl, by decide +kernel, by decide +kernel⟩
theorem Cq (T : TX e) (jb : k9 e) : lV e := by
  have S := BI
  exact T.Eo.okD S (fun ds μ Q h => uR h) (fun cdv A outer s H E hr => ⟨p6, (aw (aK (aj jb (hr.mono (by decide)) rfl T.um T.tX T.ue (aa (dv 0) (aa (ay (dv 1) ae (fun _ _ => rfl)) (aa (ay (dv 1) ae (fun _ _ => rfl)) ag)))))), fun ds μ Qd h => BO h⟩)
theorem AN : aQ ["_law_a", "_law_b", "_law_c", "_law_common"] ["_law_a", "_law_b", "_law_c"] (aC iD) := ⟨rfl, rfl, rfl, by decide +kernel, rfl, by decide +kernel, by decide +kernel⟩
theorem A0 (T : TX e) (dc : jF e) : ez e := by
  have S := AN
  exact T.Cc.okD S (fun ds μ Q h => qP h) (fun cdv A outer s H E hr => ⟨nE, (ao (aS (i := 3) S.nd rfl (Or.inl rfl) (aY (aj dc (hr.mono (by decide)) rfl T.iG T.iL T.iM (aa (aj dc (hr.mono (by decide)) rfl T.iG T.iL T.iM (aa (dv 0) (aa (dv 1) ag))) (aa (dv 2) ag))) (ay (fM (aa ae (aa (nG ae) ag))) (n8 rfl T.vV (aa (dY tG fm (dv 2) ae (aR _)) ag)) (fun _ _ => rfl))))
    (aw (aK (bM (aa (jX (dv 0) (dv 3)) (aa (jX (dv 1) (dv 3)) (aa (jX (dv 2) (dv 3)) ag))))))), fun ds μ Qd h => Ar h⟩)
theorem qK : aQ ["_law_thing"] ["_law_thing"] (aC dj) := ⟨rfl, rfl, rfl, by decide +kernel, rfl, by decide +kernel, by decide +kernel⟩
theorem rh (T : TX e) (iY : k0 e) (dc : jF e) : gX e := by
  have S := qK
  exact T.sE.okD S (fun ds μ Q h => u4 h) (fun cdv A outer s H E hr => ⟨gY, (ao (cz (DW.dt (ib (dX (dD (jM (kit_tuple _) rfl T.cB rfl T.j7 PyProof.Rows.Boot.«tuple» (dv 0)))) (ib (bI (gb hr.units) bZ (i7 rfl T.kW (aa (dv 0) ag)) ae (aR _)) (jY (dX (dD (sA rfl rfl T.xr (aa (lG (N' := ["_law_one"]) (cap := [none]) rfl (l6 (dv 0)) (fun _ _ _ => (bO (i := 0) (show List.Nodup (["_law_one"] : List Str) by decide +kernel) rfl (Or.inl rfl))) (fun _ _ _ => fQ) (fun _ _ _ => (aj iY (hr.mono (by decide)) rfl T.tW T.uk T.tQ (aa (dv 0) ag))) rfl (by decide +kernel) rfl (by decide +kernel) (by intro _ _ h; first | exact h | exact cl1 h | exact cl2 (by decide +kernel) h | exact cl3 (by decide +kernel) h | exact cR (cj rfl fO) _ _ h | exact cR (cj rfl (cj rfl fO)) _ _ h | exact cR (cj rfl (cj rfl (cj rfl fO))) _ _ h | cases h) (jH rfl) rfl (ix trivial)) ag)))))))) (aw (aK iP)) bJ)
    (aw (aK (n6 (dY jf fm (ay (dv 0) ae (fun _ _ => rfl)) ae (aR _)) (kF (dY (eI hr.units) bZ (aj dc (hr.mono (by decide)) rfl T.iG T.iL T.iM (aa (aj dc (hr.mono (by decide)) rfl T.iG T.iL T.iM (aa (ay (dv 0) ae (fun _ _ => rfl)) (aa (ay (dv 0) ae (fun _ _ => rfl)) ag))) (aa (ay (dv 0) ae (fun _ _ => rfl)) ag))) ae (aR _))))))), fun ds μ Qd h => qO h⟩)
theorem yU : aQ ["_law_bag_here", "_law_some"] ["_law_bag_here"] (aC gG) := ⟨rfl, rfl, rfl, by decide +kernel, rfl, by decide +kernel, by decide +kernel⟩
theorem yV (T : TX e) (aI : cV e) : qM e := by
  have S := yU
  exact T.Aq.okD S (fun ds μ Q h => AZ h) (fun cdv A outer s H E hr => ⟨md, (ao (cz (bI (eI hr.units) bZ (aj aI (hr.mono (by decide)) rfl T.bD T.bE T.bF (aa (dv 0) (aa ae ag))) ae (aR _)) (aw (aK (ay (fM (aa ae (aa ae (aa ae ag)))) (aj aI (hr.mono (by decide)) rfl T.bD T.bE T.bF (aa (dv 0) (aa ae ag))) (fun _ _ => rfl)))) bJ)
    (ao (C4 (i := 1) (N' := ["_law_d"]) (cap := [none]) S.nd rfl rfl rfl (Hi rfl T.mH (aa ae (aa ae ag))) (fun _ _ _ => (bO (i := 0) (show List.Nodup (["_law_d"] : List Str) by decide +kernel) rfl (Or.inl rfl))) (fun _ _ _ => (FJ (bI (Ej hr.units) Kl (dv 0) (fM (aa ae (aa ae (aa ae (aa ae ag))))) (by with_unfolding_all rfl)))) (fun _ _ _ => (dv 0)) rfl (by decide +kernel) rfl (by decide +kernel) (by intro _ _ h; first | exact h | exact cl1 h | exact cl2 (by decide +kernel) h | exact cl3 (by decide +kernel) h | exact cR (cj rfl fO) _ _ h | exact cR (cj rfl (cj rfl fO)) _ _ h | exact cR (cj rfl (cj rfl (cj rfl fO))) _ _ h | cases h) (jH rfl) rfl (ix trivial))
    (aw (aK (ay (dv 1) (aj aI (hr.mono (by decide)) rfl T.bD T.bE T.bF (aa (dv 0) (aa ae ag))) (fun _ _ => rfl)))))), fun ds μ Qd h => zq h⟩)
theorem yA : aQ ["thing", "a", "b", "c"] ["thing"] (aC gC) := ⟨rfl, rfl, rfl, by decide +kernel, rfl, by decide +kernel, by decide +kernel⟩
theorem yE (T : TX e) (jG : tD e) (dq : gQ e) : rH e := by
  have S := yA
  exact T.Az.okD S (fun ds μ Q h => u4 h) (fun cdv A outer s H E hr => ⟨mq, (ao (cz (DW.dt (ib (dX (dD (jM (kit_tuple _) rfl T.cB rfl T.j7 PyProof.Rows.Boot.«tuple» (dv 0)))) (jY (bI (gb hr.units) bZ (i7 rfl T.kW (aa (dv 0) ag)) ae (aR _))))) (aw (aK iP)) bJ)
    (ao (sJ (dv 0) (BD (n := 3) rfl (eg (bO (i := 1) S.nd rfl (Or.inl rfl)) (eg (bO (i := 2) S.nd rfl (Or.inl rfl)) (eg (bO (i := 3) S.nd rfl (Or.inl rfl)) uJ)))))
    (ao (cz (DW.dt (ib (dX (dD (aj jG (hr.mono (by decide)) rfl T.qe T.qo T.qm (aa (dv 1) ag)))) (ib (dX (dD (aj jG (hr.mono (by decide)) rfl T.qe T.qo T.qm (aa (dv 2) ag)))) (jY (dX (dD (aj jG (hr.mono (by decide)) rfl T.qe T.qo T.qm (aa (dv 3) ag)))))))) (aw (aK iP)) bJ)
    (aw (aK (n6 (dY vk fm (dv 3) ae (aR _)) (kF (dY (eI hr.units) bZ (aj dq (hr.mono (by decide)) rfl T.kR T.k5 T.kT (aa (dv 1) (aa (dv 2) (aa (dv 3) ag)))) ae (aR _))))))))), fun ds μ Qd h => yb h⟩)
theorem Ew : aQ ["a", "b", "c", "divisor"] ["a", "b", "c"] (aC lh) := ⟨rfl, rfl, rfl, by decide +kernel, rfl, by decide +kernel, by decide +kernel⟩
theorem Et (T : TX e) (dq : gQ e) : jA e := by
  have S := Ew
  exact T.Fy.okD S (fun ds μ Q h => qP h) (fun cdv A outer s H E hr => ⟨sr, (ao (cz (bI (eI hr.units) bZ (dv 2) ae (aR _)) (aw vP) bJ)
    (ao (aS (i := 3) S.nd rfl (Or.inl rfl) (aj dq (hr.mono (by decide)) rfl T.kR T.k5 T.kT (aa (dv 0) (aa (dv 1) (aa (dv 2) ag)))))
    (ao (cz (bI tG fm (dv 2) ae (aR _)) (aw (aS (i := 3) S.nd rfl (Or.inl rfl) (nG (dv 3)))) bJ)
    (aw (aK (bM (aa (jX (dv 0) (dv 3)) (aa (jX (dv 1) (dv 3)) (aa (jX (dv 2) (dv 3)) ag))))))))), fun ds μ Qd h => D5 h⟩)
theorem Bm : aQ ["d", "x"] ["d", "x"] (aC ig) := ⟨rfl, rfl, rfl, by decide +kernel, rfl, by decide +kernel, by decide +kernel⟩
theorem AB (T : TX e) (d8 : lV e) : tm e := by
  have S := Bm
  exact T.Bw.okD S (fun ds μ Q h => xp h) (fun cdv A outer s H E hr => ⟨nD, (aw (aK (n6 (dY (eI hr.units) bZ (ay (dv 1) ae (fun _ _ => rfl)) ae (aR _)) (kF (dY vk fm (aj d8 (hr.mono (by decide)) rfl T.k8 T.lq T.kS (aa (dv 0) (aa (dv 1) ag))) ae (aR _)))))), fun ds μ Qd h => Ax h⟩)
theorem zd : aQ ["_law_x", "_law_y"] ["_law_x", "_law_y"] (aC gH) := ⟨rfl, rfl, rfl, by decide +kernel, rfl, by decide +kernel, by decide +kernel⟩
theorem zG (T : TX e) (bL : ez e) : cZ e := by
  have S := zd
  exact T.AS.okD S (fun ds μ Q h => vh h) (fun cdv A outer s H E hr => ⟨qJ, (aw (aK (aj bL (hr.mono (by decide)) rfl T.gj T.gn T.gu (aa (ey (aY (ay (dv 0) ae (fun _ _ => rfl)) (ay (dv 1) ae (fun _ _ => rfl))) (aY (ay (dv 1) ae (fun _ _ => rfl)) (ay (dv 0) ae (fun _ _ => rfl)))) (aa (ey (aY (ay (dv 0) ae (fun _ _ => rfl)) (ay (dv 1) ae (fun _ _ => rfl))) (aY (ay (dv 1) ae (fun _ _ => rfl)) (ay (dv 0) ae (fun _ _ => rfl)))) (aa (aY (ay (dv 0) ae (fun _ _ => rfl)) (ay (dv 1) ae (fun _ _ => rfl))) ag)))))), fun ds μ Qd h => yc h⟩)
theorem wt : aQ ["_law_d", "_law_x", "_law_y"] ["_law_d", "_law_x", "_law_y"] (aC fo) := ⟨rfl, rfl, rfl, by decide +kernel, rfl, by decide +kernel, by decide +kernel⟩
theorem w9 (T : TX e) (bL : ez e) : cA e := by
  have S := wt
  exact T.yz.okD S (fun ds μ Q h => tF h) (fun cdv A outer s H E hr => ⟨pM, (aw (aK (aj bL (hr.mono (by decide)) rfl T.gj T.gn T.gu (aa (ey (aY (ay (dv 1) ae (fun _ _ => rfl)) (ay (dv 2) ae (fun _ _ => rfl))) (aY (aY (dv 0) (ay (dv 1) ae (fun _ _ => rfl))) (ay (dv 2) ae (fun _ _ => rfl)))) (aa (ey (aY (ay (dv 1) ae (fun _ _ => rfl)) (ay (dv 2) ae (fun _ _ => rfl))) (aY (ay (dv 1) ae (fun _ _ => rfl)) (ay (dv 2) ae (fun _ _ => rfl)))) (aa (aY (ay (dv 1) ae (fun _ _ => rfl)) (ay (dv 2) ae (fun _ _ => rfl))) ag)))))), fun ds μ Qd h => wV h⟩)
theorem sD : aQ ["_law_d", "_law_x"] ["_law_d", "_law_x"] (aC dG) := ⟨rfl, rfl, rfl, by decide +kernel, rfl, by decide +kernel, by decide +kernel⟩
theorem rK (T : TX e) (bL : ez e) : cy e := by
  have S := sD
  exact T.tV.okD S (fun ds μ Q h => nT h) (fun cdv A outer s H E hr => ⟨iA, (aw (aK (aj bL (hr.mono (by decide)) rfl T.gj T.gn T.gu (aa (aY (ay (dv 1) ae (fun _ _ => rfl)) (ay (dv 1) ae (fun _ _ => rfl))) (aa (gq ae (aY (ay (dv 1) ae (fun _ _ => rfl)) (ay (dv 1) ae (fun _ _ => rfl)))) (aa (gq (aY (ay (dv 1) ae (fun _ _ => rfl)) (ay (dv 1) ae (fun _ _ => rfl))) (aY (aY (dv 0) (ay (dv 1) ae (fun _ _ => rfl))) (ay (dv 1) ae (fun _ _ => rfl)))) ag)))))), fun ds μ Qd h => rP h⟩)
theorem vf : aQ ["_law_bag_here", "_law_wide_here", "_law_a", "_law_b", "_law_c", "_law_way"] ["_law_bag_here"] (aC eP) := ⟨rfl, rfl, rfl, by decide +kernel, rfl, by decide +kernel, by decide +kernel⟩
theorem vT (T : TX e) (aI : cV e) (bL : ez e) : nI e := by
  have S := vf
  exact T.wX.okD S (fun ds μ Q h => wU h) (fun cdv A outer s H E hr => ⟨jI, (ao (aS (i := 1) S.nd rfl (Or.inl rfl) (ay (fM (aa ae (aa ae (aa ae (aa ae ag))))) (aj aI (hr.mono (by decide)) rfl T.bD T.bE T.bF (aa (dv 0) (aa ae ag))) (fun _ _ => rfl)))
    (ao (n4 (i := 2) (j := 3) rfl S.nd rfl rfl (by decide) rfl rfl (aa (gq (aj aI (hr.mono (by decide)) rfl T.bD T.bE T.bF (aa (dv 0) (aa (dv 1) ag))) (jX (dv 1) ae)) (aa (gq (aj aI (hr.mono (by decide)) rfl T.bD T.bE T.bF (aa (dv 0) (aa (dv 1) ag))) (jX (dv 1) ae)) ag)) rfl)
    (ao (aS (i := 4) S.nd rfl (Or.inl rfl) (ey ae (aj aI (hr.mono (by decide)) rfl T.bD T.bE T.bF (aa (dv 0) (aa (gq (dv 1) ae) ag)))))
    (ao (aS (i := 5) S.nd rfl (Or.inl rfl) (aj aI (hr.mono (by decide)) rfl T.bD T.bE T.bF (aa (dv 0) (aa ae ag))))
    (aw (aK (aj bL (hr.mono (by decide)) rfl T.gj T.gn T.gu (aa (ay (fM (aa (dv 2) (aa (dv 2) (aa (dv 2) (aa (dv 2) (aa (dv 2) (aa (dv 2) (aa (dv 2) (aa ae ag))))))))) (dv 5) (fun _ _ => rfl)) (aa (ay (fM (aa (dv 3) (aa (dv 3) (aa (dv 3) (aa (dv 3) (aa (dv 3) (aa ae (aa ae (aa (dv 3) ag))))))))) (dv 5) (fun _ _ => rfl)) (aa (ay (fM (aa (dv 4) (aa (dv 4) (aa ae (aa (dv 4) (aa ae (aa (dv 4) (aa ae (aa (dv 4) ag))))))))) (dv 5) (fun _ _ => rfl)) ag)))))))))), fun ds μ Qd h => uQ h⟩)
theorem sF : aQ ["_law_bag_here", "_law_wide_here"] ["_law_bag_here"] (aC dI) := ⟨rfl, rfl, rfl, by decide +kernel, rfl, by decide +kernel, by decide +kernel⟩
theorem sP (T : TX e) (aI : cV e) (bL : ez e) : fJ e := by
  have S := sF
  exact T.tN.okD S (fun ds μ Q h => Aw h) (fun cdv A outer s H E hr => ⟨iC, (ao (aS (i := 1) S.nd rfl (Or.inl rfl) (ay (fM (aa ae (aa ae (aa ae (aa ae ag))))) (aj aI (hr.mono (by decide)) rfl T.bD T.bE T.bF (aa (dv 0) (aa ae ag))) (fun _ _ => rfl)))
    (aw (aK (aj bL (hr.mono (by decide)) rfl T.gj T.gn T.gu (aa (ey ae (aj aI (hr.mono (by decide)) rfl T.bD T.bE T.bF (aa (dv 0) (aa (dv 1) ag)))) (aa ae (aa (ey ae (aj aI (hr.mono (by decide)) rfl T.bD T.bE T.bF (aa (dv 0) (aa (dv 1) ag)))) ag))))))), fun ds μ Qd h => rM h⟩)
theorem zz : aQ ["_law_bag_here", "_law_d", "_law_parts", "_law_turn", "_law_found", "_law_k", "_law_x"] ["_law_bag_here", "_law_d"] (aC gE) := ⟨rfl, rfl, rfl, by decide +kernel, rfl, by decide +kernel, by decide +kernel⟩
theorem yM (T : TX e) (aI : cV e) (bL : ez e) (cX : iN e) (bj : dS e) : q0 e := by
  have S := zz
  exact T.AK.okD S (fun ds μ Q h => AM h) (fun cdv A outer s H E hr => ⟨lJ, (ao (aS (i := 2) S.nd rfl (Or.inl rfl) (uD ag))
    (ao (mj PassesOwn.never rfl (oR rfl T.mH (aa ae ag)) (bO (i := 3) S.nd rfl (Or.inl rfl)) (ao (aS (i := 4) S.nd rfl (Or.inl rfl) ae)
    (ao (mj PassesOwn.never rfl (oR rfl T.mH (aa ae ag)) (bO (i := 5) S.nd rfl (Or.inl rfl)) (aw (aS (i := 4) S.nd rfl (Or.inl rfl) (ey (aY (dv 4) (kq ae ae)) (aj aI (hr.mono (by decide)) rfl T.bD T.bE T.bF (aa (dv 0) (aa (kq ae ae) ag)))))))
    (aw (oU (oD (dv 2) (dv 4)))))))
    (ao (aS (i := 6) S.nd rfl (Or.inl rfl) (aj bL (hr.mono (by decide)) rfl T.gj T.gn T.gu (aa (gq (ay (dv 2) ae (fun _ _ => rfl)) (aY ae (kq ae ae))) (aa (gq (ay (dv 2) ae (fun _ _ => rfl)) (aY ae (kq ae ae))) (aa (ey ae (jV (ay (dv 2) ae (fun _ _ => rfl)) (kq ae ae))) ag)))))
    (aw (aK (ay (fM (aa (bM (aa ae (aa ae (aa ae ag)))) (aa (dv 6) (aa (aj cX (hr.mono (by decide)) rfl T.lR T.l5 T.lH (aa (dv 6) ag)) ag)))) (aj bj (hr.mono (by decide)) rfl T.da T.dg T.df (aa (dv 1) (aa (dv 6) ag))) (fun _ _ => rfl))))))), fun ds μ Qd h => yP h⟩)
theorem Iz : aQ ["x", "y"] ["x", "y"] (aC sO) := ⟨rfl, rfl, rfl, by decide +kernel, rfl, by decide +kernel, by decide +kernel⟩
theorem aW (T : TX e) (dz : jA e) : DM e := by
  have S := Iz
  exact T.Jx.okD S (fun ds μ Q h => vh h) (fun cdv A outer s H E hr => ⟨zO, (aw (aK (aj dz (hr.mono (by decide)) rfl T.nY T.nR T.nr (aa (ey (aY (ay (dv 0) ae (fun _ _ => rfl)) (ay (dv 1) ae (fun _ _ => rfl))) (aY (ay (dv 1) ae (fun _ _ => rfl)) (ay (dv 0) ae (fun _ _ => rfl)))) (aa (ey (aY (ay (dv 0) ae (fun _ _ => rfl)) (ay (dv 1) ae (fun _ _ => rfl))) (aY (ay (dv 1) ae (fun _ _ => rfl)) (ay (dv 0) ae (fun _ _ => rfl)))) (aa (aY (ay (dv 0) ae (fun _ _ => rfl)) (ay (dv 1) ae (fun _ _ => rfl))) ag)))))), fun ds μ Qd h => CQ h⟩)
theorem HX : aQ ["x", "y"] ["x", "y"] (aC rJ) := ⟨rfl, rfl, rfl, by decide +kernel, rfl, by decide +kernel, by decide +kernel⟩
theorem j8 (T : TX e) (dz : jA e) : yH e := by
  have S := HX
  exact T.JK.okD S (fun ds μ Q h => BB h) (fun cdv A outer s H E hr => ⟨y7, (aw (aK (aj dz (hr.mono (by decide)) rfl T.nY T.nR T.nr (aa (gq (aY (ay (dv 0) ae (fun _ _ => rfl)) (ay (dv 1) ae (fun _ _ => rfl))) (aY (ay (dv 1) ae (fun _ _ => rfl)) (ay (dv 0) ae (fun _ _ => rfl)))) (aa (gq (aY (ay (dv 0) ae (fun _ _ => rfl)) (ay (dv 1) ae (fun _ _ => rfl))) (aY (ay (dv 1) ae (fun _ _ => rfl)) (ay (dv 0) ae (fun _ _ => rfl)))) (aa (aY (ay (dv 0) ae (fun _ _ => rfl)) (ay (dv 1) ae (fun _ _ => rfl))) ag)))))), fun ds μ Qd h => Im h⟩)
theorem EE : aQ ["d", "x", "y"] ["d", "x", "y"] (aC oH) := ⟨rfl, rfl, rfl, by decide +kernel, rfl, by decide +kernel, by decide +kernel⟩
theorem ah (T : TX e) (dz : jA e) : nN e := by
  have S := EE
  exact T.Iv.okD S (fun ds μ Q h => tF h) (fun cdv A outer s H E hr => ⟨uW, (aw (aK (aj dz (hr.mono (by decide)) rfl T.nY T.nR T.nr (aa (ey (aY (ay (dv 1) ae (fun _ _ => rfl)) (ay (dv 2) ae (fun _ _ => rfl))) (aY (aY (dv 0) (ay (dv 1) ae (fun _ _ => rfl))) (ay (dv 2) ae (fun _ _ => rfl)))) (aa (ey (aY (ay (dv 1) ae (fun _ _ => rfl)) (ay (dv 2) ae (fun _ _ => rfl))) (aY (ay (dv 1) ae (fun _ _ => rfl)) (ay (dv 2) ae (fun _ _ => rfl)))) (aa (aY (ay (dv 1) ae (fun _ _ => rfl)) (ay (dv 2) ae (fun _ _ => rfl))) ag)))))), fun ds μ Qd h => A3 h⟩)
theorem Bf : aQ ["d", "x", "norm"] ["d", "x"] (aC iE) := ⟨rfl, rfl, rfl, by decide +kernel, rfl, by decide +kernel, by decide +kernel⟩
theorem ax (T : TX e) (dz : jA e) : nt e := by
  have S := Bf
  exact T.BJ.okD S (fun ds μ Q h => nT h) (fun cdv A outer s H E hr => ⟨ng, (ao (aS (i := 2) S.nd rfl (Or.inl rfl) (gq (aY (ay (dv 1) ae (fun _ _ => rfl)) (ay (dv 1) ae (fun _ _ => rfl))) (aY (aY (dv 0) (ay (dv 1) ae (fun _ _ => rfl))) (ay (dv 1) ae (fun _ _ => rfl)))))
    (aw (aK (aj dz (hr.mono (by decide)) rfl T.nY T.nR T.nr (aa (aY (ay (dv 1) ae (fun _ _ => rfl)) (ay (dv 1) ae (fun _ _ => rfl))) (aa (aY (nG (ay (dv 1) ae (fun _ _ => rfl))) (ay (dv 1) ae (fun _ _ => rfl))) (aa (dv 2) ag))))))), fun ds μ Qd h => Ba h⟩)
theorem pW : aQ ["d", "thing"] ["d", "thing"] (aC cQ) := ⟨rfl, rfl, rfl, by decide +kernel, rfl, by decide +kernel, by decide +kernel⟩
theorem qj (T : TX e) (nh : rH e) (d8 : lV e) : jO e := by
  have S := pW
  exact T.rz.okD S (fun ds μ Q h => yo h) (fun cdv A outer s H E hr => ⟨fZ, (aw (aK (n6 (aj nh (hr.mono (by decide)) rfl T.Aj T.AJ T.AI (aa (dv 1) ag)) (kF (dY (eI hr.units) bZ (aj d8 (hr.mono (by decide)) rfl T.k8 T.lq T.kS (aa (dv 0) (aa (dv 1) ag))) ae (aR _)))))), fun ds μ Qd h => qc h⟩)
theorem wR : aQ ["_law_d", "_law_x", "_law_y"] ["_law_d", "_law_x", "_law_y"] (aC fF) := ⟨rfl, rfl, rfl, by decide +kernel, rfl, by decide +kernel, by decide +kernel⟩
theorem wW (T : TX e) (bj : dS e) (aP : cZ e) (cX : iN e) : kI e := by
  have S := wR
  exact T.yY.okD S (fun ds μ Q h => Bc h) (fun cdv A outer s H E hr => ⟨ky, (aw (aK (dY jf fm (aj bj (hr.mono (by decide)) rfl T.da T.dg T.df (aa (dv 0) (aa (aj aP (hr.mono (by decide)) rfl T.bW T.bY T.bX (aa (dv 2) (aa (aj cX (hr.mono (by decide)) rfl T.lR T.l5 T.lH (aa (dv 1) ag)) ag))) ag))) ae (aR _)))), fun ds μ Qd h => wx h⟩)
theorem xl : aQ ["_law_bag_here", "_law_d", "_law_x", "_law_sign_here"] ["_law_bag_here", "_law_d"] (aC fG) := ⟨rfl, rfl, rfl, by decide +kernel, rfl, by decide +kernel, by decide +kernel⟩
theorem xk (T : TX e) (kG : nI e) (bj : dS e) (aI : cV e) (cX : iN e) : ku e := by
  have S := xl
  exact T.zN.okD S (fun ds μ Q h => zJ h) (fun cdv A outer s H E hr => ⟨kE, (ao (aS (i := 2) S.nd rfl (Or.inl rfl) (aj kG (hr.mono (by decide)) rfl T.wA T.xg T.wM (aa (dv 0) ag)))
    (ao (aS (i := 3) S.nd rfl (Or.inl rfl) (aj bj (hr.mono (by decide)) rfl T.da T.dg T.df (aa (dv 1) (aa (dv 2) ag))))
    (ao (cz (bI (eI hr.units) bZ (dv 3) ae (aR _)) (aw (aK (bM (aa (ey ae (aj aI (hr.mono (by decide)) rfl T.bD T.bE T.bF (aa (dv 0) (aa ae ag)))) (aa ae (aa ae ag)))))) bJ)
    (aw (aK (xU (bI jf fm (dv 3) ae (aR _)) (dv 2) (aj cX (hr.mono (by decide)) rfl T.lR T.l5 T.lH (aa (dv 2) ag)))))))), fun ds μ Qd h => wu h⟩)
theorem xj : aQ ["_law_d", "_law_weights", "_law_width", "_law_height", "_law_p", "_law_q", "_law_s", "_law_t", "_law_first", "_law_second"] ["_law_d", "_law_weights", "_law_width", "_law_height"] (aC fH) := ⟨rfl, rfl, rfl, by decide +kernel, rfl, by decide +kernel, by decide +kernel⟩
theorem xc (T : TX e) (aP : cZ e) (av : cA e) (bR : gO e) : pA e := by
  have S := xj
  exact T.yn.okD S (fun ds μ Q h => wq h) (fun cdv A outer s H E hr => ⟨kD, (ao (sJ (dv 1) (BD (n := 4) rfl (eg (bO (i := 4) S.nd rfl (Or.inl rfl)) (eg (bO (i := 5) S.nd rfl (Or.inl rfl)) (eg (bO (i := 6) S.nd rfl (Or.inl rfl)) (eg (bO (i := 7) S.nd rfl (Or.inl rfl)) uJ))))))
    (ao (aS (i := 8) S.nd rfl (Or.inl rfl) (aj aP (hr.mono (by decide)) rfl T.bW T.bY T.bX (aa (aj av (hr.mono (by decide)) rfl T.aD T.aF T.aG (aa (dv 0) (aa (dv 4) (aa (dv 3) ag)))) (aa (aj av (hr.mono (by decide)) rfl T.aD T.aF T.aG (aa (dv 0) (aa (dv 5) (aa (aj bR (hr.mono (by decide)) rfl T.dQ T.dP T.dW (aa (dv 3) ag)) ag)))) ag))))
    (ao (aS (i := 9) S.nd rfl (Or.inl rfl) (aj aP (hr.mono (by decide)) rfl T.bW T.bY T.bX (aa (aj av (hr.mono (by decide)) rfl T.aD T.aF T.aG (aa (dv 0) (aa (dv 6) (aa (dv 3) ag)))) (aa (aj av (hr.mono (by decide)) rfl T.aD T.aF T.aG (aa (dv 0) (aa (dv 7) (aa (aj bR (hr.mono (by decide)) rfl T.dQ T.dP T.dW (aa (dv 3) ag)) ag)))) ag))))
    (aw (aK (aj aP (hr.mono (by decide)) rfl T.bW T.bY T.bX (aa (aj av (hr.mono (by decide)) rfl T.aD T.aF T.aG (aa (dv 0) (aa (dv 2) (aa (dv 8) ag)))) (aa (aj av (hr.mono (by decide)) rfl T.aD T.aF T.aG (aa (dv 0) (aa (aj bR (hr.mono (by decide)) rfl T.dQ T.dP T.dW (aa (dv 2) ag)) (aa (dv 9) ag)))) ag)))))))), fun ds μ Qd h => wJ h⟩)
theorem mR : aQ ["_law_d", "_law_shape_here", "_law_both"] ["_law_d", "_law_shape_here"] (aC cx) := ⟨rfl, rfl, rfl, by decide +kernel, rfl, by decide +kernel, by decide +kernel⟩
theorem mU (T : TX e) (aP : cZ e) (bR : gO e) (av : cA e) (aN : cy e) : ic e := by
  have S := mR
  exact T.mY.okD S (fun ds μ Q h => zj h) (fun cdv A outer s H E hr => ⟨eT, (ao (aS (i := 2) S.nd rfl (Or.inl rfl) (aj aP (hr.mono (by decide)) rfl T.bW T.bY T.bX (aa (dv 1) (aa (aj bR (hr.mono (by decide)) rfl T.dQ T.dP T.dW (aa (dv 1) ag)) ag))))
    (aw (aK (aj av (hr.mono (by decide)) rfl T.aD T.aF T.aG (aa (dv 0) (aa (aj av (hr.mono (by decide)) rfl T.aD T.aF T.aG (aa (dv 0) (aa (dv 2) (aa (dv 2) ag)))) (aa (aj aN (hr.mono (by decide)) rfl T.cH T.cG T.cF (aa (dv 0) (aa (aj av (hr.mono (by decide)) rfl T.aD T.aF T.aG (aa (dv 0) (aa (dv 1) (aa (aj bR (hr.mono (by decide)) rfl T.dQ T.dP T.dW (aa (dv 1) ag)) ag)))) ag))) ag))))))), fun ds μ Qd h => mS h⟩)
theorem pT : aQ ["_law_d", "_law_kind", "_law_shape_here", "_law_thing", "_law_both"] ["_law_d", "_law_kind", "_law_shape_here", "_law_thing"] (aC cT) := ⟨rfl, rfl, rfl, by decide +kernel, rfl, by decide +kernel, by decide +kernel⟩
theorem p7 (T : TX e) (cL : gX e) (av : cA e) (aN : cy e) (aP : cZ e) : j0 e := by
  have S := pT
  exact T.qW.okD S (fun ds μ Q h => zF h) (fun cdv A outer s H E hr => ⟨gm, (ao (cz (DW.dt (ib (dX (dD (jM (kit_tuple _) rfl T.cB rfl T.j7 PyProof.Rows.Boot.«tuple» (dv 3)))) (ib (bI (gb hr.units) bZ (i7 rfl T.kW (aa (dv 3) ag)) ae (aR _)) (jY (dX (dD (sA rfl rfl T.xr (aa (lG (N' := ["_law_one"]) (cap := [none]) rfl (l6 (dv 3)) (fun _ _ _ => (bO (i := 0) (show List.Nodup (["_law_one"] : List Str) by decide +kernel) rfl (Or.inl rfl))) (fun _ _ _ => fQ) (fun _ _ _ => (aj cL (hr.mono (by decide)) rfl T.iu T.iB T.iF (aa (dv 0) ag))) rfl (by decide +kernel) rfl (by decide +kernel) (by intro _ _ h; first | exact h | exact cl1 h | exact cl2 (by decide +kernel) h | exact cl3 (by decide +kernel) h | exact cR (cj rfl fO) _ _ h | exact cR (cj rfl (cj rfl fO)) _ _ h | exact cR (cj rfl (cj rfl (cj rfl fO))) _ _ h | cases h) (jH rfl) rfl (ix trivial)) ag)))))))) (aw (aK iP)) bJ)
    (ao (cz (dX (dD (sA rfl rfl T.xr (aa (lG (N' := ["_law_one"]) (cap := [none]) rfl (l6 (dv 3)) (fun _ _ _ => (bO (i := 0) (show List.Nodup (["_law_one"] : List Str) by decide +kernel) rfl (Or.inl rfl))) (fun _ _ _ => fQ) (fun _ _ _ => (n6 (dY (eI hr.units) bZ (ay (dv 0) ae (fun _ _ => rfl)) ae (aR _)) (kF (dY vk fm (ay (dv 0) ae (fun _ _ => rfl)) ae (aR _))))) rfl (by decide +kernel) rfl (by decide +kernel) (by intro _ _ h; first | exact h | exact cl1 h | exact cl2 (by decide +kernel) h | exact cl3 (by decide +kernel) h | exact cR (cj rfl fO) _ _ h | exact cR (cj rfl (cj rfl fO)) _ _ h | exact cR (cj rfl (cj rfl (cj rfl fO))) _ _ h | cases h) (jH rfl) rfl (ix trivial)) ag)))) (aw (aK iP)) bJ)
    (ao (aS (i := 4) S.nd rfl (Or.inl rfl) (fM (aa (aj av (hr.mono (by decide)) rfl T.aD T.aF T.aG (aa (dv 0) (aa (ay (dv 3) ae (fun _ _ => rfl)) (aa (dv 1) ag)))) (aa (aj av (hr.mono (by decide)) rfl T.aD T.aF T.aG (aa (dv 0) (aa (ay (dv 3) ae (fun _ _ => rfl)) (aa (aj aN (hr.mono (by decide)) rfl T.cH T.cG T.cF (aa (dv 0) (aa (dv 1) ag))) ag)))) ag))))
    (aw (aK (dY (eI hr.units) bZ (aj aP (hr.mono (by decide)) rfl T.bW T.bY T.bX (aa (ay (dv 4) ae (fun _ _ => rfl)) (aa (ay (dv 4) ae (fun _ _ => rfl)) ag))) (dv 2) (aR _))))))), fun ds μ Qd h => qf h⟩)
theorem pe : aQ ["_law_bag_here", "_law_d", "_law_kind", "_law_u", "_law_v", "_law_turned_kind", "_law_found", "_law_one", "_law_beside", "_law_shape_here"] ["_law_bag_here", "_law_d", "_law_kind"] (aC cK) := ⟨rfl, rfl, rfl, by decide +kernel, rfl, by decide +kernel, by decide +kernel⟩
theorem pq (T : TX e) (bS : fJ e) (aN : cy e) (av : cA e) (aP : cZ e) (bj : dS e) : je e := by
  have S := pe
  exact T.qk.okD S (fun ds μ Q h => zi h) (fun cdv A outer s H E hr => ⟨fL, (ao (n4 (i := 3) (j := 4) rfl S.nd rfl rfl (by decide) rfl rfl (aa (aj bS (hr.mono (by decide)) rfl T.eN T.eM T.eO (aa (dv 0) ag)) (aa (aj bS (hr.mono (by decide)) rfl T.eN T.eM T.eO (aa (dv 0) ag)) ag)) rfl)
    (ao (aS (i := 5) S.nd rfl (Or.inl rfl) (aj aN (hr.mono (by decide)) rfl T.cH T.cG T.cF (aa (dv 1) (aa (dv 2) ag))))
    (ao (aS (i := 6) S.nd rfl (Or.inl rfl) (uD (aa (aj av (hr.mono (by decide)) rfl T.aD T.aF T.aG (aa (dv 1) (aa (dv 3) (aa (dv 2) ag)))) (aa (aj av (hr.mono (by decide)) rfl T.aD T.aF T.aG (aa (dv 1) (aa (dv 4) (aa (dv 5) ag)))) ag))))
    (ao (oU (oD (dv 6) (aj aP (hr.mono (by decide)) rfl T.bW T.bY T.bX (aa (ay (dv 6) ae (fun _ _ => rfl)) (aa (ay (dv 6) ae (fun _ _ => rfl)) ag)))))
    (ao (mj PassesOwn.never rfl (yQ (Bq (dv 6) Dt (CY ae))) (bO (i := 7) S.nd rfl (Or.inl rfl)) (aw (mj PassesOwn.never rfl (yQ (fM (aa (bM (aa ae (aa ae (aa (kq ae ae) ag)))) (aa (bM (aa ae (aa (nG ae) (aa (kq ae ae) ag)))) (aa (bM (aa ae (aa ae (aa (kq ae ae) ag)))) ag))))) (bO (i := 8) S.nd rfl (Or.inl rfl)) (ao (aS (i := 9) S.nd rfl (Or.inl rfl) (aj aP (hr.mono (by decide)) rfl T.bW T.bY T.bX (aa (dv 7) (aa (dv 8) ag))))
    (aw (cz (bI jf fm (aj bj (hr.mono (by decide)) rfl T.da T.dg T.df (aa (dv 1) (aa (dv 9) ag))) ae (aR _)) (aw (oU (oD (dv 6) (dv 9)))) bJ))))))
    (aw (aK (dv 6)))))))), fun ds μ Qd h => pj h⟩)
theorem HV : aQ ["d", "x", "y"] ["d", "x", "y"] (aC rW) := ⟨rfl, rfl, rfl, by decide +kernel, rfl, by decide +kernel, by decide +kernel⟩
theorem Hg (T : TX e) (eG : nN e) (ij : nt e) : uE e := by
  have S := HV
  exact T.JN.okD S (fun ds μ Q h => Cw h) (fun cdv A outer s H E hr => ⟨yW, (ao (cz (bI (eI hr.units) bZ (dv 2) (jL rfl T.mX) (aR _)) (aw vP) bJ)
    (aw (aK (aj eG (hr.mono (by decide)) rfl T.mn T.lE T.mG (aa (dv 0) (aa (dv 1) (aa (aj ij (hr.mono (by decide)) rfl T.we T.u6 T.vt (aa (dv 0) (aa (dv 2) ag))) ag))))))), fun ds μ Qd h => HM h⟩)
theorem lu : aQ ["d", "thing"] ["d", "thing"] (aC cb) := ⟨rfl, rfl, rfl, by decide +kernel, rfl, by decide +kernel, by decide +kernel⟩
theorem kX (T : TX e) (gM : jO e) : gz e := by
  have S := lu
  exact T.lN.okD S (fun ds μ Q h => tT h) (fun cdv A outer s H E hr => ⟨ej, (aw (cz (dX (dD (aj gM (hr.mono (by decide)) rfl T.qX T.rg T.rD (aa (dv 0) (aa (dv 1) ag))))) (aw vP) bJ)), fun ds μ Qd h => kU h⟩)
theorem HR : aQ ["shape", "way"] ["shape", "way"] (aC rT) := ⟨rfl, rfl, rfl, by decide +kernel, rfl, by decide +kernel, by decide +kernel⟩
theorem cw (T : TX e) (sf : yH e) (kC : yK e) (B8 : DM e) : DJ e := by
  have S := HR
  exact T.JM.okD S (fun ds μ Q h => Bv h) (fun cdv A outer s H E hr => ⟨y8, (aw (aK (xU (bI jf fm (dv 1) ae (aR _)) (aj sf (hr.mono (by decide)) rfl T.E2 T.Gj T.Gh (aa (dv 0) (aa (aj kC (hr.mono (by decide)) rfl T.sH T.sj T.sS (aa (dv 0) ag)) ag))) (aj B8 (hr.mono (by decide)) rfl T.Lf T.KG T.La (aa (dv 0) (aa (aj kC (hr.mono (by decide)) rfl T.sH T.sj T.sS (aa (dv 0) ag)) ag)))))), fun ds μ Qd h => Ie h⟩)
theorem wC : aQ ["_law_bag_here", "_law_d", "_law_found", "_law_turn", "_law_way", "_law_part", "_law_kind"] ["_law_bag_here", "_law_d"] (aC fz) := ⟨rfl, rfl, rfl, by decide +kernel, rfl, by decide +kernel, by decide +kernel⟩
theorem wD (T : TX e) (dM : ku e) (aI : cV e) (aN : cy e) (av : cA e) (bL : ez e) : pG e := by
  have S := wC
  exact T.zQ.okD S (fun ds μ Q h => yy h) (fun cdv A outer s H E hr => ⟨kx, (ao (aS (i := 2) S.nd rfl (Or.inl rfl) (uD (aa (aj dM (hr.mono (by decide)) rfl T.jt T.ji T.jn (aa (dv 0) (aa (dv 1) ag))) ag)))
    (ao (mj PassesOwn.never rfl (oR rfl T.mH (aa (aj aI (hr.mono (by decide)) rfl T.bD T.bE T.bF (aa (dv 0) (aa ae ag))) ag)) (bO (i := 3) S.nd rfl (Or.inl rfl)) (ao (aS (i := 4) S.nd rfl (Or.inl rfl) (aj aI (hr.mono (by decide)) rfl T.bD T.bE T.bF (aa (dv 0) (aa ae ag))))
    (ao (aS (i := 5) S.nd rfl (Or.inl rfl) (bM (aa (ey ae (aj aI (hr.mono (by decide)) rfl T.bD T.bE T.bF (aa (dv 0) (aa ae ag)))) (aa ae (aa (ey ae (aj aI (hr.mono (by decide)) rfl T.bD T.bE T.bF (aa (dv 0) (aa ae ag)))) ag)))))
    (ao (aS (i := 6) S.nd rfl (Or.inl rfl) (ay (fM (aa (ay (dv 2) ae (fun _ _ => rfl)) (aa (aj aN (hr.mono (by decide)) rfl T.cH T.cG T.cF (aa (dv 1) (aa (ay (dv 2) ae (fun _ _ => rfl)) ag))) ag))) (jV (dv 4) ae) (fun _ _ => rfl)))
    (ao (cz (bI jf fm (dv 4) ae (aR _)) (aw (aS (i := 6) S.nd rfl (Or.inl rfl) (aj dM (hr.mono (by decide)) rfl T.jt T.ji T.jn (aa (dv 0) (aa (dv 1) ag))))) (aw (cz (bI jf fm (dv 4) ae (aR _)) (aw (aS (i := 6) S.nd rfl (Or.inl rfl) (aj av (hr.mono (by decide)) rfl T.aD T.aF T.aG (aa (dv 1) (aa (dv 6) (aa (aj bL (hr.mono (by decide)) rfl T.gj T.gn T.gu (aa (ay (dv 5) ae (fun _ _ => rfl)) (aa (ay (dv 5) ae (fun _ _ => rfl)) (aa (ay (dv 5) ae (fun _ _ => rfl)) ag)))) ag)))))) bJ)))
    (aw (oU (oD (dv 2) (dv 6)))))))))
    (aw (aK (GL rfl T.j7 (aa (dv 2) ag)))))), fun ds μ Qd h => xa h⟩)
theorem mC : aQ ["_law_d", "_law_weights", "_law_kind", "_law_p", "_law_q", "_law_s", "_law_t", "_law_first", "_law_last", "_law_middle", "_law_four"] ["_law_d", "_law_weights", "_law_kind"] (aC cq) := ⟨rfl, rfl, rfl, by decide +kernel, rfl, by decide +kernel, by decide +kernel⟩
theorem lY (T : TX e) (av : cA e) (bR : gO e) (aP : cZ e) (bj : dS e) (eJ : kI e) : gN e := by
  have S := mC
  exact T.mQ.okD S (fun ds μ Q h => A4 h) (fun cdv A outer s H E hr => ⟨eA, (ao (sJ (dv 1) (BD (n := 4) rfl (eg (bO (i := 3) S.nd rfl (Or.inl rfl)) (eg (bO (i := 4) S.nd rfl (Or.inl rfl)) (eg (bO (i := 5) S.nd rfl (Or.inl rfl)) (eg (bO (i := 6) S.nd rfl (Or.inl rfl)) uJ))))))
    (ao (n4 (i := 7) (j := 8) rfl S.nd rfl rfl (by decide) rfl rfl (aa (aj av (hr.mono (by decide)) rfl T.aD T.aF T.aG (aa (dv 0) (aa (dv 3) (aa (dv 2) ag)))) (aa (aj av (hr.mono (by decide)) rfl T.aD T.aF T.aG (aa (dv 0) (aa (dv 6) (aa (aj bR (hr.mono (by decide)) rfl T.dQ T.dP T.dW (aa (dv 2) ag)) ag)))) ag)) rfl)
    (ao (aS (i := 9) S.nd rfl (Or.inl rfl) (aj aP (hr.mono (by decide)) rfl T.bW T.bY T.bX (aa (aj av (hr.mono (by decide)) rfl T.aD T.aF T.aG (aa (dv 0) (aa (dv 4) (aa (aj bR (hr.mono (by decide)) rfl T.dQ T.dP T.dW (aa (dv 2) ag)) ag)))) (aa (aj av (hr.mono (by decide)) rfl T.aD T.aF T.aG (aa (dv 0) (aa (dv 5) (aa (dv 2) ag)))) ag))))
    (ao (cz (DW.dt (ib (bI tG fm (aj bj (hr.mono (by decide)) rfl T.da T.dg T.df (aa (dv 0) (aa (dv 7) ag))) ae (aR _)) (jY (bI tG fm (aj bj (hr.mono (by decide)) rfl T.da T.dg T.df (aa (dv 0) (aa (dv 8) ag))) ae (aR _))))) (aw (aK iP)) bJ)
    (ao (aS (i := 10) S.nd rfl (Or.inl rfl) (aj av (hr.mono (by decide)) rfl T.aD T.aF T.aG (aa (dv 0) (aa (bM (aa ae (aa ae (aa ae ag)))) (aa (aj av (hr.mono (by decide)) rfl T.aD T.aF T.aG (aa (dv 0) (aa (dv 7) (aa (dv 8) ag)))) ag)))))
    (aw (aK (rQ (aj eJ (hr.mono (by decide)) rfl T.mr T.me T.ma (aa (dv 0) (aa (dv 10) (aa (aj av (hr.mono (by decide)) rfl T.aD T.aF T.aG (aa (dv 0) (aa (dv 9) (aa (dv 9) ag)))) ag)))))))))))), fun ds μ Qd h => mf h⟩)
theorem wo : aQ ["_law_bag_here", "_law_d", "_law_kinds_here", "_law_kind", "_law_other", "_law_u", "_law_v", "_law_way", "_law_turned_kind", "_law_some"] ["_law_bag_here", "_law_d", "_law_kinds_here"] (aC fA) := ⟨rfl, rfl, rfl, by decide +kernel, rfl, by decide +kernel, by decide +kernel⟩
theorem wz (T : TX e) (aI : cV e) (bS : fJ e) (aN : cy e) (dM : ku e) (av : cA e) (aP : cZ e) : pI e := by
  have S := wo
  exact T.yJ.okD S (fun ds μ Q h => yT h) (fun cdv A outer s H E hr => ⟨kJ, (ao (aS (i := 3) S.nd rfl (Or.inl rfl) (ay (dv 2) (aj aI (hr.mono (by decide)) rfl T.bD T.bE T.bF (aa (dv 0) (aa (i7 rfl T.kW (aa (dv 2) ag)) ag))) (fun _ _ => rfl)))
    (ao (aS (i := 4) S.nd rfl (Or.inl rfl) (ay (dv 2) (aj aI (hr.mono (by decide)) rfl T.bD T.bE T.bF (aa (dv 0) (aa (i7 rfl T.kW (aa (dv 2) ag)) ag))) (fun _ _ => rfl)))
    (ao (n4 (i := 5) (j := 6) rfl S.nd rfl rfl (by decide) rfl rfl (aa (aj bS (hr.mono (by decide)) rfl T.eN T.eM T.eO (aa (dv 0) ag)) (aa (aj bS (hr.mono (by decide)) rfl T.eN T.eM T.eO (aa (dv 0) ag)) ag)) rfl)
    (ao (aS (i := 7) S.nd rfl (Or.inl rfl) (aj aI (hr.mono (by decide)) rfl T.bD T.bE T.bF (aa (dv 0) (aa ae ag))))
    (ao (aS (i := 8) S.nd rfl (Or.inl rfl) (aj aN (hr.mono (by decide)) rfl T.cH T.cG T.cF (aa (dv 1) (aa (dv 3) ag))))
    (ao (aS (i := 9) S.nd rfl (Or.inl rfl) (fM (aa (aj dM (hr.mono (by decide)) rfl T.jt T.ji T.jn (aa (dv 0) (aa (dv 1) ag))) (aa (aj av (hr.mono (by decide)) rfl T.aD T.aF T.aG (aa (dv 1) (aa (dv 3) (aa (dv 5) ag)))) (aa (aj av (hr.mono (by decide)) rfl T.aD T.aF T.aG (aa (dv 1) (aa (dv 8) (aa (dv 5) ag)))) (aa (aj aP (hr.mono (by decide)) rfl T.bW T.bY T.bX (aa (aj av (hr.mono (by decide)) rfl T.aD T.aF T.aG (aa (dv 1) (aa (dv 3) (aa (dv 5) ag)))) (aa (aj av (hr.mono (by decide)) rfl T.aD T.aF T.aG (aa (dv 1) (aa (dv 8) (aa (dv 6) ag)))) ag))) (aa (aj aP (hr.mono (by decide)) rfl T.bW T.bY T.bX (aa (dv 3) (aa (aj av (hr.mono (by decide)) rfl T.aD T.aF T.aG (aa (dv 1) (aa (dv 4) (aa (dv 6) ag)))) ag))) (aa (dv 5) (aa (aj av (hr.mono (by decide)) rfl T.aD T.aF T.aG (aa (dv 1) (aa (bM (aa ae (aa ae (aa ae ag)))) (aa (dv 5) ag)))) (aa (aj aP (hr.mono (by decide)) rfl T.bW T.bY T.bX (aa (aj av (hr.mono (by decide)) rfl T.aD T.aF T.aG (aa (dv 1) (aa (dv 8) (aa (dv 5) ag)))) (aa (bM (aa ae (aa ae (aa ae ag)))) ag))) (aa (aj aP (hr.mono (by decide)) rfl T.bW T.bY T.bX (aa (aj av (hr.mono (by decide)) rfl T.aD T.aF T.aG (aa (dv 1) (aa (dv 3) (aa (dv 5) ag)))) (aa (aj av (hr.mono (by decide)) rfl T.aD T.aF T.aG (aa (dv 1) (aa (dv 6) (aa (bM (aa ae (aa ae (aa ae ag)))) ag)))) ag))) (aa (aj dM (hr.mono (by decide)) rfl T.jt T.ji T.jn (aa (dv 0) (aa (dv 1) ag))) ag))))))))))))
    (aw (aK (ay (dv 9) (dv 7) (fun _ _ => rfl)))))))))), fun ds μ Qd h => wN h⟩)
theorem tK : aQ ["_law_d", "_law_kinds_here", "_law_shape_here", "_law_signs", "_law_lean"] ["_law_d", "_law_kinds_here", "_law_shape_here"] (aC d6) := ⟨rfl, rfl, rfl, by decide +kernel, rfl, by decide +kernel, by decide +kernel⟩
theorem tL (T : TX e) (bj : dS e) (bR : gO e) (cO : ic e) (eJ : kI e) : mL e := by
  have S := tK
  exact T.wa.okD S (fun ds μ Q h => wG h) (fun cdv A outer s H E hr => ⟨i4, (ao (C4 (i := 3) (N' := ["_law_kind", "_law_d"]) (cap := [none, some 0]) S.nd rfl rfl rfl (l6 (dv 1)) (fun _ _ _ => (bO (i := 0) (show List.Nodup (["_law_kind", "_law_d"] : List Str) by decide +kernel) rfl (Or.inl rfl))) (fun _ _ _ => fQ) (fun _ _ _ => (aj bj (hr.mono (by decide)) rfl T.da T.dg T.df (aa (dv 1) (aa (aj bR (hr.mono (by decide)) rfl T.dQ T.dP T.dW (aa (dv 0) ag)) ag)))) rfl (by decide +kernel) rfl (by decide +kernel) (by intro _ _ h; first | exact h | exact cl1 h | exact cl2 (by decide +kernel) h | exact cl3 (by decide +kernel) h | exact cR (cj rfl fO) _ _ h | exact cR (cj rfl (cj rfl fO)) _ _ h | exact cR (cj rfl (cj rfl (cj rfl fO))) _ _ h | cases h) (jH rfl) rfl (ix ⟨zL, trivial⟩))
    (ao (cz (bI jf fm (D0 rfl rfl T.kW rfl T.LL (dv 3)) ae (aR _)) (aw (aK iP)) bJ)
    (ao (cz (bI (gb hr.units) bZ (aj bj (hr.mono (by decide)) rfl T.da T.dg T.df (aa (dv 0) (aa (aj bR (hr.mono (by decide)) rfl T.dQ T.dP T.dW (aa (dv 2) ag)) ag))) (ay (dv 3) ae (fun _ _ => rfl)) (aR _)) (aw (aK iP)) bJ)
    (ao (aS (i := 4) S.nd rfl (Or.inr rfl) (aj cO (hr.mono (by decide)) rfl T.fc T.fe T.fg (aa (dv 0) (aa (dv 2) ag))))
    (ao (cz (bI jf fm (ay (dv 3) ae (fun _ _ => rfl)) ae (aR _)) (aw (aK (GY rfl rfl T.Jb (aa (lG (N' := ["_law_kind", "_law_d", "_law_lean"]) (cap := [none, some 0, some 4]) rfl (l6 (dv 1)) (fun _ _ _ => (bO (i := 0) (show List.Nodup (["_law_kind", "_law_d", "_law_lean"] : List Str) by decide +kernel) rfl (Or.inl rfl))) (fun _ _ _ => fQ) (fun _ _ _ => (rQ (aj eJ (hr.mono (by decide)) rfl T.mr T.me T.ma (aa (dv 1) (aa (aj cO (hr.mono (by decide)) rfl T.fc T.fe T.fg (aa (dv 1) (aa (dv 0) ag))) (aa (dv 2) ag)))))) rfl (by decide +kernel) rfl (by decide +kernel) (by intro _ _ h; first | exact h | exact cl1 h | exact cl2 (by decide +kernel) h | exact cl3 (by decide +kernel) h | exact cR (cj rfl fO) _ _ h | exact cR (cj rfl (cj rfl fO)) _ _ h | exact cR (cj rfl (cj rfl (cj rfl fO))) _ _ h | cases h) (jH rfl) rfl (ix ⟨zL, ⟨zL, trivial⟩⟩)) ag)))) bJ)
    (aw (aK (GY rfl rfl T.Jb (aa (lG (N' := ["_law_kind", "_law_d", "_law_lean"]) (cap := [none, some 0, some 4]) rfl (l6 (dv 1)) (fun _ _ _ => (bO (i := 0) (show List.Nodup (["_law_kind", "_law_d", "_law_lean"] : List Str) by decide +kernel) rfl (Or.inl rfl))) (fun _ _ _ => fQ) (fun _ _ _ => (rQ (aj eJ (hr.mono (by decide)) rfl T.mr T.me T.ma (aa (dv 1) (aa (dv 2) (aa (aj cO (hr.mono (by decide)) rfl T.fc T.fe T.fg (aa (dv 1) (aa (dv 0) ag))) ag)))))) rfl (by decide +kernel) rfl (by decide +kernel) (by intro _ _ h; first | exact h | exact cl1 h | exact cl2 (by decide +kernel) h | exact cl3 (by decide +kernel) h | exact cR (cj rfl fO) _ _ h | exact cR (cj rfl (cj rfl fO)) _ _ h | exact cR (cj rfl (cj rfl (cj rfl fO))) _ _ h | cases h) (jH rfl) rfl (ix ⟨zL, ⟨zL, trivial⟩⟩)) ag))))))))), fun ds μ Qd h => tO h⟩)
theorem yf : aQ ["d", "first", "second", "shape", "whole", "part", "of_second", "of_first"] ["d", "first", "second", "shape"] (aC gD) := ⟨rfl, rfl, rfl, by decide +kernel, rfl, by decide +kernel, by decide +kernel⟩
theorem yF (T : TX e) (jd : uE e) (dz : jA e) (sf : yH e) (eG : nN e) : qS e := by
  have S := yf
  exact T.Ad.okD S (fun ds μ Q h => yZ h) (fun cdv A outer s H E hr => ⟨my, (ao (aS (i := 4) S.nd rfl (Or.inl rfl) (aj jd (hr.mono (by decide)) rfl T.sG T.rS T.sM (aa (dv 0) (aa (dv 3) (aa (dv 1) ag)))))
    (ao (aS (i := 5) S.nd rfl (Or.inl rfl) (aj jd (hr.mono (by decide)) rfl T.sG T.rS T.sM (aa (dv 0) (aa (dv 2) (aa (dv 1) ag)))))
    (ao (aS (i := 6) S.nd rfl (Or.inl rfl) (aj dz (hr.mono (by decide)) rfl T.nY T.nR T.nr (aa (aY (ay (dv 4) ae (fun _ _ => rfl)) (ay (dv 5) ae (fun _ _ => rfl))) (aa ae (aa (aY (ay (dv 4) ae (fun _ _ => rfl)) (ay (dv 5) ae (fun _ _ => rfl))) ag)))))
    (ao (aS (i := 7) S.nd rfl (Or.inl rfl) (aj sf (hr.mono (by decide)) rfl T.E2 T.Gj T.Gh (aa (dv 4) (aa (aj eG (hr.mono (by decide)) rfl T.mn T.lE T.mG (aa (dv 0) (aa (dv 6) (aa (dv 5) ag)))) ag))))
    (aw (aK (bM (aa (dv 7) (aa (dv 6) ag))))))))), fun ds μ Qd h => zw h⟩)
theorem BN : aQ ["d", "kind", "shape", "way", "own", "floor", "turn", "last", "both"] ["d", "kind", "shape"] (aC jz) := ⟨rfl, rfl, rfl, by decide +kernel, rfl, by decide +kernel, by decide +kernel⟩
theorem B6 (T : TX e) (d8 : lV e) (kC : yK e) (yq : DJ e) (jd : uE e) (eG : nN e) : u5 e := by
  have S := BN
  exact T.D2.okD S (fun ds μ Q h => zP h) (fun cdv A outer s H E hr => ⟨pS, (ao (aS (i := 3) S.nd rfl (Or.inl rfl) (aj d8 (hr.mono (by decide)) rfl T.k8 T.lq T.kS (aa (dv 0) (aa (aj kC (hr.mono (by decide)) rfl T.sH T.sj T.sS (aa (dv 1) ag)) ag))))
    (ao (cz (bI (gb hr.units) bZ (aj d8 (hr.mono (by decide)) rfl T.k8 T.lq T.kS (aa (dv 0) (aa (aj kC (hr.mono (by decide)) rfl T.sH T.sj T.sS (aa (dv 2) ag)) ag))) (dv 3) (aR _)) (aw (aK (bM (aa (jL rfl T.IX) (aa (bM (aa (jL rfl T.mX) (aa (jL rfl T.mX) (aa (jL rfl T.mX) (aa (bM (aa (dv 3) (aa ae (aa ae ag)))) ag))))) ag))))) bJ)
    (ao (aS (i := 4) S.nd rfl (Or.inl rfl) (aj yq (hr.mono (by decide)) rfl T.GO T.FR T.Gr (aa (dv 1) (aa (dv 3) ag))))
    (ao (aS (i := 5) S.nd rfl (Or.inl rfl) (aj yq (hr.mono (by decide)) rfl T.GO T.FR T.Gr (aa (dv 2) (aa (dv 3) ag))))
    (ao (aS (i := 6) S.nd rfl (Or.inl rfl) (aj d8 (hr.mono (by decide)) rfl T.k8 T.lq T.kS (aa (dv 0) (aa (dv 5) ag))))
    (ao (aS (i := 7) S.nd rfl (Or.inl rfl) (aj jd (hr.mono (by decide)) rfl T.sG T.rS T.sM (aa (dv 0) (aa (aj eG (hr.mono (by decide)) rfl T.mn T.lE T.mG (aa (dv 0) (aa (bM (aa (dv 6) (aa ae (aa ae ag)))) (aa (dv 5) ag)))) (aa (aj kC (hr.mono (by decide)) rfl T.sH T.sj T.sS (aa (dv 2) ag)) ag)))))
    (ao (aS (i := 8) S.nd rfl (Or.inl rfl) (aj jd (hr.mono (by decide)) rfl T.sG T.rS T.sM (aa (dv 0) (aa (aj eG (hr.mono (by decide)) rfl T.mn T.lE T.mG (aa (dv 0) (aa (dv 4) (aa (dv 4) ag)))) (aa (aj eG (hr.mono (by decide)) rfl T.mn T.lE T.mG (aa (dv 0) (aa (bM (aa ae (aa ae (aa ae ag)))) (aa (aj eG (hr.mono (by decide)) rfl T.mn T.lE T.mG (aa (dv 0) (aa (dv 1) (aa (aj kC (hr.mono (by decide)) rfl T.sH T.sj T.sS (aa (dv 1) ag)) ag)))) ag)))) ag)))))
    (aw (aK (bM (aa (jL rfl T.IX) (aa (bM (aa (aj jd (hr.mono (by decide)) rfl T.sG T.rS T.sM (aa (dv 0) (aa (dv 8) (aa (dv 7) ag)))) (aa (bM (aa (aY (dv 3) (dv 6)) (aa ae (aa ae ag)))) (aa (bM (aa (nG (dv 6)) (aa ae (aa ae ag)))) (aa (dv 7) ag))))) ag)))))))))))), fun ds μ Qd h => Ct h⟩)
theorem v5 : aQ ["_law_d", "_law_kinds_here", "_law_shape_here", "_law_thing", "_law_kind", "_law_way"] ["_law_d", "_law_kinds_here", "_law_shape_here", "_law_thing"] (aC eR) := ⟨rfl, rfl, rfl, by decide +kernel, rfl, by decide +kernel, by decide +kernel⟩
theorem vG (T : TX e) (cL : gX e) (bj : dS e) (aN : cy e) (eV : gN e) (lQ : pA e) (av : cA e) : nj e := by
  have S := v5
  exact T.wk.okD S (fun ds μ Q h => Bk h) (fun cdv A outer s H E hr => ⟨jD, (ao (cz (DW.dt (ib (dX (dD (jM (kit_tuple _) rfl T.cB rfl T.j7 PyProof.Rows.Boot.«tuple» (dv 3)))) (ib (bI (gb hr.units) bZ (i7 rfl T.kW (aa (dv 3) ag)) ae (aR _)) (jY (dX (dD (aj cL (hr.mono (by decide)) rfl T.iu T.iB T.iF (aa (ay (dv 3) ae (fun _ _ => rfl)) ag)))))))) (aw (aK iP)) bJ)
    (ao (cz (DW.dt (ib (bI E6 fm (aj bj (hr.mono (by decide)) rfl T.da T.dg T.df (aa (dv 0) (aa (ay (dv 3) ae (fun _ _ => rfl)) ag))) ae (aR _)) (ib (dX (dD (jM (kit_tuple _) rfl T.cB rfl T.j7 PyProof.Rows.Boot.«tuple» (ay (dv 3) ae (fun _ _ => rfl))))) (jY (bI (gb hr.units) bZ (i7 rfl T.kW (aa (ay (dv 3) ae (fun _ _ => rfl)) ag)) ae (aR _)))))) (aw (aK iP)) bJ)
    (ao (cz (dX (dD (sA rfl rfl T.xr (aa (lG (N' := ["_law_one"]) (cap := [none]) rfl (l6 (ay (dv 3) ae (fun _ _ => rfl))) (fun _ _ _ => (bO (i := 0) (show List.Nodup (["_law_one"] : List Str) by decide +kernel) rfl (Or.inl rfl))) (fun _ _ _ => fQ) (fun _ _ _ => (aj cL (hr.mono (by decide)) rfl T.iu T.iB T.iF (aa (dv 0) ag))) rfl (by decide +kernel) rfl (by decide +kernel) (by intro _ _ h; first | exact h | exact cl1 h | exact cl2 (by decide +kernel) h | exact cl3 (by decide +kernel) h | exact cR (cj rfl fO) _ _ h | exact cR (cj rfl (cj rfl fO)) _ _ h | exact cR (cj rfl (cj rfl (cj rfl fO))) _ _ h | cases h) (jH rfl) rfl (ix trivial)) ag)))) (aw (aK iP)) bJ)
    (ao (mj PassesOwn.never rfl (l6 (dv 1)) (bO (i := 4) S.nd rfl (Or.inl rfl)) (aw (mj PassesOwn.never rfl (yQ (fM (aa (dv 4) (aa (aj aN (hr.mono (by decide)) rfl T.cH T.cG T.cF (aa (dv 0) (aa (dv 4) ag))) ag)))) (bO (i := 5) S.nd rfl (Or.inl rfl)) (aw (cz (dX (dD (aj eV (hr.mono (by decide)) rfl T.mO T.mT T.mN (aa (dv 0) (aa (ay (dv 3) ae (fun _ _ => rfl)) (aa (dv 5) ag)))))) (aw (aK iP)) bJ)))))
    (aw (aK (dY tG fm (aj bj (hr.mono (by decide)) rfl T.da T.dg T.df (aa (dv 0) (aa (aj lQ (hr.mono (by decide)) rfl T.yg T.yS T.yr (aa (dv 0) (aa (ay (dv 3) ae (fun _ _ => rfl)) (aa (ay (dv 3) ae (fun _ _ => rfl)) (aa (aj av (hr.mono (by decide)) rfl T.aD T.aF T.aG (aa (dv 0) (aa (dv 2) (aa (ay (dv 3) ae (fun _ _ => rfl)) ag)))) ag))))) ag))) ae (aR _)))))))), fun ds μ Qd h => vJ h⟩)
theorem xn : aQ ["d", "kind", "shape", "shares"] ["d", "kind", "shape"] (aC fI) := ⟨rfl, rfl, rfl, by decide +kernel, rfl, by decide +kernel, by decide +kernel⟩
theorem wL (T : TX e) (cY : gz e) (eG : nN e) (jd : uE e) (nq : qS e) (ij : nt e) (pR : tm e) (sL : u5 e) : kB e := by
  have S := xn
  exact T.zD.okD S (fun ds μ Q h => wF h) (fun cdv A outer s H E hr => ⟨kM, (ao (oU (aj cY (hr.mono (by decide)) rfl T.ia T.gI T.hU (aa (dv 0) (aa (dv 1) ag))))
    (ao (oU (aj cY (hr.mono (by decide)) rfl T.ia T.gI T.hU (aa (dv 0) (aa (dv 2) ag))))
    (ao (cz (bI (eI hr.units) bZ (ay (aj eG (hr.mono (by decide)) rfl T.mn T.lE T.mG (aa (dv 0) (aa (dv 1) (aa (dv 1) ag)))) ae (fun _ _ => rfl)) ae (aR _)) (aw (aS (i := 3) S.nd rfl (Or.inl rfl) (bM (aa (aj jd (hr.mono (by decide)) rfl T.sG T.rS T.sM (aa (dv 0) (aa (dv 2) (aa (dv 1) ag)))) (aa (jL rfl T.mX) ag))))) (aw (aS (i := 3) S.nd rfl (Or.inl rfl) (aj nq (hr.mono (by decide)) rfl T.AA T.Ab T.Ac (aa (dv 0) (aa (dv 1) (aa (aj ij (hr.mono (by decide)) rfl T.we T.u6 T.vt (aa (dv 0) (aa (dv 1) ag))) (aa (dv 2) ag))))))))
    (ao (cz (dD (sA rfl rfl T.xr (aa (lG (N' := ["share", "d"]) (cap := [none, some 0]) rfl (l6 (dv 3)) (fun _ _ _ => (bO (i := 0) (show List.Nodup (["share", "d"] : List Str) by decide +kernel) rfl (Or.inl rfl))) (fun _ _ _ => fQ) (fun _ _ _ => (aj pR (hr.mono (by decide)) rfl T.By T.Cr T.Cz (aa (dv 1) (aa (dv 0) ag)))) rfl (by decide +kernel) rfl (by decide +kernel) (by intro _ _ h; first | exact h | exact cl1 h | exact cl2 (by decide +kernel) h | exact cl3 (by decide +kernel) h | exact cR (cj rfl fO) _ _ h | exact cR (cj rfl (cj rfl fO)) _ _ h | exact cR (cj rfl (cj rfl (cj rfl fO))) _ _ h | cases h) (jH rfl) rfl (ix ⟨zL, trivial⟩)) ag))) (aw (aK (bM (aa qp (aa (ay (dv 3) ae (fun _ _ => rfl)) (aa (ay (dv 3) ae (fun _ _ => rfl)) ag)))))) bJ)
    (aw (aK (bM (aa qp (aa (aj sL (hr.mono (by decide)) rfl T.DX T.Em T.Ef (aa (dv 0) (aa (dv 1) (aa (dv 2) ag)))) ag))))))))), fun ds μ Qd h => w8 h⟩)
theorem ph : aQ ["_law_d", "_law_kinds_here", "_law_shape_here", "_law_told"] ["_law_d", "_law_kinds_here", "_law_shape_here", "_law_told"] (aC cJ) := ⟨rfl, rfl, rfl, by decide +kernel, rfl, by decide +kernel, by decide +kernel⟩
theorem o8 (T : TX e) (kA : nj e) : jg e := by
  have S := ph
  exact T.qd.okD S (fun ds μ Q h => xi h) (fun cdv A outer s H E hr => ⟨fN, (ao (cz (DW.dt (ib (dX (dD (jM (kit_tuple _) rfl T.cB rfl T.j7 PyProof.Rows.Boot.«tuple» (dv 3)))) (ib (bI (gb hr.units) bZ (i7 rfl T.kW (aa (dv 3) ag)) ae (aR _)) (jY (bI (gb hr.units) bZ (ay (dv 3) ae (fun _ _ => rfl)) qp (aR _)))))) (aw (aK iP)) bJ)
    (aw (aK (aj kA (hr.mono (by decide)) rfl T.wy T.wg T.wO (aa (dv 0) (aa (dv 1) (aa (dv 2) (aa (ay (dv 3) ae (fun _ _ => rfl)) ag)))))))), fun ds μ Qd h => o9 h⟩)
theorem tS : aQ ["_law_d", "_law_kind", "_law_shape_here", "_law_told"] ["_law_d", "_law_kind", "_law_shape_here"] (aC eo) := ⟨rfl, rfl, rfl, by decide +kernel, rfl, by decide +kernel, by decide +kernel⟩
theorem tZ (T : TX e) (dR : kB e) (jS : mL e) (gk : jg e) (hR : j0 e) (eh : jc e) : mK e := by
  have S := tS
  exact T.vO.okD S (fun ds μ Q h => yu h) (fun cdv A outer s H E hr => ⟨i8, (ao (aS (i := 3) S.nd rfl (Or.inl rfl) (aj dR (hr.mono (by decide)) rfl T.jw T.jy T.jk (aa (dv 0) (aa (dv 1) (aa (dv 2) ag)))))
    (ao (cz (dX (dD (aj jS (hr.mono (by decide)) rfl T.vL T.vx T.vB (aa (dv 0) (aa (bM (aa (dv 1) ag)) (aa (dv 2) ag)))))) (aw (aK (aj gk (hr.mono (by decide)) rfl T.pX T.p4 T.ql (aa (dv 0) (aa (bM (aa (dv 1) ag)) (aa (dv 2) (aa (dv 3) ag))))))) bJ)
    (ao (cz (DW.dt (ib (dX (dD (jM (kit_tuple _) rfl T.cB rfl T.j7 PyProof.Rows.Boot.«tuple» (dv 3)))) (ib (bI (gb hr.units) bZ (i7 rfl T.kW (aa (dv 3) ag)) ae (aR _)) (jY (bI (gb hr.units) bZ (ay (dv 3) ae (fun _ _ => rfl)) qp (aR _)))))) (aw (aK iP)) bJ)
    (aw (aK (n6 (aj hR (hr.mono (by decide)) rfl T.qu T.qC T.q9 (aa (dv 0) (aa (dv 1) (aa (dv 2) (aa (Bq (dv 3) (CY ae) Dt) ag))))) (kF (Je (rQ (aj eh (hr.mono (by decide)) rfl T.nV T.nc T.mV (aa (dv 0) (aa (dv 1) ag)))) (kF (dY (eI hr.units) bZ (ay (dv 3) ae (fun _ _ => rfl)) (bM (aa ae (aa ae (aa ae ag)))) (aR _))))))))))), fun ds μ Qd h => uc h⟩)
theorem Kh : aQ ["_law_script", "_law_k", "_law_bag_here", "_law_d", "_law_kinds_here", "_law_turn", "_law_kind", "_law_u", "_law_v", "_law_square", "_law_shape_here", "_law_due", "_law_other", "_law_wide_here"] ["_law_script"] (aC pJ) := ⟨rfl, rfl, rfl, by decide +kernel, rfl, by decide +kernel, by decide +kernel⟩
theorem JS (T : TX e) (qa : tj e) (nC : qM e) (lD : pG e) (aI : cV e) (bS : fJ e) (av : cA e) (aP : cZ e) (aN : cy e) (eh : jc e) (lS : pI e) (dR : kB e) (fi : mK e) (nA : q0 e) (gg : je e) : Gs e := by
  have S := Kh
  exact T.L8.okD S (fun ds μ Q h => DP h) (fun cdv A outer s H E hr => ⟨Cd, (ao (mj PassesOwn.never rfl (oR rfl T.mH (aa (KA rfl rfl T.Mg (aa ae (aa (J9 rfl rfl T.L0 (aa ae (aa (i7 rfl T.kW (aa (dv 0) ag)) ag))) ag))) ag)) (bO (i := 1) S.nd rfl (Or.inl rfl)) (ao (aS (i := 2) S.nd rfl (Or.inr rfl) (aj qa (hr.mono (by decide)) rfl T.Cb T.B1 T.BE (aa (dv 0) (aa (dv 1) ag))))
    (ao (aS (i := 3) S.nd rfl (Or.inr rfl) (aj nC (hr.mono (by decide)) rfl T.Ai T.Bj T.AD (aa (dv 2) ag)))
    (ao (aS (i := 4) S.nd rfl (Or.inl rfl) (aj lD (hr.mono (by decide)) rfl T.yw T.zf T.zv (aa (dv 2) (aa (dv 3) ag))))
    (ao (mj PassesOwn.never rfl (oR rfl T.mH (aa ae ag)) (bO (i := 5) S.nd rfl (Or.inl rfl)) (ao (aS (i := 6) S.nd rfl (Or.inl rfl) (ay (dv 4) (aj aI (hr.mono (by decide)) rfl T.bD T.bE T.bF (aa (dv 2) (aa (i7 rfl T.kW (aa (dv 4) ag)) ag))) (fun _ _ => rfl)))
    (ao (sJ (GN (N' := ["_law_one", "_law_bag_here"]) (cap := [none, some 2]) rfl (oR rfl T.mH (aa ae ag)) (fun _ _ _ => (bO (i := 0) (show List.Nodup (["_law_one", "_law_bag_here"] : List Str) by decide +kernel) rfl (Or.inl rfl))) (fun _ _ _ => fQ) (fun _ _ _ => (ay (bM (aa (aj bS (hr.mono (by decide)) rfl T.eN T.eM T.eO (aa (dv 1) ag)) (aa (bM (aa ae (aa ae (aa ae ag)))) ag))) (jX (aj aI (hr.mono (by decide)) rfl T.bD T.bE T.bF (aa (dv 1) (aa ae ag))) ae) (fun _ _ => rfl))) rfl (by decide +kernel) rfl (by decide +kernel) (by intro _ _ h; first | exact h | exact cl1 h | exact cl2 (by decide +kernel) h | exact cl3 (by decide +kernel) h | exact cR (cj rfl fO) _ _ h | exact cR (cj rfl (cj rfl fO)) _ _ h | exact cR (cj rfl (cj rfl (cj rfl fO))) _ _ h | cases h) (jH rfl) rfl (ix ⟨zL, trivial⟩)) (JF (n := 2) rfl (eg (bO (i := 7) S.nd rfl (Or.inl rfl)) (eg (bO (i := 8) S.nd rfl (Or.inl rfl)) uJ))))
    (ao (cz (DW.dt (zl (bI (eI hr.units) bZ (dv 7) (bM (aa ae (aa ae (aa ae ag)))) (aR _)) (uH (bI (eI hr.units) bZ (dv 8) (dv 7) (aR _))))) (aw (aS (i := 7) S.nd rfl (Or.inl rfl) (bM (aa ae (aa ae (aa ae ag)))))) bJ)
    (ao (aS (i := 9) S.nd rfl (Or.inl rfl) (aj av (hr.mono (by decide)) rfl T.aD T.aF T.aG (aa (dv 3) (aa (dv 6) (aa (dv 6) ag)))))
    (ao (aS (i := 10) S.nd rfl (Or.inl rfl) (aj aP (hr.mono (by decide)) rfl T.bW T.bY T.bX (aa (aj av (hr.mono (by decide)) rfl T.aD T.aF T.aG (aa (dv 3) (aa (dv 7) (aa (dv 6) ag)))) (aa (aj av (hr.mono (by decide)) rfl T.aD T.aF T.aG (aa (dv 3) (aa (dv 8) (aa (aj aN (hr.mono (by decide)) rfl T.cH T.cG T.cF (aa (dv 3) (aa (dv 6) ag))) ag)))) ag))))
    (ao (aS (i := 11) S.nd rfl (Or.inl rfl) (bM (aa qp (aa (dv 7) (aa (dv 8) ag)))))
    (ao (cz (dD (aj eh (hr.mono (by decide)) rfl T.nV T.nc T.mV (aa (dv 3) (aa (dv 6) ag)))) (aw (aS (i := 11) S.nd rfl (Or.inl rfl) (bM (aa qp (aa (aj aP (hr.mono (by decide)) rfl T.bW T.bY T.bX (aa (dv 7) (aa (aj av (hr.mono (by decide)) rfl T.aD T.aF T.aG (aa (dv 3) (aa (dv 8) (aa (aj aN (hr.mono (by decide)) rfl T.cH T.cG T.cF (aa (dv 3) (aa (dv 9) ag))) ag)))) ag))) (aa (bM (aa ae (aa ae (aa ae ag)))) ag)))))) bJ)
    (ao (aS (i := 12) S.nd rfl (Or.inl rfl) (aj lS (hr.mono (by decide)) rfl T.y4 T.yX T.yi (aa (dv 2) (aa (dv 3) (aa (dv 4) ag)))))
    (ao (cz (DW.dt (ib (bI (gb hr.units) bZ (aj dR (hr.mono (by decide)) rfl T.jw T.jy T.jk (aa (dv 3) (aa (dv 6) (aa (dv 10) ag)))) (dv 11) (aR _)) (jY (dX (dD (aj fi (hr.mono (by decide)) rfl T.jQ T.jE T.jW (aa (dv 3) (aa (dv 6) (aa (dv 10) ag))))))))) (aw (aK iP)) bJ)
    (aw (cz (DW.dt (ib (dX (dD (aj fi (hr.mono (by decide)) rfl T.jQ T.jE T.jW (aa (dv 3) (aa (dv 6) (aa (dv 12) ag)))))) (jY (bI (gb hr.units) bZ (aj dR (hr.mono (by decide)) rfl T.jw T.jy T.jk (aa (dv 3) (aa (dv 6) (aa (dv 10) ag)))) (dv 11) (aR _))))) (aw (aK iP)) bJ))))))))))))
    (ao (aS (i := 13) S.nd rfl (Or.inr rfl) (aj nA (hr.mono (by decide)) rfl T.zX T.Ak T.zY (aa (dv 2) (aa (dv 3) ag))))
    (aw (cz (dX (dD (sA rfl rfl T.xr (aa (ET (N' := ["_law_shape_here", "_law_d", "_law_wide_here"]) (cap := [none, some 3, some 13]) rfl (MN (aj gg (hr.mono (by decide)) rfl T.pY T.p5 T.pQ (aa (dv 2) (aa (dv 3) (aa (dv 13) ag))))) (fun _ _ _ => (bO (i := 0) (show List.Nodup (["_law_shape_here", "_law_d", "_law_wide_here"] : List Str) by decide +kernel) rfl (Or.inl rfl))) (fun _ _ _ => fQ) (fun _ _ _ => (aj fi (hr.mono (by decide)) rfl T.jQ T.jE T.jW (aa (dv 1) (aa (dv 2) (aa (dv 0) ag))))) rfl (by decide +kernel) rfl (by decide +kernel) (by intro _ _ h; first | exact h | exact cl1 h | exact cl2 (by decide +kernel) h | exact cl3 (by decide +kernel) h | exact cR (cj rfl fO) _ _ h | exact cR (cj rfl (cj rfl fO)) _ _ h | exact cR (cj rfl (cj rfl (cj rfl fO))) _ _ h | cases h) (jH rfl) rfl (ix ⟨zL, ⟨zL, trivial⟩⟩)) ag)))) (aw (aK iP)) bJ))))))))
    (aw (aK (dY (eI hr.units) bZ (aj dR (hr.mono (by decide)) rfl T.jw T.jy T.jk (aa ae (aa (bM (aa ae (aa ae (aa ae ag)))) (aa (bM (aa ae (aa ae (aa ae ag)))) ag)))) (bM (aa qp (aa (bM (aa ae (aa ae (aa ae ag)))) (aa (bM (aa ae (aa ae (aa ae ag)))) ag)))) (aR _))))), fun ds μ Qd h => JA h⟩)
theorem K2 (T : TX e) : Gs e := by
  have jG := A8 T
  have fK := qN T
  have kC := aA T
  have jb := sV T
  have qa := A9 T
  have aI := yN T
  have iY := si T
  have dc := v7 T
  have cX := xm T
  have bR := zk T
  have bj := zS T
  have eh := tM T
  have dq := qD T fK
  have d8 := Cq T jb
  have bL := A0 T dc
  have cL := rh T iY dc
  have nC := yV T aI
  have nh := yE T jG dq
  have dz := Et T dq
  have pR := AB T d8
  have aP := zG T bL
  have av := w9 T bL
  have aN := rK T bL
  have kG := vT T aI bL
  have bS := sP T aI bL
  have nA := yM T aI bL cX bj
  have B8 := aW T dz
  have sf := j8 T dz
  have eG := ah T dz
  have ij := ax T dz
  have gM := qj T nh d8
  have eJ := wW T bj aP cX
  have dM := xk T kG bj aI cX
  have lQ := xc T aP av bR
  have cO := mU T aP bR av aN
  have hR := p7 T cL av aN aP
  have gg := pq T bS aN av aP bj
  have jd := Hg T eG ij
  have cY := kX T gM
  have yq := cw T sf kC B8
  have lD := wD T dM aI aN av bL
  have eV := lY T av bR aP bj eJ
  have lS := wz T aI bS aN dM av aP
  have jS := tL T bj bR cO eJ
  have nq := yF T jd dz sf eG
  have sL := B6 T d8 kC yq jd eG
  have kA := vG T cL bj aN eV lQ av
  have dR := wL T cY eG jd nq ij pR sL
  have gk := o8 T kA
  have fi := tZ T dR jS gk hR eh
  exact JS T qa nC lD aI bS av aP aN eh lS dR fi nA gg
end
theorem all_mk {l : PySem.W.OpenLaw} {w : World} {K : PySem.W.Frag} {h : Heap} {mg : Str → Option Value} {fa : Addr} (X : K.In h) (G : h.Ns mainGlobals mg) (hfa : mg "law" = some (.ref fa))
    {f0 c0 f1 c1 f2 c2 f3 c3 f4 c4 f5 c5 f6 c6 f7 c7 f8 c8 f9 c9 f10 c10 f11 c11 f12 c12 f13 c13 f14 c14 f15 c15 f16 c16 f17 c17 f18 c18 f19 c19 f20 c20 f21 c21 f22 c22 f23 c23 f24 c24 f25 c25 f26 c26 f27 c27 f28 c28 f29 c29 f30 c30 f31 c31 f32 c32 f33 c33 f34 c34 f35 c35 f36 c36 f37 c37 f38 c38 f39 c39 f40 c40 f41 c41 f42 c42 f43 c43 f44 c44 f45 c45 f46 c46 f47 c47 f48 c48 f49 c49 f50 c50 : Addr} {t0 t1 t2 t3 t4 t5 t6 t7 t8 t9 t10 t11 t12 t13 t14 t15 t16 t17 t18 t19 t20 t21 t22 t23 t24 t25 t26 t27 t28 t29 t30 t31 t32 t33 t34 t35 t36 t37 t38 t39 t40 t41 t42 t43 t44 t45 t46 t47 t48 t49 t50 : Tok} {m0 m1 m2 m3 m4 m5 m6 m7 m8 m9 m10 m11 m12 m13 m14 m15 m16 m17 m18 m19 m20 m21 m22 m23 m24 m25 m26 m27 m28 m29 m30 m31 m32 m33 m34 m35 m36 m37 m38 m39 m40 m41 m42 m43 m44 m45 m46 m47 m48 m49 m50 : Str} {g0 : Addr} {go0 : Option Addr} {q0a q0b q0c : Tok} {gn0 : Nat} {gs0 : Array (Option Value)} {g1 : Addr} {go1 : Option Addr} {q1a q1b q1c : Tok} {gn1 : Nat} {gs1 : Array (Option Value)}
    (a0 : FQ K "is_whole" ik f0 c0 t0 m0)
    (a1 : FQ K "common_divisor" dh f1 c1 t1 m1)
    (a2 : FQ K "is_number" gC f2 c2 t2 m2)
    (a3 : FQ K "divisor_of_all" dk f3 c3 t3 m3)
    (a4 : FQ K "number" lh f4 c4 t4 m4)
    (a5 : FQ K "mate" rY f5 c5 t5 m5)
    (a6 : FQ K "plus" sO f6 c6 t6 m6)
    (a7 : FQ K "less" rJ f7 c7 t7 m7)
    (a8 : FQ K "times" oH f8 c8 t8 m8)
    (a9 : FQ K "over" rW f9 c9 t9 m9)
    (a10 : FQ K "contrary" iE f10 c10 t10 m10)
    (a11 : FQ K "sign_of" jB f11 c11 t11 m11)
    (a12 : FQ K "sign_of_parts" dH f12 c12 t12 m12)
    (a13 : FQ K "is_above_nought" cQ f13 c13 t13 m13)
    (a14 : FQ K "must_be_above_nought" cb f14 c14 t14 m14)
    (a15 : FQ K "mixture_of" fI f15 c15 t15 m15)
    (a16 : FQ K "shares_of" gD f16 c16 t16 m16)
    (a17 : FQ K "is_share" ig f17 c17 t17 m17)
    (a18 : FQ K "bar_for" jz f18 c18 t18 m18)
    (a19 : FQ K "skew" rT f19 c19 t19 m19)
    (a20 : FQ K "_law_bag" iq f20 c20 t20 m20)
    (a21 : FQ K "_law_take" gx f21 c21 t21 m21)
    (a22 : FQ K "_law_is_whole" dJ f22 c22 t22 m22)
    (a23 : FQ K "_law_shared" eQ f23 c23 t23 m23)
    (a24 : FQ K "_law_low" iD f24 c24 t24 m24)
    (a25 : FQ K "_law_is_number" dj f25 c25 t25 m25)
    (a26 : FQ K "_law_plus" gH f26 c26 t26 m26)
    (a27 : FQ K "_law_minus" fE f27 c27 t27 m27)
    (a28 : FQ K "_law_mate" gB f28 c28 t28 m28)
    (a29 : FQ K "_law_times" fo f29 c29 t29 m29)
    (a30 : FQ K "_law_contrary" dG f30 c30 t30 m30)
    (a31 : FQ K "_law_sign" gy f31 c31 t31 m31)
    (a32 : FQ K "_law_below" fF f32 c32 t32 m32)
    (a33 : FQ K "_law_root" gG f33 c33 t33 m33)
    (a34 : FQ K "_law_number" eP f34 c34 t34 m34)
    (a35 : FQ K "_law_above" fG f35 c35 t35 m35)
    (a36 : FQ K "_law_kinds" fz f36 c36 t36 m36)
    (a37 : FQ K "_law_is_never_below" cq f37 c37 t37 m37)
    (a38 : FQ K "_law_weigh" fH f38 c38 t38 m38)
    (a39 : FQ K "_law_is_bar" eR f39 c39 t39 m39)
    (a40 : FQ K "_law_lean_fraction" cx f40 c40 t40 m40)
    (a41 : FQ K "_law_shape" fA f41 c41 t41 m41)
    (a42 : FQ K "_law_fraction" dI f42 c42 t42 m42)
    (a43 : FQ K "_law_is_mixture" cT f43 c43 t43 m43)
    (a44 : FQ K "_law_is_lone" ec f44 c44 t44 m44)
    (a45 : FQ K "_law_is_told_bar" cJ f45 c45 t45 m45)
    (a46 : FQ K "_law_is_laid" d6 f46 c46 t46 m46)
    (a47 : FQ K "_law_wide" gE f47 c47 t47 m47)
    (a48 : FQ K "_law_wide_shapes" cK f48 c48 t48 m48)
    (a49 : FQ K "_law_is_told" eo f49 c49 t49 m49)
    (a50 : FQ K "law" pJ f50 c50 t50 m50)
    (z0 : PySem.W.nsIn K mainGlobals "isinstance" = some none)
    (z1 : PySem.W.nsIn K mainGlobals "int" = some none)
    (z2 : PySem.W.nsIn K mainGlobals "bool" = some none)
    (z3 : PySem.W.nsIn K mainGlobals "abs" = some none)
    (z4 : PySem.W.nsIn K mainGlobals "tuple" = some none)
    (z5 : PySem.W.nsIn K mainGlobals "len" = some none)
    (z6 : PySem.W.nsIn K mainGlobals "all" = some none)
    (z7 : PySem.W.nsIn K mainGlobals "range" = some none)
    (z8 : PySem.W.nsIn K mainGlobals "any" = some none)
    (z9 : PySem.W.nsIn K mainGlobals "set" = some none)
    (z10 : PySem.W.nsIn K mainGlobals "max" = some none)
    (z11 : PySem.W.nsIn K mainGlobals "min" = some none)
    (v0 : PySem.W.nsIn K mainGlobals "NOUGHT" = some (some (.ref g0))) (w0 : K.lookup g0 = some ⟨.type "tuple", go0, .seq #[.int 0 q0a, .int 0 q0b, .int 1 q0c] gn0, gs0⟩)
    (v1 : PySem.W.nsIn K mainGlobals "ONE" = some (some (.ref g1))) (w1 : K.lookup g1 = some ⟨.type "tuple", go1, .seq #[.int 1 q1a, .int 0 q1b, .int 1 q1c] gn1, gs1⟩) :
    ∃ fd : FuncData, (∀ (s : Shared) (v : Value), BindsTo s fd ⟨[v], []⟩ [("_law_script", v)]) ∧ ∀ base : Heap, K.In base → base.Ns mainGlobals mg → cu l.prog w K mg base CX0 9 fa fd ["_law_script"] (spD K wd) := by
  have e := hfa.symm.trans (PySem.W.mg_of X G a50.1)
  cases e
  have F0 := bB (st := ik) a0.2.1 a0.2.2.1 a0.2.2.2
  have b0 := F0.binds (ps := ["thing"]) fun _ _ _ _ _ _ us hl => match us, hl with | [_], _ => rfl
  have F1 := bB (st := dh) a1.2.1 a1.2.2.1 a1.2.2.2
  have b1 := F1.binds (ps := ["a", "b"]) fun _ _ _ _ _ _ us hl => match us, hl with | [_, _], _ => rfl
  have F2 := bB (st := gC) a2.2.1 a2.2.2.1 a2.2.2.2
  have b2 := F2.binds (ps := ["thing"]) fun _ _ _ _ _ _ us hl => match us, hl with | [_], _ => rfl
  have F3 := bB (st := dk) a3.2.1 a3.2.2.1 a3.2.2.2
  have b3 := F3.binds (ps := ["a", "b", "c"]) fun _ _ _ _ _ _ us hl => match us, hl with | [_, _, _], _ => rfl
  have F4 := bB (st := lh) a4.2.1 a4.2.2.1 a4.2.2.2
  have b4 := F4.binds (ps := ["a", "b", "c"]) fun _ _ _ _ _ _ us hl => match us, hl with | [_, _, _], _ => rfl
  have F5 := bB (st := rY) a5.2.1 a5.2.2.1 a5.2.2.2
  have b5 := F5.binds (ps := ["x"]) fun _ _ _ _ _ _ us hl => match us, hl with | [_], _ => rfl
  have F6 := bB (st := sO) a6.2.1 a6.2.2.1 a6.2.2.2
  have b6 := F6.binds (ps := ["x", "y"]) fun _ _ _ _ _ _ us hl => match us, hl with | [_, _], _ => rfl
  have F7 := bB (st := rJ) a7.2.1 a7.2.2.1 a7.2.2.2
  have b7 := F7.binds (ps := ["x", "y"]) fun _ _ _ _ _ _ us hl => match us, hl with | [_, _], _ => rfl
  have F8 := bB (st := oH) a8.2.1 a8.2.2.1 a8.2.2.2
  have b8 := F8.binds (ps := ["d", "x", "y"]) fun _ _ _ _ _ _ us hl => match us, hl with | [_, _, _], _ => rfl
  have F9 := bB (st := rW) a9.2.1 a9.2.2.1 a9.2.2.2
  have b9 := F9.binds (ps := ["d", "x", "y"]) fun _ _ _ _ _ _ us hl => match us, hl with | [_, _, _], _ => rfl
  have F10 := bB (st := iE) a10.2.1 a10.2.2.1 a10.2.2.2
  have b10 := F10.binds (ps := ["d", "x"]) fun _ _ _ _ _ _ us hl => match us, hl with | [_, _], _ => rfl
  have F11 := bB (st := jB) a11.2.1 a11.2.2.1 a11.2.2.2
  have b11 := F11.binds (ps := ["d", "x"]) fun _ _ _ _ _ _ us hl => match us, hl with | [_, _], _ => rfl
  have F12 := bB (st := dH) a12.2.1 a12.2.2.1 a12.2.2.2
  have b12 := F12.binds (ps := ["d", "a", "b"]) fun _ _ _ _ _ _ us hl => match us, hl with | [_, _, _], _ => rfl
  have F13 := bB (st := cQ) a13.2.1 a13.2.2.1 a13.2.2.2
  have b13 := F13.binds (ps := ["d", "thing"]) fun _ _ _ _ _ _ us hl => match us, hl with | [_, _], _ => rfl
  have F14 := bB (st := cb) a14.2.1 a14.2.2.1 a14.2.2.2
  have b14 := F14.binds (ps := ["d", "thing"]) fun _ _ _ _ _ _ us hl => match us, hl with | [_, _], _ => rfl
  have F15 := bB (st := fI) a15.2.1 a15.2.2.1 a15.2.2.2
  have b15 := F15.binds (ps := ["d", "kind", "shape"]) fun _ _ _ _ _ _ us hl => match us, hl with | [_, _, _], _ => rfl
  have F16 := bB (st := gD) a16.2.1 a16.2.2.1 a16.2.2.2
  have b16 := F16.binds (ps := ["d", "first", "second", "shape"]) fun _ _ _ _ _ _ us hl => match us, hl with | [_, _, _, _], _ => rfl
  have F17 := bB (st := ig) a17.2.1 a17.2.2.1 a17.2.2.2
  have b17 := F17.binds (ps := ["d", "x"]) fun _ _ _ _ _ _ us hl => match us, hl with | [_, _], _ => rfl
  have F18 := bB (st := jz) a18.2.1 a18.2.2.1 a18.2.2.2
  have b18 := F18.binds (ps := ["d", "kind", "shape"]) fun _ _ _ _ _ _ us hl => match us, hl with | [_, _, _], _ => rfl
  have F19 := bB (st := rT) a19.2.1 a19.2.2.1 a19.2.2.2
  have b19 := F19.binds (ps := ["shape", "way"]) fun _ _ _ _ _ _ us hl => match us, hl with | [_, _], _ => rfl
  have F20 := bB (st := iq) a20.2.1 a20.2.2.1 a20.2.2.2
  have b20 := F20.binds (ps := ["_law_script", "_law_at"]) fun _ _ _ _ _ _ us hl => match us, hl with | [_, _], _ => rfl
  have F21 := bB (st := gx) a21.2.1 a21.2.2.1 a21.2.2.2
  have b21 := F21.binds (ps := ["_law_bag_here", "_law_many"]) fun _ _ _ _ _ _ us hl => match us, hl with | [_, _], _ => rfl
  have F22 := bB (st := dJ) a22.2.1 a22.2.2.1 a22.2.2.2
  have b22 := F22.binds (ps := ["_law_thing"]) fun _ _ _ _ _ _ us hl => match us, hl with | [_], _ => rfl
  have F23 := bB (st := eQ) a23.2.1 a23.2.2.1 a23.2.2.2
  have b23 := F23.binds (ps := ["_law_one", "_law_other"]) fun _ _ _ _ _ _ us hl => match us, hl with | [_, _], _ => rfl
  have F24 := bB (st := iD) a24.2.1 a24.2.2.1 a24.2.2.2
  have b24 := F24.binds (ps := ["_law_a", "_law_b", "_law_c"]) fun _ _ _ _ _ _ us hl => match us, hl with | [_, _, _], _ => rfl
  have F25 := bB (st := dj) a25.2.1 a25.2.2.1 a25.2.2.2
  have b25 := F25.binds (ps := ["_law_thing"]) fun _ _ _ _ _ _ us hl => match us, hl with | [_], _ => rfl
  have F26 := bB (st := gH) a26.2.1 a26.2.2.1 a26.2.2.2
  have b26 := F26.binds (ps := ["_law_x", "_law_y"]) fun _ _ _ _ _ _ us hl => match us, hl with | [_, _], _ => rfl
  have F27 := bB (st := fE) a27.2.1 a27.2.2.1 a27.2.2.2
  have b27 := F27.binds (ps := ["_law_x"]) fun _ _ _ _ _ _ us hl => match us, hl with | [_], _ => rfl
  have F28 := bB (st := gB) a28.2.1 a28.2.2.1 a28.2.2.2
  have b28 := F28.binds (ps := ["_law_x"]) fun _ _ _ _ _ _ us hl => match us, hl with | [_], _ => rfl
  have F29 := bB (st := fo) a29.2.1 a29.2.2.1 a29.2.2.2
  have b29 := F29.binds (ps := ["_law_d", "_law_x", "_law_y"]) fun _ _ _ _ _ _ us hl => match us, hl with | [_, _, _], _ => rfl
  have F30 := bB (st := dG) a30.2.1 a30.2.2.1 a30.2.2.2
  have b30 := F30.binds (ps := ["_law_d", "_law_x"]) fun _ _ _ _ _ _ us hl => match us, hl with | [_, _], _ => rfl
  have F31 := bB (st := gy) a31.2.1 a31.2.2.1 a31.2.2.2
  have b31 := F31.binds (ps := ["_law_d", "_law_x"]) fun _ _ _ _ _ _ us hl => match us, hl with | [_, _], _ => rfl
  have F32 := bB (st := fF) a32.2.1 a32.2.2.1 a32.2.2.2
  have b32 := F32.binds (ps := ["_law_d", "_law_x", "_law_y"]) fun _ _ _ _ _ _ us hl => match us, hl with | [_, _, _], _ => rfl
  have F33 := bB (st := gG) a33.2.1 a33.2.2.1 a33.2.2.2
  have b33 := F33.binds (ps := ["_law_bag_here"]) fun _ _ _ _ _ _ us hl => match us, hl with | [_], _ => rfl
  have F34 := bB (st := eP) a34.2.1 a34.2.2.1 a34.2.2.2
  have b34 := F34.binds (ps := ["_law_bag_here"]) fun _ _ _ _ _ _ us hl => match us, hl with | [_], _ => rfl
  have F35 := bB (st := fG) a35.2.1 a35.2.2.1 a35.2.2.2
  have b35 := F35.binds (ps := ["_law_bag_here", "_law_d"]) fun _ _ _ _ _ _ us hl => match us, hl with | [_, _], _ => rfl
  have F36 := bB (st := fz) a36.2.1 a36.2.2.1 a36.2.2.2
  have b36 := F36.binds (ps := ["_law_bag_here", "_law_d"]) fun _ _ _ _ _ _ us hl => match us, hl with | [_, _], _ => rfl
  have F37 := bB (st := cq) a37.2.1 a37.2.2.1 a37.2.2.2
  have b37 := F37.binds (ps := ["_law_d", "_law_weights", "_law_kind"]) fun _ _ _ _ _ _ us hl => match us, hl with | [_, _, _], _ => rfl
  have F38 := bB (st := fH) a38.2.1 a38.2.2.1 a38.2.2.2
  have b38 := F38.binds (ps := ["_law_d", "_law_weights", "_law_width", "_law_height"]) fun _ _ _ _ _ _ us hl => match us, hl with | [_, _, _, _], _ => rfl
  have F39 := bB (st := eR) a39.2.1 a39.2.2.1 a39.2.2.2
  have b39 := F39.binds (ps := ["_law_d", "_law_kinds_here", "_law_shape_here", "_law_thing"]) fun _ _ _ _ _ _ us hl => match us, hl with | [_, _, _, _], _ => rfl
  have F40 := bB (st := cx) a40.2.1 a40.2.2.1 a40.2.2.2
  have b40 := F40.binds (ps := ["_law_d", "_law_shape_here"]) fun _ _ _ _ _ _ us hl => match us, hl with | [_, _], _ => rfl
  have F41 := bB (st := fA) a41.2.1 a41.2.2.1 a41.2.2.2
  have b41 := F41.binds (ps := ["_law_bag_here", "_law_d", "_law_kinds_here"]) fun _ _ _ _ _ _ us hl => match us, hl with | [_, _, _], _ => rfl
  have F42 := bB (st := dI) a42.2.1 a42.2.2.1 a42.2.2.2
  have b42 := F42.binds (ps := ["_law_bag_here"]) fun _ _ _ _ _ _ us hl => match us, hl with | [_], _ => rfl
  have F43 := bB (st := cT) a43.2.1 a43.2.2.1 a43.2.2.2
  have b43 := F43.binds (ps := ["_law_d", "_law_kind", "_law_shape_here", "_law_thing"]) fun _ _ _ _ _ _ us hl => match us, hl with | [_, _, _, _], _ => rfl
  have F44 := bB (st := ec) a44.2.1 a44.2.2.1 a44.2.2.2
  have b44 := F44.binds (ps := ["_law_d", "_law_kind"]) fun _ _ _ _ _ _ us hl => match us, hl with | [_, _], _ => rfl
  have F45 := bB (st := cJ) a45.2.1 a45.2.2.1 a45.2.2.2
  have b45 := F45.binds (ps := ["_law_d", "_law_kinds_here", "_law_shape_here", "_law_told"]) fun _ _ _ _ _ _ us hl => match us, hl with | [_, _, _, _], _ => rfl
  have F46 := bB (st := d6) a46.2.1 a46.2.2.1 a46.2.2.2
  have b46 := F46.binds (ps := ["_law_d", "_law_kinds_here", "_law_shape_here"]) fun _ _ _ _ _ _ us hl => match us, hl with | [_, _, _], _ => rfl
  have F47 := bB (st := gE) a47.2.1 a47.2.2.1 a47.2.2.2
  have b47 := F47.binds (ps := ["_law_bag_here", "_law_d"]) fun _ _ _ _ _ _ us hl => match us, hl with | [_, _], _ => rfl
  have F48 := bB (st := cK) a48.2.1 a48.2.2.1 a48.2.2.2
  have b48 := F48.binds (ps := ["_law_bag_here", "_law_d", "_law_kind"]) fun _ _ _ _ _ _ us hl => match us, hl with | [_, _, _], _ => rfl
  have F49 := bB (st := eo) a49.2.1 a49.2.2.1 a49.2.2.2
  have b49 := F49.binds (ps := ["_law_d", "_law_kind", "_law_shape_here"]) fun _ _ _ _ _ _ us hl => match us, hl with | [_, _, _], _ => rfl
  have F50 := bB (st := pJ) a50.2.1 a50.2.2.1 a50.2.2.2
  have b50 := F50.binds (ps := ["_law_script"]) fun _ _ _ _ _ _ us hl => match us, hl with | [_], _ => rfl
  have T : Txt K mg ⟨f0, fd "is_whole" ik t0 m0 c0, f1, fd "common_divisor" dh t1 m1 c1, f2, fd "is_number" gC t2 m2 c2, f3, fd "divisor_of_all" dk t3 m3 c3, f4, fd "number" lh t4 m4 c4, f5, fd "mate" rY t5 m5 c5, f6, fd "plus" sO t6 m6 c6, f7, fd "less" rJ t7 m7 c7, f8, fd "times" oH t8 m8 c8, f9, fd "over" rW t9 m9 c9, f10, fd "contrary" iE t10 m10 c10, f11, fd "sign_of" jB t11 m11 c11, f12, fd "sign_of_parts" dH t12 m12 c12, f13, fd "is_above_nought" cQ t13 m13 c13, f14, fd "must_be_above_nought" cb t14 m14 c14, f15, fd "mixture_of" fI t15 m15 c15, f16, fd "shares_of" gD t16 m16 c16, f17, fd "is_share" ig t17 m17 c17, f18, fd "bar_for" jz t18 m18 c18, f19, fd "skew" rT t19 m19 c19, f20, fd "_law_bag" iq t20 m20 c20, f21, fd "_law_take" gx t21 m21 c21, f22, fd "_law_is_whole" dJ t22 m22 c22, f23, fd "_law_shared" eQ t23 m23 c23, f24, fd "_law_low" iD t24 m24 c24, f25, fd "_law_is_number" dj t25 m25 c25, f26, fd "_law_plus" gH t26 m26 c26, f27, fd "_law_minus" fE t27 m27 c27, f28, fd "_law_mate" gB t28 m28 c28, f29, fd "_law_times" fo t29 m29 c29, f30, fd "_law_contrary" dG t30 m30 c30, f31, fd "_law_sign" gy t31 m31 c31, f32, fd "_law_below" fF t32 m32 c32, f33, fd "_law_root" gG t33 m33 c33, f34, fd "_law_number" eP t34 m34 c34, f35, fd "_law_above" fG t35 m35 c35, f36, fd "_law_kinds" fz t36 m36 c36, f37, fd "_law_is_never_below" cq t37 m37 c37, f38, fd "_law_weigh" fH t38 m38 c38, f39, fd "_law_is_bar" eR t39 m39 c39, f40, fd "_law_lean_fraction" cx t40 m40 c40, f41, fd "_law_shape" fA t41 m41 c41, f42, fd "_law_fraction" dI t42 m42 c42, f43, fd "_law_is_mixture" cT t43 m43 c43, f44, fd "_law_is_lone" ec t44 m44 c44, f45, fd "_law_is_told_bar" cJ t45 m45 c45, f46, fd "_law_is_laid" d6 t46 m46 c46, f47, fd "_law_wide" gE t47 m47 c47, f48, fd "_law_wide_shapes" cK t48 m48 c48, f49, fd "_law_is_told" eo t49 m49 c49, fa, fd "law" pJ t50 m50 c50, g0, g1⟩ := ⟨F0, PySem.W.mg_of X G a0.1, a0.2.2.2, b0, F1, PySem.W.mg_of X G a1.1, a1.2.2.2, b1, F2, PySem.W.mg_of X G a2.1, a2.2.2.2, b2, F3, PySem.W.mg_of X G a3.1, a3.2.2.2, b3, F4, PySem.W.mg_of X G a4.1, a4.2.2.2, b4, F5, PySem.W.mg_of X G a5.1, a5.2.2.2, b5, F6, PySem.W.mg_of X G a6.1, a6.2.2.2, b6, F7, PySem.W.mg_of X G a7.1, a7.2.2.2, b7, F8, PySem.W.mg_of X G a8.1, a8.2.2.2, b8, F9, PySem.W.mg_of X G a9.1, a9.2.2.2, b9, F10, PySem.W.mg_of X G a10.1, a10.2.2.2, b10, F11, PySem.W.mg_of X G a11.1, a11.2.2.2, b11, F12, PySem.W.mg_of X G a12.1, a12.2.2.2, b12, F13, PySem.W.mg_of X G a13.1, a13.2.2.2, b13, F14, PySem.W.mg_of X G a14.1, a14.2.2.2, b14, F15, PySem.W.mg_of X G a15.1, a15.2.2.2, b15, F16, PySem.W.mg_of X G a16.1, a16.2.2.2, b16, F17, PySem.W.mg_of X G a17.1, a17.2.2.2, b17, F18, PySem.W.mg_of X G a18.1, a18.2.2.2, b18, F19, PySem.W.mg_of X G a19.1, a19.2.2.2, b19, F20, PySem.W.mg_of X G a20.1, a20.2.2.2, b20, F21, PySem.W.mg_of X G a21.1, a21.2.2.2, b21, F22, PySem.W.mg_of X G a22.1, a22.2.2.2, b22, F23, PySem.W.mg_of X G a23.1, a23.2.2.2, b23, F24, PySem.W.mg_of X G a24.1, a24.2.2.2, b24, F25, PySem.W.mg_of X G a25.1, a25.2.2.2, b25, F26, PySem.W.mg_of X G a26.1, a26.2.2.2, b26, F27, PySem.W.mg_of X G a27.1, a27.2.2.2, b27, F28, PySem.W.mg_of X G a28.1, a28.2.2.2, b28, F29, PySem.W.mg_of X G a29.1, a29.2.2.2, b29, F30, PySem.W.mg_of X G a30.1, a30.2.2.2, b30, F31, PySem.W.mg_of X G a31.1, a31.2.2.2, b31, F32, PySem.W.mg_of X G a32.1, a32.2.2.2, b32, F33, PySem.W.mg_of X G a33.1, a33.2.2.2, b33, F34, PySem.W.mg_of X G a34.1, a34.2.2.2, b34, F35, PySem.W.mg_of X G a35.1, a35.2.2.2, b35, F36, PySem.W.mg_of X G a36.1, a36.2.2.2, b36, F37, PySem.W.mg_of X G a37.1, a37.2.2.2, b37, F38, PySem.W.mg_of X G a38.1, a38.2.2.2, b38, F39, PySem.W.mg_of X G a39.1, a39.2.2.2, b39, F40, PySem.W.mg_of X G a40.1, a40.2.2.2, b40, F41, PySem.W.mg_of X G a41.1, a41.2.2.2, b41, F42, PySem.W.mg_of X G a42.1, a42.2.2.2, b42, F43, PySem.W.mg_of X G a43.1, a43.2.2.2, b43, F44, PySem.W.mg_of X G a44.1, a44.2.2.2, b44, F45, PySem.W.mg_of X G a45.1, a45.2.2.2, b45, F46, PySem.W.mg_of X G a46.1, a46.2.2.2, b46, F47, PySem.W.mg_of X G a47.1, a47.2.2.2, b47, F48, PySem.W.mg_of X G a48.1, a48.2.2.2, b48, F49, PySem.W.mg_of X G a49.1, a49.2.2.2, b49, F50, PySem.W.mg_of X G a50.1, a50.2.2.2, b50, PySem.W.mg_none_of X G z0, PySem.W.mg_none_of X G z1, PySem.W.mg_none_of X G z2, PySem.W.mg_none_of X G z3, PySem.W.mg_none_of X G z4, PySem.W.mg_none_of X G z5, PySem.W.mg_none_of X G z6, PySem.W.mg_none_of X G z7, PySem.W.mg_none_of X G z8, PySem.W.mg_none_of X G z9, PySem.W.mg_none_of X G z10, PySem.W.mg_none_of X G z11, ⟨PySem.W.mg_of X G v0, ⟨_, _, _, _, _, _, w0⟩⟩, ⟨PySem.W.mg_of X G v1, ⟨_, _, _, _, _, _, w1⟩⟩⟩
  exact ⟨_, fun s v => .of_eq rfl, fun base _ _ => K2 (e := ⟨l.prog, w, K, mg, base, _⟩) T⟩
theorem walk {l : PySem.W.OpenLaw} {q : Program} {loose : List Str} {XP : (Str → Option Value) → Heap → Prop} {YP : World → Heap → Prop} {d : DefRec} {K : Params → PySem.W.Frag} (tabs : List Addr) (hn : l.most = some 63) (hdf : d.params.defaults = [])
    (hY : ∀ (w : World) (h : Heap), YP w h → (K w.params).In h ∧ (∀ p ∈ tabs, h.get? p = some (PySem.W.tabObj #[]) ∧ (K w.params).lookup p = none) ∧ (∀ p ∈ tabs, isCodeTable h p))
    (hA2 : ∀ (w : World) c o p q, (K w.params).lookup c = some o → d5 o = some (p, q) → p ∈ tabs)
    (F : ∀ (w : World) (mg : Str → Option Value) (fa : Addr) (h : Heap), (K w.params).In h → h.Ns mainGlobals mg → mg d.name = some (.ref fa) →
      ∃ fd : FuncData, (∀ (s : Shared) (u : Value), BindsTo s fd ⟨[u], []⟩ [("_law_script", u)]) ∧ ∀ base : Heap, (K w.params).In base → base.Ns mainGlobals mg → cu l.prog w (K w.params) mg base CX0 9 fa fd ["_law_script"] (spD (K w.params) wd)) :
    PySem.W.WalkO q loose XP YP l.row.toRowW d [] (fun f vs => PySem.call f vs) :=
  L2.Fm (n := 63) (k := 9) (x := "_law_script") (CX := fun _ => CX0) (sp := fun w => spD (K w.params) wd) tabs hn (by decide) hdf ⟨rfl, by decide, by decide⟩ hY hA2 F (fun w H a ns hl hT hS => Ei hl hT hS) fun _ _ _ _ _ z => z
end K35
open PySem PySem.W PyProof.Rows L2.DL in
set_option maxRecDepth 100000 in
set_option maxHeartbeats 0 in
theorem PySem.Challenge.cw_matefloors_k35_mixtures_holds : PySem.Challenge.rw_matefloors_k35_mixtures.Holds :=
  holds_law K35.H.ws fun said => holds_open (XP := XL K35.H.V []) (YP := K35.H.HK.says) (d := K35.H.D) (kwd := []) K35.H.left K35.H.HK.of K35.H.HK.keeps (fun s e => xl_of s (Bool.and_eq_true_iff.mp e).1) XL.keeps (by kernel_rfl) (by kernel_rfl) (by kernel_rfl)
    (fun s e => recFacts_of (Bool.and_eq_true_iff.mp e).2) (by kernel_rfl) said (by kernel_rfl) ⟨by kernel_rfl, by kernel_rfl, by kernel_rfl, by kernel_rfl, by kernel_rfl, by kernel_rfl⟩ ⟨[.list []], by kernel_rfl, by kernel_rfl⟩
    (K35.walk (l := PySem.Challenge.rw_matefloors_k35_mixtures) (K := K35.H.K) K35.H.tabs (by kernel_rfl) (by kernel_rfl) (fun w h Y => by
      have Y : (K35.H.KF w.params).In h := Y
      refine ⟨zh Y, fun p hp => ?_, fun p hp => ?_⟩
      · rcases List.mem_cons.mp hp with rfl | hp
        · exact ⟨Y _ _ (K35.H.lA w.params).1, (K35.H.lA w.params).2⟩
        rcases List.mem_cons.mp hp with rfl | hp
        · exact ⟨Y _ _ (K35.H.C1 w.params).1, (K35.H.C1 w.params).2⟩
        exact nomatch hp
      · rcases List.mem_cons.mp hp with rfl | hp
        · obtain ⟨o, e1, e2⟩ := Dw (K35.H.rF w.params); exact xu (zh Y) e1 e2
        rcases List.mem_cons.mp hp with rfl | hp
        · obtain ⟨o, e1, e2⟩ := Dw (K35.H.FE w.params); exact xu (zh Y) e1 e2
        exact nomatch hp) (fun w c o p q e e2 => by
      have h := IA (K35.H.K1 w.params) e e2
      have h2 := List.mem_map_of_mem (f := fun x : Addr × Str => x.1) h
      exact h2) fun w mg fa h KX G hmg => by
      obtain ⟨h0, h1, h2, h3, h4, h5, h6, h7, h8, h9, h10, h11, h12, h13, h14, h15, h16, h17, h18, h19, h20, h21, h22, h23, h24, h25, h26, h27, h28, h29, h30, h31, h32, h33, h34, h35, h36, h37, h38, h39, h40, h41, h42, h43, h44, h45, h46, h47, h48, h49, h50, h51, h52, h53, h54, h55, h56, h57, h58, h59, h60, h61, h62, h63, h64⟩ := K35.H.facts w.params
      exact K35.all_mk KX G hmg h0 h1 h2 h3 h4 h5 h6 h7 h8 h9 h10 h11 h12 h13 h14 h15 h16 h17 h18 h19 h20 h21 h22 h23 h24 h25 h26 h27 h28 h29 h30 h31 h32 h33 h34 h35 h36 h37 h38 h39 h40 h41 h42 h43 h44 h45 h46 h47 h48 h49 h50 h51 h52 h53 h54 h55 h56 h57 h58 h59 h60 h61 h62 h63.1 h63.2 h64.1 h64.2)
