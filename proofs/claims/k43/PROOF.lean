import PyProof.Rows.All
import Wide.All
import OpenK.AllK
import Wide.FinOn
import Lean
import PyProof.EqAt
import PyProof.EqKinds
import PyProof.TupleCall
import KE.KLam
import PyProof.ExcBaseAll.ValueError
import PyProof.ExcAttrAll.ValueError
import PyProof.EnumMake
import PyProof.WalksEnum
import PyProof.Rows.SetFrom
import PyProof.SetRoads
import KE.KFind
import PySem.Challenge.RW_matefloors_k43_whole_kinds_more_and_fewe
set_option Elab.async false
set_option linter.all false
set_option maxRecDepth 100000
set_option maxHeartbeats 4000000
namespace L2
open PySem PySem.W
def lV : Sem Fin → Bool
  | .choose .. => false
  | .os .. => false
  | _ => true
theorem LG {den : Code → Sem Fin} {p : Program} {w : World} {os : OsState} {s s' : Shared} {t t' : Thread} (h : lV t.cur = true) (e : step den p ⟨fun _ _ => 0, w.params⟩ s t = .go s' t') :
    step den p w { s with os := os } t = .go { s' with os := os } t' := by
  obtain ⟨heap, gens, drawn, toks, os0⟩ := s
  obtain ⟨cur, code, pos, stack⟩ := t
  cases cur <;> simp only [step, finish, lV] at e h ⊢ <;> (try (cases h; done)) <;> (repeat' split at e) <;> simp_all <;> (try (obtain ⟨rfl, rfl⟩ := e; simp_all)) <;> (try (obtain ⟨h1, h2⟩ := e; subst h1; rfl))
def qS (tb : String → Option Builtin) (p : Program) (P : Params) (n₀ : Nat) (ann : Option Value) : Nat → Shared → Thread → Option Shared
  | 0, _, _ => none
  | n + 1, s, t => match through t with
    | true => some s
    | false => match stepOk n₀ ann t && lV t.cur with
      | false => none
      | true => match step (denote tb) p ⟨fun _ _ => 0, P⟩ s t with
        | .go s' t' => qS tb p P n₀ ann n s' t'
        | .halt _ _ => none
theorem vX {tb : String → Option Builtin} {p : Program} {w : World} {n₀ : Nat} {ann : Option Value} {os : OsState} : ∀ {n : Nat} {s s' : Shared} {t : Thread}, qS tb p w.params n₀ ann n s t = some s' → topRun tb p w n₀ ann n { s with os := os } t = some { s' with os := os }
  | 0, _, _, _, h => by cases h
  | n + 1, s, s', t, h => by
    unfold qS at h
    unfold topRun
    cases ht : through t with
    | true => rw [ht] at h; cases h; rfl
    | false =>
      rw [ht] at h
      cases hk : (stepOk n₀ ann t && lV t.cur) with
      | false => rw [hk] at h; cases h
      | true =>
        rw [hk] at h
        obtain ⟨k1, k2⟩ := Bool.and_eq_true_iff.mp hk
        cases hs : step (denote tb) p ⟨fun _ _ => 0, w.params⟩ s t with
        | halt o s₂ => rw [hs] at h; cases h
        | go s₂ t₂ =>
          rw [hs] at h
          rw [k1, LG (os := os) k2 hs]
          exact vX h
noncomputable def vm (p : Program) (P : Params) (n₀ : Nat) (ann : Option Value) : Nat → Shared → Thread → Option Shared
  | 0, _, _ => none
  | n + 1, s, t => match through t with
    | true => some s
    | false => match Fast.tw6613529449190102663 n₀ ann t && lV t.cur with
      | false => none
      | true => match Fast.tw8437177126325714943 (Fast.tw11892475500146522536 Fast.tw14364793385576792824) p ⟨fun _ _ => 0, P⟩ s t with
        | .go s' t' => vm p P n₀ ann n s' t'
        | .halt _ _ => none
theorem vz {p : Program} {P : Params} {n₀ : Nat} {ann : Option Value} : ∀ (n : Nat) (s : Shared) (t : Thread), vm p P n₀ ann n s t = qS treeTable p P n₀ ann n s t
  | 0, _, _ => rfl
  | n + 1, s, t => by
    unfold vm qS
    rw [← Fast.te6613529449190102663, ← Fast.te8437177126325714943, ← Fast.te11892475500146522536, ← Fast.te14364793385576792824]
    cases through t with
    | true => rfl
    | false =>
      cases (stepOk n₀ ann t && lV t.cur) with
      | false => rfl
      | true =>
        cases step (denote treeTable) p ⟨fun _ _ => 0, P⟩ s t with
        | halt o s₂ => rfl
        | go s₂ t₂ => exact vz n s₂ t₂
end L2
namespace L2
open PySem
def pB (s : Stmt) : Arguments := match s with
  | .FunctionDef _ a _ _ _ _ _ _ _ _ => a
  | _ => { posonlyargs := [], args := [], vararg := none, kwonlyargs := [], kw_defaults := [], kwarg := none, defaults := [] }
def kK (s : Stmt) : List Stmt := match s with
  | .FunctionDef _ _ b _ _ _ _ _ _ _ => b
  | _ => []
def aC (s : Stmt) : Scope := match s with
  | .FunctionDef _ _ _ _ _ _ sc _ _ _ => sc
  | _ => { kind := .function, names := [], isGenerator := false, isCoroutine := false }
end L2
namespace L2.DL
open PySem
def GZ : List Str := ["law", "_law_is_right", "_law_is_put", "_law_are_refused", "_law_is_told", "_law_said", "_law_is_plan_told"]
def eE (o : Obj) : Option (Addr × Str) := match o.cls, o.data with
  | .type c, .fields vs => if c = "code" then (match vs[1]?, vs[7]?, vs[9]?, vs[10]?, vs[11]?, vs[18]? with
    | some (Value.str q _), some (Value.int _ _), some (Value.bool _), some (Value.int _ _), some (Value.ref P), some (Value.str _ _) => if GZ.contains q = true then some (P, q) else none
    | _, _, _, _, _, _ => none) else none
  | _, _ => none
end L2.DL
namespace K43
open PySem L2
def top (i : Nat) : Stmt := PySem.Challenge.pw_matefloors_k43_whole_kinds_more_and_fewe.main.body.getD i (.Pass ⟨0, 0, 0, 0⟩)
abbrev iF : Stmt := top 7
abbrev cV : Stmt := top 8
abbrev gv : Stmt := top 9
abbrev cW : Stmt := top 10
abbrev lD : Stmt := top 11
abbrev sZ : Stmt := top 12
abbrev tw : Stmt := top 13
abbrev tQ : Stmt := top 14
abbrev o9 : Stmt := top 15
abbrev tN : Stmt := top 16
abbrev iE : Stmt := top 17
abbrev jO : Stmt := top 18
abbrev dq : Stmt := top 19
abbrev ix : Stmt := top 20
abbrev cP : Stmt := top 21
abbrev bQ : Stmt := top 22
abbrev ig : Stmt := top 25
abbrev dm : Stmt := top 26
abbrev dj : Stmt := top 28
abbrev eU : Stmt := top 30
abbrev gC : Stmt := top 31
abbrev iq : Stmt := top 32
abbrev jN : Stmt := top 33
abbrev tS : Stmt := top 34
abbrev cQ : Stmt := top 35
abbrev cX : Stmt := top 36
abbrev fA : Stmt := top 37
abbrev gu : Stmt := top 39
abbrev jP : Stmt := top 40
abbrev eY : Stmt := top 41
abbrev eZ : Stmt := top 42
abbrev fi : Stmt := top 43
abbrev dQ : Stmt := top 44
abbrev cH : Stmt := top 45
abbrev cL : Stmt := top 46
abbrev fe : Stmt := top 48
abbrev jM : Stmt := top 49
abbrev ez : Stmt := top 51
abbrev lS : Stmt := top 52
abbrev ip : Stmt := top 54
abbrev gn : Stmt := top 55
abbrev eB : Stmt := top 56
abbrev il : Stmt := top 57
abbrev gB : Stmt := top 58
abbrev eW : Stmt := top 59
abbrev eS : Stmt := top 61
abbrev di : Stmt := top 62
abbrev gA : Stmt := top 63
abbrev gz : Stmt := top 65
abbrev eA : Stmt := top 66
abbrev fk : Stmt := top 67
abbrev fx : Stmt := top 68
abbrev fo : Stmt := top 70
abbrev dr : Stmt := top 71
abbrev dn : Stmt := top 73
abbrev p4 : Stmt := top 74
abbrev fd (n : Str) (s : Stmt) (tk : Tok) (m : Str) (cd : Addr) : FuncData := PySem.W.fnOf n n (pB s) (kK s) (aC s) .none .none .none (.str m tk) none (.ref cd) .none
abbrev FQ (K : PySem.W.Frag) (n : Str) (s : Stmt) (a cd : Addr) (tk : Tok) (m : Str) : Prop := PySem.W.nsIn K mainGlobals n = some (some (.ref a)) ∧ K.lookup a = some ⟨.type "function", none, .func (fd n s tk m cd), #[]⟩ ∧ PySem.W.codeIn K (.ref cd) n = true ∧ PySem.W.keepIn K (.ref a) = true
end K43
namespace K43.H
open PySem PySem.W PyProof.Rows L2 L2.DL
set_option maxRecDepth 100000
set_option maxHeartbeats 0
abbrev R : OpenLaw := PySem.Challenge.rw_matefloors_k43_whole_kinds_more_and_fewe
noncomputable def sT (P : Params) : Option Shared := vm R.row.prog P 11 (some (.ref 6)) 20000 { heap := boot_heap P, gens := #[], drawn := boot_drawn, toks := boot_toks, os := default } (topStub R.row.prog)
noncomputable def hT (P : Params) : Heap := (sT P).elim default (·.heap)
def isNm : Stmt → Bool
  | .Assign [.Name x _] _ _ => x == "__name__"
  | _ => false
def V : Program := { R.row.prog with main := { R.row.prog.main with body := R.row.prog.main.body.filter fun s => !isNm s } }
def as : List Addr := [3, 60, 59, 67, 66, 74, 73, 81, 80, 88, 87, 95, 94, 102, 101, 109, 108, 116, 115, 123, 122, 130, 129, 137, 136, 144, 143, 151, 150, 158, 157, 165, 164, 170, 169, 177, 176, 184, 183, 189, 188, 196, 195, 203, 202, 210, 209, 217, 216, 224, 223, 231, 230, 238, 237, 245, 244, 252, 251, 259, 258, 264, 263, 271, 270, 278, 277, 285, 284, 292, 291, 297, 296, 304, 303, 311, 310, 318, 317, 325, 324, 332, 331, 339, 338, 346, 345, 353, 352, 360, 359, 374, 373, 381, 380, 388, 387, 400, 399, 407, 406, 414, 413, 421, 420, 435, 434, 442, 441, 452, 451, 457, 456, 52, 53]
def tabs : List Addr := [454]
noncomputable def K (P : Params) : Frag := as.map fun a => (a, ((hT P).get? a).getD default)
noncomputable def TF (P : Params) : Frag := tabs.map fun a => (a, ((hT P).get? a).getD default)
noncomputable def KF (P : Params) : Frag := K P ++ TF P
theorem kAs (P : Params) : as ++ tabs = (KF P).map (·.1) := by
  unfold KF K TF
  rw [List.map_append, List.map_map, List.map_map]
  exact congr (congrArg HAppend.hAppend (List.map_id _).symm) (List.map_id _).symm
noncomputable def HK : Hook := kHook KF (as ++ tabs) kAs
def posOf : Stmt → Pos
  | .FunctionDef _ _ _ _ _ _ _ _ _ p => p
  | _ => ⟨0, 0, 0, 0⟩
def D : DefRec := ⟨"law", pB K43.p4, kK K43.p4, aC K43.p4, posOf K43.p4⟩
def Xt : Shared → Bool := fun s => xlAt V [] s && recOk R.row.records s
theorem runC (P : Params) : (sT P).map (fun s => (s.gens, s.drawn, s.toks)) = some (#[], {}, 836) := by kernel_rfl
theorem run (w : World) (os : OsState) : topRun treeTable R.row.prog w 11 (some (.ref 6)) 20000 { heap := boot_heap w.params, gens := #[], drawn := boot_drawn, toks := boot_toks, os := os } (topStub R.row.prog) = some { heap := hT w.params, gens := #[], drawn := {}, toks := 836, os := os } := by
  have h := runC w.params
  cases e : sT w.params with
  | none => rw [e] at h; cases h
  | some s =>
    rw [e] at h
    obtain ⟨heap, gens, drawn, toks, os0⟩ := s
    have hh : hT w.params = heap := by unfold hT; rw [e]; rfl
    have h' : some (gens, drawn, toks) = some ((#[] : Array GenState), ({} : Drawn), 836) := h
    cases h'
    rw [hh]
    exact vX (w := w) (os := os) ((vz _ _ _).symm.trans e)
theorem Nc (w : World) (os : OsState) : (staticsOk (importedModules R.row.prog.main.body) (boot_heap w.params) (hT w.params) && namesBound R.row.prog (hT w.params) && gensDone { heap := hT w.params, gens := #[], drawn := {}, toks := 836, os := os } && laidKept (boot_heap w.params) (hT w.params)) = true := by kernel_rfl
theorem LY (w : World) (os : OsState) : (openSeen V [] (importedModules R.row.prog.main.body) Xt true { heap := hT w.params, gens := #[], drawn := {}, toks := 836, os := os }).1 = (openGood V []).1 := by kernel_rfl
theorem MV (w : World) (os : OsState) : (openSeen V [] (importedModules R.row.prog.main.body) Xt true { heap := hT w.params, gens := #[], drawn := {}, toks := 836, os := os }).2.1 = (openGood V []).2.1 := by kernel_rfl
theorem MD (w : World) (os : OsState) : (openSeen V [] (importedModules R.row.prog.main.body) Xt true { heap := hT w.params, gens := #[], drawn := {}, toks := 836, os := os }).2.2.1 = (openGood V []).2.2.1 := by kernel_rfl
theorem Mx (w : World) (os : OsState) : (openSeen V [] (importedModules R.row.prog.main.body) Xt true { heap := hT w.params, gens := #[], drawn := {}, toks := 836, os := os }).2.2.2.1 = (openGood V []).2.2.2.1 := by kernel_rfl
theorem MA (w : World) (os : OsState) : (openSeen V [] (importedModules R.row.prog.main.body) Xt true { heap := hT w.params, gens := #[], drawn := {}, toks := 836, os := os }).2.2.2.2.1 = (openGood V []).2.2.2.2.1 := by kernel_rfl
theorem Ly (w : World) (os : OsState) : (openSeen V [] (importedModules R.row.prog.main.body) Xt true { heap := hT w.params, gens := #[], drawn := {}, toks := 836, os := os }).2.2.2.2.2.1 = (openGood V []).2.2.2.2.2.1 := by kernel_rfl
theorem Lz (w : World) (os : OsState) : (openSeen V [] (importedModules R.row.prog.main.body) Xt true { heap := hT w.params, gens := #[], drawn := {}, toks := 836, os := os }).2.2.2.2.2.2.1 = (openGood V []).2.2.2.2.2.2.1 := by kernel_rfl
theorem Mj (w : World) (os : OsState) : (openSeen V [] (importedModules R.row.prog.main.body) Xt true { heap := hT w.params, gens := #[], drawn := {}, toks := 836, os := os }).2.2.2.2.2.2.2.1 = (openGood V []).2.2.2.2.2.2.2.1 := by kernel_rfl
theorem Ls (w : World) (os : OsState) : (openSeen V [] (importedModules R.row.prog.main.body) Xt true { heap := hT w.params, gens := #[], drawn := {}, toks := 836, os := os }).2.2.2.2.2.2.2.2 = (openGood V []).2.2.2.2.2.2.2.2 := by kernel_rfl
theorem Oa (w : World) (os : OsState) : openSeen V [] (importedModules R.row.prog.main.body) Xt true { heap := hT w.params, gens := #[], drawn := {}, toks := 836, os := os } = openGood V [] := Prod.ext (LY w os) (Prod.ext (MV w os) (Prod.ext (MD w os) (Prod.ext (Mx w os) (Prod.ext (MA w os) (Prod.ext (Ly w os) (Prod.ext (Lz w os) (Prod.ext (Mj w os) (Ls w os))))))))
theorem Nx (w : World) (os : OsState) : HK.obs { heap := hT w.params, gens := #[], drawn := {}, toks := 836, os := os } = HK.val w := by kernel_rfl
theorem seen (w : World) : (fun os => (staticsOk (importedModules R.row.prog.main.body) (boot_heap w.params) (hT w.params) && namesBound R.row.prog (hT w.params) && gensDone { heap := hT w.params, gens := #[], drawn := {}, toks := 836, os := os } && laidKept (boot_heap w.params) (hT w.params),
    openSeen V [] (importedModules R.row.prog.main.body) Xt true { heap := hT w.params, gens := #[], drawn := {}, toks := 836, os := os }, HK.obs { heap := hT w.params, gens := #[], drawn := {}, toks := 836, os := os })) = fun _ : OsState => (true, openGood V [], HK.val w) :=
  funext fun os => Prod.ext (Nc w os) (Prod.ext (Oa w os) (Nx w os))
theorem ws : R.wellSaid = true := by kernel_rfl
theorem facts (P : Params) : FQ (K P) "is_whole" iF 60 59 239 "matefloors.numbers" ∧ FQ (K P) "common_divisor" cV 67 66 239 "matefloors.numbers" ∧ FQ (K P) "is_number" gv 74 73 239 "matefloors.numbers" ∧ FQ (K P) "divisor_of_all" cW 81 80 239 "matefloors.numbers" ∧ FQ (K P) "number" lD 88 87 239 "matefloors.numbers" ∧ FQ (K P) "mate" sZ 95 94 239 "matefloors.numbers" ∧ FQ (K P) "plus" tw 102 101 239 "matefloors.numbers" ∧ FQ (K P) "less" tQ 109 108 239 "matefloors.numbers" ∧ FQ (K P) "times" o9 116 115 239 "matefloors.numbers" ∧ FQ (K P) "over" tN 123 122 239 "matefloors.numbers" ∧ FQ (K P) "contrary" iE 130 129 239 "matefloors.numbers" ∧ FQ (K P) "sign_of" jO 137 136 239 "matefloors.numbers" ∧ FQ (K P) "sign_of_parts" dq 144 143 239 "matefloors.numbers" ∧ FQ (K P) "is_above" ix 151 150 239 "matefloors.numbers" ∧ FQ (K P) "is_above_nought" cP 158 157 239 "matefloors.numbers" ∧ FQ (K P) "must_be_above_nought" bQ 165 164 239 "matefloors.numbers" ∧ FQ (K P) "is_kinds" ig 170 169 388 "matefloors.layings" ∧ FQ (K P) "must_be_kinds" dm 177 176 388 "matefloors.layings" ∧ FQ (K P) "lean_fraction" dj 184 183 406 "matefloors.leaning" ∧ FQ (K P) "mixture_of" eU 189 188 417 "matefloors.mixtures" ∧ FQ (K P) "shares_of" gC 196 195 417 "matefloors.mixtures" ∧ FQ (K P) "is_share" iq 203 202 417 "matefloors.mixtures" ∧ FQ (K P) "bar_for" jN 210 209 417 "matefloors.mixtures" ∧ FQ (K P) "skew" tS 217 216 417 "matefloors.mixtures" ∧ FQ (K P) "plan_of_mixture" cQ 224 223 417 "matefloors.mixtures" ∧ FQ (K P) "plan_of_shares" cX 231 230 417 "matefloors.mixtures" ∧ FQ (K P) "share_plan" fA 238 237 417 "matefloors.mixtures" ∧ FQ (K P) "wish_told" gu 245 244 498 "matefloors.wishes" ∧ FQ (K P) "is_laid" jP 252 251 498 "matefloors.wishes" ∧ FQ (K P) "leans_most" eY 259 258 498 "matefloors.wishes" ∧ FQ (K P) "mate_signs" eZ 264 263 498 "matefloors.wishes" ∧ FQ (K P) "leans_more" fi 271 270 498 "matefloors.wishes" ∧ FQ (K P) "plan_by_both" dQ 278 277 498 "matefloors.wishes" ∧ FQ (K P) "with_greater_mate" cH 285 284 498 "matefloors.wishes" ∧ FQ (K P) "has_greater_mate" cL 292 291 498 "matefloors.wishes" ∧ FQ (K P) "is_weights" fe 297 296 588 "matefloors.weighing" ∧ FQ (K P) "weighed" jM 304 303 588 "matefloors.weighing" ∧ FQ (K P) "never_below" ez 311 310 612 "matefloors.bars" ∧ FQ (K P) "is_bar" lS 318 317 612 "matefloors.bars" ∧ FQ (K P) "_law_bag" ip 325 324 644 "law_matefloors_k43_whole_kinds_more_and_fewe" ∧ FQ (K P) "_law_take" gn 332 331 644 "law_matefloors_k43_whole_kinds_more_and_fewe" ∧ FQ (K P) "_law_shared" eB 339 338 644 "law_matefloors_k43_whole_kinds_more_and_fewe" ∧ FQ (K P) "_law_low" il 346 345 644 "law_matefloors_k43_whole_kinds_more_and_fewe" ∧ FQ (K P) "_law_plus" gB 353 352 644 "law_matefloors_k43_whole_kinds_more_and_fewe" ∧ FQ (K P) "_law_minus" eW 360 359 644 "law_matefloors_k43_whole_kinds_more_and_fewe" ∧ FQ (K P) "_law_times" eS 374 373 644 "law_matefloors_k43_whole_kinds_more_and_fewe" ∧ FQ (K P) "_law_contrary" di 381 380 644 "law_matefloors_k43_whole_kinds_more_and_fewe" ∧ FQ (K P) "_law_sign" gA 388 387 644 "law_matefloors_k43_whole_kinds_more_and_fewe" ∧ FQ (K P) "_law_root" gz 400 399 644 "law_matefloors_k43_whole_kinds_more_and_fewe" ∧ FQ (K P) "_law_number" eA 407 406 644 "law_matefloors_k43_whole_kinds_more_and_fewe" ∧ FQ (K P) "_law_above" fk 414 413 644 "law_matefloors_k43_whole_kinds_more_and_fewe" ∧ FQ (K P) "_law_kinds" fx 421 420 644 "law_matefloors_k43_whole_kinds_more_and_fewe" ∧ FQ (K P) "_law_shape" fo 435 434 644 "law_matefloors_k43_whole_kinds_more_and_fewe" ∧ FQ (K P) "_law_fraction" dr 442 441 644 "law_matefloors_k43_whole_kinds_more_and_fewe" ∧ FQ (K P) "_law_go_along" dn 452 451 644 "law_matefloors_k43_whole_kinds_more_and_fewe" ∧ FQ (K P) "law" p4 457 456 644 "law_matefloors_k43_whole_kinds_more_and_fewe" ∧ nsIn (K P) mainGlobals "isinstance" = some none ∧ nsIn (K P) mainGlobals "int" = some none ∧ nsIn (K P) mainGlobals "bool" = some none ∧ nsIn (K P) mainGlobals "abs" = some none ∧ nsIn (K P) mainGlobals "tuple" = some none ∧ nsIn (K P) mainGlobals "len" = some none ∧ nsIn (K P) mainGlobals "all" = some none ∧ nsIn (K P) mainGlobals "range" = some none ∧ nsIn (K P) mainGlobals "max" = some none ∧ nsIn (K P) mainGlobals "min" = some none ∧ nsIn (K P) mainGlobals "MOST_KINDS" = some (some (.int 3 390)) ∧ (nsIn (K P) mainGlobals "NOUGHT" = some (some (.ref 52)) ∧ (K P).lookup 52 = some ⟨.type "tuple", none, .seq #[.int 0 241, .int 0 242, .int 1 243] 0, #[]⟩) ∧ (nsIn (K P) mainGlobals "ONE" = some (some (.ref 53)) ∧ (K P).lookup 53 = some ⟨.type "tuple", none, .seq #[.int 1 245, .int 0 246, .int 1 247] 0, #[]⟩) :=
  ⟨⟨by kernel_rfl, by kernel_rfl, by kernel_rfl, by kernel_rfl⟩, ⟨by kernel_rfl, by kernel_rfl, by kernel_rfl, by kernel_rfl⟩, ⟨by kernel_rfl, by kernel_rfl, by kernel_rfl, by kernel_rfl⟩, ⟨by kernel_rfl, by kernel_rfl, by kernel_rfl, by kernel_rfl⟩, ⟨by kernel_rfl, by kernel_rfl, by kernel_rfl, by kernel_rfl⟩, ⟨by kernel_rfl, by kernel_rfl, by kernel_rfl, by kernel_rfl⟩, ⟨by kernel_rfl, by kernel_rfl, by kernel_rfl, by kernel_rfl⟩, ⟨by kernel_rfl, by kernel_rfl, by kernel_rfl, by kernel_rfl⟩, ⟨by kernel_rfl, by kernel_rfl, by kernel_rfl, by kernel_rfl⟩, ⟨by kernel_rfl, by kernel_rfl, by kernel_rfl, by kernel_rfl⟩, ⟨by kernel_rfl, by kernel_rfl, by kernel_rfl, by kernel_rfl⟩, ⟨by kernel_rfl, by kernel_rfl, by kernel_rfl, by kernel_rfl⟩, ⟨by kernel_rfl, by kernel_rfl, by kernel_rfl, by kernel_rfl⟩, ⟨by kernel_rfl, by kernel_rfl, by kernel_rfl, by kernel_rfl⟩, ⟨by kernel_rfl, by kernel_rfl, by kernel_rfl, by kernel_rfl⟩, ⟨by kernel_rfl, by kernel_rfl, by kernel_rfl, by kernel_rfl⟩, ⟨by kernel_rfl, by kernel_rfl, by kernel_rfl, by kernel_rfl⟩, ⟨by kernel_rfl, by kernel_rfl, by kernel_rfl, by kernel_rfl⟩, ⟨by kernel_rfl, by kernel_rfl, by kernel_rfl, by kernel_rfl⟩, ⟨by kernel_rfl, by kernel_rfl, by kernel_rfl, by kernel_rfl⟩, ⟨by kernel_rfl, by kernel_rfl, by kernel_rfl, by kernel_rfl⟩, ⟨by kernel_rfl, by kernel_rfl, by kernel_rfl, by kernel_rfl⟩, ⟨by kernel_rfl, by kernel_rfl, by kernel_rfl, by kernel_rfl⟩, ⟨by kernel_rfl, by kernel_rfl, by kernel_rfl, by kernel_rfl⟩, ⟨by kernel_rfl, by kernel_rfl, by kernel_rfl, by kernel_rfl⟩, ⟨by kernel_rfl, by kernel_rfl, by kernel_rfl, by kernel_rfl⟩, ⟨by kernel_rfl, by kernel_rfl, by kernel_rfl, by kernel_rfl⟩, ⟨by kernel_rfl, by kernel_rfl, by kernel_rfl, by kernel_rfl⟩, ⟨by kernel_rfl, by kernel_rfl, by kernel_rfl, by kernel_rfl⟩, ⟨by kernel_rfl, by kernel_rfl, by kernel_rfl, by kernel_rfl⟩, ⟨by kernel_rfl, by kernel_rfl, by kernel_rfl, by kernel_rfl⟩, ⟨by kernel_rfl, by kernel_rfl, by kernel_rfl, by kernel_rfl⟩, ⟨by kernel_rfl, by kernel_rfl, by kernel_rfl, by kernel_rfl⟩, ⟨by kernel_rfl, by kernel_rfl, by kernel_rfl, by kernel_rfl⟩, ⟨by kernel_rfl, by kernel_rfl, by kernel_rfl, by kernel_rfl⟩, ⟨by kernel_rfl, by kernel_rfl, by kernel_rfl, by kernel_rfl⟩, ⟨by kernel_rfl, by kernel_rfl, by kernel_rfl, by kernel_rfl⟩, ⟨by kernel_rfl, by kernel_rfl, by kernel_rfl, by kernel_rfl⟩, ⟨by kernel_rfl, by kernel_rfl, by kernel_rfl, by kernel_rfl⟩, ⟨by kernel_rfl, by kernel_rfl, by kernel_rfl, by kernel_rfl⟩, ⟨by kernel_rfl, by kernel_rfl, by kernel_rfl, by kernel_rfl⟩, ⟨by kernel_rfl, by kernel_rfl, by kernel_rfl, by kernel_rfl⟩, ⟨by kernel_rfl, by kernel_rfl, by kernel_rfl, by kernel_rfl⟩, ⟨by kernel_rfl, by kernel_rfl, by kernel_rfl, by kernel_rfl⟩, ⟨by kernel_rfl, by kernel_rfl, by kernel_rfl, by kernel_rfl⟩, ⟨by kernel_rfl, by kernel_rfl, by kernel_rfl, by kernel_rfl⟩, ⟨by kernel_rfl, by kernel_rfl, by kernel_rfl, by kernel_rfl⟩, ⟨by kernel_rfl, by kernel_rfl, by kernel_rfl, by kernel_rfl⟩, ⟨by kernel_rfl, by kernel_rfl, by kernel_rfl, by kernel_rfl⟩, ⟨by kernel_rfl, by kernel_rfl, by kernel_rfl, by kernel_rfl⟩, ⟨by kernel_rfl, by kernel_rfl, by kernel_rfl, by kernel_rfl⟩, ⟨by kernel_rfl, by kernel_rfl, by kernel_rfl, by kernel_rfl⟩, ⟨by kernel_rfl, by kernel_rfl, by kernel_rfl, by kernel_rfl⟩, ⟨by kernel_rfl, by kernel_rfl, by kernel_rfl, by kernel_rfl⟩, ⟨by kernel_rfl, by kernel_rfl, by kernel_rfl, by kernel_rfl⟩, ⟨by kernel_rfl, by kernel_rfl, by kernel_rfl, by kernel_rfl⟩, by kernel_rfl, by kernel_rfl, by kernel_rfl, by kernel_rfl, by kernel_rfl, by kernel_rfl, by kernel_rfl, by kernel_rfl, by kernel_rfl, by kernel_rfl, by kernel_rfl, ⟨by kernel_rfl, by kernel_rfl⟩, ⟨by kernel_rfl, by kernel_rfl⟩⟩
theorem Kg (P : Params) : ((K P).filterMap fun p => eE p.2) = [(454, ("law" : Str))] ∧ ((K P).lookup 456).bind eE = some (454, ("law" : Str)) ∧ (KF P).lookup 454 = some (tabObj #[]) ∧ (K P).lookup 454 = none := ⟨by kernel_rfl, by kernel_rfl, by kernel_rfl, by kernel_rfl⟩
theorem Mb (P : Params) : ((K P).filterMap fun p => eE p.2) = [(454, ("law" : Str))] := (Kg P).1
theorem HI (P : Params) : ((K P).lookup 456).bind eE = some (454, ("law" : Str)) := (Kg P).2.1
theorem Nq {q2 : Str} (h : ((454 : Addr), q2) ∈ ([(454, ("law" : Str))] : List (Addr × Str))) : q2 = "law" := by simpa using h
theorem EX (P : Params) : (KF P).lookup 454 = some (tabObj #[]) ∧ (K P).lookup 454 = none := ⟨(Kg P).2.2.1, (Kg P).2.2.2⟩
theorem left : LeftO R.row.prog V [] Xt HK.obs HK.val 20000 :=
  LeftO.of_pieces (H₀ := boot_heap) (H₁ := hT) (gs₀ := #[]) (gs₁ := #[]) (d₀ := boot_drawn) (d₁ := {}) (k₀ := boot_toks) (k₁ := 836) (m₀ := 11) (ann := some (.ref 6)) (M := 20000)
    (boot_open (by kernel_rfl) (by kernel_rfl) (fun s => by kernel_rfl)) (fun w => by kernel_rfl) run (by kernel_rfl) seen
end K43.H
set_option Elab.async false
set_option linter.all false
set_option maxRecDepth 100000
namespace L2
open PySem PySem.Spec PyProof.Rows
def iK (A : Around) (h : Heap) : Prop := A.handled = none ∨ ∃ (e : Addr) (oe : Obj) (vs : Array Value), A.handled = some (.ref e) ∧ h.get? e = some oe ∧ oe.data = .fields vs ∧ vs[2]? = some .none
theorem xO : entryFor table "proto.unchain" = some Builtin.«proto.unchain» := entryFor_of_tree (by kernel_rfl)
section
variable {prog : Program} {w : World} {A : Around} {E : Value → Shared → Prop} {s : Shared}
theorem y4 {x e : Addr} {oe : Obj} {vs : Array Value} {Q : Value → Shared → Prop} (he : s.heap.get? e = some oe) (hd : oe.data = .fields vs) (h2 : vs[2]? = some .none) (h : Q .none s) :
    wpAny (model prog w) A (runValue (.builtin "proto.unchain" ⟨[.ref x, .ref e, .ref e, .bool false], []⟩)) Q E s := by
  refine wpAny_runValue (codeAny_builtin xO ?_)
  unfold Builtin.«proto.unchain»
  dsimp only
  refine wpAny_bind (wpAny_field he hd h2 ?_)
  rw [if_pos (by rfl)]
  exact wpAny_pure h
theorem wY {α : Type} {a : Addr} {oa : Obj} {ws : Array Value} {Q : α → Shared → Prop} (q : iK A s.heap) (ha : s.heap.get? a = some oa) (hda : oa.data = .fields ws) (hz : 2 < ws.size)
    (hnew : ∀ e oe, A.handled = some (.ref e) → s.heap.get? e = some oe → e ≠ a)
    (h : ∀ h', Heap.ExtBut a s.heap h' → (∃ o', h'.get? a = some o' ∧ o'.cls = oa.cls) → E (.ref a) { s with heap := h' }) : wpAny (model prog w) A (raiseNew (.ref a) : Sem α) Q E s := by
  unfold raiseNew
  refine wpAny_bind (wpAny_handled ?_)
  rcases q with q | ⟨e, oe, vs, q, he, hd, h2⟩
  · rw [q]
    exact wpAny_bind (wpAny_pure (wpAny_throw (h s.heap (fun b o _ z => z) ⟨oa, ha, rfl⟩)))
  · rw [q]
    have ne : e ≠ a := hnew e oe q he
    dsimp only
    rw [if_pos (by simp [ne])]
    refine wpAny_bind (wpAny_holding (y4 he hd h2 ?_))
    refine wpAny_bind ?_
    refine wpAny_setField ha hda hz (wpAny_throw ?_)
    have hd' := Obj.data_mapFields hda (·.setIfInBounds 2 (Value.ref e))
    exact h _ (Heap.SameBut.update ..).extBut ⟨_, Heap.get?_update_self _ ha (Obj.isFreed_of_fields hd'), Obj.cls_mapFields ..⟩
theorem wg {it : Addr} {α : Type} {h0 : Heap} {Q : α → Shared → Prop} (q : iK A s.heap) (k : Heap.ExtBut it h0 s.heap) (kl : ∀ e oe, A.handled = some (.ref e) → s.heap.get? e = some oe → True)
    (h : ∀ h' a, Heap.ExtBut it h0 h' → (∃ o', h'.get? a = some o' ∧ o'.cls = .type "StopIteration") → E (.ref a) { s with heap := h' }) : wpAny (model prog w) A (newExc (.type "StopIteration") [] >>= fun e => (raiseNew e : Sem α)) Q E s := by
  refine wpAny_bind ?_; simp only [newExc, newTuple]
  refine wpAny_bind (wpAny_newObj_type ?_ (by size_fits)); refine wpAny_bind (m := firstArgMember _ _) (wpAny_of_eq (a := Value.none) (by first | rfl | (simp only [firstArgMember]; rfl)) ?_); refine wpAny_newObj_type ?_ (by size_fits)
  have q' : ∀ o1 o2 : Obj, iK A ((s.heap.push o1).push o2) := fun o1 o2 => by
    rcases q with q | ⟨e, oe, vs, q, he, r⟩
    · exact .inl q
    · exact .inr ⟨e, oe, vs, q, Heap.get?_push_of_some _ (Heap.get?_push_of_some _ he), r⟩
  refine wY (q' _ _) (Heap.get?_push_size _ rfl) rfl (by rw [Array.size_append]; exact Nat.lt_of_lt_of_le (by decide : 2 < 6) (Nat.le_add_right _ _)) (fun e oe hq he z => ?_) fun h' hx ⟨o', ho', hc'⟩ => h h' _ (fun b o hb e => hx b o ?_ (Heap.get?_push_of_some _ (Heap.get?_push_of_some _ (k b o hb e)))) ⟨o', ho', hc'⟩
  · rcases q with q | ⟨e1, oe1, vs, q, he1, r⟩
    · rw [q] at hq; cases hq
    · rw [q] at hq; cases hq
      exact absurd (Heap.lt_size he1) (by rw [z]; simp)
  · exact Nat.ne_of_lt (Nat.lt_of_lt_of_le (Heap.lt_size (k b o hb e)) (by simp))
theorem qN {it : Addr} {o : Obj} {ws : Array Value} {f : Array Value → Array Value} (q : iK A s.heap) (ho : s.heap.get? it = some o) (hd : o.data = .fields ws) (hn : ∀ e, A.handled = some (.ref e) → e ≠ it) : iK A (s.heap.update it (Obj.mapFields f)) := by
  rcases q with q | ⟨e, oe, vs, q, he, r⟩
  · exact .inl q
  · exact .inr ⟨e, oe, vs, q, by rw [Heap.get?_update_other _ _ (Ne.symm (hn e q))]; exact he, r⟩
theorem xo {it l : Addr} {i : Nat} {items} {Q : Option Value → Shared → Prop} (q : iK A s.heap) (hn : ∀ e, A.handled = some (.ref e) → e ≠ it) (hit : s.heap.IsListIter it l i) (hl : s.heap.IsList l items) (hx : items[i]? = none)
    (hQ : ∀ h', Heap.ExtBut it s.heap h' → Q none { s with heap := h' }) : wpAny (model prog w) A (pyNext (.ref it)) Q E s := by
  obtain ⟨o, ho, hc, hd⟩ := id hit
  obtain ⟨ol, hol, _, nl, hdl⟩ := hl; unfold pyNext
  refine wpAny_bind (wpAny_attempt (wpAny_callSpecial?_slot (name := Str.ofString "__next__") hit.typeIs slot_listiter_next (wpAny_call_entry slot_listiter_next hit.typeIs entry_listiter_next ?_ (args_listiter_next _))))
  show wpAny _ _ (field (.ref it) 0 >>= _) _ _ s; refine wpAny_bind (wpAny_field ho hd (x := .ref l) rfl ?_)
  show wpAny _ _ (if (Value.ref l == Value.none) = true then _ else _) _ _ s; rw [if_neg (show ¬ ((Value.ref l == Value.none) = true) from Bool.false_ne_true)]
  show wpAny _ _ (field (.ref it) 1 >>= _) _ _ s; refine wpAny_bind (wpAny_field ho hd (x := .int i 0) rfl ?_)
  show wpAny _ _ (seqItems? (.ref l) >>= _) _ _ s; refine wpAny_bind (wpAny_seqItems hol hdl ?_); simp only [Int.toNat_natCast, hx]
  refine wpAny_bind (wpAny_rule (wpAny_bind (wpAny_setField ho hd (by simp) ?_)))
  refine wg (it := it) (h0 := s.heap) (A := A.in1) (qN (A := A.in1) q ho hd hn) (Heap.SameBut.update ..).extBut (fun _ _ _ _ => trivial) fun h' a hx' ⟨o', ho', hc'⟩ => ?_
  refine wpAny_bind (wpAny_isInstance (T := "StopIteration") (b := true) ⟨_, ho', hc'⟩ isSubtype_stop ?_); exact wpAny_pure (hQ _ hx')
theorem q5 {it t : Addr} {i : Nat} {items} {Q : Option Value → Shared → Prop} (q : iK A s.heap) (hn : ∀ e, A.handled = some (.ref e) → e ≠ it) (hit : IsTupIter s.heap it t i) (ht : IsTup s.heap t items) (hx : items[i]? = none)
    (hQ : ∀ h', Heap.ExtBut it s.heap h' → Q none { s with heap := h' }) : wpAny (model prog w) A (pyNext (.ref it)) Q E s := by
  obtain ⟨o, ho, hc, hd⟩ := id hit
  obtain ⟨ol, hol, _, nl, hdl⟩ := ht; unfold pyNext
  refine wpAny_bind (wpAny_attempt (wpAny_callSpecial?_slot (name := Str.ofString "__next__") hit.typeIs slot_tupleiter_next (wpAny_call_entry slot_tupleiter_next hit.typeIs entry_tupleiter_next ?_ (args_tupleiter_next _))))
  show wpAny _ _ (field (.ref it) 0 >>= _) _ _ s; refine wpAny_bind (wpAny_field ho hd (x := .ref t) rfl ?_)
  show wpAny _ _ (if (Value.ref t == Value.none) = true then _ else _) _ _ s; rw [if_neg (show ¬ ((Value.ref t == Value.none) = true) from Bool.false_ne_true)]
  show wpAny _ _ (field (.ref it) 1 >>= _) _ _ s; refine wpAny_bind (wpAny_field ho hd (x := .int i 0) rfl ?_)
  show wpAny _ _ (seqItems? (.ref t) >>= _) _ _ s; refine wpAny_bind (wpAny_seqItems hol hdl ?_); simp only [Int.toNat_natCast, hx]
  refine wpAny_bind (wpAny_rule (wpAny_bind (wpAny_setField ho hd (by simp) ?_)))
  refine wg (it := it) (h0 := s.heap) (A := A.in1) (qN (A := A.in1) q ho hd hn) (Heap.SameBut.update ..).extBut (fun _ _ _ _ => trivial) fun h' a hx' ⟨o', ho', hc'⟩ => ?_
  refine wpAny_bind (wpAny_isInstance (T := "StopIteration") (b := true) ⟨_, ho', hc'⟩ isSubtype_stop ?_); exact wpAny_pure (hQ _ hx')
theorem xQ {env : Env} {elts : List Expr} {x1} {pos : Pos} {t : Addr} {items : Array Value} {Q : Unit → Shared → Prop} (q : iK A s.heap) (ht : IsTup s.heap t items) (hn : (assignEach elts env).length = items.size)
    (hstar : (assignEach elts env).findIdx? (·.1) = none) (h : ∀ h', Heap.ExtBut s.heap.objs.size s.heap h' → wpAny (model prog w) A (assignInOrder ((assignEach elts env).map (·.2)) items.toList) Q E { s with heap := h' }) :
    wpAny (model prog w) A (assign (.Tuple elts x1 pos) env (.ref t)) Q E s := by
  rw [assign_Tuple]
  refine wpAny_bind (wpAny_standAt ?_)
  unfold unpack; rw [hn, hstar]
  refine wpAny_bind (wpAny_holding ?_)
  have hlt : t ≠ s.heap.objs.size := by obtain ⟨o, ho, _⟩ := ht; exact Nat.ne_of_lt (Heap.lt_size ho)
  unfold unpackItems; refine wpAny_bind ?_
  unfold notIterableAtAll; refine wpAny_bind (wpAny_specialOf ht.typeIs slot_tuple_iter.lookup ?_); refine wpAny_pure ?_; simp only [Bool.false_eq_true, if_false]
  refine wpAny_bind (wpAny_holding (iter_tuple ht ?_))
  refine wpAny_bind (wpAny_holding (draw_tuple hlt items.size 0 _ _ ⟨_, Heap.get?_push_size _ rfl, rfl, rfl⟩ (ht.push _) (by omega) fun h₁ hit₁ hs₁ => ?_))
  rw [show List.take items.size (List.drop 0 items.toList) = items.toList from by rw [List.drop_zero]; exact List.take_of_length_le (by simp), if_neg (by simp)]
  have fr : ∀ e, A.handled = some (.ref e) → e ≠ s.heap.objs.size := fun e hq => by
    rcases q with q | ⟨e1, oe1, vs, q, he1, r⟩
    · rw [q] at hq; cases hq
    · rw [q] at hq; cases hq; exact Nat.ne_of_lt (Heap.lt_size he1)
  have q1 : iK A h₁ := by
    rcases q with q | ⟨e, oe, vs, q, he, r⟩
    · exact .inl q
    · exact .inr ⟨e, oe, vs, q, hs₁.extBut e oe (fr e q) (Heap.get?_push_of_some _ he), r⟩
  refine wpAny_bind (wpAny_holding (q5 q1 fr hit₁ ((ht.push _).extBut hs₁.extBut hlt) (by simp) fun h₂ he₂ => ?_)); simp only [Option.isSome_none, Bool.false_eq_true, if_false]
  exact wpAny_pure (h h₂ fun b o hb e => he₂ b o hb (hs₁.extBut b o hb (Heap.get?_push_of_some _ e)))
end
end L2
set_option Elab.async false
set_option linter.all false
set_option maxRecDepth 100000
namespace L2
open PySem PySem.Spec PyProof.Rows
abbrev Key := Sum Int Str
def K3 : Key → Value → Bool
  | .inl k, v => Value.isInt k v
  | .inr x, v => Value.isStrOf x v
def OJ (w : World) : Key → Int
  | .inl k => hashInt k
  | .inr x => hashStr w x
theorem du : ∀ {k : Key} {v : Value}, K3 k v = true → (∃ i t, k = Sum.inl i ∧ v = Value.int i t) ∨ (∃ x t, k = Sum.inr x ∧ v = Value.str x t)
  | .inl i, v, h => by
    obtain ⟨t, e⟩ := Value.isInt_shape (k := i) (v := v) h
    exact .inl ⟨i, t, rfl, e⟩
  | .inr x, v, h => by
    obtain ⟨t, e⟩ := Value.isStrOf_shape (x := x) (v := v) h
    exact .inr ⟨x, t, rfl, e⟩
theorem L4 (a b : Int) : decide ((Sum.inl a : Key) = Sum.inl b) = (a == b) := by
  by_cases e : a = b
  · subst e; simp
  · have h : ¬ (Sum.inl a : Key) = Sum.inl b := fun q => e (Sum.inl.inj q)
    rw [decide_eq_false h]
    exact (beq_eq_false_iff_ne.mpr e).symm
theorem Md (a b : Str) : decide ((Sum.inr a : Key) = Sum.inr b) = decide (a = b) := by
  by_cases e : a = b
  · subst e; simp
  · have h : ¬ (Sum.inr a : Key) = Sum.inr b := fun q => e (Sum.inr.inj q)
    rw [decide_eq_false h, decide_eq_false e]
theorem Lx (a : Int) (b : Str) : decide ((Sum.inl a : Key) = Sum.inr b) = false := decide_eq_false (fun q => nomatch q)
theorem MH (a : Str) (b : Int) : decide ((Sum.inr a : Key) = Sum.inl b) = false := decide_eq_false (fun q => nomatch q)
def ER (prog : Program) (w : World) : PySem.KeyKind prog w Key where
  is := K3
  hash := OJ w
  inj := fun v a b ha hb => by
    rcases du ha with ⟨i, t, rfl, rfl⟩ | ⟨x, t, rfl, rfl⟩
    · rcases du hb with ⟨j, u, rfl, e⟩ | ⟨y, u, rfl, e⟩
      · injection e with e1 _; rw [e1]
      · exact nomatch e
    · rcases du hb with ⟨j, u, rfl, e⟩ | ⟨y, u, rfl, e⟩
      · exact nomatch e
      · injection e with e1 _; rw [e1]
  byValue := fun k v h => by
    rcases du h with ⟨i, t, rfl, rfl⟩ | ⟨x, t, rfl, rfl⟩ <;> rfl
  pyHash := fun hv h => by
    rcases du hv with ⟨i, t, rfl, rfl⟩ | ⟨x, t, rfl, rfl⟩
    · exact wpAny_pyHash_int h
    · exact wpAny_pyHash_str h
  eqBool := fun hu hv h => by
    rcases du hu with ⟨i, t, rfl, rfl⟩ | ⟨x, t, rfl, rfl⟩
    · rcases du hv with ⟨j, u, rfl, rfl⟩ | ⟨y, u, rfl, rfl⟩
      · rw [L4] at h; exact wpAny_eqBool_int h
      · rw [Lx] at h; exact SeqAt.EqAt.int_str i t y u _ _ _ _ h
    · rcases du hv with ⟨j, u, rfl, rfl⟩ | ⟨y, u, rfl, rfl⟩
      · rw [MH] at h; exact SeqAt.EqAt.str_int x t j u _ _ _ _ h
      · rw [Md] at h; exact wpAny_eqBool_str h
  «strs» := fun k x t v h => by
    rcases du h with ⟨i, u, rfl, e⟩ | ⟨y, u, rfl, e⟩
    · exact nomatch e
    · injection e with e1 _
      subst e1
      cases v <;> rfl
end L2
namespace L2
open PySem PySem.Spec PyProof.Rows
inductive V where
  | non | bl (b : Bool) | int (i : Int) | str (x : Str) | byt (b : Array UInt8) | flt (b : UInt64) | ref (a : Addr) | ty (n : String)
  deriving DecidableEq
def RelV : V → Value → Prop
  | .non, u => u = Value.none
  | .bl b, u => u = Value.bool b
  | .int i, u => ∃ t, u = Value.int i t
  | .str x, u => ∃ t, u = Value.str x t
  | .byt b, u => ∃ t, u = Value.bytes b t
  | .flt b, u => ∃ t, u = Value.float b t
  | .ref a, u => u = Value.ref a
  | .ty n, u => u = Value.type n
abbrev Vals : List V → List Value → Prop := Paired RelV
theorem Vals.length {xs : List V} {us : List Value} (r : Vals xs us) : xs.length = us.length := Paired.length r
theorem Vals.get : ∀ {xs : List V} {us : List Value} {i : Nat} {x : V}, Vals xs us → xs[i]? = some x → ∃ u, us[i]? = some u ∧ RelV x u
  | _, _, _, _, .nil, e => by simp at e
  | _, _, 0, _, .cons r _, e => by simp at e; subst e; exact ⟨_, rfl, r⟩
  | _, _, i + 1, x, .cons _ t, e => by
    obtain ⟨u, h1, h2⟩ := Vals.get (i := i) (x := x) t (by simpa using e)
    exact ⟨u, by simpa using h1, h2⟩
theorem Vals.set {x : V} {u : Value} (r : RelV x u) : ∀ {xs : List V} {us : List Value} (i : Nat), Vals xs us → Vals (xs.set i x) (us.set i u)
  | _, _, _, .nil => .nil
  | _, _, 0, .cons _ t => .cons r t
  | _, _, i + 1, .cons q t => .cons q (Vals.set r i t)
theorem Vals.append : ∀ {xs ys : List V} {us ws : List Value}, Vals xs us → Vals ys ws → Vals (xs ++ ys) (us ++ ws)
  | _, _, _, _, .nil, s => s
  | _, _, _, _, .cons r t, s => .cons r (Vals.append t s)
theorem Vals.take : ∀ {xs : List V} {us : List Value} (n : Nat), Vals xs us → Vals (xs.take n) (us.take n)
  | _, _, 0, _ => .nil
  | _, _, _ + 1, .nil => .nil
  | _, _, n + 1, .cons r t => .cons r (Vals.take n t)
theorem Vals.drop : ∀ {xs : List V} {us : List Value} (n : Nat), Vals xs us → Vals (xs.drop n) (us.drop n)
  | _, _, 0, r => r
  | _, _, _ + 1, .nil => .nil
  | _, _, n + 1, .cons _ t => Vals.drop n t
def Ni : Option V → Option Value → Prop
  | some v, some u => RelV v u
  | none, none => True
  | _, _ => False
def KV {κ : Type} : List (κ × V) → List (κ × Value) → Prop := Paired fun (p : κ × V) (q : κ × Value) => p.1 = q.1 ∧ RelV p.2 q.2
def kV : Key → V
  | .inl i => .int i
  | .inr x => .str x
inductive HO where
  /-- a list -/
  | lst (xs : List V)
  /-- a tuple (never changes) -/
  | tup (xs : List V)
  /-- a dict whose keys are ints and texts; one whose keys are tuples of ints and texts (the empty one is both) -/
  | dK (kvs : List (Key × V)) | dT (kvs : List (List Key × V))
  /-- a set of ints: its members, its size -/
  | set (S : Int → Bool) (n : Nat)
  /-- an instance of the class at C, its dict at dx, its attributes -/
  | ins (C dx : Addr) (fs : List (Str × V))
  /-- the dict of the instance at x -/
  | own (x : Addr)
  /-- the dict of an exception -/
  | xd (fs : List (Str × V))
  /-- a bound method, f of x -/
  | met (f x : Addr)
  /-- a range object lo, lo + 1, .. below hi -/
  | rng (lo hi : Int)
  /-- a thing that is known to the object (the script; a dict while a loop walks it): read, never written while it is so -/
  | frz (o : Obj) (u : HO)
  /-- a code object's table -/
  | tbl (ps : Array Value)
  /-- any other thing, by what is true of its one object (a def of one's own: SetO a S n := HO.ext fun h => ..) -/
  | ext (φ : Heap → Prop)
abbrev Hp := Addr → Option HO
def upd (H : Hp) (a : Addr) (o : HO) : Hp := fun b => if b = a then some o else H b
theorem kq {H : Hp} {a : Addr} {o : HO} : upd H a o a = some o := by unfold upd; rw [if_pos rfl]
theorem cJ {H : Hp} {a b : Addr} {o : HO} (h : b ≠ a) : upd H a o b = H b := by unfold upd; rw [if_neg h]
theorem de {H : Hp} {a b : Addr} {o : HO} (h : H a = some o) (h' : H b = none) : a ≠ b := by
  intro e; subst e; rw [h] at h'; cases h'
section
variable (P : Program) (w : World)
def lA (H : Hp) (h : Heap) (a : Addr) : HO → Prop
  | .lst xs => xs.length ≤ sizeLine ∧ ∃ (its : List Value) (n : Nat), Vals xs its ∧ h.get? a = some { cls := .type "list", data := .seq its.toArray n }
  | .tup xs => xs.length ≤ sizeLine ∧ ∃ its : List Value, Vals xs its ∧ IsTup h a its.toArray
  | .dK kvs => kvs.length ≤ sizeLine ∧ (a == sysModules) = false ∧ ∃ vs, KV kvs vs ∧ h.DictOf (ER P w) a vs
  | .dT kvs => kvs.length ≤ sizeLine ∧ (a == sysModules) = false ∧ ∃ xs : List (List Key × Addr × Value),
      Paired (fun (p : List Key × V) (q : List Key × Addr × Value) => p.1 = q.1 ∧ H q.2.1 = some (.tup (p.1.map kV)) ∧ RelV p.2 q.2.2) kvs xs ∧
      ∃ o es ep, h.get? a = some o ∧ o.ExactDict ∧ o.data = .dict es ep ∧ es.toList = xs.map (entryOfKey (tupleKind (ER P w))) ∧ (xs.map (·.1)).Nodup
  | .set S n => h.SetOf (intKind P w) a S n
  | .ins C dx fs => H dx = some (.own a) ∧ fs.length ≤ 1000 ∧ dx ≠ a ∧ h.get? a = some (PySem.W.instObj C dx) ∧
      ∃ mA, h.Ns1 dx mA ∧ (∀ f, Ni (fs.lookup f) (mA f)) ∧ PySem.Within mA (fs.map (·.1))
  | .own _ => ∃ o, h.get? a = some o
  | .xd fs => ∃ mA, h.Ns1 a mA ∧ ∀ f, Ni (fs.lookup f) (mA f)
  | .rng lo hi => ∃ t u v, h.get? a = some { cls := .type "range", data := .fields #[.int lo t, .int hi u, .int 1 v] }
  | .frz o u => h.get? a = some o ∧ lA H h a u
  | .tbl ps => h.get? a = some { cls := .none, data := .fields ps }
  | .met f x => h.get? a = some (PySem.W.methodObj (.ref f) (.ref x))
  | .ext φ => φ h ∧ (∃ o, h.get? a = some o) ∧ ∀ h1 h2 : Heap, φ h1 → (∀ o, h1.get? a = some o → h2.get? a = some o) → φ h2
def HOk (H : Hp) (h : Heap) : Prop := ∀ a o, H a = some o → lA P w H h a o
end
section
variable {P : Program} {w : World} {H H' : Hp} {h h' : Heap} {a : Addr} {o : HO}
theorem lA.lt (x : lA P w H h a o) : a < h.objs.size := by
  cases o with
  | lst xs => obtain ⟨_, _, _, _, e⟩ := x; exact Heap.lt_size e
  | tup xs => obtain ⟨_, _, _, p⟩ := x; exact p.lt
  | dK kvs => obtain ⟨_, _, _, _, o, _, _, e, _⟩ := x; exact Heap.lt_size e
  | dT kvs => obtain ⟨_, _, _, _, o, _, _, e, _⟩ := x; exact Heap.lt_size e
  | set S n => obtain ⟨o, _, _, _, e, _⟩ := x; exact Heap.lt_size e
  | ins C dx fs => obtain ⟨_, _, _, e, _⟩ := x; exact Heap.lt_size e
  | own y => obtain ⟨_, e⟩ := x; exact Heap.lt_size e
  | xd fs => obtain ⟨_, ⟨_, _, _, e, _⟩, _⟩ := x; exact Heap.lt_size e
  | rng lo hi => obtain ⟨_, _, _, e⟩ := x; exact Heap.lt_size e
  | frz ob u => obtain ⟨e, _⟩ := x; exact Heap.lt_size e
  | tbl ps => exact Heap.lt_size (show h.get? a = some _ from x)
  | met f y => exact Heap.lt_size (show h.get? a = some _ from x)
  | ext φ => obtain ⟨_, ⟨_, e⟩, _⟩ := x; exact Heap.lt_size e
theorem Paired.NI {α β : Type} {F G : α → β → Prop} : ∀ {l₁ : List α} {l₂ : List β}, Paired F l₁ l₂ → (∀ a b, F a b → G a b) → Paired G l₁ l₂
  | _, _, .nil, _ => .nil
  | _, _, .cons r t, f => .cons (f _ _ r) (Paired.NI t f)
theorem lA.BU (x : lA P w H h a o) (k : ∀ b u, (b = a ∨ H b = some (.own a)) → h.get? b = some u → h'.get? b = some u)
    (ho : ∀ b, H b = some (.own a) → H' b = some (.own a)) (ht : ∀ b xs, H b = some (.tup xs) → H' b = some (.tup xs)) : lA P w H' h' a o := by
  induction o with
  | lst xs => obtain ⟨z, its, n, r, e⟩ := x; exact ⟨z, its, n, r, k _ _ (.inl rfl) e⟩
  | tup xs => obtain ⟨z, its, r, ob, e, c⟩ := x; exact ⟨z, its, r, ob, k _ _ (.inl rfl) e, c⟩
  | dK kvs => obtain ⟨z, y, vs, r, ob, es, ep, e, c⟩ := x; exact ⟨z, y, vs, r, ob, es, ep, k _ _ (.inl rfl) e, c⟩
  | dT kvs =>
    obtain ⟨z, y, xs, r, ob, es, ep, e, c⟩ := x
    exact ⟨z, y, xs, Paired.NI r fun p q z => ⟨z.1, ht _ _ z.2.1, z.2.2⟩, ob, es, ep, k _ _ (.inl rfl) e, c⟩
  | set S n => obtain ⟨ob, es, ep, t, e, c⟩ := x; exact ⟨ob, es, ep, t, k _ _ (.inl rfl) e, c⟩
  | ins C dx fs =>
    obtain ⟨d, z, ne, e, mA, ⟨od, es, ep, e2, c⟩, r⟩ := x
    exact ⟨ho _ d, z, ne, k _ _ (.inl rfl) e, mA, ⟨od, es, ep, k _ _ (.inr d) e2, c⟩, r⟩
  | own y => obtain ⟨ob, e⟩ := x; exact ⟨ob, k _ _ (.inl rfl) e⟩
  | xd fs => obtain ⟨mA, ⟨od, es, ep, e, c⟩, r⟩ := x; exact ⟨mA, ⟨od, es, ep, k _ _ (.inl rfl) e, c⟩, r⟩
  | rng lo hi => obtain ⟨t, u, v, e⟩ := x; exact ⟨t, u, v, k _ _ (.inl rfl) e⟩
  | frz ob u ih => obtain ⟨e, q⟩ := x; exact ⟨k _ _ (.inl rfl) e, ih q⟩
  | tbl ps =>
    have e : h.get? a = some { cls := .none, data := .fields ps } := x
    show h'.get? a = some { cls := .none, data := .fields ps }
    exact k a _ (.inl rfl) e
  | met f y =>
    have e : h.get? a = some (PySem.W.methodObj (.ref f) (.ref y)) := x
    show h'.get? a = some (PySem.W.methodObj (.ref f) (.ref y))
    exact k a _ (.inl rfl) e
  | ext φ => obtain ⟨p, ⟨o, e⟩, st⟩ := x; exact ⟨st _ _ p fun o q => k _ _ (.inl rfl) q, ⟨o, k _ _ (.inl rfl) e⟩, st⟩
theorem HOk.lt (x : HOk P w H h) (e : H a = some o) : a < h.objs.size := (x a o e).lt
theorem HOk.fresh (x : HOk P w H h) (e : h.objs.size ≤ a) : H a = none := by
  cases q : H a with
  | none => rfl
  | some u => exact absurd (Nat.lt_of_lt_of_le (x.lt q) e) (Nat.lt_irrefl _)
theorem HOk.kept (x : HOk P w H h) (k : ∀ b u, h.get? b = some u → h'.get? b = some u) : HOk P w H h' := fun a o e =>
  (x a o e).BU (fun b u _ q => k b u q) (fun _ q => q) fun _ _ q => q
theorem HOk.laid (x : HOk P w H h) (k : ∀ b u, h.get? b = some u → h'.get? b = some u) (hp : h.objs.size ≤ a) (new : lA P w (upd H a o) h' a o) : HOk P w (upd H a o) h' := fun b u e => by
  have hn := x.fresh hp
  by_cases hb : b = a
  · subst hb; rw [kq] at e; cases e; exact new
  · rw [cJ hb] at e
    exact (x b u e).BU (fun c v _ q => k c v q) (fun c q => by rw [cJ (de q hn)]; exact q) fun c xs q => by rw [cJ (de q hn)]; exact q
end
def Rd (H : Hp) (a : Addr) (u : HO) : Prop := H a = some u ∨ ∃ o, H a = some (.frz o u)
theorem Rd.of {H : Hp} {a : Addr} {u : HO} (h : H a = some u) : Rd H a u := .inl h
theorem Rd.ok {P : Program} {w : World} {H : Hp} {h : Heap} {a : Addr} {u : HO} (r : Rd H a u) (x : HOk P w H h) : lA P w H h a u := by
  rcases r with r | ⟨o, r⟩
  · exact x a u r
  · obtain ⟨_, q⟩ := x a _ r
    exact q
def Mut : Option HO → Prop
  | some (.lst _) => True
  | some (.dK _) => True
  | some (.dT _) => True
  | some (.set _ _) => True
  | some (.ins _ _ _) => True
  | some (.ext _) => True
  | _ => False
section
variable {P : Program} {w : World} {H : Hp} {h h' : Heap} {x e : Addr} {o' : HO}
theorem HOk.write (ok : HOk P w H h) (mu : Mut (H x)) (he : e = x ∨ H e = some (.own x)) (k : ∀ b u, b ≠ e → h.get? b = some u → h'.get? b = some u) (heo : ∃ u, h'.get? e = some u)
    (new : lA P w (upd H x o') h' x o') : HOk P w (upd H x o') h' := fun b u q => by
  have nown : ∀ c y, H c = some (.own y) → c ≠ x := fun c y r z => by subst z; rw [r] at mu; exact mu
  have ntup : ∀ c xs, H c = some (.tup xs) → c ≠ x := fun c xs r z => by subst z; rw [r] at mu; exact mu
  by_cases hb : b = x
  · subst hb; rw [kq] at q; cases q; exact new
  · rw [cJ hb] at q
    by_cases hbe : b = e
    · have q' : H b = some (.own x) := by
        rcases he with z | z
        · exact absurd (hbe.trans z) hb
        · rw [hbe]; exact z
      rw [q] at q'; cases q'
      obtain ⟨v, hv⟩ := heo
      exact ⟨v, by rw [hbe]; exact hv⟩
    · refine (ok b u q).BU (fun c v hc r => k c v ?_ r) (fun c r => by rw [cJ (nown c b r)]; exact r) fun c xs r => by rw [cJ (ntup c xs r)]; exact r
      rcases hc with rfl | hc
      · exact hbe
      · rintro rfl
        rcases he with z | z
        · exact nown c b hc z
        · rw [hc] at z; cases z; exact hb rfl
end
structure Un (fs ex : List Addr) (H H' : Hp) (h h' : Heap) : Prop where
  keep : ∀ b o, h.get? b = some o → H b = none → b ∉ fs → b ∉ ex → h'.get? b = some o
  slot : ∀ b o, h.get? b = some o → H b = none → b ∈ fs → b ∉ ex → ∃ sl, h'.get? b = some { o with slots := sl }
  free : ∀ b o, h.get? b = some o → H b = none → b ∉ ex → H' b = none
  there : ∀ b o, h.get? b = some o → b ∉ ex → ∃ o', h'.get? b = some o'
  tH : ∀ b xs, H b = some (.tup xs) → H' b = some (.tup xs)
  rW : ∀ b o u, H b = some (.frz o u) → H' b = some (.frz o u)
  sC : ∀ b ps, H b = some (.tbl ps) → ∃ more, H' b = some (.tbl (ps ++ more))
section
variable {fs fs' ex ex' : List Addr} {H H1 H2 : Hp} {h h1 h2 h' : Heap} {a x e : Addr} {o : HO}
theorem Un.any (u : Un fs ex H H1 h h1) {b : Addr} {ob : Obj} (q : h.get? b = some ob) (n : H b = none) (hx : b ∉ ex) : ∃ sl, h1.get? b = some { ob with slots := sl } := by
  by_cases hb : b ∈ fs
  · exact u.slot b ob q n hb hx
  · exact ⟨ob.slots, u.keep b ob q n hb hx⟩
theorem Un.trans (a : Un fs ex H H1 h h1) (b : Un fs ex H1 H2 h1 h2) : Un fs ex H H2 h h2 where
  keep := fun c ob q n hc hx => b.keep c ob (a.keep c ob q n hc hx) (a.free c ob q n hx) hc hx
  slot := fun c ob q n hc hx => by
    obtain ⟨sl, e1⟩ := a.slot c ob q n hc hx
    obtain ⟨sl', e2⟩ := b.slot c _ e1 (a.free c ob q n hx) hc hx
    exact ⟨sl', e2⟩
  free := fun c ob q n hx => by
    obtain ⟨o', e1⟩ := a.there c ob q hx
    exact b.free c o' e1 (a.free c ob q n hx) hx
  there := fun c ob q hx => by
    obtain ⟨o', e1⟩ := a.there c ob q hx
    exact b.there c o' e1 hx
  tH := fun c xs q => b.tH c xs (a.tH c xs q)
  rW := fun c ob xs q => b.rW c ob xs (a.rW c ob xs q)
  sC := fun c ps q => by
    obtain ⟨m1, e1⟩ := a.sC c ps q
    obtain ⟨m2, e2⟩ := b.sC c _ e1
    exact ⟨m1 ++ m2, by rw [e2, Array.append_assoc]⟩
theorem Un.kept (k : ∀ b u, h.get? b = some u → h'.get? b = some u) : Un fs ex H H h h' :=
  ⟨fun b ob q _ _ _ => k b ob q, fun b ob q _ _ _ => ⟨ob.slots, k b ob q⟩, fun _ _ _ n _ => n, fun b ob q _ => ⟨ob, k b ob q⟩, fun _ _ q => q, fun _ _ _ q => q, fun _ ps q => ⟨#[], by rw [q]; simp⟩⟩
theorem Un.refl : Un fs ex H H h h := Un.kept fun _ _ q => q
theorem Un.laid (k : ∀ b u, h.get? b = some u → h'.get? b = some u) (hp : h.objs.size ≤ a) (hn : H a = none) : Un fs ex H (upd H a o) h h' where
  keep := fun b u q _ _ _ => k b u q
  slot := fun b u q _ _ _ => ⟨u.slots, k b u q⟩
  free := fun b u q n _ => by rw [cJ (Nat.ne_of_lt (Nat.lt_of_lt_of_le (Heap.lt_size q) hp))]; exact n
  there := fun b u q _ => ⟨u, k b u q⟩
  tH := fun b xs q => by rw [cJ (de q hn)]; exact q
  rW := fun b u xs q => by rw [cJ (de q hn)]; exact q
  sC := fun b ps q => ⟨#[], by rw [cJ (de q hn), q]; simp⟩
theorem Un.write (mu : Mut (H x)) (he : e = x ∨ H e = some (.own x)) (k : ∀ b u, b ≠ e → h.get? b = some u → h'.get? b = some u) (heo : ∃ u, h'.get? e = some u) : Un fs ex H (upd H x o) h h' := by
  have hx : ∀ b, H b = none → b ≠ x := fun b n z => by subst z; rw [n] at mu; exact mu
  have hb : ∀ b, H b = none → b ≠ e := fun b n z => by
    subst z
    rcases he with r | r
    · exact hx b n r
    · rw [n] at r; cases r
  have hm : ∀ b u, H b = some u → ¬ Mut (some u) → b ≠ x := fun b u q nm z => by subst z; rw [q] at mu; exact nm mu
  refine ⟨fun b u q n _ _ => k b u (hb b n) q, fun b u q n _ _ => ⟨u.slots, k b u (hb b n) q⟩, fun b u q n _ => by rw [cJ (hx b n)]; exact n, fun b u q _ => ?_,
    fun b xs q => by rw [cJ (hm b _ q fun z => z)]; exact q, fun b u xs q => by rw [cJ (hm b _ q fun z => z)]; exact q, fun b ps q => ⟨#[], by rw [cJ (hm b _ q fun z => z), q]; simp⟩⟩
  by_cases hbe : b = e
  · subst hbe; exact heo
  · exact ⟨u, k b u hbe q⟩
theorem Un.mono (u : Un fs ex H H1 h h1) (hs : ∀ b ∈ fs, b ∈ fs') (hx : ∀ b ∈ ex, b ∈ ex') : Un fs' ex' H H1 h h1 :=
  ⟨fun b ob q n hb he => u.keep b ob q n (fun z => hb (hs b z)) fun z => he (hx b z), fun _ _ q n _ he => u.any q n fun z => he (hx _ z), fun b ob q n he => u.free b ob q n fun z => he (hx b z), fun b ob q he => u.there b ob q fun z => he (hx b z), u.tH, u.rW, u.sC⟩
end
def trk (h : Heap) (H : Hp) : List Addr := (List.range h.objs.size).filter fun a => (H a).isSome
def zv (h : Heap) (H : Hp) : Heap := PySem.W.hideAll h (trk h H)
theorem Fc (h : Heap) (H : Hp) : (zv h H).objs.size = h.objs.size := PySem.W.hideAll_size _ _
theorem HJ {h : Heap} {H : Hp} {b : Addr} {o : Obj} (e : h.get? b = some o) (n : H b = none) : (zv h H).get? b = some o :=
  PySem.W.hideAll_get _ e fun hm => by
    have q : (H b).isSome = true := (List.mem_filter.mp hm).2
    rw [n] at q; simp at q
theorem J7 {h : Heap} {H : Hp} {b : Addr} {o : Obj} (e : (zv h H).get? b = some o) : h.get? b = some o ∧ H b = none := by
  have e' : h.get? b = some o := PySem.W.of_hideAll (trk h H) e
  refine ⟨e', ?_⟩
  cases q : H b with
  | none => rfl
  | some x =>
    have hm : b ∈ trk h H := List.mem_filter.mpr ⟨List.mem_range.mpr (Heap.lt_size e'), by simp [q]⟩
    have z : (zv h H).get? b = none := PySem.W.hideAll_none (trk h H) hm
    rw [z] at e; cases e
def JG (g h : Heap) (L : Addr) : List (Addr × Obj) := (List.range h.objs.size).filterMap fun a => if a = L ∨ (g.get? a).isSome = true then none else (h.get? a).map fun o => (a, o)
def rest (g h : Heap) (L d : Addr) : List (Addr × Obj) := (JG g h L).filter fun p => decide (p.1 ≠ d)
end L2
namespace L2
open PySem PySem.Spec PyProof.Rows
structure Mod (K : PySem.W.Frag) (mg : Str → Option Value) (base : Heap) : Prop where
  kin : K.In base
  glob : base.Ns mainGlobals mg
  blt : ∃ mb, base.Ns builtinsNs mb ∧ ∀ x : Str, x ≠ "__name__" → mb x = bootBuiltins x
  nolimit : base.NoLimit
structure Cx where
  prog : Program
  w : World
  K : PySem.W.Frag
  mg : Str → Option Value
  base : Heap
  A : Around
  N : List Str
  s₀ : Shared
  H₀ : Hp
  env : Env
  outer : List Env
  stack : List Env
  ex : List Addr
  fn : Str → Bool
  calm : Bool
  pn : List (Addr × Obj)
  xe : Value → Shared → Prop
def frs (l : List Env) : List Addr := l.filterMap (·.frame)
abbrev Cx.fs (X : Cx) : List Addr := frs X.outer
def Vis (sc : Scope) (x : Str) : Prop := sc.names.lookup x = some .local ∨ sc.names.lookup x = some .cell ∨ sc.names.lookup x = some .free
def Loc (sc : Scope) (x : Str) : Prop := sc.names.lookup x = some .local ∨ sc.names.lookup x = some .cell
def Look (env : Env) (h : Heap) (m : Str → Option Value) (x : Str) (u : Value) : Prop :=
  (env.kindOf x = some .local ∧ m x = some u) ∨ ((env.kindOf x = some .cell ∨ env.kindOf x = some .free) ∧ ∃ c, env.cells.lookup x = some c ∧ h.IsCell c (some u))
structure Cx.Ok (X : Cx) : Prop where
  mod : Mod X.K X.mg X.base
  kind : X.env.scope.kind = .function
  glob : X.env.globals = mainGlobals
  blt : X.env.builtins = builtinsNs
  above : X.s₀.heap.objs.size ≤ X.env.locals
  inj : ∀ x y c, X.env.cells.lookup x = some c → X.env.cells.lookup y = some c → x = y
  has : ∀ x, (X.env.kindOf x = some .cell ∨ X.env.kindOf x = some .free) → ∃ c, X.env.cells.lookup x = some c
  cab : ∀ x c, X.fn x = true → X.env.cells.lookup x = some c → X.s₀.heap.objs.size ≤ c
  hd : X.calm = true → X.A.handled = none
  qt : X.A.handled = none ∨ ∃ (e : Addr) (oe : Obj) (vs : Array Value), X.A.handled = some (.ref e) ∧ (e, oe) ∈ X.pn ∧ oe.data = .fields vs ∧ vs[2]? = some .none
  frames : X.A.frames = some X.stack
  stk : X.stack = X.outer ∨ (X.stack = X.env :: X.outer ∧ X.env.frame = some X.env.locals)
  exf : ∀ b ∈ X.ex, b ≠ X.env.locals ∧ ∀ x c, X.env.cells.lookup x = some c → c ≠ b
  bs : ∀ b o, X.base.get? b = some o → X.s₀.heap.get? b = some o ∧ X.H₀ b = none
  bsz : X.base.objs.size ≤ X.s₀.heap.objs.size
  Fd : ∀ b o, X.base.get? b = some o → b ∉ X.ex
  Kf : ∀ b ∈ X.ex, b ∉ X.fs
  wa : X.s₀.heap.FunFrames X.base X.outer
  frf : ∀ b ∈ X.fs, X.H₀ b = none
structure Inv (X : Cx) (pins : List (Addr × Obj)) (σ : List (Option V)) (H : Hp) (s : Shared) : Prop where
  ok : X.Ok
  os : s.os = X.s₀.os
  bare : AllBare s.gens
  base : Un X.fs X.ex X.H₀ H X.s₀.heap s.heap
  loc : ∃ m, s.heap.Ns X.env.locals m ∧ ∀ (i : Nat) (x : Str) (v : V), X.N[i]? = some x → σ[i]? = some (some v) → Vis X.env.scope x → ∃ u, RelV v u ∧ Look X.env s.heap m x u
  cell : ∀ x c, X.env.cells.lookup x = some c → ∃ v, s.heap.IsCell c v
  free : H X.env.locals = none
  n4 : ∀ x c, X.env.cells.lookup x = some c → H c = none
  pin : ∀ p ∈ X.pn ++ pins, s.heap.get? p.1 = some p.2 ∧ H p.1 = none ∧ p.1 ≠ X.env.locals ∧ p.1 ∉ X.fs ∧ ∀ v, p.2.data ≠ .cell v
  hok : HOk X.prog X.w H s.heap
  len : σ.length = X.N.length
section
variable {X : Cx} {pins : List (Addr × Obj)} {σ : List (Option V)} {H H' : Hp} {s : Shared} {h' : Heap}
theorem Inv.Cq (I : Inv X pins σ H s) : iK X.A s.heap := by
  rcases I.ok.qt with q | ⟨e, oe, vs, q, hp, r⟩
  · exact .inl q
  · exact .inr ⟨e, oe, vs, q, (I.pin (e, oe) (List.mem_append_left _ hp)).1, r⟩
theorem Inv.hne (I : Inv X pins σ H s) {b : Addr} (hb : ∀ p ∈ X.pn ++ pins, p.1 ≠ b) : ∀ e, X.A.handled = some (.ref e) → e ≠ b := fun e he => by
  rcases I.ok.qt with q | ⟨e1, oe, vs, q, hp, r⟩
  · rw [q] at he; cases he
  · rw [q] at he; cases he; exact hb (e, oe) (List.mem_append_left _ hp)
theorem Cx.Ok.OV (ok : X.Ok) {b : Addr} {o : Obj} (e : X.base.get? b = some o) : b ∉ X.fs := fun hb => by
  have := (ok.wa.mem hb).1
  rw [e] at this; cases this
theorem Inv.bs (I : Inv X pins σ H s) : ∀ b o, X.base.get? b = some o → s.heap.get? b = some o ∧ H b = none := fun b o e =>
  ⟨I.base.keep b o (I.ok.bs b o e).1 (I.ok.bs b o e).2 (I.ok.OV e) (I.ok.Fd b o e), I.base.free b o (I.ok.bs b o e).1 (I.ok.bs b o e).2 (I.ok.Fd b o e)⟩
theorem Inv.bk (I : Inv X pins σ H s) : ∀ b o, X.base.get? b = some o → s.heap.get? b = some o := fun b o e => (I.bs b o e).1
theorem Inv.mod (I : Inv X pins σ H s) : Mod X.K X.mg X.base := I.ok.mod
theorem Inv.kIn (I : Inv X pins σ H s) : X.K.In s.heap := I.ok.mod.kin.keeps I.bk
theorem Inv.lt (I : Inv X pins σ H s) : X.env.locals < s.heap.objs.size := let ⟨_, hn, _⟩ := I.loc; hn.lt
theorem Inv.sz (I : Inv X pins σ H s) : X.s₀.heap.objs.size ≤ s.heap.objs.size := Nat.le_trans I.ok.above (Nat.le_of_lt I.lt)
theorem Inv.O2 (I : Inv X pins σ H s) {a : Addr} (h : s.heap.objs.size ≤ a) : a ∉ X.fs := fun hb => by
  obtain ⟨_, o, ho, _⟩ := I.ok.wa.mem hb
  exact absurd (Nat.lt_of_lt_of_le (Heap.lt_size ho) (Nat.le_trans I.sz h)) (Nat.lt_irrefl _)
theorem Inv.cne (I : Inv X pins σ H s) : ∀ x c, X.env.cells.lookup x = some c → c ≠ X.env.locals := fun x c e z => by
  obtain ⟨v, o, ho, hd⟩ := I.cell x c e
  obtain ⟨m, ⟨o', es, ep, ho', hd', _⟩, _⟩ := I.loc
  rw [z, ho'] at ho; cases ho; rw [hd'] at hd; cases hd
theorem Inv.wa (I : Inv X pins σ H s) : s.heap.FunFrames X.base X.outer := by
  have all : ∀ (l : List Env), (∀ b ∈ frs l, b ∈ X.fs) → X.s₀.heap.FunFrames X.base l → s.heap.FunFrames X.base l := by
    intro l
    induction l with
    | nil => intro _ _; trivial
    | cons env r ih =>
      intro hs hl
      obtain ⟨hk, ⟨L, o, hf, hn, ho, hd⟩, hr⟩ := hl
      have hL : L ∈ X.fs := hs L (by unfold frs; rw [List.filterMap_cons, hf]; exact List.mem_cons_self)
      obtain ⟨sl, e⟩ := I.base.slot L o ho (I.ok.frf L hL) hL fun z => I.ok.Kf L z hL
      exact ⟨hk, ⟨L, _, hf, hn, e, hd⟩, ih (fun b hb => hs b (by unfold frs; rw [List.filterMap_cons, hf]; exact List.mem_cons_of_mem _ hb)) hr⟩
  exact all X.outer (fun _ hb => hb) I.ok.wa
theorem Inv.stack (I : Inv X pins σ H s) : s.heap.FunFrames X.base X.stack := by
  rcases I.ok.stk with e | ⟨e, hf⟩
  · rw [e]; exact I.wa
  · rw [e]
    obtain ⟨m, hn, _⟩ := I.loc
    refine .cons (by rw [I.ok.kind]; decide) hf hn ?_ I.wa
    exact Heap.get?_none_of_le (Nat.le_trans I.ok.bsz I.ok.above)
theorem Inv.ug (I : Inv X pins σ H s) : ∀ b ∈ frs X.stack, b ∈ X.env.locals :: X.fs := fun b hb => by
  rcases I.ok.stk with e | ⟨e, hf⟩
  · rw [e] at hb; exact List.mem_cons_of_mem _ hb
  · rw [e] at hb
    unfold frs at hb
    rw [List.filterMap_cons, hf] at hb
    exact hb
theorem Inv.Ae (I : Inv X pins σ H s) : ∀ b ∈ frs X.stack, H b = none := fun b hb => by
  rcases List.mem_cons.mp (I.ug b hb) with e | hb
  · rw [e]; exact I.free
  · obtain ⟨_, o, ho, _⟩ := I.ok.wa.mem hb
    exact I.base.free b o ho (I.ok.frf b hb) fun z => I.ok.Kf b z hb
theorem Inv.step {g' : Array GenState} {t' : Nat} {d' : Drawn} {ch : List Addr} (I : Inv X pins σ H s)
    (hch : ∀ b ∈ ch, (b ∈ X.ex ∨ X.s₀.heap.objs.size ≤ b) ∧ b ≠ X.env.locals ∧ (∀ x c, X.env.cells.lookup x = some c → c ≠ b) ∧ ∀ p ∈ X.pn ++ pins, p.1 ≠ b)
    (keep : ∀ b o, b ≠ X.env.locals → b ∉ X.fs → b ∉ ch → s.heap.get? b = some o → H b = none → h'.get? b = some o)
    (slot : ∀ b o, b ≠ X.env.locals → b ∈ X.fs → b ∉ ch → s.heap.get? b = some o → H b = none → ∃ sl, h'.get? b = some { o with slots := sl }) (free : ∀ b o, b ∉ ch → s.heap.get? b = some o → H b = none → H' b = none)
    (there : ∀ b o, b ∉ ch → s.heap.get? b = some o → ∃ o', h'.get? b = some o')
    (tH : ∀ b xs, H b = some (.tup xs) → H' b = some (.tup xs)) (rW : ∀ b o u, H b = some (.frz o u) → H' b = some (.frz o u)) (sC : ∀ b ps, H b = some (.tbl ps) → ∃ more, H' b = some (.tbl (ps ++ more)))
    (ns : ∀ m, s.heap.Ns X.env.locals m → h'.Ns X.env.locals m) (hok : HOk X.prog X.w H' h') (hg : AllBare g') :
    Inv X pins σ H' { s with heap := h', gens := g', drawn := d', toks := t' } := by
  have neL : ∀ b o, X.s₀.heap.get? b = some o → b ≠ X.env.locals := fun b o e => Nat.ne_of_lt (Nat.lt_of_lt_of_le (Heap.lt_size e) I.ok.above)
  have neC : ∀ b o, X.s₀.heap.get? b = some o → b ∉ X.ex → b ∉ ch := fun b o e hx hb => by
    rcases (hch b hb).1 with z | z
    · exact hx z
    · exact absurd (Nat.lt_of_lt_of_le (Heap.lt_size e) z) (Nat.lt_irrefl _)
  have cellK : ∀ x c, X.env.cells.lookup x = some c → ∀ v, s.heap.IsCell c v → h'.IsCell c v := fun x c e v ⟨o, ho, hd⟩ => by
    have nch : c ∉ ch := fun z => (hch c z).2.2.1 x c e rfl
    by_cases hc : c ∈ X.fs
    · obtain ⟨sl, q⟩ := slot c o (I.cne x c e) hc nch ho (I.n4 x c e)
      exact ⟨_, q, hd⟩
    · exact ⟨o, keep c o (I.cne x c e) hc nch ho (I.n4 x c e), hd⟩
  refine ⟨I.ok, I.os, hg, ⟨fun b o e n hb hx => ?_, fun b o e n hb hx => ?_, fun b o e n hx => ?_, fun b o e hx => ?_, fun b xs e => tH b xs (I.base.tH b xs e), fun b o xs e => rW b o xs (I.base.rW b o xs e), fun b ps e => ?_⟩, ?_, fun x c e => ?_, ?_, fun x c e => ?_, fun p hp => ?_, hok, I.len⟩
  · exact keep b o (neL b o e) hb (neC b o e hx) (I.base.keep b o e n hb hx) (I.base.free b o e n hx)
  · obtain ⟨sl, e1⟩ := I.base.slot b o e n hb hx
    obtain ⟨sl', e2⟩ := slot b _ (neL b o e) hb (neC b o e hx) e1 (I.base.free b o e n hx)
    exact ⟨sl', e2⟩
  · obtain ⟨o', e1⟩ := I.base.there b o e hx
    exact free b o' (neC b o e hx) e1 (I.base.free b o e n hx)
  · obtain ⟨o', e1⟩ := I.base.there b o e hx
    exact there b o' (neC b o e hx) e1
  · obtain ⟨m1, e1⟩ := I.base.sC b ps e
    obtain ⟨m2, e2⟩ := sC b _ e1
    exact ⟨m1 ++ m2, by rw [e2, Array.append_assoc]⟩
  · obtain ⟨m, hn, hl⟩ := I.loc
    refine ⟨m, ns m hn, fun i x v e1 e2 e3 => ?_⟩
    obtain ⟨u, r, l⟩ := hl i x v e1 e2 e3
    refine ⟨u, r, ?_⟩
    rcases l with l | ⟨k, c, e, z⟩
    · exact .inl l
    · exact .inr ⟨k, c, e, cellK x c e _ z⟩
  · obtain ⟨v, z⟩ := I.cell x c e
    exact ⟨v, cellK x c e v z⟩
  · obtain ⟨m, ⟨o, _, _, ho, _⟩, _⟩ := I.loc
    exact free _ o (fun z => (hch _ z).2.1 rfl) ho I.free
  · obtain ⟨v, o, ho, hd⟩ := I.cell x c e
    exact free c o (fun z => (hch c z).2.2.1 x c e rfl) ho (I.n4 x c e)
  · obtain ⟨e, n, ne, nf, d⟩ := I.pin p hp
    have nch : p.1 ∉ ch := fun z => (hch p.1 z).2.2.2 p hp rfl
    exact ⟨keep p.1 p.2 ne nf nch e n, free p.1 p.2 nch e n, ne, nf, d⟩
theorem Inv.un {t' : Nat} (I : Inv X pins σ H s) (u : Un X.fs [] H H' s.heap h') (hok : HOk X.prog X.w H' h') : Inv X pins σ H' { s with heap := h', toks := t' } := by
  obtain ⟨m, ⟨o, es, ep, ho, r⟩, _⟩ := id I.loc
  obtain ⟨sl, hL⟩ := u.any ho I.free (by simp)
  exact I.step (g' := s.gens) (d' := s.drawn) (ch := []) (fun _ z => nomatch z) (fun b o _ hb _ e n => u.keep b o e n hb (by simp)) (fun b o _ hb _ e n => u.slot b o e n hb (by simp)) (fun b o _ e n => u.free b o e n (by simp)) (fun b o _ e => u.there b o e (by simp)) u.tH u.rW u.sC (fun m' hm => by
    obtain ⟨o', es', ep', ho', r'⟩ := hm
    rw [ho] at ho'; cases ho'
    exact ⟨_, es', ep', hL, r'⟩) hok I.bare
theorem Inv.call {g' : Array GenState} {t' : Nat} {d' : Drawn} {ch : List Addr} (I : Inv X pins σ H s) (u : Un (frs X.stack) ch H H' s.heap h') (hok : HOk X.prog X.w H' h') (hg : AllBare g')
    (hch : ∀ b ∈ ch, (b ∈ X.ex ∨ X.s₀.heap.objs.size ≤ b) ∧ b ≠ X.env.locals ∧ (∀ x c, X.env.cells.lookup x = some c → c ≠ b) ∧ ∀ p ∈ X.pn ++ pins, p.1 ≠ b) :
    Inv X pins σ H' { s with heap := h', gens := g', drawn := d', toks := t' } := by
  obtain ⟨m, ⟨o, es, ep, ho, r⟩, _⟩ := id I.loc
  obtain ⟨sl, hL⟩ := u.any ho I.free fun z => (hch _ z).2.1 rfl
  exact I.step (ch := ch) hch (fun b o hL hb hc e n => u.keep b o e n (fun z => (List.mem_cons.mp (I.ug b z)).elim hL hb) hc) (fun b o _ _ hc e n => u.any e n hc) (fun b o hc e n => u.free b o e n hc) (fun b o hc e => u.there b o e hc) u.tH u.rW u.sC (fun m' hm => by
    obtain ⟨o', es', ep', ho', r'⟩ := hm
    rw [ho] at ho'; cases ho'
    exact ⟨_, es', ep', hL, r'⟩) hok hg
theorem Inv.turned {t' : Nat} {it : Addr} (I : Inv X pins σ H s) (k : ∀ b o, b ≠ it → s.heap.get? b = some o → h'.get? b = some o) (hn : H it = none) (hL : it ≠ X.env.locals)
    (h1 : it ∈ X.ex ∨ X.s₀.heap.objs.size ≤ it) (h2 : ∀ x c, X.env.cells.lookup x = some c → c ≠ it) (h3 : ∀ p ∈ X.pn ++ pins, p.1 ≠ it) : Inv X pins σ H { s with heap := h', toks := t' } := by
  have nit : ∀ b u, H b = some u → b ≠ it := fun b u e z => by rw [z, hn] at e; cases e
  refine I.step (g' := s.gens) (d' := s.drawn) (ch := [it]) (fun b hb => ?_) (fun b o _ _ hc e _ => k b o (fun z => hc (by simp [z])) e) (fun b o _ _ hc e _ => ⟨o.slots, k b o (fun z => hc (by simp [z])) e⟩) (fun _ _ _ _ n => n)
    (fun b o hc e => ⟨o, k b o (fun z => hc (by simp [z])) e⟩) (fun _ _ e => e) (fun _ _ _ e => e) (fun b ps e => ⟨#[], by rw [e]; simp⟩) (fun m hm => ?_) (fun b u e => ?_) I.bare
  · have e : b = it := by simpa using hb
    subst e
    exact ⟨h1, hL, h2, h3⟩
  · obtain ⟨o, es, ep, ho, r⟩ := hm
    exact ⟨o, es, ep, k _ o (Ne.symm hL) ho, r⟩
  · refine (I.hok b u e).BU (fun c v hc q => k c v ?_ q) (fun _ q => q) fun _ _ q => q
    rcases hc with z | z
    · rw [z]; exact nit b u e
    · exact nit c _ z
theorem Inv.tok (I : Inv X pins σ H s) (t : Nat) : Inv X pins σ H { s with toks := t } := I.un (h' := s.heap) (t' := t) Un.refl I.hok
theorem Inv.kept {t' : Nat} (I : Inv X pins σ H s) (k : ∀ b u, s.heap.get? b = some u → h'.get? b = some u) : Inv X pins σ H { s with heap := h', toks := t' } := I.un (Un.kept k) (I.hok.kept k)
theorem Inv.laid {a : Addr} {o : HO} {t' : Nat} (I : Inv X pins σ H s) (k : ∀ b u, s.heap.get? b = some u → h'.get? b = some u) (hp : s.heap.objs.size ≤ a) (new : lA X.prog X.w (upd H a o) h' a o) :
    Inv X pins σ (upd H a o) { s with heap := h', toks := t' } := I.un (Un.laid k hp (I.hok.fresh hp)) (I.hok.laid k hp new)
theorem Inv.write {x e : Addr} {o : HO} {t' : Nat} (I : Inv X pins σ H s) (mu : Mut (H x)) (he : e = x ∨ H e = some (.own x)) (k : ∀ b u, b ≠ e → s.heap.get? b = some u → h'.get? b = some u) (heo : ∃ u, h'.get? e = some u)
    (new : lA X.prog X.w (upd H x o) h' x o) : Inv X pins σ (upd H x o) { s with heap := h', toks := t' } := I.un (Un.write mu he k heo) (I.hok.write mu he k heo new)
theorem Inv.EC {pins' : List (Addr × Obj)} (I : Inv X pins σ H s) (h : ∀ p ∈ pins', s.heap.get? p.1 = some p.2 ∧ H p.1 = none ∧ p.1 ≠ X.env.locals ∧ p.1 ∉ X.fs ∧ ∀ v, p.2.data ≠ .cell v) : Inv X pins' σ H s :=
  ⟨I.ok, I.os, I.bare, I.base, I.loc, I.cell, I.free, I.n4, fun p hp => (List.mem_append.mp hp).elim (fun z => I.pin p (List.mem_append_left _ z)) (h p), I.hok, I.len⟩
theorem Bo {N : List Str} (hN : N.Nodup) {i j : Nat} {x : Str} (a : N[i]? = some x) (b : N[j]? = some x) : i = j := by
  obtain ⟨h1, e1⟩ := List.getElem?_eq_some_iff.mp a
  obtain ⟨h2, e2⟩ := List.getElem?_eq_some_iff.mp b
  exact (List.getElem_inj hN).mp (e1.trans e2.symm)
theorem Fy {M : Model} {A : Around} {E : Value → Shared → Prop} {i : Nat} {x : Str} {v : V} {u : Value} {Q : Unit → Shared → Prop} (I : Inv X pins σ H s) (hN : X.N.Nodup) (hi : X.N[i]? = some x) (hx : Loc X.env.scope x) (r : RelV v u)
    (h : ∀ s', Inv X pins (σ.set i (some v)) H s' → (∃ a, Heap.SameBut a s.heap s'.heap ∧ (a = X.env.locals ∨ X.env.cells.lookup x = some a)) → Q () s') (hf : X.fn x = true ∨ X.env.scope.names.lookup x = some .local := by first | exact .inl rfl | exact .inr rfl | assumption) : wpAny M A (storeName X.env x u) Q E s := by
  obtain ⟨m, hn, hl⟩ := id I.loc
  have hcls : (X.env.scope.kind == .class || (X.env.scope.kind == .module && X.env.locals != X.env.globals)) = false := by rw [I.ok.kind]; rfl
  have hiσ : i < σ.length := by rw [I.len]; exact (List.getElem?_eq_some_iff.mp hi).1
  have cne := I.cne
  have tracked : ∀ {a : Addr} {h' : Heap}, (∃ o, s.heap.get? a = some o ∧ H a = none) → Heap.SameBut a s.heap h' → HOk X.prog X.w H h' := fun {a h'} ha hs b ob e => by
    obtain ⟨_, _, hfree⟩ := ha
    refine (I.hok b ob e).BU (fun c w' hc q => (hs.2 c ?_).trans q) (fun _ q => q) fun _ _ q => q
    rintro rfl
    rcases hc with rfl | hc
    · rw [hfree] at e; cases e
    · rw [hfree] at hc; cases hc
  rcases hx with hk | hk
  · refine wpAny_storeName_local hk hn (fun h' hn' hs => ?_) hcls
    obtain ⟨oL, _, _, hoL, _⟩ := id hn
    refine h _ ⟨I.ok, I.os, I.bare, ⟨fun b o e n hb hx => ?_, fun b o e n hb hx => ?_, I.base.free, fun b o e hx => ?_, I.base.tH, I.base.rW, I.base.sC⟩, ⟨_, hn', fun j y v' e1 e2 e3 => ?_⟩, fun y c e => ?_, I.free, I.n4, fun p hp => ?_, tracked ⟨oL, hoL, I.free⟩ hs, by simpa using I.len⟩ ⟨_, hs, .inl rfl⟩
    · exact (hs.2 b (Nat.ne_of_lt (Nat.lt_of_lt_of_le (Heap.lt_size e) I.ok.above))).trans (I.base.keep b o e n hb hx)
    · obtain ⟨sl, e1⟩ := I.base.slot b o e n hb hx
      exact ⟨sl, (hs.2 b (Nat.ne_of_lt (Nat.lt_of_lt_of_le (Heap.lt_size e) I.ok.above))).trans e1⟩
    · obtain ⟨o', e1⟩ := I.base.there b o e hx
      exact ⟨o', (hs.2 b (Nat.ne_of_lt (Nat.lt_of_lt_of_le (Heap.lt_size e) I.ok.above))).trans e1⟩
    · by_cases hj : j = i
      · subst hj
        rw [hi] at e1; cases e1
        rw [List.getElem?_set_self hiσ] at e2
        cases e2
        exact ⟨u, r, .inl ⟨hk, by simp⟩⟩
      · rw [List.getElem?_set_ne (Ne.symm hj)] at e2
        obtain ⟨u', r', q⟩ := hl j y v' e1 e2 e3
        refine ⟨u', r', ?_⟩
        rcases q with ⟨k, e⟩ | ⟨k, c, e, z⟩
        · refine .inl ⟨k, ?_⟩
          have : y ≠ x := fun e => hj (Bo hN e1 (e ▸ hi))
          simp [this, e]
        · exact .inr ⟨k, c, e, z.sameBut hs (cne y c e)⟩
    · obtain ⟨w', z⟩ := I.cell y c e
      exact ⟨w', z.sameBut hs (cne y c e)⟩
    · obtain ⟨e, n, ne, nf, d⟩ := I.pin p hp
      exact ⟨(hs.2 p.1 ne).trans e, n, ne, nf, d⟩
  · have hfn : X.fn x = true := by
      rcases hf with z | z
      · exact z
      · rw [z] at hk; cases hk
    obtain ⟨c, hc⟩ := I.ok.has x (.inl hk)
    obtain ⟨w', z⟩ := I.cell x c hc
    refine wpAny_storeName_cell I.ok.kind hk hc z (fun h' hc' hs => ?_)
    obtain ⟨oc, hoc, hocd⟩ := id z
    refine h { s with heap := h' } ⟨I.ok, I.os, I.bare, ⟨fun b o e n hb hx => ?_, fun b o e n hb hx => ?_, I.base.free, fun b o e hx => ?_, I.base.tH, I.base.rW, I.base.sC⟩, ⟨m, hn.sameBut hs (Ne.symm (cne x c hc)), fun j y v' e1 e2 e3 => ?_⟩, fun y c' e => ?_, I.free, I.n4, fun p hp => ?_, tracked ⟨oc, hoc, I.n4 x c hc⟩ hs, by simpa using I.len⟩ ⟨c, hs, .inr hc⟩
    · exact (hs.2 b (Nat.ne_of_lt (Nat.lt_of_lt_of_le (Heap.lt_size e) (I.ok.cab x c hfn hc)))).trans (I.base.keep b o e n hb hx)
    · obtain ⟨sl, e1⟩ := I.base.slot b o e n hb hx
      exact ⟨sl, (hs.2 b (Nat.ne_of_lt (Nat.lt_of_lt_of_le (Heap.lt_size e) (I.ok.cab x c hfn hc)))).trans e1⟩
    · obtain ⟨o', e1⟩ := I.base.there b o e hx
      exact ⟨o', (hs.2 b (Nat.ne_of_lt (Nat.lt_of_lt_of_le (Heap.lt_size e) (I.ok.cab x c hfn hc)))).trans e1⟩
    · by_cases hj : j = i
      · subst hj
        rw [hi] at e1; cases e1
        rw [List.getElem?_set_self hiσ] at e2
        cases e2
        exact ⟨u, r, .inr ⟨.inl hk, c, hc, hc'⟩⟩
      · rw [List.getElem?_set_ne (Ne.symm hj)] at e2
        obtain ⟨u', r', q⟩ := hl j y v' e1 e2 e3
        refine ⟨u', r', ?_⟩
        rcases q with q | ⟨k, c', e, z'⟩
        · exact .inl q
        · refine .inr ⟨k, c', e, z'.sameBut hs ?_⟩
          rintro rfl
          exact hj (Bo hN e1 (I.ok.inj _ _ _ e hc ▸ hi))
    · by_cases hcc : c' = c
      · subst hcc; exact ⟨_, hc'⟩
      · obtain ⟨w2, z2⟩ := I.cell y c' e
        exact ⟨w2, z2.sameBut hs hcc⟩
    · obtain ⟨e, n, ne, nf, d⟩ := I.pin p hp
      refine ⟨(hs.2 p.1 ?_).trans e, n, ne, nf, d⟩
      intro q
      rw [q, hoc] at e
      have q' : oc = p.2 := Option.some.inj e
      exact d w' (by rw [← q']; exact hocd)
theorem nH {M : Model} {A : Around} {E : Value → Shared → Prop} {i : Nat} {x : Str} {v : V} {u : Value} {Q : Unit → Shared → Prop} (I : Inv X pins σ H s) (hN : X.N.Nodup) (hi : X.N[i]? = some x) (hx : Loc X.env.scope x) (r : RelV v u)
    (h : ∀ s', Inv X pins (σ.set i (some v)) H s' → Q () s') (hf : X.fn x = true ∨ X.env.scope.names.lookup x = some .local := by first | exact .inl rfl | exact .inr rfl | assumption) : wpAny M A (storeName X.env x u) Q E s :=
  Fy I hN hi hx r (fun s' I' _ => h s' I') hf
theorem Inv.IG {s' : Shared} {ch : List Addr} (I : Inv X pins σ H s) (ho : s'.os = s.os) (u : Un (frs X.stack) ch H H' s.heap s'.heap) (hok : HOk X.prog X.w H' s'.heap) (hg : AllBare s'.gens)
    (hch : ∀ b ∈ ch, (b ∈ X.ex ∨ X.s₀.heap.objs.size ≤ b) ∧ b ≠ X.env.locals ∧ (∀ x c, X.env.cells.lookup x = some c → c ≠ b) ∧ ∀ p ∈ X.pn ++ pins, p.1 ≠ b) : Inv X pins σ H' s' := by
  obtain ⟨h', g', d', t', o'⟩ := s'
  have e : o' = s.os := ho
  subst e
  exact I.call (g' := g') (t' := t') (d' := d') u hok hg hch
end
abbrev XK := Value → Option Addr → Hp → Prop
abbrev St := List (Option V)
abbrev VK := V → Hp → Prop
abbrev TE := St → Hp → VK → Prop
abbrev TT := St → Hp → (Bool → Hp → Prop) → Prop
abbrev TA := St → Hp → (List V → Hp → Prop) → Prop
structure Ends where
  nx : St → Hp → Prop
  rt : VK
  bk : St → Hp → Prop := fun _ _ => False
  ct : St → Hp → Prop := fun _ _ => False
abbrev TS := Ends → St → Hp → Prop
def EP (X : Cx) (pins : List (Addr × Obj)) (σ : St) (Q : VK) (u : Value) (s' : Shared) : Prop := ∃ v H', Inv X pins σ H' s' ∧ RelV v u ∧ Q v H'
def TP (X : Cx) (pins : List (Addr × Obj)) (σ : St) (Q : Bool → Hp → Prop) (b : Bool) (s' : Shared) : Prop := ∃ H', Inv X pins σ H' s' ∧ Q b H'
def AP (X : Cx) (pins : List (Addr × Obj)) (σ : St) (Q : List V → Hp → Prop) (us : List Value) (s' : Shared) : Prop := ∃ vs H', Inv X pins σ H' s' ∧ Vals vs us ∧ Q vs H'
def SP (X : Cx) (pins : List (Addr × Obj)) (D : Ends) (f : Flow) (s' : Shared) : Prop :=
  match f with
  | .next => ∃ σ' H', Inv X pins σ' H' s' ∧ D.nx σ' H'
  | .brk => ∃ σ' H', Inv X pins σ' H' s' ∧ D.bk σ' H'
  | .cont => ∃ σ' H', Inv X pins σ' H' s' ∧ D.ct σ' H'
  | .ret u => ∃ v σ' H', Inv X pins σ' H' s' ∧ RelV v u ∧ D.rt v H'
def PE (X : Cx) (e : Expr) (t : TE) : Prop :=
  ∀ (pins : List (Addr × Obj)) (s : Shared) (σ : St) (H : Hp) (Q : VK), Inv X pins σ H s → t σ H Q → wpAny (model X.prog X.w) X.A (eval e X.env) (EP X pins σ Q) X.xe s
def PT (X : Cx) (e : Expr) (t : TT) : Prop :=
  ∀ (pins : List (Addr × Obj)) (s : Shared) (σ : St) (H : Hp) (Q : Bool → Hp → Prop), Inv X pins σ H s → t σ H Q → wpAny (model X.prog X.w) X.A (isTrue e X.env (eval e X.env)) (TP X pins σ Q) X.xe s
def PW (X : Cx) (e : Expr) (t : TT) : Prop :=
  ∀ (whole : Sem Value) (pins : List (Addr × Obj)) (s : Shared) (σ : St) (H : Hp) (Q : Bool → Hp → Prop), Inv X pins σ H s → t σ H Q → wpAny (model X.prog X.w) X.A (isTrue e X.env whole) (TP X pins σ Q) X.xe s
theorem PW.pt {X : Cx} {e : Expr} {t : TT} (h : PW X e t) : PT X e t := h _
def PA (X : Cx) (es : List Expr) (t : TA) : Prop :=
  ∀ (pos : Pos) (pins : List (Addr × Obj)) (s : Shared) (σ : St) (H : Hp) (Q : List V → Hp → Prop), Inv X pins σ H s → t σ H Q → wpAny (model X.prog X.w) X.A (spliced (backTo pos (starEach es X.env))) (AP X pins σ Q) X.xe s
def PS (X : Cx) (st : Stmt) (t : TS) : Prop :=
  ∀ (pins : List (Addr × Obj)) (s : Shared) (σ : St) (H : Hp) (D : Ends), Inv X pins σ H s → t D σ H → wpAny (model X.prog X.w) X.A (exec st X.env) (SP X pins D) X.xe s
def PSs (X : Cx) (st : List Stmt) (t : TS) : Prop :=
  ∀ (pins : List (Addr × Obj)) (s : Shared) (σ : St) (H : Hp) (D : Ends), Inv X pins σ H s → t D σ H → wpAny (model X.prog X.w) X.A (execs st X.env) (SP X pins D) X.xe s
theorem thn {α : Type} {t : Sem α} {Q Q' : α → Shared → Prop} {M : Model} {A : Around} {E : Value → Shared → Prop} {s : Shared} (h : wpAny M A t Q E s) (hQ : ∀ a s, Q a s → Q' a s) : wpAny M A t Q' E s := wpAny_mono h hQ fun _ _ x => x
end L2
namespace L2
open PySem PySem.Spec PyProof.Rows
section
variable {X : Cx}
theorem bin {a b : Expr} {ta tb : TE} (ha : PE X a ta) (hb : PE X b tb) {pins : List (Addr × Obj)} {s : Shared} {σ : St} {H : Hp} {R : V → V → Hp → Prop} (I : Inv X pins σ H s) (h : ta σ H fun x H1 => tb σ H1 fun y H2 => R x y H2)
    {α : Type} {Q : α → Shared → Prop} {f : Value → Value → Sem α}
    (hf : ∀ v u s2 x y H2, Inv X pins σ H2 s2 → RelV x v → RelV y u → R x y H2 → wpAny (model X.prog X.w) X.A (f v u) Q X.xe s2) :
    wpAny (model X.prog X.w) X.A (eval a X.env) (fun v s₁ => wpAny (model X.prog X.w) X.A (eval b X.env) (fun u s₂ => wpAny (model X.prog X.w) X.A (f v u) Q X.xe s₂) X.xe s₁) X.xe s := by
  refine thn (ha pins s σ H _ I h) fun v s1 ⟨x, H1, I1, r1, q1⟩ => ?_
  refine thn (hb pins s1 σ H1 _ I1 q1) fun u s2 ⟨y, H2, I2, r2, q2⟩ => ?_
  exact hf v u s2 x y H2 I2 r1 r2 q2
def Nr (i : Nat) : TE := fun σ H Q => ∃ v, σ[i]? = some (some v) ∧ Q v H
def tC (v : V) : TE := fun _ H Q => Q v H
theorem Mi {i : Nat} {x : Str} {pos : Pos} (hN : X.N[i]? = some x) (hv : Vis X.env.scope x) (hd : (x == ("__debug__" : Str)) = false := by decide) (hcd : (x == ("__classdict__" : Str)) = false := by decide) : PE X (.Name x pos) (Nr i) := by
  intro pins s σ H Q I h
  obtain ⟨v, e, h⟩ := h
  obtain ⟨m, hn, hl⟩ := I.loc
  obtain ⟨u, r, l⟩ := hl i x v hN e hv
  have fin : EP X pins σ Q u s := ⟨v, H, I, r, h⟩
  rcases l with ⟨hk, hm⟩ | ⟨hk, c, hc, hcell⟩
  · exact wpAny_Name (wpAny_loadName_local I.ok.kind hk hn hm fin) hd
  · rcases hk with hk | hk
    · exact wpAny_Name (wpAny_loadName_cell I.ok.kind hk hc hcell fin) hd
    · exact wpAny_Name (wpAny_loadName_free I.ok.kind hk hc hcell fin hcd) hd
theorem LW {i j pos} : PE X (.Constant (.int i) j pos) (tC (.int i)) := fun _ _ _ H _ I h => wpAny_Constant_int ⟨.int i, H, I.tok _, ⟨_, rfl⟩, h⟩
theorem N9 {b j pos} : PE X (.Constant (.bool b) j pos) (tC (.bl b)) := fun _ _ _ H _ I h => Constant_bool ⟨.bl b, H, I, rfl, h⟩
theorem Lq {j pos} : PE X (.Constant .none j pos) (tC .non) := fun _ _ _ H _ I h => Constant_none ⟨.non, H, I, rfl, h⟩
theorem L0 {x j pos} : PE X (.Constant (.str x) j pos) (tC (.str x)) := fun _ _ _ H _ I h => Calls.Constant_str ⟨.str x, H, I.tok _, ⟨_, rfl⟩, h⟩
def Gl (X : Cx) (x : Str) : Prop := X.env.kindOf x = some .globalImplicit
theorem Eg {E : Value → Shared → Prop} {pins : List (Addr × Obj)} {s : Shared} {σ : St} {H : Hp} {x : Str} {u : Value} {pos : Pos} {Q : Value → Shared → Prop} (I : Inv X pins σ H s) (hg : Gl X x) (hm : X.mg x = some u) (h : Q u s)
    (hd : (x == ("__debug__" : Str)) = false := by decide) : wpAny (model X.prog X.w) X.A (eval (.Name x pos) X.env) Q E s :=
  Calls.Name_function_global I.ok.kind hg (Calls.loadGlobal_global (by rw [I.ok.glob]; exact I.mod.glob.keeps I.bk) hm h) hd
theorem w5 {E : Value → Shared → Prop} {pins : List (Addr × Obj)} {s : Shared} {σ : St} {H : Hp} {x : Str} {u : Value} {pos : Pos} {Q : Value → Shared → Prop} (I : Inv X pins σ H s) (hg : Gl X x) (hm : X.mg x = none) (hv : bootBuiltins x = some u) (h : Q u s)
    (hn : x ≠ "__name__" := by decide) (hd : (x == ("__debug__" : Str)) = false := by decide) : wpAny (model X.prog X.w) X.A (eval (.Name x pos) X.env) Q E s := by
  obtain ⟨mb, h1, h2⟩ := I.mod.blt
  exact Calls.Name_function_global I.ok.kind hg (Calls.loadGlobal_builtin (by rw [I.ok.glob]; exact I.mod.glob.keeps I.bk) hm (by rw [I.ok.blt]; exact h1.keeps I.bk) ((h2 x hn).trans hv) h) hd
theorem JR {x : Str} {v : V} {u : Value} {pos : Pos} (hg : Gl X x) (hm : X.mg x = some u) (r : RelV v u) (hd : (x == ("__debug__" : Str)) = false := by decide) : PE X (.Name x pos) (tC v) :=
  fun _ _ _ H _ I h => Eg I hg hm ⟨v, H, I, r, h⟩ hd
theorem Km {x : Str} {v : V} {u : Value} {pos : Pos} (hg : Gl X x) (hm : X.mg x = none) (hv : bootBuiltins x = some u) (r : RelV v u) (hn : x ≠ "__name__" := by decide) (hd : (x == ("__debug__" : Str)) = false := by decide) : PE X (.Name x pos) (tC v) :=
  fun _ _ _ H _ I h => w5 I hg hm hv ⟨v, H, I, r, h⟩ hn hd
variable {a b : Expr} {ta tb : TE} {pos : Pos}
def PC (X : Cx) (op : CmpOp) (a b : Expr) (t : TE) : Prop :=
  ∀ (pins : List (Addr × Obj)) (s : Shared) (σ : St) (H : Hp) (Q : VK), Inv X pins σ H s → t σ H Q →
    wpAny (model X.prog X.w) X.A (eval a X.env) (fun v s₁ => wpAny (model X.prog X.w) X.A (eval b X.env) (fun u s₂ => wpAny (model X.prog X.w) X.A (compareOp op v u) (EP X pins σ Q) X.xe s₂) X.xe s₁) X.xe s
theorem HD (b : Expr) {op : CmpOp} (h : op ≠ .In) (h2 : op ≠ .NotIn) : behindInMarks op b = false := by
  have e1 : (op == CmpOp.In) = false := by cases op <;> first | rfl | exact absurd rfl h
  have e2 : (op == CmpOp.NotIn) = false := by cases op <;> first | rfl | exact absurd rfl h2
  cases b <;> simp [behindInMarks, e1, e2]
def tB (t : TE) : TT := fun σ H Q => t σ H fun x H1 => ∃ c, x = .bl c ∧ Q c H1
theorem O1 {op : CmpOp} {t : TE} (h : PC X op a b t) (h1 : behindInMarks op b = false := by first | exact HD _ (by decide) (by decide) | rfl) : PT X (.Compare a [op] [b] pos) (tB t) := by
  intro pins s σ H Q I hw
  refine wpAny_isTrue_Compare1 (thn (h pins s σ H _ I hw) fun v s1 h1 => thn h1 fun u s2 h2 => thn h2 fun c s3 ⟨x, H1, I1, r1, q1⟩ => ?_) h1
  obtain ⟨d, rfl, q⟩ := q1
  cases r1
  exact wpAny_truthy_bool ⟨H1, I1, q⟩
theorem LF {e : Expr} {t : TE} (h : PE X e t) (he : ∀ whole, isTrue e X.env whole = (do let v ← whole; standAt e.pos; holding [v] (truthy v)) := by intro _; rfl) : PT X e (tB t) := by
  intro pins s σ H Q I hw
  refine isTrue_plain (thn (h pins s σ H _ I hw) fun v s1 ⟨x, H1, I1, r1, q1⟩ => ?_) (he _)
  obtain ⟨d, rfl, q⟩ := q1
  cases r1
  exact wpAny_truthy_bool ⟨H1, I1, q⟩
variable {tA tB' : TT} {rest : List Expr}
def OQ (t u : TT) : TT := fun σ H Q => t σ H fun c H1 => if c = true then u σ H1 Q else Q false H1
def tOr (t u : TT) : TT := fun σ H Q => t σ H fun c H1 => if c = true then Q true H1 else u σ H1 Q
def OI (t : TT) : TT := fun σ H Q => t σ H fun c H1 => Q (!c) H1
theorem pw_and1 (ha : PT X a tA) : PW X (.BoolOp .And [a] pos) tA := by
  intro wh pins s σ H Q I h
  refine isTrue_and (thn (ha pins s σ H Q I h) fun c s1 e => ?_)
  cases c with
  | true => exact isTrue_and_nil e
  | false => exact e
theorem pw_or1 (ha : PT X a tA) : PW X (.BoolOp .Or [a] pos) tA := by
  intro wh pins s σ H Q I h
  refine isTrue_or (thn (ha pins s σ H Q I h) fun c s1 e => ?_)
  cases c with
  | false => exact isTrue_or_nil e
  | true => exact e
theorem pw_and (ha : PT X a tA) (hb : PW X (.BoolOp .And (b :: rest) pos) tB') : PW X (.BoolOp .And (a :: b :: rest) pos) (OQ tA tB') := by
  intro wh pins s σ H Q I h
  refine isTrue_and (thn (ha pins s σ H _ I h) fun c s1 ⟨H1, I1, q1⟩ => ?_)
  cases c with
  | true => exact hb wh pins s1 σ H1 Q I1 q1
  | false => exact ⟨H1, I1, q1⟩
theorem pw_or (ha : PT X a tA) (hb : PW X (.BoolOp .Or (b :: rest) pos) tB') : PW X (.BoolOp .Or (a :: b :: rest) pos) (tOr tA tB') := by
  intro wh pins s σ H Q I h
  refine isTrue_or (thn (ha pins s σ H _ I h) fun c s1 ⟨H1, I1, q1⟩ => ?_)
  cases c with
  | true => exact ⟨H1, I1, q1⟩
  | false => exact hb wh pins s1 σ H1 Q I1 q1
theorem LH (ha : PT X a tA) : PT X (.UnaryOp .Not a pos) (OI tA) := by
  intro pins s σ H Q I h
  exact isTrue_not (ha pins s σ H (fun c H1 => Q (!c) H1) I h)
def Oq (ta tb : TE) : TE := fun σ H Q => ta σ H fun x H1 => ∃ c, x = .bl c ∧ if c = true then tb σ H1 Q else Q (.bl false) H1
def OM (ta tb : TE) : TE := fun σ H Q => ta σ H fun x H1 => ∃ c, x = .bl c ∧ if c = true then Q (.bl true) H1 else tb σ H1 Q
def NR (ta : TE) : TE := fun σ H Q => ta σ H fun x H1 => ∃ c, x = .bl c ∧ Q (.bl (!c)) H1
theorem MQ {op} {t : TE} (h : PE X a t) : PE X (.BoolOp op [a] pos) t := fun pins s σ H Q I hw => BoolOp_one (h pins s σ H Q I hw)
theorem MC (ha : PE X a ta) (hb : PE X (.BoolOp .And (b :: rest) pos) tb) : PE X (.BoolOp .And (a :: b :: rest) pos) (Oq ta tb) := by
  intro pins s σ H Q I h
  refine BoolOp_and (thn (ha pins s σ H _ I h) fun v s1 ⟨x, H1, I1, r1, q1⟩ => ?_)
  obtain ⟨c, rfl, q1⟩ := q1
  cases r1
  refine wpAny_truthy_bool ?_
  cases c with
  | true => exact hb pins s1 σ H1 Q I1 q1
  | false => exact ⟨.bl false, H1, I1, rfl, q1⟩
theorem NG (ha : PE X a ta) (hb : PE X (.BoolOp .Or (b :: rest) pos) tb) : PE X (.BoolOp .Or (a :: b :: rest) pos) (OM ta tb) := by
  intro pins s σ H Q I h
  refine BoolOp_or (thn (ha pins s σ H _ I h) fun v s1 ⟨x, H1, I1, r1, q1⟩ => ?_)
  obtain ⟨c, rfl, q1⟩ := q1
  cases r1
  refine wpAny_truthy_bool ?_
  cases c with
  | false => exact hb pins s1 σ H1 Q I1 q1
  | true => exact ⟨.bl true, H1, I1, rfl, q1⟩
theorem L1 (ha : PE X a ta) : PE X (.UnaryOp .Not a pos) (NR ta) := by
  intro pins s σ H Q I h
  refine UnaryOp_ (thn (ha pins s σ H _ I h) fun v s1 ⟨x, H1, I1, r1, q1⟩ => ?_)
  obtain ⟨c, rfl, q1⟩ := q1
  cases r1
  exact not_of (wpAny_truthy_bool ⟨.bl (!c), H1, I1, rfl, q1⟩)
def tIf (t : TT) (ta tb : TE) : TE := fun σ H Q => t σ H fun c H1 => if c = true then ta σ H1 Q else tb σ H1 Q
theorem IW {c : Expr} (hc : PT X c tA) (ha : PE X a ta) (hb : PE X b tb) : PE X (.IfExp c a b pos) (tIf tA ta tb) := by
  intro pins s σ H Q I h
  refine wpAny_IfExp (thn (hc pins s σ H _ I h) fun d s1 ⟨H1, I1, q1⟩ => ?_)
  cases d with
  | true => exact ha pins s1 σ H1 Q I1 q1
  | false => exact hb pins s1 σ H1 Q I1 q1
end
end L2
namespace L2
open PySem PySem.Spec PyProof.Rows
def SqL (K : PySem.W.Frag) (H : Hp) (a : Addr) (xs : List V) : Prop :=
  Rd H a (.lst xs) ∨
    ∃ (o : Obj) (its : Array Value) (n : Nat), K.lookup a = some o ∧ o.cls = .type "list" ∧ o.dict = none ∧ o.data = .seq its n ∧ its.size ≤ sizeLine ∧ Vals xs its.toList
def SqT (K : PySem.W.Frag) (H : Hp) (a : Addr) (xs : List V) : Prop :=
  Rd H a (.tup xs) ∨
    ∃ (o : Obj) (its : Array Value) (n : Nat), K.lookup a = some o ∧ o.cls = .type "tuple" ∧ o.data = .seq its n ∧ its.size ≤ sizeLine ∧ Vals xs its.toList
def O3 : Value → Option V
  | .none => some .non
  | .bool b => some (.bl b)
  | .int i _ => some (.int i)
  | .str x _ => some (.str x)
  | .bytes b _ => some (.byt b)
  | .float b _ => some (.flt b)
  | .ref a => some (.ref a)
  | .type n => some (.ty n)
  | _ => none
theorem RelV.abs {x : V} {u : Value} (r : RelV x u) : O3 u = some x := by
  cases x with
  | non => cases r; rfl
  | bl _ => cases r; rfl
  | int _ => obtain ⟨t, rfl⟩ := r; rfl
  | str _ => obtain ⟨t, rfl⟩ := r; rfl
  | byt _ => obtain ⟨t, rfl⟩ := r; rfl
  | flt _ => obtain ⟨t, rfl⟩ := r; rfl
  | ref _ => cases r; rfl
  | ty _ => cases r; rfl
theorem RelV.inj {x y : V} {u : Value} (r : RelV x u) (q : RelV y u) : x = y := Option.some.inj (r.abs.symm.trans q.abs)
theorem Vals.inj : ∀ {xs ys : List V} {us : List Value}, Vals xs us → Vals ys us → xs = ys
  | _, _, _, .nil, .nil => rfl
  | _, _, _, .cons r t, .cons r' t' => by rw [r.inj r', Vals.inj t t']
section
variable {X : Cx} {pins : List (Addr × Obj)} {σ : St} {H : Hp} {s : Shared} {a : Addr} {xs ys : List V}
theorem SqL.of {K : PySem.W.Frag} (h : H a = some (.lst xs)) : SqL K H a xs := .inl (.inl h)
theorem SqT.of {K : PySem.W.Frag} (h : H a = some (.tup xs)) : SqT K H a xs := .inl (.inl h)
theorem Inv.list (I : Inv X pins σ H s) (h : SqL X.K H a xs) : ∃ its : List Value, Vals xs its ∧ PlainL s.heap a its.toArray ∧ xs.length ≤ sizeLine := by
  rcases h with h | ⟨o, its, n, hk, hc, hd, hs, hz, r⟩
  · obtain ⟨z, its, n, r, e⟩ := h.ok I.hok
    exact ⟨its, r, ⟨_, n, e, rfl, rfl, rfl⟩, z⟩
  · refine ⟨its.toList, r, ⟨o, n, I.kIn a o hk, hc, hd, by simpa using hs⟩, ?_⟩
    have e := r.length
    simp only [Array.length_toList] at e
    omega
theorem Inv.tuple (I : Inv X pins σ H s) (h : SqT X.K H a xs) : ∃ its : List Value, Vals xs its ∧ IsTup s.heap a its.toArray ∧ xs.length ≤ sizeLine := by
  rcases h with h | ⟨o, its, n, hk, hc, hs, hz, r⟩
  · obtain ⟨z, its, r, p⟩ := h.ok I.hok
    exact ⟨its, r, p, z⟩
  · refine ⟨its.toList, r, ⟨o, I.kIn a o hk, hc, n, by simpa using hs⟩, ?_⟩
    have e := r.length
    simp only [Array.length_toList] at e
    omega
theorem Inv.G3 (I : Inv X pins σ H s) (h : SqL X.K H a xs) (h' : SqL X.K H a ys) : xs = ys := by
  obtain ⟨its, r, ⟨o, n, e, _, _, d⟩, _⟩ := I.list h
  obtain ⟨its', r', ⟨o', n', e', _, _, d'⟩, _⟩ := I.list h'
  rw [e] at e'; cases e'
  rw [d] at d'
  injection d' with d1 _
  have : its = its' := by simpa using congrArg Array.toList d1
  subst this
  exact r.inj r'
theorem Inv.FL (I : Inv X pins σ H s) (h : SqT X.K H a xs) (h' : SqT X.K H a ys) : xs = ys := by
  obtain ⟨its, r, ⟨o, e, _, n, d⟩, _⟩ := I.tuple h
  obtain ⟨its', r', ⟨o', e', _, n', d'⟩, _⟩ := I.tuple h'
  rw [e] at e'; cases e'
  rw [d] at d'
  injection d' with d1 _
  have : its = its' := by simpa using congrArg Array.toList d1
  subst this
  exact r.inj r'
end
abbrev Cx.xK (X : Cx) (E : Value → Shared → Prop) : Cx := { X with xe := E }
abbrev Cx.nox (X : Cx) : Cx := X.xK fun _ _ => False
theorem Cx.Ok.xK {X : Cx} (ok : X.Ok) (E : Value → Shared → Prop) : (X.xK E).Ok :=
  ⟨ok.mod, ok.kind, ok.glob, ok.blt, ok.above, ok.inj, ok.has, ok.cab, ok.hd, ok.qt, ok.frames, ok.stk, ok.exf, ok.bs, ok.bsz, ok.Fd, ok.Kf, ok.wa, ok.frf⟩
theorem Cx.Ok.oB {X : Cx} {E : Value → Shared → Prop} (ok : (X.xK E).Ok) : X.Ok :=
  ⟨ok.mod, ok.kind, ok.glob, ok.blt, ok.above, ok.inj, ok.has, ok.cab, ok.hd, ok.qt, ok.frames, ok.stk, ok.exf, ok.bs, ok.bsz, ok.Fd, ok.Kf, ok.wa, ok.frf⟩
section
variable {X : Cx} {pins : List (Addr × Obj)} {σ : St} {H : Hp} {s : Shared} {E : Value → Shared → Prop}
theorem Inv.xK (I : Inv X pins σ H s) (E : Value → Shared → Prop) : Inv (X.xK E) pins σ H s := ⟨I.ok.xK E, I.os, I.bare, I.base, I.loc, I.cell, I.free, I.n4, I.pin, I.hok, I.len⟩
theorem Inv.oB (I : Inv (X.xK E) pins σ H s) : Inv X pins σ H s := ⟨I.ok.oB, I.os, I.bare, I.base, I.loc, I.cell, I.free, I.n4, I.pin, I.hok, I.len⟩
theorem SP.oB {D : Ends} {f : Flow} {s' : Shared} (h : SP (X.xK E) pins D f s') : SP X pins D f s' := by
  cases f with
  | next => obtain ⟨σ', H', I, q⟩ := h; exact ⟨σ', H', I.oB, q⟩
  | brk => obtain ⟨σ', H', I, q⟩ := h; exact ⟨σ', H', I.oB, q⟩
  | cont => obtain ⟨σ', H', I, q⟩ := h; exact ⟨σ', H', I.oB, q⟩
  | ret u => obtain ⟨v, σ', H', I, r, q⟩ := h; exact ⟨v, σ', H', I.oB, r, q⟩
theorem PSs.nox {st : List Stmt} {t : TS} (h : PSs X.nox st t) : PSs X st t := fun pins s σ H D I hw =>
  wpAny_mono (h pins s σ H D (I.xK _) hw) (fun _ _ q => q.oB) fun _ _ z => False.elim z
end
section
variable {X : Cx} {st : Stmt} {rest : List Stmt} {t u : TS} {e : Expr} {te : TE} {pos : Pos}
def Oe : TS := fun D σ H => D.nx σ H
def NB (t u : TS) : TS := fun D σ H => t { D with nx := u D } σ H
theorem Kj : PSs X [] Oe := fun _ _ σ H _ I h => wpAny_execs_nil ⟨σ, H, I, h⟩
theorem Gx (h1 : PS X st t) (h2 : PSs X rest u) : PSs X (st :: rest) (NB t u) := by
  intro pins s σ H D I h
  refine wpAny_execs_cons (thn (h1 pins s σ H { D with nx := u D } I h) fun f s1 q => ?_)
  cases f with
  | next =>
    obtain ⟨σ', H', I', q⟩ := q
    exact h2 pins s1 σ' H' D I' q
  | ret v => exact q
  | brk => exact q
  | cont => exact q
theorem Je (h1 : PS X st t) : PSs X [st] t := by
  intro pins s σ H D I h
  refine wpAny_execs_cons (thn (h1 pins s σ H D I h) fun f s1 q => ?_)
  cases f with
  | next => exact wpAny_execs_nil q
  | ret v => exact q
  | brk => exact q
  | cont => exact q
theorem Inv.quiet {pins : List (Addr × Obj)} {σ : St} {H : Hp} {s : Shared} (I : Inv X pins σ H s) : interactive X.env = false := by simp [interactive, I.ok.kind]
def M9 (te : TE) : TS := fun D σ H => te σ H fun _ H1 => D.nx σ H1
theorem JA (he : PE X e te) (hs : swapsWith e none pos.line X.env = pure false := by rfl) : PS X (.Expr e pos) (M9 te) := by
  intro pins s σ H D I h
  exact wpAny_Expr_any (thn (he pins s σ H _ I h) fun v s1 ⟨x, H1, I1, r1, q1⟩ => ⟨σ, H1, I1, q1⟩) I.quiet hs
def OS (te : TE) : TS := fun D σ H => te σ H D.rt
theorem LL (he : PE X e te) : PS X (.Return (some e) pos) (OS te) := by
  intro pins s σ H D I h
  exact wpAny_Return_some (thn (he pins s σ H _ I h) fun v s1 ⟨x, H1, I1, r1, q1⟩ => ⟨x, σ, H1, I1, r1, q1⟩)
def OY (c : TT) (t u : TS) : TS := fun D σ H => c σ H fun b H1 => if b = true then t D σ H1 else u D σ H1
theorem N6 {c : Expr} {a b : List Stmt} {tc : TT} (hc : PT X c tc) (ha : PSs X a t) (hb : PSs X b u) : PS X (.If c a b pos) (OY tc t u) := by
  intro pins s σ H D I h
  refine wpAny_If (thn (hc pins s σ H _ I h) fun d s1 ⟨H1, I1, q1⟩ => ?_)
  cases d with
  | true => exact ha pins s1 σ H1 D I1 q1
  | false => exact hb pins s1 σ H1 D I1 q1
end
abbrev TG := V → St → Hp → (St → Hp → Prop) → Prop
abbrev TGs := List V → St → Hp → (St → Hp → Prop) → Prop
def PG (X : Cx) (target : Expr) (t : TG) : Prop :=
  ∀ (pins : List (Addr × Obj)) (s : Shared) (σ : St) (H : Hp) (v : V) (u : Value) (Q : St → Hp → Prop), Inv X pins σ H s → RelV v u → t v σ H Q →
    wpAny (model X.prog X.w) X.A (assign target X.env u) (fun _ s' => ∃ σ' H', Inv X pins σ' H' s' ∧ Q σ' H') X.xe s
def PGs (X : Cx) (ts : List Expr) (t : TGs) : Prop :=
  ∀ (pins : List (Addr × Obj)) (s : Shared) (σ : St) (H : Hp) (vs : List V) (us : List Value) (Q : St → Hp → Prop), Inv X pins σ H s → Vals vs us → t vs σ H Q →
    wpAny (model X.prog X.w) X.A (assignInOrder ((assignEach ts X.env).map (·.2)) us) (fun _ s' => ∃ σ' H', Inv X pins σ' H' s' ∧ Q σ' H') X.xe s
abbrev M3 := V → V → V → Hp → (Hp → Prop) → Prop
def Ol (X : Cx) (t : M3) : Prop :=
  ∀ (pins : List (Addr × Obj)) (s : Shared) (σ : St) (H : Hp) (o i v : V) (ov iv u : Value) (Q : Hp → Prop), Inv X pins σ H s → RelV o ov → RelV i iv → RelV v u → t o i v H Q →
    wpAny (model X.prog X.w) X.A (setItem ov iv u) (fun _ s' => ∃ H', Inv X pins σ H' s' ∧ Q H') X.xe s
section
variable {X : Cx} {pos : Pos}
def Ig (i : Nat) : TG := fun v σ H Q => Q (σ.set i (some v)) H
theorem J4 {i : Nat} {x : Str} (hN : X.N.Nodup) (hi : X.N[i]? = some x) (hx : Loc X.env.scope x) (hf : X.fn x = true ∨ X.env.scope.names.lookup x = some .local := by first | exact .inl rfl | exact .inr rfl | assumption) : PG X (.Name x pos) (Ig i) := by
  intro pins s σ H v u Q I r h
  exact wpAny_assign_Name (nH I hN hi hx r (fun s' I' => ⟨_, H, I', h⟩) hf)
def OX : TGs := fun vs σ H Q => vs = [] ∧ Q σ H
def Nk (t : TG) (u : TGs) : TGs := fun vs σ H Q => ∃ v r, vs = v :: r ∧ t v σ H fun σ' H' => u r σ' H' Q
theorem J1 : PGs X [] OX := by
  intro pins s σ H vs us Q I r h
  obtain ⟨e, h⟩ := h
  subst e
  cases r
  exact assignInOrder_nil ⟨σ, H, I, h⟩
theorem IE {e : Expr} {es : List Expr} {t : TG} {u : TGs} (h1 : PG X e t) (h2 : PGs X es u)
    (hs : (assignEach (e :: es) X.env).map (·.2) = assign e X.env :: (assignEach es X.env).map (·.2) := by rfl) : PGs X (e :: es) (Nk t u) := by
  intro pins s σ H vs us Q I r h
  obtain ⟨v, vr, e1, h⟩ := h
  subst e1
  cases r with
  | cons r rr =>
    rw [hs]
    refine assignInOrder_cons (thn (h1 pins s σ H _ _ _ I r h) fun _ s1 ⟨σ1, H1, I1, q1⟩ => ?_)
    exact h2 pins s1 σ1 H1 _ _ Q I1 rr q1
def OL (K : PySem.W.Frag) (n : Nat) (t : TGs) : TG := fun v σ H Q => ∃ a xs, v = .ref a ∧ SqT K H a xs ∧ xs.length = n ∧ t xs σ H Q
theorem MI {es : List Expr} {k : Nat} {t : TGs} {n : Nat} (hc : X.calm = X.calm) (h : PGs X es t)
    (hn : (assignEach es X.env).length = n := by rfl) (hst : (assignEach es X.env).findIdx? (·.1) = none := by rfl) : PG X (.Tuple es k pos) (OL X.K n t) := by
  intro pins s σ H v u Q I r hw
  obtain ⟨a, xs, e1, hq, hl, hw⟩ := hw
  subst e1
  cases r
  obtain ⟨its, rv, ht, hz⟩ := I.tuple hq
  refine xQ I.Cq ht (by simp [hn, ← hl, rv.length]) hst fun h' hx => ?_
  have I1 : Inv X pins σ H { s with heap := h' } := I.kept (t' := s.toks) fun b o e => hx b o (Nat.ne_of_lt (Heap.lt_size e)) e
  exact h pins _ σ H xs _ Q I1 (by simpa using rv) hw
def OU (to ti : TE) (t : M3) : TG := fun v σ H Q => to σ H fun o H1 => ti σ H1 fun i H2 => t o i v H2 fun H3 => Q σ H3
theorem L6 {o i : Expr} {to ti : TE} {t : M3} (ho : PE X o to) (hi : PE X i ti) (hs : Ol X t)
    (ha : ∀ v, assign (.Subscript o i pos) X.env v = (do
      let ov ← holding [v] (eval o X.env)
      let iv ← holding [v, ov] (eval i X.env)
      standAt pos
      holding [v, ov, iv] (setItem ov iv v)
      release [v, ov, iv] []) := by intro _; rfl) : PG X (.Subscript o i pos) (OU to ti t) := by
  intro pins s σ H v u Q I r h
  rw [ha]
  refine wpAny_bind (wpAny_holding (thn (ho pins s σ H _ I h) fun ov s1 ⟨x, H1, I1, r1, q1⟩ => ?_))
  refine wpAny_bind (wpAny_holding (thn (hi pins s1 σ H1 _ I1 q1) fun iv s2 ⟨y, H2, I2, r2, q2⟩ => ?_))
  refine wpAny_bind (wpAny_standAt (wpAny_bind (wpAny_holding (thn (hs pins s2 σ H2 x y v ov iv u _ I2 r1 r2 r q2) fun _ s3 ⟨H3, I3, q3⟩ => ?_))))
  exact wpAny_release ⟨σ, H3, I3, q3⟩
def Mv (te : TE) (g : TG) : TS := fun D σ H => te σ H fun x H1 => g x σ H1 D.nx
theorem LC {tg e : Expr} {te : TE} {g : TG} (he : PE X e te) (hg : PG X tg g) (hs : swapsWithSole [tg] e pos.line X.env = pure false := by rfl) (hw : swappedStores [tg] e X.env = pure none := by rfl)
    (h1 : (assignEach [tg] X.env).map (·.2) = [assign tg X.env] := by rfl) : PS X (.Assign [tg] e pos) (Mv te g) := by
  intro pins s σ H D I h
  refine wpAny_Assign_stores (thn (he pins s σ H _ I h) fun v s1 ⟨x, H1, I1, r1, q1⟩ => ?_) hs hw
  rw [h1]
  exact thn (hg pins s1 σ H1 x v _ I1 r1 q1) fun _ s2 q => q
theorem MS {i : Nat} {x : Str} {e : Expr} {te : TE} {pos' : Pos} (hN : X.N.Nodup) (hi : X.N[i]? = some x) (hx : Loc X.env.scope x) (he : PE X e te) (hs : swapsWith e (some (.Name x pos')) pos.line X.env = pure false := by rfl) (hf : X.fn x = true ∨ X.env.scope.names.lookup x = some .local := by first | exact .inl rfl | exact .inr rfl | assumption) :
    PS X (.Assign [.Name x pos'] e pos) (Mv te (Ig i)) := by
  intro pins s σ H D I h
  refine wpAny_Assign_Name (thn (he pins s σ H _ I h) fun v s1 ⟨y, H1, I1, r1, q1⟩ => ?_) hs
  exact nH I1 hN hi hx r1 (fun s2 I2 => ⟨_, H1, I2, q1⟩) hf
def OB (i j : Nat) (ta : TA) : TS := fun D σ H => ta σ H fun vs H1 => ∃ v w, vs = [v, w] ∧ D.nx ((σ.set i (some v)).set j (some w)) H1
theorem LD {i j : Nat} {x y : Str} {a b : Expr} {ta : TA} {px py pt : Pos} {kt k2 pt2} (hc : X.calm = true) (hN : X.N.Nodup) (hi : X.N[i]? = some x) (hj : X.N[j]? = some y) (hij : i ≠ j)
    (hx : X.env.scope.names.lookup x = some .local) (hy : X.env.scope.names.lookup y = some .local) (ha : PA X [a, b] ta)
    (hw : swappedStores [.Tuple [.Name x px, .Name y py] kt pt] (.Tuple [a, b] k2 pt2) X.env = pure (some [x, y]))
    (hs : swapsWithSole [.Tuple [.Name x px, .Name y py] kt pt] (.Tuple [a, b] k2 pt2) pos.line X.env = pure false := by rfl) :
    PS X (.Assign [.Tuple [.Name x px, .Name y py] kt pt] (.Tuple [a, b] k2 pt2) pos) (OB i j ta) := by
  intro pins s σ H D I h
  rw [exec_Assign_arm]
  refine wpAny_bind (wpAny_standAt ?_)
  rw [hs]
  refine wpAny_bind (wpAny_pure ?_)
  rw [if_neg (by decide)]
  refine wpAny_bind (Tuple_ (thn (ha _ pins s σ H _ I h) fun us s1 ⟨vs, H1, I1, r1, q1⟩ => ?_))
  obtain ⟨v, w, e1, q1⟩ := q1
  subst e1
  obtain ⟨u1, u2, rfl, rv, rw'⟩ : ∃ u1 u2, us = [u1, u2] ∧ RelV v u1 ∧ RelV w u2 := by
    cases r1 with
    | cons p q =>
      cases q with
      | cons p' q' =>
        cases q'
        exact ⟨_, _, rfl, p, p'⟩
  refine wpAny_newObj_type ?_ (by show 2 ≤ sizeLine; decide)
  have I2 : Inv X pins σ H1 { s1 with heap := s1.heap.push { cls := .type "tuple", data := .seq [u1, u2].toArray } } := I1.kept (t' := s1.toks) fun b o e => Heap.get?_push_of_some _ e
  rw [hw]
  refine wpAny_bind (wpAny_pure ?_)
  show wpAny (model X.prog X.w) X.A (do rule "assign.swapped-stores"; let items ← unpackItems (.ref s1.heap.objs.size) 2 none; assignInOrder [fun v => bindName X.env y v, fun v => bindName X.env x v] items.reverse; pure Flow.next) _ _ _
  refine wpAny_bind (wpAny_rule (wpAny_bind (unpackItems_tuple (items := #[u1, u2]) (I.ok.hd hc) (IsTup.new s1.heap _) fun h' hx' => ?_)))
  have I3 := I2.kept (h' := h') (t' := s1.toks) fun b o e => hx' b o (Nat.ne_of_lt (Heap.lt_size e)) e
  show wpAny _ _ (assignInOrder [fun v => bindName X.env y v, fun v => bindName X.env x v] [u2, u1] >>= fun _ => pure Flow.next) _ _ _
  refine wpAny_bind (assignInOrder_cons (wpAny_bindName (nH I3 hN hj (.inl hy) rw' (fun s2 I4 => ?_) (.inr hy))))
  refine assignInOrder_cons (wpAny_bindName (nH I4 hN hi (.inl hx) rv (fun s3 I5 => assignInOrder_nil (wpAny_pure ?_)) (.inr hx)))
  rw [List.set_comm _ _ (Ne.symm hij)] at I5
  exact ⟨_, H1, I5, q1⟩
end
section
variable {X : Cx} {pos : Pos}
def LX (c : TT) (tb : TS) : TS := fun D σ H => ∃ W : Nat → St → Hp → Prop, (∃ m, W m σ H) ∧ ∀ m σ H, W m σ H →
  c σ H fun b H1 => if b = true then ∃ N : St → Hp → Prop, (∀ σ' H', N σ' H' → ∃ m', m' < m ∧ W m' σ' H') ∧ tb { D with nx := N, ct := N, bk := D.nx } σ H1 else D.nx σ H1
theorem He {c : Expr} {body : List Stmt} {tc : TT} {tb : TS} (hp : PassesOwn (model X.prog X.w) X.A X.env X.xe) (hc : PT X c tc) (hb : PSs X body tb) : PS X (.While c body [] pos) (LX tc tb) := by
  intro pins s σ H D I h
  obtain ⟨W, ⟨m0, w0⟩, turn⟩ := h
  refine wpAny_While (codeAny_whileLoop (fun n s' => ∃ σ' H', Inv X pins σ' H' s' ∧ W n σ' H') ?_ m0 ⟨σ, H, I, w0⟩)
  rintro n s1 ⟨σ1, H1, I1, w1⟩
  refine wpAny_passesOwn hp (thn (hc pins s1 σ1 H1 _ I1 (turn n σ1 H1 w1)) fun b s2 ⟨H2, I2, q2⟩ => ?_)
  cases b with
  | true =>
    obtain ⟨N, hN, q2⟩ := q2
    rw [if_pos rfl]
    refine wpAny_passesOwn hp (thn (hb pins s2 σ1 H2 _ I2 q2) fun f s3 q3 => ?_)
    cases f with
    | next =>
      obtain ⟨σ3, H3, I3, n3⟩ := q3
      obtain ⟨m', hm, w3⟩ := hN σ3 H3 n3
      exact ⟨m', hm, σ3, H3, I3, w3⟩
    | cont =>
      obtain ⟨σ3, H3, I3, n3⟩ := q3
      obtain ⟨m', hm, w3⟩ := hN σ3 H3 n3
      exact ⟨m', hm, σ3, H3, I3, w3⟩
    | brk => exact q3
    | ret v => exact q3
  | false =>
    rw [if_neg Bool.false_ne_true]
    exact wpAny_execs_nil ⟨σ1, H2, I2, q2⟩
end
structure It where
  go : Nat → Hp → Prop
  yld : Nat → Hp → V → Hp → Prop
  stop : Nat → Hp → Prop
def Ao (X : Cx) (pins : List (Addr × Obj)) (H : Hp) (b : Addr) : Prop :=
  H b = none ∧ b ≠ X.env.locals ∧ b ∉ X.fs ∧ (b ∈ X.ex ∨ X.s₀.heap.objs.size ≤ b) ∧ (∀ x c, X.env.cells.lookup x = some c → c ≠ b) ∧ ∀ p ∈ X.pn ++ pins, p.1 ≠ b
theorem Inv.JN {X : Cx} {pins : List (Addr × Obj)} {σ : St} {H H' : Hp} {s : Shared} {b : Addr} (I : Inv X pins σ H s) (hb : s.heap.objs.size ≤ b) (hn : H' b = none) : Ao X pins H' b := by
  refine ⟨hn, Nat.ne_of_gt (Nat.lt_of_lt_of_le I.lt hb), I.O2 hb, .inr (Nat.le_trans I.sz hb), fun x c e z => ?_, fun p hp z => ?_⟩
  · obtain ⟨v, q⟩ := I.cell x c e
    exact absurd (Nat.lt_of_lt_of_le q.lt (by rw [z]; exact hb)) (Nat.lt_irrefl _)
  · exact absurd (Nat.lt_of_lt_of_le (Heap.lt_size (I.pin p hp).1) (by rw [z]; exact hb)) (Nat.lt_irrefl _)
structure Turn (c : Bool) (P : Program) (w : World) (K : PySem.W.Frag) (tg : Expr) (J : It) (fp : List Addr) (it : Addr) (tn : Nat → Heap → Prop) : Prop where
  mem : it ∈ fp
  obj : ∀ i h, tn i h → ∀ b ∈ fp, ∃ o, h.get? b = some o ∧ ∀ v, o.data ≠ .cell v
  keep : ∀ i h h', tn i h → (∀ b ∈ fp, ∀ o, h.get? b = some o → h'.get? b = some o) → tn i h'
  item : ∀ (X : Cx), X.prog = P → X.w = w → X.K = K → (c = true → X.calm = true) → ∀ (i : Nat) (pins : List (Addr × Obj)) (s : Shared) (σ : St) (H : Hp) (E : Value → Shared → Prop), Inv X pins σ H s → (∀ b ∈ fp, Ao X pins H b) → tn i s.heap → J.go i H →
    wpAny (model P w) X.A (pyNext (.ref it)) (fun r s1 => ∃ u, r = some u ∧
      wpAny (model P w) X.A (letOwnedTupleGo tg (.ref it) u) (fun _ s2 => ∃ x H', Inv X pins σ H' s2 ∧ RelV x u ∧ J.yld i H x H' ∧ tn (i + 1) s2.heap ∧ ∀ b ∈ fp, H' b = none) E s1) E s
  done : ∀ (X : Cx), X.prog = P → X.w = w → X.K = K → (c = true → X.calm = true) → ∀ (i : Nat) (pins : List (Addr × Obj)) (s : Shared) (σ : St) (H : Hp) (E : Value → Shared → Prop), Inv X pins σ H s → (∀ b ∈ fp, Ao X pins H b) → tn i s.heap → J.stop i H →
    wpAny (model P w) X.A (pyNext (.ref it)) (fun r s1 => r = none ∧ Inv X pins σ H s1) E s
  self : ∀ (A : Around) (i : Nat) (s : Shared) (Q : Value → Shared → Prop) (E : Value → Shared → Prop), tn i s.heap → Q (.ref it) s → wpAny (model P w) A (pyIter (.ref it)) Q E s
theorem Turn.calm {c : Bool} {P : Program} {w : World} {K : PySem.W.Frag} {tg : Expr} {J : It} {fp : List Addr} {it : Addr} {tn : Nat → Heap → Prop} (T : Turn true P w K tg J fp it tn) (h : c = true) : Turn c P w K tg J fp it tn := by subst h; exact T
abbrev TI := St → Hp → (It → Hp → Prop) → Prop
def PIE (X : Cx) (pins : List (Addr × Obj)) (σ : St) (tg : Expr) (R : It → Hp → Prop) (itv : Value) (s2 : Shared) : Prop :=
  ∃ (it : Addr) (fp : List Addr) (tn : Nat → Heap → Prop) (J : It) (H' : Hp), itv = .ref it ∧ Inv X pins σ H' s2 ∧ Turn X.calm X.prog X.w X.K tg J fp it tn ∧ tn 0 s2.heap ∧ (∀ b ∈ fp, Ao X pins H' b) ∧ R J H'
def PI (X : Cx) (tg iter : Expr) (wi : TI) : Prop :=
  ∀ (pins : List (Addr × Obj)) (s : Shared) (σ : St) (H : Hp) (R : It → Hp → Prop), Inv X pins σ H s → wi σ H R →
    wpAny (model X.prog X.w) X.A (eval iter X.env) (fun v s1 => wpAny (model X.prog X.w) X.A (pyIter v) (PIE X pins σ tg R) X.xe s1) X.xe s
theorem Ib {M : Model} {A : Around} {E : Value → Shared → Prop} {s : Shared} {tg : Expr} {it : Addr} {u : Value} {o : Obj} {n : String} {vs : Array Value} {Q : Unit → Shared → Prop} (ho : s.heap.get? it = some o) (hc : o.cls = .type n) (hd : o.data = .fields vs)
    (hn : ["enumerate", "zip", "dict_itemiterator", "dict_reverseitemiterator", "odict_iterator", "itertools.zip_longest", "itertools.pairwise"].contains n = false) (hQ : Q () s) : wpAny M A (letOwnedTupleGo tg (.ref it) u) Q E s := by
  unfold letOwnedTupleGo
  cases tg <;> first
    | exact wpAny_pure hQ
    | (cases u <;> first
        | exact wpAny_pure hQ
        | (refine wpAny_bind (wpAny_load ho ?_)
           rw [hc, hd]
           show wpAny M A (if (["enumerate", "zip", "dict_itemiterator", "dict_reverseitemiterator", "odict_iterator", "itertools.zip_longest", "itertools.pairwise"].contains n && vs[0]? == some (rawInt _)) = true then _ else _) Q E s
           rw [if_neg (by intro h; rw [hn, Bool.false_and] at h; cases h)]
           exact wpAny_pure hQ))
def Itl (K : PySem.W.Frag) (a : Addr) : It :=
  ⟨fun i H => ∃ xs x, SqL K H a xs ∧ xs[i]? = some x, fun i H x H' => H' = H ∧ ∀ xs, SqL K H a xs → xs[i]? = some x, fun i H => ∃ xs, SqL K H a xs ∧ xs.length ≤ i⟩
def Itt (K : PySem.W.Frag) (a : Addr) : It :=
  ⟨fun i H => ∃ xs x, SqT K H a xs ∧ xs[i]? = some x, fun i H x H' => H' = H ∧ ∀ xs, SqT K H a xs → xs[i]? = some x, fun i H => ∃ xs, SqT K H a xs ∧ xs.length ≤ i⟩
def Itr (lo : Int) (n : Nat) : It := ⟨fun i _ => i < n, fun i H x H' => H' = H ∧ x = .int (lo + i), fun i _ => n ≤ i⟩
theorem FI {c : Bool} {P : Program} {w : World} {K : PySem.W.Frag} {tg : Expr} (a it : Addr) : Turn c P w K tg (Itl K a) [it] it (fun i h => h.IsListIter it a i) where
  mem := by simp
  obj := fun i h st b hb => by
    have e : b = it := by simpa using hb
    subst e
    obtain ⟨o, e, c, d⟩ := st
    exact ⟨o, e, fun v z => by rw [d] at z; cases z⟩
  keep := fun i h h' st k => st.at fun o e => k it (by simp) o e
  item := by
    intro X hP hw hK hc i pins s σ H E I hf st hg
    subst hP hw hK
    obtain ⟨xs, x, hq, hx⟩ := hg
    obtain ⟨its, rv, p, hz⟩ := I.list hq
    obtain ⟨u, hu, ru⟩ := rv.get hx
    obtain ⟨f0, f1, f2, f3, f4, f5⟩ := hf it (by simp)
    refine wpAny_pyNext_list_item st p.isList (x := u) (by simpa using hu) fun h' st' sb => ?_
    have I1 : Inv X pins σ H { s with heap := h' } := I.turned (t' := s.toks) (fun b o hb e => (sb.2 b hb).trans e) f0 f1 f3 f4 f5
    obtain ⟨o, e, c, d⟩ := id st'
    exact ⟨u, rfl, Ib (s := { s with heap := h' }) e c d (by decide) ⟨x, H, I1, ru, ⟨rfl, fun ys hy => by rw [I.G3 hy hq]; exact hx⟩, st', fun b hb => (hf b hb).1⟩⟩
  done := by
    intro X hP hw hK hc i pins s σ H E I hf st hg
    subst hP hw hK
    obtain ⟨xs, hq, hx⟩ := hg
    obtain ⟨its, rv, p, hz⟩ := I.list hq
    obtain ⟨f0, f1, f2, f3, f4, f5⟩ := hf it (by simp)
    have hl := rv.length
    exact xo I.Cq (I.hne f5) st p.isList (by simp; omega) fun h' eb => ⟨rfl, I.turned (t' := s.toks) (fun b o hb e => eb b o hb e) f0 f1 f3 f4 f5⟩
  self := fun _ _ _ _ _ st h => wpAny_pyIter_listiter st h
theorem Cr {c : Bool} {P : Program} {w : World} {K : PySem.W.Frag} {tg : Expr} (a it : Addr) : Turn c P w K tg (Itt K a) [it] it (fun i h => h.IsTupleIter it a i) where
  mem := by simp
  obj := fun i h st b hb => by
    have e : b = it := by simpa using hb
    subst e
    obtain ⟨o, e, c, d⟩ := st
    exact ⟨o, e, fun v z => by rw [d] at z; cases z⟩
  keep := fun i h h' st k => st.at fun o e => k it (by simp) o e
  item := by
    intro X hP hw hK hc i pins s σ H E I hf st hg
    subst hP hw hK
    obtain ⟨xs, x, hq, hx⟩ := hg
    obtain ⟨its, rv, p, hz⟩ := I.tuple hq
    obtain ⟨u, hu, ru⟩ := rv.get hx
    obtain ⟨f0, f1, f2, f3, f4, f5⟩ := hf it (by simp)
    refine wpAny_pyNext_tuple_item st (show s.heap.IsTuple a its.toArray from p) (x := u) (by simpa using hu) fun h' st' sb => ?_
    have I1 : Inv X pins σ H { s with heap := h' } := I.turned (t' := s.toks) (fun b o hb e => (sb.2 b hb).trans e) f0 f1 f3 f4 f5
    obtain ⟨o, e, c, d⟩ := id st'
    exact ⟨u, rfl, Ib (s := { s with heap := h' }) e c d (by decide) ⟨x, H, I1, ru, ⟨rfl, fun ys hy => by rw [I.FL hy hq]; exact hx⟩, st', fun b hb => (hf b hb).1⟩⟩
  done := by
    intro X hP hw hK hc i pins s σ H E I hf st hg
    subst hP hw hK
    obtain ⟨xs, hq, hx⟩ := hg
    obtain ⟨its, rv, p, hz⟩ := I.tuple hq
    obtain ⟨f0, f1, f2, f3, f4, f5⟩ := hf it (by simp)
    have hl := rv.length
    exact q5 I.Cq (I.hne f5) st (show s.heap.IsTuple a its.toArray from p) (by simp; omega) fun h' eb => ⟨rfl, I.turned (t' := s.toks) (fun b o hb e => eb b o hb e) f0 f1 f3 f4 f5⟩
  self := fun _ _ _ _ _ st h => wpAny_pyIter_tupleiter st h
theorem CF {P : Program} {w : World} {K : PySem.W.Frag} {tg : Expr} (it : Addr) (lo : Int) (n : Nat) : Turn true P w K tg (Itr lo n) [it] it (fun i h => IsRangeIter h it (lo + (i : Nat) * 1) ((n : Int) - (i : Nat)) 1) where
  mem := by simp
  obj := fun i h st b hb => by
    have e : b = it := by simpa using hb
    subst e
    exact ⟨_, st, fun v z => by
      have z' : Data.fields _ = Data.cell v := z
      cases z'⟩
  keep := fun i h h' st k => k it (by simp) _ st
  item := by
    intro X hP hw hK hc i pins s σ H E I hf st hg
    subst hP hw hK
    obtain ⟨f0, f1, f2, f3, f4, f5⟩ := hf it (by simp)
    have W := Walks.range (prog := X.prog) (w := X.w) (I.ok.hd (hc rfl)) it lo 1 n
    refine W.item i s _ _ hg st fun v h' tk hv st' kk => ?_
    obtain ⟨t, rfl⟩ := hv
    have I1 : Inv X pins σ H { s with heap := h', toks := tk } := I.turned (fun b o hb e => kk b o (by simpa using hb) e) f0 f1 f3 f4 f5
    refine ⟨_, rfl, Ib (s := { s with heap := h', toks := tk }) (n := "range_iterator") st' rfl rfl (by decide) ⟨.int (lo + i), H, I1, ⟨t, ?_⟩, ⟨rfl, rfl⟩, st', fun b hb => (hf b hb).1⟩⟩
    rw [Int.mul_one]
  done := by
    intro X hP hw hK hc i pins s σ H E I hf st hg
    subst hP hw hK
    obtain ⟨f0, f1, f2, f3, f4, f5⟩ := hf it (by simp)
    exact wpAny_pyNext_range_end (I.ok.hd (hc rfl)) st (by have : n ≤ i := hg; omega) fun h' eb => ⟨rfl, I.turned (t' := s.toks) (fun b o hb e => eb b o hb e) f0 f1 f3 f4 f5⟩
  self := fun _ _ _ _ _ st h => wpAny_pyIter_rangeiter st h
end L2
namespace L2
open PySem PySem.Spec PyProof.Rows
section
variable {X : Cx} {tg : Expr}
def Nj (K : PySem.W.Frag) (tl : TE) : TI := fun σ H R => tl σ H fun x H1 => ∃ a, x = .ref a ∧ (∃ xs, SqL K H1 a xs) ∧ R (Itl K a) H1
def OF (K : PySem.W.Frag) (tl : TE) : TI := fun σ H R => tl σ H fun x H1 => ∃ a, x = .ref a ∧ (∃ xs, SqT K H1 a xs) ∧ R (Itt K a) H1
theorem Jv {l : Expr} {tl : TE} (hl : PE X l tl) : PI X tg l (Nj X.K tl) := by
  intro pins s σ H R I h
  refine thn (hl pins s σ H _ I h) fun v s1 ⟨x, H1, I1, r1, q1⟩ => ?_
  obtain ⟨a, e, ⟨xs, hq⟩, q⟩ := q1
  subst e
  cases r1
  obtain ⟨its, rv, p, hz⟩ := I1.list hq
  refine wpAny_pyIter_list p.isList ?_
  refine ⟨s1.heap.objs.size, [s1.heap.objs.size], _, _, H1, rfl, I1.kept (t' := s1.toks) fun b o e => Heap.get?_push_of_some _ e, FI a _, ⟨_, Heap.get?_push_size _ rfl, rfl, rfl⟩, fun b hb => ?_, q⟩
  have e : b = s1.heap.objs.size := by simpa using hb
  subst e
  exact I1.JN (Nat.le_refl _) (I1.hok.fresh (Nat.le_refl _))
theorem Mq {l : Expr} {tl : TE} (hl : PE X l tl) : PI X tg l (OF X.K tl) := by
  intro pins s σ H R I h
  refine thn (hl pins s σ H _ I h) fun v s1 ⟨x, H1, I1, r1, q1⟩ => ?_
  obtain ⟨a, e, ⟨xs, hq⟩, q⟩ := q1
  subst e
  cases r1
  obtain ⟨its, rv, p, hz⟩ := I1.tuple hq
  refine wpAny_pyIter_tuple (show s1.heap.IsTuple a its.toArray from p) ?_
  refine ⟨s1.heap.objs.size, [s1.heap.objs.size], _, _, H1, rfl, I1.kept (t' := s1.toks) fun b o e => Heap.get?_push_of_some _ e, Cr a _, ⟨_, Heap.get?_push_size _ rfl, rfl, rfl⟩, fun b hb => ?_, q⟩
  have e : b = s1.heap.objs.size := by simpa using hb
  subst e
  exact I1.JN (Nat.le_refl _) (I1.hok.fresh (Nat.le_refl _))
theorem B2 (hc : X.calm = true) {pins : List (Addr × Obj)} {σ : St} {H : Hp} {s : Shared} {R : It → Hp → Prop} {E : Value → Shared → Prop} {lo hi : Int} {t u v : Tok} {tk : Nat} (I : Inv X pins σ H s) (h1 : -(2 ^ 62) ≤ lo) (h2 : lo < 2 ^ 62) (h3 : -(2 ^ 62) ≤ hi) (h4 : hi < 2 ^ 62)
    (q : R (Itr lo (hi - lo).toNat) H) : wpAny (model X.prog X.w) X.A (pyIter (.ref s.heap.objs.size)) (PIE X pins σ tg R) E { s with heap := s.heap.push { cls := .type "range", data := .fields #[.int lo t, .int hi u, .int 1 v] }, toks := tk } := by
  refine wpAny_pyIter_range (IsRange.new ..) (small_one h1 h2 h3 h4) ?_
  have I1 : Inv X pins σ H { s with heap := s.heap.push { cls := .type "range", data := .fields #[.int lo t, .int hi u, .int 1 v] }, toks := tk } := I.kept fun b o e => Heap.get?_push_of_some _ e
  refine ⟨(s.heap.push { cls := .type "range", data := .fields #[.int lo t, .int hi u, .int 1 v] }).objs.size, [(s.heap.push { cls := .type "range", data := .fields #[.int lo t, .int hi u, .int 1 v] }).objs.size], _, _, H, rfl,
    I1.kept (t' := tk) fun b o e => Heap.get?_push_of_some _ e, (CF _ lo (hi - lo).toNat).calm hc, ?_, fun b hb => ?_, q⟩
  · have e1 : lo + ((0 : Nat) : Int) * 1 = lo := by simp
    have e2 : (((hi - lo).toNat : Nat) : Int) - ((0 : Nat) : Int) = Builtin.Range.rangeSize lo hi 1 := by rw [rangeSize_one]; split <;> omega
    show IsRangeIter _ _ (lo + ((0 : Nat) : Int) * 1) ((((hi - lo).toNat : Nat) : Int) - ((0 : Nat) : Int)) 1
    rw [e1, e2]
    exact Heap.get?_push_size _ rfl
  · have e : b = (s.heap.push { cls := .type "range", data := .fields #[.int lo t, .int hi u, .int 1 v] }).objs.size := by simpa using hb
    subst e
    exact I1.JN (Nat.le_refl _) (I1.hok.fresh (Nat.le_refl _))
def NL (ta : TA) : TI := fun σ H R => ta σ H fun vs H1 => ∃ j : Int, vs = [.int j] ∧ -(2 ^ 62) ≤ j ∧ j < 2 ^ 62 ∧ R (Itr 0 j.toNat) H1
def Nu (ta : TA) : TI := fun σ H R => ta σ H fun vs H1 => ∃ i j : Int, vs = [.int i, .int j] ∧ (-(2 ^ 62) ≤ i ∧ i < 2 ^ 62 ∧ -(2 ^ 62) ≤ j ∧ j < 2 ^ 62) ∧ R (Itr i (j - i).toNat) H1
theorem E9 {a : Expr} {ta : TA} {p pos : Pos} (hc : X.calm = true) (hg : Gl X "range") (hm : X.mg "range" = none) (ha : PA X [a] ta) (hs : starEach [a] X.env = [(false, eval a X.env)] := by rfl) : PI X tg (.Call (.Name "range" p) [a] [] pos) (NL ta) := by
  intro pins s σ H R I h
  refine Call_ (w5 I hg hm boot_range (PyProof.Rows.callWith_type1 (thn (ha pos pins s σ H _ I h) fun us s1 ⟨vs, H1, I1, r1, q1⟩ => ?_) hs rfl))
  obtain ⟨j, e, q1, q2, q⟩ := q1
  subst e
  cases r1 with
  | cons r rr =>
    cases rr
    obtain ⟨t, rfl⟩ := r
    exact call_range_1 (B2 hc I1 (by omega) (by omega) q1 q2 (by simpa using q))
theorem FY {a b : Expr} {ta : TA} {p pos : Pos} (hc : X.calm = true) (hg : Gl X "range") (hm : X.mg "range" = none) (ha : PA X [a, b] ta) (hs : starEach [a, b] X.env = [(false, eval a X.env), (false, eval b X.env)] := by rfl) (hs2 : starEach [b] X.env = [(false, eval b X.env)] := by rfl) :
    PI X tg (.Call (.Name "range" p) [a, b] [] pos) (Nu ta) := by
  intro pins s σ H R I h
  refine Call_ (w5 I hg hm boot_range (PyProof.Rows.callWith_type1 (thn (ha pos pins s σ H _ I h) fun us s1 ⟨vs, H1, I1, r1, q1⟩ => ?_) (by rw [hs, hs2]) (by rw [hs2]; rfl)))
  obtain ⟨i, j, e, ⟨q1, q2, q3, q4⟩, q⟩ := q1
  subst e
  cases r1 with
  | cons r rr =>
    cases rr with
    | cons r' rr =>
      cases rr
      obtain ⟨t, rfl⟩ := r
      obtain ⟨t', rfl⟩ := r'
      exact call_range_2 (B2 hc I1 q1 q2 q3 q4 q)
def OD (wi : TI) (g : TG) (tb : TS) : TS := fun D σ H => wi σ H fun J H1 => ∃ W : Nat → Nat → St → Hp → Prop, (∃ m, W 0 m σ H1) ∧ ∀ i m σ H, W i m σ H →
  (J.stop i H ∧ D.nx σ H) ∨ (J.go i H ∧ ∃ N : St → Hp → Prop, (∀ σ' H', N σ' H' → ∃ m', m' < m ∧ W (i + 1) m' σ' H') ∧ ∀ x H', J.yld i H x H' → g x σ H' fun σ2 H2 => tb { D with nx := N, ct := N, bk := D.nx } σ2 H2)
def uq (fp : List Addr) (h : Heap) : List (Addr × Obj) := fp.filterMap fun b => (h.get? b).map fun o => (b, o)
theorem gf {fp : List Addr} {h : Heap} {b : Addr} {o : Obj} (hb : b ∈ fp) (e : h.get? b = some o) : (b, o) ∈ uq fp h := List.mem_filterMap.mpr ⟨b, hb, by rw [e]; rfl⟩
theorem E8 {fp : List Addr} {h : Heap} {p : Addr × Obj} (hp : p ∈ uq fp h) : p.1 ∈ fp ∧ h.get? p.1 = some p.2 := by
  obtain ⟨b, hb, e⟩ := List.mem_filterMap.mp hp
  cases q : h.get? b with
  | none => rw [q] at e; cases e
  | some o =>
    rw [q] at e
    have e' : (b, o) = p := Option.some.inj e
    subst e'
    exact ⟨hb, q⟩
theorem Inv.pinned {pins : List (Addr × Obj)} {σ : St} {H : Hp} {s : Shared} {fp : List Addr} (I : Inv X pins σ H s) (hf : ∀ b ∈ fp, Ao X pins H b) (ho : ∀ b ∈ fp, ∃ o, s.heap.get? b = some o ∧ ∀ v, o.data ≠ .cell v) : Inv X (pins ++ uq fp s.heap) σ H s :=
  I.EC fun p hp => (List.mem_append.mp hp).elim (fun z => I.pin p (List.mem_append_right _ z)) fun z => by
    obtain ⟨hb, e⟩ := E8 z
    obtain ⟨f0, f1, f2, _⟩ := hf p.1 hb
    obtain ⟨o, e', d⟩ := ho p.1 hb
    rw [e] at e'; cases e'
    exact ⟨e, f0, f1, f2, d⟩
theorem Inv.lL {pins pl : List (Addr × Obj)} {σ : St} {H : Hp} {s : Shared} (I : Inv X (pins ++ pl) σ H s) : Inv X pins σ H s := I.EC fun p hp => I.pin p (List.mem_append_right _ (List.mem_append_left _ hp))
theorem MB {iter : Expr} {body : List Stmt} {wi : TI} {g : TG} {tb : TS} {pos : Pos} (hp : PassesOwn (model X.prog X.w) X.A X.env X.xe) (hc : X.calm = true) (hi : PI X tg iter wi) (hg : PG X tg g) (hb : PSs X body tb)
    (hs : ∀ x, foldedSetIterable iter X.env x = pure x := by intro _; rfl) : PS X (.For tg iter body [] pos) (OD wi g tb) := by
  intro pins s σ H D I h
  refine wpAny_For (thn (hi pins s σ H _ I h) fun v s1 h1 => thn h1 fun itv s2 h2 => ?_) hs
  obtain ⟨it, fp, tn, J, H2, e, I2, T, st2, f2, W, ⟨m0, w0⟩, turn⟩ := h2
  subst e
  have stat : ∀ {H' : Hp}, (∀ b ∈ fp, H' b = none) → ∀ b ∈ fp, Ao X pins H' b := fun hn b hb => ⟨hn b hb, (f2 b hb).2⟩
  refine codeAny_forLoop_any (fun n s' => ∃ i σ' H', Inv X pins σ' H' s' ∧ tn i s'.heap ∧ (∀ b ∈ fp, H' b = none) ∧ W i n σ' H') ?_ m0 ⟨0, σ, H2, I2, st2, fun b hb => (f2 b hb).1, w0⟩
  rintro n s3 ⟨i, σ3, H3, I3, st3, fr3, w3⟩
  rcases turn i n σ3 H3 w3 with ⟨stop, qn⟩ | ⟨go, N, hN, step⟩
  · refine wpAny_passesOwn hp (thn (T.done X rfl rfl rfl (fun z => z) i pins s3 σ3 H3 X.xe I3 (stat fr3) st3 stop) fun r s4 ⟨hr, I4⟩ => ?_)
    subst hr
    exact wpAny_execs_nil ⟨σ3, H3, I4, qn⟩
  · refine wpAny_passesOwn hp (thn (T.item X rfl rfl rfl (fun z => z) i pins s3 σ3 H3 X.xe I3 (stat fr3) st3 go) fun r s4 ⟨u, hr, h4⟩ => ?_)
    subst hr
    refine wpAny_passesOwn hp (thn h4 fun _ s5 ⟨x, H5, I5, r5, y5, st5, fr5⟩ => ?_)
    have I5' := I5.pinned (stat fr5) (T.obj _ _ st5)
    refine wpAny_passesOwn hp (thn (hg _ s5 σ3 H5 x u _ I5' r5 (step x H5 y5)) fun _ s6 ⟨σ6, H6, I6, q6⟩ => ?_)
    refine wpAny_passesOwn hp (thn (hb _ s6 σ6 H6 _ I6 q6) fun f s7 q7 => ?_)
    have again : ∀ {σ7 : St} {H7 : Hp}, Inv X (pins ++ uq fp s5.heap) σ7 H7 s7 → N σ7 H7 → ∃ m, m < n ∧ ∃ i σ' H', Inv X pins σ' H' s7 ∧ tn i s7.heap ∧ (∀ b ∈ fp, H' b = none) ∧ W i m σ' H' := fun {σ7 H7} I7 n7 => by
      obtain ⟨m', hm, w7⟩ := hN σ7 H7 n7
      refine ⟨m', hm, i + 1, σ7, H7, I7.lL, T.keep _ _ _ st5 fun b hb o e => (I7.pin (b, o) (List.mem_append_right _ (List.mem_append_right _ (gf hb e)))).1, fun b hb => ?_, w7⟩
      obtain ⟨o, e, d⟩ := T.obj _ _ st5 b hb
      exact (I7.pin (b, o) (List.mem_append_right _ (List.mem_append_right _ (gf hb e)))).2.1
    cases f with
    | next => obtain ⟨σ7, H7, I7, n7⟩ := q7; exact again I7 n7
    | cont => obtain ⟨σ7, H7, I7, n7⟩ := q7; exact again I7 n7
    | brk => obtain ⟨σ7, H7, I7, q7⟩ := q7; exact ⟨σ7, H7, I7.lL, q7⟩
    | ret v => obtain ⟨x7, σ7, H7, I7, r7, q7⟩ := q7; exact ⟨x7, σ7, H7, I7.lL, r7, q7⟩
end
end L2
namespace L2
open PySem PySem.Spec PyProof.Rows
abbrev R2 := V → V → Hp → VK → Prop
def OpR (X : Cx) (f : Value → Value → Sem Value) (r : R2) : Prop :=
  ∀ (pins : List (Addr × Obj)) (s : Shared) (σ : St) (H : Hp) (x y : V) (v u : Value) (Q : VK), Inv X pins σ H s → RelV x v → RelV y u → r x y H Q →
    wpAny (model X.prog X.w) X.A (f v u) (EP X pins σ Q) X.xe s
def UnR (X : Cx) (f : Value → Sem Value) (r : V → Hp → VK → Prop) : Prop :=
  ∀ (pins : List (Addr × Obj)) (s : Shared) (σ : St) (H : Hp) (x : V) (v : Value) (Q : VK), Inv X pins σ H s → RelV x v → r x H Q →
    wpAny (model X.prog X.w) X.A (f v) (EP X pins σ Q) X.xe s
def jk (X : Cx) (f : Value) (r : List V → Hp → VK → Prop) : Prop :=
  ∀ (pins : List (Addr × Obj)) (s : Shared) (σ : St) (H : Hp) (xs : List V) (us : List Value) (Q : VK), Inv X pins σ H s → Vals xs us → r xs H Q →
    wpAny (model X.prog X.w) X.A (call f us) (EP X pins σ Q) X.xe s
def tOp (r : R2) (ta tb : TE) : TE := fun σ H Q => ta σ H fun x H1 => tb σ H1 fun y H2 => r x y H2 Q
def tUn (r : V → Hp → VK → Prop) (ta : TE) : TE := fun σ H Q => ta σ H fun x H1 => r x H1 Q
def rI (C : Int → Int → Prop) (g : Int → Int → V) : R2 := fun x y H Q => ∃ i j, x = .int i ∧ y = .int j ∧ C i j ∧ Q (g i j) H
def rI0 (g : Int → Int → V) : R2 := fun x y H Q => ∃ i j, x = .int i ∧ y = .int j ∧ Q (g i j) H
def rU (g : Int → V) : V → Hp → VK → Prop := fun x H Q => ∃ i, x = .int i ∧ Q (g i) H
section
variable {X : Cx} {a b c : Expr} {ta tb tc : TE} {pos : Pos}
theorem LN (ha : PE X a ta) (hb : PE X b tb) {pins : List (Addr × Obj)} {s : Shared} {σ : St} {H : Hp} {R : V → V → Hp → Prop} (I : Inv X pins σ H s)
    (h : ta σ H fun x H1 => tb σ H1 fun y H2 => R x y H2) {Q : Value → Shared → Prop} {f : Value → Value → Sem Value}
    (hf : ∀ v u s2 x y H2, Inv X pins σ H2 s2 → RelV x v → RelV y u → R x y H2 → wpAny (model X.prog X.w) X.A (f v u) Q X.xe s2) :
    wpAny (model X.prog X.w) X.A (eval a X.env) (fun v s₁ => wpAny (model X.prog X.w) X.A (eval b X.env) (fun u s₂ => wpAny (model X.prog X.w) X.A (f v u) Q X.xe s₂) X.xe s₁) X.xe s := by
  refine thn (ha pins s σ H _ I h) fun v s1 ⟨x, H1, I1, r1, q1⟩ => ?_
  refine thn (hb pins s1 σ H1 _ I1 q1) fun u s2 ⟨y, H2, I2, r2, q2⟩ => ?_
  exact hf v u s2 x y H2 I2 r1 r2 q2
theorem N4 {op : Operator} {r : R2} (ho : OpR X (binaryOp op) r) (ha : PE X a ta) (hb : PE X b tb) : PE X (.BinOp a op b pos) (tOp r ta tb) := by
  intro pins s σ H Q I h
  exact wpAny_BinOp (LN ha hb I h fun v u s2 x y H2 I2 rx ry q => ho pins s2 σ H2 x y v u Q I2 rx ry q)
theorem Ou {op : UnaryOp} {r : V → Hp → VK → Prop} (ho : UnR X (unaryOp op) r) (ha : PE X a ta) : PE X (.UnaryOp op a pos) (tUn r ta) := by
  intro pins s σ H Q I h
  exact UnaryOp_ (thn (ha pins s σ H _ I h) fun v s1 ⟨x, H1, I1, r1, q1⟩ => ho pins s1 σ H1 x v Q I1 r1 q1)
theorem opI {f : Value → Value → Sem Value} {C : Int → Int → Prop} {g : Int → Int → Int}
    (rule : ∀ (i j : Int) (t u : Tok) (s : Shared) (Q : Value → Shared → Prop) (E : Value → Shared → Prop), C i j → Q (.int (g i j) s.toks) { s with toks := s.toks + 1 } → wpAny (model X.prog X.w) X.A (f (.int i t) (.int j u)) Q E s) :
    OpR X f (rI C fun i j => .int (g i j)) := by
  intro pins s σ H x y v u Q I rx ry h
  obtain ⟨i, j, rfl, rfl, hc, q⟩ := h
  obtain ⟨t, rfl⟩ := rx
  obtain ⟨t', rfl⟩ := ry
  exact rule i j t t' s _ _ hc ⟨.int (g i j), H, I.tok _, ⟨_, rfl⟩, q⟩
theorem Oi {f : Value → Value → Sem Value} {g : Int → Int → Int}
    (rule : ∀ (i j : Int) (t u : Tok) (s : Shared) (Q : Value → Shared → Prop) (E : Value → Shared → Prop), Q (.int (g i j) s.toks) { s with toks := s.toks + 1 } → wpAny (model X.prog X.w) X.A (f (.int i t) (.int j u)) Q E s) :
    OpR X f (rI0 fun i j => .int (g i j)) := by
  intro pins s σ H x y v u Q I rx ry h
  obtain ⟨i, j, rfl, rfl, q⟩ := h
  obtain ⟨t, rfl⟩ := rx
  obtain ⟨t', rfl⟩ := ry
  exact rule i j t t' s _ _ ⟨.int (g i j), H, I.tok _, ⟨_, rfl⟩, q⟩
theorem J5 {f : Value → Value → Sem Value} {g : Int → Int → Bool}
    (rule : ∀ (i j : Int) (t u : Tok) (s : Shared) (Q : Value → Shared → Prop) (E : Value → Shared → Prop), Q (.bool (g i j)) s → wpAny (model X.prog X.w) X.A (f (.int i t) (.int j u)) Q E s) :
    OpR X f (rI0 fun i j => .bl (g i j)) := by
  intro pins s σ H x y v u Q I rx ry h
  obtain ⟨i, j, rfl, rfl, q⟩ := h
  obtain ⟨t, rfl⟩ := rx
  obtain ⟨t', rfl⟩ := ry
  exact rule i j t t' s _ _ ⟨.bl (g i j), H, I, rfl, q⟩
def Mz (i j : Int) : Prop := 0 ≤ j ∧ j ≤ 1000000 ∧ i.natAbs < 2 ^ 64
def JY (i j : Int) : Prop := (-(2 ^ 64) < i ∧ i < 2 ^ 64) ∨ (-(2 ^ 64) < j ∧ j < 2 ^ 64)
theorem JY.ok {i j : Int} (h : JY i j) : IntMulOk i j := by
  rcases h with ⟨h1, h2⟩ | ⟨h1, h2⟩
  · exact .of_left (intBits_le_64 h1 h2)
  · exact .of_right (intBits_le_64 h1 h2)
theorem Ii : OpR X (binaryOp .Add) (rI0 fun i j => .int (i + j)) := Oi fun _ _ _ _ _ _ _ q => add_int q
theorem Ma : OpR X (binaryOp .Sub) (rI0 fun i j => .int (i - j)) := Oi fun _ _ _ _ _ _ _ q => sub_int q
theorem Ki : OpR X (binaryOp .Mod) (rI (fun _ j => j ≠ 0) fun i j => .int (i.fmod j)) := opI fun _ _ _ _ _ _ _ hc q => mod_int' hc q
theorem MZ : OpR X (binaryOp .Pow) (rI Mz fun i j => .int (i ^ j.toNat)) := opI fun _ _ _ _ _ _ _ hc q => pow_int_small hc.1 hc.2.1 hc.2.2 q
theorem unI {f : Value → Sem Value} {g : Int → Int}
    (rule : ∀ (i : Int) (t : Tok) (s : Shared) (Q : Value → Shared → Prop) (E : Value → Shared → Prop), Q (.int (g i) s.toks) { s with toks := s.toks + 1 } → wpAny (model X.prog X.w) X.A (f (.int i t)) Q E s) :
    UnR X f (rU fun i => .int (g i)) := by
  intro pins s σ H x v Q I rx h
  obtain ⟨i, rfl, q⟩ := h
  obtain ⟨t, rfl⟩ := rx
  exact rule i t s _ _ ⟨.int (g i), H, I.tok _, ⟨_, rfl⟩, q⟩
theorem Lp : UnR X (unaryOp .USub) (rU fun i => .int (-i)) := unI fun _ _ _ _ _ q => neg_int q
end
section
variable {X : Cx} {a b c : Expr} {ta tb tc : TE} {pos : Pos}
theorem nZ : OpR X (compareOp .Lt) (rI0 fun i j => .bl (decide (i < j))) := J5 fun _ _ _ _ _ _ _ q => lt_int q
theorem KI : OpR X (compareOp .LtE) (rI0 fun i j => .bl (decide (i ≤ j))) := J5 fun _ _ _ _ _ _ _ q => le_int q
theorem kG : OpR X (compareOp .Gt) (rI0 fun i j => .bl (decide (j < i))) := J5 fun _ _ _ _ _ _ _ q => gt_int q
theorem yf : OpR X (compareOp .GtE) (rI0 fun i j => .bl (decide (j ≤ i))) := J5 fun _ _ _ _ _ _ _ q => ge_int q
theorem OpR.or {f : Value → Value → Sem Value} {r r' : R2} (h : OpR X f r) (h' : OpR X f r') : OpR X f (fun x y H Q => r x y H Q ∨ r' x y H Q) := by
  intro pins s σ H x y v u Q I rx ry q
  rcases q with q | q
  · exact h pins s σ H x y v u Q I rx ry q
  · exact h' pins s σ H x y v u Q I rx ry q
theorem aN (b : Expr) {op : CmpOp} (h : op ≠ .In := by decide) (h2 : op ≠ .NotIn := by decide) : behindInMarks op b = false := by
  have e1 : (op == CmpOp.In) = false := by cases op <;> first | rfl | exact absurd rfl h
  have e2 : (op == CmpOp.NotIn) = false := by cases op <;> first | rfl | exact absurd rfl h2
  cases b <;> simp [behindInMarks, e1, e2]
theorem JH {op : CmpOp} {r : R2} (ho : OpR X (compareOp op) r) (ha : PE X a ta) (hb : PE X b tb) (hm : behindInMarks op b = false) : PE X (.Compare a [op] [b] pos) (tOp r ta tb) := by
  intro pins s σ H Q I h
  exact wpAny_Compare1 (LN ha hb I h fun v u s2 x y H2 I2 rx ry q => ho pins s2 σ H2 x y v u Q I2 rx ry q) hm
def Kz (t : TE) : TT := fun σ H Q => t σ H fun x H' => ∃ k, x = .bl k ∧ Q k H'
theorem Jl {op : CmpOp} {r : R2} (ho : OpR X (compareOp op) r) (ha : PE X a ta) (hb : PE X b tb) (hm : behindInMarks op b = false) : PT X (.Compare a [op] [b] pos) (Kz (tOp r ta tb)) := by
  intro pins s σ H Q I h
  refine wpAny_isTrue_Compare1 (thn (ha pins s σ H _ I h) fun v s1 ⟨x, H1, I1, r1, q1⟩ => thn (hb pins s1 σ H1 _ I1 q1) fun u s2 ⟨y, H2, I2, r2, q2⟩ =>
    thn (ho pins s2 σ H2 x y v u _ I2 r1 r2 q2) fun c s3 ⟨z, H3, I3, r3, k, e, q3⟩ => ?_) hm
  subst e
  cases r3
  exact wpAny_truthy_bool ⟨H3, I3, q3⟩
theorem vG : (sizeLine : Nat) < 2 ^ 63 := by rw [sizeLine_eq]; decide
theorem vals1 {x : V} {us : List Value} (r : Vals [x] us) : ∃ u, us = [u] ∧ RelV x u := by
  cases r with
  | cons r1 r2 => cases r2; exact ⟨_, rfl, r1⟩
theorem vals2 {x y : V} {us : List Value} (r : Vals [x, y] us) : ∃ u w', us = [u, w'] ∧ RelV x u ∧ RelV y w' := by
  cases r with
  | cons r1 r2 =>
    cases r2 with
    | cons r3 r4 => cases r4; exact ⟨_, _, rfl, r1, r3⟩
theorem Im : jk X (.builtin "abs") (fun xs H Q => ∃ i, xs = [.int i] ∧ Q (.int (if i < 0 then -i else i)) H) := by
  intro pins s σ H xs us Q I r h
  obtain ⟨i, rfl, q⟩ := h
  obtain ⟨u, rfl, t, rfl⟩ := vals1 r
  exact call_abs_int fun u tk => ⟨.int (if i < 0 then -i else i), H, I.tok _, ⟨_, rfl⟩, q⟩
theorem FX (hc : X.calm = true) : jk X (.builtin "max") (fun xs H Q => ∃ i j, xs = [.int i, .int j] ∧ Q (.int (if j > i then j else i)) H) := by
  intro pins s σ H xs us Q I r h
  obtain ⟨i, j, rfl, q⟩ := h
  obtain ⟨u, w', rfl, ⟨t, rfl⟩, ⟨t', rfl⟩⟩ := vals2 r
  refine max_two_ints (I.ok.hd hc) fun h' tk k => ⟨_, H, I.kept k, ?_, q⟩
  by_cases hj : j > i
  · rw [if_pos hj, if_pos hj]; exact ⟨_, rfl⟩
  · rw [if_neg hj, if_neg hj]; exact ⟨_, rfl⟩
theorem Fe (hc : X.calm = true) : jk X (.builtin "min") (fun xs H Q => ∃ i j, xs = [.int i, .int j] ∧ Q (.int (if j < i then j else i)) H) := by
  intro pins s σ H xs us Q I r h
  obtain ⟨i, j, rfl, q⟩ := h
  obtain ⟨u, w', rfl, ⟨t, rfl⟩, ⟨t', rfl⟩⟩ := vals2 r
  refine min_two_ints (I.ok.hd hc) fun h' tk k => ⟨_, H, I.kept k, ?_, q⟩
  by_cases hj : j < i
  · rw [if_pos hj, if_pos hj]; exact ⟨_, rfl⟩
  · rw [if_neg hj, if_neg hj]; exact ⟨_, rfl⟩
theorem FE : jk X (.type "int") (fun xs H Q => (∃ i, xs = [.int i] ∧ Q (.int i) H) ∨ ∃ k, xs = [.bl k] ∧ Q (.int (if k then 1 else 0)) H) := by
  intro pins s σ H xs us Q I r h
  rcases h with ⟨i, rfl, q⟩ | ⟨k, rfl, q⟩
  · obtain ⟨u, rfl, t, rfl⟩ := vals1 r
    exact call_int_int ⟨.int i, H, I, ⟨_, rfl⟩, q⟩
  · obtain ⟨u, rfl, r1⟩ := vals1 r
    cases r1
    exact call_int_bool ⟨.int (if k then 1 else 0), H, I.tok _, ⟨_, rfl⟩, q⟩
end
end L2
namespace L2
open PySem PySem.Spec PyProof.Rows
section
variable {prog : Program} {w : World} {A : Around} {E : Value → Shared → Prop} {s : Shared} {K : PySem.W.Frag} {x dx C f : Addr} {mA : Str → Option Value} {name : Str} {v : Value}
end
section
variable {P : Program} {w : World} {H H' : Hp} {h h' : Heap} {a C dx : Addr} {fs fs' : List (Str × V)}
end
structure Cls (K : PySem.W.Frag) (C : Addr) : Prop where
  pg : PySem.W.plainGet K C Str.empty = true
  hd : PySem.W.hasDictIn K C = true
  po : PySem.W.plainOver K C = true
  sa : PySem.W.findIn K (.ref C) "__setattr__" = some (some (.builtin "object.__setattr__"))
theorem Cls.get {K : PySem.W.Frag} {C : Addr} (c : Cls K C) (f : Str) : PySem.W.plainGet K C f = true := c.pg
section
variable {X : Cx} {pins : List (Addr × Obj)} {σ : St} {H : Hp} {s : Shared} {a C dx : Addr} {fs : List (Str × V)} {f : Str} {v : V} {A : Around} {E : Value → Shared → Prop}
theorem Inv.made (I : Inv X pins σ H s) : Inv X pins σ (upd (upd H s.heap.objs.size (.own (s.heap.objs.size + 1))) (s.heap.objs.size + 1) (.ins C s.heap.objs.size []))
    { s with heap := (s.heap.push PySem.W.emptyDict).push (PySem.W.instObj C s.heap.objs.size) } := by
  have e1 : (s.heap.push PySem.W.emptyDict).get? s.heap.objs.size = some PySem.W.emptyDict := Heap.get?_push_size s.heap rfl
  have e2 : ((s.heap.push PySem.W.emptyDict).push (PySem.W.instObj C s.heap.objs.size)).get? (s.heap.objs.size + 1) = some (PySem.W.instObj C s.heap.objs.size) := by
    have := Heap.get?_push_size (s.heap.push PySem.W.emptyDict) (o := PySem.W.instObj C s.heap.objs.size) rfl
    rwa [Heap.size_push] at this
  have e3 : (s.heap.push PySem.W.emptyDict).Ns s.heap.objs.size (fun _ => none) := ⟨PySem.W.emptyDict, #[], _, e1, rfl, (fun e he => absurd he (by simp)), fun _ => rfl⟩
  have I1 := I.laid (a := s.heap.objs.size) (o := .own (s.heap.objs.size + 1)) (h' := s.heap.push PySem.W.emptyDict) (t' := s.toks) (fun b u q => Heap.get?_push_of_some _ q) (Nat.le_refl _) ⟨_, e1⟩
  refine I1.laid (a := s.heap.objs.size + 1) (o := .ins C s.heap.objs.size []) (t' := s.toks) (fun b u q => Heap.get?_push_of_some _ q) (Nat.le_of_eq (Heap.size_push _ _)) ?_
  have ne : s.heap.objs.size ≠ s.heap.objs.size + 1 := Nat.ne_of_lt (Nat.lt_succ_self _)
  refine ⟨by rw [cJ ne, kq], Nat.zero_le _, ne, e2, fun _ => none, (Heap.Ns1.of_empty e3).at fun o q => Heap.get?_push_of_some _ q, fun _ => True.intro, fun y hy => absurd rfl hy⟩
end
section
variable {X : Cx} {o e value : Expr} {f : Str} {pos pos' tpos : Pos} {ta tv : TE}
end
section
variable {X : Cx} {pins : List (Addr × Obj)} {σ : St} {H : Hp} {s : Shared} {A : Around} {E : Value → Shared → Prop} {Q : Value → Shared → Prop} {c : Value} {b : Bool}
end
end L2
namespace L2
open PySem PySem.Spec PyProof.Rows
structure mJ (k : Nat) (A : Around) : Prop where
  hd : A.handled = none
  dp : A.depth + 3 * k + 5 < recursionLimit
  un : A.units + 16 * k + 200 < cLine
theorem mJ.mono {j k : Nat} {A : Around} (r : mJ k A) (h : j ≤ k) : mJ j A := ⟨r.hd, by have := r.dp; omega, by have := r.un; omega⟩
theorem mJ.deeper {k : Nat} {A : Around} (r : mJ (k + 1) A) (env : Env) : mJ k (A.deeper env) :=
  ⟨r.hd, by have := r.dp; show A.depth + 1 + 3 * k + 5 < _; omega, by have := r.un; show A.units + 3 + 16 * k + 200 < _; omega⟩
theorem mJ.depth {k : Nat} {A : Around} (r : mJ k A) : A.depth < recursionLimit := by have := r.dp; omega
theorem mJ.units {k : Nat} {A : Around} (r : mJ k A) : A.units + 64 < cLine := by have := r.un; omega
def OR : TA := fun _ H Q => Q [] H
def N1 (ta : TE) (tr : TA) : TA := fun σ H Q => ta σ H fun x H1 => tr σ H1 fun xs H2 => Q (x :: xs) H2
section
variable {X : Cx} {e : Expr} {es : List Expr} {te : TE} {t : TA} {pos : Pos}
theorem Am : PA X [] OR := fun _ _ _ _ H Q I h => Calls.spliced_nil ⟨[], H, I, .nil, h⟩
theorem rJ (ha : PE X e te) (hr : PA X es t) (hs : starEach (e :: es) X.env = (false, eval e X.env) :: starEach es X.env := by rfl) : PA X (e :: es) (N1 te t) := by
  intro pos pins s σ H Q I h
  rw [hs]
  show wpAny _ _ (spliced ((false, eval e X.env) :: backTo pos (starEach es X.env))) _ _ s
  refine Calls.spliced_cons (thn (ha pins s σ H _ I h) fun u s1 ⟨x, H1, I1, r1, q1⟩ => ?_)
  exact thn (hr pos pins s1 σ H1 _ I1 q1) fun us s2 ⟨xs, H2, I2, r2, q2⟩ => ⟨x :: xs, H2, I2, .cons r1 r2, q2⟩
def OG (t : TA) : TE := fun σ H Q => t σ H fun xs H1 => xs.length ≤ sizeLine ∧ ∀ p, H1 p = none → Q (.ref p) (upd H1 p (.tup xs))
def O0 (t : TA) : TE := fun σ H Q => t σ H fun xs H1 => xs.length ≤ sizeLine ∧ ∀ p, H1 p = none → Q (.ref p) (upd H1 p (.lst xs))
theorem MF {x1} (h : PA X es t) : PE X (.Tuple es x1 pos) (OG t) := by
  intro pins s σ H Q I hq
  refine wpAny_Tuple_spliced (thn (h pos pins s σ H _ I hq) fun us s1 ⟨xs, H1, I1, r, z, q⟩ => ⟨by rw [← r.length]; exact z, ?_⟩)
  have hf : H1 s1.heap.objs.size = none := I1.hok.fresh (Nat.le_refl _)
  refine ⟨.ref s1.heap.objs.size, upd H1 s1.heap.objs.size (.tup xs), I1.laid (t' := s1.toks) (fun b u e => Heap.get?_push_of_some _ e) (Nat.le_refl _) ?_, rfl, q _ hf⟩
  exact ⟨z, us, r, ⟨_, Heap.get?_push_size _ rfl, rfl, _, rfl⟩⟩
theorem Ml (h : PA X es t) : PE X (.List es pos) (O0 t) := by
  intro pins s σ H Q I hq
  refine wpAny_List_spliced (thn (h pos pins s σ H _ I hq) fun us s1 ⟨xs, H1, I1, r, z, q⟩ => ⟨by rw [← r.length]; exact z, ?_⟩)
  have hf : H1 s1.heap.objs.size = none := I1.hok.fresh (Nat.le_refl _)
  refine ⟨.ref s1.heap.objs.size, upd H1 s1.heap.objs.size (.lst xs), I1.laid (t' := s1.toks) (fun b u e => Heap.get?_push_of_some _ e) (Nat.le_refl _) ?_, rfl, q _ hf⟩
  exact ⟨z, us, 0, r, Heap.get?_push_size _ rfl⟩
end
abbrev Sp := List V → Hp → VK → XK → Prop
abbrev CXT := List Env → Hp → Shared → XK → Value → Shared → Prop
structure JD (P : Program) (w : World) (K : PySem.W.Frag) (mg : Str → Option Value) (base : Heap) (A : Around) (outer : List Env) (s : Shared) (H : Hp) : Prop where
  frames : A.frames = some outer
  mod : Mod K mg base
  bs : ∀ b o, base.get? b = some o → s.heap.get? b = some o ∧ H b = none
  bsz : base.objs.size ≤ s.heap.objs.size
  wa : s.heap.FunFrames base outer
  frf : ∀ b ∈ frs outer, H b = none
  hok : HOk P w H s.heap
  bare : AllBare s.gens
def CE (outer : List Env) (P : Program) (w : World) (H : Hp) (s : Shared) (Q : VK) (u : Value) (s' : Shared) : Prop :=
  ∃ v H', s'.os = s.os ∧ AllBare s'.gens ∧ Un (frs outer) [] H H' s.heap s'.heap ∧ HOk P w H' s'.heap ∧ RelV v u ∧ Q v H'
def CR (CX : CXT) (outer : List Env) (P : Program) (w : World) (H : Hp) (s : Shared) (Q : VK) (E : XK) (r : Result) (s' : Shared) : Prop :=
  match r with
  | .ok (.ret u) => CE outer P w H s Q u s'
  | .ok _ => False
  | .error e => CX outer H s E e s'
structure bU (P : Program) (w : World) (K : PySem.W.Frag) (mg : Str → Option Value) (base : Heap) (CX : CXT) (k : Nat) (f : Addr) (fd : FuncData) (ps : List Str) (sp : Sp) : Prop where
  len : ∀ vs H Q E, sp vs H Q E → vs.length = ps.length
  run : ∀ (A : Around) (outer : List Env) (s : Shared) (H : Hp) (args : Args) (us : List Value) (vs : List V) (Q : VK) (E : XK), mJ k A → JD P w K mg base A outer s H → BindsTo s fd args (ps.zip us) → Vals vs us → sp vs H Q E →
    codeAny (model P w) A (.call (.ref f) args) (CR CX outer P w H s Q E) s
theorem bU.mono {P : Program} {w : World} {K : PySem.W.Frag} {mg : Str → Option Value} {base : Heap} {CX : CXT} {j k : Nat} {f : Addr} {fd : FuncData} {ps : List Str} {sp : Sp} (F : bU P w K mg base CX j f fd ps sp) (h : j ≤ k) :
    bU P w K mg base CX k f fd ps sp := ⟨F.len, fun A outer s H args us vs Q E hr => F.run A outer s H args us vs Q E (hr.mono h)⟩
section
variable {X : Cx} {pins : List (Addr × Obj)} {σ : St} {H : Hp} {s s' : Shared}
theorem Inv.OO (I : Inv X pins σ H s) : JD X.prog X.w X.K X.mg X.base X.A X.stack s H :=
  ⟨I.ok.frames, I.ok.mod, I.bs, Nat.le_trans I.ok.bsz I.sz, I.stack, I.Ae, I.hok, I.bare⟩
theorem Inv.after {Q : VK} {u : Value} (I : Inv X pins σ H s) (h : CE X.stack X.prog X.w H s Q u s') : EP X pins σ Q u s' := by
  obtain ⟨v, H', os, bare, un, hok, r, q⟩ := h
  obtain ⟨hh, g, d, t, os'⟩ := s'
  obtain rfl : os' = s.os := os
  exact ⟨v, H', I.call (h' := hh) (g' := g) (d' := d) (t' := t) (ch := []) un hok bare (fun b z => absurd z (by simp)), r, q⟩
end
def Nv (sp : Sp) (dvs : List V) (E : XK) (t : TA) : TE := fun σ H Q => t σ H fun vs H1 => sp (vs ++ dvs) H1 Q E
def Binds (K : PySem.W.Frag) (fd : FuncData) (ps : List Str) (ds : List Value) : Prop :=
  ∀ (s : Shared) (us : List Value), K.In s.heap → (us ++ ds).length = ps.length → BindsTo s fd ⟨us, []⟩ (ps.zip (us ++ ds))
theorem Binds.all {K : PySem.W.Frag} {fd : FuncData} {ps : List Str} (h : ∀ us : List Value, us.length = ps.length → bindArgs fd ⟨us, []⟩ = pure (ps.zip us)) : Binds K fd ps [] := fun s us _ hl => by
  rw [List.append_nil] at hl ⊢
  exact .of_eq (h us hl)
def Passes (CX : CXT) (X : Cx) (E : XK) : Prop := ∀ (pins : List (Addr × Obj)) (σ : St) (H : Hp) (s : Shared) (e : Value) (s' : Shared), Inv X pins σ H s → CX X.stack H s E e s' → X.xe e s'
section
variable {X : Cx} {CX : CXT} {k : Nat} {f C : Addr} {fd : FuncData} {ps : List Str} {sp : Sp} {dvs : List V} {ds : List Value} {E : XK} {x m : Str} {p pos apos : Pos} {e o : Expr} {es : List Expr} {ta : TE} {t : TA}
theorem Mc {pins : List (Addr × Obj)} {σ : St} {H : Hp} {s : Shared} {Q : VK} {us : List Value} {vs : List V} (F : bU X.prog X.w X.K X.mg X.base CX k f fd ps sp) (hr : mJ k X.A) (hb : Binds X.K fd ps ds) (hd : Vals dvs ds) (hx : Passes CX X E)
    (I : Inv X pins σ H s) (r : Vals vs us) (h : sp (vs ++ dvs) H Q E) : wpAny (model X.prog X.w) X.A (call (.ref f) us) (EP X pins σ Q) X.xe s := by
  have r2 : Vals (vs ++ dvs) (us ++ ds) := r.append hd
  have hl : (us ++ ds).length = ps.length := by rw [← r2.length]; exact F.len _ _ _ _ h
  refine wpAny_call (codeAny_mono (F.run X.A X.stack s H ⟨us, []⟩ (us ++ ds) (vs ++ dvs) Q E hr I.OO (hb s us I.kIn hl) r2 h) fun r s' hq => ?_)
  cases r with
  | error e => exact hx pins σ H s e s' I hq
  | ok fl =>
    cases fl with
    | ret u => exact I.after hq
    | next => exact False.elim hq
    | brk => exact False.elim hq
    | cont => exact False.elim hq
theorem Ka (F : bU X.prog X.w X.K X.mg X.base CX k f fd ps sp) (hr : mJ k X.A) (hg : Gl X x) (hm : X.mg x = some (.ref f)) (hk : PySem.W.keepIn X.K (.ref f) = true) (hb : Binds X.K fd ps ds) (hd : Vals dvs ds) (hx : Passes CX X E)
    (ha : PA X (e :: es) t) (hdb : (x == ("__debug__" : Str)) = false := by decide) (he : starEach (e :: es) X.env = (false, eval e X.env) :: starEach es X.env := by rfl) (hpl : (backTo pos (starEach es X.env)).any (·.1) = false := by rfl) :
    PE X (.Call (.Name x p) (e :: es) [] pos) (Nv sp dvs E t) := by
  intro pins s σ H Q I h
  refine wpAny_Call_Name_kw (Eg I hg hm ?_ hdb)
  refine PySem.W.callWith_K (h₀ := X.base) I.ok.mod.kin hk (thn (ha pos pins s σ H _ I h) fun us s1 ⟨vs, H1, I1, r, q⟩ => ⟨I1.kIn, ?_⟩) he hpl
  exact Mc F hr hb hd hx I1 r q
end
section
variable {X : Cx} {CX : CXT} {k : Nat} {f C : Addr} {fd : FuncData} {ps ks : List Str} {sp : Sp} {E : XK} {x m : Str} {p pos apos kpos : Pos} {e o : Expr} {es : List Expr} {kws : List Keyword} {te ta : TE} {t tk : TA} {nm : Option Str}
variable {g : List Value → List Value → List Value} {gV : List V → List V → List V}
end
structure aG (N P : List Str) (sc : Scope) : Prop where
  kind : sc.kind = .function
  co : sc.isCoroutine = false
  gen : sc.isGenerator = false
  nd : N.Nodup
  pre : N.take P.length = P
  par : ∀ x ∈ P, sc.names.lookup x = some .local ∨ sc.names.lookup x = some .cell
  MW : ∀ y ∈ sc.names, y.2 ≠ .free
theorem yv {kindOf : Str → Option NameKind} {x : Str} : ∀ {binds : List (Str × Value)} {m : Str → Option Value}, (∀ v, (x, v) ∉ binds) → bindL kindOf binds m x = m x
  | [], _, _ => rfl
  | (n, v) :: r, m, h => by
    unfold bindL
    rw [yv fun w hw => h w (List.mem_cons_of_mem _ hw)]
    split
    · have : x ≠ n := by rintro rfl; exact h v List.mem_cons_self
      simp [this]
    · rfl
theorem yg {kindOf : Str → Option NameKind} {x : Str} : ∀ {binds : List (Str × Value)} {m : Str → Option Value}, (∀ v, (x, v) ∉ binds) → bindC kindOf binds m x = m x
  | [], _, _ => rfl
  | (n, v) :: r, m, h => by
    unfold bindC
    rw [yg fun w hw => h w (List.mem_cons_of_mem _ hw)]
    split
    · rfl
    · have : x ≠ n := by rintro rfl; exact h v List.mem_cons_self
      simp [this]
theorem ye {kindOf : Str → Option NameKind} {x : Str} {v : Value} : ∀ {P : List Str} {vs : List Value} {i : Nat} {m : Str → Option Value}, P.Nodup → P[i]? = some x → vs[i]? = some v → kindOf x = some .local →
    bindL kindOf (P.zip vs) m x = some v
  | [], _, _, _, _, h, _, _ => by simp at h
  | _ :: _, [], _, _, _, _, h, _ => by simp at h
  | p :: P, w :: vs, 0, m, nd, h1, h2, hk => by
    simp at h1 h2; subst h1; subst h2
    show bindL kindOf ((p, w) :: P.zip vs) m p = _
    unfold bindL
    rw [yv fun v hv => (List.nodup_cons.mp nd).1 (List.of_mem_zip hv).1, if_pos hk]
    simp
  | p :: P, w :: vs, i + 1, m, nd, h1, h2, hk => by
    show bindL kindOf ((p, w) :: P.zip vs) m x = _
    unfold bindL
    exact ye (i := i) (List.nodup_cons.mp nd).2 (by simpa using h1) (by simpa using h2) hk
theorem yt {kindOf : Str → Option NameKind} {x : Str} {v : Value} : ∀ {P : List Str} {vs : List Value} {i : Nat} {m : Str → Option Value}, P.Nodup → P[i]? = some x → vs[i]? = some v → kindOf x ≠ some .local →
    bindC kindOf (P.zip vs) m x = some v
  | [], _, _, _, _, h, _, _ => by simp at h
  | _ :: _, [], _, _, _, _, h, _ => by simp at h
  | p :: P, w :: vs, 0, m, nd, h1, h2, hk => by
    simp at h1 h2; subst h1; subst h2
    show bindC kindOf ((p, w) :: P.zip vs) m p = _
    unfold bindC
    rw [yg fun v hv => (List.nodup_cons.mp nd).1 (List.of_mem_zip hv).1, if_neg hk]
    simp
  | p :: P, w :: vs, i + 1, m, nd, h1, h2, hk => by
    show bindC kindOf ((p, w) :: P.zip vs) m x = _
    unfold bindC
    exact yt (i := i) (List.nodup_cons.mp nd).2 (by simpa using h1) (by simpa using h2) hk
def start (N : List Str) (vs : List V) : St := vs.map some ++ List.replicate (N.length - vs.length) none
def Dt (CX : CXT) (P : Program) (w : World) (K : PySem.W.Frag) (mg : Str → Option Value) (base : Heap) (N : List Str) (qual : Str) (scope : Scope) (f : Addr) (cd : Value) (A : Around) (outer : List Env) (s : Shared) (H : Hp) (E : XK) : Cx where
  prog := P
  w := w
  K := K
  mg := mg
  base := base
  A := A.deeper (envOfC qual scope s.heap.objs.size f cd)
  N := N
  s₀ := s
  H₀ := H
  env := envOfC qual scope s.heap.objs.size f cd
  outer := outer
  stack := envOfC qual scope s.heap.objs.size f cd :: outer
  ex := []
  calm := true
  fn := fun _ => true
  pn := []
  xe := fun e s' => wpAny (model P w) (A.deeper (envOfC qual scope s.heap.objs.size f cd)) (leaving (envOfC qual scope s.heap.objs.size f cd) e) (fun _ s'' => CX outer H s E e s'') (fun e' s'' => CX outer H s E e' s'') s'
theorem AA {sc : Scope} {n : Nat} {x : Str} (h : sc.names.lookup x = some .cell) : ∃ c, (cellsFrom n sc.names []).lookup x = some c := by
  have q := PySem.W.cellsFrom_some sc.names n [] (.inl h)
  exact Option.isSome_iff_exists.mp q
theorem FW {CX : CXT} {P : Program} {w : World} {K : PySem.W.Frag} {mg : Str → Option Value} {base : Heap} {N ps : List Str} {qual : Str} {scope : Scope} {f : Addr} {cd : Value} {A : Around} {outer : List Env} {s s1 : Shared} {H : Hp} {E : XK} {us : List Value} {vs : List V}
    (S : aG N ps scope) (hd : A.handled = none) (e0 : JD P w K mg base A outer s H) (hl : vs.length = ps.length) (r : Vals vs us)
    (x : InCallC s s.heap.objs.size (bindL (envOfC qual scope s.heap.objs.size f cd).kindOf (ps.zip us) fun _ => none) (cellsFrom (s.heap.objs.size + 1) scope.names []) (bindC (envOfC qual scope s.heap.objs.size f cd).kindOf (ps.zip us) fun _ => none) s1) :
    Inv (Dt CX P w K mg base N qual scope f cd A outer s H E) [] (start N vs) H s1 := by
  have hpl : ps.length ≤ N.length := by have := congrArg List.length S.pre; rw [List.length_take] at this; omega
  obtain ⟨h1, tk, rfl, hk⟩ := x.done
  have noA : ∀ b : Addr, b ∉ (Dt CX P w K mg base N qual scope f cd A outer s H E).ex := fun b z => absurd (show b ∈ ([] : List Addr) from z) (by simp)
  refine ⟨⟨e0.mod, S.kind, rfl, rfl, Nat.le_refl _, fun y z c h1 h2 => ?_, fun y hy => ?_, fun y c _ h => ?_, fun _ => hd, .inl hd, Around.frames_deeper e0.frames, .inr ⟨rfl, rfl⟩, fun b z => absurd z (noA b), e0.bs, e0.bsz, fun b _ _ => noA b, fun b z => absurd z (noA b), e0.wa, e0.frf⟩,
    rfl, e0.bare, Un.kept hk, ⟨_, x.toInCall.ns, fun i y v h1 h2 h3 => ?_⟩, fun y c h => ⟨_, x.cell y c h⟩, e0.hok.fresh (Nat.le_refl _), fun y c h => ?_, fun p hp => absurd (show p ∈ ([] : List (Addr × Obj)) from hp) (by simp), e0.hok.kept hk, ?_⟩
  · exact name_of_addr x.apart (PySem.mem_of_lookup h1) (PySem.mem_of_lookup h2)
  · have hy : scope.names.lookup y = some .cell ∨ scope.names.lookup y = some .free := hy
    rcases hy with hy | hy
    · exact AA hy
    · exact absurd rfl (S.MW _ (PySem.mem_of_lookup hy))
  · exact Nat.le_of_lt (x.above y c (PySem.mem_of_lookup h))
  · have hi : i < vs.length := by
      unfold start at h2
      by_cases hi : i < vs.length
      · exact hi
      · rw [List.getElem?_append_right (by simpa using hi)] at h2
        rw [List.getElem?_replicate] at h2
        split at h2 <;> cases h2
    have ha : vs[i]? = some v := by
      unfold start at h2
      rw [List.getElem?_append_left (by simpa using hi), List.getElem?_map] at h2
      cases e : vs[i]? with
      | none => rw [e] at h2; cases h2
      | some a => rw [e] at h2; cases h2; rfl
    obtain ⟨u, hu, rv⟩ := r.get ha
    have hp : ps[i]? = some y := by
      rw [← S.pre, List.getElem?_take_of_lt (by omega)]; exact h1
    have ndP : ps.Nodup := by rw [← S.pre]; exact S.nd.sublist (List.take_sublist _ _)
    refine ⟨u, rv, ?_⟩
    rcases S.par y (List.mem_of_getElem? hp) with k | k
    · exact .inl ⟨k, ye ndP hp hu k⟩
    · obtain ⟨c, e⟩ := AA (n := s.heap.objs.size + 1) k
      refine .inr ⟨.inl k, c, e, ?_⟩
      have q := x.cell y c e
      rw [yt ndP hp hu (by show scope.names.lookup y ≠ _; rw [k]; decide)] at q
      exact q
  · exact e0.hok.fresh (Nat.le_of_lt (x.above y c (PySem.mem_of_lookup h)))
  · unfold start
    show _ = N.length
    rw [List.length_append, List.length_map, List.length_replicate]
    omega
theorem NW {CX : CXT} {P : Program} {w : World} {K : PySem.W.Frag} {mg : Str → Option Value} {base : Heap} {k : Nat} {f : Addr} {name qual : Str} {params : Arguments} {body : List Stmt} {scope : Scope} {dV kV doc pm cdv ct oc : Value} {an od : Option Addr}
    {osl : Array (Option Value)} {N ps : List Str} {sp : Sp} (lk : K.lookup f = some ⟨oc, od, .func (PySem.W.fnOf name qual params body scope dV kV doc pm an cdv ct), osl⟩) (hcd : PySem.W.codeIn K cdv qual = true) (S : aG N ps scope)
    (len : ∀ vs H Q E, sp vs H Q E → vs.length = ps.length)
    (hbody : ∀ (A : Around) (outer : List Env) (s : Shared) (H : Hp) (vs : List V) (Q : VK) (E : XK), mJ k (A.deeper (envOfC qual scope s.heap.objs.size f cdv)) → sp vs H Q E →
      ∃ t, PSs (Dt CX P w K mg base N qual scope f cdv A outer s H E) body t ∧ t { nx := fun _ H' => Q .non H', rt := Q } (start N vs) H) :
    bU P w K mg base CX (k + 1) f (PySem.W.fnOf name qual params body scope dV kV doc pm an cdv ct) ps sp := by
  refine ⟨len, fun A outer s H args us vs Q E hr e0 hb r hsp => ?_⟩
  have hl := len _ _ _ _ hsp
  have KX : K.In s.heap := e0.mod.kin.keeps fun b o e => (e0.bs b o e).1
  have lim : s.heap.NoLimit := e0.mod.nolimit.keeps fun b o e => (e0.bs b o e).1
  have hkind : ∀ y ∈ ps.zip us, scope.names.lookup y.1 = some .local ∨ (scope.names.lookup y.1 = some .cell ∧ ((cellsFrom (s.heap.objs.size + 1) scope.names []).lookup y.1).isSome = true) := fun ⟨n, v⟩ hy => by
    rcases S.par n (List.of_mem_zip hy).1 with q | q
    · exact .inl q
    · exact .inr ⟨q, PySem.W.cellsFrom_some _ _ _ (.inl q)⟩
  refine codeAny_call_function hr.depth (KX _ _ lk) rfl S.co S.gen rfl (PySem.W.codeRec_of KX hcd) (hb _ _ _ _ ?_)
  refine wpAny_newFunctionEnv_cells S.kind hkind fun env he s1 x => ?_
  subst he
  refine ⟨lim.keeps x.toInCall.keep, codeAny_func ?_⟩
  obtain ⟨t, ht, hq⟩ := hbody A outer s H vs Q E (hr.deeper _) hsp
  have I : Inv (Dt CX P w K mg base N qual scope f cdv A outer s H E) [] (start N vs) H s1 := FW S hr.hd e0 hl r x
  refine wpAny_mono (ht [] s1 (start N vs) H _ I hq) (fun fl s' hs => ?_) fun e s' hs => hs
  have fin : ∀ {σ' : St} {H' : Hp} {v : V} {u : Value}, Inv (Dt CX P w K mg base N qual scope f cdv A outer s H E) [] σ' H' s' → RelV v u → Q v H' → CE outer P w H s Q u s' :=
    fun {σ' H' v u} J rv q => ⟨v, H', J.os, J.bare, J.base, J.hok, rv, q⟩
  cases fl with
  | ret u =>
    obtain ⟨v, σ', H', J, rv, q⟩ := hs
    exact fin J rv q
  | next =>
    obtain ⟨σ', H', J, q⟩ := hs
    exact fin (v := V.non) (u := Value.none) J rfl q
  | brk =>
    obtain ⟨_, _, _, q⟩ := hs
    exact False.elim q
  | cont =>
    obtain ⟨_, _, _, q⟩ := hs
    exact False.elim q
end L2
namespace L2
open PySem PySem.Spec PyProof.Rows
section
variable {X : Cx} {x : Str} {p pos : Pos} {e : Expr} {es : List Expr} {t : TA} {id T : String} {r : List V → Hp → VK → Prop}
def tCB (r : List V → Hp → VK → Prop) (t : TA) : TE := fun σ H Q => t σ H fun vs H1 => r vs H1 Q
theorem Bn (hc : jk X (.builtin id) r) (hg : Gl X x) (hm : X.mg x = none) (hv : bootBuiltins x = some (.builtin id)) (ha : PA X (e :: es) t) (hn : x ≠ "__name__" := by decide) (hdb : (x == ("__debug__" : Str)) = false := by decide)
    (he : starEach (e :: es) X.env = (false, eval e X.env) :: starEach es X.env := by rfl) (hpl : (backTo pos (starEach es X.env)).any (·.1) = false := by rfl) : PE X (.Call (.Name x p) (e :: es) [] pos) (tCB r t) := by
  intro pins s σ H Q I h
  refine wpAny_Call_Name_kw (w5 I hg hm hv ?_ hn hdb)
  exact PyProof.Rows.callWith_builtin1 (thn (ha pos pins s σ H _ I h) fun us s1 ⟨vs, H1, I1, r1, q1⟩ => hc pins s1 σ H1 vs us Q I1 r1 q1) he hpl
theorem Gh (hc : jk X (.type T) r) (hg : Gl X x) (hm : X.mg x = none) (hv : bootBuiltins x = some (.type T)) (ha : PA X (e :: es) t) (hn : x ≠ "__name__" := by decide) (hdb : (x == ("__debug__" : Str)) = false := by decide)
    (he : starEach (e :: es) X.env = (false, eval e X.env) :: starEach es X.env := by rfl) (hpl : (backTo pos (starEach es X.env)).any (·.1) = false := by rfl) : PE X (.Call (.Name x p) (e :: es) [] pos) (tCB r t) := by
  intro pins s σ H Q I h
  refine wpAny_Call_Name_kw (w5 I hg hm hv ?_ hn hdb)
  exact PyProof.Rows.callWith_type1 (thn (ha pos pins s σ H _ I h) fun us s1 ⟨vs, H1, I1, r1, q1⟩ => hc pins s1 σ H1 vs us Q I1 r1 q1) he hpl
end
end L2
namespace HT
open PySem PyProof.Rows
section
open PySem.SeqAt
open PySem.AutoSeq1 (wpAny_loadPart')
open PySem.MeetsSeq PySem.MeetsSeq2 PySem.MeetsSeq3
end
section
variable {prog : Program} {w : World} {A : Around} {E : Value → Shared → Prop} {s : Shared}
theorem J6 {t b : Addr} {vs ws : List Value} {Q : Value → Shared → Prop} (ht : IsTup s.heap t vs.toArray) (hb : IsTup s.heap b ws.toArray) (hv : vs ≠ [])
    (h1 : ws = [] → Q (.ref t) s) (h2 : ws ≠ [] → Q (.ref s.heap.objs.size) { s with heap := s.heap.push { cls := .type "tuple", data := .seq (vs ++ ws).toArray } })
    (hsz : vs.length + ws.length ≤ sizeLine) : wpAny (model prog w) A (binaryOp .Add (.ref t) (.ref b)) Q E s := by
  obtain ⟨⟨cls, dd, data, sl⟩, ho, hc, n, hd⟩ := id ht
  obtain ⟨⟨cls2, dd2, data2, sl2⟩, ho2, hc2, n2, hd2⟩ := id hb
  simp only at hc hd hc2 hd2
  subst hc hd hc2 hd2
  have e : vs.toArray ++ ws.toArray = (vs ++ ws).toArray := by simp
  by_cases hw : ws = []
  · exact concat_meets ⟨_, ho, rfl⟩ ⟨_, ho2, rfl⟩ noFill_tuple_add seq_tuple_add PySem.F.slot_tuple_add PySem.F.entry_tuple_add (PySem.F.args_tuple_add_2 _ _)
      (tuple_addW1 t b vs.toArray ws.toArray n n2 dd dd2 sl sl2 (by simpa using hv) (by simp [hw])) ⟨ho, ho2, h1 hw⟩
  · refine concat_meets ⟨_, ho, rfl⟩ ⟨_, ho2, rfl⟩ noFill_tuple_add seq_tuple_add PySem.F.slot_tuple_add PySem.F.entry_tuple_add (PySem.F.args_tuple_add_2 _ _)
      (tuple_addW2 t b vs.toArray ws.toArray n n2 dd dd2 sl sl2 (by simpa using hv) (by simpa using hw) (by rw [List.size_toArray, List.size_toArray]; exact hsz)) ⟨ho, ho2, ?_⟩
    rw [e]
    exact h2 hw
def sIx (n d : Nat) : Option Int → Nat
  | none => d
  | some v => if v < 0 then (v + (n : Int)).toNat else min v.toNat n
theorem Mh (n d : Nat) (hd : d ≤ n) (o : Option Int) : sIx n d o ≤ n := by
  cases o with
  | none => exact hd
  | some v =>
    show (if v < 0 then (v + (n : Int)).toNat else min v.toNat n) ≤ n
    by_cases hv : v < 0
    · rw [if_pos hv]; omega
    · rw [if_neg hv]; exact Nat.min_le_right _ _
theorem EE (v : Int) (n d : Nat) : (if v < 0 then max (v + (n : Int)) 0 else min v (n : Int)) = ((sIx n d (some v) : Nat) : Int) := by
  show (if v < 0 then max (v + (n : Int)) 0 else min v (n : Int)) = (((if v < 0 then (v + (n : Int)).toNat else min v.toNat n) : Nat) : Int)
  by_cases hv : v < 0
  · simp only [if_pos hv]; omega
  · simp only [if_neg hv]; omega
theorem CK (lo hi : Option Int) (n : Nat) : Builtin.Slice.sliceAdjust lo hi 1 (n : Int) = (((sIx n 0 lo : Nat) : Int), ((sIx n n hi : Nat) : Int)) := by
  have h1 : ¬ ((1 : Int) < 0) := by omega
  unfold Builtin.Slice.sliceAdjust
  simp only [h1, if_false]
  refine Prod.ext ?_ ?_
  · cases lo with
    | none => rfl
    | some v => exact EE v n 0
  · cases hi with
    | none => rfl
    | some v => exact EE v n n
theorem Dj (i j : Nat) : Builtin.Slice.slicePlaces (i : Int) (j : Int) 1 = j - i := by
  unfold Builtin.Slice.slicePlaces
  have h1 : (1 : Int) > 0 := by omega
  simp only [h1, if_true, Int.ediv_one]
  split <;> omega
theorem wk {v : Value} {o : Option Int} {Q : Option Int → Shared → Prop} (p : IsPart v o) (h : Q o s) : wpAny (model prog w) A (Builtin.Slice.slicePartIndex v) Q E s := by
  cases p with
  | none => exact slicePart_none h
  | int i t => exact slicePart_int h
theorem lY {sl : Addr} {vl vu : Value} {lo hi : Option Int} {n : Nat} {Q : Int × Int × Nat → Shared → Prop} (hs : s.heap.IsSliceOf sl vl vu .none) (pl : IsPart vl lo) (pu : IsPart vu hi)
    (h : Q (((sIx n 0 lo : Nat) : Int), 1, sIx n n hi - sIx n 0 lo) s) : wpAny (model prog w) A (Builtin.Slice.sliceApplied (.ref sl) (pure (n : Int))) Q E s := by
  obtain ⟨os, hos, hcs, hds⟩ := id hs
  unfold Builtin.Slice.sliceApplied Builtin.Slice.sliceFields
  refine wpAny_bind (wpAny_bind (wpAny_field hos hds (x := vl) rfl (wpAny_bind (wpAny_field hos hds (x := vu) rfl (wpAny_bind (wpAny_field hos hds (x := .none) rfl (wpAny_pure ?_)))))))
  refine wpAny_bind (slicePart_none ?_)
  show wpAny _ _ (if ((1 : Int) == 0) = true then _ else _) _ _ s
  rw [if_neg (by decide)]
  refine wpAny_bind (wk pl (wpAny_bind (wk pu (wpAny_bind (wpAny_pure ?_)))))
  show wpAny _ _ (match Builtin.Slice.sliceAdjust lo hi 1 (n : Int) with | (lo, hi) => pure (lo, (1 : Int), Builtin.Slice.slicePlaces lo hi 1)) _ _ s
  rw [CK lo hi n]
  show wpAny _ _ (pure (((sIx n 0 lo : Nat) : Int), (1 : Int), Builtin.Slice.slicePlaces ((sIx n 0 lo : Nat) : Int) ((sIx n n hi : Nat) : Int) 1)) _ _ s
  rw [Dj]
  exact wpAny_pure h
theorem Hv (xs : Array Value) (i k : Nat) : ((List.range k).filterMap fun (m : Nat) => xs[((i : Int) + (m : Int) * 1).toNat]?).toArray = ((xs.toList.drop i).take k).toArray := by
  have e : (fun (m : Nat) => xs[((i : Int) + (m : Int) * 1).toNat]?) = fun m => xs[i + m]? := by
    funext m
    have : ((i : Int) + (m : Int) * 1).toNat = i + m := by omega
    rw [this]
  rw [e]
  have := pick_run xs i k
  rw [List.filterMap_map] at this
  have e2 : ((fun x => xs[x]?) ∘ fun x => i + x) = fun m => xs[i + m]? := rfl
  rw [e2] at this
  rw [this]
theorem q9 {t sl : Addr} {items : Array Value} {vl vu : Value} {lo hi : Option Int} {Q : Value → Shared → Prop} (ht : IsTup s.heap t items) (hs : s.heap.IsSliceOf sl vl vu .none) (pl : IsPart vl lo) (pu : IsPart vu hi)
    (hw : ¬ (sIx items.size 0 lo = 0 ∧ sIx items.size items.size hi = items.size))
    (h : Q (.ref s.heap.objs.size) { s with heap := s.heap.push { cls := .type "tuple", data := .seq ((items.toList.drop (sIx items.size 0 lo)).take (sIx items.size items.size hi - sIx items.size 0 lo)).toArray } })
    (hsz : items.size ≤ sizeLine) : wpAny (model prog w) A (getItem (.ref t) (.ref sl)) Q E s := by
  have htake : sizeOk (.seq ((items.toList.drop (sIx items.size 0 lo)).take (sIx items.size items.size hi - sIx items.size 0 lo)).toArray) := by
    show ((items.toList.drop (sIx items.size 0 lo)).take (sIx items.size items.size hi - sIx items.size 0 lo)).toArray.size ≤ sizeLine
    rw [List.size_toArray, List.length_take, List.length_drop, Array.length_toList]
    omega
  have hj : sIx items.size items.size hi ≤ items.size := Mh _ _ (Nat.le_refl _) hi
  obtain ⟨os, hos, hcs, hds⟩ := id hs
  have hTs : s.TypeIs (.ref sl) "slice" := ⟨os, hos, hcs⟩
  unfold getItem
  try with_reducible refine wpAny_holding ?_
  first | refine wpAny_bind (wpAny_pure ?_) | skip
  refine wpAny_bind (wpAny_sequenceKey ht.typeIs (by decide) ?_)
  refine wpAny_bind (wpAny_callSpecial?_slot (name := Str.ofString "__getitem__") ht.typeIs PyProof.Rows.slot_tuple_getitem
    (wpAny_call_entry PyProof.Rows.slot_tuple_getitem ht.typeIs entry_tuple_getitem ?_ (args_tuple_getitem _ _)))
  show wpAny _ _ (Builtin.Tuple.tupleItemsOf (.ref t) >>= _) _ _ s
  refine wpAny_bind (tupleItemsOf_ ht ?_)
  refine wpAny_bind (wpAny_typeOf hTs ?_)
  rw [if_pos (by decide)]
  refine wpAny_bind (lY hs pl pu ?_)
  have hno : ¬ ((((sIx items.size 0 lo : Nat) : Int) == 0 && (1 : Int) == 1 && (sIx items.size items.size hi - sIx items.size 0 lo) == items.size) = true) := by
    intro q
    rw [Bool.and_eq_true, Bool.and_eq_true] at q
    have q1 : ((sIx items.size 0 lo : Nat) : Int) = 0 := eq_of_beq q.1.1
    have q2 : sIx items.size items.size hi - sIx items.size 0 lo = items.size := eq_of_beq q.2
    exact hw ⟨by omega, by omega⟩
  show wpAny _ _ (if (((sIx items.size 0 lo : Nat) : Int) == 0 && (1 : Int) == 1 && (sIx items.size items.size hi - sIx items.size 0 lo) == items.size) = true then _ else _) _ _ s
  rw [if_neg hno, Hv]
  first
    | exact wpAny_bind (m := Builtin.Tuple.tupleExact _) (wpAny_newObj_type (wpAny_pure ⟨_, rfl, wpAny_pure h⟩) htake)
    | exact wpAny_bind (m := Builtin.Tuple.tupleExact _) (wpAny_newObj_type (wpAny_bind (wpAny_pure (wpAny_pure ⟨_, rfl, wpAny_pure h⟩))) htake)
    | exact wpAny_bind (wpAny_bind (m := Builtin.Tuple.tupleExact _) (wpAny_newObj_type (wpAny_pure (wpAny_pure ⟨_, rfl, wpAny_pure h⟩)) htake))
    | exact wpAny_bind (wpAny_bind (m := Builtin.Tuple.tupleExact _) (wpAny_newObj_type (wpAny_pure ⟨_, rfl, wpAny_pure h⟩) htake))
end
end HT
namespace L2
open PySem PySem.Spec PyProof.Rows
abbrev TO := St → Hp → (Option Int → Hp → Prop) → Prop
def PO (X : Cx) (e : Option Expr) (t : TO) : Prop :=
  ∀ (pins : List (Addr × Obj)) (s : Shared) (σ : St) (H : Hp) (Q : Option Int → Hp → Prop), Inv X pins σ H s → t σ H Q →
    wpAny (model X.prog X.w) X.A (evalPart e X.env) (fun u s' => ∃ o H', Inv X pins σ H' s' ∧ IsPart u o ∧ Q o H') X.xe s
def JQ : TO := fun _ H Q => Q none H
def Ng (t : TE) : TO := fun σ H Q => t σ H fun x H1 => ∃ i, x = .int i ∧ Q (some i) H1
section
variable {X : Cx} {e : Expr} {te : TE} {lo hi : Option Expr} {tl th : TO} {pos p2 : Pos}
theorem JT : PO X none JQ := by
  intro pins s σ H Q I h
  rw [evalPart_none]
  exact wpAny_pure ⟨none, H, I, .none, h⟩
theorem Kb (h : PE X e te) : PO X (some e) (Ng te) := by
  intro pins s σ H Q I hw
  rw [evalPart_some]
  refine thn (h pins s σ H _ I hw) fun u s1 ⟨x, H1, I1, r1, q1⟩ => ?_
  obtain ⟨i, rfl, q⟩ := q1
  obtain ⟨t, rfl⟩ := r1
  exact ⟨some i, H1, I1, .int i t, q⟩
def SlR (X : Cx) (r : V → Option Int → Option Int → Hp → VK → Prop) : Prop :=
  ∀ (pins : List (Addr × Obj)) (s : Shared) (σ : St) (H : Hp) (x : V) (v vl vu : Value) (lo hi : Option Int) (sl : Addr) (Q : VK), Inv X pins σ H s → RelV x v → s.heap.IsSliceOf sl vl vu .none → IsPart vl lo → IsPart vu hi → r x lo hi H Q →
    ∃ T id, typeLookup (.type T) "__getitem__" = pure (some (.builtin id)) ∧ s.TypeIs v T ∧ wpAny (model X.prog X.w) X.A (getItem v (.ref sl)) (EP X pins σ Q) X.xe s
theorem SlR.or {r r' : V → Option Int → Option Int → Hp → VK → Prop} (h : SlR X r) (h' : SlR X r') : SlR X (fun x lo hi H Q => r x lo hi H Q ∨ r' x lo hi H Q) := by
  intro pins s σ H x v vl vu lo hi sl Q I rx hs pl pu q
  rcases q with q | q
  · exact h pins s σ H x v vl vu lo hi sl Q I rx hs pl pu q
  · exact h' pins s σ H x v vl vu lo hi sl Q I rx hs pl pu q
def tSl (r : V → Option Int → Option Int → Hp → VK → Prop) (te : TE) (tl th : TO) : TE := fun σ H Q => te σ H fun x H1 => tl σ H1 fun l H2 => th σ H2 fun u H3 => r x l u H3 Q
theorem Gq {r : V → Option Int → Option Int → Hp → VK → Prop} (hr : SlR X r) (he : PE X e te) (hl : PO X lo tl) (hu : PO X hi th) : PE X (.Subscript e (.Slice lo hi none p2) pos) (tSl r te tl th) := by
  intro pins s σ H Q I h
  refine Subscript_ (thn (he pins s σ H _ I h) fun v s1 ⟨x, H1, I1, r1, q1⟩ => ?_)
  refine wpAny_Slice (thn (hl pins s1 σ H1 _ I1 q1) fun vl s2 ⟨l, H2, I2, pl, q2⟩ => thn (hu pins s2 σ H2 _ I2 q2) fun vu s3 ⟨u, H3, I3, pu, q3⟩ => ?_)
  rw [evalPart_none]
  refine wpAny_pure ?_
  have I4 : Inv X pins σ H3 { s3 with heap := s3.heap.push { cls := .type "slice", data := .fields #[vl, vu, .none] } } := I3.kept (t' := s3.toks) fun b ob q => Heap.get?_push_of_some _ q
  obtain ⟨T, id, hT, ht, hg⟩ := hr pins { s3 with heap := s3.heap.push { cls := .type "slice", data := .fields #[vl, vu, .none] } } σ H3 x v vl vu l u s3.heap.objs.size Q I4 r1 (Heap.IsSliceOf.new ..) pl pu q3
  show wpAny (model X.prog X.w) X.A (subscriptTail e (.Slice lo hi none p2) v (.ref s3.heap.objs.size)) (EP X pins σ Q) X.xe { s3 with heap := s3.heap.push { cls := .type "slice", data := .fields #[vl, vu, .none] } }
  exact tail_any (ops := [.ref s3.heap.objs.size, v]) ht hT hg (by with_unfolding_all rfl)
def yU (xs : List V) (lo hi : Option Int) : List V := (xs.drop (HT.sIx xs.length 0 lo)).take (HT.sIx xs.length xs.length hi - HT.sIx xs.length 0 lo)
theorem uA (xs : List V) (lo hi : Option Int) : (yU xs lo hi).length ≤ xs.length := by
  unfold yU
  rw [List.length_take, List.length_drop]
  omega
def O4 (K : PySem.W.Frag) : V → Option Int → Option Int → Hp → VK → Prop := fun x lo hi H Q => ∃ a xs, x = .ref a ∧ SqT K H a xs ∧
  ¬ (HT.sIx xs.length 0 lo = 0 ∧ HT.sIx xs.length xs.length hi = xs.length) ∧ ∀ p, H p = none → Q (.ref p) (upd H p (.tup (yU xs lo hi)))
theorem MM : SlR X (O4 X.K) := by
  intro pins s σ H x v vl vu lo hi sl Q I rx hs pl pu h
  obtain ⟨a, xs, rfl, hx, hw, q⟩ := h
  cases rx
  obtain ⟨its, r, ht, hz⟩ := I.tuple hx
  have hlen : its.toArray.size = xs.length := by rw [List.size_toArray]; exact r.length.symm
  refine ⟨"tuple", _, PyProof.Rows.slot_tuple_getitem.lookup, ht.typeIs, ?_⟩
  refine HT.q9 ht hs pl pu (by rw [hlen]; exact hw) ?_ (by rw [hlen]; exact hz)
  rw [hlen]
  refine ⟨.ref s.heap.objs.size, _, I.laid (t' := s.toks) (o := .tup (yU xs lo hi)) (fun b ob q => Heap.get?_push_of_some _ q) (Nat.le_refl _) ?_, rfl, q _ (I.hok.fresh (Nat.le_refl _))⟩
  exact ⟨Nat.le_trans (uA xs lo hi) hz, _, (r.drop (HT.sIx xs.length 0 lo)).take (HT.sIx xs.length xs.length hi - HT.sIx xs.length 0 lo), IsTup.new _ _⟩
def N2 (K : PySem.W.Frag) : R2 := fun x y H Q => ∃ a b xs ys, x = .ref a ∧ y = .ref b ∧ SqT K H a xs ∧ SqT K H b ys ∧ xs ≠ [] ∧ xs.length + ys.length ≤ sizeLine ∧
  (ys = [] → Q (.ref a) H) ∧ (ys ≠ [] → ∀ p, H p = none → Q (.ref p) (upd H p (.tup (xs ++ ys))))
theorem Vals.zp {xs : List V} {us : List Value} (r : Vals xs us) : us = [] ↔ xs = [] := by
  cases r with
  | nil => simp
  | cons _ _ => simp
theorem Jw : OpR X (binaryOp .Add) (N2 X.K) := by
  intro pins s σ H x y v u Q I rx ry h
  obtain ⟨a, b, xs, ys, rfl, rfl, ha, hb, hx, hz, q1, q2⟩ := h
  cases rx
  cases ry
  obtain ⟨its, r1, p1, _⟩ := I.tuple ha
  obtain ⟨its2, r2, p2, _⟩ := I.tuple hb
  refine HT.J6 p1 p2 (fun z => hx (r1.zp.mp z)) (fun z => ⟨.ref a, H, I, rfl, q1 (r2.zp.mp z)⟩) (fun z => ?_) (by rw [← r1.length, ← r2.length]; exact hz)
  refine ⟨.ref s.heap.objs.size, _, I.laid (t' := s.toks) (o := .tup (xs ++ ys)) (fun b ob q => Heap.get?_push_of_some _ q) (Nat.le_refl _) ?_, rfl, q2 (fun w => z (r2.zp.mpr w)) _ (I.hok.fresh (Nat.le_refl _))⟩
  exact ⟨by rw [List.length_append]; exact hz, _, r1.append r2, IsTup.new _ _⟩
end
end L2
namespace L2
open PySem PySem.Spec PyProof.Rows
def ixN (n : Nat) (i : Int) : Option Nat := if 0 ≤ i then (if i < n then some i.toNat else none) else if -(n : Int) ≤ i then some (i + n).toNat else none
def atI {α : Type} (xs : List α) (i : Int) : Option α := (ixN xs.length i).bind fun j => xs[j]?
theorem EV {n : Nat} {i : Int} {j : Nat} (h : ixN n i = some j) : seqIndex? i n = some j ∧ j < n ∧ -(n : Int) ≤ i ∧ i < n := by
  unfold ixN at h
  by_cases h0 : 0 ≤ i
  · rw [if_pos h0] at h
    by_cases h1 : i < n
    · rw [if_pos h1] at h
      have e : i.toNat = j := Option.some.inj h
      exact ⟨by rw [seqIndex_of h0 h1, e], by omega, by omega, h1⟩
    · rw [if_neg h1] at h; cases h
  · rw [if_neg h0] at h
    by_cases h1 : -(n : Int) ≤ i
    · rw [if_pos h1] at h
      have e : (i + n).toNat = j := Option.some.inj h
      exact ⟨by rw [seqIndex_neg (by omega) h1, e], by omega, h1, by omega⟩
    · rw [if_neg h1] at h; cases h
theorem Ag {α : Type} {xs : List α} {i : Int} {v : α} (h : atI xs i = some v) : ∃ j, seqIndex? i xs.length = some j ∧ xs[j]? = some v ∧ j < xs.length ∧ -(xs.length : Int) ≤ i ∧ i < xs.length := by
  unfold atI at h
  cases e : ixN xs.length i with
  | none => rw [e] at h; cases h
  | some j =>
    rw [e] at h
    obtain ⟨h1, h2, h3, h4⟩ := EV e
    exact ⟨j, h1, h, h2, h3, h4⟩
theorem kH {α : Type} {xs : List α} {j : Nat} {v : α} (h : xs[j]? = some v) : atI xs (j : Int) = some v := by
  have hj : j < xs.length := (List.getElem?_eq_some_iff.mp h).1
  have e : ixN xs.length (j : Int) = some j := by
    unfold ixN
    rw [if_pos (by omega), if_pos (by omega)]; simp
  unfold atI; rw [e]; exact h
def ET (b : Expr) : Prop := ∀ o i, subscripted b false o i = operate [o, i] (getItem o i)
def IxR (X : Cx) (r : R2) : Prop :=
  ∀ (value slice : Expr) (pins : List (Addr × Obj)) (s : Shared) (σ : St) (H : Hp) (x y : V) (v u : Value) (Q : VK), Inv X pins σ H s → RelV x v → RelV y u → r x y H Q →
    subscripted slice false v u = operate [v, u] (getItem v u) → wpAny (model X.prog X.w) X.A (subscriptTail value slice v u) (EP X pins σ Q) X.xe s
def MtR (X : Cx) (id : String) (r : V → List V → Hp → VK → Prop) : Prop :=
  ∀ (pins : List (Addr × Obj)) (s : Shared) (σ : St) (H : Hp) (x : V) (xs : List V) (v : Value) (us : List Value) (Q : VK), Inv X pins σ H s → RelV x v → Vals xs us → r x xs H Q →
    wpAny (model X.prog X.w) X.A (call (.builtin id) (v :: us)) (EP X pins σ Q) X.xe s
section
variable {X : Cx} {a b : Expr} {ta tb : TE} {pos : Pos}
theorem IxR.or {r r' : R2} (h : IxR X r) (h' : IxR X r') : IxR X (fun x y H Q => r x y H Q ∨ r' x y H Q) := by
  intro value slice pins s σ H x y v u Q I rx ry q hs
  rcases q with q | q
  · exact h value slice pins s σ H x y v u Q I rx ry q hs
  · exact h' value slice pins s σ H x y v u Q I rx ry q hs
theorem MtR.or {id : String} {r r' : V → List V → Hp → VK → Prop} (h : MtR X id r) (h' : MtR X id r') : MtR X id (fun x xs H Q => r x xs H Q ∨ r' x xs H Q) := by
  intro pins s σ H x xs v us Q I rx rs q
  rcases q with q | q
  · exact h pins s σ H x xs v us Q I rx rs q
  · exact h' pins s σ H x xs v us Q I rx rs q
theorem Ny {r : R2} (hr : IxR X r) (ha : PE X a ta) (hb : PE X b tb) (hs : ET b) : PE X (.Subscript a b pos) (tOp r ta tb) := by
  intro pins s σ H Q I h
  exact Subscript_ (LN ha hb I h fun v u s2 x y H2 I2 rx ry q => hr a b pins s2 σ H2 x y v u Q I2 rx ry q (hs _ _))
def NJ (K : PySem.W.Frag) : R2 := fun x y H Q => ∃ p xs i v, x = .ref p ∧ y = .int i ∧ SqL K H p xs ∧ atI xs i = some v ∧ Q v H
def ND (K : PySem.W.Frag) : R2 := fun x y H Q => ∃ p xs i v, x = .ref p ∧ y = .int i ∧ SqT K H p xs ∧ atI xs i = some v ∧ Q v H
def Oh : R2 := fun x y H Q => ∃ z i c, x = .str z ∧ y = .int i ∧ z.length ≤ sizeLine ∧ atI z.cps.toList i = some c ∧ Q (.str ⟨#[c]⟩) H
theorem Jx : IxR X (NJ X.K) := by
  intro value slice pins s σ H x y v u Q I rx ry h hs
  obtain ⟨p, xs, i, z, rfl, rfl, hq, he, q⟩ := h
  cases rx
  obtain ⟨t, rfl⟩ := ry
  obtain ⟨its, r, pl, hz⟩ := I.list hq
  obtain ⟨j, h1, h2, h3, h4, h5⟩ := Ag he
  obtain ⟨w, ew, rw'⟩ := r.get h2
  have hl := r.length
  have hn := vG
  have fin : EP X pins σ Q w s := ⟨z, H, I, rw', q⟩
  by_cases h0 : 0 ≤ i
  · have hj : i.toNat = j := by
      rw [seqIndex_of h0 h5] at h1
      exact Option.some.inj h1
    exact item_listR pl.isList h0 (by omega) (by rw [hj]; simpa using ew) fin hs
  · have hj : (i + (its.toArray.size : Int)).toNat = j := by
      rw [seqIndex_neg (by omega) h4] at h1
      rw [List.size_toArray, ← hl]
      exact Option.some.inj h1
    exact subscriptTail_builtinR (x := w) pl.isList.typeIs slot_list_getitem.lookup
      (wpAny_getItem_list_neg (Q := fun r s' => r = w ∧ EP X pins σ Q r s') pl.isList (by omega) (by rw [List.size_toArray] <;> omega) (by omega) (by rw [hj]; simpa using ew) ⟨rfl, fin⟩) hs
theorem Mt : IxR X (ND X.K) := by
  intro value slice pins s σ H x y v u Q I rx ry h hs
  obtain ⟨p, xs, i, z, rfl, rfl, hq, he, q⟩ := h
  cases rx
  obtain ⟨t, rfl⟩ := ry
  obtain ⟨its, r, pl, hz⟩ := I.tuple hq
  obtain ⟨j, h1, h2, h3, h4, h5⟩ := Ag he
  obtain ⟨w, ew, rw'⟩ := r.get h2
  have hl := r.length
  have hn := vG
  have fin : EP X pins σ Q w s := ⟨z, H, I, rw', q⟩
  exact subscriptTail_builtinR (x := w) pl.typeIs slot_tuple_getitem.lookup
    (getItem_tuple (j := j) (Q := fun r s' => r = w ∧ EP X pins σ Q r s') pl (by omega) (by omega) (by rw [List.size_toArray, ← hl]; exact h1) (by simpa using ew) ⟨rfl, fin⟩) hs
theorem Mp : IxR X Oh := by
  intro value slice pins s σ H x y v u Q I rx ry h hs
  obtain ⟨z, i, c, rfl, rfl, hz, he, q⟩ := h
  obtain ⟨t, rfl⟩ := rx
  obtain ⟨t', rfl⟩ := ry
  obtain ⟨j, h1, h2, h3, h4, h5⟩ := Ag he
  have hl : z.cps.toList.length = z.length := by simp [Str.length]
  rw [hl] at h1 h4 h5
  have hn := vG
  exact tail_any (typeIs_str s z t) slot_str_getitem.lookup (getItem_str (c := c) (by
    have e1 : decide (i < -(2 ^ 63 : Int)) = false := decide_eq_false (by omega)
    have e2 : decide (i ≥ 2 ^ 63) = false := decide_eq_false (by omega)
    rw [e1, e2, Bool.or_false]) (by rw [h1]; simpa using h2) ⟨.str ⟨#[c]⟩, H, I.tok _, ⟨_, rfl⟩, q⟩) hs
def rIx (K : PySem.W.Frag) : R2 := fun x y H Q => NJ K x y H Q ∨ ND K x y H Q ∨ Oh x y H Q
theorem L7 : IxR X (rIx X.K) := Jx.or (Mt.or Mp)
theorem DB (its : List Value) (n j : Nat) (u : Value) : Obj.mapSeq (·.setIfInBounds j u) { cls := .type "list", data := .seq its.toArray n } = { cls := .type "list", data := .seq (its.set j u).toArray n } := by
  simp [Obj.mapSeq]
theorem Inv.lst {pins : List (Addr × Obj)} {σ : St} {H : Hp} {s : Shared} {p : Addr} {xs : List V} (I : Inv X pins σ H s) (h : H p = some (.lst xs)) :
    ∃ (its : List Value) (n : Nat), Vals xs its ∧ s.heap.get? p = some { cls := .type "list", data := .seq its.toArray n } ∧ xs.length ≤ sizeLine := by
  obtain ⟨z, its, n, r, e⟩ := I.hok p _ h
  exact ⟨its, n, r, e, z⟩
theorem Inv.Lw {pins : List (Addr × Obj)} {σ : St} {H : Hp} {s : Shared} {p : Addr} {xs ys : List V} {its its' : List Value} {n n' : Nat} {f : Obj → Obj} (I : Inv X pins σ H s) (h : H p = some (.lst xs))
    (ho : s.heap.get? p = some { cls := .type "list", data := .seq its.toArray n }) (hf : f { cls := .type "list", data := .seq its.toArray n } = { cls := .type "list", data := .seq its'.toArray n' }) (r : Vals ys its') (hz : ys.length ≤ sizeLine) (t : Nat) :
    Inv X pins σ (upd H p (.lst ys)) { s with heap := s.heap.update p f, toks := t } := by
  have e : (s.heap.update p f).get? p = some { cls := .type "list", data := .seq its'.toArray n' } := by
    rw [Heap.get?_update_self f ho (by rw [hf] <;> rfl), hf]
  refine I.write (x := p) (e := p) (by rw [h]; trivial) (.inl rfl) (fun b u hb q => (Heap.get?_update_other _ _ (Ne.symm hb)).trans q) ⟨_, e⟩ ?_
  exact ⟨hz, its', n', r, e⟩
def Oo : V → V → V → Hp → (Hp → Prop) → Prop := fun o i v H Q => ∃ p xs k j, o = .ref p ∧ i = .int k ∧ H p = some (.lst xs) ∧ ixN xs.length k = some j ∧ Q (upd H p (.lst (xs.set j v)))
theorem set_list : Ol X Oo := by
  intro pins s σ H o i v ov iv u Q I ro ri rv h
  obtain ⟨p, xs, k, j, rfl, rfl, hp, hj, q⟩ := h
  cases ro
  obtain ⟨t, rfl⟩ := ri
  obtain ⟨its, n, r, ho, hz⟩ := I.lst hp
  obtain ⟨h1, h2, h3, h4⟩ := EV hj
  have hl := r.length
  have hn := vG
  have I' : Inv X pins σ (upd H p (.lst (xs.set j v))) { s with heap := s.heap.update p (Obj.mapSeq (·.setIfInBounds j u)) } :=
    I.Lw hp ho (DB its n j u) (r.set rv j) (by rw [List.length_set]; exact hz) s.toks
  by_cases h0 : 0 ≤ k
  · have hk : k.toNat = j := by
      rw [seqIndex_of h0 h4] at h1
      exact Option.some.inj h1
    exact PySem.W.ki_setAt ho h0 (by omega) (by rw [List.size_toArray, ← hl]; exact h4) (by rw [hk]; exact ⟨_, I', q⟩)
  · have hk : (k + (its.toArray.size : Int)).toNat = j := by
      rw [seqIndex_neg (by omega) h3] at h1
      rw [List.size_toArray, ← hl]
      exact Option.some.inj h1
    exact PySem.W.ki_setBack ho (by omega) (by rw [List.size_toArray, ← hl]; exact h3) (by omega) (by rw [hk]; exact ⟨_, I', q⟩)
theorem yO (lo hi : Option Int) (n : Nat) : (sliceBounds lo hi none n).1 = ((HT.sIx n 0 lo : Nat) : Int) ∧ (sliceBounds lo hi none n).2.1 = ((HT.sIx n n hi : Nat) : Int) ∧ (sliceBounds lo hi none n).2.2 = 1 := by
  refine ⟨?_, ?_, rfl⟩
  · cases lo with
    | none => simp [sliceBounds, HT.sIx]
    | some i =>
      simp only [sliceBounds, HT.sIx, Option.getD_none, show (1 : Int) > 0 by decide, if_true]
      by_cases h : i < 0
      · simp only [h, if_true] <;> omega
      · simp only [h, if_false] <;> omega
  · cases hi with
    | none => simp [sliceBounds, HT.sIx]
    | some i =>
      simp only [sliceBounds, HT.sIx, Option.getD_none, show (1 : Int) > 0 by decide, if_true]
      by_cases h : i < 0
      · simp only [h, if_true] <;> omega
      · simp only [h, if_false] <;> omega
theorem xN (its : List Value) (lo hi : Option Int) : slicePick its.toArray lo hi none = ((its.drop (HT.sIx its.length 0 lo)).take (HT.sIx its.length its.length hi - HT.sIx its.length 0 lo)).toArray := by
  obtain ⟨h1, h2, h3⟩ := yO lo hi its.toArray.size
  unfold slicePick
  rw [h1, h2, h3]
  simp only [sliceRange_one, pick_run, List.size_toArray] <;> rfl
def OP (K : PySem.W.Frag) : V → Option Int → Option Int → Hp → VK → Prop := fun x lo hi H Q => ∃ a xs, x = .ref a ∧ SqL K H a xs ∧ ∀ p, H p = none → Q (.ref p) (upd H p (.lst (yU xs lo hi)))
theorem JP : SlR X (OP X.K) := by
  intro pins s σ H x v vl vu lo hi sl Q I rx hs pl pu h
  obtain ⟨a, xs, rfl, hx, q⟩ := h
  cases rx
  obtain ⟨its, r, ht, hz⟩ := I.list hx
  have hlen := r.length
  refine ⟨"list", _, slot_list_getitem.lookup, ht.isList.typeIs, ?_⟩
  refine wpAny_getItem_list_slice ht.isList hs pl pu .none (by simp) ?_ (by rw [List.size_toArray] <;> omega)
  rw [xN, ← hlen]
  refine ⟨.ref s.heap.objs.size, _, I.laid (t' := s.toks) (o := .lst (yU xs lo hi)) (fun b ob q => Heap.get?_push_of_some _ q) (Nat.le_refl _) ?_, rfl, q _ (I.hok.fresh (Nat.le_refl _))⟩
  exact ⟨Nat.le_trans (uA xs lo hi) hz, _, 0, (r.drop (HT.sIx xs.length 0 lo)).take (HT.sIx xs.length xs.length hi - HT.sIx xs.length 0 lo), Heap.get?_push_size _ rfl⟩
theorem zX : jk X (.builtin "len") (fun xs H Q => ∃ p ys, xs = [.ref p] ∧ (SqL X.K H p ys ∨ SqT X.K H p ys) ∧ Q (.int ys.length) H) := by
  intro pins s σ H xs us Q I r h
  obtain ⟨p, ys, rfl, hq, q⟩ := h
  obtain ⟨u, rfl, rx⟩ := vals1 r
  cases rx
  have hn := vG
  rcases hq with hq | hq
  · obtain ⟨its, r', pl, hz⟩ := I.list hq
    have hlen := r'.length
    exact Calls.call_len_list pl.isList (by simp only [List.size_toArray] <;> omega) ⟨.int ys.length, H, I.tok _, ⟨s.toks + 1, by rw [List.size_toArray, hlen]⟩, q⟩
  · obtain ⟨its, r', pl, hz⟩ := I.tuple hq
    have hlen := r'.length
    exact len_tuple pl (by simp only [List.size_toArray] <;> omega) ⟨.int ys.length, H, I.tok _, ⟨s.toks + 1, by rw [List.size_toArray, hlen]⟩, q⟩
theorem jk.or {f : Value} {r r' : List V → Hp → VK → Prop} (h : jk X f r) (h' : jk X f r') : jk X f (fun xs H Q => r xs H Q ∨ r' xs H Q) := by
  intro pins s σ H xs us Q I rs q
  rcases q with q | q
  · exact h pins s σ H xs us Q I rs q
  · exact h' pins s σ H xs us Q I rs q
theorem w8 : jk X (.type "tuple") (fun xs H Q => ∃ p ys, xs = [.ref p] ∧ ((SqL X.K H p ys ∧ ∀ l, H l = none → Q (.ref l) (upd H l (.tup ys))) ∨ (SqT X.K H p ys ∧ Q (.ref p) H))) := by
  intro pins s σ H xs us Q I r h
  obtain ⟨p, ys, rfl, h⟩ := h
  obtain ⟨u, rfl, rx⟩ := vals1 r
  cases rx
  rcases h with ⟨hq, q⟩ | ⟨hq, q⟩
  · obtain ⟨its, r', pl, hz⟩ := I.list hq
    have hlen := r'.length
    refine call_tuple_list pl.isList (fun h' kp => ?_) (by simp only [List.size_toArray] <;> omega)
    have I1 : Inv X pins σ H { s with heap := h' } := I.kept (t' := s.toks) kp
    have I2 : Inv X pins σ (upd H h'.objs.size (.tup ys)) { s with heap := h'.push { cls := .type "tuple", data := .seq its.toArray } } :=
      I1.laid (t' := s.toks) (fun b o e => Heap.get?_push_of_some _ e) (Nat.le_refl _) (show lA X.prog X.w _ _ _ (.tup ys) from ⟨hz, its, r', IsTup.new _ _⟩)
    exact ⟨.ref h'.objs.size, _, I2, rfl, q _ (I1.hok.fresh (Nat.le_refl _))⟩
  · obtain ⟨its, r', pl, hz⟩ := I.tuple hq
    exact call_tuple_same pl ⟨.ref p, H, I, rfl, q⟩
def tyV (K : PySem.W.Frag) (T : String) (x : V) (H : Hp) : Prop := match x with
  | .str _ => T = "str"
  | .int _ => T = "int"
  | .ref p => (T = "list" ∧ ∃ xs, SqL K H p xs) ∨ (T = "tuple" ∧ ∃ o, K.lookup p = some o ∧ o.cls = .type "tuple" ∧ o.dict = none) ∨
      (T = "dict" ∧ ((∃ kvs, H p = some (.dK kvs)) ∨ ∃ kvs, H p = some (.dT kvs))) ∨ (T = "set" ∧ ∃ S n, H p = some (.set S n))
  | _ => False
theorem MR {pins : List (Addr × Obj)} {σ : St} {H : Hp} {s : Shared} {T : String} {x : V} {v : Value} (I : Inv X pins σ H s) (r : RelV x v) (ty : tyV X.K T x H) :
    s.TypeIs v T ∧ ∀ a, v = .ref a → ∃ ob, s.heap.get? a = some ob ∧ ob.dict = none := by
  cases x with
  | str z =>
    obtain ⟨t, rfl⟩ := r
    cases (show T = "str" from ty)
    exact ⟨typeIs_str s z t, fun _ e => nomatch e⟩
  | int i =>
    obtain ⟨t, rfl⟩ := r
    cases (show T = "int" from ty)
    exact ⟨typeIs_int s i t, fun _ e => nomatch e⟩
  | ref p =>
    cases r
    rcases ty with ⟨rfl, xs, hq⟩ | ⟨rfl, o, hk, hc, hd⟩ | ⟨rfl, hk⟩ | ⟨rfl, S, n, hk⟩
    · obtain ⟨its, _, pl, _⟩ := I.list hq
      refine ⟨pl.isList.typeIs, fun a e => ?_⟩
      cases e
      obtain ⟨o, n, e, c, hd, _⟩ := pl
      exact ⟨o, e, hd⟩
    · refine ⟨⟨o, I.kIn p o hk, hc⟩, fun a e => ?_⟩
      cases e
      exact ⟨o, I.kIn _ o hk, hd⟩
    · have z : ∃ o, s.heap.get? p = some o ∧ o.ExactDict := by
        rcases hk with ⟨kvs, hk⟩ | ⟨kvs, hk⟩
        · obtain ⟨_, _, _, _, o, _, _, e, ex, _⟩ := I.hok p _ hk
          exact ⟨o, e, ex⟩
        · obtain ⟨_, _, _, _, o, _, _, e, ex, _⟩ := I.hok p _ hk
          exact ⟨o, e, ex⟩
      obtain ⟨o, e, ex⟩ := z
      refine ⟨⟨o, e, ex.1⟩, fun a e2 => ?_⟩
      cases e2
      exact ⟨o, e, ex.2.1⟩
    · obtain ⟨o, _, _, _, e, ex, _⟩ := I.hok p _ hk
      refine ⟨⟨o, e, ex.1⟩, fun a e2 => ?_⟩
      cases e2
      exact ⟨o, e, ex.2.1⟩
  | _ => exact False.elim ty
def tBM (K : PySem.W.Frag) (T : String) (r : V → List V → Hp → VK → Prop) (to : TE) (t : TA) : TE := fun σ H Q => to σ H fun x H1 => tyV K T x H1 ∧ t σ H1 fun xs H2 => r x xs H2 Q
variable {o e : Expr} {es : List Expr} {to : TE} {t : TA} {name : Str} {apos cpos : Pos} {T id : String} {r : V → List V → Hp → VK → Prop}
theorem La (pa : PlainAttrs T) (slot : Slot T name id) (hty : typeOf (.builtin id) = pure (.type "method_descriptor")) (hm : MtR X id r) (ho : PE X o to) (ha : PA X (e :: es) t)
    (hbase : attributeBase o name X.env (eval o X.env) = eval o X.env := by rfl)
    (hfew : ((backTo cpos (starEach (e :: es) X.env)).all (fun x => !x.1) && (backToKw cpos (keywordEach [] X.env)).all (fun x => x.1.isSome)
      && decide ((e :: es).length + ([] : List Keyword).length + (if ([] : List Keyword).isEmpty then 0 else 1) < 30)) = true := by rfl)
    (hline : (apos.endLine == cpos.line) = true := by rfl) (hs : starEach (e :: es) X.env = (false, eval e X.env) :: starEach es X.env := by rfl) (hplain : (backTo cpos (starEach es X.env)).any (·.1) = false := by rfl) :
    PE X (.Call (.Attribute o name apos) (e :: es) [] cpos) (tBM X.K T r to t) := by
  intro pins s σ H Q I h
  refine wpAny_Call_method_late hbase hfew hline rfl (thn (ho pins s σ H _ I h) fun v s1 ⟨x, H1, I1, r1, ty, q1⟩ => ?_)
  obtain ⟨h1, h2⟩ := MR I1 r1 ty
  refine ⟨T, id, pa, slot, hty, h1, h2, ?_⟩
  have hA := ha cpos pins s1 σ H1 _ I1 q1
  rw [hs] at hA ⊢
  refine Calls.callWith_builtin (by show (false || (backTo cpos (starEach es X.env)).any (·.1)) = false; rw [hplain] <;> rfl) (Calls.evalArgs_plain ?_)
  exact thn hA fun us s2 ⟨vs, H2, I2, r2, q2⟩ => hm pins s2 σ H2 x vs v us Q I2 r1 r2 q2
end
end L2
namespace L2
open PySem PySem.Spec PyProof.Rows
def MtM (X : Cx) (id : String) (r : V → List V → Hp → VK → Prop) : Prop :=
  ∀ (pins : List (Addr × Obj)) (s : Shared) (σ : St) (H : Hp) (x : V) (xs : List V) (v : Value) (us : List Value) (Q : VK), Inv X pins σ H s → RelV x v → Vals xs us → r x xs H Q →
    wpAny (model X.prog X.w) X.A (call (.builtin id) (v :: us)) (EP X pins σ Q) X.xe s
theorem Vals.one : ∀ {x : V} {us : List Value}, Vals [x] us → ∃ u, us = [u] ∧ RelV x u
  | _, _, .cons r .nil => ⟨_, rfl, r⟩
theorem Vals.two : ∀ {x y : V} {us : List Value}, Vals [x, y] us → ∃ u v, us = [u, v] ∧ RelV x u ∧ RelV y v
  | _, _, _, .cons r (.cons q .nil) => ⟨_, _, rfl, r, q⟩
theorem Vals.reverse {xs : List V} {us : List Value} (h : Vals xs us) : Vals xs.reverse us.reverse := by
  induction h with
  | nil => exact .nil
  | cons r t ih => rw [List.reverse_cons, List.reverse_cons]; exact Vals.append ih (.cons r .nil)
section
variable {X : Cx} {pins : List (Addr × Obj)} {σ : St} {H : Hp} {s : Shared} {l b : Addr} {xs ys zs : List V}
theorem Inv.N8 {its its' : List Value} {n : Nat} {f : Array Value → Array Value} {t' : Nat} (I : Inv X pins σ H s) (hH : H l = some (.lst xs))
    (e : s.heap.get? l = some { cls := .type "list", data := .seq its.toArray n }) (hf : f its.toArray = its'.toArray) (hv : Vals ys its') (hz : ys.length ≤ sizeLine) :
    Inv X pins σ (upd H l (.lst ys)) { s with heap := s.heap.update l (Obj.mapSeq f), toks := t' } := by
  have q := PySem.IsL.update e f
  rw [hf] at q
  refine I.write (x := l) (e := l) (by rw [hH]; exact trivial) (.inl rfl) (fun b' u hb hu => (Heap.get?_update_other s.heap (Obj.mapSeq f) (Ne.symm hb)).trans hu) ⟨_, q⟩ ?_
  exact ⟨hz, its', _, hv, q⟩
theorem Inv.OA {its : List Value} {t' : Nat} (I : Inv X pins σ H s) (hv : Vals ys its) (hz : ys.length ≤ sizeLine) :
    Inv X pins σ (upd H s.heap.objs.size (.lst ys)) { s with heap := s.heap.push { cls := .type "list", data := .seq its.toArray }, toks := t' } :=
  I.laid (fun _ _ q => Heap.get?_push_of_some _ q) (Nat.le_refl _) ⟨hz, its, 0, hv, Heap.get?_push_size _ rfl⟩
theorem Inv.fresh (I : Inv X pins σ H s) : H s.heap.objs.size = none := I.hok.fresh (Nat.le_refl _)
theorem Inv.Fl (I : Inv X pins σ H s) (hH : H l = some (.lst xs)) : xs.length ≤ sizeLine ∧ ∃ (its : List Value) (n : Nat), Vals xs its ∧ xs.length = its.length ∧ s.heap.get? l = some { cls := .type "list", data := .seq its.toArray n } := by
  obtain ⟨z, its, n, r, e⟩ := I.hok l _ hH
  exact ⟨z, its, n, r, r.length, e⟩
theorem IH {n : Nat} (h : n ≤ sizeLine) : Builtin.List.listTooLong n = false := by
  unfold Builtin.List.listTooLong
  exact decide_eq_false (by omega)
end
section
variable {X : Cx}
def Jk : V → List V → Hp → VK → Prop := fun x vs H Q => ∃ l xs y, x = .ref l ∧ vs = [y] ∧ H l = some (.lst xs) ∧ xs.length < sizeLine ∧ Q .non (upd H l (.lst (xs ++ [y])))
theorem sW : MtM X "list.append" Jk := by
  intro pins s σ H x vs v us Q I rx rv h
  obtain ⟨l, xs, y, rfl, rfl, hH, hz, q⟩ := h
  cases rx
  obtain ⟨u, rfl, ru⟩ := rv.one
  obtain ⟨z, its, n, r, hl, e⟩ := I.Fl hH
  refine call_meets F.slot_list_append ⟨_, e, rfl⟩ F.entry_list_append (F.args_list_append_2 _ _) (PySem.list_append l its.toArray n u (by rw [List.size_toArray]; omega)) ⟨e, ?_⟩
  refine ⟨.non, _, I.N8 (its' := its ++ [u]) hH e (by simp) (r.append (.cons ru .nil)) ?_, rfl, q⟩
  rw [List.length_append, List.length_singleton]
  omega
def Jm : V → List V → Hp → VK → Prop := fun x vs H Q => ∃ l b xs zs, x = .ref l ∧ vs = [.ref b] ∧ H l = some (.lst xs) ∧ H b = some (.lst zs) ∧ xs.length + zs.length ≤ sizeLine ∧ Q .non (upd H l (.lst (xs ++ zs)))
theorem M5 : MtM X "list.extend" Jm := by
  intro pins s σ H x vs v us Q I rx rv h
  obtain ⟨l, b, xs, zs, rfl, rfl, hH, hB, hz, q⟩ := h
  cases rx
  obtain ⟨u, rfl, ru⟩ := rv.one
  cases ru
  obtain ⟨z, its, n, r, hl, e⟩ := I.Fl hH
  obtain ⟨z2, its2, n2, r2, hl2, e2⟩ := I.Fl hB
  have hsz : its.toArray.size + its2.toArray.size ≤ sizeLine := by rw [List.size_toArray, List.size_toArray]; omega
  have hlong : ¬ (!its.toArray.isEmpty && Builtin.List.listTooLong (its.toArray.size + its2.toArray.size)) = true := by
    rw [IH hsz, Bool.and_false]
    exact Bool.false_ne_true
  refine call_meets F.slot_list_extend ⟨_, e, rfl⟩ F.entry_list_extend (F.args_list_extend_2 _ _)
    (AutoSeq1.list_extend_list_list_0 l its.toArray n b its2.toArray n2 hlong (by rw [List.size_toArray]; omega) (by omega)) ⟨e, e2, ?_⟩
  refine ⟨.non, _, I.N8 (its' := its ++ its2) hH e (by simp) (r.append r2) ?_, rfl, q⟩
  rw [List.length_append]
  omega
def Lv : R2 := fun x y H Q => ∃ l b xs zs, x = .ref l ∧ y = .ref b ∧ H l = some (.lst xs) ∧ H b = some (.lst zs) ∧ xs.length + zs.length ≤ sizeLine ∧ ∀ p, H p = none → Q (.ref p) (upd H p (.lst (xs ++ zs)))
theorem Mf : OpR X (binaryOp .Add) Lv := by
  intro pins s σ H x y v u Q I rx ry h
  obtain ⟨l, b, xs, zs, rfl, rfl, hH, hB, hz, q⟩ := h
  cases rx
  cases ry
  obtain ⟨z, its, n, r, hl, e⟩ := I.Fl hH
  obtain ⟨z2, its2, n2, r2, hl2, e2⟩ := I.Fl hB
  refine PySem.P.add_list e e2 ?_ (by rw [List.size_toArray, List.size_toArray]; omega)
  have ea : its.toArray ++ its2.toArray = (its ++ its2).toArray := by simp
  rw [ea]
  exact ⟨.ref _, _, I.OA (t' := s.toks) (r.append r2) (by rw [List.length_append]; omega), rfl, q _ I.fresh⟩
end
section
variable {prog : Program} {w : World} {A : Around} {E : Value → Shared → Prop} {s : Shared}
end
section
variable {X : Cx}
end
end L2
namespace Att
open PySem PySem.W PySem.Calls PyProof.Rows
theorem uW {P : Params} {h : Heap} : ∀ (ns : List Int) (vs : List Value), WellAll P h vs (ns.map WData.int) → IntsAre vs ns := by
  intro ns
  induction ns with
  | nil =>
    intro vs w
    rw [List.map_nil] at w
    cases w
    exact .nil
  | cons n ns ih =>
    intro vs w
    rw [List.map_cons] at w
    cases w with
    | cons a b =>
      cases a
      exact .cons _ _ (ih _ b)
theorem E2 {l : OpenLaw} {n : Nat} (hn : l.most = some n) {P : Params} {h : Heap} {args : List WData} {vals : List Value}
    (hpre : l.row.toRowW.claim.pre args = true) (hwl : WellAll P h vals args) :
    ∃ a vs ns, vals = [Value.ref a] ∧ args = [WData.list (ns.map WData.int)] ∧ h.get? a = some { cls := .type "list", data := .seq vs.toArray } ∧ IntsAre vs ns ∧ ns.length ≤ n := by
  have hsh : WShape.hasAll [] args [.list .int] = true := (pre_splitW hpre).1
  have hc : l.pre.holds [] { args := args } = true := (pre_splitW hpre).2
  obtain ⟨d, r, rfl, h1, h2⟩ := hasAllW_cons hsh
  obtain rfl := hasAllW_nil h2
  obtain ⟨xs, rfl, h3⟩ := hasW_list h1
  obtain ⟨ns, rfl⟩ := items_int h3
  have hlen : ns.length ≤ n := by
    unfold OpenLaw.pre at hc
    have h4 : (WTm.not (.lt (.lit (.int (n : Int))) (.len (.arg 0)))).holds [] { args := [.list (ns.map .int)] } = true := by
      have h4 := (holds_andW hc).1
      rw [hn] at h4
      exact h4
    have h5 := condW_of h4 (w_not (w_lt w_lit (w_len_list (w_arg rfl))))
    rw [List.length_map] at h5
    refine Nat.le_of_not_lt fun q => ?_
    have q' : (n : Int) < ((ns.length : Nat) : Int) := by omega
    first
      | (rw [decide_eq_true q'] at h5; exact absurd h5 (by decide))
      | (simp at h5; omega)
  cases hwl with
  | cons w1 w2 =>
    cases w2
    cases w1 with
    | list ho hall => exact ⟨_, _, ns, rfl, rfl, ho, uW ns _ hall, hlen⟩
theorem FP (l : OpenLaw) (args : List WData) : l.row.toRowW.claim.post args (.bool true) args = true :=
  postW_of (r := l.row.toRowW) (X := (true == true))
    (show WShape.has [] (.bool true) .bool = true by first | rfl | decide | simp [WShape.has, WShape.arms, WShape.armsAll])
    (show (WTm.eq .res (.lit (.bool true))).value [] { args := args, res := some (.bool true), after := args } = some (.bool (true == true)) from w_eq_bool (w_res rfl) w_lit) rfl
theorem BL {l : OpenLaw} {n : Nat} {q : Program} {loose : List Str} {XP : (Str → Option Value) → Heap → Prop} {YP : World → Heap → Prop} {d : DefRec}
    (hn : l.most = some n) (hdf : d.params.defaults = [])
    (call : ∀ (w : World) (s₀ s₁ : Shared) (mg mb : Str → Option Value) (fa : Addr) (o : Obj) (pm cd doc : Value) (a : Addr) (vs : List Value) (ns : List Int),
      Ground q loose [] XP w s₀ mg mb s₁.heap → YP w s₁.heap →
      s₁.heap.get? fa = some o → o.data = .func (docDef d.name d.params d.body d.scope pm cd doc) → s₁.heap.CodeRec cd d.name → mg d.name = some (.ref fa) →
      s₁.heap.get? a = some { cls := .type "list", data := .seq vs.toArray } → IntsAre vs ns → ns.length ≤ n → s₁.gens = #[] →
      codeAny (model l.prog w) callerA (.call (.ref fa) ⟨[.ref a], []⟩) (fun r s' => r = .ok (.ret (.bool true)) ∧ OldK s₁.heap s'.heap ∧ s'.os = s₁.os ∧ AllBare s'.gens) s₁) :
    WalkO q loose XP YP l.row.toRowW d [] (fun f vs => PySem.call f vs) := by
  intro w s₀ s₁ mg mb G Y fa o pm cd doc dV kV ho hd hcd hD hmg hg args vals as hpre hlay hrd hwl hlo
  obtain rfl : dV = .none := Dflts.none hD hdf
  obtain rfl : kV = .none := Dflts.noKw hD
  obtain ⟨a, vs, ns, rfl, rfl, hobj, hints, hlen⟩ := E2 hn hpre hwl
  refine enter_call (codeAny_mono (call w s₀ s₁ mg mb fa o pm cd doc a vs ns G Y ho (fd_plain hd) hcd hmg hobj hints hlen hg) fun r s' hq => ?_)
  obtain ⟨rfl, h2, h3, h4⟩ := hq
  exact ⟨.inl ⟨.bool true, .bool true, [], rfl, fun _ => rfl, .bool true, FP l _, fun _ => ⟨List.Pairwise.nil, fun _ hm => (nomatch hm)⟩⟩, h2, h3, h4⟩
section
variable {prog : Program} {w : World} {A : Around} {E : Value → Shared → Prop} {s : Shared} {K : Frag}
def ledger (h : Heap) (L d : Addr) : List (Addr × Obj) := (List.range h.objs.size).filterMap fun a => if a = L ∨ a = d then none else (h.get? a).map fun o => (a, o)
end
end Att
namespace L2
open PySem PySem.Spec PyProof.Rows
theorem yo : ∀ {vs : List Value} {ns : List Int}, IntsAre vs ns → Vals (ns.map V.int) vs
  | _, _, .nil => .nil
  | _, _, .cons n t h => .cons ⟨t, rfl⟩ (yo h)
end L2
namespace L2
open PySem PySem.Spec PyProof.Rows
end L2
namespace L2
open PySem PySem.Spec PyProof.Rows
abbrev CX0 : CXT := fun _ _ _ _ _ _ => False
abbrev E0 : XK := fun _ _ _ => False
theorem Nz {X : Cx} : Passes CX0 X E0 := fun _ _ _ _ _ _ _ h => h.elim
structure Fun (K : PySem.W.Frag) (x qual : Str) (st : Stmt) (f : Addr) (fd : FuncData) : Prop where
  ex : ∃ (oc : Value) (od : Option Addr) (kV doc pm : Value) (an : Option Addr) (cdv ct : Value) (osl : Array (Option Value)),
    fd = PySem.W.fnOf x qual (pB st) (kK st) (aC st) .none kV doc pm an cdv ct ∧ K.lookup f = some ⟨oc, od, .func fd, osl⟩ ∧ PySem.W.codeIn K cdv qual = true
  kp : PySem.W.keepIn K (.ref f) = true
section
variable {P : Program} {w : World} {K : PySem.W.Frag} {mg : Str → Option Value} {base : Heap}
theorem Fun.ok {x qual : Str} {st : Stmt} {f : Addr} {fd : FuncData} {N ps : List Str} {k : Nat} {sp : Sp} (F : Fun K x qual st f fd) (S : aG N ps (aC st)) (len : ∀ vs H Q E, sp vs H Q E → vs.length = ps.length)
    (hbody : ∀ (cdv : Value) (A : Around) (outer : List Env) (s : Shared) (H : Hp) (vs : List V) (Q : VK) (E : XK), mJ k (A.deeper (envOfC qual (aC st) s.heap.objs.size f cdv)) → sp vs H Q E →
      ∃ t, PSs (Dt CX0 P w K mg base N qual (aC st) f cdv A outer s H E).nox (kK st) t ∧ t { nx := fun _ H' => Q .non H', rt := Q } (start N vs) H) : bU P w K mg base CX0 (k + 1) f fd ps sp := by
  obtain ⟨oc, od, kV, doc, pm, an, cdv, ct, osl, rfl, lk, hcd⟩ := F.ex
  refine NW lk hcd S len fun A outer s H vs Q E hr hsp => ?_
  obtain ⟨t, h, q⟩ := hbody cdv A outer s H vs Q E hr hsp
  exact ⟨t, h.nox, q⟩
theorem Fun.binds {x qual : Str} {st : Stmt} {f : Addr} {fd : FuncData} {ps : List Str} (F : Fun K x qual st f fd)
    (h : ∀ (kV doc pm : Value) (an : Option Addr) (cdv ct : Value) (us : List Value), us.length = ps.length → bindArgs (PySem.W.fnOf x qual (pB st) (kK st) (aC st) .none kV doc pm an cdv ct) ⟨us, []⟩ = pure (ps.zip us)) : Binds K fd ps [] := by
  obtain ⟨oc, od, kV, doc, pm, an, cdv, ct, osl, rfl, lk, hcd⟩ := F.ex
  exact .all (h kV doc pm an cdv ct)
theorem aR {x qual : Str} {st : Stmt} {f : Addr} {oc : Value} {od an : Option Addr} {osl : Array (Option Value)} {kV doc pm cdv ct : Value} (l : K.lookup f = some ⟨oc, od, .func (PySem.W.fnOf x qual (pB st) (kK st) (aC st) .none kV doc pm an cdv ct), osl⟩)
    (c : PySem.W.codeIn K cdv qual = true) (k : PySem.W.keepIn K (.ref f) = true) : Fun K x qual st f (PySem.W.fnOf x qual (pB st) (kK st) (aC st) .none kV doc pm an cdv ct) := ⟨⟨oc, od, kV, doc, pm, an, cdv, ct, osl, rfl, l, c⟩, k⟩
end
theorem ib {n : Nat} (h : n ≤ 1000) : n < sizeLine := Nat.lt_of_le_of_lt h (by decide)
section
variable {X : Cx}
end
theorem Aa {A B : Prop} (h : B) : if false = true then A else B := by
  rw [if_neg Bool.false_ne_true]
  exact h
theorem Af {A B : Prop} (h : A) : if true = true then A else B := by
  rw [if_pos rfl]
  exact h
def qx (H H' : Hp) : Prop := ∀ b o, H b = some o → H' b = some o
theorem qx.refl (H : Hp) : qx H H := fun _ _ h => h
theorem qx.trans {H H1 H2 : Hp} (a : qx H H1) (b : qx H1 H2) : qx H H2 := fun c o h => b c o (a c o h)
theorem qx.free {H H' : Hp} (e : qx H H') {l : Addr} (h : H' l = Option.none) : H l = Option.none := by
  cases q : H l with
  | none => rfl
  | some o =>
    rw [e l o q] at h
    cases h
end L2
set_option linter.all false
set_option maxRecDepth 100000
set_option maxHeartbeats 4000000
namespace NM
@[irreducible] def Sz (n : Nat) (i : Int) : Prop := i.natAbs < 2 ^ n
theorem Sz.mono {n m : Nat} {i : Int} (h : Sz n i) (l : n ≤ m) : Sz m i := by unfold Sz at *; exact Nat.lt_of_lt_of_le h (Nat.pow_le_pow_right (by decide) l)
theorem Sz.mul {n m : Nat} {i j : Int} (h : Sz n i) (g : Sz m j) : Sz (n + m) (i * j) := by
  unfold Sz at *
  rw [Int.natAbs_mul, Nat.pow_add]
  exact Nat.mul_lt_mul'' h g
theorem Sz.add {n : Nat} {i j : Int} (h : Sz n i) (g : Sz n j) : Sz (n + 1) (i + j) := by
  unfold Sz at *
  have := Int.natAbs_add_le i j
  rw [Nat.pow_succ]
  omega
theorem Sz.neg {n : Nat} {i : Int} (h : Sz n i) : Sz n (-i) := by unfold Sz at *; rw [Int.natAbs_neg]; exact h
theorem Sz.sub {n : Nat} {i j : Int} (h : Sz n i) (g : Sz n j) : Sz (n + 1) (i - j) := by rw [Int.sub_eq_add_neg]; exact h.add g.neg
theorem Sz.le {n : Nat} {i j : Int} (h : Sz n i) (g : j.natAbs ≤ i.natAbs) : Sz n j := by unfold Sz at *; exact Nat.lt_of_le_of_lt g h
theorem Sz.of {n : Nat} {i : Int} (h : i.natAbs < 2 ^ n) : Sz n i := by unfold Sz; exact h
theorem Sz.lt {n : Nat} {i : Int} (h : Sz n i) : i.natAbs < 2 ^ n := by unfold Sz at h; exact h
def g3 (a b c : Int) : Nat := Int.gcd (Int.gcd a b : Nat) c
theorem Kc (a b c : Int) : Int.gcd (Int.gcd c a : Nat) b = g3 a b c := by
  unfold g3
  simp only [Int.gcd, Int.natAbs_natCast]
  rw [Nat.gcd_assoc, Nat.gcd_comm]
theorem IK (a b c : Int) : ((g3 a b c : Nat) : Int) ∣ a ∧ ((g3 a b c : Nat) : Int) ∣ b ∧ ((g3 a b c : Nat) : Int) ∣ c := by
  have h : ((g3 a b c : Nat) : Int) ∣ ((Int.gcd a b : Nat) : Int) := Int.gcd_dvd_left ..
  exact ⟨Int.dvd_trans h (Int.gcd_dvd_left ..), Int.dvd_trans h (Int.gcd_dvd_right ..), Int.gcd_dvd_right ..⟩
theorem Mm {a b c : Int} {k : Nat} (h1 : (k : Int) ∣ a) (h2 : (k : Int) ∣ b) (h3 : (k : Int) ∣ c) : k ∣ g3 a b c := by
  unfold g3
  exact Int.dvd_gcd (Int.natCast_dvd_natCast.mpr (Int.dvd_gcd h1 h2)) h3
theorem Az {a b c : Int} (h : c ≠ 0) : 0 < g3 a b c := by
  unfold g3
  exact Int.gcd_pos_of_ne_zero_right _ h
theorem Iv (a b c k : Int) : g3 (a * k) (b * k) (c * k) = g3 a b c * k.natAbs := by
  unfold g3
  simp only [Int.gcd, Int.natAbs_natCast, Int.natAbs_mul, Nat.gcd_mul_right]
theorem BR (a b c : Int) : g3 a (-b) c = g3 a b c := by
  unfold g3
  rw [Int.gcd_neg]
theorem G9 (a b c : Int) : g3 (-a) b c = g3 a b c := by
  unfold g3
  rw [Int.neg_gcd]
structure N3 where
  a : Int
  b : Int
  c : Int
deriving DecidableEq
theorem N3.ext' {x y : N3} (h1 : x.a = y.a) (h2 : x.b = y.b) (h3 : x.c = y.c) : x = y := by cases x; cases y; simp_all
structure Ok (x : N3) : Prop where
  c : 0 < x.c
  g : g3 x.a x.b x.c = 1
def dv (a b c : Int) : Int := if c < 0 then -(g3 a b c : Nat) else (g3 a b c : Nat)
def low (a b c : Int) : N3 := ⟨a.fdiv (dv a b c), b.fdiv (dv a b c), c.fdiv (dv a b c)⟩
theorem zR {a k q : Int} (hk : k ≠ 0) (h : a = k * q) : a.fdiv k = q := by
  subst h
  exact Int.mul_fdiv_cancel_left q hk
theorem NN {a b c : Int} (h : c ≠ 0) : dv a b c ≠ 0 := by
  have := Az (a := a) (b := b) h
  unfold dv
  split <;> omega
theorem Lo (a b c : Int) : dv a b c ∣ a ∧ dv a b c ∣ b ∧ dv a b c ∣ c := by
  obtain ⟨h1, h2, h3⟩ := IK a b c
  unfold dv
  split
  · exact ⟨Int.neg_dvd.mpr h1, Int.neg_dvd.mpr h2, Int.neg_dvd.mpr h3⟩
  · exact ⟨h1, h2, h3⟩
theorem ki (a b : Int) {c : Int} (h : c ≠ 0) : ∃ k : Int, k ≠ 0 ∧ (0 < k ↔ 0 < c) ∧ a = k * (low a b c).a ∧ b = k * (low a b c).b ∧ c = k * (low a b c).c ∧ Ok (low a b c) := by
  have hk := NN (a := a) (b := b) h
  obtain ⟨⟨p, hp⟩, ⟨q, hq⟩, ⟨r, hr⟩⟩ := Lo a b c
  have ep : (low a b c).a = p := zR hk hp
  have eq : (low a b c).b = q := zR hk hq
  have er : (low a b c).c = r := zR hk hr
  have hg := Az (a := a) (b := b) h
  have hs : 0 < dv a b c ↔ 0 < c := by unfold dv; split <;> omega
  have hr0 : 0 < r := by
    have hr' : r ≠ 0 := fun z => h (by rw [hr, z, Int.mul_zero])
    rcases Int.lt_trichotomy 0 (dv a b c) with z | z | z
    · have := hs.mp z
      rw [hr] at this
      rw [Int.mul_comm] at this
      exact Int.pos_of_mul_pos_left this z |> fun t => t
    · exact absurd z.symm hk
    · have : c < 0 := by omega
      rcases Int.lt_trichotomy 0 r with w | w | w
      · exact w
      · exact absurd w.symm hr'
      · have := Int.mul_pos_of_neg_of_neg z w
        rw [← hr] at this
        omega
  refine ⟨dv a b c, hk, hs, by rw [ep]; exact hp, by rw [eq]; exact hq, by rw [er]; exact hr, by rw [er]; exact hr0, ?_⟩
  rw [ep, eq, er]
  have e := Iv p q r (dv a b c)
  rw [Int.mul_comm p, Int.mul_comm q, Int.mul_comm r, ← hp, ← hq, ← hr] at e
  have e2 : (dv a b c).natAbs = g3 a b c := by unfold dv; split <;> simp
  rw [e2] at e
  have : g3 p q r * g3 a b c = 1 * g3 a b c := by omega
  exact Nat.eq_of_mul_eq_mul_right hg this
theorem i8 (a b : Int) {c : Int} (h : c ≠ 0) : Ok (low a b c) := (ki a b h).choose_spec.2.2.2.2.2
theorem Ok.same {x y : N3} (hx : Ok x) (hy : Ok y) (h1 : x.a * y.c = y.a * x.c) (h2 : x.b * y.c = y.b * x.c) : x = y := by
  have key : ∀ {u v : N3}, Ok u → Ok v → u.a * v.c = v.a * u.c → u.b * v.c = v.b * u.c → u.c ∣ v.c := fun {u v} hu hv e1 e2 => by
    have hd : u.c.natAbs ∣ g3 (u.a * v.c) (u.b * v.c) (u.c * v.c) := Mm
      (by rw [Int.natAbs_of_nonneg (Int.le_of_lt hu.c), e1]; exact Int.dvd_mul_left _ _) (by rw [Int.natAbs_of_nonneg (Int.le_of_lt hu.c), e2]; exact Int.dvd_mul_left _ _) (by rw [Int.natAbs_of_nonneg (Int.le_of_lt hu.c)]; exact Int.dvd_mul_right _ _)
    rw [Iv, hu.g, Nat.one_mul] at hd
    exact Int.natAbs_dvd_natAbs.mp hd
  have hc : x.c = y.c := Int.dvd_antisymm (Int.le_of_lt hx.c) (Int.le_of_lt hy.c) (key hx hy h1 h2) (key hy hx h1.symm h2.symm)
  have hn : y.c ≠ 0 := by have := hy.c; omega
  rw [hc] at h1 h2
  exact N3.ext' (Int.eq_of_mul_eq_mul_right hn h1) (Int.eq_of_mul_eq_mul_right hn h2) hc
theorem MJ {a b c a' b' c' : Int} (h : c ≠ 0) (h' : c' ≠ 0) (e1 : a * c' = a' * c) (e2 : b * c' = b' * c) : low a b c = low a' b' c' := by
  obtain ⟨k, hk, _, p1, p2, p3, o⟩ := ki a b h
  obtain ⟨l, hl, _, q1, q2, q3, o'⟩ := ki a' b' h'
  generalize low a b c = x at *
  generalize low a' b' c' = y at *
  subst p1 p2 p3 q1 q2 q3
  have hkl : k * l ≠ 0 := Int.mul_ne_zero hk hl
  refine o.same o' (Int.eq_of_mul_eq_mul_left hkl (by grind)) (Int.eq_of_mul_eq_mul_left hkl (by grind))
theorem Ok.low {x : N3} (h : Ok x) : low x.a x.b x.c = x := by
  have hc : x.c ≠ 0 := by have := h.c; omega
  obtain ⟨k, hk, _, p1, p2, p3, o⟩ := ki x.a x.b hc
  refine o.same h ?_ ?_
  · exact Int.eq_of_mul_eq_mul_left hk (by grind)
  · exact Int.eq_of_mul_eq_mul_left hk (by grind)
theorem Ok.Lr {x : N3} {a b c : Int} (h : Ok x) (hc : c ≠ 0) (e1 : x.a * c = a * x.c) (e2 : x.b * c = b * x.c) : x = NM.low a b c := by
  have q := MJ (by have := h.c; omega) hc e1 e2
  rw [h.low] at q
  exact q
theorem Gm (a b : Int) {c : Int} (h : c ≠ 0) : (low a b c).a.natAbs ≤ a.natAbs ∧ (low a b c).b.natAbs ≤ b.natAbs ∧ (low a b c).c.natAbs ≤ c.natAbs := by
  obtain ⟨k, hk, _, p1, p2, p3, _⟩ := ki a b h
  have hk' : 1 ≤ k.natAbs := by omega
  have le : ∀ {u v : Int}, u = k * v → v.natAbs ≤ u.natAbs := fun {u v} e => by
    rw [e, Int.natAbs_mul]
    exact Nat.le_mul_of_pos_left _ hk'
  exact ⟨le p1, le p2, le p3⟩
structure Bd (n : Nat) (x : N3) : Prop where
  a : Sz n x.a
  b : Sz n x.b
  c : Sz n x.c
theorem Bd.mono {n m : Nat} {x : N3} (h : Bd n x) (l : n ≤ m) : Bd m x := ⟨h.a.mono l, h.b.mono l, h.c.mono l⟩
theorem kU {a b c : Int} {n : Nat} (h : c ≠ 0) (ha : Sz n a) (hb : Sz n b) (hc : Sz n c) : Bd n (low a b c) := by
  obtain ⟨h1, h2, h3⟩ := Gm a b h
  exact ⟨ha.le h1, hb.le h2, hc.le h3⟩
def plus (x y : N3) : N3 := low (x.a * y.c + y.a * x.c) (x.b * y.c + y.b * x.c) (x.c * y.c)
def less (x y : N3) : N3 := low (x.a * y.c - y.a * x.c) (x.b * y.c - y.b * x.c) (x.c * y.c)
def times (d : Int) (x y : N3) : N3 := low (x.a * y.a + d * x.b * y.b) (x.a * y.b + x.b * y.a) (x.c * y.c)
def norm (d : Int) (x : N3) : Int := x.a * x.a - d * x.b * x.b
def av (d : Int) (x : N3) : N3 := low (x.c * x.a) (-x.c * x.b) (norm d x)
def aX (x : N3) : N3 := ⟨x.a, -x.b, x.c⟩
def minus (x : N3) : N3 := ⟨-x.a, -x.b, x.c⟩
def ax : N3 := ⟨0, 0, 1⟩
def one : N3 := ⟨1, 0, 1⟩
theorem Ok.cn {x : N3} (h : Ok x) : x.c ≠ 0 := by have := h.c; omega
theorem si {x y : N3} (h : Ok x) (g : Ok y) : x.c * y.c ≠ 0 := Int.mul_ne_zero h.cn g.cn
theorem aB {x : N3} (h : Ok x) : Ok (aX x) := ⟨h.c, by show g3 x.a (-x.b) x.c = 1; rw [BR]; exact h.g⟩
theorem Hg {x : N3} (h : Ok x) : Ok (minus x) := ⟨h.c, by show g3 (-x.a) (-x.b) x.c = 1; rw [G9, BR]; exact h.g⟩
theorem aT {x y : N3} (h : Ok x) (g : Ok y) : Ok (plus x y) := i8 _ _ (si h g)
theorem kB {x y : N3} (h : Ok x) (g : Ok y) : Ok (less x y) := i8 _ _ (si h g)
theorem ai {d : Int} {x y : N3} (h : Ok x) (g : Ok y) : Ok (times d x y) := i8 _ _ (si h g)
theorem yc : Ok ax := ⟨by decide, by decide⟩
theorem mZ : Ok one := ⟨by decide, by decide⟩
theorem dJ {n : Nat} {x : N3} (h : Bd n x) : Bd n (aX x) := ⟨h.a, h.b.neg, h.c⟩
theorem ID {n : Nat} {x : N3} (h : Bd n x) : Bd n (minus x) := ⟨h.a.neg, h.b.neg, h.c⟩
theorem eO {n m : Nat} {x y : N3} (hx : Ok x) (hy : Ok y) (h : Bd n x) (g : Bd m y) : Bd (n + m + 1) (plus x y) :=
  kU (si hx hy) ((h.a.mul g.c).add ((g.a.mul h.c).mono (by omega))) ((h.b.mul g.c).add ((g.b.mul h.c).mono (by omega))) ((h.c.mul g.c).mono (by omega))
theorem Jt {n m : Nat} {x y : N3} (hx : Ok x) (hy : Ok y) (h : Bd n x) (g : Bd m y) : Bd (n + m + 1) (less x y) :=
  kU (si hx hy) ((h.a.mul g.c).sub ((g.a.mul h.c).mono (by omega))) ((h.b.mul g.c).sub ((g.b.mul h.c).mono (by omega))) ((h.c.mul g.c).mono (by omega))
theorem iN {d : Int} (h : 2 ≤ d) (h' : d ≤ 30) : Sz 5 d := by unfold Sz; omega
theorem aK {n m : Nat} {d : Int} {x y : N3} (hd : Sz 5 d) (hx : Ok x) (hy : Ok y) (h : Bd n x) (g : Bd m y) : Bd (n + m + 6) (times d x y) :=
  kU (si hx hy) (((h.a.mul g.a).mono (by omega)).add (((hd.mul h.b).mul g.b).mono (by omega))) ((((h.a.mul g.b).mono (by omega : n + m ≤ n + m)).add ((h.b.mul g.a).mono (by omega))).mono (by omega)) ((h.c.mul g.c).mono (by omega))
theorem qZ {n : Nat} {d : Int} {x : N3} (hd : Sz 5 d) (h : Bd n x) : Sz (2 * n + 6) (norm d x) := by
  have e1 := h.a.mul h.a
  have e2 := (hd.mul h.b).mul h.b
  exact ((e1.mono (by omega : n + n ≤ 5 + n + n)).sub e2).mono (by omega)
theorem bJ {n : Nat} {d : Int} {x : N3} (hd : Sz 5 d) (hn : norm d x ≠ 0) (h : Bd n x) : Bd (2 * n + 6) (av d x) :=
  kU hn ((h.c.mul h.a).mono (by omega)) ((h.c.neg.mul h.b).mono (by omega)) (qZ hd h)
def ay (d : Int) : Prop := 2 ≤ d ∧ d ≤ 30 ∧ d ≠ 4 ∧ d ≠ 9 ∧ d ≠ 16 ∧ d ≠ 25
theorem Fh {d : Nat} (h : ∀ m : Nat, m * m ≠ d) : ∀ {a b : Nat}, a * a = d * (b * b) → b = 0 := fun {a b} e => by
  rcases Nat.eq_zero_or_pos b with hb | hb
  · exact hb
  exfalso
  obtain ⟨g, p, q, hg, hc, rfl, rfl⟩ := Nat.exists_coprime' (m := a) (n := b) (Nat.gcd_pos_of_pos_right _ hb)
  have e2 : (p * p) * (g * g) = (d * (q * q)) * (g * g) := by grind
  have e3 : p * p = d * (q * q) := Nat.eq_of_mul_eq_mul_right (Nat.mul_pos hg hg) e2
  have hq : q ∣ p * p := ⟨d * q, by rw [e3]; grind⟩
  have hq1 : q ∣ p := hc.symm.dvd_of_dvd_mul_left hq
  have hq2 : q = 1 := by
    have := Nat.dvd_gcd hq1 (Nat.dvd_refl q)
    rw [hc] at this
    exact Nat.dvd_one.mp this
  subst hq2
  exact h p (by rw [e3]; simp)
theorem ay.nat {d : Int} (h : ay d) : ∀ m : Nat, m * m ≠ d.toNat := fun m e => by
  obtain ⟨h1, h2, h3, h4, h5, h6⟩ := h
  have hm : m ≤ 5 := by
    rcases Nat.lt_or_ge 5 m with z | z
    · have := Nat.mul_le_mul z z; omega
    · exact z
  have : m = 0 ∨ m = 1 ∨ m = 2 ∨ m = 3 ∨ m = 4 ∨ m = 5 := by omega
  rcases this with rfl | rfl | rfl | rfl | rfl | rfl <;> omega
theorem ay.DF {d a b : Int} (h : ay d) (e : a * a = d * b * b) : a = 0 ∧ b = 0 := by
  have hd : d = ((d.toNat : Nat) : Int) := by have := h.1; omega
  have e1 : a.natAbs * a.natAbs = d.toNat * (b.natAbs * b.natAbs) := by
    have e2 := congrArg Int.natAbs e
    rw [Int.natAbs_mul, Int.natAbs_mul, Int.natAbs_mul] at e2
    rw [e2, Nat.mul_assoc]
    congr 1
    omega
  have hb := Fh h.nat e1
  have hb' : b = 0 := by omega
  subst hb'
  have : a * a = 0 := by rw [e]; simp
  exact ⟨by rcases Int.mul_eq_zero.mp this with z | z <;> exact z, rfl⟩
theorem ay.norm {d : Int} {x : N3} (h : ay d) (ok : Ok x) (hx : x ≠ ax) : norm d x ≠ 0 := fun e => by
  have e' : x.a * x.a = d * x.b * x.b := by unfold NM.norm at e; omega
  obtain ⟨h1, h2⟩ := h.DF e'
  apply hx
  have hg := ok.g
  rw [h1, h2] at hg
  have hc := ok.c
  have : x.c = 1 := by
    unfold g3 at hg
    simp [Int.gcd] at hg
    omega
  exact N3.ext' h1 h2 this
theorem az {d : Int} {x : N3} (h : NM.norm d x ≠ 0) : Ok (av d x) := i8 _ _ h
def sg (d a b : Int) : Int :=
  if a = 0 ∧ b = 0 then 0 else if 0 ≤ a ∧ 0 ≤ b then 1 else if a ≤ 0 ∧ b ≤ 0 then -1 else if (if d * b * b < a * a then a else b) > 0 then 1 else -1
theorem DU {u v : Int} (hu : 0 ≤ u) (h : u * u ≤ v * v) (hv : 0 ≤ v) : u ≤ v := by
  rcases Int.lt_or_le v u with z | z
  · have := Int.mul_lt_mul_of_pos_left z (show 0 < u by omega)
    have := Int.mul_le_mul_of_nonneg_right (Int.le_of_lt z) hv
    omega
  · exact z
theorem sq_nonneg (u : Int) : 0 ≤ u * u := by
  rcases Int.le_total 0 u with h | h
  · exact Int.mul_nonneg h h
  · exact Int.mul_nonneg_of_nonpos_of_nonpos h h
theorem sq_pos {u : Int} (h : u ≠ 0) : 0 < u * u := by
  have := sq_nonneg u
  have : u * u ≠ 0 := Int.mul_ne_zero h h
  omega
def P (d a b : Int) : Prop := (0 ≤ a ∧ 0 ≤ b ∧ ¬ (a = 0 ∧ b = 0)) ∨ (0 < a ∧ b < 0 ∧ d * b * b < a * a) ∨ (a < 0 ∧ 0 < b ∧ a * a < d * b * b)
theorem ja {d a b : Int} (h : ay d) : sg d a b = 1 ↔ P d a b := by
  unfold sg P
  have key : a * a = d * b * b → a = 0 ∧ b = 0 := h.DF
  by_cases c1 : d * b * b < a * a
  · simp only [c1, if_true]; split <;> (try split) <;> (try split) <;> (try split) <;> simp <;> omega
  · simp only [c1, if_false]; split <;> (try split) <;> (try split) <;> (try split) <;> simp <;> omega
theorem Dv {d a b : Int} (h : ay d) : sg d (-a) (-b) = - sg d a b := by
  unfold sg
  have key : a * a = d * b * b → a = 0 ∧ b = 0 := h.DF
  have e1 : d * -b * -b = d * b * b := by grind
  have e2 : -a * -a = a * a := by grind
  rw [e1, e2]
  by_cases c1 : d * b * b < a * a
  · simp only [c1, if_true]; split <;> split <;> (try split) <;> (try split) <;> (try split) <;> (try split) <;> (try split) <;> (try split) <;> omega
  · simp only [c1, if_false]; split <;> split <;> (try split) <;> (try split) <;> (try split) <;> (try split) <;> (try split) <;> (try split) <;> omega
theorem dI {d a b : Int} : sg d a b = 0 ↔ a = 0 ∧ b = 0 := by
  unfold sg; split <;> (try split) <;> (try split) <;> (try split) <;> omega
theorem jR (d a b : Int) : sg d a b = 0 ∨ sg d a b = 1 ∨ sg d a b = -1 := by
  unfold sg; split <;> (try split) <;> (try split) <;> (try split) <;> omega
theorem Nt {d a b : Int} (h : ay d) : (a = 0 ∧ b = 0) ∨ P d a b ∨ P d (-a) (-b) := by
  rcases jR d a b with e | e | e
  · exact .inl (dI.mp e)
  · exact .inr (.inl ((ja h).mp e))
  · exact .inr (.inr ((ja h).mp (by rw [Dv h, e]; rfl)))
theorem mC {d a b : Int} (h : ay d) (n : d * b * b < a * a) : P d a b ↔ 0 < a := by
  unfold P
  have := sq_nonneg b
  have h0 : 0 ≤ d * b * b := by rw [Int.mul_assoc]; exact Int.mul_nonneg (by have := h.1; omega) this
  have ha : a ≠ 0 := fun z => by subst z; simp at n; omega
  omega
theorem kn {d a b : Int} (h : ay d) (n : a * a < d * b * b) : P d a b ↔ 0 < b := by
  unfold P
  have h0 := sq_nonneg a
  have hb : b ≠ 0 := fun z => by subst z; simp at n; omega
  omega
theorem rR {u v : Int} (h : v * v < u * u) : 0 < u + v ↔ 0 < u := by
  have hu : u ≠ 0 := fun z => by subst z; have := sq_nonneg v; simp at h; omega
  have l : v.natAbs < u.natAbs := by
    rcases Nat.lt_or_ge v.natAbs u.natAbs with z | z
    · exact z
    · have := Nat.mul_le_mul z z
      have e1 : ((u.natAbs * u.natAbs : Nat) : Int) = u * u := Int.natAbs_mul_self
      have e2 : ((v.natAbs * v.natAbs : Nat) : Int) = v * v := Int.natAbs_mul_self
      omega
  omega
theorem mul_pos_iff {u v : Int} (hu : u ≠ 0) (hv : v ≠ 0) : 0 < u * v ↔ (0 < u ↔ 0 < v) := by
  rcases Int.lt_or_gt_of_ne hu with h | h <;> rcases Int.lt_or_gt_of_ne hv with g | g
  · have := Int.mul_pos_of_neg_of_neg h g; omega
  · have := Int.mul_neg_of_neg_of_pos h g; omega
  · have := Int.mul_neg_of_pos_of_neg h g; omega
  · have := Int.mul_pos h g; omega
theorem wz {u v s t : Int} (hu : 0 ≤ u) (h : u < v) (hs : 0 ≤ s) (g : s < t) : u * s < v * t := by
  have e1 : u * s ≤ v * s := Int.mul_le_mul_of_nonneg_right (Int.le_of_lt h) hs
  have e2 : v * s < v * t := Int.mul_lt_mul_of_pos_left g (by omega)
  omega
theorem dsq {d b : Int} (hd : 0 < d) : 0 ≤ d * b * b := by rw [Int.mul_assoc]; exact Int.mul_nonneg (Int.le_of_lt hd) (sq_nonneg b)
theorem Od {d a b p q : Int} (h : ay d) (h1 : ¬ (a = 0 ∧ b = 0)) (h2 : ¬ (p = 0 ∧ q = 0)) : P d (a * p + d * b * q) (a * q + b * p) ↔ (P d a b ↔ P d p q) := by
  have hd : 0 < d := by have := h.1; omega
  have n1 : a * a ≠ d * b * b := fun e => h1 (h.DF e)
  have n2 : p * p ≠ d * q * q := fun e => h2 (h.DF e)
  have pz : ∀ {u v : Int}, d * v * v < u * u → u ≠ 0 := fun {u v} e z => by subst z; have := dsq (b := v) hd; simp at e; omega
  have qz : ∀ {u v : Int}, u * u < d * v * v → v ≠ 0 := fun {u v} e z => by subst z; have := sq_nonneg u; simp at e; omega
  have id1 : (a * p + d * b * q) * (a * p + d * b * q) - d * (a * q + b * p) * (a * q + b * p) = (a * a - d * b * b) * (p * p - d * q * q) := by grind
  rcases Int.lt_or_gt_of_ne n1 with c1 | c1 <;> rcases Int.lt_or_gt_of_ne n2 with c2 | c2
  · have pp := Int.mul_pos_of_neg_of_neg (show a * a - d * b * b < 0 by omega) (show p * p - d * q * q < 0 by omega)
    rw [mC h (by omega), kn h c1, kn h c2]
    have sq : (a * p) * (a * p) < (d * b * q) * (d * b * q) := by
      have e2 := wz (sq_nonneg a) c1 (sq_nonneg p) c2
      grind
    rw [Int.add_comm, rR sq, Int.mul_assoc, mul_pos_iff (by omega) (Int.mul_ne_zero (qz c1) (qz c2)), mul_pos_iff (qz c1) (qz c2)]
    omega
  · have pp := Int.mul_neg_of_neg_of_pos (show a * a - d * b * b < 0 by omega) (show 0 < p * p - d * q * q by omega)
    rw [kn h (by omega), kn h c1, mC h c2]
    have sq : (a * q) * (a * q) < (b * p) * (b * p) := by
      have e2 := wz (sq_nonneg a) c1 (dsq (b := q) hd) c2
      have e3 : d * ((a * q) * (a * q)) < d * ((b * p) * (b * p)) := by grind
      exact Int.lt_of_mul_lt_mul_left e3 (Int.le_of_lt hd)
    rw [Int.add_comm, rR sq, mul_pos_iff (qz c1) (pz c2)]
  · have pp := Int.mul_neg_of_pos_of_neg (show 0 < a * a - d * b * b by omega) (show p * p - d * q * q < 0 by omega)
    rw [kn h (by omega), mC h c1, kn h c2]
    have sq : (b * p) * (b * p) < (a * q) * (a * q) := by
      have e2 := wz (dsq (b := b) hd) c1 (sq_nonneg p) c2
      have e3 : d * ((b * p) * (b * p)) < d * ((a * q) * (a * q)) := by grind
      exact Int.lt_of_mul_lt_mul_left e3 (Int.le_of_lt hd)
    rw [rR sq, mul_pos_iff (pz c1) (qz c2)]
  · have pp := Int.mul_pos (show 0 < a * a - d * b * b by omega) (show 0 < p * p - d * q * q by omega)
    rw [mC h (by omega), mC h c1, mC h c2]
    have sq : (d * b * q) * (d * b * q) < (a * p) * (a * p) := by
      have e2 := wz (dsq (b := b) hd) c1 (dsq (b := q) hd) c2
      grind
    rw [rR sq, mul_pos_iff (pz c1) (pz c2)]
theorem M8 {d A x B y : Int} (hd : 0 < d) (hA : 0 ≤ A) (hx : 0 ≤ x) (hB : 0 ≤ B) (hy : 0 ≤ y) (h1 : A * A ≤ d * B * B) (h2 : x * x ≤ d * y * y) : A * x ≤ d * (B * y) := by
  refine DU (Int.mul_nonneg hA hx) ?_ (Int.mul_nonneg (Int.le_of_lt hd) (Int.mul_nonneg hB hy))
  have := Int.mul_le_mul h1 h2 (sq_nonneg x) (dsq hd)
  grind
theorem T1 {d A x B y : Int} (hd : 0 < d) (hA : 0 ≤ A) (hx : 0 ≤ x) (hB : 0 ≤ B) (hy : 0 ≤ y) (h1 : A * A < d * B * B) (h2 : x * x < d * y * y) : (A + x) * (A + x) < d * (B + y) * (B + y) := by
  have := M8 hd hA hx hB hy (Int.le_of_lt h1) (Int.le_of_lt h2)
  grind
theorem T2 {d A x B y : Int} (hd : 0 < d) (hA : 0 ≤ A) (hx : 0 ≤ x) (hB : 0 ≤ B) (hy : 0 ≤ y) (h1 : d * B * B < A * A) (h2 : d * y * y < x * x) : d * (B + y) * (B + y) < (A + x) * (A + x) := by
  have : d * (B * y) ≤ A * x := by
    refine DU (Int.mul_nonneg (Int.le_of_lt hd) (Int.mul_nonneg hB hy)) ?_ (Int.mul_nonneg hA hx)
    have := wz (dsq (b := B) hd) h1 (dsq (b := y) hd) h2
    grind
  grind
theorem Z1 {d x1 y1 x2 y2 : Int} (hd : 0 < d) (h1 : x1 * x1 < d * y1 * y1) (h2 : d * y2 * y2 < x2 * x2) (a1 : 0 ≤ x2) (a2 : x2 ≤ x1) (a3 : 0 ≤ y1) (a4 : y1 ≤ y2) : False := by
  have e1 := Int.mul_le_mul a2 a2 a1 (Int.le_trans a1 a2)
  have e2 := Int.mul_le_mul_of_nonneg_left (Int.mul_le_mul a4 a4 a3 (Int.le_trans a3 a4)) (Int.le_of_lt hd)
  grind
theorem Z2 {d x1 y1 x2 y2 x3 y3 : Int} (hd : 0 < d) (h1 : x1 * x1 < d * y1 * y1) (h2 : d * y2 * y2 < x2 * x2) (h3 : d * y3 * y3 < x3 * x3) (a1 : 0 ≤ x2) (a2 : 0 ≤ y2) (a3 : 0 ≤ x3) (a4 : 0 ≤ y3) (e1 : x1 = x2 + x3) (e2 : y1 = y2 + y3) : False := by
  subst e1 e2
  have := T2 hd a1 a3 a2 a4 h2 h3
  omega
theorem Z3 {d x1 y1 x2 y2 x3 y3 : Int} (hd : 0 < d) (h1 : d * y1 * y1 < x1 * x1) (h2 : x2 * x2 < d * y2 * y2) (h3 : x3 * x3 < d * y3 * y3) (a1 : 0 ≤ x2) (a2 : 0 ≤ y2) (a3 : 0 ≤ x3) (a4 : 0 ≤ y3) (e1 : x1 = x2 + x3) (e2 : y1 = y2 + y3) : False := by
  subst e1 e2
  have := T1 hd a1 a3 a2 a4 h2 h3
  omega
theorem N5 {d a b p q u v : Int} (h : ay d) (h1 : P d a b) (h2 : P d p q) (h3 : P d u v) (e1 : a + p + u = 0) (e2 : b + q + v = 0) : False := by
  have hd : 0 < d := by have := h.1; omega
  unfold P at h1 h2 h3
  have x1 : ∀ {u c : Int}, u * u < c → -u * -u < c := fun {u c} e => by grind
  have x2 : ∀ {u c : Int}, c < u * u → c < -u * -u := fun {u c} e => by grind
  have x3 : ∀ {u c : Int}, c < d * u * u → c < d * -u * -u := fun {u c} e => by grind
  have x4 : ∀ {u c : Int}, d * u * u < c → d * -u * -u < c := fun {u c} e => by grind
  rcases h1 with ⟨u1, u2, u3⟩ | ⟨u1, u2, u3⟩ | ⟨u1, u2, u3⟩ <;> rcases h2 with ⟨v1, v2, v3⟩ | ⟨v1, v2, v3⟩ | ⟨v1, v2, v3⟩ <;> rcases h3 with ⟨w1, w2, w3⟩ | ⟨w1, w2, w3⟩ | ⟨w1, w2, w3⟩ <;> (try omega)
  all_goals first
    | exact Z1 hd (x1 u3) (x4 v3) (by omega) (by omega) (by omega) (by omega)
    | exact Z1 hd (x1 v3) (x4 u3) (by omega) (by omega) (by omega) (by omega)
    | exact Z1 hd (x1 u3) (x4 w3) (by omega) (by omega) (by omega) (by omega)
    | exact Z1 hd (x1 w3) (x4 u3) (by omega) (by omega) (by omega) (by omega)
    | exact Z1 hd (x1 v3) (x4 w3) (by omega) (by omega) (by omega) (by omega)
    | exact Z1 hd (x1 w3) (x4 v3) (by omega) (by omega) (by omega) (by omega)
    | exact Z2 hd (x1 u3) (x4 v3) (x4 w3) (by omega) (by omega) (by omega) (by omega) (by omega) (by omega)
    | exact Z2 hd (x1 v3) (x4 u3) (x4 w3) (by omega) (by omega) (by omega) (by omega) (by omega) (by omega)
    | exact Z2 hd (x1 w3) (x4 u3) (x4 v3) (by omega) (by omega) (by omega) (by omega) (by omega) (by omega)
    | exact Z3 hd (x4 u3) (x1 v3) (x1 w3) (by omega) (by omega) (by omega) (by omega) (by omega) (by omega)
    | exact Z3 hd (x4 v3) (x1 u3) (x1 w3) (by omega) (by omega) (by omega) (by omega) (by omega) (by omega)
    | exact Z3 hd (x4 w3) (x1 u3) (x1 v3) (by omega) (by omega) (by omega) (by omega) (by omega) (by omega)
theorem Ow {d a b p q : Int} (h : ay d) (h1 : P d a b) (h2 : P d p q) : P d (a + p) (b + q) := by
  rcases Nt (a := a + p) (b := b + q) h with ⟨e1, e2⟩ | e | e
  · have ea : p = -a := by omega
    have eb : q = -b := by omega
    subst ea eb
    have s1 := (ja h).mpr h1
    have s2 := (ja h).mpr h2
    rw [Dv h, s1] at s2
    omega
  · exact e
  · exact (N5 h h1 h2 e (by omega) (by omega)).elim
theorem yV {d a b p q : Int} (h : ay d) : sg d (a * p + d * b * q) (a * q + b * p) = sg d a b * sg d p q := by
  by_cases h1 : a = 0 ∧ b = 0
  · obtain ⟨rfl, rfl⟩ := h1
    have e : sg d (0 : Int) 0 = 0 := dI.mpr ⟨rfl, rfl⟩
    rw [e]; simp [dI]
  by_cases h2 : p = 0 ∧ q = 0
  · obtain ⟨rfl, rfl⟩ := h2
    have e : sg d (0 : Int) 0 = 0 := dI.mpr ⟨rfl, rfl⟩
    rw [e]; simp [dI]
  have k := Od h h1 h2
  have h3 : ¬ (a * p + d * b * q = 0 ∧ a * q + b * p = 0) := fun ⟨e1, e2⟩ => by
    have id1 : (a * p + d * b * q) * (a * p + d * b * q) - d * (a * q + b * p) * (a * q + b * p) = (a * a - d * b * b) * (p * p - d * q * q) := by grind
    rw [e1, e2] at id1
    simp only [Int.mul_zero, Int.sub_self] at id1
    rcases Int.mul_eq_zero.mp id1.symm with z | z
    · exact h1 (h.DF (by omega))
    · exact h2 (h.DF (by omega))
  rw [← ja h, ← ja h, ← ja h] at k
  have t1 := jR d a b
  have t2 := jR d p q
  have t3 := jR d (a * p + d * b * q) (a * q + b * p)
  have z1 : sg d a b ≠ 0 := fun z => h1 (dI.mp z)
  have z2 : sg d p q ≠ 0 := fun z => h2 (dI.mp z)
  have z3 : sg d (a * p + d * b * q) (a * q + b * p) ≠ 0 := fun z => h3 (dI.mp z)
  rcases t1 with e | e | e <;> rcases t2 with f | f | f <;> rcases t3 with g | g | g <;> simp_all
theorem nA {d a b k : Int} (h : ay d) (hk : 0 < k) : sg d (k * a) (k * b) = sg d a b := by
  have e := yV (a := k) (b := 0) (p := a) (q := b) h
  have e1 : sg d k 0 = 1 := by unfold sg; rw [if_neg (by omega), if_pos (by omega)]
  rw [e1] at e
  simpa using e
end NM
set_option linter.all false
set_option maxRecDepth 100000
set_option maxHeartbeats 4000000
namespace NM
structure Rep (x : N3) (A B C : Int) : Prop where
  c : C ≠ 0
  a : x.a * C = A * x.c
  b : x.b * C = B * x.c
section
variable {x y : N3} {A B C A' B' C' d : Int}
theorem ao (h : Ok x) : Rep x x.a x.b x.c := ⟨h.cn, rfl, rfl⟩
theorem jq {a b c : Int} (h : c ≠ 0) : Rep (low a b c) a b c := by
  obtain ⟨k, hk, _, p1, p2, p3, _⟩ := ki a b h
  generalize low a b c = z at *
  exact ⟨h, by grind, by grind⟩
theorem Rep.eq (ox : Ok x) (oy : Ok y) (h : Rep x A B C) (g : Rep y A' B' C') (e1 : A * C' = A' * C) (e2 : B * C' = B' * C) : x = y := by
  have hc : C * C' ≠ 0 := Int.mul_ne_zero h.c g.c
  obtain ⟨_, h1, h2⟩ := h
  obtain ⟨_, g1, g2⟩ := g
  exact ox.same oy (Int.eq_of_mul_eq_mul_right hc (by grind)) (Int.eq_of_mul_eq_mul_right hc (by grind))
theorem Rep.aX (h : Rep x A B C) : Rep (aX x) A (-B) C := ⟨h.c, h.a, by show -x.b * C = -B * x.c; have := h.b; grind⟩
theorem Rep.plus (ox : Ok x) (oy : Ok y) (h : Rep x A B C) (g : Rep y A' B' C') : Rep (plus x y) (A * C' + A' * C) (B * C' + B' * C) (C * C') := by
  have hc := si ox oy
  obtain ⟨_, q1, q2⟩ := jq (a := x.a * y.c + y.a * x.c) (b := x.b * y.c + y.b * x.c) hc
  obtain ⟨hc1, h1, h2⟩ := h
  obtain ⟨hc2, g1, g2⟩ := g
  change (NM.plus x y).a * (x.c * y.c) = _ * (NM.plus x y).c at q1
  change (NM.plus x y).b * (x.c * y.c) = _ * (NM.plus x y).c at q2
  generalize NM.plus x y = z at *
  exact ⟨Int.mul_ne_zero hc1 hc2, Int.eq_of_mul_eq_mul_right hc (by grind), Int.eq_of_mul_eq_mul_right hc (by grind)⟩
theorem Rep.less (ox : Ok x) (oy : Ok y) (h : Rep x A B C) (g : Rep y A' B' C') : Rep (less x y) (A * C' - A' * C) (B * C' - B' * C) (C * C') := by
  have hc := si ox oy
  obtain ⟨_, q1, q2⟩ := jq (a := x.a * y.c - y.a * x.c) (b := x.b * y.c - y.b * x.c) hc
  obtain ⟨hc1, h1, h2⟩ := h
  obtain ⟨hc2, g1, g2⟩ := g
  change (NM.less x y).a * (x.c * y.c) = _ * (NM.less x y).c at q1
  change (NM.less x y).b * (x.c * y.c) = _ * (NM.less x y).c at q2
  generalize NM.less x y = z at *
  exact ⟨Int.mul_ne_zero hc1 hc2, Int.eq_of_mul_eq_mul_right hc (by grind), Int.eq_of_mul_eq_mul_right hc (by grind)⟩
theorem Rep.times (ox : Ok x) (oy : Ok y) (h : Rep x A B C) (g : Rep y A' B' C') : Rep (times d x y) (A * A' + d * B * B') (A * B' + B * A') (C * C') := by
  have hc := si ox oy
  obtain ⟨_, q1, q2⟩ := jq (a := x.a * y.a + d * x.b * y.b) (b := x.a * y.b + x.b * y.a) hc
  obtain ⟨hc1, h1, h2⟩ := h
  obtain ⟨hc2, g1, g2⟩ := g
  change (NM.times d x y).a * (x.c * y.c) = _ * (NM.times d x y).c at q1
  change (NM.times d x y).b * (x.c * y.c) = _ * (NM.times d x y).c at q2
  generalize NM.times d x y = z at *
  exact ⟨Int.mul_ne_zero hc1 hc2, Int.eq_of_mul_eq_mul_right hc (by grind), Int.eq_of_mul_eq_mul_right hc (by grind)⟩
theorem Rep.norm (h : Rep x A B C) : NM.norm d x * (C * C) = (A * A - d * B * B) * (x.c * x.c) := by
  obtain ⟨_, h1, h2⟩ := h
  unfold NM.norm
  have e1 : x.a * x.a * (C * C) = A * A * (x.c * x.c) := by
    have : (x.a * C) * (x.a * C) = (A * x.c) * (A * x.c) := by rw [h1]
    grind
  have e2 : x.b * x.b * (C * C) = B * B * (x.c * x.c) := by
    have : (x.b * C) * (x.b * C) = (B * x.c) * (B * x.c) := by rw [h2]
    grind
  grind
theorem Rep.av (ox : Ok x) (hn : NM.norm d x ≠ 0) (h : Rep x A B C) : Rep (av d x) (C * A) (-C * B) (A * A - d * B * B) := by
  have hN := h.norm (d := d)
  have hcc : x.c * x.c ≠ 0 := Int.mul_ne_zero ox.cn ox.cn
  have hN0 : A * A - d * B * B ≠ 0 := fun z => by
    rw [z, Int.zero_mul] at hN
    rcases Int.mul_eq_zero.mp hN with w | w
    · exact hn w
    · rcases Int.mul_eq_zero.mp w with w | w <;> exact h.c w
  obtain ⟨_, q1, q2⟩ := jq (a := x.c * x.a) (b := -x.c * x.b) hn
  change (NM.av d x).a * NM.norm d x = _ * (NM.av d x).c at q1
  change (NM.av d x).b * NM.norm d x = _ * (NM.av d x).c at q2
  obtain ⟨hc1, h1, h2⟩ := h
  generalize NM.av d x = z at *
  generalize NM.norm d x = n at *
  generalize A * A - d * B * B = m at *
  refine ⟨hN0, ?_, ?_⟩
  · have e : z.a * m * (x.c * x.c) = C * A * z.c * (x.c * x.c) := by grind
    exact Int.eq_of_mul_eq_mul_right hcc e
  · have e : z.b * m * (x.c * x.c) = -C * B * z.c * (x.c * x.c) := by grind
    exact Int.eq_of_mul_eq_mul_right hcc e
theorem Rep.sg (hd : ay d) (ox : Ok x) (h : Rep x A B C) (hC : 0 < C) : sg d x.a x.b = NM.sg d A B := by
  have e1 := nA (a := x.a) (b := x.b) hd hC
  have e2 := nA (a := A) (b := B) hd ox.c
  rw [show C * x.a = x.c * A by have := h.a; grind, show C * x.b = x.c * B by have := h.b; grind] at e1
  rw [← e1, e2]
end
end NM
set_option linter.all false
set_option maxRecDepth 100000
set_option maxHeartbeats 4000000
namespace NM
def lean (d : Int) (x : N3) : N3 := times d (aX x) (av d x)
def dF (d : Int) (x : N3) : N3 := times d (times d (plus x (aX x)) (plus x (aX x))) (av d (times d x (aX x)))
section
variable {d : Int} {x y z : N3}
theorem Rep.div {A B C k : Int} (hk : k ≠ 0) (h : Rep x (k * A) (k * B) (k * C)) : Rep x A B C := by
  obtain ⟨c, e1, e2⟩ := h
  exact ⟨fun z => c (by rw [z, Int.mul_zero]), Int.eq_of_mul_eq_mul_left hk (by grind), Int.eq_of_mul_eq_mul_left hk (by grind)⟩
theorem EH {a b c : Int} (h : ay d) (hc : 0 < c) : sg d (low a b c).a (low a b c).b = sg d a b := (jq (show c ≠ 0 by omega)).sg h (i8 _ _ (by omega)) hc
theorem bH (h : ay d) (ox : Ok x) (oy : Ok y) : sg d (times d x y).a (times d x y).b = sg d x.a x.b * sg d y.a y.b := by
  unfold times
  rw [EH h (Int.mul_pos ox.c oy.c), yV h]
theorem vj : sg d one.a one.b = 1 := by
  unfold one sg
  rw [if_neg (by simp), if_pos (by simp)]
theorem aJ (h : ay d) (ox : Ok x) (hx : sg d x.a x.b = 1) : norm d x ≠ 0 := h.norm ox (fun e => by subst e; have : sg d ax.a ax.b = 0 := dI.mpr ⟨rfl, rfl⟩; omega)
theorem gM (ox : Ok x) (hn : norm d x ≠ 0) : times d x (av d x) = one := by
  have oc := az hn
  exact ((ao ox).times ox oc ((ao ox).av ox hn)).eq (ai ox oc) mZ (ao mZ) (by simp only [one]; grind) (by simp only [one]; grind)
theorem dY (h : ay d) (ox : Ok x) (hx : sg d x.a x.b = 1) : sg d (av d x).a (av d x).b = 1 := by
  have hn := aJ h ox hx
  have e := bH h ox (az hn)
  rw [gM ox hn, vj, hx] at e
  omega
theorem yj : norm d (aX y) = norm d y := by unfold norm aX; grind
theorem ph (h : ay d) (ox : Ok x) (hn : norm d x ≠ 0) : norm d (times d x (aX x)) ≠ 0 := by
  refine h.norm (ai ox (aB ox)) (fun e => ?_)
  have r := (ao ox).times (d := d) ox (aB ox) (ao ox).aX
  rw [e] at r
  have := r.a
  simp only [ax, Int.zero_mul, Int.mul_one] at this
  apply hn
  unfold norm
  grind
theorem lX (h : ay d) (hn : norm d x ≠ 0) (ox : Ok x) : Ok (dF d x) := by
  have op := aT ox (aB ox)
  exact ai (ai op op) (az (ph h ox hn))
theorem Er (h : ay d) (ox : Ok x) (hx : sg d x.a x.b = 1) : sg d x.a (-x.b) = sg d (norm d x) 0 := by
  have e := yV (a := x.a) (b := x.b) (p := x.a) (q := -x.b) h
  rw [hx, Int.one_mul] at e
  rw [← e]
  unfold norm
  congr 1 <;> grind
theorem kg {n : Int} : sg d n 0 = if n = 0 then 0 else if 0 < n then 1 else -1 := by
  unfold sg
  by_cases h : n = 0
  · simp [h]
  · rcases Int.lt_or_gt_of_ne h with z | z
    · rw [if_neg (by omega), if_neg (by omega), if_pos (by omega), if_neg h, if_neg (by omega)]
    · rw [if_neg (by omega), if_pos (by omega), if_neg h, if_pos (by omega)]
theorem zj {n : Int} : sg d 0 n = if n = 0 then 0 else if 0 < n then 1 else -1 := by
  unfold sg
  by_cases h : n = 0
  · simp [h]
  · rcases Int.lt_or_gt_of_ne h with z | z
    · rw [if_neg (by omega), if_neg (by omega), if_pos (by omega), if_neg h, if_neg (by omega)]
    · rw [if_neg (by omega), if_pos (by omega), if_neg h, if_pos (by omega)]
def W (x y : N3) : Int := x.b * y.a - x.a * y.b
theorem Rep.congr {A B C A' B' C' : Int} (h : Rep x A B C) (e1 : A = A') (e2 : B = B') (e3 : C = C') : Rep x A' B' C' := by subst e1 e2 e3; exact h
theorem Rep.neg {A B C : Int} (h : Rep x A B C) : Rep x (-A) (-B) (-C) := ⟨by have := h.c; omega, by rw [Int.mul_neg, Int.neg_mul, h.a], by rw [Int.mul_neg, Int.neg_mul, h.b]⟩
theorem lf1 (a c : Int) : a * c + a * c = c * (2 * a) := by grind
theorem lf2 (b c : Int) : b * c + -b * c = c * 0 := by grind
theorem lf3 (a b d : Int) : a * a + d * b * -b = a * a - d * b * b := by grind
theorem lf4 (a b : Int) : a * -b + b * a = 0 := by grind
theorem lf5 (a c n d : Int) : (2 * a * (2 * a) + d * 0 * 0) * (c * c * n) + d * (2 * a * 0 + 0 * (2 * a)) * (-(c * c) * 0) = c * c * n * (4 * (a * a)) := by grind
theorem lf6 (a c n d : Int) : (2 * a * (2 * a) + d * 0 * 0) * (-(c * c) * 0) + (2 * a * 0 + 0 * (2 * a)) * (c * c * n) = c * c * n * 0 := by grind
theorem lf7 (c n d : Int) : c * c * (n * n - d * 0 * 0) = c * c * n * n := by grind
structure J0 (z x y : N3) : Prop where
  ex : ∃ p q C : Int, 0 < p ∧ 0 < q ∧ 0 < C ∧ Rep z (p * x.a + q * y.a) (p * x.b + q * y.b) C
theorem Fz (ox : Ok x) (oy : Ok y) : J0 (plus x y) x y :=
  ⟨y.c, x.c, x.c * y.c, oy.c, ox.c, Int.mul_pos ox.c oy.c, by
    have r := (ao ox).plus ox oy (ao oy)
    exact ⟨r.c, by have := r.a; grind, by have := r.b; grind⟩⟩
theorem J0.pos (hd : ay d) (oz : Ok z) (h : J0 z x y) (hx : sg d x.a x.b = 1) (hy : sg d y.a y.b = 1) : sg d z.a z.b = 1 := by
  obtain ⟨p, q, C, hp, hq, hC, r⟩ := h.ex
  rw [r.sg hd oz hC, ja hd]
  refine Ow hd ?_ ?_
  · rw [← ja hd, nA hd hp]; exact hx
  · rw [← ja hd, nA hd hq]; exact hy
theorem FK (hd : ay d) (ox : Ok x) (hn : norm d x ≠ 0) : Rep (dF d x) (4 * (x.a * x.a)) 0 (norm d x) := by
  have op := aT ox (aB ox)
  have ot := ai (d := d) ox (aB ox)
  have np := ph hd ox hn
  have r1 := (ao ox).plus ox (aB ox) (ao ox).aX
  have r1' : Rep (plus x (aX x)) (2 * x.a) 0 x.c := Rep.div (k := x.c) ox.cn (r1.congr (lf1 ..) (lf2 ..) rfl)
  have r2 := (ao ox).times (d := d) ox (aB ox) (ao ox).aX
  have r2' : Rep (times d x (aX x)) (norm d x) 0 (x.c * x.c) := r2.congr (lf3 ..) (lf4 ..) rfl
  have r3 := (r1'.times (d := d) op op r1').times (d := d) (ai op op) (az np) (r2'.av ot np)
  have hk : x.c * x.c * norm d x ≠ 0 := Int.mul_ne_zero (si ox ox) hn
  exact Rep.div hk (r3.congr (lf5 ..) (lf6 ..) (lf7 ..))
end
end NM
set_option Elab.async false
set_option linter.all false
set_option maxRecDepth 100000
set_option maxHeartbeats 4000000
namespace L2.DL
open PySem PySem.Spec PyProof.Rows
abbrev Mu := Addr → Option (List PyData)
abbrev PQ := PySem.W.Frag → V → Mu → Hp → Prop
inductive D where
  | v (x : PyData)
  | m (a : Addr)
  | s (ns : List Int)
  /-- an object that is handed on -/
  | o (a : Addr)
  /-- a thing of which something is known that stays -/
  | q (P : PQ)
abbrev Rho := List (Option D)
def aV (μ : Mu) (a : Addr) (ds : List PyData) : Mu := fun b => if b = a then some ds else μ b
theorem cw {μ : Mu} {a : Addr} {ds} : aV μ a ds a = some ds := by unfold aV; rw [if_pos rfl]
theorem dP {μ : Mu} {a b : Addr} {ds} (h : b ≠ a) : aV μ a ds b = μ b := by unfold aV; rw [if_neg h]
theorem tF {μ : Mu} {a : Addr} {ds es} : aV (aV μ a ds) a es = aV μ a es := by
  funext b; unfold aV; split <;> rfl
mutual
inductive Rp (K : PySem.W.Frag) (μ : Mu) (H : Hp) : PyData → V → Prop
  | none : Rp K μ H .none .non
  | bool (b : Bool) : Rp K μ H (.bool b) (.bl b)
  | int (i : Int) : Rp K μ H (.int i) (.int i)
  | str (x : Str) : Rp K μ H (.str x) (.str x)
  | list {a : Addr} {xs : List V} {ds : List PyData} : H a = some (.lst xs) → μ a = Option.none → RpL K μ H ds xs → Rp K μ H (.list ds) (.ref a)
  | tuple {a : Addr} {xs : List V} {ds : List PyData} : SqT K H a xs → RpL K μ H ds xs → Rp K μ H (.tuple ds) (.ref a)
inductive RpL (K : PySem.W.Frag) (μ : Mu) (H : Hp) : List PyData → List V → Prop
  | nil : RpL K μ H [] []
  | cons {d : PyData} {v : V} {ds : List PyData} {vs : List V} : Rp K μ H d v → RpL K μ H ds vs → RpL K μ H (d :: ds) (v :: vs)
end
def NT : HO → Prop
  | .tbl _ => False
  | _ => True
structure Ext (K : PySem.W.Frag) (μ : Mu) (H : Hp) (μ' : Mu) (H' : Hp) : Prop where
  keep : ∀ b o, H b = some o → μ b = none → NT o → H' b = some o
  tb : ∀ b ps, H b = some (.tbl ps) → μ b = none → ∃ ps', H' b = some (.tbl ps')
  dom : ∀ b ds, μ b = some ds → ∃ es, μ' b = some es
  fresh : ∀ b, μ b = none → (H b ≠ none ∨ K.lookup b ≠ none) → μ' b = none
def RpD (K : PySem.W.Frag) (μ : Mu) (H : Hp) : D → V → Prop
  | .v x, u => Rp K μ H x u
  | .m a, u => u = .ref a ∧ ∃ ds, μ a = some ds
  | .s ns, u => ∃ a, u = .ref a ∧ SqL K H a (ns.map V.int) ∧ μ a = none
  | .o a, u => u = .ref a
  | .q P, u => ∀ μ' H', Ext K μ H μ' H' → P K u μ' H'
def codeAt (c : Addr) (q : Str) (h : Heap) : Prop := ∃ o vs t, h.get? c = some o ∧ o.data = .fields vs ∧ vs[1]? = some (.str q t)
abbrev JB (q : Str) : Str := (q ++ ".<locals>.") ++ "<lambda>"
def OE (H : Hp) (P : Addr) (q : Str) : Prop := ∃ ps : Array Value, H P = some (.tbl ps) ∧ TriplesOk ps.toList ∧ ∀ pos cv, codeAmong pos ps.toList = some cv → ∃ c, cv = .ref c ∧ H c = some (.ext (codeAt c (JB q)))
def AQ (K : PySem.W.Frag) (H : Hp) : Prop := ∀ c o P q, K.lookup c = some o → eE o = some (P, q) → OE H P q
structure dw (K : PySem.W.Frag) (μ : Mu) (H : Hp) : Prop where
  lst : ∀ a ds, μ a = some ds → ∃ xs, H a = some (.lst xs) ∧ RpL K μ H ds xs
  tab : AQ K H
instance {K : PySem.W.Frag} {μ : Mu} {H : Hp} : CoeFun (dw K μ H) fun _ => ∀ a ds, μ a = some ds → ∃ xs, H a = some (.lst xs) ∧ RpL K μ H ds xs := ⟨dw.lst⟩
theorem AQ.of {K : PySem.W.Frag} {H H1 : Hp} (t : AQ K H) (s : ∀ b o, H b = some o → (∀ xs, o ≠ .lst xs) → H1 b = some o) : AQ K H1 := fun c o P q h1 h2 => by
  obtain ⟨ps, a1, a2, a3⟩ := t c o P q h1 h2
  exact ⟨ps, s _ _ a1 (fun _ z => nomatch z), a2, fun pos cv e => let ⟨c, q1, q2⟩ := a3 pos cv e; ⟨c, q1, s _ _ q2 (fun _ z => nomatch z)⟩⟩
def jh (K : PySem.W.Frag) (μ : Mu) (H : Hp) (ρ : Rho) (σ : St) : Prop :=
  ρ.length = σ.length ∧ ∀ (i : Nat) (d : D), ρ[i]? = some (some d) → ∃ u, σ[i]? = some (some u) ∧ RpD K μ H d u
structure St0 (K : PySem.W.Frag) (H : Hp) (ρ : Rho) (μ : Mu) (σ : St) : Prop where
  mu : dw K μ H
  rho : jh K μ H ρ σ
section
variable {K : PySem.W.Frag} {μ μ1 μ2 : Mu} {H H1 H2 : Hp}
theorem Ext.refl : Ext K μ H μ H := ⟨fun _ _ h _ _ => h, fun _ ps h _ => ⟨ps, h⟩, fun _ ds h => ⟨ds, h⟩, fun _ h _ => h⟩
theorem Ext.trans (a : Ext K μ H μ1 H1) (b : Ext K μ1 H1 μ2 H2) : Ext K μ H μ2 H2 where
  keep := fun c o h n t => b.keep c o (a.keep c o h n t) (a.fresh c n (.inl (by rw [h]; exact fun z => nomatch z))) t
  tb := fun c ps h n => by
    obtain ⟨ps1, h1⟩ := a.tb c ps h n
    exact b.tb c ps1 h1 (a.fresh c n (.inl (by rw [h]; exact fun z => nomatch z)))
  dom := fun c ds h => let ⟨es, q⟩ := a.dom c ds h; b.dom c es q
  fresh := fun c n h => by
    refine b.fresh c (a.fresh c n h) ?_
    rcases h with h | h
    · cases q : H c with
      | none => exact absurd q h
      | some o =>
        by_cases t : NT o
        · exact .inl (by rw [a.keep c o q n t]; exact fun z => nomatch z)
        · cases o with
          | tbl ps =>
            obtain ⟨ps1, h1⟩ := a.tb c ps q n
            exact .inl (by rw [h1]; exact fun z => nomatch z)
          | _ => exact absurd trivial t
    · exact .inr h
theorem Ext.of_same (s : qx H H1) : Ext K μ H μ H1 := ⟨fun b o h _ _ => s b o h, fun b ps h _ => ⟨ps, s b _ h⟩, fun _ ds h => ⟨ds, h⟩, fun _ h _ => h⟩
theorem dw.not {a : Addr} {o : HO} (ok : dw K μ H) (h : H a = some o) (n : ∀ xs, o ≠ .lst xs) : μ a = none := by
  cases q : μ a with
  | none => rfl
  | some ds =>
    obtain ⟨ys, e, _⟩ := ok a ds q
    rw [h] at e
    exact absurd (Option.some.inj e) (n ys)
theorem dw.free {a : Addr} (ok : dw K μ H) (h : H a = none) : μ a = none := by
  cases q : μ a with
  | none => rfl
  | some ds =>
    obtain ⟨ys, e, _⟩ := ok a ds q
    rw [h] at e; cases e
theorem zN {a : Addr} {xs : List V} (ok : dw K μ H) (e : Ext K μ H μ1 H1) (h : SqT K H a xs) : SqT K H1 a xs := by
  rcases h with (h | ⟨o, h⟩) | h
  · exact .inl (.inl (e.keep _ _ h (ok.not h fun _ z => nomatch z) trivial))
  · exact .inl (.inr ⟨o, e.keep _ _ h (ok.not h fun _ z => nomatch z) trivial⟩)
  · exact .inr h
theorem DX {a : Addr} {xs : List V} (e : Ext K μ H μ1 H1) (h : SqL K H a xs) (n : μ a = none) : SqL K H1 a xs ∧ μ1 a = none := by
  rcases h with (h | ⟨o, h⟩) | h
  · exact ⟨.inl (.inl (e.keep _ _ h n trivial)), e.fresh _ n (.inl (by rw [h]; exact fun z => nomatch z))⟩
  · exact ⟨.inl (.inr ⟨o, e.keep _ _ h n trivial⟩), e.fresh _ n (.inl (by rw [h]; exact fun z => nomatch z))⟩
  · obtain ⟨o, its, k, hk, r⟩ := id h
    exact ⟨.inr h, e.fresh _ n (.inr (by rw [hk]; exact fun z => nomatch z))⟩
mutual
theorem Rp.ext {d : PyData} {u : V} (ok : dw K μ H) (e : Ext K μ H μ1 H1) : Rp K μ H d u → Rp K μ1 H1 d u
  | .none => .none
  | .bool b => .bool b
  | .int i => .int i
  | .str x => .str x
  | .list h n r => .list (e.keep _ _ h n trivial) (e.fresh _ n (.inl (by rw [h]; exact fun z => nomatch z))) (RpL.ext ok e r)
  | .tuple h r => .tuple (zN ok e h) (RpL.ext ok e r)
theorem RpL.ext {ds : List PyData} {us : List V} (ok : dw K μ H) (e : Ext K μ H μ1 H1) : RpL K μ H ds us → RpL K μ1 H1 ds us
  | .nil => .nil
  | .cons h r => .cons (Rp.ext ok e h) (RpL.ext ok e r)
end
theorem RpD.ext {d : D} {u : V} (ok : dw K μ H) (e : Ext K μ H μ1 H1) (r : RpD K μ H d u) : RpD K μ1 H1 d u := by
  cases d with
  | v x => exact Rp.ext ok e r
  | m a => obtain ⟨h, ds, q⟩ := r; exact ⟨h, e.dom a ds q⟩
  | s ns => obtain ⟨a, h, q, n⟩ := r; exact ⟨a, h, (DX e q n).1, (DX e q n).2⟩
  | o a => exact r
  | q P => exact fun μ' H' e' => r μ' H' (e.trans e')
theorem jh.ext {ρ : Rho} {σ : St} (ok : dw K μ H) (e : Ext K μ H μ1 H1) (r : jh K μ H ρ σ) : jh K μ1 H1 ρ σ :=
  ⟨r.1, fun i d h => let ⟨u, h1, h2⟩ := r.2 i d h; ⟨u, h1, h2.ext ok e⟩⟩
theorem RpL.length {ds : List PyData} {us : List V} : RpL K μ H ds us → ds.length = us.length
  | .nil => rfl
  | .cons _ r => congrArg (· + 1) (RpL.length r)
theorem RpL.get {ds : List PyData} {us : List V} : ∀ {i : Nat} {d : PyData}, RpL K μ H ds us → ds[i]? = some d → ∃ u, us[i]? = some u ∧ Rp K μ H d u
  | _, _, .nil, h => by simp at h
  | 0, _, .cons r _, h => by simp at h; subst h; exact ⟨_, rfl, r⟩
  | i + 1, d, .cons _ t, h => by
    obtain ⟨u, h1, h2⟩ := RpL.get (i := i) (d := d) t (by simpa using h)
    exact ⟨u, by simpa using h1, h2⟩
theorem RpL.append {ds es : List PyData} {us ws : List V} : RpL K μ H ds us → RpL K μ H es ws → RpL K μ H (ds ++ es) (us ++ ws)
  | .nil, s => s
  | .cons r t, s => .cons r (RpL.append t s)
theorem RpL.take {ds : List PyData} {us : List V} : ∀ (n : Nat), RpL K μ H ds us → RpL K μ H (ds.take n) (us.take n)
  | 0, _ => by simp; exact .nil
  | _ + 1, .nil => by simp; exact .nil
  | n + 1, .cons r t => .cons r (RpL.take n t)
theorem RpL.drop {ds : List PyData} {us : List V} : ∀ (n : Nat), RpL K μ H ds us → RpL K μ H (ds.drop n) (us.drop n)
  | 0, r => r
  | _ + 1, .nil => by simp; exact .nil
  | n + 1, .cons _ t => RpL.drop n t
theorem RpL.reverse {ds : List PyData} {us : List V} : RpL K μ H ds us → RpL K μ H ds.reverse us.reverse
  | .nil => .nil
  | .cons r t => by rw [List.reverse_cons, List.reverse_cons]; exact (RpL.reverse t).append (.cons r .nil)
theorem RpL.set {ds : List PyData} {us : List V} {d : PyData} {u : V} (q : Rp K μ H d u) : ∀ (i : Nat), RpL K μ H ds us → RpL K μ H (ds.set i d) (us.set i u)
  | _, .nil => .nil
  | 0, .cons _ t => .cons q t
  | i + 1, .cons r t => .cons r (RpL.set q i t)
theorem CN {ds : List PyData} {us : List V} {i : Int} {d : PyData} (r : RpL K μ H ds us) (h : atI ds i = some d) : ∃ u, atI us i = some u ∧ Rp K μ H d u := by
  unfold atI at h ⊢
  rw [← r.length]
  cases q : ixN ds.length i with
  | none => rw [q] at h; cases h
  | some j =>
    rw [q] at h
    exact r.get h
abbrev DK := D → Mu → Prop
abbrev DTE := Rho → Mu → DK → Prop
abbrev DTT := Rho → Mu → (Bool → Mu → Prop) → Prop
abbrev DTA := Rho → Mu → (List D → Mu → Prop) → Prop
structure GU where
  nx : Rho → Mu → Prop
  rt : DK
  bk : Rho → Mu → Prop := fun _ _ => False
  ct : Rho → Mu → Prop := fun _ _ => False
abbrev DTS := GU → Rho → Mu → Prop
inductive kP (K : PySem.W.Frag) (μ : Mu) (H : Hp) : List D → List V → Prop
  | nil : kP K μ H [] []
  | cons {d : D} {u : V} {ds : List D} {us : List V} : RpD K μ H d u → kP K μ H ds us → kP K μ H (d :: ds) (u :: us)
theorem kP.ext {ds : List D} {us : List V} (ok : dw K μ H) (e : Ext K μ H μ1 H1) : kP K μ H ds us → kP K μ1 H1 ds us
  | .nil => .nil
  | .cons h r => .cons (h.ext ok e) (kP.ext ok e r)
theorem kP.length {ds : List D} {us : List V} : kP K μ H ds us → ds.length = us.length
  | .nil => rfl
  | .cons _ r => congrArg (· + 1) (kP.length r)
end
def sF (K : PySem.W.Frag) (t : TE) (td : DTE) : Prop := ∀ (σ : St) (H : Hp) (ρ : Rho) (μ : Mu) (Qd : DK) (Q : VK), St0 K H ρ μ σ → td ρ μ Qd →
  (∀ d u μ' H', Ext K μ H μ' H' → St0 K H' ρ μ' σ → RpD K μ' H' d u → Qd d μ' → Q u H') → t σ H Q
def IC (K : PySem.W.Frag) (t : TT) (td : DTT) : Prop := ∀ (σ : St) (H : Hp) (ρ : Rho) (μ : Mu) (Qd : Bool → Mu → Prop) (Q : Bool → Hp → Prop), St0 K H ρ μ σ → td ρ μ Qd →
  (∀ b μ' H', Ext K μ H μ' H' → St0 K H' ρ μ' σ → Qd b μ' → Q b H') → t σ H Q
def KD (K : PySem.W.Frag) (n : Nat) (t : TA) (td : DTA) : Prop := ∀ (σ : St) (H : Hp) (ρ : Rho) (μ : Mu) (Qd : List D → Mu → Prop) (Q : List V → Hp → Prop), St0 K H ρ μ σ → td ρ μ Qd →
  (∀ ds us μ' H', Ext K μ H μ' H' → St0 K H' ρ μ' σ → kP K μ' H' ds us → ds.length = n → Qd ds μ' → Q us H') → t σ H Q
def yk (K : PySem.W.Frag) (t : TS) (td : DTS) : Prop := ∀ (σ : St) (H : Hp) (ρ : Rho) (μ : Mu) (Dd : GU) (De : Ends), St0 K H ρ μ σ → td Dd ρ μ →
  (∀ σ' ρ' μ' H', Ext K μ H μ' H' → St0 K H' ρ' μ' σ' → Dd.nx ρ' μ' → De.nx σ' H') →
  (∀ d u μ' H', Ext K μ H μ' H' → dw K μ' H' → RpD K μ' H' d u → Dd.rt d μ' → De.rt u H') →
  (∀ σ' ρ' μ' H', Ext K μ H μ' H' → St0 K H' ρ' μ' σ' → Dd.bk ρ' μ' → De.bk σ' H') →
  (∀ σ' ρ' μ' H', Ext K μ H μ' H' → St0 K H' ρ' μ' σ' → Dd.ct ρ' μ' → De.ct σ' H') → t De σ H
def DE (X : Cx) (e : Expr) (td : DTE) : Prop := ∃ t, PE X e t ∧ sF X.K t td
def DT (X : Cx) (e : Expr) (td : DTT) : Prop := ∃ t, PT X e t ∧ IC X.K t td
def DA (X : Cx) (es : List Expr) (td : DTA) : Prop := ∃ t, PA X es t ∧ KD X.K es.length t td
def DS (X : Cx) (st : Stmt) (td : DTS) : Prop := ∃ t, PS X st t ∧ yk X.K t td
def DSs (X : Cx) (st : List Stmt) (td : DTS) : Prop := ∃ t, PSs X st t ∧ yk X.K t td
section
variable {X : Cx} {a b c : Expr} {ta tb tc : DTE} {pos : Pos}
def ae (i : Nat) : DTE := fun ρ μ Q => match ρ[i]? with
  | some (some d) => Q d μ
  | _ => False
def dC (x : PyData) : DTE := fun _ μ Q => Q (.v x) μ
theorem Ih {K : PySem.W.Frag} (i : Nat) : sF K (Nr i) (ae i) := by
  intro σ H ρ μ Qd Q S h k
  unfold ae at h
  split at h
  · rename_i d e
    obtain ⟨u, h1, h2⟩ := S.rho.2 i d e
    exact ⟨u, h1, k d u μ H .refl S h2 h⟩
  · exact h.elim
theorem dv (i : Nat) {x : Str} {pos : Pos} (hN : X.N[i]? = some x := by rfl) (hv : Vis X.env.scope x := by first | exact Or.inl rfl | exact Or.inr (Or.inl rfl) | exact Or.inr (Or.inr rfl)) (hd : (x == ("__debug__" : Str)) = false := by decide)
    (hcd : (x == ("__classdict__" : Str)) = false := by decide) : DE X (.Name x pos) (ae i) := ⟨_, Mi hN hv hd hcd, Ih i⟩
theorem wW {K : PySem.W.Frag} {x : PyData} {u : V} (h : ∀ μ H, dw K μ H → Rp K μ H x u) : sF K (tC u) (dC x) := fun σ H ρ μ Qd Q S q k => k (.v x) u μ H .refl S (h μ H S.mu) q
theorem ag {i j pos} : DE X (.Constant (.int i) j pos) (dC (.int i)) := ⟨_, LW, wW fun _ _ _ => .int i⟩
theorem j5 {i j pos} : DE X (.Constant (.bool i) j pos) (dC (.bool i)) := ⟨_, N9, wW fun _ _ _ => .bool i⟩
theorem C4 {j pos} : DE X (.Constant .none j pos) (dC .none) := ⟨_, Lq, wW fun _ _ _ => .none⟩
theorem gX {x j pos} : DE X (.Constant (.str x) j pos) (dC (.str x)) := ⟨_, L0, wW fun _ _ _ => .str x⟩
theorem Ez {x : Str} {d : PyData} {u : V} {w : Value} {pos : Pos} (hg : Gl X x) (hm : X.mg x = some w) (r : RelV u w) (h : ∀ μ H, dw X.K μ H → Rp X.K μ H d u) (hd : (x == ("__debug__" : Str)) = false := by decide) : DE X (.Name x pos) (dC d) :=
  ⟨_, JR hg hm r hd, wW h⟩
def kI (K : PySem.W.Frag) (rr : R2) (r : D → D → Mu → DK → Prop) : Prop := ∀ (x y : D) (ux uy : V) (H : Hp) (μ : Mu) (Qd : DK) (Q : VK), dw K μ H → RpD K μ H x ux → RpD K μ H y uy → r x y μ Qd →
  (∀ d u μ' H', Ext K μ H μ' H' → dw K μ' H' → RpD K μ' H' d u → Qd d μ' → Q u H') → rr ux uy H Q
def dOp (r : D → D → Mu → DK → Prop) (ta tb : DTE) : DTE := fun ρ μ Q => ta ρ μ fun x μ1 => tb ρ μ1 fun y μ2 => r x y μ2 Q
theorem vg {K : PySem.W.Frag} {rr : R2} {r} {t1 t2 : TE} (lo : kI K rr r) (la : sF K t1 ta) (lb : sF K t2 tb) : sF K (tOp rr t1 t2) (dOp r ta tb) := by
  intro σ H ρ μ Qd Q S h k
  refine la σ H ρ μ _ _ S h fun x ux μ1 H1 e1 S1 rx h1 => ?_
  refine lb σ H1 ρ μ1 _ _ S1 h1 fun y uy μ2 H2 e2 S2 ry h2 => ?_
  exact lo x y ux uy H2 μ2 _ _ S2.mu (rx.ext S1.mu e2) ry h2 fun d u μ' H' e3 ok r q => k d u μ' H' (e1.trans (e2.trans e3)) ⟨ok, S2.rho.ext S2.mu e3⟩ r q
theorem vN {op : Operator} {rr : R2} {r} (ho : OpR X (binaryOp op) rr) (lo : kI X.K rr r) (ha : DE X a ta) (hb : DE X b tb) : DE X (.BinOp a op b pos) (dOp r ta tb) := by
  obtain ⟨t1, p1, l1⟩ := ha
  obtain ⟨t2, p2, l2⟩ := hb
  exact ⟨_, N4 ho p1 p2, vg lo l1 l2⟩
theorem eC {op : CmpOp} {rr : R2} {r} (ho : OpR X (compareOp op) rr) (lo : kI X.K rr r) (ha : DE X a ta) (hb : DE X b tb) (hm : behindInMarks op b = false) : DE X (.Compare a [op] [b] pos) (dOp r ta tb) := by
  obtain ⟨t1, p1, l1⟩ := ha
  obtain ⟨t2, p2, l2⟩ := hb
  exact ⟨_, JH ho p1 p2 hm, vg lo l1 l2⟩
def dB (t : DTE) : DTT := fun ρ μ Q => t ρ μ fun d μ1 => match d with
  | .v (.bool k) => Q k μ1
  | _ => False
theorem yx {K : PySem.W.Frag} {t : TE} {td : DTE} (l : sF K t td) : IC K (Kz t) (dB td) := by
  intro σ H ρ μ Qd Q S h k
  refine l σ H ρ μ _ _ S h fun d u μ1 H1 e1 S1 r q => ?_
  split at q
  · rename_i b
    cases r
    exact ⟨b, rfl, k b μ1 H1 e1 S1 q⟩
  · exact q.elim
theorem aY {op : CmpOp} {rr : R2} {r} (ho : OpR X (compareOp op) rr) (lo : kI X.K rr r) (ha : DE X a ta) (hb : DE X b tb) (hm : behindInMarks op b = false) : DT X (.Compare a [op] [b] pos) (dB (dOp r ta tb)) := by
  obtain ⟨t1, p1, l1⟩ := ha
  obtain ⟨t2, p2, l2⟩ := hb
  exact ⟨_, Jl ho p1 p2 hm, yx (vg lo l1 l2)⟩
theorem dc {e : Expr} {td : DTE} (h : DE X e td) (he : ∀ whole, isTrue e X.env whole = (do let v ← whole; standAt e.pos; holding [v] (truthy v)) := by intro _; rfl) : DT X e (dB td) := by
  obtain ⟨t, p, l⟩ := h
  exact ⟨_, LF p he, yx l⟩
def rII (C : Int → Int → Prop) (g : Int → Int → PyData) : D → D → Mu → DK → Prop := fun x y μ Q => match x, y with
  | .v (.int i), .v (.int j) => C i j ∧ Q (.v (g i j)) μ
  | _, _ => False
theorem J9 {K : PySem.W.Frag} {C : Int → Int → Prop} {g : Int → Int → V} {gd : Int → Int → PyData} (hg : ∀ μ H i j, Rp K μ H (gd i j) (g i j)) : kI K (rI C g) (rII C gd) := by
  intro x y ux uy H μ Qd Q ok rx ry h k
  unfold rII at h
  split at h
  · rename_i i j
    cases rx; cases ry
    exact ⟨i, j, rfl, rfl, h.1, k (.v _) _ μ H .refl ok (hg μ H i j) h.2⟩
  · exact h.elim
def xu (g : Int → Int → PyData) : D → D → Mu → DK → Prop := fun x y μ Q => match x, y with
  | .v (.int i), .v (.int j) => Q (.v (g i j)) μ
  | _, _ => False
theorem D8 {K : PySem.W.Frag} {g : Int → Int → V} {gd : Int → Int → PyData} (hg : ∀ μ H i j, Rp K μ H (gd i j) (g i j)) : kI K (rI0 g) (xu gd) := by
  intro x y ux uy H μ Qd Q ok rx ry h k
  unfold xu at h
  split at h
  · rename_i i j
    cases rx; cases ry
    exact ⟨i, j, rfl, rfl, k (.v _) _ μ H .refl ok (hg μ H i j) h⟩
  · exact h.elim
abbrev lH (ta tb : DTE) : DTE := dOp (xu fun i j => .int (i + j)) ta tb
abbrev qb (ta tb : DTE) : DTE := dOp (xu fun i j => .int (i - j)) ta tb
abbrev MulOk (i j : Int) : Prop := IntMulOk i j
abbrev cq (ta tb : DTE) : DTE := dOp (rII MulOk fun i j => .int (i * j)) ta tb
abbrev wX (ta tb : DTE) : DTE := dOp (rII (fun _ j => j ≠ 0) fun i j => .int (i.fmod j)) ta tb
abbrev uO (i j : Int) : Prop := j ≠ 0 ∧ Builtin.divisionGoesByPylong i j = false
abbrev wq (ta tb : DTE) : DTE := dOp (rII uO fun i j => .int (i.fdiv j)) ta tb
abbrev Mo (ta tb : DTE) : DTE := dOp (rII Mz fun i j => .int (i ^ j.toNat)) ta tb
theorem Jr : OpR X (binaryOp .Mult) (rI MulOk fun i j => .int (i * j)) := opI fun _ _ _ _ _ _ _ hc q => mul_int q hc
theorem Kh : OpR X (binaryOp .FloorDiv) (rI uO fun i j => .int (i.fdiv j)) := opI fun _ _ _ _ _ _ _ hc q => floordiv_int hc.1 q (.inl hc.2)
theorem d8 (ha : DE X a ta) (hb : DE X b tb) : DE X (.BinOp a .Add b pos) (lH ta tb) := vN Ii (D8 fun _ _ _ _ => .int _) ha hb
theorem gU (ha : DE X a ta) (hb : DE X b tb) : DE X (.BinOp a .Sub b pos) (qb ta tb) := vN Ma (D8 fun _ _ _ _ => .int _) ha hb
theorem aP (ha : DE X a ta) (hb : DE X b tb) : DE X (.BinOp a .Mult b pos) (cq ta tb) := vN Jr (J9 fun _ _ _ _ => .int _) ha hb
theorem kM (ha : DE X a ta) (hb : DE X b tb) : DE X (.BinOp a .Mod b pos) (wX ta tb) := vN Ki (J9 fun _ _ _ _ => .int _) ha hb
theorem lh (ha : DE X a ta) (hb : DE X b tb) : DE X (.BinOp a .FloorDiv b pos) (wq ta tb) := vN Kh (J9 fun _ _ _ _ => .int _) ha hb
theorem Hy (ha : DE X a ta) (hb : DE X b tb) : DE X (.BinOp a .Pow b pos) (Mo ta tb) := vN MZ (J9 fun _ _ _ _ => .int _) ha hb
abbrev rLt := xu fun i j => .bool (decide (i < j))
abbrev rLe := xu fun i j => .bool (decide (i ≤ j))
abbrev rGt := xu fun i j => .bool (decide (j < i))
abbrev rGe := xu fun i j => .bool (decide (j ≤ i))
theorem fG {K : PySem.W.Frag} {p : Int → Int → Bool} : kI K (rI0 fun i j => .bl (p i j)) (xu fun i j => .bool (p i j)) := D8 fun _ _ _ _ => .bool _
def vZ (ta : DTE) : DTE := fun ρ μ Q => ta ρ μ fun x μ1 => match x with
  | .v (.int i) => Q (.v (.int (-i))) μ1
  | _ => False
theorem mW (ha : DE X a ta) : DE X (.UnaryOp .USub a pos) (vZ ta) := by
  obtain ⟨t1, p1, l1⟩ := ha
  refine ⟨_, Ou Lp p1, fun σ H ρ μ Qd Q S h k => ?_⟩
  refine l1 σ H ρ μ _ _ S h fun x ux μ1 H1 e1 S1 rx h1 => ?_
  split at h1
  · rename_i i
    cases rx
    exact ⟨i, rfl, k (.v _) _ μ1 H1 e1 S1 (Rp.int _) h1⟩
  · exact h1.elim
def uF (t u : DTT) : DTT := fun ρ μ Q => t ρ μ fun c μ1 => if c = true then u ρ μ1 Q else Q false μ1
def qB (t u : DTT) : DTT := fun ρ μ Q => t ρ μ fun c μ1 => if c = true then Q true μ1 else u ρ μ1 Q
def hU (t : DTT) : DTT := fun ρ μ Q => t ρ μ fun c μ1 => Q (!c) μ1
def DW (X : Cx) (e : Expr) (td : DTT) : Prop := ∃ t, PW X e t ∧ IC X.K t td
theorem DW.dt {e : Expr} {td : DTT} (h : DW X e td) : DT X e td := let ⟨t, p, l⟩ := h; ⟨t, p.pt, l⟩
variable {tA tB' : DTT} {rest : List Expr}
theorem pC (ha : DT X a tA) : DW X (.BoolOp .And [a] pos) tA := let ⟨t, p, l⟩ := ha; ⟨t, pw_and1 p, l⟩
theorem jU (ha : DT X a tA) : DW X (.BoolOp .Or [a] pos) tA := let ⟨t, p, l⟩ := ha; ⟨t, pw_or1 p, l⟩
theorem tT (ha : DT X a tA) (hb : DW X (.BoolOp .And (b :: rest) pos) tB') : DW X (.BoolOp .And (a :: b :: rest) pos) (uF tA tB') := by
  obtain ⟨t1, p1, l1⟩ := ha
  obtain ⟨t2, p2, l2⟩ := hb
  refine ⟨_, pw_and p1 p2, fun σ H ρ μ Qd Q S h k => ?_⟩
  refine l1 σ H ρ μ _ _ S h fun c μ1 H1 e1 S1 h1 => ?_
  cases c with
  | true =>
    refine Af (l2 σ H1 ρ μ1 _ _ S1 (by simpa using h1) fun c μ2 H2 e2 S2 h2 => k c μ2 H2 (e1.trans e2) S2 h2)
  | false => exact Aa (k false μ1 H1 e1 S1 (by simpa using h1))
theorem lC (ha : DT X a tA) (hb : DW X (.BoolOp .Or (b :: rest) pos) tB') : DW X (.BoolOp .Or (a :: b :: rest) pos) (qB tA tB') := by
  obtain ⟨t1, p1, l1⟩ := ha
  obtain ⟨t2, p2, l2⟩ := hb
  refine ⟨_, pw_or p1 p2, fun σ H ρ μ Qd Q S h k => ?_⟩
  refine l1 σ H ρ μ _ _ S h fun c μ1 H1 e1 S1 h1 => ?_
  cases c with
  | true => exact Af (k true μ1 H1 e1 S1 (by simpa using h1))
  | false =>
    refine Aa (l2 σ H1 ρ μ1 _ _ S1 (by simpa using h1) fun c μ2 H2 e2 S2 h2 => k c μ2 H2 (e1.trans e2) S2 h2)
theorem fE (ha : DT X a tA) : DT X (.UnaryOp .Not a pos) (hU tA) := by
  obtain ⟨t1, p1, l1⟩ := ha
  refine ⟨_, LH p1, fun σ H ρ μ Qd Q S h k => ?_⟩
  exact l1 σ H ρ μ _ _ S h fun c μ1 H1 e1 S1 h1 => k _ μ1 H1 e1 S1 h1
def vK (ta tb : DTE) : DTE := fun ρ μ Q => ta ρ μ fun x μ1 => match x with
  | .v (.bool c) => if c = true then tb ρ μ1 Q else Q (.v (.bool false)) μ1
  | _ => False
def Kd (ta tb : DTE) : DTE := fun ρ μ Q => ta ρ μ fun x μ1 => match x with
  | .v (.bool c) => if c = true then Q (.v (.bool true)) μ1 else tb ρ μ1 Q
  | _ => False
def Ea (ta : DTE) : DTE := fun ρ μ Q => ta ρ μ fun x μ1 => match x with
  | .v (.bool c) => Q (.v (.bool (!c))) μ1
  | _ => False
theorem qm {op} (h : DE X a ta) : DE X (.BoolOp op [a] pos) ta := let ⟨t, p, l⟩ := h; ⟨t, MQ p, l⟩
theorem vy (ha : DE X a ta) (hb : DE X (.BoolOp .And (b :: rest) pos) tb) : DE X (.BoolOp .And (a :: b :: rest) pos) (vK ta tb) := by
  obtain ⟨t1, p1, l1⟩ := ha
  obtain ⟨t2, p2, l2⟩ := hb
  refine ⟨_, MC p1 p2, fun σ H ρ μ Qd Q S h k => ?_⟩
  refine l1 σ H ρ μ _ _ S h fun x ux μ1 H1 e1 S1 rx h1 => ?_
  split at h1
  · rename_i c
    cases rx
    refine ⟨c, rfl, ?_⟩
    cases c with
    | true => exact Af (l2 σ H1 ρ μ1 _ _ S1 (by simpa using h1) fun d u μ2 H2 e2 S2 r2 h2 => k d u μ2 H2 (e1.trans e2) S2 r2 h2)
    | false => exact Aa (k (.v _) _ μ1 H1 e1 S1 (Rp.bool false) (by simpa using h1))
  · exact h1.elim
theorem Lj (ha : DE X a ta) (hb : DE X (.BoolOp .Or (b :: rest) pos) tb) : DE X (.BoolOp .Or (a :: b :: rest) pos) (Kd ta tb) := by
  obtain ⟨t1, p1, l1⟩ := ha
  obtain ⟨t2, p2, l2⟩ := hb
  refine ⟨_, NG p1 p2, fun σ H ρ μ Qd Q S h k => ?_⟩
  refine l1 σ H ρ μ _ _ S h fun x ux μ1 H1 e1 S1 rx h1 => ?_
  split at h1
  · rename_i c
    cases rx
    refine ⟨c, rfl, ?_⟩
    cases c with
    | true => exact Af (k (.v _) _ μ1 H1 e1 S1 (Rp.bool true) (by simpa using h1))
    | false => exact Aa (l2 σ H1 ρ μ1 _ _ S1 (by simpa using h1) fun d u μ2 H2 e2 S2 r2 h2 => k d u μ2 H2 (e1.trans e2) S2 r2 h2)
  · exact h1.elim
theorem Gp (ha : DE X a ta) : DE X (.UnaryOp .Not a pos) (Ea ta) := by
  obtain ⟨t1, p1, l1⟩ := ha
  refine ⟨_, L1 p1, fun σ H ρ μ Qd Q S h k => ?_⟩
  refine l1 σ H ρ μ _ _ S h fun x ux μ1 H1 e1 S1 rx h1 => ?_
  split at h1
  · rename_i c
    cases rx
    exact ⟨c, rfl, k (.v _) _ μ1 H1 e1 S1 (Rp.bool _) h1⟩
  · exact h1.elim
def dIf (t : DTT) (ta tb : DTE) : DTE := fun ρ μ Q => t ρ μ fun c μ1 => if c = true then ta ρ μ1 Q else tb ρ μ1 Q
theorem uC {c : Expr} (hc : DT X c tA) (ha : DE X a ta) (hb : DE X b tb) : DE X (.IfExp c a b pos) (dIf tA ta tb) := by
  obtain ⟨t0, p0, l0⟩ := hc
  obtain ⟨t1, p1, l1⟩ := ha
  obtain ⟨t2, p2, l2⟩ := hb
  refine ⟨_, IW p0 p1 p2, fun σ H ρ μ Qd Q S h k => ?_⟩
  refine l0 σ H ρ μ _ _ S h fun c μ1 H1 e1 S1 h1 => ?_
  cases c with
  | true => exact Af (l1 σ H1 ρ μ1 _ _ S1 (by simpa using h1) fun d u μ2 H2 e2 S2 r2 h2 => k d u μ2 H2 (e1.trans e2) S2 r2 h2)
  | false => exact Aa (l2 σ H1 ρ μ1 _ _ S1 (by simpa using h1) fun d u μ2 H2 e2 S2 r2 h2 => k d u μ2 H2 (e1.trans e2) S2 r2 h2)
end
open PySem PySem.Spec PyProof.Rows
section
variable {K : PySem.W.Frag} {μ μ1 : Mu} {H H1 : Hp} {p : Addr}
theorem eP {o : HO} (h : H p = none) : Ext K μ H μ (upd H p o) :=
  ⟨fun b u e _ _ => by rw [cJ (de e h)]; exact e, fun b ps e _ => ⟨ps, by rw [cJ (de e h)]; exact e⟩, fun _ ds q => ⟨ds, q⟩, fun _ q _ => q⟩
theorem dw.J2 (ok : dw K μ H) (e : Ext K μ H μ H1) (s : qx H H1) : dw K μ H1 := ⟨fun a ds q => by
  obtain ⟨xs, h1, h2⟩ := ok a ds q
  exact ⟨xs, s _ _ h1, h2.ext ok e⟩, ok.tab.of fun b o h _ => s b o h⟩
theorem Hz {o : HO} (h : H p = none) : qx H (upd H p o) := fun b u q => by rw [cJ (de q h)]; exact q
theorem dw.new {o : HO} (ok : dw K μ H) (h : H p = none) : dw K μ (upd H p o) := ok.J2 (eP h) (Hz h)
theorem St0.new {o : HO} {ρ : Rho} {σ : St} (S : St0 K H ρ μ σ) (h : H p = none) : St0 K (upd H p o) ρ μ σ := ⟨S.mu.new h, S.rho.ext S.mu (eP h)⟩
theorem jZ {us : List V} {ds : List PyData} (ok : dw K μ H) (r : RpL K μ H ds us) (h : H p = none) : Rp K μ (upd H p (.tup us)) (.tuple ds) (.ref p) :=
  .tuple (SqT.of kq) (r.ext ok (eP h))
theorem mH {us : List V} {ds : List PyData} (ok : dw K μ H) (r : RpL K μ H ds us) (h : H p = none) : Rp K μ (upd H p (.lst us)) (.list ds) (.ref p) :=
  .list kq (ok.free h) (r.ext ok (eP h))
theorem pq {o : HO} {ds : List PyData} (ok : dw K μ H) (h : H p = none) (hk : K.lookup p = none) : Ext K μ H (aV μ p ds) (upd H p o) where
  keep := fun b u e _ _ => by rw [cJ (de e h)]; exact e
  tb := fun b ps e _ => ⟨ps, by rw [cJ (de e h)]; exact e⟩
  dom := fun b es q => by
    have : b ≠ p := fun z => by rw [z, ok.free h] at q; cases q
    exact ⟨es, by rw [dP this]; exact q⟩
  fresh := fun b n q => by
    have : b ≠ p := fun z => by
      rcases q with q | q
      · exact q (by rw [z]; exact h)
      · exact q (by rw [z]; exact hk)
    rw [dP this]; exact n
theorem dw.mut {us : List V} {ds : List PyData} (ok : dw K μ H) (r : RpL K μ H ds us) (h : H p = none) (hk : K.lookup p = none) : dw K (aV μ p ds) (upd H p (.lst us)) := ⟨fun a es q => by
  have e := pq (o := .lst us) (ds := ds) ok h hk
  by_cases ha : a = p
  · subst ha
    rw [cw] at q
    cases q
    exact ⟨us, kq, r.ext ok e⟩
  · rw [dP ha] at q
    obtain ⟨xs, h1, h2⟩ := ok a es q
    exact ⟨xs, by rw [cJ ha]; exact h1, h2.ext ok e⟩, ok.tab.of fun b o e _ => by rw [cJ (de e h)]; exact e⟩
theorem rK {o : HO} {ds es : List PyData} (h : μ p = some ds) : Ext K μ H (aV μ p es) (upd H p o) where
  keep := fun b u e n _ => by
    have : b ≠ p := fun z => by rw [z, h] at n; cases n
    rw [cJ this]; exact e
  tb := fun b ps e n => by
    have : b ≠ p := fun z => by rw [z, h] at n; cases n
    exact ⟨ps, by rw [cJ this]; exact e⟩
  dom := fun b fs q => by
    by_cases hb : b = p
    · subst hb; exact ⟨es, cw⟩
    · exact ⟨fs, by rw [dP hb]; exact q⟩
  fresh := fun b n q => by
    have : b ≠ p := fun z => by rw [z, h] at n; cases n
    rw [dP this]; exact n
theorem dw.set {us : List V} {ds es : List PyData} (ok : dw K μ H) (h : μ p = some ds) (r : RpL K μ H es us) : dw K (aV μ p es) (upd H p (.lst us)) := ⟨fun a fs q => by
  have e : Ext K μ H (aV μ p es) (upd H p (.lst us)) := rK h
  by_cases ha : a = p
  · subst ha
    rw [cw] at q
    cases q
    exact ⟨us, kq, r.ext ok e⟩
  · rw [dP ha] at q
    obtain ⟨xs, h1, h2⟩ := ok a fs q
    exact ⟨xs, by rw [cJ ha]; exact h1, h2.ext ok e⟩, by
  obtain ⟨ys, hy, _⟩ := ok p ds h
  exact ok.tab.of fun b o e n => by
    have : b ≠ p := fun z => by rw [z, hy] at e; exact n ys (Option.some.inj e).symm
    rw [cJ this]; exact e⟩
end
def dD : List D → Option (List PyData)
  | [] => some []
  | .v x :: r => (dD r).map (x :: ·)
  | _ :: _ => none
theorem kP.data {K : PySem.W.Frag} {μ : Mu} {H : Hp} : ∀ {ds : List D} {us : List V} {xs : List PyData}, kP K μ H ds us → dD ds = some xs → RpL K μ H xs us
  | _, _, _, .nil, e => by cases e; exact .nil
  | .v x :: r, _, xs, .cons h t, e => by
    simp only [dD] at e
    cases q : dD r with
    | none => rw [q] at e; cases e
    | some ys => rw [q] at e; cases e; exact .cons h (kP.data t q)
  | .m _ :: _, _, _, .cons _ _, e => by simp [dD] at e
  | .s _ :: _, _, _, .cons _ _, e => by simp [dD] at e
  | .o _ :: _, _, _, .cons _ _, e => by simp [dD] at e
section
variable {X : Cx} {e : Expr} {es : List Expr} {te : DTE} {t : DTA} {pos : Pos}
def ar : DTA := fun _ μ Q => Q [] μ
def ab (ta : DTE) (tr : DTA) : DTA := fun ρ μ Q => ta ρ μ fun x μ1 => tr ρ μ1 fun xs μ2 => Q (x :: xs) μ2
theorem af : DA X [] ar := ⟨_, Am, fun σ H ρ μ Qd Q S h k => k [] [] μ H .refl S .nil rfl h⟩
theorem aa (ha : DE X e te) (hr : DA X es t) (hs : starEach (e :: es) X.env = (false, eval e X.env) :: starEach es X.env := by rfl) : DA X (e :: es) (ab te t) := by
  obtain ⟨t1, p1, l1⟩ := ha
  obtain ⟨t2, p2, l2⟩ := hr
  refine ⟨_, rJ p1 p2 hs, fun σ H ρ μ Qd Q S h k => ?_⟩
  refine l1 σ H ρ μ _ _ S h fun x ux μ1 H1 e1 S1 rx h1 => ?_
  refine l2 σ H1 ρ μ1 _ _ S1 h1 fun xs us μ2 H2 e2 S2 rs len h2 => ?_
  exact k (x :: xs) (ux :: us) μ2 H2 (e1.trans e2) S2 (.cons (rx.ext S1.mu e2) rs) (by rw [List.length_cons, List.length_cons, len]) h2
def en (t : DTA) : DTE := fun ρ μ Q => t ρ μ fun ds μ1 => match dD ds with
  | some xs => Q (.v (.tuple xs)) μ1
  | none => False
def pE (t : DTA) : DTE := fun ρ μ Q => t ρ μ fun ds μ1 => match dD ds with
  | some xs => Q (.v (.list xs)) μ1
  | none => False
def Em (t : DTA) : DTE := fun ρ μ Q => t ρ μ fun ds μ1 => match dD ds with
  | some xs => ∀ p, μ1 p = none → Q (.m p) (aV μ1 p xs)
  | none => False
theorem bN {x1} (h : DA X es t) (hl : es.length ≤ 1000 := by decide) : DE X (.Tuple es x1 pos) (en t) := by
  obtain ⟨t1, p1, l1⟩ := h
  refine ⟨_, MF p1, fun σ H ρ μ Qd Q S h k => ?_⟩
  refine l1 σ H ρ μ _ _ S h fun ds us μ1 H1 e1 S1 rs len h1 => ?_
  cases q : dD ds with
  | none => rw [q] at h1; exact h1.elim
  | some xs =>
    rw [q] at h1
    refine ⟨Nat.le_of_lt (ib (by rw [← rs.length, len]; exact hl)), fun p hp => ?_⟩
    exact k (.v (.tuple xs)) _ μ1 _ (e1.trans (eP hp)) (S1.new hp) (jZ S1.mu (rs.data q) hp) h1
theorem gO (h : DA X es t) (hl : es.length ≤ 1000 := by decide) : DE X (.List es pos) (pE t) := by
  obtain ⟨t1, p1, l1⟩ := h
  refine ⟨_, Ml p1, fun σ H ρ μ Qd Q S h k => ?_⟩
  refine l1 σ H ρ μ _ _ S h fun ds us μ1 H1 e1 S1 rs len h1 => ?_
  cases q : dD ds with
  | none => rw [q] at h1; exact h1.elim
  | some xs =>
    rw [q] at h1
    refine ⟨Nat.le_of_lt (ib (by rw [← rs.length, len]; exact hl)), fun p hp => ?_⟩
    exact k (.v (.list xs)) _ μ1 _ (e1.trans (eP hp)) (S1.new hp) (mH S1.mu (rs.data q) hp) h1
def Og (K : PySem.W.Frag) (t : TA) : TE := fun σ H Q => t σ H fun xs H1 => xs.length ≤ sizeLine ∧ ∀ p, H1 p = none → K.lookup p = none → Q (.ref p) (upd H1 p (.lst xs))
theorem Jy {t : TA} (h : PA X es t) : PE X (.List es pos) (Og X.K t) := by
  intro pins s σ H Q I hq
  refine wpAny_List_spliced (thn (h pos pins s σ H _ I hq) fun us s1 ⟨xs, H1, I1, r, z, q⟩ => ⟨by rw [← r.length]; exact z, ?_⟩)
  have hf : H1 s1.heap.objs.size = none := I1.hok.fresh (Nat.le_refl _)
  have hk : X.K.lookup s1.heap.objs.size = none := by
    cases c : X.K.lookup s1.heap.objs.size with
    | none => rfl
    | some o => exact absurd (Heap.lt_size (I1.kIn _ _ c)) (Nat.lt_irrefl _)
  refine ⟨.ref s1.heap.objs.size, upd H1 s1.heap.objs.size (.lst xs), I1.laid (t' := s1.toks) (fun b u e => Heap.get?_push_of_some _ e) (Nat.le_refl _) ?_, rfl, q _ hf hk⟩
  exact ⟨z, us, 0, r, Heap.get?_push_size _ rfl⟩
theorem D5 (h : DA X es t) (hl : es.length ≤ 1000 := by decide) : DE X (.List es pos) (Em t) := by
  obtain ⟨t1, p1, l1⟩ := h
  refine ⟨_, Jy p1, fun σ H ρ μ Qd Q S h k => ?_⟩
  refine l1 σ H ρ μ _ _ S h fun ds us μ1 H1 e1 S1 rs len h1 => ?_
  cases q : dD ds with
  | none => rw [q] at h1; exact h1.elim
  | some xs =>
    rw [q] at h1
    refine ⟨Nat.le_of_lt (ib (by rw [← rs.length, len]; exact hl)), fun p hp hk => ?_⟩
    have ex := pq (o := .lst us) (ds := xs) S1.mu hp hk
    exact k (.m p) _ (aV μ1 p xs) _ (e1.trans ex) ⟨S1.mu.mut (rs.data q) hp hk, S1.rho.ext S1.mu ex⟩ ⟨rfl, xs, cw⟩ (h1 p (S1.mu.free hp))
end
section
variable {X : Cx} {pins : List (Addr × Obj)} {σ : St} {H : Hp} {s : Shared} {μ : Mu}
mutual
theorem gH (I : Inv X pins σ H s) : ∀ {d : PyData} {x : V} {u : Value}, Rp X.K μ H d x → RelV x u → ∃ as, Reads s.heap u d as
  | _, _, _, .none, r => by cases r; exact ⟨_, .none⟩
  | _, _, _, .bool b, r => by cases r; exact ⟨_, .bool b⟩
  | _, _, _, .int i, r => by obtain ⟨t, rfl⟩ := r; exact ⟨_, .int i t⟩
  | _, _, _, .str y, r => by obtain ⟨t, rfl⟩ := r; exact ⟨_, .str y t⟩
  | _, _, _, .list h _ q, r => by
    cases r
    obtain ⟨its, rv, ⟨o, n, ho, hc, _, hd⟩, _⟩ := I.list (SqL.of h)
    obtain ⟨as, ra⟩ := oH I q rv
    exact ⟨_, .list ho hc hd (by simpa using ra)⟩
  | _, _, _, .tuple h q, r => by
    cases r
    obtain ⟨its, rv, ⟨o, ho, hc, n, hd⟩, _⟩ := I.tuple h
    obtain ⟨as, ra⟩ := oH I q rv
    exact ⟨_, .tuple ho hc hd (by simpa using ra)⟩
theorem oH (I : Inv X pins σ H s) : ∀ {ds : List PyData} {xs : List V} {us : List Value}, RpL X.K μ H ds xs → Vals xs us → ∃ as, ReadsAll s.heap us ds as
  | _, _, _, .nil, .nil => ⟨_, .nil⟩
  | _, _, _, .cons h t, .cons r q => by
    obtain ⟨as, ra⟩ := gH I h r
    obtain ⟨bs, rb⟩ := oH I t q
    exact ⟨_, .cons ra rb⟩
end
end
section
variable {X : Cx}
def Mn (K : PySem.W.Frag) (neg : Bool) : R2 := fun x y H Q => ∃ μ a b, Rp K μ H a x ∧ Rp K μ H b y ∧ SeqAt.shaped a = true ∧ SeqAt.shaped b = true ∧ Q (.bl (neg ^^ PyData.eqv a b)) H
theorem eL (hu : X.A.units + 64 < cLine) : OpR X (compareOp .Eq) (Mn X.K false) := by
  intro pins s σ H x y v u Q I rx ry h
  obtain ⟨μ, a, b, ha, hb, sa, sb, q⟩ := h
  obtain ⟨as, ra⟩ := gH I ha rx
  obtain ⟨bs, rb⟩ := gH I hb ry
  exact eq_dataH ra rb sa sb hu ⟨.bl (PyData.eqv a b), H, I, rfl, by simpa using q⟩
theorem kd (hu : X.A.units + 64 < cLine) : OpR X (compareOp .NotEq) (Mn X.K true) := by
  intro pins s σ H x y v u Q I rx ry h
  obtain ⟨μ, a, b, ha, hb, sa, sb, q⟩ := h
  obtain ⟨as, ra⟩ := gH I ha rx
  obtain ⟨bs, rb⟩ := gH I hb ry
  exact ne_dataH ra rb sa sb hu ⟨.bl (!PyData.eqv a b), H, I, rfl, by simpa using q⟩
def eh (neg : Bool) : D → D → Mu → DK → Prop := fun x y μ Q => match x, y with
  | .v a, .v b => SeqAt.shaped a = true ∧ SeqAt.shaped b = true ∧ Q (.v (.bool (neg ^^ PyData.eqv a b))) μ
  | _, _ => False
theorem cI {K : PySem.W.Frag} {neg : Bool} : kI K (Mn K neg) (eh neg) := by
  intro x y ux uy H μ Qd Q ok rx ry h k
  unfold eh at h
  split at h
  · rename_i a b
    exact ⟨μ, a, b, rx, ry, h.1, h.2.1, k (.v _) _ μ H .refl ok (Rp.bool _) h.2.2⟩
  · exact h.elim
def MX (K : PySem.W.Frag) (neg : Bool) : R2 := fun x y H Q => ∃ μ a bs, Rp K μ H a x ∧ Rp K μ H (.list bs) y ∧ PyData.canLayAll0 bs = true ∧ a.canLay0 = true ∧ PyData.depth a ≤ 60 ∧ Q (.bl (neg ^^ bs.any fun b => PyData.eqv b a)) H
theorem CL (hu : X.A.units + 64 < cLine) : OpR X (compareOp .In) (MX X.K false) := by
  intro pins s σ H x y v u Q I rx ry h
  obtain ⟨μ, a, b, ha, hb, sb, sa, dp, q⟩ := h
  obtain ⟨as, ra⟩ := gH I ha rx
  obtain ⟨bs, rb⟩ := gH I hb ry
  refine SeqAt.in_list_reads rb ra sb sa (by omega) ⟨.bl (b.any fun z => PyData.eqv z a), H, I, rfl, by simpa using q⟩
theorem Fq (hu : X.A.units + 64 < cLine) : OpR X (compareOp .NotIn) (MX X.K true) := by
  intro pins s σ H x y v u Q I rx ry h
  obtain ⟨μ, a, b, ha, hb, sb, sa, dp, q⟩ := h
  obtain ⟨as, ra⟩ := gH I ha rx
  obtain ⟨bs, rb⟩ := gH I hb ry
  refine SeqAt.notIn_list_reads rb ra sb sa (by omega) ⟨.bl (!b.any fun z => PyData.eqv z a), H, I, rfl, by simpa using q⟩
def Co (neg : Bool) : D → D → Mu → DK → Prop := fun x y μ Q => match x, y with
  | .v a, .v (.list bs) => PyData.canLayAll0 bs = true ∧ a.canLay0 = true ∧ PyData.depth a ≤ 60 ∧ Q (.v (.bool (neg ^^ bs.any fun b => PyData.eqv b a))) μ
  | _, _ => False
theorem zq {K : PySem.W.Frag} {neg : Bool} : kI K (MX K neg) (Co neg) := by
  intro x y ux uy H μ Qd Q ok rx ry h k
  unfold Co at h
  split at h
  · rename_i a b
    exact ⟨μ, a, b, rx, ry, h.1, h.2.1, h.2.2.1, k (.v _) _ μ H .refl ok (Rp.bool _) h.2.2.2⟩
  · exact h.elim
end
open PySem PySem.Spec PyProof.Rows
section
variable {X : Cx} {a b e : Expr} {es : List Expr} {ta tb te : DTE} {t : DTA} {p pos : Pos}
def aF : D → D → Mu → DK → Prop := fun x y μ Q => match x, y with
  | .v (.list xs), .v (.int i) => (match atI xs i with | some d => Q (.v d) μ | none => False)
  | .v (.tuple xs), .v (.int i) => (match atI xs i with | some d => Q (.v d) μ | none => False)
  | .m l, .v (.int i) => (match μ l with
    | some xs => (match atI xs i with | some d => Q (.v d) μ | none => False)
    | none => False)
  | .s ns, .v (.int i) => (match atI ns i with | some d => Q (.v (.int d)) μ | none => False)
  | _, _ => False
theorem NQ {K : PySem.W.Frag} : kI K (rIx K) aF := by
  intro x y ux uy H μ Qd Q ok rx ry h k
  unfold aF at h
  split at h
  · rename_i xs i
    cases ry
    cases q : atI xs i with
    | none => rw [q] at h; exact h.elim
    | some d =>
      rw [q] at h
      cases rx with
      | list hs hn r =>
        obtain ⟨u, e1, e2⟩ := CN r q
        exact .inl ⟨_, _, i, u, rfl, rfl, SqL.of hs, e1, k (.v d) u μ H .refl ok e2 h⟩
  · rename_i xs i
    cases ry
    cases q : atI xs i with
    | none => rw [q] at h; exact h.elim
    | some d =>
      rw [q] at h
      cases rx with
      | tuple hs r =>
        obtain ⟨u, e1, e2⟩ := CN r q
        exact .inr (.inl ⟨_, _, i, u, rfl, rfl, hs, e1, k (.v d) u μ H .refl ok e2 h⟩)
  · rename_i l i
    cases ry
    obtain ⟨rfl, ds, hm⟩ := rx
    rw [hm] at h
    simp only at h
    cases q : atI ds i with
    | none => rw [q] at h; exact h.elim
    | some d =>
      rw [q] at h
      obtain ⟨us, hl, r⟩ := ok l ds hm
      obtain ⟨u, e1, e2⟩ := CN r q
      exact .inl ⟨_, _, i, u, rfl, rfl, SqL.of hl, e1, k (.v d) u μ H .refl ok e2 h⟩
  · rename_i ns i
    cases ry
    obtain ⟨a, rfl, hs, hn⟩ := rx
    cases q : atI ns i with
    | none => rw [q] at h; exact h.elim
    | some d =>
      rw [q] at h
      have e1 : atI (ns.map V.int) i = some (.int d) := by
        unfold atI at q ⊢
        rw [List.length_map]
        cases z : ixN ns.length i with
        | none => rw [z] at q; cases q
        | some j =>
          rw [z] at q
          simp only [Option.bind_some, List.getElem?_map] at q ⊢
          rw [q] <;> rfl
      exact .inl ⟨_, _, i, _, rfl, rfl, hs, e1, k (.v (.int d)) _ μ H .refl ok (Rp.int d) h⟩
  · exact h.elim
theorem aA (ha : DE X a ta) (hb : DE X b tb) (hs : ET b) : DE X (.Subscript a b pos) (dOp aF ta tb) := by
  obtain ⟨t1, p1, l1⟩ := ha
  obtain ⟨t2, p2, l2⟩ := hb
  exact ⟨_, Ny L7 p1 p2 hs, vg NQ l1 l2⟩
theorem HM {prog : Program} {w : World} {A : Around} {E : Value → Shared → Prop} {s : Shared} {t b : Addr} {ws : List Value} {Q : Value → Shared → Prop} (ht : IsTup s.heap t #[]) (hb : IsTup s.heap b ws.toArray)
    (h1 : Q (.ref b) s) : wpAny (model prog w) A (binaryOp .Add (.ref t) (.ref b)) Q E s := by
  obtain ⟨⟨cls, dd, data, sl⟩, ho, hc, n, hd⟩ := id ht
  obtain ⟨⟨cls2, dd2, data2, sl2⟩, ho2, hc2, n2, hd2⟩ := id hb
  simp only at hc hd hc2 hd2
  subst hc hd hc2 hd2
  exact concat_meets ⟨_, ho, rfl⟩ ⟨_, ho2, rfl⟩ noFill_tuple_add seq_tuple_add PySem.F.slot_tuple_add PySem.F.entry_tuple_add (PySem.F.args_tuple_add_2 _ _)
    (tuple_addW0 t b #[] ws.toArray n n2 dd dd2 sl sl2 rfl) ⟨ho, ho2, h1⟩
def uQ (μ : Mu) : D → Option (List PyData)
  | .v (.list xs) => some xs
  | .m l => μ l
  | _ => none
theorem Bk {K : PySem.W.Frag} {μ : Mu} {H : Hp} {x : D} {u : V} {xs : List PyData} (ok : dw K μ H) (r : RpD K μ H x u) (h : uQ μ x = some xs) : ∃ a us, u = .ref a ∧ H a = some (.lst us) ∧ RpL K μ H xs us := by
  cases x with
  | v d =>
    cases d <;> simp only [uQ] at h <;> try cases h
    cases r with
    | list hs _ q => exact ⟨_, _, rfl, hs, q⟩
  | m l =>
    obtain ⟨rfl, ds, hm⟩ := r
    obtain ⟨us, hl, q⟩ := ok l xs h
    exact ⟨l, us, rfl, hl, q⟩
  | s ns => cases h
  | o a => cases h
  | q P => cases h
def B8 : D → D → Mu → DK → Prop := fun x y μ Q => match uQ μ x, uQ μ y with
  | some xs, some ys => xs.length + ys.length ≤ 1000 ∧ Q (.v (.list (xs ++ ys))) μ
  | _, _ => False
theorem D2 {n : Nat} (h : n ≤ 1000) : n ≤ sizeLine := Nat.le_of_lt (ib h)
theorem Ms {K : PySem.W.Frag} : kI K Lv B8 := by
  intro x y ux uy H μ Qd Q ok rx ry h k
  unfold B8 at h
  split at h
  · rename_i xs ys hx hy
    obtain ⟨a, us, rfl, ha, ra⟩ := Bk ok rx hx
    obtain ⟨b, ws, rfl, hb, rb⟩ := Bk ok ry hy
    refine ⟨a, b, us, ws, rfl, rfl, ha, hb, D2 (by rw [← ra.length, ← rb.length]; exact h.1), fun p hp => ?_⟩
    exact k (.v _) _ μ _ (eP hp) (ok.new hp) (mH ok (ra.append rb) hp) h.2
  · exact h.elim
def CZ (K : PySem.W.Frag) : R2 := fun x y H Q => ∃ a b xs ys, x = .ref a ∧ y = .ref b ∧ SqT K H a xs ∧ SqT K H b ys ∧ xs.length + ys.length ≤ sizeLine ∧
  (xs = [] → Q (.ref b) H) ∧ (ys = [] → Q (.ref a) H) ∧ (∀ p, H p = none → Q (.ref p) (upd H p (.tup (xs ++ ys))))
theorem Il : OpR X (binaryOp .Add) (CZ X.K) := by
  intro pins s σ H x y v u Q I rx ry h
  obtain ⟨a, b, xs, ys, rfl, rfl, ha, hb, hz, q0, q1, q2⟩ := h
  by_cases hx : xs = []
  · subst hx
    cases rx
    cases ry
    obtain ⟨its, r1, p1, _⟩ := I.tuple ha
    obtain ⟨its2, r2, p2, _⟩ := I.tuple hb
    cases r1
    exact HM p1 p2 ⟨.ref b, H, I, rfl, q0 rfl⟩
  · exact Jw pins s σ H _ _ v u Q I rx ry ⟨a, b, xs, ys, rfl, rfl, ha, hb, hx, hz, q1, fun _ => q2⟩
def CQ : D → D → Mu → DK → Prop := fun x y μ Q => match x, y with
  | .v (.tuple xs), .v (.tuple ys) => xs.length + ys.length ≤ 1000 ∧ Q (.v (.tuple (xs ++ ys))) μ
  | _, _ => False
theorem JE {K : PySem.W.Frag} : kI K (CZ K) CQ := by
  intro x y ux uy H μ Qd Q ok rx ry h k
  unfold CQ at h
  split at h
  · rename_i xs ys
    cases id rx with
    | @tuple a us _ ha ra =>
      cases id ry with
      | @tuple b ws _ hb rb =>
        refine ⟨a, b, us, ws, rfl, rfl, ha, hb, D2 (by rw [← ra.length, ← rb.length]; exact h.1), fun z => ?_, fun z => ?_, fun p hp => ?_⟩
        · subst z
          cases ra
          exact k (.v _) _ μ H .refl ok ry (by simpa using h.2)
        · subst z
          cases rb
          exact k (.v _) _ μ H .refl ok rx (by simpa using h.2)
        · exact k (.v _) _ μ _ (eP hp) (ok.new hp) (jZ ok (ra.append rb) hp) h.2
  · exact h.elim
end
end L2.DL
set_option Elab.async false
set_option linter.all false
set_option maxRecDepth 100000
set_option maxHeartbeats 4000000
namespace HT
open PySem PyProof.Rows
section
variable {prog : Program} {w : World} {A : Around} {E : Value → Shared → Prop} {s : Shared}
theorem qQ {t sl : Addr} {items : Array Value} {vl vu : Value} {lo hi : Option Int} {Q : Value → Shared → Prop} (ht : IsTup s.heap t items) (hs : s.heap.IsSliceOf sl vl vu .none) (pl : IsPart vl lo) (pu : IsPart vu hi)
    (hw : sIx items.size 0 lo = 0 ∧ sIx items.size items.size hi = items.size) (h : Q (.ref t) s) : wpAny (model prog w) A (getItem (.ref t) (.ref sl)) Q E s := by
  obtain ⟨os, hos, hcs, hds⟩ := id hs
  have hTs : s.TypeIs (.ref sl) "slice" := ⟨os, hos, hcs⟩
  unfold getItem
  try with_reducible refine wpAny_holding ?_
  first | refine wpAny_bind (wpAny_pure ?_) | skip
  refine wpAny_bind (wpAny_sequenceKey ht.typeIs (by decide) ?_)
  refine wpAny_bind (wpAny_callSpecial?_slot (name := Str.ofString "__getitem__") ht.typeIs PyProof.Rows.slot_tuple_getitem
    (wpAny_call_entry PyProof.Rows.slot_tuple_getitem ht.typeIs entry_tuple_getitem ?_ (args_tuple_getitem _ _)))
  show wpAny _ _ (Builtin.Tuple.tupleItemsOf (.ref t) >>= _) _ _ s
  refine wpAny_bind (tupleItemsOf_ ht ?_)
  refine wpAny_bind (wpAny_typeOf hTs ?_)
  rw [if_pos (by decide)]
  refine wpAny_bind (lY hs pl pu ?_)
  have hno : ((((sIx items.size 0 lo : Nat) : Int) == 0 && (1 : Int) == 1 && (sIx items.size items.size hi - sIx items.size 0 lo) == items.size) = true) := by
    rw [hw.1, hw.2]
    simp
  show wpAny _ _ (if (((sIx items.size 0 lo : Nat) : Int) == 0 && (1 : Int) == 1 && (sIx items.size items.size hi - sIx items.size 0 lo) == items.size) = true then _ else _) _ _ s
  rw [if_pos hno]
  refine wpAny_bind ?_
  unfold Builtin.Tuple.tupleIsExact
  refine wpAny_bind (wpAny_typeOf ht.typeIs (wpAny_pure ?_))
  rw [if_pos (by decide)]
  refine wpAny_bind (wpAny_rule ?_)
  exact wpAny_pure ⟨_, rfl, wpAny_pure h⟩
end
end HT
namespace L2.DL
open PySem PySem.Spec PyProof.Rows
section
variable {X : Cx} {a b e : Expr} {lo hi : Option Expr} {ta tb te : DTE} {pos p2 : Pos}
def fJ {α : Type} (xs : List α) (lo hi : Option Int) : List α := (xs.drop (HT.sIx xs.length 0 lo)).take (HT.sIx xs.length xs.length hi - HT.sIx xs.length 0 lo)
theorem RpL.cut {K : PySem.W.Frag} {μ : Mu} {H : Hp} {ds : List PyData} {us : List V} {lo hi : Option Int} (r : RpL K μ H ds us) : RpL K μ H (fJ ds lo hi) (yU us lo hi) := by
  unfold fJ yU
  rw [r.length]
  exact (r.drop _).take _
theorem Ju {α : Type} {xs : List α} {lo hi : Option Int} (h : HT.sIx xs.length 0 lo = 0 ∧ HT.sIx xs.length xs.length hi = xs.length) : fJ xs lo hi = xs := by
  unfold fJ
  rw [h.1, h.2]
  simp
def Ob (K : PySem.W.Frag) : V → Option Int → Option Int → Hp → VK → Prop := fun x lo hi H Q => ∃ a xs, x = .ref a ∧ SqT K H a xs ∧
  (HT.sIx xs.length 0 lo = 0 ∧ HT.sIx xs.length xs.length hi = xs.length → Q (.ref a) H) ∧ ∀ p, H p = none → Q (.ref p) (upd H p (.tup (yU xs lo hi)))
theorem Ke : SlR X (Ob X.K) := by
  intro pins s σ H x v vl vu lo hi sl Q I rx hs pl pu h
  obtain ⟨a, xs, rfl, hx, q1, q⟩ := h
  by_cases hw : HT.sIx xs.length 0 lo = 0 ∧ HT.sIx xs.length xs.length hi = xs.length
  · cases rx
    obtain ⟨its, r, ht, hz⟩ := I.tuple hx
    have hlen : its.toArray.size = xs.length := by rw [List.size_toArray]; exact r.length.symm
    refine ⟨"tuple", _, PyProof.Rows.slot_tuple_getitem.lookup, ht.typeIs, ?_⟩
    exact HT.qQ ht hs pl pu (by rw [hlen]; exact hw) ⟨.ref a, H, I, rfl, q1 hw⟩
  · exact MM pins s σ H _ v vl vu lo hi sl Q I rx hs pl pu ⟨a, xs, rfl, hx, hw, q⟩
abbrev DTO := Rho → Mu → (Option Int → Mu → Prop) → Prop
def NK (K : PySem.W.Frag) (t : TO) (td : DTO) : Prop := ∀ (σ : St) (H : Hp) (ρ : Rho) (μ : Mu) (Qd : Option Int → Mu → Prop) (Q : Option Int → Hp → Prop), St0 K H ρ μ σ → td ρ μ Qd →
  (∀ o μ' H', Ext K μ H μ' H' → St0 K H' ρ μ' σ → Qd o μ' → Q o H') → t σ H Q
def DO (X : Cx) (e : Option Expr) (td : DTO) : Prop := ∃ t, PO X e t ∧ NK X.K t td
def ku : DTO := fun _ μ Q => Q none μ
def uE (t : DTE) : DTO := fun ρ μ Q => t ρ μ fun x μ1 => match x with
  | .v (.int i) => Q (some i) μ1
  | _ => False
theorem oP : DO X none ku := ⟨_, JT, fun σ H ρ μ Qd Q S h k => k none μ H .refl S h⟩
theorem pj (h : DE X e te) : DO X (some e) (uE te) := by
  obtain ⟨t1, p1, l1⟩ := h
  refine ⟨_, Kb p1, fun σ H ρ μ Qd Q S h k => ?_⟩
  refine l1 σ H ρ μ _ _ S h fun x ux μ1 H1 e1 S1 rx h1 => ?_
  split at h1
  · cases rx
    exact ⟨_, rfl, k _ μ1 H1 e1 S1 h1⟩
  · exact h1.elim
def GW (x : D) (lo hi : Option Int) (μ : Mu) (Q : DK) : Prop := match x with
  | .v (.tuple xs) => Q (.v (.tuple (fJ xs lo hi))) μ
  | .v (.list xs) => Q (.v (.list (fJ xs lo hi))) μ
  | .m l => (match μ l with | some xs => Q (.v (.list (fJ xs lo hi))) μ | none => False)
  | _ => False
def dSl (te : DTE) (tl th : DTO) : DTE := fun ρ μ Q => te ρ μ fun x μ1 => tl ρ μ1 fun l μ2 => th ρ μ2 fun u μ3 => GW x l u μ3 Q
theorem lE {tl th : DTO} (he : DE X e te) (hl : DO X lo tl) (hu : DO X hi th) : DE X (.Subscript e (.Slice lo hi none p2) pos) (dSl te tl th) := by
  obtain ⟨t1, p1, l1⟩ := he
  obtain ⟨t2, p2, l2⟩ := hl
  obtain ⟨t3, p3, l3⟩ := hu
  refine ⟨_, Gq (JP.or Ke) p1 p2 p3, fun σ H ρ μ Qd Q S h k => ?_⟩
  refine l1 σ H ρ μ _ _ S h fun x ux μ1 H1 e1 S1 rx h1 => ?_
  refine l2 σ H1 ρ μ1 _ _ S1 h1 fun l μ2 H2 e2 S2 h2 => ?_
  refine l3 σ H2 ρ μ2 _ _ S2 h2 fun u μ3 H3 e3 S3 h3 => ?_
  have rx3 := (rx.ext S1.mu e2).ext S2.mu e3
  have ee := e1.trans (e2.trans e3)
  unfold GW at h3
  split at h3
  · rename_i xs
    cases id rx3 with
    | @tuple a us _ ha ra =>
      refine .inr ⟨a, us, rfl, ha, fun hw => ?_, fun p hp => ?_⟩
      · refine k (.v _) _ μ3 H3 ee S3 (show Rp _ _ _ (.tuple (fJ xs l u)) _ from ?_) h3
        rw [Ju (by rw [ra.length]; exact hw)]
        exact rx3
      · exact k (.v _) _ μ3 _ (ee.trans (eP hp)) (S3.new hp) (jZ S3.mu ra.cut hp) h3
  · rename_i xs
    cases id rx3 with
    | @list a us _ ha hn ra => exact .inl ⟨a, us, rfl, SqL.of ha, fun p hp => k (.v _) _ μ3 _ (ee.trans (eP hp)) (S3.new hp) (mH S3.mu ra.cut hp) h3⟩
  · rename_i a
    obtain ⟨rfl, ds, hm⟩ := rx3
    rw [hm] at h3
    obtain ⟨us, ha, ra⟩ := S3.mu a ds hm
    exact .inl ⟨a, us, rfl, SqL.of ha, fun p hp => k (.v _) _ μ3 _ (ee.trans (eP hp)) (S3.new hp) (mH S3.mu ra.cut hp) h3⟩
  · exact h3.elim
def OT (te : DTE) : DTE := fun ρ μ Q => te ρ μ fun x μ1 => match x with
  | .v (.tuple xs) => Q (.v (.tuple xs.reverse)) μ1
  | .v (.list xs) => Q (.v (.list xs.reverse)) μ1
  | .m l => (match μ1 l with | some xs => Q (.v (.list xs.reverse)) μ1 | none => False)
  | _ => False
end
open PySem PySem.Spec PyProof.Rows
section
variable {X : Cx} {a b e : Expr} {es : List Expr} {ta tb te : DTE} {t : DTA} {p pos : Pos} {x : Str} {bid T : String}
def rO (K : PySem.W.Frag) (r : List V → Hp → VK → Prop) (rd : List D → Mu → DK → Prop) : Prop := ∀ (xs : List D) (us : List V) (H : Hp) (μ : Mu) (Qd : DK) (Q : VK), dw K μ H → kP K μ H xs us → rd xs μ Qd →
  (∀ d u μ' H', Ext K μ H μ' H' → dw K μ' H' → RpD K μ' H' d u → Qd d μ' → Q u H') → r us H Q
def dCB (rd : List D → Mu → DK → Prop) (t : DTA) : DTE := fun ρ μ Q => t ρ μ fun ds μ1 => rd ds μ1 Q
theorem D3 {K : PySem.W.Frag} {n : Nat} {r : List V → Hp → VK → Prop} {rd : List D → Mu → DK → Prop} {t1 : TA} (lc : rO K r rd) (l1 : KD K n t1 t) : sF K (tCB r t1) (dCB rd t) := by
  intro σ H ρ μ Qd Q S h k
  refine l1 σ H ρ μ _ _ S h fun xs us μ1 H1 e1 S1 rs len h1 => ?_
  exact lc xs us H1 μ1 _ _ S1.mu rs h1 fun d u μ' H' e2 ok r q => k d u μ' H' (e1.trans e2) ⟨ok, S1.rho.ext S1.mu e2⟩ r q
theorem oE {r : List V → Hp → VK → Prop} {rd : List D → Mu → DK → Prop} (hc : jk X (.builtin bid) r) (lc : rO X.K r rd) (hg : Gl X x) (hm : X.mg x = none) (hv : bootBuiltins x = some (.builtin bid)) (ha : DA X (e :: es) t) (hn : x ≠ "__name__" := by decide) (hdb : (x == ("__debug__" : Str)) = false := by decide)
    (he : starEach (e :: es) X.env = (false, eval e X.env) :: starEach es X.env := by rfl) (hpl : (backTo pos (starEach es X.env)).any (·.1) = false := by rfl) : DE X (.Call (.Name x p) (e :: es) [] pos) (dCB rd t) := by
  obtain ⟨t1, p1, l1⟩ := ha
  exact ⟨_, Bn hc hg hm hv p1 hn hdb he hpl, D3 lc l1⟩
theorem yr {r : List V → Hp → VK → Prop} {rd : List D → Mu → DK → Prop} (hc : jk X (.type T) r) (lc : rO X.K r rd) (hg : Gl X x) (hm : X.mg x = none) (hv : bootBuiltins x = some (.type T)) (ha : DA X (e :: es) t) (hn : x ≠ "__name__" := by decide) (hdb : (x == ("__debug__" : Str)) = false := by decide)
    (he : starEach (e :: es) X.env = (false, eval e X.env) :: starEach es X.env := by rfl) (hpl : (backTo pos (starEach es X.env)).any (·.1) = false := by rfl) : DE X (.Call (.Name x p) (e :: es) [] pos) (dCB rd t) := by
  obtain ⟨t1, p1, l1⟩ := ha
  exact ⟨_, Gh hc hg hm hv p1 hn hdb he hpl, D3 lc l1⟩
def fK : List D → Mu → DK → Prop := fun xs μ Q => match xs with
  | [.v (.list ys)] => Q (.v (.int (ys.length : Nat))) μ
  | [.v (.tuple ys)] => Q (.v (.int (ys.length : Nat))) μ
  | [.m l] => (match μ l with | some ys => Q (.v (.int (ys.length : Nat))) μ | none => False)
  | [.s ns] => Q (.v (.int (ns.length : Nat))) μ
  | _ => False
theorem Mg {K : PySem.W.Frag} : rO K (fun xs H Q => ∃ p ys, xs = [.ref p] ∧ (SqL K H p ys ∨ SqT K H p ys) ∧ Q (.int ys.length) H) fK := by
  intro xs us H μ Qd Q ok rs h k
  unfold fK at h
  split at h
  · cases rs with
    | cons r1 r2 =>
      cases r2
      cases r1 with
      | list hs hn r => exact ⟨_, _, rfl, .inl (SqL.of hs), k (.v _) _ μ H .refl ok (by rw [← r.length]; exact Rp.int _) h⟩
  · cases rs with
    | cons r1 r2 =>
      cases r2
      cases r1 with
      | tuple hs r => exact ⟨_, _, rfl, .inr hs, k (.v _) _ μ H .refl ok (by rw [← r.length]; exact Rp.int _) h⟩
  · cases rs with
    | cons r1 r2 =>
      cases r2
      obtain ⟨rfl, ds, hm⟩ := r1
      rw [hm] at h
      obtain ⟨us, hl, r⟩ := ok _ ds hm
      exact ⟨_, _, rfl, .inl (SqL.of hl), k (.v _) _ μ H .refl ok (by rw [← r.length]; exact Rp.int _) h⟩
  · cases rs with
    | cons r1 r2 =>
      cases r2
      obtain ⟨a, rfl, hs, hn⟩ := r1
      exact ⟨_, _, rfl, .inl hs, k (.v _) _ μ H .refl ok (by rw [List.length_map]; exact Rp.int _) h⟩
  · exact h.elim
theorem ir (hg : Gl X "len") (hm : X.mg "len" = none) (ha : DA X (e :: es) t)
    (he : starEach (e :: es) X.env = (false, eval e X.env) :: starEach es X.env := by rfl) (hpl : (backTo pos (starEach es X.env)).any (·.1) = false := by rfl) : DE X (.Call (.Name "len" p) (e :: es) [] pos) (dCB fK t) :=
  oE zX Mg hg hm PySem.boot_len ha (by decide) (by decide) he hpl
def oG : List D → Mu → DK → Prop := fun xs μ Q => match xs with
  | [.v (.int i)] => Q (.v (.int (i.natAbs : Nat))) μ
  | _ => False
theorem MN {K : PySem.W.Frag} : rO K (fun xs H Q => ∃ i, xs = [.int i] ∧ Q (.int (if i < 0 then -i else i)) H) oG := by
  intro xs us H μ Qd Q ok rs h k
  unfold oG at h
  split at h
  · rename_i i
    cases rs with
    | cons r1 r2 =>
      cases r2
      cases r1
      refine ⟨i, rfl, k (.v (.int (i.natAbs : Nat))) _ μ H .refl ok ?_ h⟩
      have : (if i < 0 then -i else i) = ((i.natAbs : Nat) : Int) := by split <;> omega
      rw [this]
      exact Rp.int _
  · exact h.elim
theorem qo (hg : Gl X "abs") (hm : X.mg "abs" = none) (ha : DA X (e :: es) t)
    (he : starEach (e :: es) X.env = (false, eval e X.env) :: starEach es X.env := by rfl) (hpl : (backTo pos (starEach es X.env)).any (·.1) = false := by rfl) : DE X (.Call (.Name "abs" p) (e :: es) [] pos) (dCB oG t) :=
  oE Im MN hg hm PyProof.Rows.Boot.«abs» ha (by decide) (by decide) he hpl
def Cp (g : Int → Int → Int) : List D → Mu → DK → Prop := fun xs μ Q => match xs with
  | [.v (.int i), .v (.int j)] => Q (.v (.int (g i j))) μ
  | _ => False
theorem K7 {K : PySem.W.Frag} {g g' : Int → Int → Int} (hg : ∀ i j, g i j = g' i j) : rO K (fun xs H Q => ∃ i j, xs = [.int i, .int j] ∧ Q (.int (g i j)) H) (Cp g') := by
  intro xs us H μ Qd Q ok rs h k
  unfold Cp at h
  split at h
  · rename_i i j
    cases rs with
    | cons r1 r2 =>
      cases r2 with
      | cons r2 r3 =>
        cases r3
        cases r1
        cases r2
        exact ⟨i, j, rfl, k (.v _) _ μ H .refl ok (by rw [hg]; exact Rp.int _) h⟩
  · exact h.elim
theorem Lu (hc : X.calm = true) (hg : Gl X "max") (hm : X.mg "max" = none) (ha : DA X (e :: es) t)
    (he : starEach (e :: es) X.env = (false, eval e X.env) :: starEach es X.env := by rfl) (hpl : (backTo pos (starEach es X.env)).any (·.1) = false := by rfl) : DE X (.Call (.Name "max" p) (e :: es) [] pos) (dCB (Cp max) t) :=
  oE (FX hc) (K7 (fun i j => by show (if j > i then j else i) = max i j; simp only [Int.max_def]; split <;> split <;> omega)) hg hm PyProof.Rows.Boot.«max» ha (by decide) (by decide) he hpl
theorem LR (hc : X.calm = true) (hg : Gl X "min") (hm : X.mg "min" = none) (ha : DA X (e :: es) t)
    (he : starEach (e :: es) X.env = (false, eval e X.env) :: starEach es X.env := by rfl) (hpl : (backTo pos (starEach es X.env)).any (·.1) = false := by rfl) : DE X (.Call (.Name "min" p) (e :: es) [] pos) (dCB (Cp min) t) :=
  oE (Fe hc) (K7 (fun i j => by show (if j < i then j else i) = min i j; simp only [Int.min_def]; split <;> split <;> omega)) hg hm PyProof.Rows.Boot.«min» ha (by decide) (by decide) he hpl
def nY : List D → Mu → DK → Prop := fun xs μ Q => match xs with
  | [.v (.int i)] => Q (.v (.int i)) μ
  | [.v (.bool k)] => Q (.v (.int (if k then 1 else 0))) μ
  | _ => False
theorem ML {K : PySem.W.Frag} : rO K (fun xs H Q => (∃ i, xs = [.int i] ∧ Q (.int i) H) ∨ ∃ k, xs = [.bl k] ∧ Q (.int (if k then 1 else 0)) H) nY := by
  intro xs us H μ Qd Q ok rs h k
  unfold nY at h
  split at h
  · rename_i i
    cases rs with
    | cons r1 r2 => cases r2; cases r1; exact .inl ⟨i, rfl, k (.v _) _ μ H .refl ok (Rp.int _) h⟩
  · rename_i b
    cases rs with
    | cons r1 r2 => cases r2; cases r1; exact .inr ⟨b, rfl, k (.v _) _ μ H .refl ok (Rp.int _) h⟩
  · exact h.elim
theorem lZ (hg : Gl X "int") (hm : X.mg "int" = none) (ha : DA X (e :: es) t)
    (he : starEach (e :: es) X.env = (false, eval e X.env) :: starEach es X.env := by rfl) (hpl : (backTo pos (starEach es X.env)).any (·.1) = false := by rfl) : DE X (.Call (.Name "int" p) (e :: es) [] pos) (dCB nY t) :=
  yr FE ML hg hm PyProof.Rows.Boot.«int» ha (by decide) (by decide) he hpl
def Iw : List D → Mu → DK → Prop := fun xs μ Q => match xs with
  | [.v (.list ys)] => Q (.v (.list ys)) μ
  | [.v (.tuple ys)] => Q (.v (.list ys)) μ
  | _ => False
theorem Bg : ∀ {bs : List Bool} {us : List Value}, Vals (bs.map V.bl) us → us = bs.map Value.bool
  | [], _, .nil => rfl
  | b :: r, _, .cons h t => by cases h; rw [Bg t]; rfl
theorem Fb (hc : X.calm = true) : jk X (.builtin "all") (fun xs H Q => ∃ (p : Addr) (bs : List Bool), xs = [.ref p] ∧ H p = some (.lst (bs.map V.bl)) ∧ Q (.bl (bs.all id)) H) := by
  intro pins s σ H xs us Q I r h
  obtain ⟨l, bs, rfl, hl, q⟩ := h
  obtain ⟨u, rfl, rx⟩ := vals1 r
  cases rx
  obtain ⟨its, rv, pl, _⟩ := I.list (SqL.of hl)
  have eb := Bg rv
  subst eb
  have hL := pl.isList
  have hlt := pl.lt
  refine call_all_walk (wpAny_pyIter_list hL ?_)
  refine ⟨s.heap.objs.size, [s.heap.objs.size, l], [s.heap.objs.size], (bs.map Value.bool).toArray.size, _, _, fun i => (bs[i]?).getD true, rfl, Walks.list (A := X.A.in1) (by exact I.ok.hd hc) _ l (Nat.ne_of_lt hlt) (bs.map Value.bool).toArray,
    ⟨⟨_, Heap.get?_push_size _ rfl, rfl, rfl⟩, hL.push _⟩, fun i v s' Q' E' hP hQ => ?_, fun h' tk hk => ?_⟩
  · have hP' : (bs.map Value.bool)[i]? = some v := by simpa using hP
    rw [List.getElem?_map] at hP'
    cases z : bs[i]? with
    | none => rw [z] at hP'; cases hP'
    | some b =>
      rw [z] at hP'
      cases hP'
      simp only [z, Option.getD_some] at hQ
      exact wpAny_truthy_bool hQ
  · have e : ((List.range (bs.map Value.bool).toArray.size).all fun i => (bs[i]?).getD true) = bs.all id := by
      rw [List.size_toArray, List.length_map]; exact PyProof.Rows.LSm.range_all bs
    rw [e]
    exact ⟨.bl (bs.all id), H, I.kept (PyProof.Rows.LSm.kept_iter hk), rfl, q⟩
def dg : List PyData → Option (List Bool)
  | [] => some []
  | .bool b :: r => (dg r).map (b :: ·)
  | _ :: _ => none
theorem wU {K : PySem.W.Frag} {μ : Mu} {H : Hp} : ∀ {xs : List PyData} {us : List V} {bs : List Bool}, RpL K μ H xs us → dg xs = some bs → us = bs.map V.bl
  | _, _, _, .nil, e => by cases e; rfl
  | .bool b :: r, _, bs, .cons h t, e => by
    simp only [dg] at e
    cases q : dg r with
    | none => rw [q] at e; cases e
    | some cs => rw [q] at e; cases e; cases h; rw [wU t q]; rfl
  | .none :: r, _, bs, .cons h t, e => by simp [dg] at e
  | .int _ :: r, _, bs, .cons h t, e => by simp [dg] at e
  | .str _ :: r, _, bs, .cons h t, e => by simp [dg] at e
  | .list _ :: r, _, bs, .cons h t, e => by simp [dg] at e
  | .tuple _ :: r, _, bs, .cons h t, e => by simp [dg] at e
  | .dict _ :: r, _, bs, .cons h t, e => by simp [dg] at e
def sj : List D → Mu → DK → Prop := fun xs μ Q => match xs with
  | [.v (.list ys)] => (match dg ys with | some bs => Q (.v (.bool (bs.all id))) μ | none => False)
  | _ => False
theorem LZ {K : PySem.W.Frag} : rO K (fun xs H Q => ∃ (p : Addr) (bs : List Bool), xs = [.ref p] ∧ H p = some (.lst (bs.map V.bl)) ∧ Q (.bl (bs.all id)) H) sj := by
  intro xs us H μ Qd Q ok rs h k
  unfold sj at h
  split at h
  · rename_i ys
    cases q : dg ys with
    | none => rw [q] at h; exact h.elim
    | some bs =>
      rw [q] at h
      cases rs with
      | cons r1 r2 =>
        cases r2
        cases r1 with
        | list hs hn r => exact ⟨_, bs, rfl, by rw [hs, wU r q], k (.v _) _ μ H .refl ok (Rp.bool _) h⟩
  · exact h.elim
theorem vx (hc : X.calm = true) (hg : Gl X "all") (hm : X.mg "all" = none) (ha : DA X (e :: es) t)
    (he : starEach (e :: es) X.env = (false, eval e X.env) :: starEach es X.env := by rfl) (hpl : (backTo pos (starEach es X.env)).any (·.1) = false := by rfl) : DE X (.Call (.Name "all" p) (e :: es) [] pos) (dCB sj t) :=
  oE (Fb hc) LZ hg hm PyProof.Rows.Boot.«all» ha (by decide) (by decide) he hpl
def tyD : PyData → String
  | .none => "NoneType"
  | .bool _ => "bool"
  | .int _ => "int"
  | .str _ => "str"
  | .list _ => "list"
  | .tuple _ => "tuple"
  | .dict _ => "dict"
def isT (T : String) (d : PyData) : Bool := tyD d == T || (T == "int" && tyD d == "bool")
theorem FR {pins : List (Addr × Obj)} {σ : St} {H : Hp} {s : Shared} {μ : Mu} {d : PyData} {u : V} {v : Value} {k : Bool} {A : Around} {E : Value → Shared → Prop} {Q : Value → Shared → Prop} (I : Inv X pins σ H s) (r : Rp X.K μ H d u) (rx : RelV u v)
    (ek : PySem.W.kitOne X.K (.type (tyD d)) (.type T) = some k) (h : ∀ tk, Q (.bool k) { s with toks := tk }) : wpAny (model X.prog X.w) A (call (.builtin "isinstance") [v, .type T]) Q E s := by
  cases r with
  | none => cases rx; exact PySem.W.kia_one PySem.W.kitx_none I.kIn True.intro ek (fun z => nomatch z) h
  | bool b => cases rx; exact PySem.W.kia_one PySem.W.kitx_bool I.kIn True.intro ek (fun z => nomatch z) h
  | int i => obtain ⟨t, rfl⟩ := rx; exact PySem.W.kia_one PySem.W.kitx_int I.kIn True.intro ek (fun z => nomatch z) h
  | str y => obtain ⟨t, rfl⟩ := rx; exact PySem.W.kia_one PySem.W.kitx_str I.kIn True.intro ek (fun z => nomatch z) h
  | list hs hn q =>
    cases rx
    obtain ⟨its, rv, ⟨o, n, h1, h2, _⟩, _⟩ := I.list (SqL.of hs)
    exact PySem.W.kia_one PySem.W.kitx_list I.kIn ⟨o, h1, h2⟩ ek (fun z => nomatch z) h
  | tuple hs q =>
    cases rx
    obtain ⟨its, rv, ⟨o, h1, h2, _⟩, _⟩ := I.tuple hs
    exact PySem.W.kia_one PySem.W.kitx_tuple I.kIn ⟨o, h1, h2⟩ ek (fun z => nomatch z) h
theorem Jq (K : PySem.W.Frag) (d : PyData) : PySem.W.kitOne K (.type (tyD d)) (.type "int") = some (isT "int" d) := by cases d <;> rfl
theorem Hi (K : PySem.W.Frag) (d : PyData) : PySem.W.kitOne K (.type (tyD d)) (.type "bool") = some (isT "bool" d) := by cases d <;> rfl
theorem kit_tuple (K : PySem.W.Frag) (d : PyData) : PySem.W.kitOne K (.type (tyD d)) (.type "tuple") = some (isT "tuple" d) := by cases d <;> rfl
theorem Br (kt : ∀ d, PySem.W.kitOne X.K (.type (tyD d)) (.type T) = some (isT T d)) : jk X (.builtin "isinstance") (fun xs H Q => ∃ μ d u, xs = [u, .ty T] ∧ Rp X.K μ H d u ∧ Q (.bl (isT T d)) H) := by
  intro pins s σ H xs us Q I r h
  obtain ⟨μ, d, u, rfl, rd, q⟩ := h
  obtain ⟨v, w', rfl, r1, r2⟩ := vals2 r
  cases r2
  exact FR I rd r1 (kt d) fun tk => ⟨.bl (isT T d), H, I.tok _, rfl, q⟩
def BJ (T : String) (te : DTE) : DTE := fun ρ μ Q => te ρ μ fun x μ1 => match x with
  | .v d => Q (.v (.bool (isT T d))) μ1
  | _ => False
theorem sS {y : Str} {py : Pos} (kt : ∀ d, PySem.W.kitOne X.K (.type (tyD d)) (.type T) = some (isT T d)) (hg : Gl X "isinstance") (hm : X.mg "isinstance" = none) (hgy : Gl X y) (hmy : X.mg y = none) (hvy : bootBuiltins y = some (.type T)) (ha : DE X e te)
    (hny : y ≠ "__name__" := by decide) (hdy : (y == ("__debug__" : Str)) = false := by decide)
    (he : starEach [e, .Name y py] X.env = (false, eval e X.env) :: starEach [.Name y py] X.env := by rfl) (he2 : starEach [.Name y py] X.env = [(false, eval (.Name y py) X.env)] := by rfl) (hpl : (backTo pos (starEach [.Name y py] X.env)).any (·.1) = false := by rfl) : DE X (.Call (.Name "isinstance" p) [e, .Name y py] [] pos) (BJ T te) := by
  obtain ⟨t1, p1, l1⟩ := ha
  refine ⟨_, Bn (Br kt) hg hm PyProof.Rows.Boot.«isinstance» (rJ p1 (rJ (Km (v := .ty T) hgy hmy hvy rfl hny hdy) Am he2) he) (by decide) (by decide) he hpl, fun σ H ρ μ Qd Q S h k => ?_⟩
  refine l1 σ H ρ μ _ _ S h fun x ux μ1 H1 e1 S1 rx h1 => ?_
  split at h1
  · exact ⟨μ1, _, ux, rfl, rx, k (.v _) _ μ1 H1 e1 S1 (Rp.bool _) h1⟩
  · exact h1.elim
def Oc : D → D → Mu → DK → Prop := fun x y μ Q => match x, y with
  | .v (.bool i), .v (.bool j) => Q (.v (.bool (i == j))) μ
  | .v .none, .v .none => Q (.v (.bool true)) μ
  | _, _ => False
end
open PySem PySem.Spec PyProof.Rows
section
variable {X : Cx} {a b e : Expr} {es : List Expr} {ta tb te : DTE} {t : DTA} {p pos : Pos} {st : Stmt} {rest sts : List Stmt} {td ud : DTS} {tc : DTT}
def cb : DTS := fun Dd ρ μ => Dd.nx ρ μ
def aM (t u : DTS) : DTS := fun Dd ρ μ => t { Dd with nx := u Dd } ρ μ
def bF (te : DTE) : DTS := fun Dd ρ μ => te ρ μ Dd.rt
def nO (te : DTE) : DTS := fun Dd ρ μ => te ρ μ fun _ μ1 => Dd.nx ρ μ1
def dy (c : DTT) (t u : DTS) : DTS := fun Dd ρ μ => c ρ μ fun b μ1 => if b = true then t Dd ρ μ1 else u Dd ρ μ1
theorem bj : DSs X [] cb := ⟨_, Kj, fun σ H ρ μ Dd De S h k1 k2 k3 k4 => k1 σ ρ μ H .refl S h⟩
theorem au (h : DS X st td) : DSs X [st] td := let ⟨t, p, l⟩ := h; ⟨t, Je p, l⟩
theorem lift_seq {K : PySem.W.Frag} {t u : TS} (l1 : yk K t td) (l2 : yk K u ud) : yk K (NB t u) (aM td ud) := by
  intro σ H ρ μ Dd De S h k1 k2 k3 k4
  refine l1 σ H ρ μ _ _ S h (fun σ' ρ' μ' H' e' S' h' => ?_) k2 k3 k4
  exact l2 σ' H' ρ' μ' Dd De S' h' (fun a b c d e2 => k1 a b c d (e'.trans e2)) (fun a b c d e2 => k2 a b c d (e'.trans e2)) (fun a b c d e2 => k3 a b c d (e'.trans e2)) (fun a b c d e2 => k4 a b c d (e'.trans e2))
theorem aj (h1 : DS X st td) (h2 : DSs X rest ud) : DSs X (st :: rest) (aM td ud) := by
  obtain ⟨t1, p1, l1⟩ := h1
  obtain ⟨t2, p2, l2⟩ := h2
  exact ⟨_, Gx p1 p2, lift_seq l1 l2⟩
theorem aD (he : DE X e te) : DS X (.Return (some e) pos) (bF te) := by
  obtain ⟨t1, p1, l1⟩ := he
  exact ⟨_, LL p1, fun σ H ρ μ Dd De S h k1 k2 k3 k4 => l1 σ H ρ μ _ _ S h fun d u μ' H' e' S' r q => k2 d u μ' H' e' S'.mu r q⟩
theorem jC (he : DE X e te) (hs : swapsWith e none pos.line X.env = pure false := by rfl) : DS X (.Expr e pos) (nO te) := by
  obtain ⟨t1, p1, l1⟩ := he
  exact ⟨_, JA p1 hs, fun σ H ρ μ Dd De S h k1 k2 k3 k4 => l1 σ H ρ μ _ _ S h fun d u μ' H' e' S' r q => k1 σ ρ μ' H' e' S' q⟩
theorem cj {c : Expr} {x y : List Stmt} (hc : DT X c tc) (ha : DSs X x td) (hb : DSs X y ud) : DS X (.If c x y pos) (dy tc td ud) := by
  obtain ⟨t0, p0, l0⟩ := hc
  obtain ⟨t1, p1, l1⟩ := ha
  obtain ⟨t2, p2, l2⟩ := hb
  refine ⟨_, N6 p0 p1 p2, fun σ H ρ μ Dd De S h k1 k2 k3 k4 => ?_⟩
  refine l0 σ H ρ μ _ _ S h fun c μ1 H1 e1 S1 h1 => ?_
  cases c with
  | true => exact Af (l1 σ H1 ρ μ1 Dd De S1 (by simpa using h1) (fun a b c d e2 => k1 a b c d (e1.trans e2)) (fun a b c d e2 => k2 a b c d (e1.trans e2)) (fun a b c d e2 => k3 a b c d (e1.trans e2)) (fun a b c d e2 => k4 a b c d (e1.trans e2)))
  | false => exact Aa (l2 σ H1 ρ μ1 Dd De S1 (by simpa using h1) (fun a b c d e2 => k1 a b c d (e1.trans e2)) (fun a b c d e2 => k2 a b c d (e1.trans e2)) (fun a b c d e2 => k3 a b c d (e1.trans e2)) (fun a b c d e2 => k4 a b c d (e1.trans e2)))
abbrev DTG := D → Rho → Mu → (Rho → Mu → Prop) → Prop
abbrev w9 := List PyData → Rho → Mu → (Rho → Mu → Prop) → Prop
def Ha (K : PySem.W.Frag) (g : TG) (gd : DTG) : Prop := ∀ (σ : St) (H : Hp) (ρ : Rho) (μ : Mu) (d : D) (u : V) (Qd : Rho → Mu → Prop) (Q : St → Hp → Prop), St0 K H ρ μ σ → RpD K μ H d u → gd d ρ μ Qd →
  (∀ σ' ρ' μ' H', Ext K μ H μ' H' → St0 K H' ρ' μ' σ' → Qd ρ' μ' → Q σ' H') → g u σ H Q
def LA (K : PySem.W.Frag) (g : TGs) (gd : w9) : Prop := ∀ (σ : St) (H : Hp) (ρ : Rho) (μ : Mu) (ds : List PyData) (us : List V) (Qd : Rho → Mu → Prop) (Q : St → Hp → Prop), St0 K H ρ μ σ → RpL K μ H ds us → gd ds ρ μ Qd →
  (∀ σ' ρ' μ' H', Ext K μ H μ' H' → St0 K H' ρ' μ' σ' → Qd ρ' μ' → Q σ' H') → g us σ H Q
def DG (X : Cx) (tg : Expr) (gd : DTG) : Prop := ∃ g, PG X tg g ∧ Ha X.K g gd
def DGs (X : Cx) (tg : List Expr) (gd : w9) : Prop := ∃ g, PGs X tg g ∧ LA X.K g gd
theorem jh.set {K : PySem.W.Frag} {μ : Mu} {H : Hp} {ρ : Rho} {σ : St} {i : Nat} {d : D} {u : V} (r : jh K μ H ρ σ) (h : RpD K μ H d u) : jh K μ H (ρ.set i (some d)) (σ.set i (some u)) := by
  refine ⟨by rw [List.length_set, List.length_set]; exact r.1, fun j d' e => ?_⟩
  by_cases hj : i = j
  · subst hj
    have hl : i < ρ.length := by
      have := (List.getElem?_eq_some_iff.mp e).1
      rw [List.length_set] at this
      exact this
    rw [List.getElem?_set_self hl] at e
    cases e
    exact ⟨u, List.getElem?_set_self (by rw [← r.1]; exact hl), h⟩
  · rw [List.getElem?_set_ne hj] at e
    obtain ⟨w, e1, e2⟩ := r.2 j d' e
    exact ⟨w, by rw [List.getElem?_set_ne hj]; exact e1, e2⟩
def aw (i : Nat) : DTG := fun d ρ μ Q => Q (ρ.set i (some d)) μ
theorem wy {K : PySem.W.Frag} {i : Nat} : Ha K (Ig i) (aw i) := fun σ H ρ μ d u Qd Q S r h k => k _ _ μ H .refl ⟨S.mu, S.rho.set r⟩ h
theorem aW {i : Nat} {x : Str} (hN : X.N.Nodup) (hi : X.N[i]? = some x) (hx : Loc X.env.scope x) (hf : X.fn x = true ∨ X.env.scope.names.lookup x = some .local := by first | exact .inl rfl | exact .inr rfl | assumption) : DG X (.Name x pos) (aw i) := ⟨_, J4 hN hi hx hf, wy⟩
def nT : w9 := fun ds ρ μ Q => match ds with
  | [] => Q ρ μ
  | _ => False
def cK (g : DTG) (gs : w9) : w9 := fun ds ρ μ Q => match ds with
  | d :: r => g (.v d) ρ μ fun ρ1 μ1 => gs r ρ1 μ1 Q
  | _ => False
theorem jr : DGs X [] nT := ⟨_, J1, fun σ H ρ μ ds us Qd Q S r h k => by
  cases r with
  | nil => exact ⟨rfl, k σ ρ μ H .refl S h⟩
  | cons _ _ => exact h.elim⟩
theorem bG {g : DTG} {gs : w9} (h1 : DG X e g) (h2 : DGs X es gs) (hs : (assignEach (e :: es) X.env).map (·.2) = assign e X.env :: (assignEach es X.env).map (·.2) := by rfl) : DGs X (e :: es) (cK g gs) := by
  obtain ⟨t1, p1, l1⟩ := h1
  obtain ⟨t2, p2, l2⟩ := h2
  refine ⟨_, IE p1 p2 hs, fun σ H ρ μ ds us Qd Q S r h k => ?_⟩
  cases r with
  | nil => exact h.elim
  | @cons d u ds us r1 r2 =>
    refine ⟨u, us, rfl, l1 σ H ρ μ (.v d) u _ _ S r1 h fun σ' ρ' μ' H' e1 S' h1 => ?_⟩
    exact l2 σ' H' ρ' μ' ds us _ _ S' (r2.ext S.mu e1) h1 fun a b c d e2 => k a b c d (e1.trans e2)
def nu (n : Nat) (gs : w9) : DTG := fun d ρ μ Q => match d with
  | .v (.tuple xs) => xs.length = n ∧ gs xs ρ μ Q
  | _ => False
theorem mr {k n : Nat} {gs : w9} (hc : X.calm = X.calm) (h : DGs X es gs)
    (hn : (assignEach es X.env).length = n := by rfl) (hst : (assignEach es X.env).findIdx? (·.1) = none := by rfl) : DG X (.Tuple es k pos) (nu n gs) := by
  obtain ⟨t1, p1, l1⟩ := h
  refine ⟨_, MI hc p1 hn hst, fun σ H ρ μ d u Qd Q S r h k => ?_⟩
  unfold nu at h
  split at h
  · cases r with
    | @tuple a us _ ha ra => exact ⟨a, us, rfl, ha, by rw [← ra.length]; exact h.1, l1 σ H ρ μ _ us _ _ S ra h.2 k⟩
  · exact h.elim
def EF (to ti : DTE) : DTG := fun d ρ μ Q => to ρ μ fun o μ1 => ti ρ μ1 fun i μ2 => match o, i, d with
  | .m l, .v (.int k), .v x => (match μ2 l with
    | some xs => (match ixN xs.length k with
      | some j => Q ρ (aV μ2 l (xs.set j x))
      | none => False)
    | none => False)
  | _, _, _ => False
theorem Hj {o i : Expr} {to ti : DTE} (ho : DE X o to) (hi : DE X i ti)
    (ha : ∀ v, assign (.Subscript o i pos) X.env v = (do
      let ov ← holding [v] (eval o X.env)
      let iv ← holding [v, ov] (eval i X.env)
      standAt pos
      holding [v, ov, iv] (setItem ov iv v)
      release [v, ov, iv] []) := by intro _; rfl) : DG X (.Subscript o i pos) (EF to ti) := by
  obtain ⟨t1, p1, l1⟩ := ho
  obtain ⟨t2, p2, l2⟩ := hi
  refine ⟨_, L6 p1 p2 set_list ha, fun σ H ρ μ d u Qd Q S r h k => ?_⟩
  refine l1 σ H ρ μ _ _ S h fun x ux μ1 H1 e1 S1 rx h1 => ?_
  refine l2 σ H1 ρ μ1 _ _ S1 h1 fun y uy μ2 H2 e2 S2 ry h2 => ?_
  have r2 := (r.ext S.mu e1).ext S1.mu e2
  have rx2 := rx.ext S1.mu e2
  split at h2
  · rename_i l kk xv
    obtain ⟨rfl, ds, hm⟩ := rx2
    cases ry
    rw [hm] at h2
    obtain ⟨us, hl, rl⟩ := S2.mu l ds hm
    simp only at h2
    cases q : ixN ds.length kk with
    | none => rw [q] at h2; exact h2.elim
    | some j =>
      rw [q] at h2
      refine ⟨l, us, kk, j, rfl, rfl, hl, by rw [← rl.length]; exact q, ?_⟩
      have ex : Ext X.K μ2 H2 (aV μ2 l (ds.set j xv)) (upd H2 l (.lst (us.set j u))) := rK hm
      exact k σ ρ _ _ (e1.trans (e2.trans ex)) ⟨S2.mu.set hm (rl.set r2 j), S2.rho.ext S2.mu ex⟩ h2
  · exact h2.elim
def bA (te : DTE) (g : DTG) : DTS := fun Dd ρ μ => te ρ μ fun d μ1 => g d ρ μ1 Dd.nx
theorem A7 {K : PySem.W.Frag} {t : TE} {g : TG} {gd : DTG} (l1 : sF K t te) (l2 : Ha K g gd) : yk K (Mv t g) (bA te gd) := by
  intro σ H ρ μ Dd De S h k1 k2 k3 k4
  refine l1 σ H ρ μ _ _ S h fun d u μ1 H1 e1 S1 r h1 => ?_
  exact l2 σ H1 ρ μ1 d u _ _ S1 r h1 fun a b c d e2 => k1 a b c d (e1.trans e2)
theorem j7 {tg : Expr} {g : DTG} (he : DE X e te) (hg : DG X tg g) (hs : swapsWithSole [tg] e pos.line X.env = pure false := by rfl) (hw : swappedStores [tg] e X.env = pure none := by rfl)
    (h1 : (assignEach [tg] X.env).map (·.2) = [assign tg X.env] := by rfl) : DS X (.Assign [tg] e pos) (bA te g) := by
  obtain ⟨t1, p1, l1⟩ := he
  obtain ⟨t2, p2, l2⟩ := hg
  exact ⟨_, LC p1 p2 hs hw h1, A7 l1 l2⟩
theorem aH {i : Nat} {x : Str} {pos' : Pos} (hN : X.N.Nodup) (hi : X.N[i]? = some x) (hx : Loc X.env.scope x) (he : DE X e te) (hs : swapsWith e (some (.Name x pos')) pos.line X.env = pure false := by rfl) (hf : X.fn x = true ∨ X.env.scope.names.lookup x = some .local := by first | exact .inl rfl | exact .inr rfl | assumption) :
    DS X (.Assign [.Name x pos'] e pos) (bA te (aw i)) := by
  obtain ⟨t1, p1, l1⟩ := he
  exact ⟨_, MS hN hi hx p1 hs hf, A7 l1 wy⟩
def yZ (i j : Nat) (t : DTA) : DTS := fun Dd ρ μ => t ρ μ fun ds μ1 => match ds with
  | [v, w] => Dd.nx ((ρ.set i (some v)).set j (some w)) μ1
  | _ => False
theorem qr {i j : Nat} {x y : Str} {a b : Expr} {t : DTA} {px py pt : Pos} {kt k2 pt2} (hc : X.calm = true) (hN : X.N.Nodup) (hi : X.N[i]? = some x) (hj : X.N[j]? = some y) (hij : i ≠ j)
    (hx : X.env.scope.names.lookup x = some .local) (hy : X.env.scope.names.lookup y = some .local) (ha : DA X [a, b] t)
    (hw : swappedStores [.Tuple [.Name x px, .Name y py] kt pt] (.Tuple [a, b] k2 pt2) X.env = pure (some [x, y]))
    (hs : swapsWithSole [.Tuple [.Name x px, .Name y py] kt pt] (.Tuple [a, b] k2 pt2) pos.line X.env = pure false := by rfl) :
    DS X (.Assign [.Tuple [.Name x px, .Name y py] kt pt] (.Tuple [a, b] k2 pt2) pos) (yZ i j t) := by
  obtain ⟨t1, p1, l1⟩ := ha
  refine ⟨_, LD hc hN hi hj hij hx hy p1 hw hs, fun σ H ρ μ Dd De S h k1 k2 k3 k4 => ?_⟩
  refine l1 σ H ρ μ _ _ S h fun ds us μ1 H1 e1 S1 rs len h1 => ?_
  split at h1
  · cases rs with
    | cons r1 r2 =>
      cases r2 with
      | cons r2 r3 =>
        cases r3
        exact ⟨_, _, rfl, k1 _ _ μ1 H1 e1 ⟨S1.mu, (S1.rho.set r1).set r2⟩ h1⟩
  · exact h1.elim
def Ci (c : DTT) (tb : DTS) : DTS := fun Dd ρ μ => ∃ W : Nat → Rho → Mu → Prop, (∃ m, W m ρ μ) ∧ ∀ m ρ μ, W m ρ μ →
  c ρ μ fun b μ1 => if b = true then tb { Dd with nx := fun ρ' μ' => ∃ m', m' < m ∧ W m' ρ' μ', ct := fun ρ' μ' => ∃ m', m' < m ∧ W m' ρ' μ', bk := Dd.nx } ρ μ1 else Dd.nx ρ μ1
theorem BB {c : Expr} {body : List Stmt} (hp : PassesOwn (model X.prog X.w) X.A X.env X.xe) (hc : DT X c tc) (hb : DSs X body td) : DS X (.While c body [] pos) (Ci tc td) := by
  obtain ⟨t0, p0, l0⟩ := hc
  obtain ⟨t1, p1, l1⟩ := hb
  refine ⟨_, He hp p0 p1, fun σ H ρ μ Dd De S h k1 k2 k3 k4 => ?_⟩
  obtain ⟨W, ⟨m, w0⟩, turn⟩ := h
  refine ⟨fun m σ' H' => ∃ ρ' μ', Ext X.K μ H μ' H' ∧ St0 X.K H' ρ' μ' σ' ∧ W m ρ' μ', ⟨m, ρ, μ, .refl, S, w0⟩, ?_⟩
  rintro m σ1 H1 ⟨ρ1, μ1, e1, S1, w1⟩
  refine l0 σ1 H1 ρ1 μ1 _ _ S1 (turn m ρ1 μ1 w1) fun b μ2 H2 e2 S2 h2 => ?_
  cases b with
  | true =>
    refine Af ⟨fun σ' H' => ∃ m', m' < m ∧ ∃ ρ' μ', Ext X.K μ H μ' H' ∧ St0 X.K H' ρ' μ' σ' ∧ W m' ρ' μ', fun σ' H' ⟨m', hm, q⟩ => ⟨m', hm, q⟩, ?_⟩
    have nxt : ∀ σ' ρ' μ' H', Ext X.K μ2 H2 μ' H' → St0 X.K H' ρ' μ' σ' → (∃ m', m' < m ∧ W m' ρ' μ') → ∃ m', m' < m ∧ ∃ ρ' μ', Ext X.K μ H μ' H' ∧ St0 X.K H' ρ' μ' σ' ∧ W m' ρ' μ' :=
      fun σ' ρ' μ' H' e3 S3 ⟨m', hm, q⟩ => ⟨m', hm, ρ', μ', e1.trans (e2.trans e3), S3, q⟩
    rw [if_pos rfl] at h2
    exact l1 σ1 H2 ρ1 μ2 _ _ S2 h2 nxt (fun a b c d e3 => k2 a b c d (e1.trans (e2.trans e3))) (fun a b c d e3 => k1 a b c d (e1.trans (e2.trans e3))) nxt
  | false => exact Aa (k1 σ1 ρ1 μ2 H2 (e1.trans e2) S2 (by simpa using h2))
abbrev DTI := Rho → Mu → (List PyData → Mu → Prop) → Prop
def JW (K : PySem.W.Frag) (J : It) (xs : List PyData) (μ1 : Mu) (H1 : Hp) : Prop := ∀ μ2 H2, Ext K μ1 H1 μ2 H2 → dw K μ2 H2 → ∀ i, (i < xs.length → J.go i H2 ∧ ∀ x H', J.yld i H2 x H' → ∃ d, xs[i]? = some d ∧ qx H2 H' ∧ Rp K μ2 H' d x) ∧ (i = xs.length → J.stop i H2)
def Np (K : PySem.W.Frag) (wi : TI) (src : DTI) : Prop := ∀ (σ : St) (H : Hp) (ρ : Rho) (μ : Mu) (Qd : List PyData → Mu → Prop) (R : It → Hp → Prop), St0 K H ρ μ σ → src ρ μ Qd →
  (∀ xs μ1 H1 J, Ext K μ H μ1 H1 → St0 K H1 ρ μ1 σ → JW K J xs μ1 H1 → Qd xs μ1 → R J H1) → wi σ H R
def DI (X : Cx) (tg iter : Expr) (src : DTI) : Prop := ∃ wi, PI X tg iter wi ∧ Np X.K wi src
variable {tg : Expr}
def zZ (te : DTE) : DTI := fun ρ μ Q => te ρ μ fun d μ1 => match d with
  | .v (.list xs) => Q xs μ1
  | _ => False
def nU (te : DTE) : DTI := fun ρ μ Q => te ρ μ fun d μ1 => match d with
  | .v (.tuple xs) => Q xs μ1
  | _ => False
theorem D0 (h : DE X e te) : DI X tg e (zZ te) := by
  obtain ⟨t1, p1, l1⟩ := h
  refine ⟨_, Jv p1, fun σ H ρ μ Qd R S h k => ?_⟩
  refine l1 σ H ρ μ _ _ S h fun d u μ1 H1 e1 S1 r h1 => ?_
  split at h1
  · rename_i xs
    cases r with
    | @list a us _ ha hn ra =>
      refine ⟨a, rfl, ⟨us, SqL.of ha⟩, k xs μ1 H1 _ e1 S1 (fun μ2 H2 e2 ok2 i => ⟨fun hi => ?_, fun hi => ?_⟩) h1⟩
      · have ha2 := e2.keep _ _ ha hn trivial
        have hiu : i < us.length := by rw [← ra.length]; exact hi
        refine ⟨⟨us, us[i], SqL.of ha2, by simp [hiu]⟩, fun x H' ⟨eH, hx⟩ => ?_⟩
        subst eH
        obtain ⟨u', h1', h2'⟩ := ra.get (i := i) (d := xs[i]) (by simp [hi])
        have := hx us (SqL.of ha2)
        rw [h1'] at this
        cases this
        exact ⟨xs[i], by simp [hi], qx.refl _, h2'.ext S1.mu e2⟩
      · exact ⟨us, SqL.of (e2.keep _ _ ha hn trivial), by rw [← ra.length]; omega⟩
  · exact h1.elim
theorem mq (h : DE X e te) : DI X tg e (nU te) := by
  obtain ⟨t1, p1, l1⟩ := h
  refine ⟨_, Mq p1, fun σ H ρ μ Qd R S h k => ?_⟩
  refine l1 σ H ρ μ _ _ S h fun d u μ1 H1 e1 S1 r h1 => ?_
  split at h1
  · rename_i xs
    cases r with
    | @tuple a us _ ha ra =>
      refine ⟨a, rfl, ⟨us, ha⟩, k xs μ1 H1 _ e1 S1 (fun μ2 H2 e2 ok2 i => ⟨fun hi => ?_, fun hi => ?_⟩) h1⟩
      · have ha2 := zN S1.mu e2 ha
        have hiu : i < us.length := by rw [← ra.length]; exact hi
        refine ⟨⟨us, us[i], ha2, by simp [hiu]⟩, fun x H' ⟨eH, hx⟩ => ?_⟩
        subst eH
        obtain ⟨u', h1', h2'⟩ := ra.get (i := i) (d := xs[i]) (by simp [hi])
        have := hx us ha2
        rw [h1'] at this
        cases this
        exact ⟨xs[i], by simp [hi], qx.refl _, h2'.ext S1.mu e2⟩
      · exact ⟨us, zN S1.mu e2 ha, by rw [← ra.length]; omega⟩
  · exact h1.elim
def nW (lo : Int) (n : Nat) : List PyData := (List.range n).map fun (i : Nat) => PyData.int (lo + (i : Int))
theorem GD {K : PySem.W.Frag} {lo : Int} {n : Nat} {μ : Mu} {H : Hp} : JW K (Itr lo n) (nW lo n) μ H := fun μ2 H2 e2 ok2 i => by
  have hl : (nW lo n).length = n := by unfold nW; simp
  refine ⟨fun hi => ?_, fun hi => ?_⟩
  · rw [hl] at hi
    refine ⟨hi, fun x H' ⟨eH, hx⟩ => ?_⟩
    subst eH hx
    exact ⟨.int (lo + i), by unfold nW; simp [hi], qx.refl _, .int _⟩
  · show n ≤ i
    omega
def vH (t : DTA) : DTI := fun ρ μ Q => t ρ μ fun ds μ1 => match ds with
  | [.v (.int j)] => (-(2 ^ 62) ≤ j ∧ j < 2 ^ 62) ∧ Q (nW 0 j.toNat) μ1
  | _ => False
def wL (t : DTA) : DTI := fun ρ μ Q => t ρ μ fun ds μ1 => match ds with
  | [.v (.int i), .v (.int j)] => (-(2 ^ 62) ≤ i ∧ i < 2 ^ 62 ∧ -(2 ^ 62) ≤ j ∧ j < 2 ^ 62) ∧ Q (nW i (j - i).toNat) μ1
  | _ => False
theorem zw {a : Expr} {t : DTA} {p pos : Pos} (hg : Gl X "range") (hm : X.mg "range" = none) (ha : DA X [a] t) (hs : starEach [a] X.env = [(false, eval a X.env)] := by rfl) (hc : X.calm = true := by rfl) : DI X tg (.Call (.Name "range" p) [a] [] pos) (vH t) := by
  obtain ⟨t1, p1, l1⟩ := ha
  refine ⟨_, E9 hc hg hm p1 hs, fun σ H ρ μ Qd R S h k => ?_⟩
  refine l1 σ H ρ μ _ _ S h fun ds us μ1 H1 e1 S1 rs len h1 => ?_
  split at h1
  · rename_i j
    cases rs with
    | cons r1 r2 => cases r2; cases r1; exact ⟨j, rfl, h1.1.1, h1.1.2, k _ μ1 H1 _ e1 S1 GD h1.2⟩
  · exact h1.elim
theorem EW {a b : Expr} {t : DTA} {p pos : Pos} (hg : Gl X "range") (hm : X.mg "range" = none) (ha : DA X [a, b] t) (hs : starEach [a, b] X.env = [(false, eval a X.env), (false, eval b X.env)] := by rfl) (hs2 : starEach [b] X.env = [(false, eval b X.env)] := by rfl) (hc : X.calm = true := by rfl) : DI X tg (.Call (.Name "range" p) [a, b] [] pos) (wL t) := by
  obtain ⟨t1, p1, l1⟩ := ha
  refine ⟨_, FY hc hg hm p1 hs hs2, fun σ H ρ μ Qd R S h k => ?_⟩
  refine l1 σ H ρ μ _ _ S h fun ds us μ1 H1 e1 S1 rs len h1 => ?_
  split at h1
  · rename_i i j
    cases rs with
    | cons r1 r2 =>
      cases r2 with
      | cons r2 r3 => cases r3; cases r1; cases r2; exact ⟨i, j, rfl, h1.1, k _ μ1 H1 _ e1 S1 GD h1.2⟩
  · exact h1.elim
def Al (src : DTI) (g : DTG) (tb : DTS) : DTS := fun Dd ρ μ => src ρ μ fun xs μ1 => ∃ Pv : Nat → Rho → Mu → Prop, Pv 0 ρ μ1 ∧
  (∀ i x ρ' μ', xs[i]? = some x → Pv i ρ' μ' → g (.v x) ρ' μ' fun ρ2 μ2 => tb { Dd with nx := Pv (i + 1), ct := Pv (i + 1), bk := Dd.nx } ρ2 μ2) ∧ (∀ ρ' μ', Pv xs.length ρ' μ' → Dd.nx ρ' μ')
theorem tu {iter : Expr} {body : List Stmt} {src : DTI} {g : DTG} (hp : PassesOwn (model X.prog X.w) X.A X.env X.xe) (hc : X.calm = true) (hi : DI X tg iter src) (hg : DG X tg g) (hb : DSs X body td)
    (hs : ∀ x, foldedSetIterable iter X.env x = pure x := by intro _; rfl) : DS X (.For tg iter body [] pos) (Al src g td) := by
  obtain ⟨t0, p0, l0⟩ := hi
  obtain ⟨t1, p1, l1⟩ := hg
  obtain ⟨t2, p2, l2⟩ := hb
  refine ⟨_, MB hp hc p0 p1 p2 hs, fun σ H ρ μ Dd De S h k1 k2 k3 k4 => ?_⟩
  refine l0 σ H ρ μ _ _ S h fun xs μ1 H1 J e1 S1 it h1 => ?_
  obtain ⟨Pv, pv0, turn, fin⟩ := h1
  refine ⟨fun i m σ' H' => m = xs.length - i ∧ i ≤ xs.length ∧ ∃ ρ' μ', Ext X.K μ1 H1 μ' H' ∧ St0 X.K H' ρ' μ' σ' ∧ Pv i ρ' μ', ⟨xs.length, by simp, Nat.zero_le _, ρ, μ1, .refl, S1, pv0⟩, ?_⟩
  rintro i m σ' H' ⟨rfl, hi, ρ', μ', e2, S2, pv⟩
  obtain ⟨go, stop⟩ := it μ' H' e2 S2.mu i
  by_cases hlt : i < xs.length
  · obtain ⟨g1, y1⟩ := go hlt
    refine .inr ⟨g1, fun σ2 H2 => ∃ ρ2 μ2, Ext X.K μ1 H1 μ2 H2 ∧ St0 X.K H2 ρ2 μ2 σ2 ∧ Pv (i + 1) ρ2 μ2, fun σ2 H2 q => ⟨xs.length - (i + 1), by omega, rfl, hlt, q⟩, fun x H2 yl => ?_⟩
    obtain ⟨d, hd, sm, rd⟩ := y1 x H2 yl
    have e3 : Ext X.K μ' H' μ' H2 := .of_same sm
    have S3 : St0 X.K H2 ρ' μ' σ' := ⟨S2.mu.J2 e3 sm, S2.rho.ext S2.mu e3⟩
    refine l1 σ' H2 ρ' μ' (.v d) x _ _ S3 rd (turn i d ρ' μ' hd pv) fun σ4 ρ4 μ4 H4 e4 S4 h4 => ?_
    have nxt : ∀ a b c dd, Ext X.K μ4 H4 c dd → St0 X.K dd b c a → Pv (i + 1) b c → ∃ ρ2 μ2, Ext X.K μ1 H1 μ2 dd ∧ St0 X.K dd ρ2 μ2 a ∧ Pv (i + 1) ρ2 μ2 := fun a b c dd e5 S5 q => ⟨b, c, e2.trans (e3.trans (e4.trans e5)), S5, q⟩
    have ee := e1.trans (e2.trans (e3.trans e4))
    exact l2 σ4 H4 ρ4 μ4 _ _ S4 h4 nxt (fun a b c d e5 => k2 a b c d (ee.trans e5)) (fun a b c d e5 => k1 a b c d (ee.trans e5)) nxt
  · have ei : i = xs.length := by omega
    subst ei
    exact .inl ⟨stop rfl, k1 σ' ρ' μ' H' (e1.trans e2) S2 (fin ρ' μ' pv)⟩
end
abbrev DSp := List D → Mu → DK → Prop
def spD (K : PySem.W.Frag) (dsp : DSp) : Sp := fun vs H Q _ => ∃ (ds : List D) (μ : Mu) (Qd : DK), dw K μ H ∧ kP K μ H ds vs ∧ dsp ds μ Qd ∧
  (∀ d u μ' H', Ext K μ H μ' H' → dw K μ' H' → RpD K μ' H' d u → Qd d μ' → Q u H')
def aO (N : List Str) (ds : List D) : Rho := ds.map some ++ List.replicate (N.length - ds.length) none
theorem kP.get {K : PySem.W.Frag} {μ : Mu} {H : Hp} {ds : List D} {us : List V} : ∀ {i : Nat} {d : D}, kP K μ H ds us → ds[i]? = some d → ∃ u, us[i]? = some u ∧ RpD K μ H d u
  | _, _, .nil, h => by simp at h
  | 0, _, .cons r _, h => by simp at h; subst h; exact ⟨_, rfl, r⟩
  | i + 1, d, .cons _ t, h => by
    obtain ⟨u, h1, h2⟩ := kP.get (i := i) (d := d) t (by simpa using h)
    exact ⟨u, by simpa using h1, h2⟩
theorem Fu {K : PySem.W.Frag} {μ : Mu} {H : Hp} {N : List Str} {ds : List D} {vs : List V} (r : kP K μ H ds vs) : jh K μ H (aO N ds) (start N vs) := by
  have hl := r.length
  refine ⟨by unfold aO start; simp [hl], fun i d e => ?_⟩
  unfold aO at e
  by_cases hi : i < ds.length
  · rw [List.getElem?_append_left (by simpa using hi), List.getElem?_map] at e
    unfold start
    rw [List.getElem?_append_left (by simpa [hl] using hi), List.getElem?_map]
    cases q : ds[i]? with
    | none => rw [q] at e; cases e
    | some d' =>
      rw [q] at e
      cases e
      obtain ⟨u, h1, h2⟩ := r.get q
      exact ⟨u, by rw [h1]; rfl, h2⟩
  · rw [List.getElem?_append_right (by simpa using hi), List.getElem?_replicate] at e
    split at e <;> cases e
section
variable {P : Program} {w : World} {K : PySem.W.Frag} {mg : Str → Option Value} {base : Heap}
theorem _root_.L2.Fun.okD {x qual : Str} {st : Stmt} {f : Addr} {fd : FuncData} {N ps : List Str} {k : Nat} {dsp : DSp} (F : Fun K x qual st f fd) (S : aG N ps (aC st)) (len : ∀ ds μ Q, dsp ds μ Q → ds.length = ps.length)
    (hbody : ∀ (cdv : Value) (A : Around) (outer : List Env) (s : Shared) (H : Hp) (E : XK), mJ k (A.deeper (envOfC qual (aC st) s.heap.objs.size f cdv)) →
      ∃ td, DSs (Dt CX0 P w K mg base N qual (aC st) f cdv A outer s H E).nox (kK st) td ∧ ∀ ds μ Qd, dsp ds μ Qd → td { nx := fun _ μ' => Qd (.v .none) μ', rt := Qd } (aO N ds) μ) : bU P w K mg base CX0 (k + 1) f fd ps (spD K dsp) := by
  refine F.ok S (fun vs H Q E h => ?_) (fun cdv A outer s H vs Q E hr h => ?_)
  · obtain ⟨ds, μ, Qd, _, r, h, _⟩ := h
    rw [← r.length]
    exact len ds μ Qd h
  · obtain ⟨ds, μ, Qd, ok, r, h, fin⟩ := h
    obtain ⟨td, ⟨t, p, l⟩, rd⟩ := hbody cdv A outer s H E hr
    refine ⟨t, p, ?_⟩
    exact l (start N vs) H (aO N ds) μ _ _ ⟨ok, Fu r⟩ (rd ds μ Qd h) (fun σ' ρ' μ' H' e' S' q => fin (.v .none) .non μ' H' e' S'.mu Rp.none q) (fun d u μ' H' e' ok' r' q => fin d u μ' H' e' ok' r' q) (fun _ _ _ _ _ _ q => q) (fun _ _ _ _ _ _ q => q)
end
section
variable {X : Cx} {e : Expr} {es : List Expr} {t : DTA} {p pos : Pos} {x : Str} {k : Nat} {f : Addr} {fd : FuncData} {ps : List Str} {dsp : DSp}
def aq (dsp : DSp) (t : DTA) : DTE := fun ρ μ Q => t ρ μ fun ds μ1 => dsp ds μ1 Q
theorem ah (F : bU X.prog X.w X.K X.mg X.base CX0 k f fd ps (spD X.K dsp)) (hr : mJ k X.A) (hg : Gl X x) (hm : X.mg x = some (.ref f)) (hk : PySem.W.keepIn X.K (.ref f) = true) (hb : Binds X.K fd ps [])
    (ha : DA X (e :: es) t) (hdb : (x == ("__debug__" : Str)) = false := by decide) (he : starEach (e :: es) X.env = (false, eval e X.env) :: starEach es X.env := by rfl) (hpl : (backTo pos (starEach es X.env)).any (·.1) = false := by rfl) :
    DE X (.Call (.Name x p) (e :: es) [] pos) (aq dsp t) := by
  obtain ⟨t1, p1, l1⟩ := ha
  refine ⟨_, Ka F hr hg hm hk hb .nil Nz p1 hdb he hpl, fun σ H ρ μ Qd Q S h kk => ?_⟩
  refine l1 σ H ρ μ _ _ S h fun ds us μ1 H1 e1 S1 rs len h1 => ?_
  refine ⟨ds, μ1, Qd, S1.mu, by rw [List.append_nil]; exact rs, h1, fun d u μ' H' e2 ok r q => ?_⟩
  exact kk d u μ' H' (e1.trans e2) ⟨ok, S1.rho.ext S1.mu e2⟩ r q
end
section
variable {X : Cx} {o e : Expr} {to te : DTE} {apos cpos : Pos}
def J3 (to te : DTE) : DTE := fun ρ μ Q => to ρ μ fun x μ1 => match x with
  | .m l => te ρ μ1 fun y μ2 => (match y, μ2 l with
    | .v d, some xs => xs.length < 1000 ∧ Q (.v .none) (aV μ2 l (xs ++ [d]))
    | _, _ => False)
  | _ => False
theorem FG (ho : DE X o to) (ha : DE X e te) (hbase : attributeBase o "append" X.env (eval o X.env) = eval o X.env := by rfl)
    (hfew : ((backTo cpos (starEach [e] X.env)).all (fun x => !x.1) && (backToKw cpos (keywordEach [] X.env)).all (fun x => x.1.isSome)
      && decide ([e].length + ([] : List Keyword).length + (if ([] : List Keyword).isEmpty then 0 else 1) < 30)) = true := by rfl)
    (hline : (apos.endLine == cpos.line) = true := by rfl) (hs : starEach [e] X.env = (false, eval e X.env) :: starEach [] X.env := by rfl) (hplain : (backTo cpos (starEach [] X.env)).any (·.1) = false := by rfl) :
    DE X (.Call (.Attribute o "append" apos) [e] [] cpos) (J3 to te) := by
  obtain ⟨t1, p1, l1⟩ := ho
  obtain ⟨t2, p2, l2⟩ := ha
  refine ⟨_, La PySem.F.plainAttrs_list PySem.F.slot_list_append PySem.F.type_list_append sW p1 (rJ p2 Am hs) hbase hfew hline hs hplain, fun σ H ρ μ Qd Q S h k => ?_⟩
  refine l1 σ H ρ μ _ _ S h fun x ux μ1 H1 e1 S1 rx h1 => ?_
  cases x with
  | m l =>
    obtain ⟨rfl, ds, hm⟩ := id rx
    obtain ⟨us, hl, rl⟩ := S1.mu l ds hm
    refine ⟨.inl ⟨rfl, us, SqL.of hl⟩, ?_⟩
    refine l2 σ H1 ρ μ1 _ _ S1 h1 fun y uy μ2 H2 e2 S2 ry h2 => ?_
    obtain ⟨_, ds2, hm2⟩ := rx.ext S1.mu e2
    obtain ⟨us2, hl2, rl2⟩ := S2.mu l ds2 hm2
    rw [hm2] at h2
    cases y with
    | v d =>
      have h3 : ds2.length < 1000 ∧ Qd (.v .none) (aV μ2 l (ds2 ++ [d])) := h2
      refine ⟨l, us2, uy, rfl, rfl, hl2, by rw [← rl2.length]; exact ib (Nat.le_of_lt h3.1), ?_⟩
      have ex : Ext X.K μ2 H2 (aV μ2 l (ds2 ++ [d])) (upd H2 l (.lst (us2 ++ [uy]))) := rK hm2
      exact k (.v .none) .non _ _ (e1.trans (e2.trans ex)) ⟨S2.mu.set hm2 (rl2.append (.cons ry .nil)), S2.rho.ext S2.mu ex⟩ Rp.none h3.2
    | m _ => exact h2.elim
    | s _ => exact h2.elim
    | o _ => exact h2.elim
    | q _ => exact h2.elim
  | v d => exact h1.elim
  | s ns => exact h1.elim
  | o _ => exact h1.elim
  | q _ => exact h1.elim
def OC (to te : DTE) : DTE := fun ρ μ Q => to ρ μ fun x μ1 => match x with
  | .m l => te ρ μ1 fun y μ2 => (match y, μ2 l with
    | .v (.list ys), some xs => xs.length + ys.length ≤ 1000 ∧ Q (.v .none) (aV μ2 l (xs ++ ys))
    | _, _ => False)
  | _ => False
def Nh (to : DTE) : DTE := fun ρ μ Q => to ρ μ fun x μ1 => match x with
  | .v (.int i) => Q (.v (.int (Builtin.Int.intBits i : Nat))) μ1
  | _ => False
end
open PySem PySem.Spec PyProof.Rows
theorem kD {prog : Program} {w : World} {A : Around} {R : Result → Shared → Prop} {s : Shared} {elt target iter : Expr} {ifs : List Expr} {scope : Scope} {pos : Pos} {it acc : Value} {env : Env} (I : Nat → Shared → Prop)
    (turn : ∀ n s, I n s → wpAny (model prog w) A (pyNext it) (fun r s₁ => match r with
      | none => R (.ok .next) s₁
      | some v => wpAny (model prog w) A (letOwnedTupleGo target it v) (fun _ s' => wpAny (model prog w) A (assign target env v) (fun _ s₂ =>
          wpAny (model prog w) A (forIn ifs true fun c r => if r = true then do let ok ← isTrue c env (eval c env); pure (ForInStep.yield ok) else pure (ForInStep.yield r)) (fun ok s₃ =>
            if ok = true then wpAny (model prog w) A (eval elt env) (fun x s₄ =>
              wpAny (model prog w) A (call (.builtin "list.append") [acc, x]) (fun _ s₅ => ∃ m, m < n ∧ I m s₅) (fun _ _ => False) s₄) (fun _ _ => False) s₃
            else ∃ m, m < n ∧ I m s₃) (fun _ _ => False) s₂) (fun _ _ => False) s') (fun _ _ => False) s₁) (fun _ _ => False) s)
    (n : Nat) (h : I n s) :
    codeAny (model prog w) A (.compLoop (.ListComp elt [⟨target, iter, ifs, 0⟩] scope pos) 0 it acc env) R s := by
  refine codeAny_loop rfl I (fun n s hI => ?_) n h
  show wpAny _ A ((compTurn (.ListComp elt [⟨target, iter, ifs, 0⟩] scope pos) 0 it acc env).onRaise (fun x => do noteFrame x env; theTreesLotGoes x)) _ _ s
  refine wpAny_noted ?_
  rw [compTurn_list]
  refine wpAny_bind (wpAny_standAt (wpAny_bind (wpAny_mono (turn n s hI) (fun r s₁ h₁ => ?_) fun _ _ h' => h'.elim)))
  cases r with
  | none => exact wpAny_pure h₁
  | some v =>
    refine wpAny_bind (wpAny_mono h₁ (fun _ s' h' => ?_) fun _ _ h' => h'.elim)
    refine wpAny_bind (wpAny_mono h' (fun _ s₂ h₂ => wpAny_bind (wpAny_mono h₂ (fun ok s₃ h₃ => ?_) fun _ _ h' => h'.elim)) fun _ _ h' => h'.elim)
    cases ok with
    | false => exact wpAny_pure ⟨rfl, h₃⟩
    | true =>
      exact wpAny_bind (wpAny_bind (wpAny_mono h₃ (fun x s₄ h₄ => wpAny_bind (wpAny_mono h₄ (fun _ s₅ h₅ => wpAny_pure (wpAny_pure ⟨rfl, h₅⟩)) fun _ _ h' => h'.elim)) fun _ _ h' => h'.elim))
section
variable {K : PySem.W.Frag} {μ μ' : Mu} {H : Hp}
mutual
theorem Rp.shrink {d : PyData} {u : V} (sub : ∀ a, μ' a = none → μ a = none) : Rp K μ' H d u → Rp K μ H d u
  | .none => .none
  | .bool b => .bool b
  | .int i => .int i
  | .str x => .str x
  | .list h n r => .list h (sub _ n) (RpL.shrink sub r)
  | .tuple h r => .tuple h (RpL.shrink sub r)
theorem RpL.shrink {ds : List PyData} {us : List V} (sub : ∀ a, μ' a = none → μ a = none) : RpL K μ' H ds us → RpL K μ H ds us
  | .nil => .nil
  | .cons h r => .cons (Rp.shrink sub h) (RpL.shrink sub r)
end
end
theorem NA {X : Cx} {e : Expr} {td : DTE} (h : ∀ (pins : List (Addr × Obj)) (s : Shared) (σ : St) (H : Hp) (ρ : Rho) (μ : Mu) (Qd : DK) (Q : VK), Inv X pins σ H s → St0 X.K H ρ μ σ → td ρ μ Qd →
    (∀ d u μ' H', Ext X.K μ H μ' H' → St0 X.K H' ρ μ' σ → RpD X.K μ' H' d u → Qd d μ' → Q u H') → wpAny (model X.prog X.w) X.A (eval e X.env) (EP X pins σ Q) X.xe s) : DE X e td :=
  ⟨fun σ H Q => ∃ ρ μ Qd, St0 X.K H ρ μ σ ∧ td ρ μ Qd ∧ (∀ d u μ' H', Ext X.K μ H μ' H' → St0 X.K H' ρ μ' σ → RpD X.K μ' H' d u → Qd d μ' → Q u H'),
    fun pins s σ H Q I ⟨ρ, μ, Qd, S, q, k⟩ => h pins s σ H ρ μ Qd Q I S q k, fun σ H ρ μ Qd Q S q k => ⟨ρ, μ, Qd, S, q, k⟩⟩
def cf (X : Cx) (N' : List Str) (scope : Scope) (cl : List (Str × Addr)) (fp : List Addr) (s₃ : Shared) (H₃ : Hp) : Cx :=
  { X with N := N', s₀ := s₃, H₀ := H₃, env := compEnvC scope cl s₃.heap.objs.size X.env, outer := X.stack, stack := X.stack, ex := fp, fn := fun _ => false, pn := X.pn, xe := fun _ _ => False }
def Le : Rho → Rho → Prop
  | [], [] => True
  | none :: r, _ :: r' => Le r r'
  | some d :: r, some d' :: r' => d = d' ∧ Le r r'
  | _, _ => False
theorem Le.get : ∀ {ρ ρ' : Rho}, Le ρ ρ' → ρ.length = ρ'.length ∧ ∀ (i : Nat) d, ρ[i]? = some (some d) → ρ'[i]? = some (some d)
  | [], [], _ => ⟨rfl, fun _ _ h => h⟩
  | none :: r, x :: r', h => by
    obtain ⟨h1, h2⟩ := Le.get (ρ := r) (ρ' := r') h
    refine ⟨congrArg (· + 1) h1, fun i d e => ?_⟩
    cases i with
    | zero => simp at e
    | succ j => exact h2 j d (by simpa using e)
  | some d :: r, some d' :: r', h => by
    obtain ⟨rfl, h⟩ := h
    obtain ⟨h1, h2⟩ := Le.get (ρ := r) (ρ' := r') h
    refine ⟨congrArg (· + 1) h1, fun i d e => ?_⟩
    cases i with
    | zero => simpa using e
    | succ j => exact h2 j d (by simpa using e)
  | some d :: r, none :: r', h => h.elim
  | [], _ :: _, h => h.elim
  | none :: _, [], h => h.elim
  | some _ :: _, [], h => h.elim
def dG {α : Type} (cap : List (Option Nat)) (ρ : List (Option α)) : List (Option α) := cap.map fun o => o.bind fun j => (ρ[j]?).join
def pX (cap : List (Option Nat)) (src : DTI) (g : DTG) (c : DTT) (elt : DTE) : DTE := fun ρ μ Q => src ρ μ fun xs μ1 => xs.length ≤ 1000 ∧ ∃ f : PyData → Option PyData,
  (∀ x ∈ xs, ∀ μ' : Mu, (∀ a ds, μ1 a = some ds → μ' a = some ds) → g (.v x) (dG cap ρ) μ' fun ρ2 μ2 => Le (dG cap ρ) ρ2 ∧ c ρ2 μ2 fun b μ3 =>
    if b = true then elt ρ2 μ3 fun d μ4 => μ4 = μ' ∧ (match d with | .v y => f x = some y | _ => False) else μ3 = μ' ∧ f x = none) ∧ Q (.v (.list (xs.filterMap f))) μ1
def HW (X : Cx) (ifs : List Expr) (c : DTT) : Prop := ∀ (pins : List (Addr × Obj)) (s : Shared) (σ : St) (H : Hp) (ρ : Rho) (μ : Mu) (Qd : Bool → Mu → Prop) (Q : Bool → Hp → Prop), Inv X pins σ H s → St0 X.K H ρ μ σ → c ρ μ Qd →
  (∀ b μ' H', Ext X.K μ H μ' H' → St0 X.K H' ρ μ' σ → Qd b μ' → Q b H') →
  wpAny (model X.prog X.w) X.A (forIn ifs true fun c r => if r = true then do let ok ← isTrue c X.env (eval c X.env); pure (ForInStep.yield ok) else pure (ForInStep.yield r)) (TP X pins σ Q) X.xe s
def pK : DTT := fun _ μ Q => Q true μ
theorem iS {X : Cx} : HW X [] pK := fun pins s σ H ρ μ Qd Q I S h k => wpAny_tests_nil ⟨H, I, k true μ H .refl S h⟩
theorem Bp {X : Cx} {c : Expr} {tc : DTT} (h : DT X c tc) : HW X [c] tc := by
  obtain ⟨t, p, l⟩ := h
  exact fun pins s σ H ρ μ Qd Q I S h k => wpAny_tests_one (p pins s σ H _ I (l σ H ρ μ _ _ S h k))
theorem Un.after {fs ex : List Addr} {H H1 : Hp} {h h1 h' : Heap} (u : Un fs ex H H1 h h1) (k : ∀ b o, b < h.objs.size → h1.get? b = some o → h'.get? b = some o) : Un fs ex H H1 h h' :=
  ⟨fun b o e n hb hx => k b o (Heap.lt_size e) (u.keep b o e n hb hx), fun b o e n hb hx => let ⟨sl, q⟩ := u.slot b o e n hb hx; ⟨sl, k b _ (Heap.lt_size e) q⟩, u.free, fun b o e hx => let ⟨o', q⟩ := u.there b o e hx; ⟨o', k b _ (Heap.lt_size e) q⟩, u.tH, u.rW, u.sC⟩
theorem wI {α : Type} {cap : List (Option Nat)} {ρ : List (Option α)} {i : Nat} {d : α} (h : (dG cap ρ)[i]? = some (some d)) : ∃ j, cap[i]? = some (some j) ∧ ρ[j]? = some (some d) := by
  unfold dG at h
  rw [List.getElem?_map] at h
  cases q : cap[i]? with
  | none => rw [q] at h; cases h
  | some o =>
    rw [q] at h
    cases o with
    | none => cases h
    | some j =>
      refine ⟨j, rfl, ?_⟩
      simp only [Option.map_some, Option.bind_some, Option.some.injEq] at h
      cases z : ρ[j]? with
      | none => rw [z] at h; cases h
      | some y => rw [z] at h; simp only [Option.join_some] at h; rw [h]
theorem Hh {α : Type} {cap : List (Option Nat)} {ρ : List (Option α)} {i j : Nat} {d : α} (h : cap[i]? = some (some j)) (e : ρ[j]? = some (some d)) : (dG cap ρ)[i]? = some (some d) := by
  unfold dG
  rw [List.getElem?_map, h]
  simp [e]
theorem jh.cap {K : PySem.W.Frag} {μ : Mu} {H : Hp} {ρ : Rho} {σ : St} {cap : List (Option Nat)} (r : jh K μ H ρ σ) : jh K μ H (dG cap ρ) (dG cap σ) := by
  refine ⟨by unfold dG; simp, fun i d e => ?_⟩
  obtain ⟨j, h1, h2⟩ := wI e
  obtain ⟨u, h3, h4⟩ := r.2 j d h2
  exact ⟨u, Hh h1 h3, h4⟩
theorem jh.le {K : PySem.W.Frag} {μ : Mu} {H : Hp} {ρ ρ' : Rho} {σ : St} (r : jh K μ H ρ' σ) (l : Le ρ ρ') : jh K μ H ρ σ :=
  ⟨l.get.1.trans r.1, fun i d e => r.2 i d (l.get.2 i d e)⟩
theorem yS {xs : List PyData} {f : PyData → Option PyData} {i : Nat} {d : PyData} (h : xs[i]? = some d) : (xs.take (i + 1)).filterMap f = (xs.take i).filterMap f ++ (f d).toList := by
  obtain ⟨hi, e⟩ := List.getElem?_eq_some_iff.mp h
  rw [List.take_succ_eq_append_getElem hi, List.filterMap_append, e]
  cases q : f d <;> simp [q]
theorem kE {X : Cx} {N' : List Str} {scope : Scope} {cl : List (Str × Addr)} {elt iter tg : Expr} {ifs : List Expr} {pos : Pos} {cap : List (Option Nat)} {src : DTI} {g : DTG} {c : DTT} {te : DTE} (hc : X.calm = X.calm)
    (hi : DI X tg iter src) (hg : ∀ fp s₃ H₃, DG (cf X N' scope cl fp s₃ H₃) tg g) (hif : ∀ fp s₃ H₃, HW (cf X N' scope cl fp s₃ H₃) ifs c) (he : ∀ fp s₃ H₃, DE (cf X N' scope cl fp s₃ H₃) elt te)
    (hclos : closureFor scope X.env = pure cl) (hcell : ∀ y ∈ scope.names, y.2 ≠ .cell) (hkind : scope.kind = .function) (hnames : ∀ y ∈ scope.names, y.2 = .local → scope.names.lookup y.1 = some .local)
    (hcl : ∀ x a, cl.lookup x = some a → X.env.cells.lookup x = some a) (hhas : ∀ x, (relabel scope X.env).names.lookup x = some .cell ∨ (relabel scope X.env).names.lookup x = some .free → ∃ a, cl.lookup x = some a)
    (hlen : cap.length = N'.length) (hcap : ∀ (i j : Nat) (x : Str), cap[i]? = some (some j) → N'[i]? = some x → X.N[j]? = some x ∧ Vis X.env.scope x ∧ X.env.kindOf x ≠ some .local ∧ ((relabel scope X.env).names.lookup x = some .cell ∨ (relabel scope X.env).names.lookup x = some .free))
    (hs : ∀ x, foldedSetIterable iter X.env x = pure x := by intro _; rfl) : DE X (.ListComp elt [⟨tg, iter, ifs, 0⟩] scope pos) (pX cap src g c te) := by
  refine NA fun pins s σ H ρ μ Qd Q I S h k => ?_
  obtain ⟨wi, pw, li⟩ := hi
  rw [eval_ListComp]
  refine wpAny_comprehension_free (use := none) rfl hs hclos hkind hnames (thn (pw pins s σ H _ I (li σ H ρ μ _ (fun J H1 => ∃ xs μ1, Ext X.K μ H μ1 H1 ∧ St0 X.K H1 ρ μ1 σ ∧ JW X.K J xs μ1 H1 ∧ xs.length ≤ 1000 ∧ ∃ f : PyData → Option PyData,
      (∀ x ∈ xs, ∀ μ' : Mu, (∀ a ds, μ1 a = some ds → μ' a = some ds) → g (.v x) (dG cap ρ) μ' fun ρ2 μ2 => Le (dG cap ρ) ρ2 ∧ c ρ2 μ2 fun b μ3 =>
        if b = true then te ρ2 μ3 fun d μ4 => μ4 = μ' ∧ (match d with | .v y => f x = some y | _ => False) else μ3 = μ' ∧ f x = none) ∧ Qd (.v (.list (xs.filterMap f))) μ1) S h (fun xs μ1 H1 J e1 S1 it q => ⟨xs, μ1, e1, S1, it, q⟩)))
    fun v s1 h1 => thn h1 fun itv s2 h2 => ?_)
  obtain ⟨it, fp, tn, J, H2, rfl, I2, T, st2, f2, xs, μ1, e1, S1, itok, hxs, f, body, fin⟩ := h2
  refine wpAny_newObj_type (wpAny_newFunctionEnv hcell (by intro y hy; simp at hy) (fun h₁ hns₁ hsb₁ => ?_) hkind)
  dsimp only at hns₁ hsb₁ ⊢
  have hfree2 : H2 s2.heap.objs.size = none := I2.hok.fresh (Nat.le_refl _)
  have hK2 : X.K.lookup s2.heap.objs.size = none := by
    cases z : X.K.lookup s2.heap.objs.size with
    | none => rfl
    | some o => exact absurd (Heap.lt_size (I2.kIn _ _ z)) (Nat.lt_irrefl _)
  have I3 : Inv X pins σ (upd H2 s2.heap.objs.size (.lst [])) { s2 with heap := s2.heap.push { cls := .type "list", dict := none, data := .seq ([] : List Value).toArray } } :=
    I2.laid (t' := s2.toks) (fun b u e => Heap.get?_push_of_some _ e) (Nat.le_refl _) ⟨Nat.zero_le _, [], 0, .nil, Heap.get?_push_size _ rfl⟩
  generalize hH : s2.heap.push { cls := .type "list", dict := none, data := .seq ([] : List Value).toArray } = hp3 at hns₁ hsb₁ I3 ⊢
  have hsz3 : hp3.objs.size = s2.heap.objs.size + 1 := by rw [← hH, Heap.size_push]
  have kept3 : ∀ b o, hp3.get? b = some o → h₁.get? b = some o := fun b o e => hsb₁.extBut b o (Nat.ne_of_lt (Heap.lt_size e)) (Heap.get?_push_of_some _ e)
  have old3 : ∀ b o, s2.heap.get? b = some o → hp3.get? b = some o := fun b o e => by rw [← hH]; exact Heap.get?_push_of_some _ e
  have fplt : ∀ b ∈ fp, b < s2.heap.objs.size := fun b hb => by obtain ⟨o, e, _⟩ := T.obj 0 _ st2 b hb; exact Heap.lt_size e
  have fpst : ∀ b ∈ fp, b ∉ frs X.stack := fun b hb hz => by
    rcases List.mem_cons.mp (I2.ug b hz) with e | e
    · exact (f2 b hb).2.1 e
    · exact (f2 b hb).2.2.1 e
  obtain ⟨s3, hs3⟩ : ∃ s3 : Shared, s3 = { s2 with heap := hp3 } := ⟨_, rfl⟩
  obtain ⟨H3, hH3⟩ : ∃ H3 : Hp, H3 = upd H2 s2.heap.objs.size (.lst []) := ⟨_, rfl⟩
  have heap3 : s3.heap = hp3 := by rw [hs3]
  rw [← hH3] at I3
  have I3' : Inv X pins σ H3 s3 := by rw [hs3]; exact I3
  have hloc : H3 hp3.objs.size = none := by have := I3'.hok.fresh (a := hp3.objs.size) (by rw [heap3]; exact Nat.le_refl _); exact this
  have okc : (cf X N' scope cl fp s3 H3).Ok := by
    refine ⟨I3.ok.mod, ?_, I3.ok.glob, I3.ok.blt, Nat.le_refl _, fun x y a h1 h2 => I3.ok.inj x y a (hcl x a h1) (hcl y a h2), fun x hx => hhas x hx, fun x a h => (nomatch h), I3.ok.hd, I3.ok.qt, I3.ok.frames, .inl rfl, fun b hb => ⟨?_, fun x a h => (f2 b hb).2.2.2.2.1 x a (hcl x a h)⟩,
      I3'.bs, Nat.le_trans I3.ok.bsz I3'.sz, fun b o e hb => ?_, fun b hb => fpst b hb, I3'.stack, I3'.Ae⟩
    · exact hkind
    · show b ≠ s3.heap.objs.size
      rw [heap3, hsz3]
      exact Nat.ne_of_lt (Nat.lt_succ_of_lt (fplt b hb))
    · rcases (f2 b hb).2.2.2.1 with z | z
      · exact I3.ok.Fd b o e z
      · exact absurd (Nat.lt_of_lt_of_le (Heap.lt_size (I3.ok.bs b o e).1) z) (Nat.lt_irrefl _)
  have I4 : Inv (cf X N' scope cl fp s3 H3) [] (dG cap σ) H3 { s2 with heap := h₁, toks := s2.toks + ([] : List (Str × Value)).length } := by
    refine ⟨okc, by show s2.os = s3.os; rw [hs3], I3.bare, Un.kept (by show ∀ b o, s3.heap.get? b = some o → _; rw [heap3]; exact kept3), ⟨_, (by show h₁.Ns s3.heap.objs.size _; rw [heap3]; exact hns₁), fun i x v e1 e2 e3 => ?_⟩, fun x a h => ?_, (by show H3 s3.heap.objs.size = none; rw [heap3]; exact hloc), fun x a h => I3.n4 x a (hcl x a h), fun p hp => ?_, I3.hok.kept kept3, ?_⟩
    · obtain ⟨j, h1, h2⟩ := wI e2
      obtain ⟨hN, hv, hnl, hk⟩ := hcap i j x h1 e1
      obtain ⟨m, _, hl⟩ := I3.loc
      obtain ⟨u, r, lk⟩ := hl j x v hN h2 hv
      refine ⟨u, r, .inr ⟨hk, ?_⟩⟩
      obtain ⟨a, ha⟩ := hhas x hk
      rcases lk with ⟨z, _⟩ | ⟨_, a', z1, z2⟩
      · exact absurd z hnl
      · have : a' = a := by have q := hcl x a ha; rw [z1] at q; exact Option.some.inj q
        subst this
        obtain ⟨o, ho, hd⟩ := z2
        exact ⟨a', ha, o, kept3 _ _ ho, hd⟩
    · obtain ⟨v, o, ho, hd⟩ := I3.cell x a (hcl x a h)
      exact ⟨v, o, kept3 _ _ ho, hd⟩
    · have hp' : p ∈ X.pn ++ pins := List.mem_append_left _ (by simpa using (show p ∈ X.pn ++ [] from hp))
      obtain ⟨z1, z2, z3, z4, z5⟩ := I3'.pin p hp'
      refine ⟨kept3 _ _ (by rw [← heap3]; exact z1), z2, (show p.1 ≠ s3.heap.objs.size from Nat.ne_of_lt (Heap.lt_size z1)), fun z => ?_, z5⟩
      rcases List.mem_cons.mp (I3'.ug p.1 z) with e | e
      · exact z3 e
      · exact z4 e
    · show (dG cap σ).length = N'.length
      unfold dG
      rw [List.length_map]
      exact hlen
  have hμ1 : μ1 s2.heap.objs.size = none := S1.mu.free hfree2
  have sub1 : ∀ ys a ds, μ1 a = some ds → aV μ1 s2.heap.objs.size ys a = some ds := fun ys a ds e => by
    have : a ≠ s2.heap.objs.size := fun z => by rw [z, hμ1] at e; cases e
    rw [dP this]; exact e
  have loop : codeAny (model X.prog X.w) X.A (.compLoop (.ListComp elt [⟨tg, iter, ifs, 0⟩] scope pos) 0 (.ref it) (.ref s2.heap.objs.size) (cf X N' scope cl fp s3 H3).env)
      (compPost (model X.prog X.w) X.A X.xe none (EP X pins σ Q) (.ref s2.heap.objs.size) hp3.objs.size) { s2 with heap := h₁, toks := s2.toks + ([] : List (Str × Value)).length } := by
    refine kD (fun n s' => ∃ (i : Nat) (σc : St) (Hc : Hp), n = xs.length - i ∧ i ≤ xs.length ∧ Inv (cf X N' scope cl fp s3 H3) [] σc Hc s' ∧ tn i s'.heap ∧ (∀ b ∈ fp, Hc b = none) ∧
      St0 X.K Hc (dG cap ρ) (aV μ1 s2.heap.objs.size ((xs.take i).filterMap f)) σc ∧ Ext X.K μ1 H2 (aV μ1 s2.heap.objs.size ((xs.take i).filterMap f)) Hc) ?_ xs.length
      ⟨0, dG cap σ, H3, by simp, Nat.zero_le _, I4, T.keep 0 _ _ st2 (fun b hb o e => kept3 b o (old3 b o e)), fun b hb => ?_, ?_, ?_⟩
    · rintro n s' ⟨i, σc, Hc, rfl, hi, Ic, tc, frc, Sc, Ec⟩
      have stat : ∀ {Hd : Hp}, (∀ b ∈ fp, Hd b = none) → ∀ b ∈ fp, Ao (cf X N' scope cl fp s3 H3) [] Hd b := fun hn b hb =>
        ⟨hn b hb, (okc.exf b hb).1, fpst b hb, .inl hb, fun x a h => (okc.exf b hb).2 x a h, fun p hp => (f2 b hb).2.2.2.2.2 p (List.mem_append_left _ (by simpa using (show p ∈ X.pn ++ [] from hp)))⟩
      obtain ⟨go, stop⟩ := itok _ Hc Ec Sc.mu i
      by_cases hlt : i < xs.length
      · obtain ⟨g1, y1⟩ := go hlt
        refine thn (T.item (cf X N' scope cl fp s3 H3) rfl rfl rfl (fun z => z) i [] s' σc Hc (fun _ _ => False) Ic (stat frc) tc g1) fun r s4 ⟨u, hr, h4⟩ => ?_
        subst hr
        refine thn h4 fun _ s5 ⟨x, H5, I5, r5, y5, st5, fr5⟩ => ?_
        obtain ⟨d, hd, sm, rd⟩ := y1 x H5 y5
        have I5' := I5.pinned (stat fr5) (T.obj _ _ st5)
        have e5 : Ext X.K _ Hc _ H5 := .of_same (μ := aV μ1 s2.heap.objs.size ((xs.take i).filterMap f)) sm
        have S5 : St0 X.K H5 (dG cap ρ) (aV μ1 s2.heap.objs.size ((xs.take i).filterMap f)) σc := ⟨Sc.mu.J2 e5 sm, Sc.rho.ext Sc.mu e5⟩
        obtain ⟨gt, pg, lg⟩ := hg fp s3 H3
        have hmem : d ∈ xs := List.mem_of_getElem? hd
        refine thn (pg _ s5 σc H5 x u (fun σ' H' => ∃ ρ' μ', Ext X.K (aV μ1 s2.heap.objs.size ((xs.take i).filterMap f)) H5 μ' H' ∧ St0 X.K H' ρ' μ' σ' ∧ Le (dG cap ρ) ρ' ∧ c ρ' μ' fun b μ3 =>
            if b = true then te ρ' μ3 fun d' μ4 => μ4 = aV μ1 s2.heap.objs.size ((xs.take i).filterMap f) ∧ (match d' with | .v y => f d = some y | _ => False) else μ3 = aV μ1 s2.heap.objs.size ((xs.take i).filterMap f) ∧ f d = none) I5' r5
          (lg σc H5 (dG cap ρ) _ (.v d) x _ _ S5 rd (body d hmem _ (sub1 _)) fun σ' ρ' μ' H' e' S' q => ⟨ρ', μ', e', S', q⟩)) fun _ s6 ⟨σ6, H6, I6, ρ6, μ6, e6, S6, le6, q6⟩ => ?_
        refine thn (hif fp s3 H3 _ s6 σ6 H6 ρ6 μ6 _ (fun b H' => ∃ μ', Ext X.K μ6 H6 μ' H' ∧ St0 X.K H' ρ6 μ' σ6 ∧ if b = true then te ρ6 μ' fun d' μ4 => μ4 = aV μ1 s2.heap.objs.size ((xs.take i).filterMap f) ∧ (match d' with | .v y => f d = some y | _ => False) else μ' = aV μ1 s2.heap.objs.size ((xs.take i).filterMap f) ∧ f d = none)
          I6 S6 q6 fun b μ' H' e' S' q => ⟨μ', e', S', q⟩) fun b s7 ⟨H7, I7, μ7, e7, S7, q7⟩ => ?_
        have again : ∀ {H9 : Hp} {s9 : Shared}, Inv (cf X N' scope cl fp s3 H3) ([] ++ uq fp s5.heap) σ6 H9 s9 → dw X.K (aV μ1 s2.heap.objs.size ((xs.take (i + 1)).filterMap f)) H9 → jh X.K (aV μ1 s2.heap.objs.size ((xs.take (i + 1)).filterMap f)) H9 (dG cap ρ) σ6 →
            Ext X.K μ1 H2 (aV μ1 s2.heap.objs.size ((xs.take (i + 1)).filterMap f)) H9 → ∃ m, m < xs.length - i ∧ ∃ (i : Nat) (σc : St) (Hc : Hp), m = xs.length - i ∧ i ≤ xs.length ∧ Inv (cf X N' scope cl fp s3 H3) [] σc Hc s9 ∧ tn i s9.heap ∧ (∀ b ∈ fp, Hc b = none) ∧
              St0 X.K Hc (dG cap ρ) (aV μ1 s2.heap.objs.size ((xs.take i).filterMap f)) σc ∧ Ext X.K μ1 H2 (aV μ1 s2.heap.objs.size ((xs.take i).filterMap f)) Hc := fun {H9 s9} I9 m9 r9 e9 => by
          refine ⟨xs.length - (i + 1), by omega, i + 1, σ6, H9, rfl, hlt, I9.lL, T.keep _ _ _ st5 fun b hb o e => (I9.pin (b, o) (List.mem_append_right _ (List.mem_append_right _ (gf hb e)))).1, fun b hb => ?_, ⟨m9, r9⟩, e9⟩
          obtain ⟨o, e, _⟩ := T.obj _ _ st5 b hb
          exact (I9.pin (b, o) (List.mem_append_right _ (List.mem_append_right _ (gf hb e)))).2.1
        cases b with
        | false =>
          have q8 : μ7 = aV μ1 s2.heap.objs.size ((xs.take i).filterMap f) ∧ f d = none := by simpa using q7
          refine Aa ?_
          have et : (xs.take (i + 1)).filterMap f = (xs.take i).filterMap f := by rw [yS hd, q8.2]; simp
          have eμ : aV μ1 s2.heap.objs.size ((xs.take (i + 1)).filterMap f) = μ7 := by rw [et, q8.1]
          refine again I7 (by rw [eμ]; exact S7.mu) (by rw [eμ]; exact S7.rho.le le6) ?_
          rw [eμ]
          exact Ec.trans (e5.trans (e6.trans e7))
        | true =>
          refine Af ?_
          obtain ⟨t8, p8, l8⟩ := he fp s3 H3
          refine thn (p8 _ s7 σ6 H7 (fun v H' => ∃ y, Ext X.K μ7 H7 (aV μ1 s2.heap.objs.size ((xs.take i).filterMap f)) H' ∧ St0 X.K H' ρ6 (aV μ1 s2.heap.objs.size ((xs.take i).filterMap f)) σ6 ∧ Rp X.K (aV μ1 s2.heap.objs.size ((xs.take i).filterMap f)) H' y v ∧ f d = some y) I7
            (l8 σ6 H7 ρ6 μ7 _ _ S7 (by simpa using q7) fun d' v μ8 H8 e8 S8 r8 q8 => ?_)) fun v s8 ⟨v8, H8, I8, r8, y, e8, S8, ry, fy⟩ => ?_
          · obtain ⟨rfl, q8⟩ := q8
            cases d' with
            | v y => exact ⟨y, e8, S8, r8, q8⟩
            | m _ => exact q8.elim
            | s _ => exact q8.elim
            | o _ => exact q8.elim
            | q _ => exact q8.elim
          · obtain ⟨us, hacc, rus⟩ := S8.mu s2.heap.objs.size _ cw
            have hle : ((xs.take i).filterMap f).length ≤ 1000 := Nat.le_trans (List.length_filterMap_le _ _) (Nat.le_trans (by rw [List.length_take]; exact Nat.min_le_right _ _) hxs)
            refine thn (sW (X := cf X N' scope cl fp s3 H3) _ s8 σ6 H8 (.ref s2.heap.objs.size) [v8] (.ref s2.heap.objs.size) [v] (fun _ H' => H' = upd H8 s2.heap.objs.size (.lst (us ++ [v8]))) I8 rfl (.cons r8 .nil) ⟨_, us, v8, rfl, rfl, hacc, by rw [← rus.length]; exact ib hle, rfl⟩) fun _ s9 ⟨_, H9, I9, _, e9⟩ => ?_
            subst e9
            have et : (xs.take (i + 1)).filterMap f = (xs.take i).filterMap f ++ [y] := by rw [yS hd, fy]; rfl
            have mset : aV (aV μ1 s2.heap.objs.size ((xs.take i).filterMap f)) s2.heap.objs.size ((xs.take (i + 1)).filterMap f) = aV μ1 s2.heap.objs.size ((xs.take (i + 1)).filterMap f) := tF
            have ex : Ext X.K (aV μ1 s2.heap.objs.size ((xs.take i).filterMap f)) H8 (aV μ1 s2.heap.objs.size ((xs.take (i + 1)).filterMap f)) (upd H8 s2.heap.objs.size (.lst (us ++ [v8]))) := by
              rw [← mset]
              exact rK cw
            refine again I9 ?_ ((S8.rho.le le6).ext S8.mu ex) (Ec.trans (e5.trans (e6.trans (e7.trans (e8.trans ex)))))
            rw [← mset]
            refine S8.mu.set cw ?_
            rw [et]
            exact rus.append (.cons ry .nil)
      · have ei : i = xs.length := by omega
        subst ei
        refine thn (T.done (cf X N' scope cl fp s3 H3) rfl rfl rfl (fun z => z) _ [] s' σc Hc (fun _ _ => False) Ic (stat frc) tc (stop rfl)) fun r s4 ⟨hr, I5⟩ => ?_
        subst hr
        rw [List.take_length] at Sc Ec
        obtain ⟨m, hn, _⟩ := I5.loc
        refine ⟨m, (by have z : s4.heap.Ns s3.heap.objs.size m := hn; rw [heap3] at z; exact z), fun h' hs' => ?_⟩
        have kp : ∀ b o, b < s2.heap.objs.size → s4.heap.get? b = some o → h'.get? b = some o := fun b o hb e => hs'.extBut b o (by rw [hsz3]; exact Nat.ne_of_lt (Nat.lt_succ_of_lt hb)) e
        have hcC : Hc hp3.objs.size = none := by have z : Hc s3.heap.objs.size = none := I5.free; rw [heap3] at z; exact z
        have hok' : HOk X.prog X.w Hc h' := fun b ob e => by
          refine (I5.hok b ob e).BU (fun cc v hcc q => hs'.extBut cc v ?_ q) (fun _ q => q) fun _ _ q => q
          rintro rfl
          rcases hcc with z | z
          · rw [← z, hcC] at e; cases e
          · rw [hcC] at z; cases z
        have u1 : Un (frs X.stack) fp H2 H3 s2.heap s3.heap := by rw [heap3, hH3]; exact Un.laid old3 (Nat.le_refl _) hfree2
        have u2 : Un (frs X.stack) fp H3 Hc s3.heap s4.heap := I5.base
        have If : Inv X pins σ Hc { s4 with heap := h' } := I2.IG (ch := fp) (by show s4.os = s2.os; have z : s4.os = s3.os := I5.os; rw [z, hs3]) (Un.after (u1.trans u2) kp) hok' I5.bare fun b hb => ⟨(f2 b hb).2.2.2.1, (f2 b hb).2.1, (f2 b hb).2.2.2.2.1, (f2 b hb).2.2.2.2.2⟩
        obtain ⟨us, hacc, rus⟩ := Sc.mu s2.heap.objs.size _ cw
        have shr : ∀ a, aV μ1 s2.heap.objs.size (xs.filterMap f) a = none → μ1 a = none := fun a e => by
          by_cases ha : a = s2.heap.objs.size
          · rw [ha]; exact hμ1
          · rw [dP ha] at e; exact e
        have eF : Ext X.K μ1 H2 μ1 Hc := ⟨Ec.keep, Ec.tb, fun _ ds q => ⟨ds, q⟩, fun _ q _ => q⟩
        have mF : dw X.K μ1 Hc := ⟨fun a ds q => by
          obtain ⟨ys, z1, z2⟩ := Sc.mu a ds (sub1 _ a ds q)
          exact ⟨ys, z1, z2.shrink shr⟩, Sc.mu.tab⟩
        exact ⟨.ref s2.heap.objs.size, Hc, If, rfl, k (.v (.list (xs.filterMap f))) _ μ1 Hc (e1.trans eF) ⟨mF, S1.rho.ext S1.mu eF⟩ (Rp.list hacc hμ1 (rus.shrink shr)) fin⟩
    · have z : b ≠ s2.heap.objs.size := Nat.ne_of_lt (fplt b hb)
      rw [hH3, cJ z]
      exact (f2 b hb).1
    · have ex := pq (o := .lst []) (ds := []) S1.mu hfree2 hK2
      rw [hH3]
      exact ⟨S1.mu.mut .nil hfree2 hK2, (S1.rho.ext S1.mu ex).cap⟩
    · rw [hH3]
      exact pq (o := .lst []) (ds := []) S1.mu hfree2 hK2
  have envE : (cf X N' scope cl fp s3 H3).env = compEnvC scope cl hp3.objs.size X.env := by show compEnvC scope cl s3.heap.objs.size X.env = _; rw [heap3]
  rw [envE] at loop
  exact codeAny_compStart_list loop (T.self X.A 0 _ _ _ (T.keep 0 _ _ st2 (fun b hb o e => kept3 b o (old3 b o e))) loop)
open PySem PySem.Spec PyProof.Rows
section
variable {X : Cx} {a b c : Expr} {ta tb tc : DTE} {pos : Pos}
def M1 (r r' : D → D → Mu → DK → Prop) (ta tb tc : DTE) : DTE := fun ρ μ Q => ta ρ μ fun x μ1 => tb ρ μ1 fun y μ2 => r x y μ2 fun z μ3 => match z with
  | .v (.bool k) => if k = true then tc ρ μ3 fun w μ4 => r' y w μ4 Q else Q (.v (.bool false)) μ3
  | _ => False
end
open PySem PySem.Spec PyProof.Rows
theorem A4 {α : Type} {x : α} {xs : List α} : atI (x :: xs) 0 = some x := by unfold atI ixN; simp
theorem AF {α : Type} {x y : α} {xs : List α} : atI (x :: y :: xs) 1 = some y := by
  have h := kH (xs := x :: y :: xs) (j := 1) (v := y) rfl
  exact h
theorem EK {α : Type} {x y z : α} {xs : List α} : atI (x :: y :: z :: xs) 2 = some z := by
  have h := kH (xs := x :: y :: z :: xs) (j := 2) (v := z) rfl
  exact h
theorem Ie {α : Type} {x y z u : α} {xs : List α} : atI (x :: y :: z :: u :: xs) 3 = some u := by
  have h := kH (xs := x :: y :: z :: u :: xs) (j := 3) (v := u) rfl
  exact h
def pW : D → D → Mu → DK → Prop := fun x y μ Q => match x, y with
  | .v (.int i), .v (.int j) => Q (.v (.int (i + j))) μ
  | .v (.tuple xs), .v (.tuple ys) => xs.length + ys.length ≤ 1000 ∧ Q (.v (.tuple (xs ++ ys))) μ
  | _, _ => B8 x y μ Q
theorem OpR.or {X : Cx} {f} {r1 r2 : R2} (h1 : OpR X f r1) (h2 : OpR X f r2) : OpR X f (fun x y H Q => r1 x y H Q ∨ r2 x y H Q) := by
  intro pins s σ H x y v u Q I rx ry h
  rcases h with h | h
  · exact h1 pins s σ H x y v u Q I rx ry h
  · exact h2 pins s σ H x y v u Q I rx ry h
theorem LM {K : PySem.W.Frag} : kI K (fun x y H Q => (rI0 fun i j => .int (i + j)) x y H Q ∨ ((CZ K) x y H Q ∨ Lv x y H Q)) pW := by
  intro x y ux uy H μ Qd Q ok rx ry h k
  unfold pW at h
  split at h
  · exact .inl (D8 (K := K) (gd := fun i j => .int (i + j)) (fun _ _ _ _ => .int _) _ _ ux uy H μ Qd Q ok rx ry h k)
  · exact .inr (.inl (JE _ _ ux uy H μ Qd Q ok rx ry h k))
  · exact .inr (.inr (Ms _ _ ux uy H μ Qd Q ok rx ry h k))
theorem Ah {X : Cx} {a b : Expr} {ta tb : DTE} {pos : Pos} (ha : DE X a ta) (hb : DE X b tb) : DE X (.BinOp a .Add b pos) (dOp pW ta tb) := vN (Ii.or (Il.or Mf)) LM ha hb
section
variable {ρ : Rho} {μ : Mu} {Q : DK} {QT : Bool → Mu → Prop} {QA : List D → Mu → Prop} {QG : Rho → Mu → Prop} {QI : List PyData → Mu → Prop} {QO : Option Int → Mu → Prop} {Dd : GU} {ta tb tc : DTE} {t u : DTT} {tA : DTA} {s1 s2 : DTS} {i j : Int} {x y : PyData} {xs ys : List PyData} {d e : D}
def uf : DTS := fun _ _ _ => False
theorem rY {X : Cx} {st : Stmt} : DS X st uf := ⟨fun _ _ _ => False, fun _ _ _ _ _ _ h => h.elim, fun _ _ _ _ _ _ _ h => h.elim⟩
theorem GP {o : Rho} : ae 0 (some d :: o) μ Q = Q d μ := propext Iff.rfl
theorem Ik {a} {o : Rho} : ae 1 (a :: some d :: o) μ Q = Q d μ := propext Iff.rfl
theorem GG {a b} {o : Rho} : ae 2 (a :: b :: some d :: o) μ Q = Q d μ := propext Iff.rfl
theorem HR {a b c} {o : Rho} : ae 3 (a :: b :: c :: some d :: o) μ Q = Q d μ := propext Iff.rfl
theorem G8 {a b c f} {o : Rho} : ae 4 (a :: b :: c :: f :: some d :: o) μ Q = Q d μ := propext Iff.rfl
theorem GS {a b c f g} {o : Rho} : ae 5 (a :: b :: c :: f :: g :: some d :: o) μ Q = Q d μ := propext Iff.rfl
theorem HE {a b c f g h} {o : Rho} : ae 6 (a :: b :: c :: f :: g :: h :: some d :: o) μ Q = Q d μ := propext Iff.rfl
theorem Ip {a b c f g h k} {o : Rho} : ae 7 (a :: b :: c :: f :: g :: h :: k :: some d :: o) μ Q = Q d μ := propext Iff.rfl
theorem IA {a b c f g h k l} {o : Rho} : ae 8 (a :: b :: c :: f :: g :: h :: k :: l :: some d :: o) μ Q = Q d μ := propext Iff.rfl
theorem Hf {a b c f g h k l m} {o : Rho} : ae 9 (a :: b :: c :: f :: g :: h :: k :: l :: m :: some d :: o) μ Q = Q d μ := propext Iff.rfl
theorem Ed {a b c f g h k l m n} {o : Rho} : ae 10 (a :: b :: c :: f :: g :: h :: k :: l :: m :: n :: some d :: o) μ Q = Q d μ := propext Iff.rfl
theorem q_c : dC x ρ μ Q = Q (.v x) μ := propext Iff.rfl
theorem Ot {r} : dOp r ta tb ρ μ Q = ta ρ μ fun x μ1 => tb ρ μ1 fun y μ2 => r x y μ2 Q := propext Iff.rfl
theorem q_B : dB ta ρ μ QT = ta ρ μ fun d μ1 => match d with | .v (.bool k) => QT k μ1 | _ => False := propext Iff.rfl
theorem N0 {C : Int → Int → Prop} {g : Int → Int → PyData} : rII C g (.v (.int i)) (.v (.int j)) μ Q = (C i j ∧ Q (.v (g i j)) μ) := propext Iff.rfl
theorem K2 {g : Int → Int → PyData} : xu g (.v (.int i)) (.v (.int j)) μ Q = Q (.v (g i j)) μ := propext Iff.rfl
theorem Ll : vZ ta ρ μ Q = ta ρ μ fun x μ1 => match x with | .v (.int i) => Q (.v (.int (-i))) μ1 | _ => False := propext Iff.rfl
theorem IZ : uF t u ρ μ QT = t ρ μ fun c μ1 => if c = true then u ρ μ1 QT else QT false μ1 := propext Iff.rfl
theorem KW : qB t u ρ μ QT = t ρ μ fun c μ1 => if c = true then QT true μ1 else u ρ μ1 QT := propext Iff.rfl
theorem HU : hU t ρ μ QT = t ρ μ fun c μ1 => QT (!c) μ1 := propext Iff.rfl
theorem HL : vK ta tb ρ μ Q = ta ρ μ fun x μ1 => match x with | .v (.bool c) => if c = true then tb ρ μ1 Q else Q (.v (.bool false)) μ1 | _ => False := propext Iff.rfl
theorem Lk : Kd ta tb ρ μ Q = ta ρ μ fun x μ1 => match x with | .v (.bool c) => if c = true then Q (.v (.bool true)) μ1 else tb ρ μ1 Q | _ => False := propext Iff.rfl
theorem Iq : Ea ta ρ μ Q = ta ρ μ fun x μ1 => match x with | .v (.bool c) => Q (.v (.bool (!c))) μ1 | _ => False := propext Iff.rfl
theorem Ox : dIf t ta tb ρ μ Q = t ρ μ fun c μ1 => if c = true then ta ρ μ1 Q else tb ρ μ1 Q := propext Iff.rfl
theorem Lf : ar ρ μ QA = QA [] μ := propext Iff.rfl
theorem GA : ab ta tA ρ μ QA = ta ρ μ fun x μ1 => tA ρ μ1 fun xs μ2 => QA (x :: xs) μ2 := propext Iff.rfl
theorem KU : en tA ρ μ Q = tA ρ μ fun ds μ1 => match dD ds with | some xs => Q (.v (.tuple xs)) μ1 | none => False := propext Iff.rfl
theorem KP : pE tA ρ μ Q = tA ρ μ fun ds μ1 => match dD ds with | some xs => Q (.v (.list xs)) μ1 | none => False := propext Iff.rfl
theorem Gs : Em tA ρ μ Q = tA ρ μ fun ds μ1 => match dD ds with | some xs => ∀ p, μ1 p = none → Q (.m p) (aV μ1 p xs) | none => False := propext Iff.rfl
theorem Ku : dD [] = some [] := by rw [dD]
theorem Ks {r : List D} : dD (.v x :: r) = (dD r).map (x :: ·) := by rw [dD]
theorem El {neg : Bool} : eh neg (.v x) (.v y) μ Q = (SeqAt.shaped x = true ∧ SeqAt.shaped y = true ∧ Q (.v (.bool (neg ^^ PyData.eqv x y))) μ) := propext Iff.rfl
theorem Kt {neg : Bool} : eh neg (.v (.int i)) (.v (.int j)) μ Q = Q (.v (.bool (neg ^^ decide (i = j)))) μ := by
  have e : PyData.eqv (.int i) (.int j) = decide (i = j) := by simp [PyData.eqv]; rfl
  rw [El, e]
  exact propext ⟨fun h => h.2.2, fun h => ⟨rfl, rfl, h⟩⟩
theorem KY {neg : Bool} : eh neg (.v (.tuple xs)) (.v (.tuple ys)) μ Q = (SeqAt.shaped (.tuple xs) = true ∧ SeqAt.shaped (.tuple ys) = true ∧ Q (.v (.bool (neg ^^ PyData.eqv (.tuple xs) (.tuple ys)))) μ) := propext Iff.rfl
theorem K8 {neg : Bool} : eh neg (.v (.list xs)) (.v (.list ys)) μ Q = (SeqAt.shaped (.list xs) = true ∧ SeqAt.shaped (.list ys) = true ∧ Q (.v (.bool (neg ^^ PyData.eqv (.list xs) (.list ys)))) μ) := propext Iff.rfl
theorem KG {neg a b : Bool} : eh neg (.v (.bool a)) (.v (.bool b)) μ Q = Q (.v (.bool (neg ^^ (a == b)))) μ := by
  have e : PyData.eqv (.bool a) (.bool b) = (a == b) := by cases a <;> cases b <;> simp [PyData.eqv] <;> rfl
  rw [El, e]
  exact propext ⟨fun h => h.2.2, fun h => ⟨rfl, rfl, h⟩⟩
theorem KN {neg : Bool} : Co neg (.v x) (.v (.list ys)) μ Q = (PyData.canLayAll0 ys = true ∧ x.canLay0 = true ∧ PyData.depth x ≤ 60 ∧ Q (.v (.bool (neg ^^ ys.any fun b => PyData.eqv b x))) μ) := propext Iff.rfl
theorem Bh : aF (.v (.list xs)) (.v (.int i)) μ Q = (match atI xs i with | some d => Q (.v d) μ | none => False) := propext Iff.rfl
theorem yu : aF (.v (.tuple xs)) (.v (.int i)) μ Q = (match atI xs i with | some d => Q (.v d) μ | none => False) := propext Iff.rfl
theorem Ld {l : Addr} : aF (.m l) (.v (.int i)) μ Q = (match μ l with | some xs => (match atI xs i with | some d => Q (.v d) μ | none => False) | none => False) := propext Iff.rfl
theorem Ky {ns : List Int} : aF (.s ns) (.v (.int i)) μ Q = (match atI ns i with | some d => Q (.v (.int d)) μ | none => False) := propext Iff.rfl
theorem Hr : aF (.v (.list (x :: xs))) (.v (.int 0)) μ Q = Q (.v x) μ := by rw [Bh, A4]
theorem Dz : aF (.v (.tuple (x :: xs))) (.v (.int 0)) μ Q = Q (.v x) μ := by rw [yu, A4]
theorem Hq {z} : aF (.v (.list (z :: x :: xs))) (.v (.int 1)) μ Q = Q (.v x) μ := by rw [Bh, AF]
theorem CI {z} : aF (.v (.tuple (z :: x :: xs))) (.v (.int 1)) μ Q = Q (.v x) μ := by rw [yu, AF]
theorem Ja {z w} : aF (.v (.list (z :: w :: x :: xs))) (.v (.int 2)) μ Q = Q (.v x) μ := by rw [Bh, EK]
theorem Cj {z w} : aF (.v (.tuple (z :: w :: x :: xs))) (.v (.int 2)) μ Q = Q (.v x) μ := by rw [yu, EK]
theorem HV {z w v} : aF (.v (.tuple (z :: w :: v :: x :: xs))) (.v (.int 3)) μ Q = Q (.v x) μ := by rw [yu, Ie]
theorem K9 : B8 d e μ Q = (match uQ μ d, uQ μ e with | some xs, some ys => xs.length + ys.length ≤ 1000 ∧ Q (.v (.list (xs ++ ys))) μ | _, _ => False) := propext Iff.rfl
theorem HP : CQ (.v (.tuple xs)) (.v (.tuple ys)) μ Q = (xs.length + ys.length ≤ 1000 ∧ Q (.v (.tuple (xs ++ ys))) μ) := propext Iff.rfl
theorem Hw : pW (.v (.int i)) (.v (.int j)) μ Q = Q (.v (.int (i + j))) μ := propext Iff.rfl
theorem Jb : pW (.v (.tuple xs)) (.v (.tuple ys)) μ Q = (xs.length + ys.length ≤ 1000 ∧ Q (.v (.tuple (xs ++ ys))) μ) := propext Iff.rfl
theorem IT : pW (.v (.list xs)) (.v (.list ys)) μ Q = (xs.length + ys.length ≤ 1000 ∧ Q (.v (.list (xs ++ ys))) μ) := propext Iff.rfl
theorem Hm {a : Addr} : pW (.m a) e μ Q = B8 (.m a) e μ Q := propext Iff.rfl
theorem N7 {tl th : DTO} : dSl ta tl th ρ μ Q = ta ρ μ fun x μ1 => tl ρ μ1 fun l μ2 => th ρ μ2 fun u μ3 => GW x l u μ3 Q := propext Iff.rfl
theorem BS : ku ρ μ QO = QO none μ := propext Iff.rfl
theorem G1 : uE ta ρ μ QO = ta ρ μ fun x μ1 => match x with | .v (.int i) => QO (some i) μ1 | _ => False := propext Iff.rfl
theorem Lc {lo hi : Option Int} : GW (.v (.tuple xs)) lo hi μ Q = Q (.v (.tuple (fJ xs lo hi))) μ := propext Iff.rfl
theorem KJ {lo hi : Option Int} : GW (.v (.list xs)) lo hi μ Q = Q (.v (.list (fJ xs lo hi))) μ := propext Iff.rfl
theorem KC : OT ta ρ μ Q = ta ρ μ fun x μ1 => match x with | .v (.tuple xs) => Q (.v (.tuple xs.reverse)) μ1 | .v (.list xs) => Q (.v (.list xs.reverse)) μ1 | .m l => (match μ1 l with | some xs => Q (.v (.list xs.reverse)) μ1 | none => False) | _ => False := propext Iff.rfl
theorem Nl {rd} : dCB rd tA ρ μ Q = tA ρ μ fun ds μ1 => rd ds μ1 Q := propext Iff.rfl
theorem GO : fK [.v (.list ys)] μ Q = Q (.v (.int (ys.length : Nat))) μ := propext Iff.rfl
theorem HY : fK [.v (.tuple ys)] μ Q = Q (.v (.int (ys.length : Nat))) μ := propext Iff.rfl
theorem Gr {ns : List Int} : fK [.s ns] μ Q = Q (.v (.int (ns.length : Nat))) μ := propext Iff.rfl
theorem IP {l : Addr} : fK [.m l] μ Q = (match μ l with | some ys => Q (.v (.int (ys.length : Nat))) μ | none => False) := propext Iff.rfl
theorem K0 : oG [.v (.int i)] μ Q = Q (.v (.int (i.natAbs : Nat))) μ := propext Iff.rfl
theorem Om {g : Int → Int → Int} : Cp g [.v (.int i), .v (.int j)] μ Q = Q (.v (.int (g i j))) μ := propext Iff.rfl
theorem IF {k : Bool} : nY [.v (.bool k)] μ Q = Q (.v (.int (if k then 1 else 0))) μ := propext Iff.rfl
theorem GN : nY [.v (.int i)] μ Q = Q (.v (.int i)) μ := propext Iff.rfl
theorem DV : Iw [.v (.list ys)] μ Q = Q (.v (.list ys)) μ := propext Iff.rfl
theorem Eu : Iw [.v (.tuple ys)] μ Q = Q (.v (.list ys)) μ := propext Iff.rfl
theorem K5 : sj [.v (.list ys)] μ Q = (match dg ys with | some bs => Q (.v (.bool (bs.all id))) μ | none => False) := propext Iff.rfl
theorem Kv {T : String} : BJ T ta ρ μ Q = ta ρ μ fun x μ1 => match x with | .v d => Q (.v (.bool (isT T d))) μ1 | _ => False := propext Iff.rfl
theorem KS {a b : Bool} : Oc (.v (.bool a)) (.v (.bool b)) μ Q = Q (.v (.bool (a == b))) μ := propext Iff.rfl
theorem Lh : Oc (.v .none) (.v .none) μ Q = Q (.v (.bool true)) μ := propext Iff.rfl
theorem Ee {n : Nat} : aw n d ρ μ QG = QG (ρ.set n (some d)) μ := propext Iff.rfl
theorem HA : nT [] ρ μ QG = QG ρ μ := propext Iff.rfl
theorem En {g : DTG} {gs : w9} : cK g gs (x :: xs) ρ μ QG = g (.v x) ρ μ fun ρ1 μ1 => gs xs ρ1 μ1 QG := propext Iff.rfl
theorem Hl {n : Nat} {gs : w9} : nu n gs (.v (.tuple xs)) ρ μ QG = (xs.length = n ∧ gs xs ρ μ QG) := propext Iff.rfl
theorem GR : EF ta tb d ρ μ QG = ta ρ μ fun o μ1 => tb ρ μ1 fun i μ2 => match o, i, d with
  | .m l, .v (.int k), .v x => (match μ2 l with
    | some xs => (match ixN xs.length k with
      | some j => QG ρ (aV μ2 l (xs.set j x))
      | none => False)
    | none => False)
  | _, _, _ => False := propext Iff.rfl
theorem KO {g : DTG} : bA ta g Dd ρ μ = ta ρ μ fun d μ1 => g d ρ μ1 Dd.nx := propext Iff.rfl
theorem K1 {i j : Nat} : yZ i j tA Dd ρ μ = tA ρ μ fun ds μ1 => match ds with | [v, w] => Dd.nx ((ρ.set i (some v)).set j (some w)) μ1 | _ => False := propext Iff.rfl
theorem IM : cb Dd ρ μ = Dd.nx ρ μ := propext Iff.rfl
theorem Jc : aM s1 s2 Dd ρ μ = s1 { Dd with nx := s2 Dd } ρ μ := propext Iff.rfl
theorem Kw : bF ta Dd ρ μ = ta ρ μ Dd.rt := propext Iff.rfl
theorem HS : nO ta Dd ρ μ = ta ρ μ fun _ μ1 => Dd.nx ρ μ1 := propext Iff.rfl
theorem KA : dy t s1 s2 Dd ρ μ = t ρ μ fun b μ1 => if b = true then s1 Dd ρ μ1 else s2 Dd ρ μ1 := propext Iff.rfl
theorem EN : uf Dd ρ μ = False := propext Iff.rfl
theorem HG {dsp : DSp} : aq dsp tA ρ μ Q = tA ρ μ fun ds μ1 => dsp ds μ1 Q := propext Iff.rfl
theorem K4 : J3 ta tb ρ μ Q = ta ρ μ fun x μ1 => match x with
  | .m l => tb ρ μ1 fun y μ2 => (match y, μ2 l with
    | .v d, some xs => xs.length < 1000 ∧ Q (.v .none) (aV μ2 l (xs ++ [d]))
    | _, _ => False)
  | _ => False := propext Iff.rfl
theorem Lm : OC ta tb ρ μ Q = ta ρ μ fun x μ1 => match x with
  | .m l => tb ρ μ1 fun y μ2 => (match y, μ2 l with
    | .v (.list ys), some xs => xs.length + ys.length ≤ 1000 ∧ Q (.v .none) (aV μ2 l (xs ++ ys))
    | _, _ => False)
  | _ => False := propext Iff.rfl
theorem IQ : Nh ta ρ μ Q = ta ρ μ fun x μ1 => match x with | .v (.int i) => Q (.v (.int (Builtin.Int.intBits i : Nat))) μ1 | _ => False := propext Iff.rfl
theorem EO {r r'} : M1 r r' ta tb tc ρ μ Q = ta ρ μ fun x μ1 => tb ρ μ1 fun y μ2 => r x y μ2 fun z μ3 => match z with
  | .v (.bool k) => if k = true then tc ρ μ3 fun w μ4 => r' y w μ4 Q else Q (.v (.bool false)) μ3
  | _ => False := propext Iff.rfl
theorem Gi : pK ρ μ QT = QT true μ := propext Iff.rfl
theorem Cb : zZ ta ρ μ QI = ta ρ μ fun d μ1 => match d with | .v (.list xs) => QI xs μ1 | _ => False := propext Iff.rfl
theorem D6 : nU ta ρ μ QI = ta ρ μ fun d μ1 => match d with | .v (.tuple xs) => QI xs μ1 | _ => False := propext Iff.rfl
theorem B4 : vH tA ρ μ QI = tA ρ μ fun ds μ1 => match ds with | [.v (.int j)] => (-(2 ^ 62) ≤ j ∧ j < 2 ^ 62) ∧ QI (nW 0 j.toNat) μ1 | _ => False := propext Iff.rfl
theorem Bu : wL tA ρ μ QI = tA ρ μ fun ds μ1 => match ds with | [.v (.int i), .v (.int j)] => (-(2 ^ 62) ≤ i ∧ i < 2 ^ 62 ∧ -(2 ^ 62) ≤ j ∧ j < 2 ^ 62) ∧ QI (nW i (j - i).toNat) μ1 | _ => False := propext Iff.rfl
theorem yd {src : DTI} {g : DTG} : Al src g s1 Dd ρ μ = src ρ μ fun xs μ1 => ∃ Pv : Nat → Rho → Mu → Prop, Pv 0 ρ μ1 ∧
  (∀ i x ρ' μ', xs[i]? = some x → Pv i ρ' μ' → g (.v x) ρ' μ' fun ρ2 μ2 => s1 { Dd with nx := Pv (i + 1), ct := Pv (i + 1), bk := Dd.nx } ρ2 μ2) ∧ (∀ ρ' μ', Pv xs.length ρ' μ' → Dd.nx ρ' μ') := propext Iff.rfl
theorem H0 {cap : List (Option Nat)} {src : DTI} {g : DTG} : pX cap src g t ta ρ μ Q = src ρ μ fun xs μ1 => xs.length ≤ 1000 ∧ ∃ f : PyData → Option PyData,
  (∀ x ∈ xs, ∀ μ' : Mu, (∀ a ds, μ1 a = some ds → μ' a = some ds) → g (.v x) (dG cap ρ) μ' fun ρ2 μ2 => Le (dG cap ρ) ρ2 ∧ t ρ2 μ2 fun b μ3 =>
    if b = true then ta ρ2 μ3 fun d μ4 => μ4 = μ' ∧ (match d with | .v y => f x = some y | _ => False) else μ3 = μ' ∧ f x = none) ∧ Q (.v (.list (xs.filterMap f))) μ1 := propext Iff.rfl
theorem Iz {α : Type} {r : List (Option α)} : dG [] r = [] := rfl
theorem Hn {α : Type} {o : Option Nat} {c : List (Option Nat)} {r : List (Option α)} : dG (o :: c) r = (o.bind fun j => (r[j]?).join) :: dG c r := rfl
theorem Kx : Le [] [] = True := propext ⟨fun _ => trivial, fun h => h⟩
theorem KQ {r r' : Rho} {o : Option D} : Le (none :: r) (o :: r') = Le r r' := propext Iff.rfl
theorem K6 {r r' : Rho} {d d' : D} : Le (some d :: r) (some d' :: r') = (d = d' ∧ Le r r') := propext Iff.rfl
end
theorem GJ {α β : Type} [BEq α] [LawfulBEq α] {x : α} {k : β} : ∀ {l : List (α × β)}, l.lookup x = some k → (x, k) ∈ l
  | [], h => by cases h
  | (y, j) :: r, h => by
    rw [List.lookup_cons] at h
    cases e : x == y with
    | true =>
      rw [e] at h
      simp only [Option.some.injEq] at h
      have : x = y := eq_of_beq e
      subst this h
      exact List.mem_cons_self
    | false =>
      rw [e] at h
      exact List.mem_cons_of_mem _ (GJ h)
def cfK : NameKind → Bool
  | .cell => true
  | .free => true
  | _ => false
theorem kX {names : List (Str × NameKind)} {cl : List (Str × Addr)} (h : (names.all fun y => !(cfK y.2) || (cl.lookup y.1).isSome) = true) (x : Str) (hx : names.lookup x = some .cell ∨ names.lookup x = some .free) : ∃ a, cl.lookup x = some a := by
  rw [List.all_eq_true] at h
  have key : ∀ k, cfK k = true → names.lookup x = some k → ∃ a, cl.lookup x = some a := fun k hk e => by
    have q := h _ (GJ e)
    simp only [hk, Bool.not_true, Bool.false_or] at q
    exact Option.isSome_iff_exists.mp q
  rcases hx with e | e
  · exact key _ rfl e
  · exact key _ rfl e
def GX (X : Cx) (sc : Scope) : List (Option Nat) → List Str → Prop
  | none :: c, _ :: n => GX X sc c n
  | some j :: c, x :: n => (X.N[j]? = some x ∧ Vis X.env.scope x ∧ X.env.kindOf x ≠ some .local ∧ ((relabel sc X.env).names.lookup x = some .cell ∨ (relabel sc X.env).names.lookup x = some .free)) ∧ GX X sc c n
  | _, _ => True
theorem jb {X : Cx} {sc : Scope} : ∀ {c : List (Option Nat)} {n : List Str}, GX X sc c n → ∀ (i j : Nat) (x : Str), c[i]? = some (some j) → n[i]? = some x →
    X.N[j]? = some x ∧ Vis X.env.scope x ∧ X.env.kindOf x ≠ some .local ∧ ((relabel sc X.env).names.lookup x = some .cell ∨ (relabel sc X.env).names.lookup x = some .free)
  | [], _, _, i, j, x, h, _ => by simp at h
  | _ :: _, [], _, i, j, x, _, h => by simp at h
  | none :: c, y :: n, k, 0, j, x, h, _ => by simp at h
  | none :: c, y :: n, k, i + 1, j, x, h, g => jb (c := c) (n := n) k i j x (by simpa using h) (by simpa using g)
  | some l :: c, y :: n, k, 0, j, x, h, g => by
    simp only [List.getElem?_cons_zero, Option.some.injEq] at h g
    subst h g
    exact k.1
  | some l :: c, y :: n, k, i + 1, j, x, h, g => jb (c := c) (n := n) k.2 i j x (by simpa using h) (by simpa using g)
theorem sh {X : Cx} {sc : Scope} {j : Nat} {x : Str} (h1 : X.N[j]? = some x := by rfl) (h2 : Vis X.env.scope x := by first | exact Or.inl rfl | exact Or.inr (Or.inl rfl) | exact Or.inr (Or.inr rfl)) (h3 : X.env.kindOf x ≠ some .local := by first | (intro z; cases z) | exact (fun z => nomatch z))
    (h4 : (relabel sc X.env).names.lookup x = some .cell ∨ (relabel sc X.env).names.lookup x = some .free := by first | exact Or.inl rfl | exact Or.inr rfl) : X.N[j]? = some x ∧ Vis X.env.scope x ∧ X.env.kindOf x ≠ some .local ∧ ((relabel sc X.env).names.lookup x = some .cell ∨ (relabel sc X.env).names.lookup x = some .free) := ⟨h1, h2, h3, h4⟩
open PySem PySem.Spec PyProof.Rows
def ji (μ : Mu) (p : Addr) : Mu := fun b => if b = p then none else μ b
def tU (cap : List (Option Nat)) (src : DTI) (g : DTG) (c : DTT) (elt : DTE) : DTE := fun ρ μ Q => src ρ μ fun xs μ1 => xs.length ≤ 1000 ∧ ∀ p, μ1 p = none → ∃ Pv : Nat → List PyData → Mu → Prop, Pv 0 [] (aV μ1 p []) ∧
  (∀ i x acc μ', xs[i]? = some x → μ' p = some acc → Pv i acc μ' → g (.v x) (dG cap ρ) μ' fun ρ2 μ2 => Le (dG cap ρ) ρ2 ∧ c ρ2 μ2 fun b μ3 =>
    if b = true then elt ρ2 μ3 fun d μ4 => μ4 p = some acc ∧ (match d with | .v y => Pv (i + 1) (acc ++ [y]) (aV μ4 p (acc ++ [y])) | _ => False) else μ3 p = some acc ∧ Pv (i + 1) acc μ3) ∧
  (∀ acc μ', Pv xs.length acc μ' → μ' p = some acc → Q (.v (.list acc)) (ji μ' p))
theorem EZ {X : Cx} {pos2 : Pos} {use : Option (Value → Sem Unit)} {QQ : Value → Shared → Prop} {pins : List (Addr × Obj)} {s : Shared} {σ : St} {H : Hp} {ρ : Rho} {μ : Mu} {Qd : DK} {N' : List Str} {scope : Scope} {cl : List (Str × Addr)} {elt iter tg : Expr} {ifs : List Expr} {pos : Pos} {cap : List (Option Nat)} {src : DTI} {g : DTG} {c : DTT} {te : DTE} (hc : X.calm = X.calm)
    (hi : DI X tg iter src) (hg : ∀ fp s₃ H₃, DG (cf X N' scope cl fp s₃ H₃) tg g) (hif : ∀ fp s₃ H₃, HW (cf X N' scope cl fp s₃ H₃) ifs c) (he : ∀ fp s₃ H₃, DE (cf X N' scope cl fp s₃ H₃) elt te)
    (hclos : closureFor scope X.env = pure cl) (hcell : ∀ y ∈ scope.names, y.2 ≠ .cell) (hkind : scope.kind = .function) (hnames : ∀ y ∈ scope.names, y.2 = .local → scope.names.lookup y.1 = some .local)
    (hcl : ∀ x a, cl.lookup x = some a → X.env.cells.lookup x = some a) (hhas : ∀ x, (relabel scope X.env).names.lookup x = some .cell ∨ (relabel scope X.env).names.lookup x = some .free → ∃ a, cl.lookup x = some a)
    (hlen : cap.length = N'.length) (hcap : ∀ (i j : Nat) (x : Str), cap[i]? = some (some j) → N'[i]? = some x → X.N[j]? = some x ∧ Vis X.env.scope x ∧ X.env.kindOf x ≠ some .local ∧ ((relabel scope X.env).names.lookup x = some .cell ∨ (relabel scope X.env).names.lookup x = some .free))
    (hs : ∀ x, foldedSetIterable iter X.env x = pure x )
    (I : Inv X pins σ H s) (S : St0 X.K H ρ μ σ) (h : tU cap src g c te ρ μ Qd)
    (hend : ∀ (s4 : Shared) (Hc : Hp) (C pa : Addr) (m : Str → Option Value) (acc : List PyData) (μF : Mu), s4.heap.Ns C m → Ao X pins Hc C → (∀ h', Heap.SameBut C s4.heap h' → Inv X pins σ Hc { s4 with heap := h' }) →
      Ext X.K μ H μF Hc → St0 X.K Hc ρ μF σ → Rp X.K μF Hc (.list acc) (.ref pa) → Qd (.v (.list acc)) μF → compPost (model X.prog X.w) X.A X.xe use QQ (.ref pa) C (.ok .next) s4) :
    wpAny (model X.prog X.w) X.A (comprehension (.ListComp elt [⟨tg, iter, ifs, 0⟩] scope pos) scope X.env pos2 (newList []) false (eval iter X.env) use) QQ X.xe s := by
  obtain ⟨wi, pw, li⟩ := hi
  refine wpAny_comprehension_free rfl hs hclos hkind hnames (thn (pw pins s σ H _ I (li σ H ρ μ _ (fun J H1 => ∃ xs μ1, Ext X.K μ H μ1 H1 ∧ St0 X.K H1 ρ μ1 σ ∧ JW X.K J xs μ1 H1 ∧ xs.length ≤ 1000 ∧ ∀ p, μ1 p = none → ∃ Pv : Nat → List PyData → Mu → Prop, Pv 0 [] (aV μ1 p []) ∧
      (∀ i x acc μ', xs[i]? = some x → μ' p = some acc → Pv i acc μ' → g (.v x) (dG cap ρ) μ' fun ρ2 μ2 => Le (dG cap ρ) ρ2 ∧ c ρ2 μ2 fun b μ3 =>
        if b = true then te ρ2 μ3 fun d μ4 => μ4 p = some acc ∧ (match d with | .v y => Pv (i + 1) (acc ++ [y]) (aV μ4 p (acc ++ [y])) | _ => False) else μ3 p = some acc ∧ Pv (i + 1) acc μ3) ∧
      (∀ acc μ', Pv xs.length acc μ' → μ' p = some acc → Qd (.v (.list acc)) (ji μ' p))) S h (fun xs μ1 H1 J e1 S1 it q => ⟨xs, μ1, e1, S1, it, q⟩)))
    fun v s1 h1 => thn h1 fun itv s2 h2 => ?_)
  obtain ⟨it, fp, tn, J, H2, rfl, I2, T, st2, f2, xs, μ1, e1, S1, itok, hxs, allp⟩ := h2
  refine wpAny_newObj_type (wpAny_newFunctionEnv hcell (by intro y hy; simp at hy) (fun h₁ hns₁ hsb₁ => ?_) hkind)
  dsimp only at hns₁ hsb₁ ⊢
  have hfree2 : H2 s2.heap.objs.size = none := I2.hok.fresh (Nat.le_refl _)
  have hK2 : X.K.lookup s2.heap.objs.size = none := by
    cases z : X.K.lookup s2.heap.objs.size with
    | none => rfl
    | some o => exact absurd (Heap.lt_size (I2.kIn _ _ z)) (Nat.lt_irrefl _)
  have I3 : Inv X pins σ (upd H2 s2.heap.objs.size (.lst [])) { s2 with heap := s2.heap.push { cls := .type "list", dict := none, data := .seq ([] : List Value).toArray } } :=
    I2.laid (t' := s2.toks) (fun b u e => Heap.get?_push_of_some _ e) (Nat.le_refl _) ⟨Nat.zero_le _, [], 0, .nil, Heap.get?_push_size _ rfl⟩
  generalize hH : s2.heap.push { cls := .type "list", dict := none, data := .seq ([] : List Value).toArray } = hp3 at hns₁ hsb₁ I3 ⊢
  have hsz3 : hp3.objs.size = s2.heap.objs.size + 1 := by rw [← hH, Heap.size_push]
  have kept3 : ∀ b o, hp3.get? b = some o → h₁.get? b = some o := fun b o e => hsb₁.extBut b o (Nat.ne_of_lt (Heap.lt_size e)) (Heap.get?_push_of_some _ e)
  have old3 : ∀ b o, s2.heap.get? b = some o → hp3.get? b = some o := fun b o e => by rw [← hH]; exact Heap.get?_push_of_some _ e
  have fplt : ∀ b ∈ fp, b < s2.heap.objs.size := fun b hb => by obtain ⟨o, e, _⟩ := T.obj 0 _ st2 b hb; exact Heap.lt_size e
  have fpst : ∀ b ∈ fp, b ∉ frs X.stack := fun b hb hz => by
    rcases List.mem_cons.mp (I2.ug b hz) with e | e
    · exact (f2 b hb).2.1 e
    · exact (f2 b hb).2.2.1 e
  obtain ⟨s3, hs3⟩ : ∃ s3 : Shared, s3 = { s2 with heap := hp3 } := ⟨_, rfl⟩
  obtain ⟨H3, hH3⟩ : ∃ H3 : Hp, H3 = upd H2 s2.heap.objs.size (.lst []) := ⟨_, rfl⟩
  have heap3 : s3.heap = hp3 := by rw [hs3]
  rw [← hH3] at I3
  have I3' : Inv X pins σ H3 s3 := by rw [hs3]; exact I3
  have hloc : H3 hp3.objs.size = none := by have := I3'.hok.fresh (a := hp3.objs.size) (by rw [heap3]; exact Nat.le_refl _); exact this
  have okc : (cf X N' scope cl fp s3 H3).Ok := by
    refine ⟨I3.ok.mod, ?_, I3.ok.glob, I3.ok.blt, Nat.le_refl _, fun x y a h1 h2 => I3.ok.inj x y a (hcl x a h1) (hcl y a h2), fun x hx => hhas x hx, fun x a h => (nomatch h), I3.ok.hd, I3.ok.qt, I3.ok.frames, .inl rfl, fun b hb => ⟨?_, fun x a h => (f2 b hb).2.2.2.2.1 x a (hcl x a h)⟩,
      I3'.bs, Nat.le_trans I3.ok.bsz I3'.sz, fun b o e hb => ?_, fun b hb => fpst b hb, I3'.stack, I3'.Ae⟩
    · exact hkind
    · show b ≠ s3.heap.objs.size
      rw [heap3, hsz3]
      exact Nat.ne_of_lt (Nat.lt_succ_of_lt (fplt b hb))
    · rcases (f2 b hb).2.2.2.1 with z | z
      · exact I3.ok.Fd b o e z
      · exact absurd (Nat.lt_of_lt_of_le (Heap.lt_size (I3.ok.bs b o e).1) z) (Nat.lt_irrefl _)
  have I4 : Inv (cf X N' scope cl fp s3 H3) [] (dG cap σ) H3 { s2 with heap := h₁, toks := s2.toks + ([] : List (Str × Value)).length } := by
    refine ⟨okc, by show s2.os = s3.os; rw [hs3], I3.bare, Un.kept (by show ∀ b o, s3.heap.get? b = some o → _; rw [heap3]; exact kept3), ⟨_, (by show h₁.Ns s3.heap.objs.size _; rw [heap3]; exact hns₁), fun i x v e1 e2 e3 => ?_⟩, fun x a h => ?_, (by show H3 s3.heap.objs.size = none; rw [heap3]; exact hloc), fun x a h => I3.n4 x a (hcl x a h), fun p hp => ?_, I3.hok.kept kept3, ?_⟩
    · obtain ⟨j, h1, h2⟩ := wI e2
      obtain ⟨hN, hv, hnl, hk⟩ := hcap i j x h1 e1
      obtain ⟨m, _, hl⟩ := I3.loc
      obtain ⟨u, r, lk⟩ := hl j x v hN h2 hv
      refine ⟨u, r, .inr ⟨hk, ?_⟩⟩
      obtain ⟨a, ha⟩ := hhas x hk
      rcases lk with ⟨z, _⟩ | ⟨_, a', z1, z2⟩
      · exact absurd z hnl
      · have : a' = a := by have q := hcl x a ha; rw [z1] at q; exact Option.some.inj q
        subst this
        obtain ⟨o, ho, hd⟩ := z2
        exact ⟨a', ha, o, kept3 _ _ ho, hd⟩
    · obtain ⟨v, o, ho, hd⟩ := I3.cell x a (hcl x a h)
      exact ⟨v, o, kept3 _ _ ho, hd⟩
    · have hp' : p ∈ X.pn ++ pins := List.mem_append_left _ (by simpa using (show p ∈ X.pn ++ [] from hp))
      obtain ⟨z1, z2, z3, z4, z5⟩ := I3'.pin p hp'
      refine ⟨kept3 _ _ (by rw [← heap3]; exact z1), z2, (show p.1 ≠ s3.heap.objs.size from Nat.ne_of_lt (Heap.lt_size z1)), fun z => ?_, z5⟩
      rcases List.mem_cons.mp (I3'.ug p.1 z) with e | e
      · exact z3 e
      · exact z4 e
    · show (dG cap σ).length = N'.length
      unfold dG
      rw [List.length_map]
      exact hlen
  have hμ1 : μ1 s2.heap.objs.size = none := S1.mu.free hfree2
  obtain ⟨Pv, pv0, body, fin⟩ := allp s2.heap.objs.size hμ1
  have loop : codeAny (model X.prog X.w) X.A (.compLoop (.ListComp elt [⟨tg, iter, ifs, 0⟩] scope pos) 0 (.ref it) (.ref s2.heap.objs.size) (cf X N' scope cl fp s3 H3).env)
      (compPost (model X.prog X.w) X.A X.xe use QQ (.ref s2.heap.objs.size) hp3.objs.size) { s2 with heap := h₁, toks := s2.toks + ([] : List (Str × Value)).length } := by
    refine kD (fun n s' => ∃ (i : Nat) (σc : St) (Hc : Hp) (acc : List PyData) (μc : Mu), n = xs.length - i ∧ i ≤ xs.length ∧ Inv (cf X N' scope cl fp s3 H3) [] σc Hc s' ∧ tn i s'.heap ∧ (∀ b ∈ fp, Hc b = none) ∧
      acc.length ≤ i ∧ μc s2.heap.objs.size = some acc ∧ Pv i acc μc ∧ St0 X.K Hc (dG cap ρ) μc σc ∧ Ext X.K μ1 H2 μc Hc) ?_ xs.length
      ⟨0, dG cap σ, H3, [], aV μ1 s2.heap.objs.size [], by simp, Nat.zero_le _, I4, T.keep 0 _ _ st2 (fun b hb o e => kept3 b o (old3 b o e)), fun b hb => ?_, Nat.le_refl _, cw, pv0, ?_, ?_⟩
    · rintro n s' ⟨i, σc, Hc, acc, μc, rfl, hi, Ic, tc, frc, hal, hpa, pvi, Sc, Ec⟩
      have stat : ∀ {Hd : Hp}, (∀ b ∈ fp, Hd b = none) → ∀ b ∈ fp, Ao (cf X N' scope cl fp s3 H3) [] Hd b := fun hn b hb =>
        ⟨hn b hb, (okc.exf b hb).1, fpst b hb, .inl hb, fun x a h => (okc.exf b hb).2 x a h, fun p hp => (f2 b hb).2.2.2.2.2 p (List.mem_append_left _ (by simpa using (show p ∈ X.pn ++ [] from hp)))⟩
      obtain ⟨go, stop⟩ := itok _ Hc Ec Sc.mu i
      by_cases hlt : i < xs.length
      · obtain ⟨g1, y1⟩ := go hlt
        refine thn (T.item (cf X N' scope cl fp s3 H3) rfl rfl rfl (fun z => z) i [] s' σc Hc (fun _ _ => False) Ic (stat frc) tc g1) fun r s4 ⟨u, hr, h4⟩ => ?_
        subst hr
        refine thn h4 fun _ s5 ⟨x, H5, I5, r5, y5, st5, fr5⟩ => ?_
        obtain ⟨d, hd, sm, rd⟩ := y1 x H5 y5
        have I5' := I5.pinned (stat fr5) (T.obj _ _ st5)
        have e5 : Ext X.K _ Hc _ H5 := .of_same (μ := μc) sm
        have S5 : St0 X.K H5 (dG cap ρ) μc σc := ⟨Sc.mu.J2 e5 sm, Sc.rho.ext Sc.mu e5⟩
        obtain ⟨gt, pg, lg⟩ := hg fp s3 H3
        refine thn (pg _ s5 σc H5 x u (fun σ' H' => ∃ ρ' μ', Ext X.K μc H5 μ' H' ∧ St0 X.K H' ρ' μ' σ' ∧ Le (dG cap ρ) ρ' ∧ c ρ' μ' fun b μ3 =>
            if b = true then te ρ' μ3 fun d' μ4 => μ4 s2.heap.objs.size = some acc ∧ (match d' with | .v y => Pv (i + 1) (acc ++ [y]) (aV μ4 s2.heap.objs.size (acc ++ [y])) | _ => False) else μ3 s2.heap.objs.size = some acc ∧ Pv (i + 1) acc μ3) I5' r5
          (lg σc H5 (dG cap ρ) _ (.v d) x _ _ S5 rd (body i d acc μc hd hpa pvi) fun σ' ρ' μ' H' e' S' q => ⟨ρ', μ', e', S', q⟩)) fun _ s6 ⟨σ6, H6, I6, ρ6, μ6, e6, S6, le6, q6⟩ => ?_
        refine thn (hif fp s3 H3 _ s6 σ6 H6 ρ6 μ6 _ (fun b H' => ∃ μ', Ext X.K μ6 H6 μ' H' ∧ St0 X.K H' ρ6 μ' σ6 ∧ if b = true then te ρ6 μ' fun d' μ4 => μ4 s2.heap.objs.size = some acc ∧ (match d' with | .v y => Pv (i + 1) (acc ++ [y]) (aV μ4 s2.heap.objs.size (acc ++ [y])) | _ => False) else μ' s2.heap.objs.size = some acc ∧ Pv (i + 1) acc μ')
          I6 S6 q6 fun b μ' H' e' S' q => ⟨μ', e', S', q⟩) fun b s7 ⟨H7, I7, μ7, e7, S7, q7⟩ => ?_
        have again : ∀ {H9 : Hp} {s9 : Shared} {acc' : List PyData} {μ9 : Mu}, Inv (cf X N' scope cl fp s3 H3) ([] ++ uq fp s5.heap) σ6 H9 s9 → acc'.length ≤ i + 1 → μ9 s2.heap.objs.size = some acc' → Pv (i + 1) acc' μ9 → dw X.K μ9 H9 → jh X.K μ9 H9 (dG cap ρ) σ6 →
            Ext X.K μ1 H2 μ9 H9 → ∃ m, m < xs.length - i ∧ ∃ (i : Nat) (σc : St) (Hc : Hp) (acc : List PyData) (μc : Mu), m = xs.length - i ∧ i ≤ xs.length ∧ Inv (cf X N' scope cl fp s3 H3) [] σc Hc s9 ∧ tn i s9.heap ∧ (∀ b ∈ fp, Hc b = none) ∧
              acc.length ≤ i ∧ μc s2.heap.objs.size = some acc ∧ Pv i acc μc ∧ St0 X.K Hc (dG cap ρ) μc σc ∧ Ext X.K μ1 H2 μc Hc := fun {H9 s9 acc' μ9} I9 l9 p9 v9 m9 r9 e9 => by
          refine ⟨xs.length - (i + 1), by omega, i + 1, σ6, H9, acc', μ9, rfl, hlt, I9.lL, T.keep _ _ _ st5 fun b hb o e => (I9.pin (b, o) (List.mem_append_right _ (List.mem_append_right _ (gf hb e)))).1, fun b hb => ?_, l9, p9, v9, ⟨m9, r9⟩, e9⟩
          obtain ⟨o, e, _⟩ := T.obj _ _ st5 b hb
          exact (I9.pin (b, o) (List.mem_append_right _ (List.mem_append_right _ (gf hb e)))).2.1
        cases b with
        | false =>
          have q8 : μ7 s2.heap.objs.size = some acc ∧ Pv (i + 1) acc μ7 := by simpa using q7
          refine Aa ?_
          exact again I7 (by omega) q8.1 q8.2 S7.mu (S7.rho.le le6) (Ec.trans (e5.trans (e6.trans e7)))
        | true =>
          refine Af ?_
          obtain ⟨t8, p8, l8⟩ := he fp s3 H3
          refine thn (p8 _ s7 σ6 H7 (fun v H' => ∃ y μ8, Ext X.K μ7 H7 μ8 H' ∧ St0 X.K H' ρ6 μ8 σ6 ∧ Rp X.K μ8 H' y v ∧ μ8 s2.heap.objs.size = some acc ∧ Pv (i + 1) (acc ++ [y]) (aV μ8 s2.heap.objs.size (acc ++ [y]))) I7
            (l8 σ6 H7 ρ6 μ7 _ _ S7 (by simpa using q7) fun d' v μ8 H8 e8 S8 r8 q8 => ?_)) fun v s8 ⟨v8, H8, I8, r8, y, μ8, e8, S8, ry, pa8, fy⟩ => ?_
          · obtain ⟨q80, q8⟩ := q8
            cases d' with
            | v y => exact ⟨y, μ8, e8, S8, r8, q80, q8⟩
            | m _ => exact q8.elim
            | s _ => exact q8.elim
            | o _ => exact q8.elim
            | q _ => exact q8.elim
          · obtain ⟨us, hacc, rus⟩ := S8.mu s2.heap.objs.size _ pa8
            have hle : acc.length ≤ 1000 := by omega
            refine thn (sW (X := cf X N' scope cl fp s3 H3) _ s8 σ6 H8 (.ref s2.heap.objs.size) [v8] (.ref s2.heap.objs.size) [v] (fun _ H' => H' = upd H8 s2.heap.objs.size (.lst (us ++ [v8]))) I8 rfl (.cons r8 .nil) ⟨_, us, v8, rfl, rfl, hacc, by rw [← rus.length]; exact ib hle, rfl⟩) fun _ s9 ⟨_, H9, I9, _, e9⟩ => ?_
            subst e9
            have ex : Ext X.K μ8 H8 (aV μ8 s2.heap.objs.size (acc ++ [y])) (upd H8 s2.heap.objs.size (.lst (us ++ [v8]))) := rK pa8
            exact again I9 (by rw [List.length_append, List.length_singleton]; omega) cw fy (S8.mu.set pa8 (rus.append (.cons ry .nil))) ((S8.rho.le le6).ext S8.mu ex) (Ec.trans (e5.trans (e6.trans (e7.trans (e8.trans ex)))))
      · have ei : i = xs.length := by omega
        subst ei
        refine thn (T.done (cf X N' scope cl fp s3 H3) rfl rfl rfl (fun z => z) _ [] s' σc Hc (fun _ _ => False) Ic (stat frc) tc (stop rfl)) fun r s4 ⟨hr, I5⟩ => ?_
        subst hr
        obtain ⟨m, hn, _⟩ := I5.loc
        have hcC : Hc hp3.objs.size = none := by have z : Hc s3.heap.objs.size = none := I5.free; rw [heap3] at z; exact z
        obtain ⟨us, hacc, rus⟩ := Sc.mu s2.heap.objs.size _ hpa
        have shr : ∀ a, μc a = none → ji μc s2.heap.objs.size a = none := fun a e => by
          unfold ji
          split
          · rfl
          · exact e
        have dne : ∀ a ds, ji μc s2.heap.objs.size a = some ds → μc a = some ds := fun a ds e => by
          unfold ji at e
          split at e
          · cases e
          · exact e
        have eF : Ext X.K μ1 H2 (ji μc s2.heap.objs.size) Hc := by
          refine ⟨Ec.keep, Ec.tb, fun b ds q => ?_, fun b q z => shr b (Ec.fresh b q z)⟩
          obtain ⟨es, q2⟩ := Ec.dom b ds q
          have : b ≠ s2.heap.objs.size := fun z => by rw [z, hμ1] at q; cases q
          exact ⟨es, by unfold ji; rw [if_neg this]; exact q2⟩
        have mF : dw X.K (ji μc s2.heap.objs.size) Hc := ⟨fun a ds q => by
          obtain ⟨ys, z1, z2⟩ := Sc.mu a ds (dne a ds q)
          exact ⟨ys, z1, z2.shrink shr⟩, Sc.mu.tab⟩
        refine hend s4 Hc hp3.objs.size s2.heap.objs.size m acc (ji μc s2.heap.objs.size) (by have z : s4.heap.Ns s3.heap.objs.size m := hn; rw [heap3] at z; exact z) (I2.JN (by rw [hsz3]; exact Nat.le_succ _) hcC) (fun h' hs' => ?_) (e1.trans eF) ⟨mF, S1.rho.ext S1.mu eF⟩ (Rp.list hacc (by unfold ji; rw [if_pos rfl]) (rus.shrink shr)) (fin acc μc pvi hpa)
        have kp : ∀ b o, b < s2.heap.objs.size → s4.heap.get? b = some o → h'.get? b = some o := fun b o hb e => hs'.extBut b o (by rw [hsz3]; exact Nat.ne_of_lt (Nat.lt_succ_of_lt hb)) e
        have hok' : HOk X.prog X.w Hc h' := fun b ob e => by
          refine (I5.hok b ob e).BU (fun cc v hcc q => hs'.extBut cc v ?_ q) (fun _ q => q) fun _ _ q => q
          rintro rfl
          rcases hcc with z | z
          · rw [← z, hcC] at e; cases e
          · rw [hcC] at z; cases z
        have u1 : Un (frs X.stack) fp H2 H3 s2.heap s3.heap := by rw [heap3, hH3]; exact Un.laid old3 (Nat.le_refl _) hfree2
        have u2 : Un (frs X.stack) fp H3 Hc s3.heap s4.heap := I5.base
        exact I2.IG (ch := fp) (by show s4.os = s2.os; have z : s4.os = s3.os := I5.os; rw [z, hs3]) (Un.after (u1.trans u2) kp) hok' I5.bare fun b hb => ⟨(f2 b hb).2.2.2.1, (f2 b hb).2.1, (f2 b hb).2.2.2.2.1, (f2 b hb).2.2.2.2.2⟩
    · have z : b ≠ s2.heap.objs.size := Nat.ne_of_lt (fplt b hb)
      rw [hH3, cJ z]
      exact (f2 b hb).1
    · have ex := pq (o := .lst []) (ds := []) S1.mu hfree2 hK2
      rw [hH3]
      exact ⟨S1.mu.mut .nil hfree2 hK2, (S1.rho.ext S1.mu ex).cap⟩
    · rw [hH3]
      exact pq (o := .lst []) (ds := []) S1.mu hfree2 hK2
  have envE : (cf X N' scope cl fp s3 H3).env = compEnvC scope cl hp3.objs.size X.env := by show compEnvC scope cl s3.heap.objs.size X.env = _; rw [heap3]
  rw [envE] at loop
  exact codeAny_compStart_list loop (T.self X.A 0 _ _ _ (T.keep 0 _ _ st2 (fun b hb o e => kept3 b o (old3 b o e))) loop)
theorem ns_obj {h : Heap} {C : Addr} {m : Str → Option Value} (hn : h.Ns C m) : ∃ o, h.get? C = some o ∧ ∀ v, o.data ≠ .cell v := let ⟨o, es, ep, ho, hd, _⟩ := hn; ⟨o, ho, fun v z => by rw [hd] at z; cases z⟩
theorem Kn {h h' : Heap} {C : Addr} {m : Str → Option Value} (hn : h.Ns C m) (e : h'.get? C = h.get? C) : h'.Ns C m := let ⟨o, es, ep, ho, r⟩ := hn; ⟨o, es, ep, e.trans ho, r⟩
theorem Ex {X : Cx} {i : Nat} {x : Str} {pos' spos : Pos} {N' : List Str} {scope : Scope} {cl : List (Str × Addr)} {elt iter tg : Expr} {ifs : List Expr} {pos : Pos} {cap : List (Option Nat)} {src : DTI} {g : DTG} {c : DTT} {te : DTE} (hN : X.N.Nodup) (hix : X.N[i]? = some x) (hx : X.env.scope.names.lookup x = some .local) (hc : X.calm = X.calm)
    (hi : DI X tg iter src) (hg : ∀ fp s₃ H₃, DG (cf X N' scope cl fp s₃ H₃) tg g) (hif : ∀ fp s₃ H₃, HW (cf X N' scope cl fp s₃ H₃) ifs c) (he : ∀ fp s₃ H₃, DE (cf X N' scope cl fp s₃ H₃) elt te)
    (hclos : closureFor scope X.env = pure cl) (hcell : ∀ y ∈ scope.names, y.2 ≠ .cell) (hkind : scope.kind = .function) (hnames : ∀ y ∈ scope.names, y.2 = .local → scope.names.lookup y.1 = some .local)
    (hcl : ∀ x a, cl.lookup x = some a → X.env.cells.lookup x = some a) (hhas : ∀ x, (relabel scope X.env).names.lookup x = some .cell ∨ (relabel scope X.env).names.lookup x = some .free → ∃ a, cl.lookup x = some a)
    (hlen : cap.length = N'.length) (hcap : ∀ (i j : Nat) (x : Str), cap[i]? = some (some j) → N'[i]? = some x → X.N[j]? = some x ∧ Vis X.env.scope x ∧ X.env.kindOf x ≠ some .local ∧ ((relabel scope X.env).names.lookup x = some .cell ∨ (relabel scope X.env).names.lookup x = some .free))
    (hs : ∀ x, foldedSetIterable iter X.env x = pure x := by intro _; rfl)
    (hsw : swapsWith (.ListComp elt [⟨tg, iter, ifs, 0⟩] scope pos) (some (.Name x pos')) spos.line X.env = pure true := by rfl) : DS X (.Assign [.Name x pos'] (.ListComp elt [⟨tg, iter, ifs, 0⟩] scope pos) spos) (bA (tU cap src g c te) (aw i)) := by
  refine ⟨fun D σ H => ∃ ρ μ Dd, St0 X.K H ρ μ σ ∧ bA (tU cap src g c te) (aw i) Dd ρ μ ∧ (∀ σ' ρ' μ' H', Ext X.K μ H μ' H' → St0 X.K H' ρ' μ' σ' → Dd.nx ρ' μ' → D.nx σ' H'), ?_, fun σ H ρ μ Dd De S h k1 k2 k3 k4 => ⟨ρ, μ, Dd, S, h, k1⟩⟩
  rintro pins s σ H D I ⟨ρ, μ, Dd, S, h, k1⟩
  rw [exec_Assign_Name_used _ _ _ _ hsw]
  refine wpAny_bind (wpAny_standAt ?_)
  show wpAny _ _ ((comprehension (.ListComp elt [⟨tg, iter, ifs, 0⟩] scope pos) scope X.env (firstIterPos [⟨tg, iter, ifs, 0⟩] pos) (newList []) false (eval iter X.env) (some (assign (.Name x pos') X.env)) >>= fun _ => pure ()) >>= _) _ _ s
  refine wpAny_bind (wpAny_bind (EZ (Qd := fun d μ1 => aw i d ρ μ1 Dd.nx) hc hi hg hif he hclos hcell hkind hnames hcl hhas hlen hcap hs I S h fun s4 Hc C pa m acc μF hn fC hI e1 S1 r q => ?_))
  have I4 : Inv X pins σ Hc s4 := hI s4.heap (Heap.SameBut.refl _ _)
  obtain ⟨oC, hoC, hdC⟩ : ∃ o, s4.heap.get? C = some o ∧ ∀ v, o.data ≠ .cell v := by
    obtain ⟨o, h1, h2⟩ := ns_obj hn
    exact ⟨o, h1, h2⟩
  have I5 := I4.pinned (fp := [C]) (fun b hb => by rw [List.mem_singleton.mp hb]; exact fC) (fun b hb => by rw [List.mem_singleton.mp hb]; exact ⟨oC, hoC, hdC⟩)
  show wpAny _ _ (assign (.Name x pos') X.env (.ref pa)) _ _ s4
  refine wpAny_assign_Name (nH I5 hN hix (Or.inl hx) (show RelV (.ref pa) (.ref pa) from rfl) (fun s' I' => ?_) (.inr hx))
  have keepC : s'.heap.get? C = some oC := (I'.pin (C, oC) (List.mem_append_right _ (List.mem_append_right _ (gf (List.mem_singleton.mpr rfl) hoC)))).1
  have hn' : s'.heap.Ns C m := Kn hn (by rw [keepC, hoC])
  refine ⟨m, hn', fun h' hs' => wpAny_pure (wpAny_pure ?_)⟩
  refine ⟨σ.set i (some (.ref pa)), Hc, ?_, k1 _ _ _ _ e1 ⟨S1.mu, S1.rho.set (d := .v (.list acc)) r⟩ q⟩
  refine I'.lL.IG (ch := [C]) rfl ⟨fun b o e n hb hx => ?_, fun b o e n hb hx => ?_, fun b o e n hx => n, fun b o e hx => ?_, fun b xs e => e, fun b o u e => e, fun b ps e => ⟨#[], by rw [Array.append_empty]; exact e⟩⟩ ?_ I'.bare fun b hb => ?_
  · exact hs'.extBut b o (fun z => hx (List.mem_singleton.mpr z)) e
  · exact ⟨o.slots, hs'.extBut b o (fun z => hx (List.mem_singleton.mpr z)) e⟩
  · exact ⟨o, hs'.extBut b o (fun z => hx (List.mem_singleton.mpr z)) e⟩
  · exact fun b ob e => by
      refine (I'.hok b ob e).BU (fun cc v hcc q => hs'.extBut cc v ?_ q) (fun _ q => q) fun _ _ q => q
      rintro rfl
      rcases hcc with z | z
      · rw [← z, fC.1] at e; cases e
      · rw [fC.1] at z; cases z
  · rw [List.mem_singleton.mp hb]
    exact ⟨fC.2.2.2.1, fC.2.1, fC.2.2.2.2.1, fC.2.2.2.2.2⟩
theorem ES {cap : List (Option Nat)} {src : DTI} {g : DTG} {t : DTT} {ta : DTE} {ρ : Rho} {μ : Mu} {Q : DK} : tU cap src g t ta ρ μ Q = src ρ μ fun xs μ1 => xs.length ≤ 1000 ∧ ∀ p, μ1 p = none → ∃ Pv : Nat → List PyData → Mu → Prop, Pv 0 [] (aV μ1 p []) ∧
  (∀ i x acc μ', xs[i]? = some x → μ' p = some acc → Pv i acc μ' → g (.v x) (dG cap ρ) μ' fun ρ2 μ2 => Le (dG cap ρ) ρ2 ∧ t ρ2 μ2 fun b μ3 =>
    if b = true then ta ρ2 μ3 fun d μ4 => μ4 p = some acc ∧ (match d with | .v y => Pv (i + 1) (acc ++ [y]) (aV μ4 p (acc ++ [y])) | _ => False) else μ3 p = some acc ∧ Pv (i + 1) acc μ3) ∧
  (∀ acc μ', Pv xs.length acc μ' → μ' p = some acc → Q (.v (.list acc)) (ji μ' p)) := propext Iff.rfl
theorem yi {μ : Mu} {p : Addr} {ds : List PyData} (h : μ p = none) : ji (aV μ p ds) p = μ := by
  funext b
  unfold ji aV
  by_cases e : b = p
  · rw [if_pos e, e, h]
  · rw [if_neg e, if_neg e]
theorem LO {xs : List PyData} {f : PyData → Option PyData} {i : Nat} {d : PyData} (h : xs[i]? = some d) : (xs.take (i + 1)).filterMap f = (xs.take i).filterMap f ++ (f d).toList := yS h
open PySem PySem.Spec PyProof.Rows
section
variable {X : Cx} {es : List Expr} {x1 : Nat} {tpos : Pos}
def Gz : List PyData → List PyData → List PyData
  | x :: xs, y :: ys => .tuple [x, y] :: Gz xs ys
  | _, _ => []
def Na (t : DTA) : DTI := fun ρ μ Q => t ρ μ fun ds μ1 => match ds with
  | [.v (.list xs), .v (.list ys)] => Q (Gz xs ys) μ1
  | _ => False
theorem EJ {t : DTA} {ρ : Rho} {μ : Mu} {Q : List PyData → Mu → Prop} : Na t ρ μ Q = t ρ μ fun ds μ1 => match ds with | [.v (.list xs), .v (.list ys)] => Q (Gz xs ys) μ1 | _ => False := propext Iff.rfl
end
open PySem PySem.Spec PyProof.Rows
section
variable {X : Cx} {a b e : Expr} {es : List Expr} {ta tb te : DTE} {t : DTA} {p pos : Pos}
def jo : List D → Mu → DK → Prop := fun xs μ Q => match xs with
  | [.v (.list ys)] => Q (.v (.tuple ys)) μ
  | [.v (.tuple ys)] => Q (.v (.tuple ys)) μ
  | [.m l] => (match μ l with | some ys => Q (.v (.tuple ys)) μ | none => False)
  | _ => False
theorem Gj {K : PySem.W.Frag} : rO K (fun xs H Q => ∃ p ys, xs = [.ref p] ∧ ((SqL K H p ys ∧ ∀ l, H l = none → Q (.ref l) (upd H l (.tup ys))) ∨ (SqT K H p ys ∧ Q (.ref p) H))) jo := by
  intro xs us H μ Qd Q ok rs h k
  unfold jo at h
  split at h
  · cases rs with
    | cons r1 r2 =>
      cases r2
      cases r1 with
      | list hs hn r => exact ⟨_, _, rfl, .inl ⟨SqL.of hs, fun l hl => k (.v _) _ μ _ (eP hl) (ok.new hl) (jZ ok r hl) h⟩⟩
  · cases rs with
    | cons r1 r2 =>
      cases r2
      cases id r1 with
      | tuple hs r => exact ⟨_, _, rfl, .inr ⟨hs, k (.v _) _ μ H .refl ok r1 h⟩⟩
  · cases rs with
    | cons r1 r2 =>
      cases r2
      obtain ⟨rfl, ds, hm⟩ := r1
      rw [hm] at h
      obtain ⟨us, hl, r⟩ := ok _ ds hm
      exact ⟨_, _, rfl, .inl ⟨SqL.of hl, fun l hl' => k (.v _) _ μ _ (eP hl') (ok.new hl') (jZ ok r hl') h⟩⟩
  · exact h.elim
theorem wN (hg : Gl X "tuple") (hm : X.mg "tuple" = none) (ha : DA X (e :: es) t)
    (he : starEach (e :: es) X.env = (false, eval e X.env) :: starEach es X.env := by rfl) (hpl : (backTo pos (starEach es X.env)).any (·.1) = false := by rfl) : DE X (.Call (.Name "tuple" p) (e :: es) [] pos) (dCB jo t) :=
  yr w8 Gj hg hm PyProof.Rows.Boot.«tuple» ha (by decide) (by decide) he hpl
theorem A5 {ys : List PyData} {μ : Mu} {Q : DK} : jo [.v (.list ys)] μ Q = Q (.v (.tuple ys)) μ := propext Iff.rfl
theorem BI {ys : List PyData} {μ : Mu} {Q : DK} : jo [.v (.tuple ys)] μ Q = Q (.v (.tuple ys)) μ := propext Iff.rfl
theorem Bi {l : Addr} {μ : Mu} {Q : DK} : jo [.m l] μ Q = (match μ l with | some ys => Q (.v (.tuple ys)) μ | none => False) := propext Iff.rfl
def NZ : D → D → Mu → DK → Prop := fun x y μ Q => match x, y with
  | .v (.list xs), .v (.int k) => (0 ≤ k ∧ k ≤ 1000 ∧ xs.length * k.toNat ≤ 1000) ∧ Q (.v (.list (List.replicate k.toNat xs).flatten)) μ
  | _, _ => False
theorem Lb {xs : List PyData} {k : Int} {μ : Mu} {Q : DK} : NZ (.v (.list xs)) (.v (.int k)) μ Q = ((0 ≤ k ∧ k ≤ 1000 ∧ xs.length * k.toNat ≤ 1000) ∧ Q (.v (.list (List.replicate k.toNat xs).flatten)) μ) := propext Iff.rfl
end
open PySem PySem.Spec PyProof.Rows
section
variable {prog : Program} {w : World} {A : Around} {E : Value → Shared → Prop} {s : Shared}
end
open PySem PySem.Spec PyProof.Rows
section
variable {X : Cx} {es : List Expr} {x1 : Nat} {tpos : Pos}
end
section
variable {X : Cx} {es : List Expr} {pos : Pos}
end
open PySem PySem.Spec PyProof.Rows
section
variable {X : Cx} {e : Expr} {es : List Expr} {t : DTA} {p pos : Pos}
end
section
variable {X : Cx} {e tg : Expr} {te : DTE} {td : DTS} {pos : Pos}
end
section
variable {X : Cx} {a b c : Expr} {ta tb tc : DTE} {pos : Pos}
end
open PySem PySem.Spec PyProof.Rows
section
variable {X : Cx} {o e : Expr} {to te : DTE} {apos cpos pos : Pos}
end
section
variable {X : Cx} {e : Expr} {es : List Expr} {t : DTA} {p pos : Pos}
end
section
variable {X : Cx} {a b : Expr} {ta tb : DTE} {pos : Pos}
end
open PySem PySem.Spec PyProof.Rows
def Jd (cells : List (Str × Addr)) : List (Str × Addr) → Prop
  | [] => True
  | (k, v) :: r => cells.lookup k = some v ∧ Jd cells r
theorem gD {cells : List (Str × Addr)} : Jd cells [] := trivial
theorem cu {cells r : List (Str × Addr)} {k : Str} {v : Addr} (h : cells.lookup k = some v) (t : Jd cells r) : Jd cells ((k, v) :: r) := ⟨h, t⟩
theorem da {cells : List (Str × Addr)} : ∀ {cl : List (Str × Addr)}, Jd cells cl → ∀ x a, cl.lookup x = some a → cells.lookup x = some a
  | [], _, _, _, h => by simp at h
  | (k, v) :: r, c, x, a, h => by
    rw [List.lookup_cons] at h
    cases e : x == k with
    | true =>
      have e' : x = k := by simpa using e
      rw [e] at h
      subst e'
      rw [c.1]; exact h
    | false =>
      rw [e] at h
      exact da c.2 x a h
open PySem PySem.Spec PyProof.Rows
structure Kp (O : Addr → Prop) (fs : List Addr) (h h' : Heap) : Prop where
  keep : ∀ b o, h.get? b = some o → O b → b ∉ fs → h'.get? b = some o
  slot : ∀ b o, h.get? b = some o → (∀ vs, o.data ≠ .fields vs) → ∃ sl, h'.get? b = some { o with slots := sl }
section
variable {O : Addr → Prop} {fs : List Addr} {h h1 h2 : Heap}
theorem Kp.refl : Kp O fs h h := ⟨fun _ _ e _ _ => e, fun _ o e _ => ⟨o.slots, e⟩⟩
theorem Kp.trans (a : Kp O fs h h1) (b : Kp O fs h1 h2) : Kp O fs h h2 := ⟨fun c o e l f => b.keep c o (a.keep c o e l f) l f, fun c o e d => let ⟨_, e1⟩ := a.slot c o e d; let ⟨sl, e2⟩ := b.slot c _ e1 d; ⟨sl, e2⟩⟩
theorem Kp.of (k : ∀ b o, h.get? b = some o → h1.get? b = some o) : Kp O fs h h1 := ⟨fun b o e _ _ => k b o e, fun b o e _ => ⟨o.slots, k b o e⟩⟩
theorem Kp.frames {base : Heap} {l : List Env} (a : Kp O fs h h1) (k : h.FunFrames base l) : h1.FunFrames base l := k.of_keeps fun b o e d => let ⟨_, e1⟩ := a.slot b o e d; ⟨_, e1, rfl⟩
end
section
variable {M : Model} {A : Around} {E : Value → Shared → Prop} {s : Shared} {O : Addr → Prop} {e L : Addr} {cls fl : Value} {env : Env} {outer : List Env} {base : Heap} {Q : Unit → Shared → Prop}
end
open PySem PySem.Spec PyProof.Rows
section
variable {X : Cx} {pins : List (Addr × Obj)} {σ : St} {H : Hp} {s : Shared} {O : Addr → Prop} {ea : Addr} {cls : Value} {E : XK} {base : Heap}
end
abbrev DTX := Rho → Mu → (Mu → Prop) → Prop
abbrev XSp := List D → Mu → (Mu → Prop) → Prop
def MO (K : PySem.W.Frag) (E : XK) (C : Value) (μ : Mu) (H : Hp) (Xk : Mu → Prop) : Prop := ∀ μ' H', Ext K μ H μ' H' → dw K μ' H' → Xk μ' → E C none H'
theorem MO.on {K : PySem.W.Frag} {E : XK} {C : Value} {μ μ1 : Mu} {H H1 : Hp} {Xk : Mu → Prop} (w : MO K E C μ H Xk) (e : Ext K μ H μ1 H1) : MO K E C μ1 H1 Xk := fun μ' H' e' => w μ' H' (e.trans e')
section
variable {X : Cx} {E : XK} {C : Value} {e : Expr} {es : List Expr} {t : DTA} {te : DTE} {tx ty : DTX} {p pos : Pos} {x : Str} {k : Nat} {f : Addr} {fd : FuncData} {ps : List Str} {dsp : XSp} {st : Stmt} {sts : List Stmt}
end
open PySem PySem.Spec PyProof.Rows
section
variable {X : Cx} {E : XK} {x : Str} {C : Addr}
end
open PySem PySem.Spec PyProof.Rows
section
variable {prog : Program} {w : World} {A : Around} {E : Value → Shared → Prop} {h : Heap} {g : Array GenState} {d : Drawn} {t : Nat} {os : OsState} {a C : Addr} {o : Obj} {K : PySem.W.Frag}
end
open PySem PySem.Spec PyProof.Rows
section
variable {X : Cx} {pins : List (Addr × Obj)} {σ : St} {H : Hp} {s : Shared}
end
open PySem PySem.Spec PyProof.Rows
section
variable {P : Program} {w : World} {K : PySem.W.Frag} {mg : Str → Option Value} {base : Heap} {N : List Str} {lsc : Scope} {cl : List (Str × Addr)} {q : Str} {fa c1 : Addr} {A : Around} {outer : List Env} {s : Shared} {H : Hp} {E : XK} {σ : St} {k : Nat} {params : Arguments} {body : Expr} {pm ctv : Value} {t : TE}
end
open PySem PySem.Spec PyProof.Rows
section
variable {X : Cx} {pins : List (Addr × Obj)} {σ : St} {H : Hp} {s : Shared} {O : Addr → Prop} {ea : Addr} {oe : Obj} {vs : Array Value}
end
open PySem PySem.Spec PyProof.Rows
open PySem PySem.Spec PyProof.Rows
section
variable {X : Cx} {e : Expr} {te : DTE} {p py pos : Pos} {y : Str} {C : Addr} {b : Bool} {ea : Addr} {oe : Obj}
end
end L2.DL
set_option Elab.async false
set_option linter.all false
set_option maxRecDepth 100000
set_option maxHeartbeats 4000000
namespace L2
open PySem PySem.Spec PyProof.Rows DL
def NX (tabs : List Addr) (H : Hp) : Prop := ∀ b, H b = none ∨ (∃ o xs, H b = some (.frz o (.lst xs))) ∨ (b ∈ tabs ∧ H b = some (.tbl #[]))
theorem E5 {P : Program} {w : World} {K : PySem.W.Frag} {mg mb : Str → Option Value} {CX : CXT} {k : Nat} {fa a : Addr} {fd : FuncData} {x : Str} {sp : Sp} {s₁ : Shared} {vs : List Value} {ns : List Int} (tabs : List Addr)
    (hT : ∀ p ∈ tabs, s₁.heap.get? p = some (PySem.W.tabObj #[]) ∧ K.lookup p = none) (hA2 : ∀ c o p q, K.lookup c = some o → eE o = some (p, q) → p ∈ tabs) (hC : ∀ p ∈ tabs, isCodeTable s₁.heap p)
    (KX : K.In s₁.heap) (hns : s₁.heap.Ns mainGlobals mg) (hb : s₁.heap.Ns builtinsNs mb) (hbb : ∀ x : Str, x ≠ "__name__" → mb x = bootBuiltins x) (hlim : s₁.heap.NoLimit) (hg : s₁.gens = #[])
    (ha : s₁.heap.get? a = some { cls := .type "list", data := .seq vs.toArray }) (hi : IntsAre vs ns) (hl : ns.length ≤ sizeLine) (hr : mJ k callerA)
    (F : ∀ base : Heap, K.In base → base.Ns mainGlobals mg → bU P w K mg base CX k fa fd [x] sp) (hbind : ∀ (s : Shared) (u : Value), BindsTo s fd ⟨[u], []⟩ [(x, u)])
    (hsp : ∀ H : Hp, AQ K H → SqL K H a (ns.map V.int) → sp [.ref a] H (fun v _ => v = .bl true) fun _ _ _ => False)
    (hCX : ∀ H e s', CX [] H s₁ (fun _ _ _ => False) e s' → False) :
    codeAny (model P w) callerA (.call (.ref fa) ⟨[.ref a], []⟩) (fun r s' => r = .ok (.ret (.bool true)) ∧ OldK s₁.heap s'.heap ∧ s'.os = s₁.os ∧ AllBare s'.gens) s₁ := by
  have rv := yo hi
  have lenV := hi.length
  have ant : a ∉ tabs := fun z => by have := (hT a z).1; rw [ha] at this; cases this
  have core : ∀ H : Hp, NX tabs H → SqL K H a (ns.map V.int) → HOk P w H s₁.heap → (∀ b, H b ≠ none → b = a ∨ b ∈ tabs) → (H a ≠ none → K.lookup a = none) → (∀ p ∈ tabs, H p = some (.tbl #[])) →
      codeAny (model P w) callerA (.call (.ref fa) ⟨[.ref a], []⟩) (fun r s' => r = .ok (.ret (.bool true)) ∧ OldK s₁.heap s'.heap ∧ s'.os = s₁.os ∧ AllBare s'.gens) s₁ := by
    intro H hO hS hok hA hK hP
    have base_of : ∀ {b : Addr} {o : Obj}, s₁.heap.get? b = some o → H b = none → (zv s₁.heap H).get? b = some o := fun e n => HJ e n
    have noA : ∀ {b : Addr} {o : Obj} {es : Array DictEntry} {ep : Nat}, s₁.heap.get? b = some o → o.data = .dict es ep → H b = none := fun {b o es ep} e d => by
      cases q : H b with
      | none => rfl
      | some u =>
        rcases hA b (by rw [q]; simp) with e' | e'
        · subst e'
          rw [ha] at e; cases e
          have d' : Data.seq vs.toArray _ = Data.dict es ep := d
          cases d'
        · rw [(hT b e').1] at e; cases e
          have d' : Data.fields #[] = Data.dict es ep := d
          cases d'
    have nsK : ∀ {b : Addr} {m : Str → Option Value}, s₁.heap.Ns b m → (zv s₁.heap H).Ns b m := fun {b m} ⟨o, es, ep, e, d, r⟩ => ⟨o, es, ep, base_of e (noA e d), d, r⟩
    have hKb : K.In (zv s₁.heap H) := fun b o e => base_of (KX b o e) (by
      cases q : H b with
      | none => rfl
      | some u =>
        rcases hA b (by rw [q]; simp) with e' | e'
        · subst e'
          rw [hK (by rw [q]; simp)] at e; cases e
        · have e2 := e; rw [show K.lookup b = none from (hT b e').2] at e2; cases e2)
    have hM : Mod K mg (zv s₁.heap H) := ⟨hKb, nsK hns, ⟨mb, nsK hb, hbb⟩, let ⟨mc, h1, h2⟩ := hlim; ⟨mc, nsK h1, h2⟩⟩
    have e0 : JD P w K mg (zv s₁.heap H) callerA [] s₁ H := ⟨rfl, hM, fun b o e => J7 e, Nat.le_of_eq (Fc _ _), trivial, fun b hb => absurd (show b ∈ ([] : List Addr) from hb) (by simp), hok, .of_eq hg⟩
    have tb : AQ K H := fun c o p q h1 h2 => ⟨#[], hP p (hA2 c o p q h1 h2), trivial, fun pos cv e => by simp [codeAmong] at e⟩
    refine codeAny_mono ((F _ hKb (nsK hns)).run callerA [] s₁ H ⟨[.ref a], []⟩ [.ref a] [.ref a] _ _ hr e0 (hbind s₁ (.ref a)) (.cons rfl .nil) (hsp H tb hS)) fun r s' h => ?_
    cases r with
    | error e => exact (hCX H e s' h).elim
    | ok fl =>
      cases fl with
      | next => exact False.elim h
      | brk => exact False.elim h
      | cont => exact False.elim h
      | ret u =>
        obtain ⟨v, H', os, bare, un, hok', r', q⟩ := h
        have q' : v = .bl true := q
        subst q'
        obtain rfl : u = Value.bool true := r'
        refine ⟨rfl, ⟨fun b o e => ?_, fun b o e => un.there b o e (by simp)⟩, os, bare⟩
        cases q : H b with
        | none => exact .inl (un.keep b o e q (by intro z; exact absurd (show b ∈ ([] : List Addr) from z) (by simp)) (by simp))
        | some u =>
          rcases hO b with z | ⟨ob, xs, z⟩ | ⟨zt, z⟩
          · rw [q] at z; cases z
          · have z2 := un.rW b ob _ z
            obtain ⟨e1, _⟩ := hok b _ z
            obtain ⟨e2, _⟩ := hok' b _ z2
            rw [e] at e1; cases e1
            exact .inl e2
          · obtain ⟨more, z2⟩ := un.sC b _ z
            have e2 : s'.heap.get? b = some { cls := .none, data := .fields (#[] ++ more) } := hok' b _ z2
            have e1 := (hT b zt).1
            rw [e] at e1; cases e1
            exact .inr (.inl ⟨hC b zt, rfl, #[], more, rfl, e2⟩)
  have okT : ∀ p ∈ tabs, s₁.heap.get? p = some { cls := .none, data := .fields #[] } := fun p hp => (hT p hp).1
  cases hk : K.lookup a with
  | some o =>
    have e := KX a o hk
    rw [ha] at e
    cases e
    refine core (fun b => if b ∈ tabs then some (.tbl #[]) else none) (fun b => ?_) (.inr ⟨_, vs.toArray, _, hk, rfl, rfl, rfl, by rw [List.size_toArray, lenV]; exact hl, by simpa using rv⟩) (fun b u z => ?_) (fun b z => ?_) (fun z => absurd (if_neg ant) z) (fun p hp => if_pos hp)
    · by_cases hb : b ∈ tabs
      · exact .inr (.inr ⟨hb, if_pos hb⟩)
      · exact .inl (if_neg hb)
    · by_cases hb : b ∈ tabs
      · have z' := (if_pos hb).symm.trans z; cases z'; exact okT b hb
      · have z' := (if_neg hb).symm.trans z; cases z'
    · by_cases hb : b ∈ tabs
      · exact .inr hb
      · exact absurd (if_neg hb) z
  | none =>
    refine core (fun b => if b = a then some (.frz { cls := .type "list", data := .seq vs.toArray } (.lst (ns.map V.int))) else if b ∈ tabs then some (.tbl #[]) else none) (fun b => ?_) (.inl (.inr ⟨{ cls := .type "list", data := .seq vs.toArray }, if_pos rfl⟩)) (fun b u z => ?_) (fun b z => ?_) (fun _ => hk) (fun p hp => by
      have : p ≠ a := fun y => ant (by rw [← y]; exact hp)
      exact (if_neg this).trans (if_pos hp))
    · by_cases hb : b = a
      · exact .inr (.inl ⟨_, _, if_pos hb⟩)
      · by_cases hb2 : b ∈ tabs
        · exact .inr (.inr ⟨hb2, (if_neg hb).trans (if_pos hb2)⟩)
        · exact .inl ((if_neg hb).trans (if_neg hb2))
    · by_cases hb : b = a
      · have z' := (if_pos hb).symm.trans z
        cases z'
        subst hb
        exact ⟨ha, by rw [List.length_map]; exact hl, vs, _, rv, ha⟩
      · by_cases hb2 : b ∈ tabs
        · have z' := ((if_neg hb).trans (if_pos hb2)).symm.trans z; cases z'; exact okT b hb2
        · have z' := ((if_neg hb).trans (if_neg hb2)).symm.trans z; cases z'
    · by_cases hb : b = a
      · exact .inl hb
      · by_cases hb2 : b ∈ tabs
        · exact .inr hb2
        · exact absurd ((if_neg hb).trans (if_neg hb2)) z
theorem GI {l : PySem.W.OpenLaw} {n k : Nat} {q : Program} {loose : List Str} {XP : (Str → Option Value) → Heap → Prop} {YP : World → Heap → Prop} {d : DefRec} {K : Params → PySem.W.Frag} {CX : World → CXT} {sp : World → Sp} {x : Str} (tabs : List Addr)
    (hn : l.most = some n) (hn2 : n ≤ sizeLine) (hdf : d.params.defaults = []) (hr : mJ k callerA)
    (hY : ∀ (w : World) (h : Heap), YP w h → (K w.params).In h ∧ (∀ p ∈ tabs, h.get? p = some (PySem.W.tabObj #[]) ∧ (K w.params).lookup p = none) ∧ (∀ p ∈ tabs, isCodeTable h p))
    (hA2 : ∀ (w : World) c o p q, (K w.params).lookup c = some o → eE o = some (p, q) → p ∈ tabs)
    (F : ∀ (w : World) (mg : Str → Option Value) (fa : Addr) (h : Heap), (K w.params).In h → h.Ns mainGlobals mg → mg d.name = some (.ref fa) →
      ∃ fd : FuncData, (∀ (s : Shared) (u : Value), BindsTo s fd ⟨[u], []⟩ [(x, u)]) ∧
        ∀ base : Heap, (K w.params).In base → base.Ns mainGlobals mg → bU l.prog w (K w.params) mg base (CX w) k fa fd [x] (sp w))
    (hsp : ∀ (w : World) (H : Hp) (a : Addr) (ns : List Int), ns.length ≤ n → AQ (K w.params) H → SqL (K w.params) H a (ns.map V.int) → sp w [.ref a] H (fun v _ => v = .bl true) fun _ _ _ => False)
    (hCX : ∀ (w : World) (H : Hp) (s : Shared) (e : Value) (s' : Shared), CX w [] H s (fun _ _ _ => False) e s' → False) :
    PySem.W.WalkO q loose XP YP l.row.toRowW d [] (fun f vs => PySem.call f vs) := by
  refine Att.BL hn hdf fun w s₀ s₁ mg mb fa o pm cd doc a vs ns G Y ho hd hcd hmg hobj hints hlen hg => ?_
  obtain ⟨KX, hT, hC⟩ := hY w _ Y
  obtain ⟨fd, hb, hF⟩ := F w mg fa _ KX G.T.g hmg
  exact E5 tabs hT (hA2 w) hC KX G.T.g G.T.b G.T.builtins G.T.nolimit hg hobj hints (Nat.le_trans hlen hn2) hr hF hb (fun H hO hS => hsp w H a ns hlen hO hS) fun H e s' => hCX w H s₁ e s'
end L2
namespace L2.DL
open PySem PySem.Spec PyProof.Rows
theorem JM {K : PySem.W.Frag} {l : List (Addr × Str)} (h : (K.filterMap fun p => eE p.2) = l) {c : Addr} {o : Obj} {P : Addr} {q : Str} (e : K.lookup c = some o) (e2 : eE o = some (P, q)) : (P, q) ∈ l := by
  rw [← h]
  have mem : ∀ (L : List (Addr × Obj)), List.lookup c L = some o → (c, o) ∈ L := fun L => by
    induction L with
    | nil => intro z; cases z
    | cons a r ih =>
      intro z
      rw [List.lookup_cons] at z
      by_cases y : c = a.1
      · rw [y] at z ⊢; simp at z; rw [← z]; exact List.mem_cons_self
      · rw [show (c == a.1) = false from by simpa using y] at z
        exact List.mem_cons_of_mem _ (ih z)
  exact List.mem_filterMap.mpr ⟨(c, o), mem K e, e2⟩
theorem Fs {K : PySem.W.Frag} {h : Heap} {c P : Addr} {o : Obj} {q : Str} (X : K.In h) (l : K.lookup c = some o) (e : eE o = some (P, q)) : isCodeTable h P := by
  have ho := X _ _ l
  unfold eE at e
  split at e
  · rename_i cn vs hcls hd
    split at e
    · rename_i hcn
      subst hcn
      split at e
      · rename_i e11 e18
        split at e
        · cases e
          exact ⟨c, o, vs, ho, hcls, hd, by assumption⟩
        · cases e
      · cases e
    · cases e
  · cases e
theorem Jg {K : PySem.W.Frag} {c P : Addr} {q : Str} (h : (K.lookup c).bind eE = some (P, q)) : ∃ o, K.lookup c = some o ∧ eE o = some (P, q) := Option.bind_eq_some_iff.mp h
theorem Eh {K T : PySem.W.Frag} {h : Heap} (X : PySem.W.Frag.In (K ++ T) h) : K.In h := fun b o e => X b o (by
  show List.lookup b (K ++ T) = some o
  rw [List.lookup_append, show List.lookup b K = some o from e]; rfl)
open PySem PySem.Spec PyProof.Rows
section
end
open PySem PySem.Spec PyProof.Rows
section
variable {X : Cx} {a b e : Expr} {es : List Expr} {ta tb te : DTE} {t : DTA} {p pos : Pos} {x : Str} {bid T : String}
end
open PySem PySem.Spec PyProof.Rows
section
variable {X : Cx} {es : List Expr} {x1 : Nat} {tpos : Pos}
end
open PySem PySem.Spec PyProof.Rows
section
variable {X : Cx} {e : Expr} {te : DTE} {p p2 pos pos2 : Pos}
end
open PySem PySem.Spec PyProof.Rows
def QT (ds : List D) : PQ := fun K u μ H => ∃ a us, u = .ref a ∧ H a = some (.tup us) ∧ kP K μ H ds us
section
variable {X : Cx} {pins : List (Addr × Obj)} {σ : St} {H : Hp} {s : Shared}
end
section
variable {K : PySem.W.Frag} {μ : Mu} {H : Hp} {a : Addr} {us : List V} {ds : List D}
end
section
variable {X : Cx} {es : List Expr} {t : DTA} {pos : Pos}
end
open PySem PySem.Spec PyProof.Rows
open PySem PySem.Spec PyProof.Rows
open PySem PySem.Spec PyProof.Rows
def wu (k : Int) : List Int → Option Nat
  | [] => none
  | x :: r => if x = k then some 0 else (wu k r).map (· + 1)
theorem wd : ∀ {is : List Int} {its : List Value}, Vals (is.map V.int) its → PySem.W.kf_ints its = true
  | [], _, .nil => rfl
  | i :: is, _, .cons r rs => by
    obtain ⟨t, rfl⟩ := r
    unfold PySem.W.kf_ints
    exact wd rs
theorem Bs {k : Int} : ∀ {is : List Int} {its : List Value} {j : Nat}, Vals (is.map V.int) its → wu k is = some j → PySem.W.kf_at k its = some j
  | [], _, _, .nil, h => by cases h
  | i :: is, _, j, .cons r rs, h => by
    obtain ⟨t, rfl⟩ := r
    unfold wu at h
    unfold PySem.W.kf_at
    by_cases e : i = k
    · rw [if_pos e] at h
      cases h
      have : isInt k (.int i t) = true := by rw [e]; simp [isInt]
      rw [this]
      rfl
    · rw [if_neg e] at h
      have : isInt k (.int i t) = false := by simp [isInt]; exact e
      rw [this]
      cases q : wu k is with
      | none => rw [q] at h; cases h
      | some z =>
        rw [q] at h
        cases h
        have := Bs rs q
        rw [this]
        rfl
def Ln : V → List V → Hp → VK → Prop := fun x vs H Q => ∃ l is k j, x = .ref l ∧ vs = [.int k] ∧ H l = some (.lst (is.map V.int)) ∧ wu k is = some j ∧ Q (.int (j : Nat)) H
theorem GC {X : Cx} : MtR X "list.index" Ln := by
  intro pins s σ H x vs v us Q I rx rv h
  obtain ⟨l, is, k, j, rfl, rfl, hH, hj, q⟩ := h
  cases rx
  obtain ⟨u, rfl, ru⟩ := rv.one
  obtain ⟨t, rfl⟩ := ru
  obtain ⟨z, its, n, r, hl, e⟩ := I.Fl hH
  have a := wd r
  have b := Bs r hj
  obtain ⟨c1, c2, c3⟩ := PySem.W.kf_at_spec b
  have hz : its.length ≤ sizeLine := by rw [← r.length]; exact z
  rw [sizeLine_eq] at hz
  refine call_meets PySem.F.slot_list_index ⟨_, e, rfl⟩ PySem.F.entry_list_index (PySem.F.args_list_index_2 _ _)
    (MeetsSeq.list_index l its.toArray n (.int k t) (isInt k) (fun y hy => PySem.W.kf_eq a y (by simpa using hy)) j (by simpa using c1) (by omega) (by simpa using c2) (fun i hi hlt => by simpa using c3 i (by simpa using hi) hlt)) ⟨e, ?_⟩
  exact ⟨.int j, H, I.tok _, ⟨_, rfl⟩, q⟩
section
variable {X : Cx} {o e : Expr} {to te : DTE} {apos cpos : Pos}
def zm (to te : DTE) : DTE := fun ρ μ Q => to ρ μ fun x μ1 => match x with
  | .v (.list xs) => te ρ μ1 fun y μ2 => (match y with
    | .v (.int k) => ∃ is j, xs = is.map PyData.int ∧ wu k is = some j ∧ Q (.v (.int (j : Nat))) μ2
    | _ => False)
  | _ => False
theorem DZ {to te : DTE} {ρ : Rho} {μ : Mu} {Q : DK} : zm to te ρ μ Q = to ρ μ fun x μ1 => match x with
  | .v (.list xs) => te ρ μ1 fun y μ2 => (match y with
    | .v (.int k) => ∃ is j, xs = is.map PyData.int ∧ wu k is = some j ∧ Q (.v (.int (j : Nat))) μ2
    | _ => False)
  | _ => False := propext Iff.rfl
theorem A9 {K : PySem.W.Frag} {μ : Mu} {H : Hp} : ∀ {is : List Int} {us : List V}, RpL K μ H (is.map PyData.int) us → us = is.map V.int
  | [], _, .nil => rfl
  | i :: is, _, .cons r rs => by cases r; rw [A9 rs]; rfl
theorem BH (ho : DE X o to) (ha : DE X e te) (hbase : attributeBase o "index" X.env (eval o X.env) = eval o X.env := by rfl)
    (hfew : ((backTo cpos (starEach [e] X.env)).all (fun x => !x.1) && (backToKw cpos (keywordEach [] X.env)).all (fun x => x.1.isSome)
      && decide ([e].length + ([] : List Keyword).length + (if ([] : List Keyword).isEmpty then 0 else 1) < 30)) = true := by rfl)
    (hline : (apos.endLine == cpos.line) = true := by rfl) (hs : starEach [e] X.env = (false, eval e X.env) :: starEach [] X.env := by rfl) (hplain : (backTo cpos (starEach [] X.env)).any (·.1) = false := by rfl) :
    DE X (.Call (.Attribute o "index" apos) [e] [] cpos) (zm to te) := by
  obtain ⟨t1, p1, l1⟩ := ho
  obtain ⟨t2, p2, l2⟩ := ha
  refine ⟨_, La PySem.F.plainAttrs_list PySem.F.slot_list_index PySem.F.type_list_index GC p1 (rJ p2 Am hs) hbase hfew hline hs hplain, fun σ H ρ μ Qd Q S h k => ?_⟩
  refine l1 σ H ρ μ _ _ S h fun x ux μ1 H1 e1 S1 rx h1 => ?_
  split at h1
  · rename_i xs
    cases rx with
    | @list a us _ ha hn ra =>
      refine ⟨.inl ⟨rfl, us, SqL.of ha⟩, l2 σ H1 ρ μ1 _ _ S1 h1 fun y uy μ2 H2 e2 S2 ry h2 => ?_⟩
      split at h2
      · rename_i kk
        obtain ⟨is, j, rfl, hj, h3⟩ := h2
        cases ry
        have ha2 := e2.keep _ _ ha hn trivial
        obtain rfl := A9 ra
        exact ⟨a, is, kk, j, rfl, rfl, ha2, hj, k (.v (.int (j : Nat))) _ μ2 H2 (e1.trans e2) S2 (Rp.int _) h3⟩
      · exact h2.elim
  · exact h1.elim
end
section
variable {X : Cx} {E : XK} {C : Value} {a b : Expr} {tx : DTX} {pos : Pos}
end
section
variable {X : Cx}
def Oy : R2 := fun x y H Q => y = .non ∧ ((x = .non ∧ Q (.bl true) H) ∨ (∃ i, x = .int i ∧ Q (.bl false) H))
theorem D7 : OpR X (compareOp .Is) Oy := by
  intro pins s σ H x y v u Q I rx ry h
  obtain ⟨rfl, ⟨rfl, q⟩ | ⟨i, rfl, q⟩⟩ := h
  · cases rx; cases ry
    exact wpAny_is_plain rfl ⟨.bl true, H, I, rfl, q⟩
  · obtain ⟨t, rfl⟩ := rx
    cases ry
    exact wpAny_is_plain rfl ⟨.bl false, H, I, rfl, q⟩
def yw : D → D → Mu → DK → Prop := fun x y μ Q => match x, y with
  | .v .none, .v .none => Q (.v (.bool true)) μ
  | .v (.int _), .v .none => Q (.v (.bool false)) μ
  | _, _ => False
theorem G7 {K : PySem.W.Frag} : kI K Oy yw := by
  intro x y ux uy H μ Qd Q ok rx ry h k
  unfold yw at h
  split at h
  · cases rx; cases ry; exact ⟨rfl, .inl ⟨rfl, k (.v _) _ μ H .refl ok (Rp.bool _) h⟩⟩
  · cases rx; cases ry; exact ⟨rfl, .inr ⟨_, rfl, k (.v _) _ μ H .refl ok (Rp.bool _) h⟩⟩
  · exact h.elim
theorem Bm {μ : Mu} {Q : DK} : yw (.v .none) (.v .none) μ Q = Q (.v (.bool true)) μ := propext Iff.rfl
theorem D1 {μ : Mu} {Q : DK} {i : Int} : yw (.v (.int i)) (.v .none) μ Q = Q (.v (.bool false)) μ := propext Iff.rfl
end
open PySem PySem.Spec PyProof.Rows
section
variable {X : Cx}
end
end L2.DL
set_option linter.all false
set_option maxRecDepth 100000
set_option maxHeartbeats 1000000
namespace NM
section
variable {d : Int} {x y z k s o : N3} {A B C A' B' C' P Q R E F G : Int}
theorem Rep.conv (h : Rep x A B C) (hc : C' ≠ 0) (e1 : A * C' = A' * C) (e2 : B * C' = B' * C) : Rep x A' B' C' := by
  obtain ⟨h0, h1, h2⟩ := h
  refine ⟨hc, Int.eq_of_mul_eq_mul_right h0 ?_, Int.eq_of_mul_eq_mul_right h0 ?_⟩
  · have : x.a * C' * C = (x.a * C) * C' := by grind
    rw [this, h1]
    have : A * x.c * C' = (A * C') * x.c := by grind
    rw [this, e1]
    grind
  · have : x.b * C' * C = (x.b * C) * C' := by grind
    rw [this, h2]
    have : B * x.c * C' = (B * C') * x.c := by grind
    rw [this, e2]
    grind
theorem wF (h : Rep x A B C) (ox : Ok x) : x.b = 0 ↔ B = 0 := by
  have e := h.b
  constructor
  · intro z
    rw [z, Int.zero_mul] at e
    exact (Int.mul_eq_zero.mp e.symm).resolve_right ox.cn
  · intro z
    rw [z, Int.zero_mul] at e
    exact (Int.mul_eq_zero.mp e).resolve_right h.c
theorem pS {u v : Int} (hv : v ≠ 0) : 0 ≤ u * (v * v) ↔ 0 ≤ u := by
  have h := sq_pos hv
  constructor
  · intro z
    rcases Int.lt_or_le u 0 with w | w
    · have := Int.mul_neg_of_neg_of_pos w h; omega
    · exact w
  · intro z; exact Int.mul_nonneg z (Int.le_of_lt h)
theorem hJ {u v : Int} (hv : 0 < v) : 0 ≤ u * v ↔ 0 ≤ u := by
  constructor
  · intro z
    rcases Int.lt_or_le u 0 with w | w
    · have := Int.mul_neg_of_neg_of_pos w hv; omega
    · exact w
  · intro z; exact Int.mul_nonneg z (Int.le_of_lt hv)
theorem Jo {u v : Int} (hv : v < 0) : 0 ≤ u * v ↔ u ≤ 0 := by
  have := hJ (u := -u) (v := -v) (by omega)
  rw [Int.neg_mul_neg] at this
  omega
def bY (d : Int) (x : N3) : Bool := decide (x.b = 0) && decide (0 ≤ sg d x.a x.b)
theorem sg0 {n : Int} : 0 ≤ sg d n 0 ↔ 0 ≤ n := by
  rw [kg]
  split
  · omega
  · split <;> omega
theorem uv (ox : Ok x) (h : Rep x A 0 C) : bY d x = true ↔ 0 ≤ A * C := by
  have hb := (wF h ox).mpr rfl
  unfold bY
  rw [hb]
  simp only [decide_true, Bool.true_and, decide_eq_true_eq, sg0]
  have e := h.a
  rw [← hJ ox.c, ← pS (u := x.a * x.c) h.c]
  have e2 : x.a * x.c * (C * C) = (A * C) * (x.c * x.c) := by
    have : x.a * x.c * (C * C) = (x.a * C) * (x.c * C) := by grind
    rw [this, e]; grind
  rw [e2, pS ox.cn]
def shA (d : Int) (k s : N3) : N3 := times d s (av d k)
def prt (d : Int) (k : N3) : N3 := times d (av d k) (av d k)
def shV (d : Int) (k s : N3) : N3 := low ((shA d k s).b * (prt d k).c) 0 ((shA d k s).c * (prt d k).b)
def shU (d : Int) (k s : N3) : N3 := less (shA d k s) (times d (shV d k s) (prt d k))
def qK (d : Int) (k s : N3) : N3 := if (times d k k).b = 0 then shA d k s else shU d k s
def qf (d : Int) (k s : N3) : N3 := if (times d k k).b = 0 then ax else shV d k s
def dZ (d : Int) (k s : N3) : Bool := bY d (qK d k s) && bY d (qf d k s)
theorem NF {a b c : Int} (hc : c ≠ 0) : (low a b c).b = 0 ↔ b = 0 := wF (jq hc) (i8 _ _ hc)
theorem fN (ok : Ok k) : (times d k k).b = 0 ↔ k.a * k.b = 0 := by
  unfold times
  rw [NF (si ok ok)]
  have : k.a * k.b + k.b * k.a = 2 * (k.a * k.b) := by grind
  omega
theorem Ei (ok : Ok k) (hn : norm d k ≠ 0) (rk : Rep k P Q R) : P * P - d * Q * Q ≠ 0 := fun z => by
  have h := rk.norm (d := d)
  rw [z, Int.zero_mul] at h
  rcases Int.mul_eq_zero.mp h with w | w
  · exact hn w
  · rcases Int.mul_eq_zero.mp w with w | w <;> exact rk.c w
theorem fH (os : Ok s) (hn : norm d k ≠ 0) : Ok (shA d k s) := ai os (az hn)
theorem vE (hn : norm d k ≠ 0) : Ok (prt d k) := ai (az hn) (az hn)
theorem vV (ok : Ok k) (os : Ok s) (hn : norm d k ≠ 0) (rk : Rep k P Q R) (rs : Rep s E F G) : Rep (shA d k s) (R * (E * P - d * F * Q)) (R * (F * P - E * Q)) (G * (P * P - d * Q * Q)) :=
  (Rep.times os (az hn) rs (rk.av ok hn)).congr (by grind) (by grind) rfl
theorem Hs (ok : Ok k) (hn : norm d k ≠ 0) (rk : Rep k P Q R) : Rep (prt d k) (R * R * (P * P + d * Q * Q)) (-(2 * (R * R * (P * Q)))) ((P * P - d * Q * Q) * (P * P - d * Q * Q)) :=
  (Rep.times (az hn) (az hn) (rk.av ok hn) (rk.av ok hn)).congr (by grind) (by grind) rfl
theorem AM (ok : Ok k) (hn : norm d k ≠ 0) (rk : Rep k P Q R) (hab : P * Q ≠ 0) : (prt d k).b ≠ 0 := fun z => by
  have := (wF (Hs ok hn rk) (vE hn)).mp z
  have h2 : R * R * (P * Q) = 0 := by omega
  exact (Int.mul_ne_zero (Int.mul_ne_zero rk.c rk.c) hab) h2
theorem IB (ok : Ok k) (rk : Rep k P Q R) : P * Q = 0 ↔ k.a * k.b = 0 := by
  have e : (k.a * k.b) * (R * R) = (P * Q) * (k.c * k.c) := by
    have h1 := rk.a
    have h2 := rk.b
    have : (k.a * k.b) * (R * R) = (k.a * R) * (k.b * R) := by grind
    rw [this, h1, h2]; grind
  constructor
  · intro z
    rw [z, Int.zero_mul] at e
    exact (Int.mul_eq_zero.mp e).resolve_right (Int.mul_ne_zero rk.c rk.c)
  · intro z
    rw [z, Int.zero_mul] at e
    exact (Int.mul_eq_zero.mp e.symm).resolve_right (Int.mul_ne_zero ok.cn ok.cn)
theorem vv {wb wc pb pc r D g M N : Int} (e1 : wb * (g * N) = r * D * wc) (e2 : pb * (N * N) = -(2 * (r * r * M)) * pc) (hK : g * N * (N * N) ≠ 0) : wb * pc * (2 * (g * r * M)) = N * -D * (wc * pb) := by
  apply Int.eq_of_mul_eq_mul_right hK
  have a1 : wb * pc * (2 * (g * r * M)) * (g * N * (N * N)) = (wb * (g * N)) * (pc * (2 * (g * r * M)) * (N * N)) := by grind
  have a2 : N * -D * (wc * pb) * (g * N * (N * N)) = (N * -D * wc * (g * N)) * (pb * (N * N)) := by grind
  rw [a1, a2, e1, e2]
  grind
theorem By (ok : Ok k) (os : Ok s) (hn : norm d k ≠ 0) (rk : Rep k P Q R) (rs : Rep s E F G) (hab : P * Q ≠ 0) : Rep (shV d k s) ((P * P - d * Q * Q) * (E * Q - F * P)) 0 (2 * (G * R * (P * Q))) := by
  have ra := vV ok os hn rk rs
  have rp := Hs ok hn rk
  have hN := Ei ok hn rk
  have h1 := ra.b
  have h2 := rp.b
  have hc : (shA d k s).c * (prt d k).b ≠ 0 := Int.mul_ne_zero (fH os hn).cn (AM ok hn rk hab)
  have h0 := jq (a := (shA d k s).b * (prt d k).c) (b := 0) hc
  have hC : 2 * (G * R * (P * Q)) ≠ 0 := Int.mul_ne_zero (by decide) (Int.mul_ne_zero (Int.mul_ne_zero rs.c rk.c) hab)
  refine Rep.conv h0 hC ?_ (by simp)
  have := vv h1 h2 (Int.mul_ne_zero (Int.mul_ne_zero rs.c hN) (Int.mul_ne_zero hN hN))
  rw [this]
  grind
theorem uo (ok : Ok k) (os : Ok s) (hn : norm d k ≠ 0) (hab : k.a * k.b ≠ 0) : Ok (shV d k s) := i8 _ _ (Int.mul_ne_zero (fH os hn).cn (AM ok hn (ao ok) hab))
theorem uu {e f g p q r d N : Int} (hN : N = p * p - d * q * q) : (r * (e * p - d * f * q) * (2 * (g * (p * q) * N)) - r * (e * q - f * p) * (p * p + d * q * q) * (g * N)) * (2 * (g * (p * q))) = r * (e * q + f * p) * (g * N * (2 * (g * (p * q) * N))) := by
  have key : (e * p - d * f * q) * (2 * (p * q)) - (e * q - f * p) * (p * p + d * q * q) = (e * q + f * p) * N := by subst hN; grind
  have : (r * (e * p - d * f * q) * (2 * (g * (p * q) * N)) - r * (e * q - f * p) * (p * p + d * q * q) * (g * N)) = r * g * N * ((e * p - d * f * q) * (2 * (p * q)) - (e * q - f * p) * (p * p + d * q * q)) := by grind
  rw [this, key]
  grind
theorem EI (ok : Ok k) (os : Ok s) (hn : norm d k ≠ 0) (rk : Rep k P Q R) (rs : Rep s E F G) (hab : P * Q ≠ 0) : Rep (shU d k s) (R * (E * Q + F * P)) 0 (2 * (G * (P * Q))) := by
  have ra := vV ok os hn rk rs
  have rp := Hs ok hn rk
  have rv := By ok os hn rk rs hab
  have hN := Ei ok hn rk
  have hab' : k.a * k.b ≠ 0 := fun z => hab ((IB ok rk).mpr z)
  have oa := fH (s := s) os hn
  have op := vE (k := k) hn
  have ov := uo ok os hn hab'
  have rt := Rep.times (d := d) ov op rv rp
  generalize hM : P * P - d * Q * Q = N at *
  have hC2 : 2 * (G * (P * Q) * N) ≠ 0 := Int.mul_ne_zero (by decide) (Int.mul_ne_zero (Int.mul_ne_zero rs.c hab) hN)
  have rt2 : Rep (times d (shV d k s) (prt d k)) (R * (E * Q - F * P) * (P * P + d * Q * Q)) (-(2 * (R * (E * Q - F * P) * (P * Q)))) (2 * (G * (P * Q) * N)) := by
    refine rt.conv hC2 ?_ ?_
    · generalize E * Q - F * P = T
      generalize P * P + d * Q * Q = S
      generalize P * Q = M
      grind
    · generalize E * Q - F * P = T
      generalize P * P + d * Q * Q = S
      generalize P * Q = M
      grind
  have rl := Rep.less oa (ai ov op) ra rt2
  have hC : 2 * (G * (P * Q)) ≠ 0 := Int.mul_ne_zero (by decide) (Int.mul_ne_zero rs.c hab)
  refine rl.conv hC ?_ ?_
  · exact uu hM.symm
  · rw [Int.zero_mul]
    have : R * (F * P - E * Q) * (2 * (G * (P * Q) * N)) - -(2 * (R * (E * Q - F * P) * (P * Q))) * (G * N) = 0 := by grind
    rw [this, Int.zero_mul]
end
end NM
set_option linter.all false
set_option maxRecDepth 100000
set_option maxHeartbeats 4000000
namespace NM
section
variable {d : Int} {x y z : N3}
theorem ry1 (d a b a' b' p q : Int) (h1 : a' * p = a * q) (h2 : b' * p = b * q ∨ b' * p = -b * q) : (a' * a' - d * b' * b') * (p * p) = (a * a - d * b * b) * (q * q) := by
  have e1 : a' * a' * (p * p) = a * a * (q * q) := by
    have : (a' * p) * (a' * p) = (a * q) * (a * q) := by rw [h1]
    grind
  have e2 : b' * b' * (p * p) = b * b * (q * q) := by
    have : (b' * p) * (b' * p) = (b * q) * (b * q) := by
      rcases h2 with h | h <;> rw [h] <;> grind
    grind
  have : (a' * a' - d * b' * b') * (p * p) = a' * a' * (p * p) - d * (b' * b' * (p * p)) := by grind
  rw [this, e1, e2]
  grind
theorem NO (ox : Ok x) (hn : norm d x ≠ 0) : (av d x).a * norm d x = x.a * (x.c * (av d x).c) := by
  have := ((ao ox).av ox hn).a
  have e : x.a * x.a - d * x.b * x.b = norm d x := rfl
  rw [e] at this
  rw [this]; grind
theorem Ov (ox : Ok x) (hn : norm d x ≠ 0) : (av d x).b * norm d x = -x.b * (x.c * (av d x).c) := by
  have := ((ao ox).av ox hn).b
  have e : x.a * x.a - d * x.b * x.b = norm d x := rfl
  rw [e] at this
  rw [this]; grind
section
variable {f : N3}
theorem rA (h : 0 < f.a) (fb : f.b = 0) : sg d f.a f.b = 1 := by rw [fb, kg, if_neg (by omega), if_pos h]
end
end
end NM
set_option linter.all false
set_option maxRecDepth 100000
set_option maxHeartbeats 4000000
namespace NM
def Ht (d : Int) (n : Nat) (x : N3) : Prop := ∃ a b e f : Int, Sz n a ∧ Sz n b ∧ Sz n e ∧ Sz n f ∧ e * e - d * f * f ≠ 0 ∧ x.a * e + d * x.b * f = a * x.c ∧ x.a * f + x.b * e = b * x.c
section
variable {d : Int} {n m : Nat} {x y : N3}
theorem Ht.mono (h : Ht d n x) (l : n ≤ m) : Ht d m x := by
  obtain ⟨a, b, e, f, h1, h2, h3, h4, r⟩ := h
  exact ⟨a, b, e, f, h1.mono l, h2.mono l, h3.mono l, h4.mono l, r⟩
theorem sz0 : Sz n 0 := Sz.of (by simp; exact Nat.pos_of_ne_zero (by simp))
end
end NM
set_option linter.all false
set_option maxRecDepth 100000
set_option maxHeartbeats 4000000
namespace NM
section
variable {d : Int} {x y z : N3}
def gtL (d : Int) (k o : N3) : Prop := ((dF d o).a.natAbs : Int) * (dF d k).c < ((dF d k).a.natAbs : Int) * (dF d o).c
instance : Decidable (gtL d x y) := by unfold gtL; infer_instance
theorem lt3 {a b c p q r : Int} (hp : 0 < p) (hq : 0 < q) (hr : 0 < r) (h1 : a * q ≤ b * p) (h2 : b * r < c * q) : a * r < c * p := by
  refine Int.lt_of_mul_lt_mul_right (a := q) ?_ (Int.le_of_lt hq)
  have e1 : a * q * r ≤ b * p * r := Int.mul_le_mul_of_nonneg_right h1 (Int.le_of_lt hr)
  have e2 : b * r * p < c * q * p := Int.mul_lt_mul_of_pos_right h2 hp
  have f1 : a * r * q = a * q * r := by grind
  have f2 : c * p * q = c * q * p := by grind
  have f3 : b * p * r = b * r * p := by grind
  omega
theorem gt_trans (cx : 0 < (dF d x).c) (cy : 0 < (dF d y).c) (cz : 0 < (dF d z).c) (h1 : ¬ gtL d y z) (h2 : gtL d x z) : gtL d x y := by
  unfold gtL at *
  exact lt3 cy cz cx (Int.not_lt.mp h1) h2
theorem Ir : ¬ gtL d x x := by unfold gtL; omega
def dE (d : Int) (ks : List N3) : Nat → Nat
  | 0 => 0
  | n + 1 => if gtL d (ks.getD (n + 1) ax) (ks.getD (dE d ks n) ax) then n + 1 else dE d ks n
theorem oU {ks : List N3} (hc : ∀ i, i < ks.length → 0 < (dF d (ks.getD i ax)).c) : ∀ n, n < ks.length → dE d ks n ≤ n ∧ (∀ j, j ≤ n → ¬ gtL d (ks.getD j ax) (ks.getD (dE d ks n) ax)) ∧ (∀ j, j < dE d ks n → gtL d (ks.getD (dE d ks n) ax) (ks.getD j ax))
  | 0, h => ⟨Nat.le_refl _, fun j hj => by cases Nat.le_zero.mp hj; exact Ir, fun j hj => absurd hj (by unfold dE; omega)⟩
  | n + 1, h => by
    obtain ⟨h1, h2, h3⟩ := oU hc n (by omega)
    unfold dE
    by_cases g : gtL d (ks.getD (n + 1) ax) (ks.getD (dE d ks n) ax)
    · rw [if_pos g]
      have all : ∀ j, j ≤ n → gtL d (ks.getD (n + 1) ax) (ks.getD j ax) := fun j hj => gt_trans (hc _ h) (hc _ (by omega)) (hc _ (by omega)) (h2 j hj) g
      refine ⟨Nat.le_refl _, fun j hj => ?_, fun j hj => all j (by omega)⟩
      by_cases e : j = n + 1
      · subst e; exact Ir
      · have := all j (by omega)
        unfold gtL at this ⊢
        omega
    · rw [if_neg g]
      refine ⟨by omega, fun j hj => ?_, h3⟩
      by_cases e : j = n + 1
      · subst e; exact g
      · exact h2 j (by omega)
end
end NM
set_option linter.all false
set_option maxRecDepth 100000
set_option maxHeartbeats 400000
namespace NM
section
variable {d : Int} {x y z k s o f : N3}
def Lay (d : Int) (k s : N3) : Prop := (0 < norm d k ∧ 0 < norm d s ∧ s.b * s.b * (k.a * k.a) ≤ s.a * s.a * (k.b * k.b)) ∨ (norm d k < 0 ∧ norm d s < 0 ∧ s.a * s.a * (k.b * k.b) ≤ s.b * s.b * (k.a * k.a))
theorem GL {u v : Int} (hv : 0 ≤ v) (h : u * u ≤ v * v) : 0 ≤ v + u ∧ 0 ≤ v - u := by
  rcases Int.lt_or_le u 0 with w | w
  · have := DU (u := -u) (v := v) (by omega) (by rw [Int.neg_mul_neg]; exact h) hv
    omega
  · have := DU w h hv
    omega
theorem ly1 {d P Q E F : Int} (hd : 0 < d) (hQ : Q ≠ 0) (hP : P ≠ 0) (hN : d * Q * Q < P * P) (h1 : 0 ≤ (E * Q + F * P) * (P * Q)) (h2 : 0 ≤ (E * Q - F * P) * (P * Q)) : F * F * (P * P) ≤ E * E * (Q * Q) ∧ d * F * F ≤ E * E := by
  have h := Int.mul_nonneg h1 h2
  have e : (E * Q + F * P) * (P * Q) * ((E * Q - F * P) * (P * Q)) = (E * E * (Q * Q) - F * F * (P * P)) * ((P * Q) * (P * Q)) := by grind
  rw [e, pS (Int.mul_ne_zero hP hQ)] at h
  refine ⟨by omega, ?_⟩
  have h3 : 0 ≤ (P * P - d * Q * Q) * (F * F) := Int.mul_nonneg (by omega) (sq_nonneg F)
  have e2 : (P * P - d * Q * Q) * (F * F) = F * F * (P * P) - d * F * F * (Q * Q) := by grind
  have h4 : 0 ≤ (E * E - d * F * F) * (Q * Q) := by
    have : (E * E - d * F * F) * (Q * Q) = E * E * (Q * Q) - d * F * F * (Q * Q) := by grind
    rw [this]; omega
  rw [pS hQ] at h4
  omega
theorem ly2 {P Q E F : Int} (hP : 0 < P) (hE : 0 ≤ E) (h : F * F * (P * P) ≤ E * E * (Q * Q)) : 0 ≤ (E * Q + F * P) * (P * Q) ∧ 0 ≤ (E * Q - F * P) * (P * Q) := by
  have hX : 0 ≤ E * P * (Q * Q) := Int.mul_nonneg (Int.mul_nonneg hE (by omega)) (sq_nonneg Q)
  have hs : (F * (P * P) * Q) * (F * (P * P) * Q) ≤ (E * P * (Q * Q)) * (E * P * (Q * Q)) := by
    have h1 := Int.mul_nonneg (show 0 ≤ E * E * (Q * Q) - F * F * (P * P) by omega) (sq_nonneg (P * Q))
    have e1 : (E * E * (Q * Q) - F * F * (P * P)) * (P * Q * (P * Q)) = (E * P * (Q * Q)) * (E * P * (Q * Q)) - (F * (P * P) * Q) * (F * (P * P) * Q) := by grind
    omega
  obtain ⟨a1, a2⟩ := GL hX hs
  have e1 : (E * Q + F * P) * (P * Q) = E * P * (Q * Q) + F * (P * P) * Q := by grind
  have e2 : (E * Q - F * P) * (P * Q) = E * P * (Q * Q) - F * (P * P) * Q := by grind
  rw [e1, e2]
  exact ⟨a1, a2⟩
theorem ly3 {d P Q E F : Int} (hd : 0 < d) (hQ : Q ≠ 0) (hP : P ≠ 0) (hN : P * P < d * Q * Q) (h1 : 0 ≤ (E * Q + F * P) * (P * Q)) (h2 : (E * Q - F * P) * (P * Q) ≤ 0) : E * E * (Q * Q) ≤ F * F * (P * P) ∧ E * E ≤ d * F * F := by
  have h := Int.mul_nonneg h1 (show 0 ≤ -((E * Q - F * P) * (P * Q)) by omega)
  have e : (E * Q + F * P) * (P * Q) * -((E * Q - F * P) * (P * Q)) = (F * F * (P * P) - E * E * (Q * Q)) * ((P * Q) * (P * Q)) := by grind
  rw [e, pS (Int.mul_ne_zero hP hQ)] at h
  refine ⟨by omega, ?_⟩
  have h3 : 0 ≤ (d * Q * Q - P * P) * (F * F) := Int.mul_nonneg (by omega) (sq_nonneg F)
  have e2 : (d * Q * Q - P * P) * (F * F) = d * F * F * (Q * Q) - F * F * (P * P) := by grind
  have h4 : 0 ≤ (d * F * F - E * E) * (Q * Q) := by
    have : (d * F * F - E * E) * (Q * Q) = d * F * F * (Q * Q) - E * E * (Q * Q) := by grind
    rw [this]; omega
  rw [pS hQ] at h4
  omega
theorem ly4 {P Q E F : Int} (hQ : 0 < Q) (hF : 0 ≤ F) (h : E * E * (Q * Q) ≤ F * F * (P * P)) : 0 ≤ (E * Q + F * P) * (P * Q) ∧ (E * Q - F * P) * (P * Q) ≤ 0 := by
  have hY : 0 ≤ F * (P * P) * Q := Int.mul_nonneg (Int.mul_nonneg hF (sq_nonneg P)) (by omega)
  have hs : (E * P * (Q * Q)) * (E * P * (Q * Q)) ≤ (F * (P * P) * Q) * (F * (P * P) * Q) := by
    have h1 := Int.mul_nonneg (show 0 ≤ F * F * (P * P) - E * E * (Q * Q) by omega) (sq_nonneg (P * Q))
    have e1 : (F * F * (P * P) - E * E * (Q * Q)) * (P * Q * (P * Q)) = (F * (P * P) * Q) * (F * (P * P) * Q) - (E * P * (Q * Q)) * (E * P * (Q * Q)) := by grind
    omega
  obtain ⟨a1, a2⟩ := GL hY hs
  have e1 : (E * Q + F * P) * (P * Q) = F * (P * P) * Q + E * P * (Q * Q) := by grind
  have e2 : (E * Q - F * P) * (P * Q) = -(F * (P * P) * Q - E * P * (Q * Q)) := by grind
  rw [e1, e2]
  exact ⟨a1, by omega⟩
theorem KZ (hd : ay d) (hs : sg d s.a s.b = 1) (hn : 0 < norm d s) : 0 < s.a := by
  have h : d * s.b * s.b < s.a * s.a := by have : norm d s = s.a * s.a - d * s.b * s.b := rfl; omega
  exact (mC hd h).mp ((ja hd).mp hs)
theorem Li (hd : ay d) (hs : sg d s.a s.b = 1) (hn : norm d s < 0) : 0 < s.b := by
  have h : s.a * s.a < d * s.b * s.b := by have : norm d s = s.a * s.a - d * s.b * s.b := rfl; omega
  exact (kn hd h).mp ((ja hd).mp hs)
theorem zg : bY d ax = true := by
  unfold bY
  rw [show ax.b = 0 from rfl, show ax.a = 0 from rfl, show sg d 0 0 = 0 from dI.mpr ⟨rfl, rfl⟩]
  rfl
theorem sgA (hd : ay d) (ok : Ok k) (os : Ok s) (hk : sg d k.a k.b = 1) (hs : sg d s.a s.b = 1) : sg d (shA d k s).a (shA d k s).b = 1 := by
  have hn := aJ hd ok hk
  unfold shA
  rw [bH hd os (az hn), hs, dY hd ok hk]
  rfl
theorem G5 (hd : ay d) (ok : Ok k) (os : Ok s) (hk : sg d k.a k.b = 1) (hs : sg d s.a s.b = 1) (hl : k.a * k.b = 0) : dZ d k s = true ↔ s.b * k.a = s.a * k.b := by
  have hn := aJ hd ok hk
  unfold dZ qK qf
  rw [if_pos ((fN ok).mpr hl), if_pos ((fN ok).mpr hl), zg, Bool.and_true]
  unfold bY
  rw [sgA hd ok os hk hs]
  simp only [show decide ((0 : Int) ≤ 1) = true from rfl, Bool.and_true, decide_eq_true_eq]
  rw [wF (vV ok os hn (ao ok) (ao os)) (fH os hn)]
  constructor
  · intro h
    have := (Int.mul_eq_zero.mp h).resolve_left ok.cn
    omega
  · intro h
    rw [show s.b * k.a - s.a * k.b = 0 by omega, Int.mul_zero]
theorem Kl (hd : ay d) (ok : Ok k) (os : Ok s) (hk : sg d k.a k.b = 1) (hl : k.a * k.b ≠ 0) : dZ d k s = true ↔ 0 ≤ (s.a * k.b + s.b * k.a) * (k.a * k.b) ∧ 0 ≤ norm d k * ((s.a * k.b - s.b * k.a) * (k.a * k.b)) := by
  have hn := aJ hd ok hk
  have hl' : ¬ (times d k k).b = 0 := fun z => hl ((fN ok).mp z)
  unfold dZ qK qf
  rw [if_neg hl', if_neg hl', Bool.and_eq_true]
  have ru := EI ok os hn (ao ok) (ao os) hl
  have rv := By ok os hn (ao ok) (ao os) hl
  have ou : Ok (shU d k s) := kB (fH os hn) (ai (uo ok os hn hl) (vE hn))
  rw [uv ou ru, uv (uo ok os hn hl) rv]
  have hc := ok.c
  have hg := os.c
  have e1 : k.c * (s.a * k.b + s.b * k.a) * (2 * (s.c * (k.a * k.b))) = (s.a * k.b + s.b * k.a) * (k.a * k.b) * (2 * (k.c * s.c)) := by grind
  have e2 : (k.a * k.a - d * k.b * k.b) * (s.a * k.b - s.b * k.a) * (2 * (s.c * k.c * (k.a * k.b))) = norm d k * ((s.a * k.b - s.b * k.a) * (k.a * k.b)) * (2 * (k.c * s.c)) := by
    show norm d k * _ * _ = _
    grind
  have hp : 0 < 2 * (k.c * s.c) := Int.mul_pos (by decide) (Int.mul_pos hc hg)
  rw [e1, e2, hJ hp, hJ hp]
theorem zW (hd : ay d) (ok : Ok k) (os : Ok s) (hk : sg d k.a k.b = 1) (hs : sg d s.a s.b = 1) : dZ d k s = true ↔ Lay d k s := by
  have hn := aJ hd ok hk
  have hm := aJ hd os hs
  have d0 : 0 < d := by have := hd.1; omega
  have nk : norm d k = k.a * k.a - d * k.b * k.b := rfl
  have ns : norm d s = s.a * s.a - d * s.b * s.b := rfl
  by_cases hl : k.a * k.b = 0
  · rw [G5 hd ok os hk hs hl]
    rcases Int.mul_eq_zero.mp hl with h0 | h0
    · have kb : k.b ≠ 0 := fun z => by rw [h0, z] at nk; simp at nk; exact hn nk
      have n1 : norm d k < 0 := by
        have := Int.mul_pos d0 (sq_pos kb)
        rw [nk, h0, Int.mul_assoc]; simp; omega
      rw [h0, Int.mul_zero]
      constructor
      · intro h
        have hE : s.a = 0 := (Int.mul_eq_zero.mp h.symm).resolve_right kb
        have sb : s.b ≠ 0 := fun z => by rw [hE, z] at ns; simp at ns; exact hm ns
        refine .inr ⟨n1, ?_, ?_⟩
        · have := Int.mul_pos d0 (sq_pos sb)
          rw [ns, hE, Int.mul_assoc]; simp; omega
        · rw [hE]; simp [h0]
      · rintro (⟨z, _⟩ | ⟨_, _, h⟩)
        · omega
        · rw [h0] at h
          simp only [Int.mul_zero] at h
          have h2 := Int.mul_nonneg (sq_nonneg s.a) (sq_nonneg k.b)
          have h3 : s.a * s.a * (k.b * k.b) = 0 := by omega
          have h4 := (Int.mul_eq_zero.mp h3).resolve_right (Int.mul_ne_zero kb kb)
          have h5 : s.a = 0 := by rcases Int.mul_eq_zero.mp h4 with w | w <;> exact w
          rw [h5]; simp
    · have ka : k.a ≠ 0 := fun z => by rw [h0, z] at nk; simp at nk; exact hn nk
      have n1 : 0 < norm d k := by
        have := sq_pos ka
        rw [nk, h0]; simp; omega
      rw [h0, Int.mul_zero]
      constructor
      · intro h
        have hF : s.b = 0 := (Int.mul_eq_zero.mp h).resolve_right ka
        have sa : s.a ≠ 0 := fun z => by rw [hF, z] at ns; simp at ns; exact hm ns
        refine .inl ⟨n1, ?_, ?_⟩
        · have := sq_pos sa
          rw [ns, hF]; simp; omega
        · rw [hF]; simp [h0]
      · rintro (⟨_, _, h⟩ | ⟨z, _⟩)
        · rw [h0] at h
          simp only [Int.mul_zero] at h
          have h2 := Int.mul_nonneg (sq_nonneg s.b) (sq_nonneg k.a)
          have h3 : s.b * s.b * (k.a * k.a) = 0 := by omega
          have h4 := (Int.mul_eq_zero.mp h3).resolve_right (Int.mul_ne_zero ka ka)
          have h5 : s.b = 0 := by rcases Int.mul_eq_zero.mp h4 with w | w <;> exact w
          rw [h5]; simp
        · omega
  · rw [Kl hd ok os hk hl]
    have ka : k.a ≠ 0 := fun z => hl (by rw [z, Int.zero_mul])
    have kb : k.b ≠ 0 := fun z => hl (by rw [z, Int.mul_zero])
    rcases Int.lt_or_le 0 (norm d k) with n1 | n1
    · have hk' := KZ hd hk n1
      rw [show (0 ≤ norm d k * ((s.a * k.b - s.b * k.a) * (k.a * k.b))) ↔ 0 ≤ (s.a * k.b - s.b * k.a) * (k.a * k.b) from by rw [Int.mul_comm]; exact hJ n1]
      constructor
      · rintro ⟨h1, h2⟩
        obtain ⟨a1, a2⟩ := ly1 d0 kb ka (by omega) h1 h2
        exact .inl ⟨n1, by omega, a1⟩
      · rintro (⟨_, n2, h⟩ | ⟨z, _⟩)
        · have := KZ hd hs n2
          exact ly2 hk' (by omega) h
        · omega
    · have n1 : norm d k < 0 := by omega
      have hk' := Li hd hk n1
      rw [show (0 ≤ norm d k * ((s.a * k.b - s.b * k.a) * (k.a * k.b))) ↔ (s.a * k.b - s.b * k.a) * (k.a * k.b) ≤ 0 from by rw [Int.mul_comm]; exact Jo n1]
      constructor
      · rintro ⟨h1, h2⟩
        obtain ⟨a1, a2⟩ := ly3 d0 kb ka (by omega) h1 h2
        exact .inr ⟨n1, by omega, a1⟩
      · rintro (⟨z, _⟩ | ⟨_, n2, h⟩)
        · omega
        · have := Li hd hs n2
          exact ly4 hk' (by omega) h
end
end NM
set_option linter.all false
set_option maxRecDepth 100000
set_option maxHeartbeats 400000
namespace NM
section
variable {d : Int} {x y z k s o f : N3}
structure Ray (d : Int) (s t : N3) : Prop where
  ex : ∃ p q : Int, p ≠ 0 ∧ q ≠ 0 ∧ t.a * p = s.a * q ∧ (t.b * p = s.b * q ∨ t.b * p = -s.b * q)
theorem j8 {t : N3} (h : Ray d s t) : (0 < norm d t ↔ 0 < norm d s) ∧ (norm d t < 0 ↔ norm d s < 0) := by
  obtain ⟨p, q, hp, hq, h1, h2⟩ := h.ex
  have e := ry1 d _ _ _ _ p q h1 h2
  change norm d t * (p * p) = norm d s * (q * q) at e
  have a1 := pS (u := norm d t) hp
  have a2 := pS (u := norm d s) hq
  have b1 := pS (u := -norm d t) hp
  have b2 := pS (u := -norm d s) hq
  rw [Int.neg_mul] at b1 b2
  rw [e] at a1 b1
  omega
theorem Hx {t : N3} (h : Ray d s t) : ∃ p q : Int, 0 < p ∧ 0 < q ∧ t.a * t.a * p = s.a * s.a * q ∧ t.b * t.b * p = s.b * s.b * q := by
  obtain ⟨p, q, hp, hq, h1, h2⟩ := h.ex
  refine ⟨p * p, q * q, sq_pos hp, sq_pos hq, ?_, ?_⟩
  · have : (t.a * p) * (t.a * p) = (s.a * q) * (s.a * q) := by rw [h1]
    grind
  · have : (t.b * p) * (t.b * p) = (s.b * q) * (s.b * q) := by
      rcases h2 with h | h <;> rw [h] <;> grind
    grind
theorem zJ {A B A' B' p q X Y : Int} (hp : 0 < p) (hq : 0 < q) (h1 : A' * p = A * q) (h2 : B' * p = B * q) : (A' * X ≤ B' * Y) ↔ (A * X ≤ B * Y) := by
  have a := hJ (u := B' * Y - A' * X) hp
  have b := hJ (u := B * Y - A * X) hq
  have e : (B' * Y - A' * X) * p = (B * Y - A * X) * q := by
    have : (B' * Y - A' * X) * p = B' * p * Y - A' * p * X := by grind
    rw [this, h1, h2]; grind
  rw [e] at a
  omega
theorem An {t : N3} (h : Ray d s t) : Lay d k t ↔ Lay d k s := by
  obtain ⟨n1, n2⟩ := j8 h
  obtain ⟨p, q, hp, hq, e1, e2⟩ := Hx h
  unfold Lay
  rw [n1, n2, zJ hp hq e2 e1, zJ hp hq e1 e2]
theorem AB {t : N3} (h : Ray d k t) : Lay d t s ↔ Lay d k s := by
  obtain ⟨n1, n2⟩ := j8 h
  obtain ⟨p, q, hp, hq, e1, e2⟩ := Hx h
  unfold Lay
  rw [n1, n2]
  have c1 : ∀ A B : Int, (A * (t.a * t.a) ≤ B * (t.b * t.b)) ↔ (A * (k.a * k.a) ≤ B * (k.b * k.b)) := fun A B => by
    rw [Int.mul_comm A, Int.mul_comm B, Int.mul_comm A, Int.mul_comm B]; exact zJ hp hq e1 e2
  have c2 : ∀ A B : Int, (A * (t.b * t.b) ≤ B * (t.a * t.a)) ↔ (A * (k.b * k.b) ≤ B * (k.a * k.a)) := fun A B => by
    rw [Int.mul_comm A, Int.mul_comm B, Int.mul_comm A, Int.mul_comm B]; exact zJ hp hq e2 e1
  rw [c1, c2]
theorem eX (ox : Ok s) (hn : norm d s ≠ 0) : Ray d s (av d s) :=
  ⟨_, _, hn, Int.mul_ne_zero ox.cn (az hn).cn, NO ox hn, .inr (Ov ox hn)⟩
theorem rT (os : Ok s) (of : Ok f) (fb : f.b = 0) (fa : 0 < f.a) : Ray d s (times d s f) := by
  have r := Rep.times (d := d) os of (ao os) (ao of)
  refine ⟨_, _, r.c, Int.mul_ne_zero (show f.a ≠ 0 by omega) (ai (d := d) os of).cn, ?_, .inl ?_⟩
  · rw [r.a, fb]; grind
  · rw [r.b, fb]; grind
theorem Ft (ok : Ok k) (os : Ok s) (hn : norm d k ≠ 0) : Ok (qK d k s) := by
  unfold qK
  split
  · exact fH os hn
  · rename_i h
    exact kB (fH os hn) (ai (uo ok os hn (fun z => h ((fN ok).mpr z))) (vE hn))
theorem Fo (ok : Ok k) (os : Ok s) (hn : norm d k ≠ 0) : Ok (qf d k s) := by
  unfold qf
  split
  · exact yc
  · rename_i h
    exact uo ok os hn (fun z => h ((fN ok).mpr z))
theorem vY (hl : (times d k k).b = 0) : qK d k s = shA d k s := if_pos hl
theorem vL (hl : (times d k k).b = 0) : qf d k s = ax := if_pos hl
theorem AN (hl : ¬ (times d k k).b = 0) : qK d k s = shU d k s := if_neg hl
theorem BW (hl : ¬ (times d k k).b = 0) : qf d k s = shV d k s := if_neg hl
theorem MP (ok : Ok k) (os : Ok s) (oo : Ok o) (hn : norm d k ≠ 0) : qK d k (plus s o) = plus (qK d k s) (qK d k o) := by
  by_cases hl : (times d k k).b = 0
  · rw [vY hl, vY hl, vY hl]
    have r1 := vV ok (aT os oo) hn (ao ok) (Rep.plus os oo (ao os) (ao oo))
    have r2 := Rep.plus (fH os hn) (fH oo hn) (vV ok os hn (ao ok) (ao os)) (vV ok oo hn (ao ok) (ao oo))
    exact Rep.eq (fH (aT os oo) hn) (aT (fH os hn) (fH oo hn)) r1 r2 (by grind) (by grind)
  · have h' : k.a * k.b ≠ 0 := fun z => hl ((fN ok).mpr z)
    have o1 := Ft (d := d) ok (aT os oo) hn
    have o2 := Ft (d := d) ok os hn
    have o3 := Ft (d := d) ok oo hn
    rw [AN hl] at o1 o2 o3 ⊢
    rw [AN hl, AN hl]
    have r1 := EI ok (aT os oo) hn (ao ok) (Rep.plus os oo (ao os) (ao oo)) h'
    have r2 := Rep.plus o2 o3 (EI ok os hn (ao ok) (ao os) h') (EI ok oo hn (ao ok) (ao oo) h')
    exact Rep.eq o1 (aT o2 o3) r1 r2 (by grind) (by grind)
theorem L8 (ok : Ok k) (os : Ok s) (oo : Ok o) (hn : norm d k ≠ 0) : qf d k (plus s o) = plus (qf d k s) (qf d k o) := by
  by_cases hl : (times d k k).b = 0
  · rw [vL hl, vL hl, vL hl]
    exact (by decide : ax = plus ax ax)
  · have h' : k.a * k.b ≠ 0 := fun z => hl ((fN ok).mpr z)
    have o1 := Fo (d := d) ok (aT os oo) hn
    have o2 := Fo (d := d) ok os hn
    have o3 := Fo (d := d) ok oo hn
    rw [BW hl] at o1 o2 o3 ⊢
    rw [BW hl, BW hl]
    have r1 := By ok (aT os oo) hn (ao ok) (Rep.plus os oo (ao os) (ao oo)) h'
    have r2 := Rep.plus o2 o3 (By ok os hn (ao ok) (ao os) h') (By ok oo hn (ao ok) (ao oo) h')
    exact Rep.eq o1 (aT o2 o3) r1 r2 (by grind) (by grind)
theorem yK (h : bY d x = true) : x.b = 0 := by
  unfold bY at h
  simp only [Bool.and_eq_true, decide_eq_true_eq] at h
  exact h.1
theorem Ey (h : bY d x = true) : 0 ≤ x.a := by
  have hb := yK h
  unfold bY at h
  simp only [Bool.and_eq_true, decide_eq_true_eq] at h
  rw [hb] at h
  exact sg0.mp h.2
theorem vU (ox : Ok x) (oy : Ok y) (hx : bY d x = true) (hy : bY d y = true) : bY d (plus x y) = true := by
  have r := Rep.plus ox oy (ao ox) (ao oy)
  rw [yK hx, yK hy] at r
  simp only [Int.zero_mul, Int.add_zero] at r
  rw [uv (aT ox oy) r]
  have a := Ey hx
  have b := Ey hy
  have c := ox.c
  have c2 := oy.c
  exact Int.mul_nonneg (Int.add_nonneg (Int.mul_nonneg a (by omega)) (Int.mul_nonneg b (by omega))) (Int.mul_nonneg (by omega) (by omega))
theorem Ij (ok : Ok k) (os : Ok s) (oo : Ok o) (hn : norm d k ≠ 0) (h1 : dZ d k s = true) (h2 : dZ d k o = true) : dZ d k (plus s o) = true := by
  unfold dZ at *
  rw [Bool.and_eq_true] at *
  rw [MP ok os oo hn, L8 ok os oo hn]
  exact ⟨vU (Ft ok os hn) (Ft ok oo hn) h1.1 h2.1, vU (Fo ok os hn) (Fo ok oo hn) h1.2 h2.2⟩
end
end NM
set_option Elab.async false
set_option linter.all false
set_option maxHeartbeats 4000000
namespace NM
section
variable {d : Int} {x y z u p q s t w h p' q' s' t' w' h' : N3}
theorem fO : Ok ax := ⟨by decide, by decide⟩
theorem HB : Ok one := ⟨by decide, by decide⟩
theorem Nd (ox : Ok x) : plus x ax = x :=
  ((ao ox).plus ox fO (ao fO)).eq (aT ox fO) ox (ao ox) (by simp only [ax]; grind) (by simp only [ax]; grind)
theorem Nf (ox : Ok x) : plus ax x = x :=
  ((ao fO).plus fO ox (ao ox)).eq (aT fO ox) ox (ao ox) (by simp only [ax]; grind) (by simp only [ax]; grind)
theorem LB (ox : Ok x) : times d one x = x :=
  ((ao HB).times HB ox (ao ox)).eq (ai HB ox) ox (ao ox) (by simp only [one]; grind) (by simp only [one]; grind)
theorem CS (ox : Ok x) : times d ax x = ax :=
  ((ao fO).times fO ox (ao ox)).eq (ai fO ox) fO (ao fO) (by simp only [ax]; grind) (by simp only [ax]; grind)
def hf (d : Int) (p q h : N3) : N3 := plus (times d p h) (times d q (aX h))
end
end NM
set_option linter.all false
set_option maxRecDepth 100000
set_option maxHeartbeats 400000
namespace NM
section
variable {d : Int} {x y z k s o f u v : N3}
theorem CM (ox : Ok x) (oy : Ok y) : times d x y = times d y x :=
  Rep.eq (ai ox oy) (ai oy ox) (Rep.times ox oy (ao ox) (ao oy)) (Rep.times oy ox (ao oy) (ao ox)) (by grind) (by grind)
theorem Jh (ox : Ok x) (oy : Ok y) (oz : Ok z) : times d (times d x y) z = times d x (times d y z) :=
  Rep.eq (ai (ai ox oy) oz) (ai ox (ai oy oz)) (Rep.times (ai ox oy) oz (Rep.times ox oy (ao ox) (ao oy)) (ao oz)) (Rep.times ox (ai oy oz) (ao ox) (Rep.times oy oz (ao oy) (ao oz))) (by grind) (by grind)
theorem LK (ox : Ok x) (oy : Ok y) (oz : Ok z) (ou : Ok u) : times d (times d x y) (times d z u) = times d (times d x z) (times d y u) :=
  Rep.eq (ai (ai ox oy) (ai oz ou)) (ai (ai ox oz) (ai oy ou)) (Rep.times (ai ox oy) (ai oz ou) (Rep.times ox oy (ao ox) (ao oy)) (Rep.times oz ou (ao oz) (ao ou))) (Rep.times (ai ox oz) (ai oy ou) (Rep.times ox oz (ao ox) (ao oz)) (Rep.times oy ou (ao oy) (ao ou))) (by grind) (by grind)
theorem KH (ox : Ok x) : times d x one = x := by rw [CM ox mZ, LB ox]
theorem HQ (hd : ay d) (ox : Ok x) (hn : norm d x ≠ 0) : sg d (av d x).a (av d x).b = sg d x.a x.b := by
  have h := bH hd ox (az hn)
  rw [gM ox hn, vj] at h
  rcases jR d x.a x.b with a | a | a <;> rcases jR d (av d x).a (av d x).b with b | b | b <;> rw [a, b] at h ⊢ <;> exact absurd h (by decide)
theorem rZ {A C : Int} (hd : ay d) (ox : Ok x) (r : Rep x A 0 C) : (sg d x.a x.b = 1 ↔ 0 < A * C) ∧ (sg d x.a x.b = -1 ↔ A * C < 0) := by
  have hC := r.c
  have key : ∀ {A C : Int}, Rep x A 0 C → 0 < C → (sg d x.a x.b = 1 ↔ 0 < A * C) ∧ (sg d x.a x.b = -1 ↔ A * C < 0) := fun {A C} r hC => by
    rw [r.sg hd ox hC, kg]
    have p1 : 0 < A * C ↔ 0 < A := by
      constructor
      · intro h
        rcases Int.lt_trichotomy 0 A with w | w | w
        · exact w
        · rw [← w, Int.zero_mul] at h; omega
        · have := Int.mul_neg_of_neg_of_pos w hC; omega
      · intro h; exact Int.mul_pos h hC
    have p2 : A * C < 0 ↔ A < 0 := by
      constructor
      · intro h
        rcases Int.lt_trichotomy 0 A with w | w | w
        · have := Int.mul_pos w hC; omega
        · rw [← w, Int.zero_mul] at h; omega
        · exact w
      · intro h; exact Int.mul_neg_of_neg_of_pos h hC
    rw [p1, p2]
    split
    · omega
    · split <;> omega
  rcases Int.lt_or_gt_of_ne hC with h | h
  · have r2 := r.neg
    rw [Int.neg_zero] at r2
    have := key r2 (by omega)
    rw [Int.neg_mul_neg] at this
    exact this
  · exact key r h
theorem Eo {B C : Int} (hd : ay d) (ox : Ok x) (r : Rep x 0 B C) : (sg d x.a x.b = 1 ↔ 0 < B * C) ∧ (sg d x.a x.b = -1 ↔ B * C < 0) := by
  have hC := r.c
  have key : ∀ {B C : Int}, Rep x 0 B C → 0 < C → (sg d x.a x.b = 1 ↔ 0 < B * C) ∧ (sg d x.a x.b = -1 ↔ B * C < 0) := fun {A C} r hC => by
    rw [r.sg hd ox hC, zj]
    have p1 : 0 < A * C ↔ 0 < A := by
      constructor
      · intro h
        rcases Int.lt_trichotomy 0 A with w | w | w
        · exact w
        · rw [← w, Int.zero_mul] at h; omega
        · have := Int.mul_neg_of_neg_of_pos w hC; omega
      · intro h; exact Int.mul_pos h hC
    have p2 : A * C < 0 ↔ A < 0 := by
      constructor
      · intro h
        rcases Int.lt_trichotomy 0 A with w | w | w
        · have := Int.mul_pos w hC; omega
        · rw [← w, Int.zero_mul] at h; omega
        · exact w
      · intro h; exact Int.mul_neg_of_neg_of_pos h hC
    rw [p1, p2]
    split
    · omega
    · split <;> omega
  rcases Int.lt_or_gt_of_ne hC with h | h
  · have r2 := r.neg
    rw [Int.neg_zero] at r2
    have := key r2 (by omega)
    rw [Int.neg_mul_neg] at this
    exact this
  · exact key r h
end
end NM
set_option Elab.async false
set_option linter.all false
set_option maxRecDepth 100000
set_option maxHeartbeats 4000000
namespace L2.DL
open PySem PySem.Spec PyProof.Rows NM
theorem eM {n m : Nat} {i j : Int} (h : Sz n i) (g : Sz m j) (l : n + m ≤ 100000) : IntMulOk i j := by
  have b1 : ∀ {k : Nat} {z : Int}, Sz k z → Builtin.Int.intBits z ≤ k := fun {k z} hz => by
    unfold Builtin.Int.intBits
    split
    · exact Nat.zero_le _
    · rename_i q
      have hz' : z.natAbs ≠ 0 := by simp at q; omega
      have := (Nat.log2_lt hz').mpr hz.lt
      omega
  have e1 := b1 h
  have e2 := b1 g
  unfold IntMulOk
  intro z
  simp only [Bool.and_eq_true] at z
  have z3 := z.2
  unfold Builtin.Int.intTooBig at z3
  simp only [decide_eq_true_eq] at z3
  have : (100000 : Int) ≤ bitsLine := by decide
  omega
theorem EL {n : Nat} {i j : Int} (h0 : j ≠ 0) (h : Sz n j) (l : n ≤ 8900) : uO i j := by
  refine ⟨h0, PyProof.noPylong_of_log2 ?_⟩
  have hz' : j.natAbs ≠ 0 := by omega
  have := (Nat.log2_lt hz').mpr h.lt
  omega
theorem divC {i j : Int} (h0 : j ≠ 0) (h1 : j.natAbs < 1073741824) : uO i j := ⟨h0, PyProof.noPylong_small h1⟩
theorem mulL {i j : Int} (h : i.natAbs < 2 ^ 64) : IntMulOk i j := JY.ok (.inl (by omega))
theorem mulR {i j : Int} (h : j.natAbs < 2 ^ 64) : IntMulOk i j := JY.ok (.inr (by omega))
def dN (x : N3) : PyData := .tuple [.int x.a, .int x.b, .int x.c]
def isWhole (d : PyData) : Bool := isT "int" d && !isT "bool" d
def isNum : PyData → Bool
  | .tuple [.int a, .int b, .int c] => decide (1 ≤ c) && (g3 a b c == 1)
  | _ => false
def oW : DSp := fun ds μ Q => ∃ d, ds = [.v d] ∧ Q (.v (.bool (isWhole d))) μ
def sD : DSp := fun ds μ Q => ∃ a b : Int, ds = [.v (.int a), .v (.int b)] ∧ Q (.v (.int (Int.gcd a b : Nat))) μ
def wR : DSp := fun ds μ Q => ∃ a b c : Int, ds = [.v (.int a), .v (.int b), .v (.int c)] ∧ Q (.v (.int (g3 a b c : Nat))) μ
def Few : PyData → Prop
  | .tuple xs => xs.length ≤ 1000
  | _ => True
def v7 : DSp := fun ds μ Q => ∃ d, ds = [.v d] ∧ Few d ∧ Q (.v (.bool (isNum d))) μ
def cS : DSp := fun ds μ Q => ∃ a b c : Int, ds = [.v (.int a), .v (.int b), .v (.int c)] ∧ c ≠ 0 ∧ Sz 8800 c ∧ Q (.v (dN (low a b c))) μ
def eN : DSp := fun ds μ Q => ∃ x : N3, ds = [.v (dN x)] ∧ Q (.v (dN (aX x))) μ
def ve : DSp := fun ds μ Q => ∃ x : N3, ds = [.v (dN x)] ∧ Q (.v (dN (minus x))) μ
def sp2 (f : N3 → N3 → N3) : DSp := fun ds μ Q => ∃ x y : N3, ds = [.v (dN x), .v (dN y)] ∧ Ok x ∧ Ok y ∧ Bd 4300 x ∧ Bd 4300 y ∧ Q (.v (dN (f x y))) μ
abbrev fF : DSp := sp2 plus
abbrev vJ : DSp := sp2 less
def aU : DSp := fun ds μ Q => ∃ (d : Int) (x y : N3), ds = [.v (.int d), .v (dN x), .v (dN y)] ∧ Sz 5 d ∧ Ok x ∧ Ok y ∧ Bd 4300 x ∧ Bd 4300 y ∧ Q (.v (dN (times d x y))) μ
def bW : DSp := fun ds μ Q => ∃ (d : Int) (x : N3), ds = [.v (.int d), .v (dN x)] ∧ Sz 5 d ∧ norm d x ≠ 0 ∧ Bd 4300 x ∧ Q (.v (dN (av d x))) μ
def kO : DSp := fun ds μ Q => ∃ (d : Int) (x y : N3), ds = [.v (.int d), .v (dN x), .v (dN y)] ∧ ay d ∧ Ok x ∧ Ok y ∧ y ≠ ax ∧ Bd 2100 x ∧ Bd 2100 y ∧ Q (.v (dN (times d x (av d y)))) μ
def rq : DSp := fun ds μ Q => ∃ d a b : Int, ds = [.v (.int d), .v (.int a), .v (.int b)] ∧ Sz 5 d ∧ Sz 9900 a ∧ Sz 9900 b ∧ Q (.v (.int (sg d a b))) μ
def gb : DSp := fun ds μ Q => ∃ (d : Int) (x : N3), ds = [.v (.int d), .v (dN x)] ∧ ay d ∧ Bd 8900 x ∧ Q (.v (.int (sg d x.a x.b))) μ
def dif (d : Int) (x y : N3) : Int := sg d (x.a * y.c - y.a * x.c) (x.b * y.c - y.b * x.c)
def vh : DSp := fun ds μ Q => ∃ (d : Int) (x y : N3), ds = [.v (.int d), .v (dN x), .v (dN y)] ∧ ay d ∧ Bd 4400 x ∧ Bd 4400 y ∧ Q (.v (.bool (decide (dif d x y = 1)))) μ
def Bag (μ : Mu) (a : Addr) : Prop := ∃ g m : Int, μ a = some [.int g, .int m] ∧ 0 ≤ g ∧ 0 ≤ m ∧ m < 2147483648
def Step (a : Addr) (μ μ' : Mu) : Prop := Bag μ' a ∧ ∀ b, b ≠ a → μ' b = μ b
def ED : DSp := fun ds μ Q => ∃ (ns : List Int) (k : Int), ds = [.s ns, .v (.int k)] ∧ 0 ≤ k ∧ k ≤ 1000 ∧ ∀ p μ', μ p = none → Step p μ μ' → Q (.m p) μ'
def dh : DSp := fun ds μ Q => ∃ (a : Addr) (n : Int), ds = [.m a, .v (.int n)] ∧ 1 ≤ n ∧ n ≤ 1000000000 ∧ Bag μ a ∧ ∀ r μ', 0 ≤ r → r < n → Step a μ μ' → Q (.v (.int r)) μ'
def oV : DSp := fun ds μ Q => ∃ a : Addr, ds = [.m a] ∧ Bag μ a ∧ ∀ x μ', Ok x → Bd 20 x → Step a μ μ' → Q (.v (dN x)) μ'
def vi : DSp := fun ds μ Q => ∃ a : Addr, ds = [.m a] ∧ Bag μ a ∧ ∀ d μ', ay d → Step a μ μ' → Q (.v (.int d)) μ'
theorem Step.trans {a : Addr} {μ μ1 μ2 : Mu} (h : Step a μ μ1) (g : Step a μ1 μ2) : Step a μ μ2 := ⟨g.1, fun b n => (g.2 b n).trans (h.2 b n)⟩
theorem Step.set {a : Addr} {μ : Mu} {g m : Int} (h1 : 0 ≤ g) (h2 : 0 ≤ m) (h3 : m < 2147483648) : Step a μ (aV μ a [.int g, .int m]) := ⟨⟨g, m, cw, h1, h2, h3⟩, fun b n => dP n⟩
local macro_rules | `(tactic| walk_at "rd") => `(tactic| simp only [↓GP, ↓Ik, ↓GG, ↓HR, ↓G8, ↓GS, ↓HE, ↓Ip, ↓IA, ↓Hf, ↓Ed, ↓q_c, ↓Ot, ↓q_B, ↓N0, ↓K2, ↓Ll, ↓IZ, ↓KW, ↓HU, ↓HL, ↓Lk, ↓Iq, ↓Ox, ↓Lf, ↓GA, ↓KU, ↓KP, ↓Gs, ↓Ku, ↓Ks, ↓Kt, ↓KY, ↓K8, ↓KG, ↓KN, ↓Hr, ↓Hq, ↓Ja, ↓Dz, ↓CI, ↓Cj, ↓HV, ↓Bh, ↓yu, ↓Ld, ↓Ky, ↓K9, ↓HP, ↓Hw, ↓Jb, ↓IT, ↓Hm, ↓N7, ↓BS, ↓G1, ↓Lc, ↓KJ, ↓KC, ↓Nl, ↓GO, ↓HY, ↓Gr, ↓IP, ↓K0, ↓Om, ↓IF, ↓GN, ↓DV, ↓Eu, ↓K5, ↓Kv, ↓KS, ↓Lh, ↓Ee, ↓HA, ↓En, ↓Hl, ↓GR, ↓KO, ↓K1, ↓IM, ↓Jc, ↓Kw, ↓HS, ↓KA, ↓EN, ↓HG, ↓K4, ↓Lm, ↓IQ, ↓EO, ↓Gi, ↓Cb, ↓D6, ↓B4, ↓Bu, ↓EJ, ↓A5, ↓BI, ↓Bi, ↓Lb, Gz, ↓H0, ↓ES, Iz, Hn, Kx, KQ, K6, Option.bind_none, Option.bind_some, Option.join_some, List.getElem?_cons_zero, List.getElem?_cons_succ, aO, dN, uQ, A4, AF, EK, Ie, List.map, List.append, List.replicate, List.length_cons, List.length_nil, Nat.reduceAdd, Nat.reduceSub, List.nil_append, List.cons_append, List.set_cons_zero, List.set_cons_succ, Option.map_some, ↓reduceIte, Bool.not_true, Bool.not_false, Bool.false_eq_true, Bool.true_eq_false, Bool.xor_false, Bool.false_xor])
def nP : DTS :=
  (bF (vK (BJ "int" (ae 0)) (Ea (BJ "bool" (ae 0)))))
def hR : DTS :=
  (aM (Ci (dB (dOp (eh true) (ae 1) (dC (.int 0)))) (yZ 0 1 (ab (ae 1) (ab (wX (ae 0) (ae 1)) ar))))
  (bF (dCB oG (ab (ae 0) ar))))
def gE : DTS :=
  (bF (aq sD (ab (aq sD (ab (ae 2) (ab (ae 0) ar))) (ab (ae 1) ar))))
def j6 : DTS :=
  (aM (yZ 0 1 (ab (dCB oG (ab (ae 0) ar)) (ab (dCB oG (ab (ae 1) ar)) ar)))
  (aM (Ci (dB (dOp rGt (ae 1) (dC (.int 0)))) (yZ 0 1 (ab (ae 1) (ab (wX (ae 0) (ae 1)) ar))))
  (bF (ae 0))))
section
theorem Ew (x : Int) {y : Int} (h : y ≠ 0) : (x.fmod y).natAbs < y.natAbs := by
  have e := Int.mul_fdiv_add_fmod x y
  have := Int.fmod_def x y
  rcases Int.lt_or_gt_of_ne h with h | h
  · have k := Int.neg_fmod_neg (a := x) (b := y)
    have h1 := Int.fmod_nonneg_of_pos (-x) (show 0 < -y by omega)
    have h2 := Int.fmod_lt_of_pos (-x) (show 0 < -y by omega)
    omega
  · have h1 := Int.fmod_nonneg_of_pos x h
    have h2 := Int.fmod_lt_of_pos x h
    omega
theorem Bq (x y : Int) : Int.gcd y (x.fmod y) = Int.gcd x y := by
  have e := Int.mul_fdiv_add_fmod x y
  have e' : x.fmod y = x + y * (-(x.fdiv y)) := by rw [Int.mul_neg]; omega
  rw [e', Int.gcd_add_mul_left_right, Int.gcd_comm]
theorem BX {μ Qd ds} (h : oW ds μ Qd) : nP { nx := fun _ μ' => Qd (.v .none) μ', rt := Qd } (aO ["thing"] ds) μ := by
  obtain ⟨d, rfl, q⟩ := h
  unfold nP
  walk_at "rd"
  unfold isWhole at q
  cases hb : isT "int" d <;> simp_all
theorem qV {μ Qd ds} (h : sD ds μ Qd) : hR { nx := fun _ μ' => Qd (.v .none) μ', rt := Qd } (aO ["a", "b"] ds) μ := by
  obtain ⟨a, b, rfl, q⟩ := h
  unfold hR
  walk_at "rd"
  refine ⟨fun m ρ μ' => ∃ x y : Int, ρ = [some (.v (.int x)), some (.v (.int y))] ∧ m = y.natAbs ∧ Int.gcd x y = Int.gcd a b ∧ μ' = μ, ⟨_, a, b, rfl, rfl, rfl, rfl⟩, ?_⟩
  rintro m ρ μ' ⟨x, y, rfl, rfl, hg, rfl⟩
  walk_at "rd"
  by_cases hy : y = 0
  · subst hy
    have e : Int.gcd x 0 = x.natAbs := Int.gcd_zero_right x
    rw [← hg, e] at q
    simpa using q
  · have z : (true ^^ decide (y = 0)) = true := by simp [hy]
    rw [if_pos z]
    exact ⟨hy, _, Ew x hy, y, x.fmod y, rfl, rfl, (Bq x y).trans hg, trivial⟩
theorem vF {μ Qd ds} (h : sD ds μ Qd) : j6 { nx := fun _ μ' => Qd (.v .none) μ', rt := Qd } (aO ["_law_one", "_law_other"] ds) μ := by
  obtain ⟨a, b, rfl, q⟩ := h
  unfold j6
  walk_at "rd"
  refine ⟨fun m ρ μ' => ∃ x y : Int, ρ = [some (.v (.int x)), some (.v (.int y))] ∧ m = y.natAbs ∧ 0 ≤ x ∧ 0 ≤ y ∧ Int.gcd x y = Int.gcd a b ∧ μ' = μ, ⟨_, _, _, rfl, rfl, by omega, by omega, by simp [Int.gcd], rfl⟩, ?_⟩
  rintro m ρ μ' ⟨x, y, rfl, rfl, hx, hy, hg, rfl⟩
  walk_at "rd"
  by_cases h0 : 0 < y
  · rw [if_pos (by simpa using h0)]
    have hy' : y ≠ 0 := by omega
    exact ⟨hy', _, Ew x hy', y, x.fmod y, rfl, rfl, by omega, Int.fmod_nonneg_of_pos x h0, (Bq x y).trans hg, trivial⟩
  · rw [if_neg (by simpa using h0)]
    have e : y = 0 := by omega
    subst e
    rw [Int.gcd_zero_right] at hg
    have : x = ((Int.gcd a b : Nat) : Int) := by omega
    rw [this]
    exact q
theorem qT {μ Qd ds} (h : wR ds μ Qd) : gE { nx := fun _ μ' => Qd (.v .none) μ', rt := Qd } (aO ["a", "b", "c"] ds) μ := by
  obtain ⟨a, b, c, rfl, q⟩ := h
  unfold gE
  walk_at "rd"
  rw [← Kc] at q
  exact ⟨c, a, rfl, _, b, rfl, q⟩
end
open PySem PySem.Spec PyProof.Rows NM
def sV : DTS :=
  (aM (dy (dB (dOp (eh false) (ae 2) (dC (.int 0)))) uf cb)
  (aM (bA (aq wR (ab (ae 0) (ab (ae 1) (ab (ae 2) ar)))) (aw 3))
  (aM (dy (dB (dOp rLt (ae 2) (dC (.int 0)))) (bA (vZ (ae 3)) (aw 3)) cb)
  (bF (en (ab (wq (ae 0) (ae 3)) (ab (wq (ae 1) (ae 3)) (ab (wq (ae 2) (ae 3)) ar))))))))
def oK : DTS :=
  (aM (bA (cq (aq sD (ab (aq sD (ab (ae 0) (ab (ae 1) ar))) (ab (ae 2) ar))) (dOp aF (pE (ab (dC (.int 1)) (ab (vZ (dC (.int 1))) ar))) (dCB nY (ab (dOp rLt (ae 2) (dC (.int 0))) ar)))) (aw 3))
  (bF (en (ab (wq (ae 0) (ae 3)) (ab (wq (ae 1) (ae 3)) (ab (wq (ae 2) (ae 3)) ar))))))
def kL : DTS :=
  (bF (en (ab (qb (dC (.int 0)) (dOp aF (ae 0) (dC (.int 0)))) (ab (qb (dC (.int 0)) (dOp aF (ae 0) (dC (.int 1)))) (ab (dOp aF (ae 0) (dC (.int 2))) ar)))))
def y6 : DTS :=
  (bF (aq cS (ab (lH (cq (dOp aF (ae 0) (dC (.int 0))) (dOp aF (ae 1) (dC (.int 2)))) (cq (dOp aF (ae 1) (dC (.int 0))) (dOp aF (ae 0) (dC (.int 2))))) (ab (lH (cq (dOp aF (ae 0) (dC (.int 1))) (dOp aF (ae 1) (dC (.int 2)))) (cq (dOp aF (ae 1) (dC (.int 1))) (dOp aF (ae 0) (dC (.int 2))))) (ab (cq (dOp aF (ae 0) (dC (.int 2))) (dOp aF (ae 1) (dC (.int 2)))) ar)))))
def rQ : DTS :=
  (bF (aq cS (ab (lH (cq (dOp aF (ae 0) (dC (.int 0))) (dOp aF (ae 1) (dC (.int 2)))) (cq (dOp aF (ae 1) (dC (.int 0))) (dOp aF (ae 0) (dC (.int 2))))) (ab (lH (cq (dOp aF (ae 0) (dC (.int 1))) (dOp aF (ae 1) (dC (.int 2)))) (cq (dOp aF (ae 1) (dC (.int 1))) (dOp aF (ae 0) (dC (.int 2))))) (ab (cq (dOp aF (ae 0) (dC (.int 2))) (dOp aF (ae 1) (dC (.int 2)))) ar)))))
def zA : DTS :=
  (bF (aq cS (ab (qb (cq (dOp aF (ae 0) (dC (.int 0))) (dOp aF (ae 1) (dC (.int 2)))) (cq (dOp aF (ae 1) (dC (.int 0))) (dOp aF (ae 0) (dC (.int 2))))) (ab (qb (cq (dOp aF (ae 0) (dC (.int 1))) (dOp aF (ae 1) (dC (.int 2)))) (cq (dOp aF (ae 1) (dC (.int 1))) (dOp aF (ae 0) (dC (.int 2))))) (ab (cq (dOp aF (ae 0) (dC (.int 2))) (dOp aF (ae 1) (dC (.int 2)))) ar)))))
def wH : DTS :=
  (bF (aq cS (ab (lH (cq (dOp aF (ae 1) (dC (.int 0))) (dOp aF (ae 2) (dC (.int 0)))) (cq (cq (ae 0) (dOp aF (ae 1) (dC (.int 1)))) (dOp aF (ae 2) (dC (.int 1))))) (ab (lH (cq (dOp aF (ae 1) (dC (.int 0))) (dOp aF (ae 2) (dC (.int 1)))) (cq (dOp aF (ae 1) (dC (.int 1))) (dOp aF (ae 2) (dC (.int 0))))) (ab (cq (dOp aF (ae 1) (dC (.int 2))) (dOp aF (ae 2) (dC (.int 2)))) ar)))))
def pR : DTS :=
  (bF (aq cS (ab (lH (cq (dOp aF (ae 1) (dC (.int 0))) (dOp aF (ae 2) (dC (.int 0)))) (cq (cq (ae 0) (dOp aF (ae 1) (dC (.int 1)))) (dOp aF (ae 2) (dC (.int 1))))) (ab (lH (cq (dOp aF (ae 1) (dC (.int 0))) (dOp aF (ae 2) (dC (.int 1)))) (cq (dOp aF (ae 1) (dC (.int 1))) (dOp aF (ae 2) (dC (.int 0))))) (ab (cq (dOp aF (ae 1) (dC (.int 2))) (dOp aF (ae 2) (dC (.int 2)))) ar)))))
def nE : DTS :=
  (aM (bA (qb (cq (dOp aF (ae 1) (dC (.int 0))) (dOp aF (ae 1) (dC (.int 0)))) (cq (cq (ae 0) (dOp aF (ae 1) (dC (.int 1)))) (dOp aF (ae 1) (dC (.int 1))))) (aw 2))
  (bF (aq cS (ab (cq (dOp aF (ae 1) (dC (.int 2))) (dOp aF (ae 1) (dC (.int 0)))) (ab (cq (vZ (dOp aF (ae 1) (dC (.int 2)))) (dOp aF (ae 1) (dC (.int 1)))) (ab (ae 2) ar))))))
def iD : DTS :=
  (bF (aq cS (ab (cq (dOp aF (ae 1) (dC (.int 0))) (dOp aF (ae 1) (dC (.int 2)))) (ab (qb (dC (.int 0)) (cq (dOp aF (ae 1) (dC (.int 1))) (dOp aF (ae 1) (dC (.int 2))))) (ab (qb (cq (dOp aF (ae 1) (dC (.int 0))) (dOp aF (ae 1) (dC (.int 0)))) (cq (cq (ae 0) (dOp aF (ae 1) (dC (.int 1)))) (dOp aF (ae 1) (dC (.int 1))))) ar)))))
def yL : DTS :=
  (aM (dy (dB (dOp (eh false) (ae 2) (dC (.tuple [.int 0, .int 0, .int 1])))) uf cb)
  (bF (aq aU (ab (ae 0) (ab (ae 1) (ab (aq bW (ab (ae 0) (ab (ae 2) ar))) ar))))))
def Ak : DTS :=
  (bF (en (ab (dOp aF (ae 0) (dC (.int 0))) (ab (vZ (dOp aF (ae 0) (dC (.int 1)))) (ab (dOp aF (ae 0) (dC (.int 2))) ar)))))
section
variable {μ : Mu} {Qd : DK} {ds : List D}
theorem OK (i j : Int) : PyData.eqv (.int i) (.int j) = decide (i = j) := by simp [PyData.eqv]; rfl
theorem gdv {a b c : Int} (h : Sz 8800 c) (hc : c ≠ 0) : Sz 8800 ((g3 a b c : Nat) : Int) := by
  have h1 := (IK a b c).2.2
  have h2 := Int.natAbs_dvd_natAbs.mpr h1
  exact h.le (Nat.le_of_dvd (by omega) h2)
theorem FD (h : cS ds μ Qd) : sV { nx := fun _ μ' => Qd (.v .none) μ', rt := Qd } (aO ["a", "b", "c", "divisor"] ds) μ := by
  obtain ⟨a, b, c, rfl, hc, hz, q⟩ := h
  unfold sV
  walk_at "rd"
  rw [decide_eq_false hc]
  simp only [Bool.xor_false, Bool.false_eq_true, ↓reduceIte]
  refine ⟨a, b, c, rfl, ?_⟩
  walk_at "rd"
  have hp := Az (a := a) (b := b) hc
  have hg := gdv (a := a) (b := b) hz hc
  unfold low NM.dv dN at q
  simp only at q
  by_cases hn : c < 0
  · rw [if_pos (by simpa using hn)]
    rw [if_pos hn] at q
    have o : ∀ i : Int, uO i (-((g3 a b c : Nat) : Int)) := fun i => EL (by omega) hg.neg (by decide)
    exact ⟨o _, o _, o _, q⟩
  · rw [if_neg (by simpa using hn)]
    rw [if_neg hn] at q
    have o : ∀ i : Int, uO i ((g3 a b c : Nat) : Int) := fun i => EL (by omega) hg (by decide)
    exact ⟨o _, o _, o _, q⟩
theorem A2 (h : cS ds μ Qd) : oK { nx := fun _ μ' => Qd (.v .none) μ', rt := Qd } (aO ["_law_a", "_law_b", "_law_c", "_law_common"] ds) μ := by
  obtain ⟨a, b, c, rfl, hc, hz, q⟩ := h
  unfold oK
  walk_at "rd"
  refine ⟨a, b, rfl, _, c, rfl, ?_⟩
  walk_at "rd"
  have hp := Az (a := a) (b := b) hc
  have hg := gdv (a := a) (b := b) hz hc
  unfold low NM.dv dN at q
  simp only at q
  by_cases hn : c < 0
  · simp only [hn, decide_true, ↓reduceIte, AF]
    rw [if_pos hn] at q
    have e : ((Int.gcd (Int.gcd a b : Nat) c : Nat) : Int) * -1 = -((g3 a b c : Nat) : Int) := by unfold g3; omega
    walk_at "rd"
    rw [e]
    have o : ∀ i : Int, uO i (-((g3 a b c : Nat) : Int)) := fun i => EL (by omega) hg.neg (by decide)
    exact ⟨mulR (by decide), o _, o _, o _, q⟩
  · simp only [hn, decide_false, Bool.false_eq_true, ↓reduceIte, A4]
    rw [if_neg hn] at q
    have e : ((Int.gcd (Int.gcd a b : Nat) c : Nat) : Int) * 1 = ((g3 a b c : Nat) : Int) := by unfold g3; omega
    walk_at "rd"
    rw [e]
    have o : ∀ i : Int, uO i ((g3 a b c : Nat) : Int) := fun i => EL (by omega) hg (by decide)
    exact ⟨mulR (by decide), o _, o _, o _, q⟩
theorem JJ (h : eN ds μ Qd) : Ak { nx := fun _ μ' => Qd (.v .none) μ', rt := Qd } (aO ["x"] ds) μ := by
  obtain ⟨x, rfl, q⟩ := h
  unfold Ak
  walk_at "rd"
  exact q
theorem xU (h : ve ds μ Qd) : kL { nx := fun _ μ' => Qd (.v .none) μ', rt := Qd } (aO ["_law_x"] ds) μ := by
  obtain ⟨x, rfl, q⟩ := h
  unfold kL
  walk_at "rd"
  simp only [Int.zero_sub]
  exact q
theorem EY (h : fF ds μ Qd) : y6 { nx := fun _ μ' => Qd (.v .none) μ', rt := Qd } (aO ["x", "y"] ds) μ := by
  obtain ⟨x, y, rfl, ox, oy, bx, by', q⟩ := h
  unfold y6
  walk_at "rd"
  have m : ∀ {i j : Int}, Sz 4300 i → Sz 4300 j → IntMulOk i j := fun h g => eM h g (by decide)
  exact ⟨m bx.a by'.c, m by'.a bx.c, m bx.b by'.c, m by'.b bx.c, m bx.c by'.c, _, _, _, rfl, si ox oy, (bx.c.mul by'.c).mono (by decide), q⟩
theorem yN (h : fF ds μ Qd) : rQ { nx := fun _ μ' => Qd (.v .none) μ', rt := Qd } (aO ["_law_x", "_law_y"] ds) μ := EY h
theorem JZ (h : vJ ds μ Qd) : zA { nx := fun _ μ' => Qd (.v .none) μ', rt := Qd } (aO ["x", "y"] ds) μ := by
  obtain ⟨x, y, rfl, ox, oy, bx, by', q⟩ := h
  unfold zA
  walk_at "rd"
  have m : ∀ {i j : Int}, Sz 4300 i → Sz 4300 j → IntMulOk i j := fun h g => eM h g (by decide)
  exact ⟨m bx.a by'.c, m by'.a bx.c, m bx.b by'.c, m by'.b bx.c, m bx.c by'.c, _, _, _, rfl, si ox oy, (bx.c.mul by'.c).mono (by decide), q⟩
theorem BY (h : aU ds μ Qd) : wH { nx := fun _ μ' => Qd (.v .none) μ', rt := Qd } (aO ["d", "x", "y"] ds) μ := by
  obtain ⟨d, x, y, rfl, hd, ox, oy, bx, by', q⟩ := h
  unfold wH
  walk_at "rd"
  have m : ∀ {i j : Int}, Sz 4300 i → Sz 4300 j → IntMulOk i j := fun h g => eM h g (by decide)
  exact ⟨m bx.a by'.a, eM hd bx.b (by decide), eM (hd.mul bx.b) by'.b (by decide), m bx.a by'.b, m bx.b by'.a, m bx.c by'.c, _, _, _, rfl, si ox oy, (bx.c.mul by'.c).mono (by decide), q⟩
theorem xa (h : aU ds μ Qd) : pR { nx := fun _ μ' => Qd (.v .none) μ', rt := Qd } (aO ["_law_d", "_law_x", "_law_y"] ds) μ := BY h
theorem BC (h : bW ds μ Qd) : nE { nx := fun _ μ' => Qd (.v .none) μ', rt := Qd } (aO ["d", "x", "norm"] ds) μ := by
  obtain ⟨d, x, rfl, hd, hn, bx, q⟩ := h
  unfold nE
  walk_at "rd"
  have m : ∀ {i j : Int}, Sz 4300 i → Sz 4300 j → IntMulOk i j := fun h g => eM h g (by decide)
  exact ⟨m bx.a bx.a, eM hd bx.b (by decide), eM (hd.mul bx.b) bx.b (by decide), m bx.c bx.a, m bx.c.neg bx.b, _, _, _, rfl, hn, (qZ hd bx).mono (by decide), q⟩
theorem ub (h : bW ds μ Qd) : iD { nx := fun _ μ' => Qd (.v .none) μ', rt := Qd } (aO ["_law_d", "_law_x"] ds) μ := by
  obtain ⟨d, x, rfl, hd, hn, bx, q⟩ := h
  unfold iD
  walk_at "rd"
  have m : ∀ {i j : Int}, Sz 4300 i → Sz 4300 j → IntMulOk i j := fun h g => eM h g (by decide)
  refine ⟨m bx.a bx.c, m bx.b bx.c, m bx.a bx.a, eM hd bx.b (by decide), eM (hd.mul bx.b) bx.b (by decide), _, _, _, rfl, hn, (qZ hd bx).mono (by decide), ?_⟩
  have e1 : x.a * x.c = x.c * x.a := Int.mul_comm ..
  have e2 : 0 - x.b * x.c = -x.c * x.b := by grind
  rw [e1, e2]
  exact q
theorem NC (a b c a' b' c' : Int) : PyData.eqv (.tuple [.int a, .int b, .int c]) (.tuple [.int a', .int b', .int c']) = decide (a = a' ∧ b = b' ∧ c = c') := by
  simp [PyData.eqv, PyData.eqvAll]
  rfl
theorem JU (h : kO ds μ Qd) : yL { nx := fun _ μ' => Qd (.v .none) μ', rt := Qd } (aO ["d", "x", "y"] ds) μ := by
  obtain ⟨d, x, y, rfl, hd, ox, oy, hy, bx, by', q⟩ := h
  unfold yL
  walk_at "rd"
  refine ⟨rfl, rfl, ?_⟩
  have hn : ¬ (y.a = 0 ∧ y.b = 0 ∧ y.c = 1) := fun z => hy (N3.ext' z.1 z.2.1 z.2.2)
  rw [NC, decide_eq_false hn]
  simp only [Bool.xor_false, Bool.false_eq_true, ↓reduceIte]
  have s5 := iN hd.1 hd.2.1
  have nz := hd.norm oy hy
  exact ⟨d, y, rfl, s5, nz, by'.mono (by decide), d, x, _, rfl, s5, ox, az nz, bx.mono (by decide), (bJ s5 nz by').mono (by decide), q⟩
end
open PySem PySem.Spec PyProof.Rows NM
def iw : DTS :=
  (aM (dy (uF (dB (dOp (eh false) (ae 1) (dC (.int 0)))) (dB (dOp (eh false) (ae 2) (dC (.int 0))))) (bF (dC (.int 0))) cb)
  (aM (dy (uF (dB (dOp rGe (ae 1) (dC (.int 0)))) (dB (dOp rGe (ae 2) (dC (.int 0))))) (bF (dC (.int 1))) cb)
  (aM (dy (uF (dB (dOp rLe (ae 1) (dC (.int 0)))) (dB (dOp rLe (ae 2) (dC (.int 0))))) (bF (vZ (dC (.int 1)))) cb)
  (aM (bA (dIf (dB (dOp rGt (cq (ae 1) (ae 1)) (cq (cq (ae 0) (ae 2)) (ae 2)))) (ae 1) (ae 2)) (aw 3))
  (bF (dIf (dB (dOp rGt (ae 3) (dC (.int 0)))) (dC (.int 1)) (vZ (dC (.int 1)))))))))
def qi : DTS :=
  (bF (aq rq (ab (ae 0) (ab (dOp aF (ae 1) (dC (.int 0))) (ab (dOp aF (ae 1) (dC (.int 1))) ar)))))
def nv : DTS :=
  (aM (bA (qb (cq (dOp aF (ae 1) (dC (.int 0))) (dOp aF (ae 2) (dC (.int 2)))) (cq (dOp aF (ae 2) (dC (.int 0))) (dOp aF (ae 1) (dC (.int 2))))) (aw 3))
  (aM (bA (qb (cq (dOp aF (ae 1) (dC (.int 1))) (dOp aF (ae 2) (dC (.int 2)))) (cq (dOp aF (ae 2) (dC (.int 1))) (dOp aF (ae 1) (dC (.int 2))))) (aw 4))
  (bF (dOp (eh false) (aq rq (ab (ae 0) (ab (ae 3) (ab (ae 4) ar)))) (dC (.int 1))))))
def mE : DTS :=
  (aM (yZ 2 3 (ab (cq (dOp aF (ae 1) (dC (.int 0))) (dOp aF (ae 1) (dC (.int 0)))) (ab (cq (cq (ae 0) (dOp aF (ae 1) (dC (.int 1)))) (dOp aF (ae 1) (dC (.int 1)))) ar)))
  (aM (bA (pE (ab (qb (dCB nY (ab (dOp rGt (dOp aF (ae 1) (dC (.int 0))) (dC (.int 0))) ar)) (dCB nY (ab (dOp rLt (dOp aF (ae 1) (dC (.int 0))) (dC (.int 0))) ar))) (ab (qb (dCB nY (ab (dOp rGt (dOp aF (ae 1) (dC (.int 1))) (dC (.int 0))) ar)) (dCB nY (ab (dOp rLt (dOp aF (ae 1) (dC (.int 1))) (dC (.int 0))) ar))) ar))) (aw 4))
  (aM (dy (dB (dOp rGe (cq (dOp aF (ae 4) (dC (.int 0))) (dOp aF (ae 4) (dC (.int 1)))) (dC (.int 0)))) (bF (dIf (dB (dOp (eh true) (dOp aF (ae 4) (dC (.int 0))) (dC (.int 0)))) (dOp aF (ae 4) (dC (.int 0))) (dOp aF (ae 4) (dC (.int 1))))) cb)
  (bF (dIf (dB (dOp rGt (ae 2) (ae 3))) (dOp aF (ae 4) (dC (.int 0))) (dOp aF (ae 4) (dC (.int 1))))))))
section
variable {μ : Mu} {Qd : DK} {ds : List D}
theorem sP (h : rq ds μ Qd) : iw { nx := fun _ μ' => Qd (.v .none) μ', rt := Qd } (aO ["d", "a", "b", "prevailing"] ds) μ := by
  obtain ⟨d, a, b, rfl, hd, ha, hb, q⟩ := h
  unfold iw
  walk_at "rd"
  have m1 : MulOk a a := eM ha ha (by decide)
  have m2 : MulOk d b := eM hd hb (by decide)
  have m3 : MulOk (d * b) b := eM (hd.mul hb) hb (by decide)
  unfold sg at q
  by_cases h1 : a = 0
  · by_cases h2 : b = 0
    · subst h1 h2; simpa using q
    · subst h1
      rcases Int.lt_or_gt_of_ne h2 with h3 | h3
      · have e : ¬ (0 ≤ b) := by omega
        have e' : b ≤ 0 := by omega
        simp only [h2, e, e', and_false, true_and, if_true, if_false, decide_true, decide_false, Int.le_refl, ↓reduceIte, Bool.false_eq_true] at q ⊢
        exact q
      · have e : (0 ≤ b) := by omega
        simp only [h2, e, and_false, true_and, if_true, if_false, decide_true, decide_false, Int.le_refl, ↓reduceIte, Bool.false_eq_true] at q ⊢
        exact q
  · by_cases h3 : 0 ≤ a <;> by_cases h4 : 0 ≤ b <;> by_cases h5 : a ≤ 0 <;> by_cases h6 : b ≤ 0 <;> by_cases h7 : d * b * b < a * a <;> (try (exfalso; omega)) <;>
      simp only [h1, h3, h4, h5, h6, h7, and_false, false_and, and_true, true_and, if_true, if_false, decide_true, decide_false, ↓reduceIte, Bool.false_eq_true, and_self, m1, m2, m3, gt_iff_lt] at q ⊢ <;> (try exact q)
    all_goals
      first
      | (by_cases h8 : 0 < a <;> simp only [h8, if_true, if_false, decide_true, decide_false, ↓reduceIte, Bool.false_eq_true] at q ⊢ <;> exact q)
      | (by_cases h8 : 0 < b <;> simp only [h8, if_true, if_false, decide_true, decide_false, ↓reduceIte, Bool.false_eq_true] at q ⊢ <;> exact q)
theorem CD (h : gb ds μ Qd) : qi { nx := fun _ μ' => Qd (.v .none) μ', rt := Qd } (aO ["d", "x"] ds) μ := by
  obtain ⟨d, x, rfl, hd, bx, q⟩ := h
  unfold qi
  walk_at "rd"
  exact ⟨d, x.a, x.b, rfl, iN hd.1 hd.2.1, bx.a.mono (by decide), bx.b.mono (by decide), q⟩
theorem AS (h : vh ds μ Qd) : nv { nx := fun _ μ' => Qd (.v .none) μ', rt := Qd } (aO ["d", "x", "y", "a", "b"] ds) μ := by
  obtain ⟨d, x, y, rfl, hd, bx, by', q⟩ := h
  unfold nv
  walk_at "rd"
  have m : ∀ {i j : Int}, Sz 4400 i → Sz 4400 j → IntMulOk i j := fun h g => eM h g (by decide)
  refine ⟨m bx.a by'.c, m by'.a bx.c, m bx.b by'.c, m by'.b bx.c, d, _, _, rfl, iN hd.1 hd.2.1, ((bx.a.mul by'.c).sub (by'.a.mul bx.c)).mono (by decide), ((bx.b.mul by'.c).sub (by'.b.mul bx.c)).mono (by decide), ?_⟩
  walk_at "rd"
  exact q
theorem My {d a b sa sb : Int} (ha : (a < 0 ∧ sa = -1) ∨ (a = 0 ∧ sa = 0) ∨ (0 < a ∧ sa = 1)) (hb : (b < 0 ∧ sb = -1) ∨ (b = 0 ∧ sb = 0) ∨ (0 < b ∧ sb = 1)) :
    sg d a b = if 0 ≤ sa * sb then (if sa ≠ 0 then sa else sb) else if d * b * b < a * a then sa else sb := by
  unfold sg
  by_cases h7 : d * b * b < a * a <;> rcases ha with ⟨h1, rfl⟩ | ⟨h1, rfl⟩ | ⟨h1, rfl⟩ <;> rcases hb with ⟨h2, rfl⟩ | ⟨h2, rfl⟩ | ⟨h2, rfl⟩ <;> simp only [h7, ↓reduceIte] <;> (repeat' split) <;> omega
theorem Ax (h : gb ds μ Qd) : mE { nx := fun _ μ' => Qd (.v .none) μ', rt := Qd } (aO ["_law_d", "_law_x", "_law_first", "_law_second", "_law_sides"] ds) μ := by
  obtain ⟨d, x, rfl, hd, bx, q⟩ := h
  unfold mE
  walk_at "rd"
  have s5 := iN hd.1 hd.2.1
  refine ⟨eM bx.a bx.a (by decide), eM s5 bx.b (by decide), eM (s5.mul bx.b) bx.b (by decide), ?_⟩
  have sd : ∀ u : Int, (u < 0 ∧ ((if decide (0 < u) = true then 1 else 0) - if decide (u < 0) = true then 1 else 0 : Int) = -1) ∨ (u = 0 ∧ ((if decide (0 < u) = true then 1 else 0) - if decide (u < 0) = true then 1 else 0 : Int) = 0) ∨ (0 < u ∧ ((if decide (0 < u) = true then 1 else 0) - if decide (u < 0) = true then 1 else 0 : Int) = 1) := fun u => by
    simp only [decide_eq_true_eq]
    split <;> split <;> omega
  have ha := sd x.a
  have hb := sd x.b
  generalize ((if decide (0 < x.a) = true then 1 else 0) - if decide (x.a < 0) = true then 1 else 0 : Int) = sa at ha ⊢
  generalize ((if decide (0 < x.b) = true then 1 else 0) - if decide (x.b < 0) = true then 1 else 0 : Int) = sb at hb ⊢
  rw [My ha hb] at q
  refine ⟨mulL (by omega), ?_⟩
  by_cases c1 : 0 ≤ sa * sb <;> by_cases c2 : sa = 0 <;> by_cases c3 : d * x.b * x.b < x.a * x.a <;> simp only [c1, c2, c3, decide_true, decide_false, ↓reduceIte, Bool.false_eq_true, Bool.xor_false, Bool.xor_true, Bool.not_true, ne_eq, not_true_eq_false, not_false_eq_true, Int.zero_mul, Int.le_refl] at q ⊢ <;> exact q
end
open PySem PySem.Spec PyProof.Rows NM
def n6 : DTS :=
  (aM (bA (dC (.int 0)) (aw 2))
  (aM (dy (dB (dOp rLt (ae 1) (dCB fK (ab (ae 0) ar)))) (bA (dOp aF (ae 0) (ae 1)) (aw 2)) cb)
  (aM (bA (dC (.int 0)) (aw 3))
  (aM (dy (dB (dOp rGe (dCB oG (ab (ae 2) ar)) (Mo (dC (.int 10)) (dC (.int 18))))) (bA (dCB oG (ab (ae 2) ar)) (aw 3)) cb)
  (aM (bA (pE (ab (dC (.int 2147483647)) (ab (dC (.int 2147483629)) (ab (dC (.int 2147483587)) (ab (dC (.int 2147483579)) (ab (dC (.int 2147483563)) (ab (dC (.int 2147483549)) (ab (dC (.int 2147483543)) (ab (dC (.int 2147483497)) ar))))))))) (aw 4))
  (aM (bA (lH (lH (lH (cq (wX (ae 2) (dC (.int 2147483647))) (dC (.int 69623))) (cq (cq (dC (.int 104729)) (ae 1)) (ae 1))) (cq (dC (.int 7919)) (ae 1))) (dC (.int 12345))) (aw 5))
  (bF (Em (ab (ae 3) (ab (wX (ae 5) (dOp aF (ae 4) (wX (ae 1) (dC (.int 8))))) ar))))))))))
def mG : DTS :=
  (aM (dy (dB (dOp rGt (dOp aF (ae 0) (dC (.int 0))) (dC (.int 0)))) (aM (bA (wX (dOp aF (ae 0) (dC (.int 0))) (ae 1)) (aw 2))
  (aM (bA (wq (dOp aF (ae 0) (dC (.int 0))) (ae 1)) (EF (ae 0) (dC (.int 0))))
  (bF (ae 2)))) cb)
  (aM (bA (wX (lH (cq (dOp aF (ae 0) (dC (.int 1))) (dC (.int 48271))) (dC (.int 2531011))) (dC (.int 2147483647))) (EF (ae 0) (dC (.int 1))))
  (bF (wX (wq (wX (Mo (dOp aF (ae 0) (dC (.int 1))) (dC (.int 3))) (dC (.int 2147483629))) (dC (.int 64))) (ae 1)))))
section
variable {μ : Mu} {Qd : DK} {ds : List D}
theorem vf {α : Type} {xs : List α} {i : Int} (h0 : 0 ≤ i) (h : i < (xs.length : Nat)) : ∃ d, atI xs i = some d ∧ d ∈ xs := by
  have hj : i.toNat < xs.length := by omega
  have e := kH (xs := xs) (j := i.toNat) (v := xs[i.toNat]) (by simp [hj])
  rw [show ((i.toNat : Nat) : Int) = i by omega] at e
  exact ⟨_, e, List.getElem_mem _⟩
theorem lR (x : Int) {y : Int} (h : 0 < y) : 0 ≤ x.fmod y ∧ x.fmod y < y := ⟨Int.fmod_nonneg_of_pos x h, Int.fmod_lt_of_pos x h⟩
theorem Jn {x y : Int} (hx : 0 ≤ x) (hy : 0 < y) : 0 ≤ x.fdiv y := by rw [Int.fdiv_eq_ediv_of_nonneg _ (by omega)]; exact Int.ediv_nonneg hx (by omega)
def oQ : List PyData := [.int 2147483647, .int 2147483629, .int 2147483587, .int 2147483579, .int 2147483563, .int 2147483549, .int 2147483543, .int 2147483497]
theorem BV (h : ED ds μ Qd) : n6 { nx := fun _ μ' => Qd (.v .none) μ', rt := Qd } (aO ["_law_script", "_law_at", "_law_cell", "_law_great", "_law_primes", "_law_mixed"] ds) μ := by
  obtain ⟨ns, k, rfl, h0, h1, q⟩ := h
  unfold n6
  have hp : ∃ pr : Int, atI oQ (k.fmod 8) = some (.int pr) ∧ 0 < pr ∧ pr < 2147483648 := by
    obtain ⟨h2, h3⟩ := lR k (show (0 : Int) < 8 by decide)
    obtain ⟨p, e, hm⟩ := vf (xs := oQ) h2 (by exact h3)
    simp only [oQ, List.mem_cons, List.not_mem_nil, or_false] at hm
    rcases hm with rfl | rfl | rfl | rfl | rfl | rfl | rfl | rfl <;> exact ⟨_, e, by decide, by decide⟩
  obtain ⟨pr, hpe, hp0, hp1⟩ := hp
  unfold oQ at hpe
  walk_at "rd"
  rw [hpe]
  walk_at "rd"
  have c1 : Mz 10 18 := ⟨by decide, by decide, by decide⟩
  have z1 : (2147483647 : Int) ≠ 0 := by decide
  have z2 : (8 : Int) ≠ 0 := by decide
  have m1 : ∀ i : Int, MulOk i 69623 := fun i => mulR (by decide)
  have m2 : MulOk 104729 k := mulL (by decide)
  have m3 : MulOk (104729 * k) k := mulR (by omega)
  have m4 : MulOk 7919 k := mulL (by decide)
  have z3 : pr ≠ 0 := by omega
  have fin : ∀ G x : Int, 0 ≤ G → ∀ p, μ p = none → Qd (.m p) (aV μ p [.int G, .int (x.fmod pr)]) := fun G x hG p hp => by
    obtain ⟨h2, h3⟩ := lR x hp0
    exact q p _ hp (Step.set hG h2 (by omega))
  by_cases hk : k < (ns.length : Nat)
  · rw [if_pos (by simpa using hk)]
    obtain ⟨c, hc, _⟩ := vf h0 hk
    rw [hc]
    walk_at "rd"
    refine ⟨c1, ?_⟩
    split
    · exact ⟨z1, m1 _, m2, m3, m4, z2, z3, fin _ _ (by omega)⟩
    · exact ⟨z1, m1 _, m2, m3, m4, z2, z3, fin _ _ (by omega)⟩
  · rw [if_neg (by simpa using hk)]
    refine ⟨c1, ?_⟩
    split
    · exact ⟨z1, m1 _, m2, m3, m4, z2, z3, fin _ _ (by omega)⟩
    · exact ⟨z1, m1 _, m2, m3, m4, z2, z3, fin _ _ (by omega)⟩
theorem zz (h : dh ds μ Qd) : mG { nx := fun _ μ' => Qd (.v .none) μ', rt := Qd } (aO ["_law_bag_here", "_law_many", "_law_digit"] ds) μ := by
  obtain ⟨a, n, rfl, h0, h1, ⟨g, m, hb, hg, hm, hm'⟩, q⟩ := h
  unfold mG
  walk_at "rd"
  rw [hb]
  walk_at "rd"
  rw [hb]
  walk_at "rd"
  have n0 : n ≠ 0 := by omega
  have i0 : ixN 2 0 = some 0 := by rfl
  have i1 : ixN 2 1 = some 1 := by rfl
  by_cases hg0 : 0 < g
  · rw [if_pos (by simpa using hg0)]
    simp only [hb]
    walk_at "rd"
    obtain ⟨r0, r1⟩ := lR g (show 0 < n by omega)
    refine ⟨n0, ?_⟩
    simp only [hb]
    walk_at "rd"
    refine ⟨divC n0 (by omega), ?_⟩
    simp only [hb, List.length_cons, List.length_nil, Nat.reduceAdd, i0, List.set_cons_zero]
    exact q _ _ r0 r1 (Step.set (Jn hg (by omega)) hm hm')
  · rw [if_neg (by simpa using hg0)]
    simp only [hb, i1, cw]
    walk_at "rd"
    obtain ⟨s0, s1⟩ := lR (m * 48271 + 2531011) (show (0 : Int) < 2147483647 by decide)
    generalize (m * 48271 + 2531011).fmod 2147483647 = w at s0 s1 ⊢
    obtain ⟨r0, r1⟩ := lR ((((w ^ Int.toNat 3).fmod 2147483629).fdiv 64)) (show 0 < n by omega)
    refine ⟨mulL (by omega), by decide, ?_⟩
    refine ⟨⟨by decide, by decide, by omega⟩, (by show (2147483629 : Int) ≠ 0; decide), divC (by decide) (by decide), n0, ?_⟩
    exact q _ _ r0 r1 (Step.set hg s0 (by omega))
end
open PySem PySem.Spec PyProof.Rows NM
section
variable {μ : Mu} {Qd : DK} {ds : List D}
end
open PySem PySem.Spec PyProof.Rows NM
def mS : DTS :=
  (aM (dy (qB (hU (dB (BJ "tuple" (ae 0)))) (dB (dOp (eh true) (dCB fK (ab (ae 0) ar)) (dC (.int 3))))) (bF (dC (.bool false))) cb)
  (aM (bA (ae 0) (nu 3 (cK (aw 1) (cK (aw 2) (cK (aw 3) nT)))))
  (aM (dy (qB (hU (dB (aq oW (ab (ae 1) ar)))) (qB (hU (dB (aq oW (ab (ae 2) ar)))) (hU (dB (aq oW (ab (ae 3) ar)))))) (bF (dC (.bool false))) cb)
  (bF (vK (dOp rGe (ae 3) (dC (.int 1))) (dOp (eh false) (aq wR (ab (ae 1) (ab (ae 2) (ab (ae 3) ar)))) (dC (.int 1))))))))
section
variable {μ : Mu} {Qd : DK} {ds : List D}
def Ef (i : Int) : Bool := decide (2 ≤ i) && decide (i ≤ 30) && !(decide (i = 4) || decide (i = 9) || decide (i = 16) || decide (i = 25))
theorem k7 (d : PyData) : (∃ i, d = .int i ∧ isWhole d = true) ∨ ((∀ i, d ≠ .int i) ∧ isWhole d = false) := by
  cases d <;> first | exact .inl ⟨_, rfl, rfl⟩ | exact .inr ⟨fun _ z => (by cases z), rfl⟩
theorem D9 (d : PyData) : (∃ xs, d = .tuple xs ∧ isT "tuple" d = true) ∨ ((∀ xs, d ≠ .tuple xs) ∧ isT "tuple" d = false) := by
  cases d <;> first | exact .inl ⟨_, rfl, rfl⟩ | exact .inr ⟨fun _ z => (by cases z), rfl⟩
theorem FT {d : PyData} (h : ∀ xs, d ≠ .tuple xs) : isNum d = false := by cases d <;> first | rfl | exact absurd rfl (h _)
theorem FF {xs : List PyData} (h : xs.length ≠ 3) : isNum (.tuple xs) = false := by
  unfold isNum
  split
  · rename_i e; cases e; exact absurd rfl h
  · rfl
theorem three {α : Type} {xs : List α} (h : xs.length = 3) : ∃ a b c, xs = [a, b, c] := by
  match xs, h with
  | [a, b, c], _ => exact ⟨a, b, c, rfl⟩
theorem yJ (h : v7 ds μ Qd) : mS { nx := fun _ μ' => Qd (.v .none) μ', rt := Qd } (aO ["thing", "a", "b", "c"] ds) μ := by
  obtain ⟨d, rfl, _, q⟩ := h
  unfold mS
  walk_at "rd"
  rcases D9 d with ⟨xs, rfl, e⟩ | ⟨hn, e⟩
  · rw [e]
    walk_at "rd"
    by_cases hl : xs.length = 3
    · obtain ⟨a, b, c, rfl⟩ := three hl
      have e3 : decide ((([a, b, c].length : Nat) : Int) = 3) = true := rfl
      have e3' : [a, b, c].length = 3 := rfl
      simp only [e3, Bool.xor_self, Bool.false_eq_true, ↓reduceIte]
      refine ⟨rfl, ?_⟩
      walk_at "rd"
      refine ⟨a, rfl, ?_⟩
      rcases k7 a with ⟨i, rfl, e⟩ | ⟨hn, e⟩
      · rw [e]
        walk_at "rd"
        refine ⟨b, rfl, ?_⟩
        rcases k7 b with ⟨j, rfl, e⟩ | ⟨hn, e⟩
        · rw [e]
          walk_at "rd"
          refine ⟨c, rfl, ?_⟩
          rcases k7 c with ⟨k, rfl, e⟩ | ⟨hn, e⟩
          · rw [e]
            walk_at "rd"
            have q' : Qd (.v (.bool (decide (1 ≤ k) && (g3 i j k == 1)))) μ := q
            by_cases hk : 1 ≤ k
            · rw [if_pos (by simpa using hk)]
              refine ⟨i, j, k, rfl, ?_⟩
              walk_at "rd"
              have ee : decide (((g3 i j k : Nat) : Int) = 1) = (decide (1 ≤ k) && (g3 i j k == 1)) := by
                rw [decide_eq_true hk, Bool.true_and, Bool.eq_iff_iff]; simp; omega
              rw [ee]
              exact q'
            · rw [if_neg (by simpa using hk)]
              rw [decide_eq_false hk] at q'
              exact q'
          · rw [e]
            walk_at "rd"
            have : isNum (.tuple [.int i, .int j, c]) = false := by cases c <;> first | rfl | exact absurd rfl (hn _)
            rw [this] at q
            exact q
        · rw [e]
          walk_at "rd"
          have : isNum (.tuple [.int i, b, c]) = false := by cases b <;> first | rfl | exact absurd rfl (hn _)
          rw [this] at q
          exact q
      · rw [e]
        walk_at "rd"
        have : isNum (.tuple [a, b, c]) = false := by cases a <;> first | rfl | exact absurd rfl (hn _)
        rw [this] at q
        exact q
    · rw [FF hl] at q
      have : decide (((xs.length : Nat) : Int) = 3) = false := by simp; omega
      rw [this]
      simp only [Bool.xor_false, ↓reduceIte]
      exact q
  · rw [e]
    rw [FT hn] at q
    walk_at "rd"
    exact q
end
open PySem PySem.Spec PyProof.Rows NM
def jT : DTS :=
  (aM (bA (dOp aF (pE (ab (dC (.int 4)) (ab (dC (.int 10)) (ab (dC (.int 100)) (ab (dC (.int 1000000)) ar))))) (aq dh (ab (ae 0) (ab (dC (.int 4)) ar)))) (aw 1))
  (aM (yZ 2 3 (ab (qb (aq dh (ab (ae 0) (ab (ae 1) ar))) (wq (ae 1) (dC (.int 2)))) (ab (qb (aq dh (ab (ae 0) (ab (ae 1) ar))) (wq (ae 1) (dC (.int 2)))) ar)))
  (aM (bA (lH (dC (.int 1)) (aq dh (ab (ae 0) (ab (qb (ae 1) (dC (.int 1))) ar)))) (aw 4))
  (aM (bA (aq dh (ab (ae 0) (ab (dC (.int 8)) ar))) (aw 5))
  (bF (aq cS (ab (dOp aF (pE (ab (ae 2) (ab (ae 2) (ab (ae 2) (ab (ae 2) (ab (ae 2) (ab (ae 2) (ab (ae 2) (ab (dC (.int 0)) ar))))))))) (ae 5)) (ab (dOp aF (pE (ab (ae 3) (ab (ae 3) (ab (ae 3) (ab (ae 3) (ab (ae 3) (ab (dC (.int 0)) (ab (dC (.int 0)) (ab (ae 3) ar))))))))) (ae 5)) (ab (dOp aF (pE (ab (ae 4) (ab (ae 4) (ab (dC (.int 1)) (ab (ae 4) (ab (dC (.int 1)) (ab (ae 4) (ab (dC (.int 1)) (ab (ae 4) ar))))))))) (ae 5)) ar)))))))))
section
variable {μ : Mu} {Qd : DK} {ds : List D}
theorem pick {P : PyData → Prop} {xs : List PyData} {i : Int} (h0 : 0 ≤ i) (h1 : i < (xs.length : Nat)) (h : ∀ x ∈ xs, P x) : ∃ d, atI xs i = some d ∧ P d := let ⟨d, e, m⟩ := vf h0 h1; ⟨d, e, h d m⟩
theorem Step.refl {a : Addr} (h : Bag μ a) : Step a μ μ := ⟨h, fun _ _ => rfl⟩
theorem AK {i : Int} (h1 : -1048576 < i) (h2 : i < 1048576) : Sz 20 i := Sz.of (by show i.natAbs < 1048576; omega)
theorem wx (h : oV ds μ Qd) : jT { nx := fun _ μ' => Qd (.v .none) μ', rt := Qd } (aO ["_law_bag_here", "_law_wide", "_law_a", "_law_b", "_law_c", "_law_way"] ds) μ := by
  obtain ⟨a, rfl, hb, q⟩ := h
  unfold jT
  walk_at "rd"
  refine ⟨a, 4, rfl, by decide, by decide, hb, fun r0 μ1 h0 h1 s1 => ?_⟩
  walk_at "rd"
  obtain ⟨w, e, i, rfl, w0, w1⟩ := pick (P := fun d => ∃ i : Int, d = .int i ∧ 4 ≤ i ∧ i ≤ 1000000) (xs := [PyData.int 4, PyData.int 10, PyData.int 100, PyData.int 1000000]) h0 (by exact h1) (by
    intro x hx
    simp only [List.mem_cons, List.not_mem_nil, or_false] at hx
    rcases hx with rfl | rfl | rfl | rfl <;> exact ⟨_, rfl, by decide, by decide⟩)
  rw [e]
  walk_at "rd"
  refine ⟨a, i, rfl, by omega, by omega, s1.1, fun r1 μ2 h2 h3 s2 => ?_⟩
  walk_at "rd"
  refine ⟨divC (by decide) (by decide), a, i, rfl, by omega, by omega, s2.1, fun r2 μ3 h4 h5 s3 => ?_⟩
  walk_at "rd"
  refine ⟨divC (by decide) (by decide), a, i - 1, rfl, by omega, by omega, s3.1, fun r3 μ4 h6 h7 s4 => ?_⟩
  walk_at "rd"
  refine ⟨a, 8, rfl, by decide, by decide, s4.1, fun r4 μ5 h8 h9 s5 => ?_⟩
  walk_at "rd"
  have ef : i.fdiv 2 = i / 2 := Int.fdiv_eq_ediv_of_nonneg _ (by omega)
  rw [ef]
  have za : Sz 20 (r1 - i / 2) := AK (by omega) (by omega)
  have zb : Sz 20 (r2 - i / 2) := AK (by omega) (by omega)
  have zc : Sz 20 (1 + r3) := AK (by omega) (by omega)
  have z0 : Sz 20 0 := AK (by omega) (by omega)
  have z1 : Sz 20 1 := AK (by omega) (by omega)
  obtain ⟨d1, e1, i1, rfl, b1⟩ := pick (P := fun d => ∃ i : Int, d = .int i ∧ Sz 20 i) (xs := [PyData.int (r1 - i / 2), PyData.int (r1 - i / 2), PyData.int (r1 - i / 2), PyData.int (r1 - i / 2), PyData.int (r1 - i / 2), PyData.int (r1 - i / 2), PyData.int (r1 - i / 2), PyData.int 0]) h8 (by exact h9) (by
    intro x hx
    simp only [List.mem_cons, List.not_mem_nil, or_false] at hx
    rcases hx with rfl | rfl | rfl | rfl | rfl | rfl | rfl | rfl <;> exact ⟨_, rfl, by assumption⟩)
  rw [e1]
  walk_at "rd"
  obtain ⟨d2, e2, i2, rfl, b2⟩ := pick (P := fun d => ∃ i : Int, d = .int i ∧ Sz 20 i) (xs := [PyData.int (r2 - i / 2), PyData.int (r2 - i / 2), PyData.int (r2 - i / 2), PyData.int (r2 - i / 2), PyData.int (r2 - i / 2), PyData.int 0, PyData.int 0, PyData.int (r2 - i / 2)]) h8 (by exact h9) (by
    intro x hx
    simp only [List.mem_cons, List.not_mem_nil, or_false] at hx
    rcases hx with rfl | rfl | rfl | rfl | rfl | rfl | rfl | rfl <;> exact ⟨_, rfl, by assumption⟩)
  rw [e2]
  walk_at "rd"
  obtain ⟨d3, e3, i3, rfl, b3, p3⟩ := pick (P := fun d => ∃ i : Int, d = .int i ∧ Sz 20 i ∧ 0 < i) (xs := [PyData.int (1 + r3), PyData.int (1 + r3), PyData.int 1, PyData.int (1 + r3), PyData.int 1, PyData.int (1 + r3), PyData.int 1, PyData.int (1 + r3)]) h8 (by exact h9) (by
    intro x hx
    simp only [List.mem_cons, List.not_mem_nil, or_false] at hx
    rcases hx with rfl | rfl | rfl | rfl | rfl | rfl | rfl | rfl <;> exact ⟨_, rfl, by assumption, by omega⟩)
  rw [e3]
  walk_at "rd"
  have n3 : i3 ≠ 0 := by omega
  exact ⟨i1, i2, i3, rfl, n3, b3.mono (by decide), q _ _ (i8 _ _ n3) (kU n3 b1 b2 b3) (s1.trans (s2.trans (s3.trans (s4.trans s5))))⟩
end
open PySem PySem.Spec PyProof.Rows NM
def l6 : DTS :=
  (aM (dy (dB (dOp (eh false) (aq dh (ab (ae 0) (ab (dC (.int 2)) ar))) (dC (.int 0)))) (bF (dOp aF (pE (ab (dC (.int 2)) (ab (dC (.int 3)) (ab (dC (.int 5)) ar)))) (aq dh (ab (ae 0) (ab (dC (.int 3)) ar))))) cb)
  (aM (bA (tU [none] (wL (ab (dC (.int 2)) (ab (dC (.int 31)) ar))) (aw 0) (dB (dOp (Co true) (ae 0) (pE (ab (dC (.int 4)) (ab (dC (.int 9)) (ab (dC (.int 16)) (ab (dC (.int 25)) ar))))))) (ae 0)) (aw 1))
  (bF (dOp aF (ae 1) (aq dh (ab (ae 0) (ab (dC (.int 25)) ar)))))))
def ll : DTS :=
  (aM (bA (aq oV (ab (ae 0) ar)) (aw 2))
  (aM (bA (aq gb (ab (ae 1) (ab (ae 2) ar))) (aw 3))
  (aM (dy (dB (dOp (eh false) (ae 3) (dC (.int 0)))) (bF (en (ab (lH (dC (.int 1)) (aq dh (ab (ae 0) (ab (dC (.int 5)) ar)))) (ab (dC (.int 0)) (ab (dC (.int 1)) ar))))) cb)
  (bF (dIf (dB (dOp rGt (ae 3) (dC (.int 0)))) (ae 2) (aq ve (ab (ae 2) ar)))))))
section
variable {μ : Mu} {Qd : DK} {ds : List D}
theorem JF {lo : Int} {n : Nat} {x : PyData} (h : x ∈ nW lo n) : ∃ i : Int, x = .int i ∧ lo ≤ i ∧ i < lo + n := by
  unfold nW at h
  obtain ⟨k, hk, rfl⟩ := List.mem_map.mp h
  have := List.mem_range.mp hk
  exact ⟨_, rfl, by omega, by omega⟩
def B3 : PyData → Option PyData
  | .int i => if Ef i then some (.int i) else none
  | _ => none
def Ac : List PyData := [2, 3, 5, 6, 7, 8, 10, 11, 12, 13, 14, 15, 17, 18, 19, 20, 21, 22, 23, 24, 26, 27, 28, 29, 30].map PyData.int
theorem in4 (i : Int) : (List.any [PyData.int 4, PyData.int 9, PyData.int 16, PyData.int 25] fun b => PyData.eqv b (.int i)) = (decide (i = 4) || decide (i = 9) || decide (i = 16) || decide (i = 25)) := by
  have ev : ∀ j : Int, PyData.eqv (.int j) (.int i) = decide (i = j) := fun j => by rw [OK]; simp [eq_comm]
  simp only [List.any_cons, List.any_nil, ev, Bool.or_false, Bool.or_assoc]
theorem zd (h : vi ds μ Qd) : l6 { nx := fun _ μ' => Qd (.v .none) μ', rt := Qd } (aO ["_law_bag_here", "_law_some"] ds) μ := by
  obtain ⟨a, rfl, hb, q⟩ := h
  unfold l6
  walk_at "rd"
  refine ⟨a, 2, rfl, by decide, by decide, hb, fun r0 μ1 h0 h1 s1 => ?_⟩
  walk_at "rd"
  by_cases hr : r0 = 0
  · rw [if_pos (by simpa using hr)]
    refine ⟨a, 3, rfl, by decide, by decide, s1.1, fun r1 μ2 h2 h3 s2 => ?_⟩
    walk_at "rd"
    obtain ⟨w, e, i, rfl, w0⟩ := pick (P := fun d => ∃ i : Int, d = .int i ∧ ay i) (xs := [PyData.int 2, PyData.int 3, PyData.int 5]) h2 (by exact h3) (by
      intro x hx
      simp only [List.mem_cons, List.not_mem_nil, or_false] at hx
      rcases hx with rfl | rfl | rfl <;> exact ⟨_, rfl, by unfold ay; omega⟩)
    rw [e]
    exact q _ _ w0 (s1.trans s2)
  · rw [if_neg (by simpa using hr)]
    refine ⟨⟨by decide, by decide, by decide, by decide⟩, by decide, fun p hp => ⟨fun i acc μ' => acc = ((nW 2 29).take i).filterMap B3 ∧ μ' = aV μ1 p acc, ⟨rfl, rfl⟩, ?_, ?_⟩⟩
    · rintro i x acc μ' hx hpa ⟨e0, e1⟩
      obtain ⟨k, rfl, i0, i1⟩ := JF (List.mem_of_getElem? hx)
      refine ⟨trivial, rfl, rfl, by show 0 ≤ 60; decide, ?_⟩
      rw [in4]
      have i1' : k < 31 := by simpa using i1
      have e : B3 (.int k) = if Ef k then some (.int k) else none := rfl
      have e2 : Ef k = !(decide (k = 4) || decide (k = 9) || decide (k = 16) || decide (k = 25)) := by
        unfold Ef
        rw [decide_eq_true i0, decide_eq_true (show k ≤ 30 by omega)]
        rfl
      have ft : ((nW 2 29).take (i + 1)).filterMap B3 = ((nW 2 29).take i).filterMap B3 ++ (B3 (.int k)).toList := LO hx
      rw [e, e2] at ft
      cases hh : (decide (k = 4) || decide (k = 9) || decide (k = 16) || decide (k = 25))
      · rw [hh] at ft
        simp only [Bool.true_xor, Bool.not_false, ↓reduceIte] at ft ⊢
        refine ⟨hpa, ?_, ?_⟩
        · rw [ft, e0]; rfl
        · rw [e1, tF]
      · rw [hh] at ft
        simp only [Bool.true_xor, Bool.not_true, ↓reduceIte, Bool.false_eq_true] at ft ⊢
        refine ⟨hpa, ?_, e1⟩
        rw [ft, e0]; simp
    rintro acc μ' ⟨e0, e1⟩ _
    have ed : ji μ' p = μ1 := by rw [e1]; exact yi hp
    rw [ed]
    have e0' : acc = Ac := by rw [e0]; rfl
    rw [e0']
    refine ⟨a, 25, rfl, by decide, by decide, s1.1, fun r1 μ2 h2 h3 s2 => ?_⟩
    walk_at "rd"
    obtain ⟨w, e, i, rfl, w0⟩ := pick (P := fun d => ∃ i : Int, d = .int i ∧ ay i) (xs := Ac) h2 (by exact h3) (by
      intro x hx
      unfold Ac at hx
      obtain ⟨k, hk, rfl⟩ := List.mem_map.mp hx
      refine ⟨_, rfl, ?_⟩
      simp only [List.mem_cons, List.not_mem_nil, or_false] at hk
      unfold ay
      omega)
    rw [e]
    exact q _ _ w0 (s1.trans s2)
def EU : List PyData := [.none, .bool true, .bool false, .str "1", .str "", .int (-1), .int 0, .int 1, .int (10 ^ Int.toNat 59), .tuple [], .list [], .list [.int 0], .tuple [.int 0, .int 0], .tuple [.int 1, .int 0, .int 0], .tuple [.int 2, .int 0, .int 2], .tuple [.int 1, .bool true, .int 1], .tuple [.int 1, .int 1, .int (-1)], .list [.int 1, .int 0, .int 1], .tuple [.int 1, .int 0], .str "a"]
def ke : DSp := fun ds μ Q => ∃ (a : Addr) (d : Int), ds = [.m a, .v (.int d)] ∧ ay d ∧ Bag μ a ∧ ∀ x μ', Ok x → Bd 20 x → sg d x.a x.b = 1 → Step a μ μ' → Q (.v (dN x)) μ'
theorem w6 (h : ke ds μ Qd) : ll { nx := fun _ μ' => Qd (.v .none) μ', rt := Qd } (aO ["_law_bag_here", "_law_d", "_law_x", "_law_sign_here"] ds) μ := by
  obtain ⟨a, d, rfl, hd, hb, q⟩ := h
  unfold ll
  walk_at "rd"
  refine ⟨a, rfl, hb, fun x μ1 ox bx s1 => ?_⟩
  walk_at "rd"
  refine ⟨d, x, rfl, hd, bx.mono (by decide), ?_⟩
  walk_at "rd"
  have t := jR d x.a x.b
  by_cases h0 : sg d x.a x.b = 0
  · rw [if_pos (by simpa using h0)]
    refine ⟨a, 5, rfl, by decide, by decide, s1.1, fun r μ2 r0 r1 s2 => ?_⟩
    walk_at "rd"
    have ok : Ok ⟨1 + r, 0, 1⟩ := ⟨by show (0 : Int) < 1; decide, by unfold g3; simp⟩
    refine q ⟨1 + r, 0, 1⟩ μ2 ok ⟨AK (by show -1048576 < 1 + r; omega) (by show 1 + r < 1048576; omega), AK (by show -1048576 < (0 : Int); decide) (by show (0 : Int) < 1048576; decide), AK (by show -1048576 < (1 : Int); decide) (by show (1 : Int) < 1048576; decide)⟩ ?_ (s1.trans s2)
    show sg d (1 + r) 0 = 1
    unfold sg
    rw [if_neg (by omega), if_pos (by omega)]
  · rw [if_neg (by simpa using h0)]
    by_cases h1 : 0 < sg d x.a x.b
    · rw [if_pos (by simpa using h1)]
      exact q x μ1 ox bx (by omega) s1
    · rw [if_neg (by simpa using h1)]
      refine ⟨x, rfl, ?_⟩
      refine q (minus x) μ1 (Hg ox) (ID bx) ?_ s1
      show sg d (-x.a) (-x.b) = 1
      rw [Dv hd]
      omega
end
open PySem PySem.Spec PyProof.Rows NM
section
variable {μ : Mu} {Q : DK} {ds : List D}
def wO : DSp := fun ds μ Q => ∃ ns : List Int, ds = [.s ns] ∧ ns.length ≤ 63 ∧ ∀ μ', Q (.v (.bool true)) μ'
theorem BK (h : oW ds μ Q) : ds.length = 1 := by obtain ⟨_, rfl, _⟩ := h; rfl
theorem ym (h : sD ds μ Q) : ds.length = 2 := by obtain ⟨_, _, rfl, _⟩ := h; rfl
theorem C8 (h : wR ds μ Q) : ds.length = 3 := by obtain ⟨_, _, _, rfl, _⟩ := h; rfl
theorem DC (h : v7 ds μ Q) : ds.length = 1 := by obtain ⟨_, rfl, _⟩ := h; rfl
theorem rn (h : cS ds μ Q) : ds.length = 3 := by obtain ⟨_, _, _, rfl, _⟩ := h; rfl
theorem C3 (h : eN ds μ Q) : ds.length = 1 := by obtain ⟨_, rfl, _⟩ := h; rfl
theorem A0 (h : ve ds μ Q) : ds.length = 1 := by obtain ⟨_, rfl, _⟩ := h; rfl
theorem wZ (h : fF ds μ Q) : ds.length = 2 := by obtain ⟨_, _, rfl, _⟩ := h; rfl
theorem Cy (h : vJ ds μ Q) : ds.length = 2 := by obtain ⟨_, _, rfl, _⟩ := h; rfl
theorem uI (h : aU ds μ Q) : ds.length = 3 := by obtain ⟨_, _, _, rfl, _⟩ := h; rfl
theorem nV (h : bW ds μ Q) : ds.length = 2 := by obtain ⟨_, _, rfl, _⟩ := h; rfl
theorem Cg (h : kO ds μ Q) : ds.length = 3 := by obtain ⟨_, _, _, rfl, _⟩ := h; rfl
theorem BA (h : rq ds μ Q) : ds.length = 3 := by obtain ⟨_, _, _, rfl, _⟩ := h; rfl
theorem wt (h : gb ds μ Q) : ds.length = 2 := by obtain ⟨_, _, rfl, _⟩ := h; rfl
theorem BE (h : vh ds μ Q) : ds.length = 3 := by obtain ⟨_, _, _, rfl, _⟩ := h; rfl
theorem E3 (h : ED ds μ Q) : ds.length = 2 := by obtain ⟨_, _, rfl, _⟩ := h; rfl
theorem C0 (h : dh ds μ Q) : ds.length = 2 := by obtain ⟨_, _, rfl, _⟩ := h; rfl
theorem xV (h : oV ds μ Q) : ds.length = 1 := by obtain ⟨_, rfl, _⟩ := h; rfl
theorem Bc (h : vi ds μ Q) : ds.length = 1 := by obtain ⟨_, rfl, _⟩ := h; rfl
theorem zQ (h : ke ds μ Q) : ds.length = 2 := by obtain ⟨_, _, rfl, _⟩ := h; rfl
theorem FO (h : wO ds μ Q) : ds.length = 1 := by obtain ⟨_, rfl, _⟩ := h; rfl
end
structure L9 (K : PySem.W.Frag) (mg : Str → Option Value) (x : Str) (g : Addr) (a b c : Int) : Prop where
  m : mg x = some (.ref g)
  l : ∃ (od : Option Addr) (n : Nat) (sl : Array (Option Value)) (t u v : Tok), K.lookup g = some ⟨.type "tuple", od, .seq #[.int a t, .int b u, .int c v] n, sl⟩
theorem fL {X : Cx} {x : Str} {g : Addr} {a b c : Int} {pos : Pos} (hg : Gl X x) (h : L9 X.K X.mg x g a b c) (hd : (x == ("__debug__" : Str)) = false := by decide) : DE X (.Name x pos) (dC (.tuple [.int a, .int b, .int c])) := by
  obtain ⟨od, n, sl, t, u, v, e⟩ := h.l
  refine Ez (u := .ref g) hg h.m rfl (fun μ H _ => Rp.tuple (xs := [.int a, .int b, .int c]) (.inr ⟨_, _, _, e, rfl, rfl, (by show 3 ≤ sizeLine; decide), .cons ⟨t, rfl⟩ (.cons ⟨u, rfl⟩ (.cons ⟨v, rfl⟩ .nil))⟩) (.cons (.int a) (.cons (.int b) (.cons (.int c) .nil)))) hd
theorem FA {K : PySem.W.Frag} {H : Hp} {a : Addr} {ns : List Int} (hl : ns.length ≤ 63) (hT : AQ K H) (hS : SqL K H a (ns.map V.int)) : spD K wO [.ref a] H (fun v _ => v = .bl true) fun _ _ _ => False := by
  refine ⟨[.s ns], fun _ => none, fun d _ => d = .v (.bool true), ⟨fun a ds h => (by cases h), hT⟩, .cons ⟨a, rfl, hS, rfl⟩ .nil, ⟨ns, rfl, hl, fun _ => rfl⟩, fun d u μ' H' _ _ r q => ?_⟩
  subst q
  cases r
  rfl
open PySem PySem.Spec PyProof.Rows NM
section
variable {μ : Mu} {Q : DK} {ds : List D} {x y : N3}
theorem Nm (a b c : Int) : PyData.tuple [.int a, .int b, .int c] = dN ⟨a, b, c⟩ := rfl
theorem LQ : aF (.v (dN x)) (.v (.int 0)) μ Q = Q (.v (.int x.a)) μ := by unfold dN; rw [Dz]
theorem M4 : aF (.v (dN x)) (.v (.int 1)) μ Q = Q (.v (.int x.b)) μ := by unfold dN; rw [CI]
theorem L3 : aF (.v (dN x)) (.v (.int 2)) μ Q = Q (.v (.int x.c)) μ := by unfold dN; rw [Cj]
theorem eqN : PyData.eqv (dN x) (dN y) = decide (x = y) := by
  unfold dN
  rw [NC, Bool.eq_iff_iff]
  simp only [decide_eq_true_eq]
  exact ⟨fun h => N3.ext' h.1 h.2.1 h.2.2, fun h => by subst h; exact ⟨rfl, rfl, rfl⟩⟩
theorem NU {neg : Bool} : eh neg (.v (dN x)) (.v (dN y)) μ Q = Q (.v (.bool (neg ^^ decide (x = y)))) μ := by
  rw [El, eqN]
  exact propext ⟨fun h => h.2.2, fun h => ⟨rfl, rfl, h⟩⟩
theorem nR (h : Ok x) : isNum (dN x) = true := by
  have := h.c
  show (decide (1 ≤ x.c) && (g3 x.a x.b x.c == 1)) = true
  rw [h.g]
  simp; omega
theorem Ek : Few (dN x) := by simp [dN, Few]
theorem Ia {d a b c : Int} (h : ay d) (hc : 0 < c) : sg d (low a b c).a (low a b c).b = sg d a b := by
  obtain ⟨k, hk, hs, p1, p2, p3, _⟩ := ki a b (show c ≠ 0 by omega)
  have e := nA (a := (low a b c).a) (b := (low a b c).b) h (hs.mpr hc)
  rw [← p1, ← p2] at e
  exact e.symm
theorem Gn {d : Int} (h : ay d) (ox : Ok x) (oy : Ok y) : sg d (times d x y).a (times d x y).b = sg d x.a x.b * sg d y.a y.b := by
  unfold times
  rw [Ia h (Int.mul_pos ox.c oy.c), yV h]
theorem J8 {d : Int} (h : ay d) (ox : Ok x) (oy : Ok y) : sg d (less x y).a (less x y).b = dif d x y := by
  unfold less dif
  rw [Ia h (Int.mul_pos ox.c oy.c)]
theorem IY {d : Int} : dif d x x = 0 := by unfold dif; rw [Int.sub_self, Int.sub_self]; exact dI.mpr ⟨rfl, rfl⟩
theorem Gu {d a b : Int} : (sg d a b).natAbs < 2 ^ 64 := by have := jR d a b; omega
theorem EA {lo : Int} {n i : Nat} {x : PyData} (h : (nW lo n)[i]? = some x) : x = .int (lo + i) ∧ i < n := by
  unfold nW at h
  rw [List.getElem?_map] at h
  by_cases hi : i < n
  · rw [List.getElem?_range hi] at h
    cases h
    exact ⟨rfl, hi⟩
  · rw [List.getElem?_eq_none (by simpa using hi)] at h
    cases h
theorem Dm {lo : Int} {n : Nat} : (nW lo n).length = n := by unfold nW; simp
theorem vo (a : Int) : Ok ⟨a, 0, 1⟩ := ⟨by show (0 : Int) < 1; decide, by unfold g3; simp⟩
end
open PySem PySem.Spec PyProof.Rows NM
local macro_rules | `(tactic| walk_at "rn") => `(tactic| simp only [↓GP, ↓Ik, ↓GG, ↓HR, ↓G8, ↓GS, ↓HE, ↓Ip, ↓IA, ↓Hf, ↓Ed, ↓q_c, ↓Ot, ↓q_B, ↓N0, ↓K2, ↓Ll, ↓IZ, ↓KW, ↓HU, ↓HL, ↓Lk, ↓Iq, ↓Ox, ↓Lf, ↓GA, ↓KU, ↓KP, ↓Gs, ↓Ku, ↓Ks, ↓Kt, ↓KY, ↓K8, ↓KG, ↓KN, ↓Hr, ↓Hq, ↓Ja, ↓Dz, ↓CI, ↓Cj, ↓HV, ↓Bh, ↓yu, ↓Ld, ↓Ky, ↓K9, ↓HP, ↓Hw, ↓Jb, ↓IT, ↓Hm, ↓N7, ↓BS, ↓G1, ↓Lc, ↓KJ, ↓KC, ↓Nl, ↓GO, ↓HY, ↓Gr, ↓IP, ↓K0, ↓Om, ↓IF, ↓GN, ↓DV, ↓Eu, ↓K5, ↓Kv, ↓KS, ↓Lh, ↓Ee, ↓HA, ↓En, ↓Hl, ↓GR, ↓KO, ↓K1, ↓IM, ↓Jc, ↓Kw, ↓HS, ↓KA, ↓EN, ↓HG, ↓K4, ↓Lm, ↓IQ, ↓EO, ↓Gi, ↓Cb, ↓D6, ↓B4, ↓Bu, ↓EJ, ↓A5, ↓BI, ↓Bi, ↓Lb, Gz, ↓H0, ↓ES, Iz, Hn, Kx, KQ, K6, Option.bind_none, Option.bind_some, Option.join_some, List.getElem?_cons_zero, List.getElem?_cons_succ, aO, Nm, LQ, M4, L3, NU, uQ, A4, AF, EK, Ie, List.map, List.append, List.replicate, List.length_cons, List.length_nil, Nat.reduceAdd, Nat.reduceSub, List.nil_append, List.cons_append, List.set_cons_zero, List.set_cons_succ, Option.map_some, ↓reduceIte, Bool.not_true, Bool.not_false, Bool.false_eq_true, Bool.true_eq_false, Bool.xor_false, Bool.false_xor])
def lj (d : Int) : PyData → Bool
  | .tuple [.int a, .int b, .int c] => isNum (.tuple [.int a, .int b, .int c]) && decide (sg d a b = 1)
  | _ => false
def lO : DSp := fun ds μ Q => ∃ (d : Int) (t : PyData), ds = [.v (.int d), .v t] ∧ ay d ∧ Few t ∧ (∀ x, t = dN x → Bd 8900 x) ∧ Q (.v (.bool (lj d t))) μ
theorem zr {μ : Mu} {Q : DK} {ds : List D} (h : lO ds μ Q) : ds.length = 2 := by obtain ⟨_, _, rfl, _⟩ := h; rfl
def dX : DSp := fun ds μ Q => ∃ (d : Int) (x : N3), ds = [.v (.int d), .v (dN x)] ∧ ay d ∧ Ok x ∧ Bd 8900 x ∧ sg d x.a x.b = 1 ∧ Q (.v .none) μ
theorem u9 {μ : Mu} {Q : DK} {ds : List D} (h : dX ds μ Q) : ds.length = 2 := by obtain ⟨_, _, rfl, _⟩ := h; rfl
def rN : DSp := fun ds μ Q => ∃ (d : Int) (x : N3), ds = [.v (.int d), .v (dN x)] ∧ ay d ∧ Ok x ∧ Bd 450 x ∧ sg d x.a x.b = 1 ∧ Q (.v (dN (dF d x))) μ
theorem Bb {μ : Mu} {Q : DK} {ds : List D} (h : rN ds μ Q) : ds.length = 2 := by obtain ⟨_, _, rfl, _⟩ := h; rfl
def yp (a : Addr) (μ μ' : Mu) : Prop := Bag μ' a ∧ ∀ b, b ≠ a → ∀ ds, μ b = some ds → μ' b = some ds
structure KindsOk (d : Int) (ks : List N3) : Prop where
  l1 : 1 ≤ ks.length
  l3 : ks.length ≤ 3
  ok : ∀ k ∈ ks, Ok k ∧ Bd 60 k ∧ sg d k.a k.b = 1
def rh : DSp := fun ds μ Q => ∃ (a : Addr) (d : Int), ds = [.m a, .v (.int d)] ∧ ay d ∧ Bag μ a ∧ ∀ ks μ', KindsOk d ks → yp a μ μ' → Q (.v (.tuple (ks.map dN))) μ'
theorem zD {μ : Mu} {Q : DK} {ds : List D} (h : rh ds μ Q) : ds.length = 2 := by obtain ⟨_, _, rfl, _⟩ := h; rfl
structure Fr0 (x : N3) : Prop where
  ok : Ok x
  b : x.b = 0
  a0 : 0 ≤ x.a
  a1 : x.a < 16384
  c1 : x.c < 16384
def pf : DSp := fun ds μ Q => ∃ a : Addr, ds = [.m a] ∧ Bag μ a ∧ ∀ x μ', Fr0 x → 0 < x.a → Step a μ μ' → Q (.v (dN x)) μ'
theorem B6 {μ : Mu} {Q : DK} {ds : List D} (h : pf ds μ Q) : ds.length = 1 := by obtain ⟨_, rfl, _⟩ := h; rfl
def nN : DSp := fun ds μ Q => ∃ (a : Addr) (d : Int) (ks : List N3), ds = [.m a, .v (.int d), .v (.tuple (ks.map dN))] ∧ ay d ∧ KindsOk d ks ∧ Bag μ a ∧ ∀ x μ', Ok x → Bd 230 x → sg d x.a x.b = 1 → Step a μ μ' → Q (.v (dN x)) μ'
theorem yD {μ : Mu} {Q : DK} {ds : List D} (h : nN ds μ Q) : ds.length = 3 := by obtain ⟨_, _, _, rfl, _⟩ := h; rfl
def gm : DTS :=
  (bF (vK (aq v7 (ab (ae 1) ar)) (dOp (eh false) (aq gb (ab (ae 0) (ab (ae 1) ar))) (dC (.int 1)))))
def dO : DTS :=
  (dy (hU (dB (aq lO (ab (ae 0) (ab (ae 1) ar))))) uf cb)
def k9 : DTS :=
  (aM (bA (Em (ab (aq ke (ab (ae 0) (ab (ae 1) ar))) ar)) (aw 2))
  (aM (Al (vH (ab (aq dh (ab (ae 0) (ab (dC (.int 3)) ar))) ar)) (aw 3) (aM (bA (aq dh (ab (ae 0) (ab (dC (.int 6)) ar))) (aw 4))
  (aM (bA (en (ab (lH (dC (.int 1)) (aq dh (ab (ae 0) (ab (dC (.int 9)) ar)))) (ab (dC (.int 0)) (ab (lH (dC (.int 1)) (aq dh (ab (ae 0) (ab (dC (.int 9)) ar)))) ar)))) (aw 5))
  (aM (bA (dOp aF (pE (ab (dOp aF (ae 2) (dC (.int 0))) (ab (aq bW (ab (ae 1) (ab (dOp aF (ae 2) (dC (.int 0))) ar))) ar))) (wX (ae 4) (dC (.int 2)))) (aw 6))
  (aM (dy (dB (dOp rGt (ae 4) (dC (.int 3)))) (bA (aq ke (ab (ae 0) (ab (ae 1) ar))) (aw 6)) (dy (dB (dOp rGt (ae 4) (dC (.int 1)))) (bA (aq aU (ab (ae 1) (ab (ae 6) (ab (aq cS (ab (dOp aF (ae 5) (dC (.int 0))) (ab (dOp aF (ae 5) (dC (.int 1))) (ab (dOp aF (ae 5) (dC (.int 2))) ar)))) ar)))) (aw 6)) cb))
  (nO (J3 (ae 2) (ae 6))))))))
  (bF (dCB jo (ab (ae 2) ar)))))
def iG : DTS :=
  (aM (bA (dOp aF (pE (ab (dC (.int 2)) (ab (dC (.int 9)) (ab (dC (.int 9)) (ab (dC (.int 9999)) ar))))) (aq dh (ab (ae 0) (ab (dC (.int 4)) ar)))) (aw 1))
  (bF (aq cS (ab (lH (dC (.int 1)) (aq dh (ab (ae 0) (ab (ae 1) ar)))) (ab (dC (.int 0)) (ab (lH (dC (.int 1)) (aq dh (ab (ae 0) (ab (ae 1) ar)))) ar))))))
def lq : DTS :=
  (aM (bA (dOp aF (ae 2) (aq dh (ab (ae 0) (ab (dCB fK (ab (ae 2) ar)) ar)))) (aw 3))
  (aM (bA (dOp aF (ae 2) (aq dh (ab (ae 0) (ab (dCB fK (ab (ae 2) ar)) ar)))) (aw 4))
  (aM (yZ 5 6 (ab (aq pf (ab (ae 0) ar)) (ab (aq pf (ab (ae 0) ar)) ar)))
  (aM (bA (aq dh (ab (ae 0) (ab (dC (.int 10)) ar))) (aw 7))
  (aM (bA (aq bW (ab (ae 1) (ab (ae 3) ar))) (aw 8))
  (aM (bA (pE (ab (aq ke (ab (ae 0) (ab (ae 1) ar))) (ab (aq aU (ab (ae 1) (ab (ae 3) (ab (ae 5) ar)))) (ab (aq aU (ab (ae 1) (ab (ae 8) (ab (ae 5) ar)))) (ab (aq fF (ab (aq aU (ab (ae 1) (ab (ae 3) (ab (ae 5) ar)))) (ab (aq aU (ab (ae 1) (ab (ae 8) (ab (ae 6) ar)))) ar))) (ab (aq fF (ab (ae 3) (ab (aq aU (ab (ae 1) (ab (ae 4) (ab (ae 6) ar)))) ar))) (ab (ae 5) (ab (aq aU (ab (ae 1) (ab (en (ab (dC (.int 0)) (ab (dC (.int 1)) (ab (dC (.int 1)) ar)))) (ab (ae 5) ar)))) (ab (aq fF (ab (aq aU (ab (ae 1) (ab (ae 8) (ab (ae 5) ar)))) (ab (en (ab (dC (.int 0)) (ab (dC (.int 1)) (ab (dC (.int 999999)) ar)))) ar))) (ab (aq fF (ab (aq aU (ab (ae 1) (ab (ae 3) (ab (ae 5) ar)))) (ab (aq aU (ab (ae 1) (ab (ae 6) (ab (en (ab (dC (.int 1)) (ab (dC (.int 0)) (ab (dC (.int 99999)) ar)))) ar)))) ar))) (ab (aq ke (ab (ae 0) (ab (ae 1) ar))) ar))))))))))) (aw 9))
  (bF (dOp aF (ae 9) (ae 7)))))))))
def hW : DTS :=
  (aM (nO (aq dX (ab (ae 0) (ab (ae 1) ar))))
  (aM (bA (aq fF (ab (ae 1) (ab (aq eN (ab (ae 1) ar)) ar))) (aw 2))
  (bF (aq kO (ab (ae 0) (ab (aq aU (ab (ae 0) (ab (ae 2) (ab (ae 2) ar)))) (ab (aq aU (ab (ae 0) (ab (ae 1) (ab (aq eN (ab (ae 1) ar)) ar)))) ar)))))))
section
variable {μ : Mu} {Qd : DK} {ds : List D}
theorem FZ {x y : Int} (h : 0 < x * y) (hy : 0 < y) : 0 < x := by
  rcases Int.lt_trichotomy 0 x with z | z | z
  · exact z
  · rw [← z, Int.zero_mul] at h; omega
  · have := Int.mul_neg_of_neg_of_pos z hy; omega
theorem rP {d : Int} {x : N3} (ox : Ok x) : lj d (dN x) = decide (sg d x.a x.b = 1) := by
  show (isNum (dN x) && decide (sg d x.a x.b = 1)) = _
  rw [nR ox, Bool.true_and]
theorem wB {d : Int} {t : PyData} (h : isNum t = false) : lj d t = false := by
  unfold lj
  split
  · rw [h, Bool.false_and]
  · rfl
theorem Du {t : PyData} (h : isNum t = true) : ∃ x : N3, t = dN x ∧ Ok x := by
  unfold isNum at h
  split at h
  · rename_i a b c
    simp only [Bool.and_eq_true, decide_eq_true_eq, beq_iff_eq] at h
    exact ⟨⟨a, b, c⟩, rfl, by show 0 < c; omega, h.2⟩
  · cases h
theorem qg (h : lO ds μ Qd) : gm { nx := fun _ μ' => Qd (.v .none) μ', rt := Qd } (aO ["d", "thing"] ds) μ := by
  obtain ⟨d, t, rfl, hd, ft, bt, q⟩ := h
  unfold gm
  walk_at "rn"
  refine ⟨t, rfl, ft, ?_⟩
  walk_at "rn"
  cases e : isNum t with
  | true =>
    walk_at "rn"
    obtain ⟨x, rfl, ox⟩ := Du e
    refine ⟨d, x, rfl, hd, bt x rfl, ?_⟩
    walk_at "rn"
    rw [rP ox] at q
    exact q
  | false =>
    walk_at "rn"
    rw [wB e] at q
    exact q
theorem lJ (h : dX ds μ Qd) : dO { nx := fun _ μ' => Qd (.v .none) μ', rt := Qd } (aO ["d", "thing"] ds) μ := by
  obtain ⟨d, x, rfl, hd, ox, bx, hx, q⟩ := h
  unfold dO
  walk_at "rn"
  refine ⟨d, dN x, rfl, hd, Ek, fun y e => ?_, ?_⟩
  · have : y = x := by
      simp only [dN, PyData.tuple.injEq, List.cons.injEq, PyData.int.injEq, and_true] at e
      exact N3.ext' e.1.symm e.2.1.symm e.2.2.symm
    rw [this]; exact bx
  · walk_at "rn"
    rw [rP ox, hx]
    simp only [decide_true, Bool.not_true, Bool.false_eq_true, ↓reduceIte]
    exact q
theorem tJ (h : rN ds μ Qd) : hW { nx := fun _ μ' => Qd (.v .none) μ', rt := Qd } (aO ["d", "shape", "together"] ds) μ := by
  obtain ⟨d, x, rfl, hd, ox, bx, hx, q⟩ := h
  have s5 := iN hd.1 hd.2.1
  have omx := aB ox
  have bmx := dJ bx
  have op := aT ox omx
  have bp := eO ox omx bx bmx
  have nx := aJ hd ox hx
  have ot := ai (d := d) ox omx
  unfold hW
  walk_at "rn"
  refine ⟨d, x, rfl, hd, ox, bx.mono (by decide), hx, ?_⟩
  walk_at "rn"
  refine ⟨x, rfl, x, aX x, rfl, ox, omx, bx.mono (by decide), bmx.mono (by decide), ?_⟩
  walk_at "rn"
  refine ⟨d, _, _, rfl, s5, op, op, bp.mono (by decide), bp.mono (by decide), ?_⟩
  walk_at "rn"
  have hy : times d x (aX x) ≠ ax := fun e => by
    have := ph hd ox nx
    rw [e] at this
    exact this (by unfold norm ax; simp)
  exact ⟨x, rfl, d, x, aX x, rfl, s5, ox, omx, bx.mono (by decide), bmx.mono (by decide), d, _, _, rfl, hd, ai op op, ot, hy, (aK s5 op op bp bp).mono (by decide), (aK s5 ox omx bx bmx).mono (by decide), q⟩
theorem GF {x y : N3} (e : dN x = dN y) : x = y := by
  simp only [dN, PyData.tuple.injEq, List.cons.injEq, PyData.int.injEq, and_true] at e
  exact N3.ext' e.1 e.2.1 e.2.2
theorem BQ {n : Nat} {d : Int} {x : N3} (s5 : Sz 5 d) (hd : ay d) (ox : Ok x) (nx : norm d x ≠ 0) (bx : Bd n x) : Bd ((n + n + 1) + (n + n + 1) + 6 + (2 * (n + n + 6) + 6) + 6) (dF d x) := by
  have omx := aB ox
  have bmx := dJ bx
  have op := aT ox omx
  have bp := eO ox omx bx bmx
  have np := ph hd ox nx
  exact aK s5 (ai op op) (az np) (aK s5 op op bp bp) (bJ s5 np (aK s5 ox omx bx bmx))
def OZ (d : Int) (t : PyData) : Prop := Few t ∧ (∀ x, t = dN x → Bd 8900 x) ∧ lj d t = false
theorem Oz {d : Int} {t : PyData} (h : t ∈ EU) : OZ d t := by
  unfold EU at h
  simp only [List.mem_cons, List.not_mem_nil, or_false] at h
  rcases h with rfl | rfl | rfl | rfl | rfl | rfl | rfl | rfl | rfl | rfl | rfl | rfl | rfl | rfl | rfl | rfl | rfl | rfl | rfl | rfl
  all_goals
    refine ⟨by simp [Few], ?_, by first | rfl | exact wB (by decide +kernel)⟩
    (intro x e
     simp only [dN, PyData.tuple.injEq, List.cons.injEq, PyData.int.injEq, and_true, reduceCtorEq, false_and, and_false, List.nil_eq] at e
     try (obtain ⟨e1, e2, e3⟩ := e
          exact ⟨Sz.of (by rw [← e1]; decide +kernel), Sz.of (by rw [← e2]; decide +kernel), Sz.of (by rw [← e3]; decide +kernel)⟩))
theorem yp.trans {a : Addr} {μ μ1 μ2 : Mu} (h : yp a μ μ1) (g : yp a μ1 μ2) : yp a μ μ2 := ⟨g.1, fun b n ds e => g.2 b n ds (h.2 b n ds e)⟩
theorem Step.w {a : Addr} {μ μ' : Mu} (h : Step a μ μ') : yp a μ μ' := ⟨h.1, fun b n ds e => by rw [h.2 b n]; exact e⟩
def A3 (a p : Addr) (d : Int) (x : N3) (μ : Mu) (i : Nat) (ρ : Rho) (μ' : Mu) : Prop := ∃ (ks : List N3) (r3 r4 r5 r6 : Option D), ρ = [some (.m a), some (.v (.int d)), some (.m p), r3, r4, r5, r6] ∧ Bag μ' a ∧ (∀ b, b ≠ a → ∀ ds, μ b = some ds → μ' b = some ds) ∧ μ' p = some ((x :: ks).map dN) ∧ ks.length = i ∧ (∀ k ∈ x :: ks, Ok k ∧ Bd 60 k ∧ sg d k.a k.b = 1)
theorem xi (h : rh ds μ Qd) : k9 { nx := fun _ μ' => Qd (.v .none) μ', rt := Qd } (aO ["_law_bag_here", "_law_d", "_law_found", "_law_turn", "_law_way", "_law_part", "_law_kind"] ds) μ := by
  obtain ⟨a, d, rfl, hd, hb, q⟩ := h
  have s5 := iN hd.1 hd.2.1
  unfold k9
  walk_at "rn"
  refine ⟨a, d, rfl, hd, hb, fun x μ1 ox bx sx s1 => ?_⟩
  walk_at "rn"
  intro p hp
  have hap : a ≠ p := fun z => by obtain ⟨g, m, e, _⟩ := s1.1; rw [z, hp] at e; cases e
  have sb : Bag (aV μ1 p [dN x]) a := by obtain ⟨g, m, e, z⟩ := s1.1; exact ⟨g, m, by rw [dP hap]; exact e, z⟩
  rw [yd]
  walk_at "rn"
  refine ⟨a, 3, rfl, by decide, by decide, sb, fun n μ2 n0 n1 s2 => ?_⟩
  walk_at "rn"
  have keep2 : ∀ b, b ≠ a → ∀ ds, μ b = some ds → μ2 b = some ds := fun b hb' ds e => by
    have e1 := (s1.2 b hb').trans e
    have : b ≠ p := fun z => by rw [z, hp] at e1; cases e1
    rw [s2.2 b hb', dP this]; exact e1
  have hp2 : μ2 p = some ([x].map dN) := by rw [s2.2 p (fun z => hap z.symm)]; exact cw
  refine ⟨⟨by omega, by omega⟩, A3 a p d x μ, ⟨[], _, _, _, _, rfl, s2.1, keep2, hp2, rfl, fun k hk => by rw [List.mem_singleton.mp hk]; exact ⟨ox, bx.mono (by decide), sx⟩⟩, ?_, ?_⟩
  · rintro i v ρ μ3 hv ⟨ks, r3, r4, r5, r6, rfl, hb3, kp, hpk, hl, hok⟩
    obtain ⟨rfl, hi⟩ := EA hv
    have hi2 : i < 2 := by omega
    walk_at "rn"
    refine ⟨a, 6, rfl, by decide, by decide, hb3, fun way μ4 w0 w1 s4 => ?_⟩
    walk_at "rn"
    refine ⟨a, 9, rfl, by decide, by decide, s4.1, fun t μ5 t0 t1 s5' => ?_⟩
    walk_at "rn"
    refine ⟨a, 9, rfl, by decide, by decide, s5'.1, fun u μ6 u0 u1 s6 => ?_⟩
    walk_at "rn"
    have s46 := s4.trans (s5'.trans s6)
    have hp6 : μ6 p = some (dN x :: ks.map dN) := by rw [s46.2 p (fun z => hap z.symm)]; exact hpk
    simp only [hp6]
    walk_at "rn"
    have nx := aJ hd ox sx
    have ocx := az nx
    have bcx := bJ s5 nx bx
    refine ⟨d, x, rfl, s5, nx, bx.mono (by decide), ?_⟩
    walk_at "rn"
    obtain ⟨m0, m1⟩ := lR way (show (0 : Int) < 2 by decide)
    obtain ⟨_, e1, k1, rfl, ok1, bk1, sk1⟩ := pick (P := fun v => ∃ k, v = dN k ∧ Ok k ∧ Bd 46 k ∧ sg d k.a k.b = 1) (xs := [dN x, dN (av d x)]) m0 (by exact m1) (by
      intro v hv
      simp only [List.mem_cons, List.not_mem_nil, or_false] at hv
      rcases hv with rfl | rfl
      · exact ⟨_, rfl, ox, bx.mono (by decide), sx⟩
      · exact ⟨_, rfl, ocx, bcx.mono (by decide), dY hd ox sx⟩)
    rw [e1]
    refine ⟨by decide, ?_⟩
    walk_at "rn"
    have fin : ∀ (μ7 : Mu) (k : N3) (r3 r4 r5 : Option D), Step a μ6 μ7 → Ok k → Bd 60 k → sg d k.a k.b = 1 → J3 (ae 2) (ae 6) [some (.m a), some (.v (.int d)), some (.m p), r3, r4, r5, some (.v (dN k))] μ7 (fun _ μ' => A3 a p d x μ (i + 1) [some (.m a), some (.v (.int d)), some (.m p), r3, r4, r5, some (.v (dN k))] μ') := fun μ7 k r3 r4 r5 s7 ok bk sk => by
      have s47 := s46.trans s7
      have hp7 : μ7 p = some (dN x :: ks.map dN) := by rw [s47.2 p (fun z => hap z.symm)]; exact hpk
      walk_at "rn"
      simp only [hp7]
      refine ⟨by simp; omega, ks ++ [k], _, _, _, _, rfl, ?_, fun b hb' ds e => ?_, ?_, by simp [hl], fun z hz => ?_⟩
      · obtain ⟨g, m, e, z⟩ := s47.1; exact ⟨g, m, by rw [dP hap]; exact e, z⟩
      · have h3 := kp b hb' ds e
        by_cases hbp : b = p
        · subst hbp
          exfalso
          have e1 := (s1.2 b hb').trans e
          rw [hp] at e1; cases e1
        · rw [dP hbp, s47.2 b hb']; exact h3
      · rw [cw]; simp
      · rcases List.mem_cons.mp hz with z' | z'
        · exact hok z (by rw [z']; exact List.mem_cons_self)
        · rcases List.mem_append.mp z' with z'' | z''
          · exact hok z (List.mem_cons_of_mem _ z'')
          · rw [List.mem_singleton.mp z'']; exact ⟨ok, bk, sk⟩
    by_cases c1 : 3 < way
    · rw [if_pos (by simpa using c1)]
      refine ⟨a, d, rfl, hd, s6.1, fun k μ7 ok bk sk s7 => ?_⟩
      have := fin μ7 k (some (.v (.int (0 + (i : Int))))) (some (.v (.int way))) (some (.v (dN ⟨1 + t, 0, 1 + u⟩))) s7 ok (bk.mono (by decide)) sk
      walk_at "rn"
      exact this
    · rw [if_neg (by simpa using c1)]
      by_cases c2 : 1 < way
      · rw [if_pos (by simpa using c2)]
        have un : 1 + u ≠ 0 := by omega
        have z4 : ∀ v : Int, 0 ≤ v → v < 9 → Sz 4 (1 + v) := fun v h1 h2 => Sz.of (by show (1 + v).natAbs < 16; omega)
        have op := i8 (1 + t) 0 un
        have bp : Bd 4 (low (1 + t) 0 (1 + u)) := kU un (z4 t t0 t1) (Sz.of (by show (0 : Int).natAbs < 16; decide)) (z4 u u0 u1)
        have hp' : sg d (low (1 + t) 0 (1 + u)).a (low (1 + t) 0 (1 + u)).b = 1 := by
          rw [EH hd (by omega)]
          unfold sg
          rw [if_neg (by omega), if_pos (by omega)]
        refine ⟨_, _, _, rfl, un, (z4 u u0 u1).mono (by decide), d, k1, _, rfl, s5, ok1, op, bk1.mono (by decide), bp.mono (by decide), ?_⟩
        exact fin μ6 _ _ _ _ (Step.refl s6.1) (ai ok1 op) ((aK s5 ok1 op bk1 bp).mono (by decide)) (by rw [Gn hd ok1 op, sk1, hp']; rfl)
      · rw [if_neg (by simpa using c2)]
        exact fin μ6 k1 _ _ _ (Step.refl s6.1) ok1 (bk1.mono (by decide)) sk1
  · rintro ρ μ3 ⟨ks, r3, r4, r5, r6, rfl, hb3, kp, hpk, hl, hok⟩
    rw [Dm] at hl
    walk_at "rn"
    simp only [hpk]
    exact q (x :: ks) μ3 ⟨by simp, by simp; omega, hok⟩ ⟨hb3, kp⟩
theorem tR (h : pf ds μ Qd) : iG { nx := fun _ μ' => Qd (.v .none) μ', rt := Qd } (aO ["_law_bag_here", "_law_wide"] ds) μ := by
  obtain ⟨a, rfl, hb, q⟩ := h
  unfold iG
  walk_at "rn"
  refine ⟨a, 4, rfl, by decide, by decide, hb, fun r μ1 r0 r1 s1 => ?_⟩
  walk_at "rn"
  obtain ⟨_, e1, w, rfl, w0, w1⟩ := pick (P := fun v => ∃ w : Int, v = .int w ∧ 2 ≤ w ∧ w ≤ 9999) (xs := [.int 2, .int 9, .int 9, .int 9999]) r0 (by exact r1) (by
    intro v hv
    simp only [List.mem_cons, List.not_mem_nil, or_false] at hv
    rcases hv with rfl | rfl | rfl | rfl <;> exact ⟨_, rfl, by decide, by decide⟩)
  rw [e1]
  walk_at "rn"
  refine ⟨a, w, rfl, by omega, by omega, s1.1, fun t μ2 t0 t1 s2 => ?_⟩
  walk_at "rn"
  refine ⟨a, w, rfl, by omega, by omega, s2.1, fun u μ3 u0 u1 s3 => ?_⟩
  walk_at "rn"
  have un : 1 + u ≠ 0 := by omega
  have z : ∀ v : Int, 0 ≤ v → v < w → Sz 14 (1 + v) := fun v h1 h2 => Sz.of (by show (1 + v).natAbs < 16384; omega)
  refine ⟨_, _, _, rfl, un, (z u u0 u1).mono (by decide), q _ μ3 ?_ ?_ (s1.trans (s2.trans s3))⟩
  · have r := jq (a := 1 + t) (b := 0) un
    have ok := i8 (1 + t) 0 un
    obtain ⟨l1, l2, l3⟩ := Gm (1 + t) 0 un
    have hp : 0 < (low (1 + t) 0 (1 + u)).a := by
      have e := r.a
      have hc := ok.c
      have : 0 < (low (1 + t) 0 (1 + u)).a * (1 + u) := by rw [e]; exact Int.mul_pos (by omega) hc
      exact FZ this (by omega)
    exact ⟨ok, (by have := l2; omega), by omega, by omega, by have := ok.c; omega⟩
  · have r := jq (a := 1 + t) (b := 0) un
    have ok := i8 (1 + t) 0 un
    have e := r.a
    have hc := ok.c
    have : 0 < (low (1 + t) 0 (1 + u)).a * (1 + u) := by rw [e]; exact Int.mul_pos (by omega) hc
    exact FZ this (by omega)
theorem Fr0.bd {x : N3} (h : Fr0 x) : Bd 14 x := by
  have hc := h.ok.c
  have a0 := h.a0
  have a1 := h.a1
  have c1 := h.c1
  exact ⟨Sz.of (by show x.a.natAbs < 16384; omega), by rw [h.b]; exact Sz.of (by show (0 : Int).natAbs < 16384; decide), Sz.of (by show x.c.natAbs < 16384; omega)⟩
theorem IU {d : Int} {ks : List N3} (ho : KindsOk d ks) {r : Int} (r0 : 0 ≤ r) (r1 : r < (ks.length : Nat)) : ∃ k ∈ ks, atI (ks.map dN) r = some (dN k) := by
  obtain ⟨v, e, m⟩ := vf (xs := ks.map dN) r0 (by rw [List.length_map]; exact r1)
  obtain ⟨k, hk, rfl⟩ := List.mem_map.mp m
  exact ⟨k, hk, e⟩
theorem vT {d : Int} {x y : N3} (hd : ay d) (ox : Ok x) (oy : Ok y) (hx : sg d x.a x.b = 1) (hy : sg d y.a y.b = 1) : sg d (plus x y).a (plus x y).b = 1 := J0.pos hd (aT ox oy) (Fz ox oy) hx hy
theorem x9 (h : nN ds μ Qd) : lq { nx := fun _ μ' => Qd (.v .none) μ', rt := Qd } (aO ["_law_bag_here", "_law_d", "_law_kinds_here", "_law_kind", "_law_other", "_law_u", "_law_v", "_law_way", "_law_turned_kind", "_law_some"] ds) μ := by
  obtain ⟨a, d, ks, rfl, hd, ho, hb, q⟩ := h
  have s5 := iN hd.1 hd.2.1
  have l1 := ho.l1
  have l3 := ho.l3
  unfold lq
  walk_at "rn"
  rw [List.length_map]
  refine ⟨a, _, rfl, by omega, by omega, hb, fun r μ1 r0 r1 s1 => ?_⟩
  obtain ⟨k, hk, e1⟩ := IU ho r0 r1
  walk_at "rn"
  rw [e1]
  obtain ⟨ok, bk, sk⟩ := ho.ok k hk
  walk_at "rn"
  refine ⟨a, _, rfl, by omega, by omega, s1.1, fun r' μ2 r0' r1' s2 => ?_⟩
  obtain ⟨o, ho', e2⟩ := IU ho r0' r1'
  walk_at "rn"
  rw [e2]
  obtain ⟨oo, bo, so⟩ := ho.ok o ho'
  walk_at "rn"
  refine ⟨a, rfl, s2.1, fun u μ3 fu u0 s3 => ?_⟩
  walk_at "rn"
  refine ⟨a, rfl, s3.1, fun v μ4 fv v0 s4 => ?_⟩
  walk_at "rn"
  refine ⟨a, 10, rfl, by decide, by decide, s4.1, fun w μ5 w0 w1 s5' => ?_⟩
  walk_at "rn"
  have nk := aJ hd ok sk
  refine ⟨d, k, rfl, s5, nk, bk.mono (by decide), ?_⟩
  walk_at "rn"
  refine ⟨a, d, rfl, hd, s5'.1, fun x μ6 ox bx sx s6 => ?_⟩
  have oc := az nk
  have bc := bJ s5 nk bk
  have sc := dY hd ok sk
  have bu := fu.bd
  have bv := fv.bd
  have su : sg d u.a u.b = 1 := rA u0 fu.b
  have sv : sg d v.a v.b = 1 := rA v0 fv.b
  have o2 := ai (d := d) ok fu.ok
  have b2 := aK s5 ok fu.ok bk bu
  have g2 : sg d (times d k u).a (times d k u).b = 1 := by rw [bH hd ok fu.ok, sk, su]; rfl
  have o3 := ai (d := d) oc fu.ok
  have b3 := aK s5 oc fu.ok bc bu
  have g3 : sg d (times d (av d k) u).a (times d (av d k) u).b = 1 := by rw [bH hd oc fu.ok, sc, su]; rfl
  have o4 := ai (d := d) oc fv.ok
  have b4 := aK s5 oc fv.ok bc bv
  have g4 : sg d (times d (av d k) v).a (times d (av d k) v).b = 1 := by rw [bH hd oc fv.ok, sc, sv]; rfl
  have o5 := ai (d := d) oo fv.ok
  have b5 := aK s5 oo fv.ok bo bv
  have g5 : sg d (times d o v).a (times d o v).b = 1 := by rw [bH hd oo fv.ok, so, sv]; rfl
  have or' : Ok ⟨0, 1, 1⟩ := ⟨by decide, by decide⟩
  have br : Bd 2 ⟨0, 1, 1⟩ := ⟨Sz.of (by decide), Sz.of (by decide), Sz.of (by decide)⟩
  have gr : sg d (⟨0, 1, 1⟩ : N3).a (⟨0, 1, 1⟩ : N3).b = 1 := by show sg d 0 1 = 1; rw [zj]; rfl
  have ot : Ok ⟨0, 1, 999999⟩ := ⟨by decide, by decide⟩
  have bt : Bd 20 ⟨0, 1, 999999⟩ := ⟨Sz.of (by decide), Sz.of (by decide), Sz.of (by decide)⟩
  have gt : sg d (⟨0, 1, 999999⟩ : N3).a (⟨0, 1, 999999⟩ : N3).b = 1 := by show sg d 0 1 = 1; rw [zj]; rfl
  have oh : Ok ⟨1, 0, 99999⟩ := ⟨by decide, by decide⟩
  have bh : Bd 20 ⟨1, 0, 99999⟩ := ⟨Sz.of (by decide), Sz.of (by decide), Sz.of (by decide)⟩
  have gh : sg d (⟨1, 0, 99999⟩ : N3).a (⟨1, 0, 99999⟩ : N3).b = 1 := by show sg d 1 0 = 1; rw [kg]; rfl
  have o6 := ai (d := d) or' fu.ok
  have b6 := aK s5 or' fu.ok br bu
  have g6 : sg d (times d ⟨0, 1, 1⟩ u).a (times d ⟨0, 1, 1⟩ u).b = 1 := by rw [bH hd or' fu.ok, gr, su]; rfl
  have o7 := ai (d := d) fv.ok oh
  have b7 := aK s5 fv.ok oh bv bh
  have g7 : sg d (times d v ⟨1, 0, 99999⟩).a (times d v ⟨1, 0, 99999⟩).b = 1 := by rw [bH hd fv.ok oh, sv, gh]; rfl
  refine ⟨d, k, u, rfl, s5, ok, fu.ok, bk.mono (by decide), bu.mono (by decide), d, _, u, rfl, s5, oc, fu.ok, bc.mono (by decide), bu.mono (by decide), d, k, u, rfl, s5, ok, fu.ok, bk.mono (by decide), bu.mono (by decide), d, _, v, rfl, s5, oc, fv.ok, bc.mono (by decide), bv.mono (by decide), _, _, rfl, o2, o4, b2.mono (by decide), b4.mono (by decide), d, o, v, rfl, s5, oo, fv.ok, bo.mono (by decide), bv.mono (by decide), k, _, rfl, ok, o5, bk.mono (by decide), b5.mono (by decide), d, ⟨0, 1, 1⟩, u, rfl, s5, or', fu.ok, br.mono (by decide), bu.mono (by decide), d, _, u, rfl, s5, oc, fu.ok, bc.mono (by decide), bu.mono (by decide), _, ⟨0, 1, 999999⟩, rfl, o3, ot, b3.mono (by decide), bt.mono (by decide), d, k, u, rfl, s5, ok, fu.ok, bk.mono (by decide), bu.mono (by decide), d, v, ⟨1, 0, 99999⟩, rfl, s5, fv.ok, oh, bv.mono (by decide), bh.mono (by decide), _, _, rfl, o2, o7, b2.mono (by decide), b7.mono (by decide), a, d, rfl, hd, s6.1, fun y μ7 oy by' sy s7 => ?_⟩
  walk_at "rn"
  have hst := s1.trans (s2.trans (s3.trans (s4.trans (s5'.trans (s6.trans s7)))))
  obtain ⟨_, e, z, rfl, oz, bz, sz⟩ := pick (P := fun t => ∃ z, t = dN z ∧ Ok z ∧ Bd 230 z ∧ sg d z.a z.b = 1) (xs := [dN x, dN (times d k u), dN (times d (av d k) u), dN (plus (times d k u) (times d (av d k) v)), dN (plus k (times d o v)), dN u, dN (times d ⟨0, 1, 1⟩ u), dN (plus (times d (av d k) u) ⟨0, 1, 999999⟩), dN (plus (times d k u) (times d v ⟨1, 0, 99999⟩)), dN y]) w0 (by exact w1) (by
    intro t ht
    simp only [List.mem_cons, List.not_mem_nil, or_false] at ht
    rcases ht with rfl | rfl | rfl | rfl | rfl | rfl | rfl | rfl | rfl | rfl
    · exact ⟨_, rfl, ox, bx.mono (by decide), sx⟩
    · exact ⟨_, rfl, o2, b2.mono (by decide), g2⟩
    · exact ⟨_, rfl, o3, b3.mono (by decide), g3⟩
    · exact ⟨_, rfl, aT o2 o4, (eO o2 o4 b2 b4).mono (by decide), vT hd o2 o4 g2 g4⟩
    · exact ⟨_, rfl, aT ok o5, (eO ok o5 bk b5).mono (by decide), vT hd ok o5 sk g5⟩
    · exact ⟨_, rfl, fu.ok, bu.mono (by decide), su⟩
    · exact ⟨_, rfl, o6, b6.mono (by decide), g6⟩
    · exact ⟨_, rfl, aT o3 ot, (eO o3 ot b3 bt).mono (by decide), vT hd o3 ot g3 gt⟩
    · exact ⟨_, rfl, aT o2 o7, (eO o2 o7 b2 b7).mono (by decide), vT hd o2 o7 g2 g7⟩
    · exact ⟨_, rfl, oy, by'.mono (by decide), sy⟩)
  rw [e]
  exact q z _ oz bz sz hst
end
open PySem PySem.Spec PyProof.Rows NM
def Fg (d : Int) (f g s : N3) : N3 := low ((shA d f s).b * (shA d f g).c) 0 ((shA d f s).c * (shA d f g).b)
def Oj (d : Int) (f g s : N3) : N3 := less (shA d f s) (times d (Fg d f g s) (shA d f g))
def nK : DSp := fun ds μ Q => ∃ (d : Int) (f g s : N3), ds = [.v (.int d), .v (dN f), .v (dN g), .v (dN s)] ∧ ay d ∧ Ok f ∧ f ≠ ax ∧ Ok g ∧ Ok s ∧ (∃ n m p : Nat, Bd n f ∧ Bd m g ∧ Bd p s ∧ n ≤ 2000 ∧ m ≤ 2000 ∧ p ≤ 2000 ∧ (p + (2 * n + 12)) + 2 * (m + (2 * n + 12)) + 6 ≤ 4300) ∧ (shA d f g).b ≠ 0 ∧ Q (.v (.tuple [dN (Oj d f g s), dN (Fg d f g s)])) μ
theorem zy {μ : Mu} {Q : DK} {ds : List D} (h : nK ds μ Q) : ds.length = 4 := by obtain ⟨_, _, _, _, rfl, _⟩ := h; rfl
def pd : DSp := fun ds μ Q => ∃ (d : Int) (x : N3), ds = [.v (.int d), .v (dN x)] ∧ ay d ∧ Bd 8900 x ∧ Q (.v (.bool (bY d x))) μ
theorem xD {μ : Mu} {Q : DK} {ds : List D} (h : pd ds μ Q) : ds.length = 2 := by obtain ⟨_, _, rfl, _⟩ := h; rfl
def j0 (x : N3) (w : Int) : N3 := if 0 < w then less x (aX x) else plus x (aX x)
def we : DSp := fun ds μ Q => ∃ (x : N3) (w : Int), ds = [.v (dN x), .v (.int w)] ∧ Ok x ∧ Bd 2100 x ∧ Q (.v (dN (j0 x w))) μ
theorem Ds {μ : Mu} {Q : DK} {ds : List D} (h : we ds μ Q) : ds.length = 2 := by obtain ⟨_, _, rfl, _⟩ := h; rfl
def aE (d : Int) (s : N3) (w : Int) : Int := sg d (j0 s w).a (j0 s w).b
def bLast (d : Int) (s : N3) (w : Int) : N3 := times d (times d ⟨aE d s w, 0, 2⟩ (j0 s w)) (av d (aX s))
def ky (d : Int) (k : N3) (w : Int) : N3 := times d (times d (j0 k w) (j0 k w)) (av d (times d ⟨4, 0, 1⟩ (times d k (aX k))))
def aQ (d : Int) (k : N3) : Int := sg d (aX k).a (aX k).b
def AR (d : Int) (k s : N3) : PyData :=
  if aQ d s = aQ d k then .tuple [dN one, .tuple [dN (times d (ky d k (aQ d k)) (av d (bLast d s (aQ d k)))), dN ⟨aQ d k * aE d s (aQ d k), 0, 1⟩, dN ⟨-aE d s (aQ d k), 0, 1⟩, dN (bLast d s (aQ d k))]]
  else .tuple [dN one, .tuple [dN ax, dN ax, dN ax, dN ⟨aQ d k, 0, 1⟩]]
def Ko (d : Int) (k s : N3) : PyData := if dZ d k s = true then .tuple [.str "mixture", dN (qK d k s), dN (qf d k s)] else .tuple [.str "bar", AR d k s]
def rg : DSp := fun ds μ Q => ∃ (d : Int) (k s : N3), ds = [.v (.int d), .v (dN k), .v (dN s)] ∧ ay d ∧ Ok k ∧ Bd 230 k ∧ sg d k.a k.b = 1 ∧ Ok s ∧ Bd 1000 s ∧ sg d s.a s.b = 1 ∧ dZ d k s = false ∧ Q (.v (AR d k s)) μ
theorem Ay {μ : Mu} {Q : DK} {ds : List D} (h : rg ds μ Q) : ds.length = 3 := by obtain ⟨_, _, _, rfl, _⟩ := h; rfl
def oZ : DSp := fun ds μ Q => ∃ (d : Int) (k s : N3), ds = [.v (.int d), .v (dN k), .v (dN s)] ∧ ay d ∧ Ok k ∧ Bd 230 k ∧ sg d k.a k.b = 1 ∧ Ok s ∧ Bd 1000 s ∧ sg d s.a s.b = 1 ∧ Q (.v (Ko d k s)) μ
theorem x6 {μ : Mu} {Q : DK} {ds : List D} (h : oZ ds μ Q) : ds.length = 3 := by obtain ⟨_, _, _, rfl, _⟩ := h; rfl
def mI : DTS :=
  (aM (bA (aq kO (ab (ae 0) (ab (ae 3) (ab (ae 1) ar)))) (aw 4))
  (aM (bA (aq kO (ab (ae 0) (ab (ae 2) (ab (ae 1) ar)))) (aw 5))
  (aM (bA (aq cS (ab (cq (dOp aF (ae 4) (dC (.int 1))) (dOp aF (ae 5) (dC (.int 2)))) (ab (dC (.int 0)) (ab (cq (dOp aF (ae 4) (dC (.int 2))) (dOp aF (ae 5) (dC (.int 1)))) ar)))) (aw 6))
  (aM (bA (aq vJ (ab (ae 4) (ab (aq aU (ab (ae 0) (ab (ae 6) (ab (ae 5) ar)))) ar))) (aw 7))
  (bF (en (ab (ae 7) (ab (ae 6) ar))))))))
def oN : DTS :=
  (bF (vK (dOp (eh false) (dOp aF (ae 1) (dC (.int 1))) (dC (.int 0))) (dOp rGe (aq gb (ab (ae 0) (ab (ae 1) ar))) (dC (.int 0)))))
def Ad : DTS :=
  (bF (dIf (dB (dOp rGt (ae 1) (dC (.int 0)))) (aq vJ (ab (ae 0) (ab (aq eN (ab (ae 0) ar)) ar))) (aq fF (ab (ae 0) (ab (aq eN (ab (ae 0) ar)) ar)))))
def qp : DTS :=
  (aM (bA (aq gb (ab (ae 0) (ab (aq eN (ab (ae 1) ar)) ar))) (aw 3))
  (aM (dy (dB (dOp (eh true) (aq gb (ab (ae 0) (ab (aq eN (ab (ae 2) ar)) ar))) (ae 3))) (bF (en (ab (dC (.tuple [.int 1, .int 0, .int 1])) (ab (en (ab (dC (.tuple [.int 0, .int 0, .int 1])) (ab (dC (.tuple [.int 0, .int 0, .int 1])) (ab (dC (.tuple [.int 0, .int 0, .int 1])) (ab (en (ab (ae 3) (ab (dC (.int 0)) (ab (dC (.int 1)) ar)))) ar))))) ar)))) cb)
  (aM (bA (aq we (ab (ae 1) (ab (ae 3) ar))) (aw 4))
  (aM (bA (aq we (ab (ae 2) (ab (ae 3) ar))) (aw 5))
  (aM (bA (aq gb (ab (ae 0) (ab (ae 5) ar))) (aw 6))
  (aM (bA (aq kO (ab (ae 0) (ab (aq aU (ab (ae 0) (ab (en (ab (ae 6) (ab (dC (.int 0)) (ab (dC (.int 2)) ar)))) (ab (ae 5) ar)))) (ab (aq eN (ab (ae 2) ar)) ar)))) (aw 7))
  (aM (bA (aq kO (ab (ae 0) (ab (aq aU (ab (ae 0) (ab (ae 4) (ab (ae 4) ar)))) (ab (aq aU (ab (ae 0) (ab (en (ab (dC (.int 4)) (ab (dC (.int 0)) (ab (dC (.int 1)) ar)))) (ab (aq aU (ab (ae 0) (ab (ae 1) (ab (aq eN (ab (ae 1) ar)) ar)))) ar)))) ar)))) (aw 8))
  (bF (en (ab (dC (.tuple [.int 1, .int 0, .int 1])) (ab (en (ab (aq kO (ab (ae 0) (ab (ae 8) (ab (ae 7) ar)))) (ab (en (ab (cq (ae 3) (ae 6)) (ab (dC (.int 0)) (ab (dC (.int 1)) ar)))) (ab (en (ab (vZ (ae 6)) (ab (dC (.int 0)) (ab (dC (.int 1)) ar)))) (ab (ae 7) ar))))) ar)))))))))))
def k0 : DTS :=
  (aM (nO (aq dX (ab (ae 0) (ab (ae 1) ar))))
  (aM (nO (aq dX (ab (ae 0) (ab (ae 2) ar))))
  (aM (dy (dB (dOp (eh false) (dOp aF (aq aU (ab (ae 0) (ab (ae 1) (ab (ae 1) ar)))) (dC (.int 1))) (dC (.int 0)))) (bA (en (ab (aq kO (ab (ae 0) (ab (ae 2) (ab (ae 1) ar)))) (ab (dC (.tuple [.int 0, .int 0, .int 1])) ar))) (aw 3)) (bA (aq nK (ab (ae 0) (ab (ae 1) (ab (aq bW (ab (ae 0) (ab (ae 1) ar))) (ab (ae 2) ar))))) (aw 3)))
  (aM (dy (dB (dCB sj (ab (pX [none, some 0] (nU (ae 3)) (aw 0) pK (aq pd (ab (ae 1) (ab (ae 0) ar)))) ar))) (bF (en (ab (dC (.str "mixture")) (ab (dOp aF (ae 3) (dC (.int 0))) (ab (dOp aF (ae 3) (dC (.int 1))) ar))))) cb)
  (bF (en (ab (dC (.str "bar")) (ab (aq rg (ab (ae 0) (ab (ae 1) (ab (ae 2) ar)))) ar))))))))
section
variable {μ : Mu} {Qd : DK} {ds : List D}
theorem ey {d : Int} {x : N3} (h : sg d x.a x.b = 1) : x ≠ ax := fun e => by subst e; have : sg d ax.a ax.b = 0 := dI.mpr ⟨rfl, rfl⟩; omega
theorem yM (h : nK ds μ Qd) : mI { nx := fun _ μ' => Qd (.v .none) μ', rt := Qd } (aO ["d", "first", "second", "shape", "whole", "part", "of_second", "of_first"] ds) μ := by
  obtain ⟨d, f, g, s, rfl, hd, of, nf, og, os, ⟨n, m, p, bf, bg, bs, ln, lm, lp, lt⟩, hp, q⟩ := h
  have s5 := iN hd.1 hd.2.1
  have hn := hd.norm of nf
  have oa : Ok (shA d f s) := fH os hn
  have op : Ok (shA d f g) := fH og hn
  have ba : Bd (p + (2 * n + 6) + 6) (shA d f s) := aK s5 os (az hn) bs (bJ s5 hn bf)
  have bp : Bd (m + (2 * n + 6) + 6) (shA d f g) := aK s5 og (az hn) bg (bJ s5 hn bf)
  unfold mI
  walk_at "rn"
  refine ⟨d, s, f, rfl, hd, os, of, nf, bs.mono (by omega), bf.mono (by omega), ?_⟩
  walk_at "rn"
  refine ⟨d, g, f, rfl, hd, og, of, nf, bg.mono (by omega), bf.mono (by omega), ?_⟩
  walk_at "rn"
  have hc : (shA d f s).c * (shA d f g).b ≠ 0 := Int.mul_ne_zero oa.cn hp
  have sc := ba.c.mul bp.b
  have sb := ba.b.mul bp.c
  refine ⟨eM ba.b bp.c (by omega), eM ba.c bp.b (by omega), _, _, _, rfl, hc, sc.mono (by omega), ?_⟩
  have ov : Ok (Fg d f g s) := i8 _ _ hc
  have bv : Bd (p + (2 * n + 6) + 6 + (m + (2 * n + 6) + 6)) (Fg d f g s) := kU hc sb (sz0) sc
  walk_at "rn"
  refine ⟨d, Fg d f g s, shA d f g, rfl, s5, ov, op, bv.mono (by omega), bp.mono (by omega), shA d f s, _, rfl, oa, ai ov op, ba.mono (by omega), (aK s5 ov op bv bp).mono (by omega), ?_⟩
  exact q
theorem BM (h : pd ds μ Qd) : oN { nx := fun _ μ' => Qd (.v .none) μ', rt := Qd } (aO ["d", "x"] ds) μ := by
  obtain ⟨d, x, rfl, hd, bx, q⟩ := h
  unfold oN
  walk_at "rn"
  unfold bY at q
  cases e : decide (x.b = 0) with
  | true =>
    rw [e, Bool.true_and] at q
    exact ⟨d, x, rfl, hd, bx, q⟩
  | false =>
    rw [e, Bool.false_and] at q
    exact q
theorem JS (h : we ds μ Qd) : Ad { nx := fun _ μ' => Qd (.v .none) μ', rt := Qd } (aO ["shape", "way"] ds) μ := by
  obtain ⟨x, w, rfl, ox, bx, q⟩ := h
  unfold Ad
  walk_at "rn"
  unfold j0 at q
  by_cases hw : 0 < w
  · rw [if_pos hw] at q
    rw [if_pos (by simpa using hw)]
    exact ⟨x, rfl, x, aX x, rfl, ox, aB ox, bx.mono (by decide), (dJ bx).mono (by decide), q⟩
  · rw [if_neg hw] at q
    rw [if_neg (by simpa using hw)]
    exact ⟨x, rfl, x, aX x, rfl, ox, aB ox, bx.mono (by decide), (dJ bx).mono (by decide), q⟩
theorem bX {x : N3} {w : Int} (ox : Ok x) : Ok (j0 x w) := by
  unfold j0
  split
  · exact kB ox (aB ox)
  · exact aT ox (aB ox)
theorem _root_.NM.Rep.bd {x : N3} {A B C : Int} {n : Nat} (ox : Ok x) (r : Rep x A B C) (ha : Sz n A) (hb : Sz n B) (hc : Sz n C) : Bd n x := by
  have e : x = NM.low A B C := ox.Lr r.c r.a r.b
  rw [e]
  exact kU r.c ha hb hc
theorem G6 {n : Nat} {i : Int} (h : Sz n i) : Sz (n + 1) (2 * i) := by
  have := h.add h
  rw [show i + i = 2 * i by omega] at this
  exact this
theorem EG {x : N3} {w : Int} {n : Nat} (ox : Ok x) (bx : Bd n x) : Bd (n + 1) (j0 x w) := by
  unfold j0
  split
  · have r := Rep.less ox (aB ox) (ao ox) (ao (aB ox))
    have r2 : Rep (less x (aX x)) 0 (2 * x.b) x.c := r.conv ox.cn (by show (x.a * x.c - x.a * x.c) * x.c = 0 * _; grind) (by show (x.b * x.c - -x.b * x.c) * x.c = 2 * x.b * (x.c * x.c); grind)
    exact r2.bd (kB ox (aB ox)) sz0 (G6 bx.b) (bx.c.mono (by omega))
  · have r := Rep.plus ox (aB ox) (ao ox) (ao (aB ox))
    have r2 : Rep (plus x (aX x)) (2 * x.a) 0 x.c := r.conv ox.cn (by show (x.a * x.c + x.a * x.c) * x.c = 2 * x.a * (x.c * x.c); grind) (by show (x.b * x.c + -x.b * x.c) * x.c = 0 * _; grind)
    exact r2.bd (aT ox (aB ox)) (G6 bx.a) sz0 (bx.c.mono (by omega))
theorem LV {d : Int} {k : N3} (hd : ay d) (ok : Ok k) (hk : sg d k.a k.b = 1) : aQ d k = sg d (norm d k) 0 := Er hd ok hk
theorem je {d : Int} {k : N3} (hd : ay d) (ok : Ok k) (hk : sg d k.a k.b = 1) : (aQ d k = 1 ∧ 0 < norm d k) ∨ (aQ d k = -1 ∧ norm d k < 0) := by
  have hn := aJ hd ok hk
  rw [LV hd ok hk, kg, if_neg hn]
  by_cases h : 0 < norm d k
  · rw [if_pos h]; exact .inl ⟨rfl, h⟩
  · rw [if_neg h]; exact .inr ⟨rfl, by omega⟩
theorem DY {d : Int} {k s : N3} (hd : ay d) (ok : Ok k) (hk : sg d k.a k.b = 1) (os : Ok s) (hs : sg d s.a s.b = 1) (hm : dZ d k s = false) (hw : aQ d s = aQ d k) : j0 s (aQ d k) ≠ ax := fun e => by
  have hl : ¬ Lay d k s := fun z => by rw [(zW hd ok os hk hs).mpr z] at hm; cases hm
  rcases je hd ok hk with ⟨w1, n1⟩ | ⟨w1, n1⟩ <;> rcases je hd os hs with ⟨w2, n2⟩ | ⟨w2, n2⟩
  · rw [w1] at e
    unfold j0 at e
    rw [if_pos (by decide)] at e
    have r := Rep.less os (aB os) (ao os) (ao (aB os))
    rw [e] at r
    have rb := r.b
    have h0 : s.b * (aX s).c - (aX s).b * s.c = 0 := by
      have e1 : ax.b = 0 := rfl
      have e2 : ax.c = 1 := rfl
      rw [e1, e2] at rb; omega
    have h1 : s.b * s.c - -s.b * s.c = 0 := h0
    have h2 : s.b * s.c = 0 := by rw [Int.neg_mul] at h1; omega
    have h3 : s.b = 0 := (Int.mul_eq_zero.mp h2).resolve_right os.cn
    refine hl (.inl ⟨n1, n2, ?_⟩)
    rw [h3, Int.zero_mul, Int.zero_mul]
    exact Int.mul_nonneg (sq_nonneg _) (sq_nonneg _)
  · rw [w1, w2] at hw; exact absurd hw (by decide)
  · rw [w1, w2] at hw; exact absurd hw (by decide)
  · rw [w1] at e
    unfold j0 at e
    rw [if_neg (by decide)] at e
    have r := Rep.plus os (aB os) (ao os) (ao (aB os))
    rw [e] at r
    have ra := r.a
    have h0 : s.a * (aX s).c + (aX s).a * s.c = 0 := by
      have e1 : ax.a = 0 := rfl
      have e2 : ax.c = 1 := rfl
      rw [e1, e2] at ra; omega
    have h1 : s.a * s.c + s.a * s.c = 0 := h0
    have h2 : s.a * s.c = 0 := by omega
    have h3 : s.a = 0 := (Int.mul_eq_zero.mp h2).resolve_right os.cn
    refine hl (.inr ⟨n1, n2, ?_⟩)
    rw [h3, Int.zero_mul, Int.zero_mul]
    exact Int.mul_nonneg (sq_nonneg _) (sq_nonneg _)
theorem B0 {d : Int} {x : N3} (ox : Ok x) (h : x ≠ ax) : sg d x.a x.b = 1 ∨ sg d x.a x.b = -1 := by
  rcases jR d x.a x.b with z | z | z
  · exfalso
    obtain ⟨h1, h2⟩ := dI.mp z
    have g := ox.g
    rw [h1, h2] at g
    have hc := ox.c
    refine h (N3.ext' h1 h2 ?_)
    show x.c = 1
    simp [g3] at g
    omega
  · exact .inl z
  · exact .inr z
theorem iT {d : Int} {x y : N3} (hd : ay d) (ox : Ok x) (oy : Ok y) (hx : x ≠ ax) (hy : y ≠ ax) : times d x y ≠ ax := fun e => by
  have h := bH hd ox oy
  rw [e] at h
  have z : sg d ax.a ax.b = 0 := dI.mpr ⟨rfl, rfl⟩
  rw [z] at h
  rcases B0 (d := d) ox hx with a | a <;> rcases B0 (d := d) oy hy with b | b <;> rw [a, b] at h <;> exact absurd h (by decide)
theorem IL {d : Int} {x : N3} (hd : ay d) (ox : Ok x) (hx : x ≠ ax) : av d x ≠ ax := fun e => by
  have hn := hd.norm ox hx
  have t := gM ox hn
  rw [e] at t
  have h := bH hd ox yc
  rw [t, show sg d ax.a ax.b = 0 from dI.mpr ⟨rfl, rfl⟩, vj] at h
  simp at h
theorem oS {x : N3} (hx : x ≠ ax) : aX x ≠ ax := fun e => hx (by
  have h1 : x.a = 0 := congrArg N3.a e
  have h2 : -x.b = 0 := congrArg N3.b e
  have h3 : x.c = 1 := congrArg N3.c e
  exact N3.ext' h1 (show x.b = 0 by omega) h3)
theorem fT {t : Int} (h : t = 1 ∨ t = -1) : Ok ⟨t, 0, 2⟩ := by
  rcases h with rfl | rfl
  · exact ⟨by decide, by decide⟩
  · exact ⟨by decide, by decide⟩
theorem D4 {t : Int} (h : t = 1 ∨ t = -1) : Bd 3 ⟨t, 0, 2⟩ := ⟨Sz.of (by show t.natAbs < 8; omega), Sz.of (by show (0 : Int).natAbs < 8; decide), Sz.of (by show (2 : Int).natAbs < 8; decide)⟩
theorem Et {t : Int} (h : t = 1 ∨ t = -1) : (⟨t, 0, 2⟩ : N3) ≠ ax := fun e => by
  have : (2 : Int) = 1 := congrArg N3.c e
  exact absurd this (by decide)
structure LastOk (d : Int) (s : N3) (w : Int) : Prop where
  ok : Ok (bLast d s w)
  bd : Bd 2090 (bLast d s w)
  ne : bLast d s w ≠ ax
theorem rG {n : Nat} {d : Int} {s : N3} {w : Int} (hd : Sz 5 d) (os : Ok s) (bs : Bd n s) (nm : norm d (aX s) ≠ 0) {t : Int} (ht : t = 1 ∨ t = -1) : Bd (2 * n + 10) (times d (times d ⟨t, 0, 2⟩ (j0 s w)) (av d (aX s))) := by
  have oh := fT ht
  have of := bX (w := w) os
  have oc := az nm
  have o1 := ai (d := d) oh of
  have hmc : (aX s).c = s.c := rfl
  have hma : (aX s).a = s.a := rfl
  have hmb : (aX s).b = -s.b := rfl
  have nn : norm d (aX s) = norm d s := yj
  have hN : Sz (2 * n + 6) (norm d s) := qZ hd bs
  have tb : t.natAbs = 1 := by omega
  have st : ∀ {k : Nat} {i : Int}, Sz k i → Sz k (t * i) := fun h => h.le (by rw [Int.natAbs_mul, tb]; omega)
  unfold j0 at *
  split
  · have r0 := Rep.less os (aB os) (ao os) (ao (aB os))
    have r2 : Rep (less s (aX s)) 0 (2 * s.b) s.c := r0.conv os.cn (by show (s.a * s.c - s.a * s.c) * s.c = 0 * _; grind) (by show (s.b * s.c - -s.b * s.c) * s.c = 2 * s.b * (s.c * s.c); grind)
    have olm := kB os (aB os)
    have r3 := Rep.times (d := d) (ai (d := d) oh olm) oc (Rep.times (d := d) oh olm (ao oh) r2) ((ao (aB os)).av (d := d) (aB os) nm)
    have r4 : Rep (times d (times d ⟨t, 0, 2⟩ (less s (aX s))) (av d (aX s))) (t * (d * s.b * s.b)) (t * (s.b * s.a)) (norm d s) := by
      refine r3.conv (by rw [← nn]; exact nm) ?_ ?_
      · show ((t * 0 + d * 0 * (2 * s.b)) * (s.c * s.a) + d * (t * (2 * s.b) + 0 * 0) * (-s.c * -s.b)) * norm d s = t * (d * s.b * s.b) * (2 * s.c * (s.a * s.a - d * -s.b * -s.b))
        unfold norm; grind
      · show ((t * 0 + d * 0 * (2 * s.b)) * (-s.c * -s.b) + (t * (2 * s.b) + 0 * 0) * (s.c * s.a)) * norm d s = t * (s.b * s.a) * (2 * s.c * (s.a * s.a - d * -s.b * -s.b))
        unfold norm; grind
    refine r4.bd (ai (ai oh olm) oc) (st ?_) (st ?_) (hN.mono (by omega))
    · exact ((hd.mul bs.b).mul bs.b).mono (by omega)
    · exact (bs.b.mul bs.a).mono (by omega)
  · have r0 := Rep.plus os (aB os) (ao os) (ao (aB os))
    have r2 : Rep (plus s (aX s)) (2 * s.a) 0 s.c := r0.conv os.cn (by show (s.a * s.c + s.a * s.c) * s.c = 2 * s.a * (s.c * s.c); grind) (by show (s.b * s.c + -s.b * s.c) * s.c = 0 * _; grind)
    have olm := aT os (aB os)
    have r3 := Rep.times (d := d) (ai (d := d) oh olm) oc (Rep.times (d := d) oh olm (ao oh) r2) ((ao (aB os)).av (d := d) (aB os) nm)
    have r4 : Rep (times d (times d ⟨t, 0, 2⟩ (plus s (aX s))) (av d (aX s))) (t * (s.a * s.a)) (t * (s.a * s.b)) (norm d s) := by
      refine r3.conv (by rw [← nn]; exact nm) ?_ ?_
      · show ((t * (2 * s.a) + d * 0 * 0) * (s.c * s.a) + d * (t * 0 + 0 * (2 * s.a)) * (-s.c * -s.b)) * norm d s = t * (s.a * s.a) * (2 * s.c * (s.a * s.a - d * -s.b * -s.b))
        unfold norm; grind
      · show ((t * (2 * s.a) + d * 0 * 0) * (-s.c * -s.b) + (t * 0 + 0 * (2 * s.a)) * (s.c * s.a)) * norm d s = t * (s.a * s.b) * (2 * s.c * (s.a * s.a - d * -s.b * -s.b))
        unfold norm; grind
    refine r4.bd (ai (ai oh olm) oc) (st ?_) (st ?_) (hN.mono (by omega))
    · exact (bs.a.mul bs.a).mono (by omega)
    · exact (bs.a.mul bs.b).mono (by omega)
theorem JO {d : Int} {s : N3} {w : Int} (hd : ay d) (os : Ok s) (bs : Bd 1000 s) (ns : s ≠ ax) (hk : j0 s w ≠ ax) : LastOk d s w := by
  have s5 := iN hd.1 hd.2.1
  have of := bX (w := w) os
  have ht : aE d s w = 1 ∨ aE d s w = -1 := B0 of hk
  have nm := hd.norm (aB os) (oS ns)
  have oc := az nm
  have o1 := ai (d := d) (fT ht) of
  exact ⟨ai o1 oc, (rG s5 os bs nm ht).mono (by decide), iT hd o1 oc (iT hd (fT ht) of (Et ht) hk) (IL hd (aB os) (oS ns))⟩
theorem C1 (h : rg ds μ Qd) : qp { nx := fun _ μ' => Qd (.v .none) μ', rt := Qd } (aO ["d", "kind", "shape", "way", "own", "floor", "turn", "last", "both"] ds) μ := by
  obtain ⟨d, k, s, rfl, hd, ok, bk, hk, os, bs, hs, hm, q⟩ := h
  have s5 := iN hd.1 hd.2.1
  have nk := aJ hd ok hk
  have ns := ey hs
  unfold qp
  walk_at "rn"
  refine ⟨k, rfl, d, aX k, rfl, hd, (dJ bk).mono (by decide), ?_⟩
  walk_at "rn"
  refine ⟨s, rfl, d, aX s, rfl, hd, (dJ bs).mono (by decide), ?_⟩
  unfold AR at q
  by_cases hw : aQ d s = aQ d k
  · rw [if_pos hw] at q
    have hw' : sg d (aX s).a (aX s).b = sg d (aX k).a (aX k).b := hw
    walk_at "rn"
    rw [if_neg (by rw [hw']; simp)]
    have of := bX (w := aQ d k) os
    have bf := EG (w := aQ d k) os bs
    have oo := bX (w := aQ d k) ok
    have bo := EG (w := aQ d k) ok bk
    have hf := DY hd ok hk os hs hm hw
    have ht : aE d s (aQ d k) = 1 ∨ aE d s (aQ d k) = -1 := B0 of hf
    have L := JO (w := aQ d k) hd os bs ns hf
    refine ⟨k, aQ d k, rfl, ok, bk.mono (by decide), ?_⟩
    walk_at "rn"
    refine ⟨s, aQ d k, rfl, os, bs.mono (by decide), ?_⟩
    walk_at "rn"
    refine ⟨d, _, rfl, hd, bf.mono (by decide), ?_⟩
    walk_at "rn"
    have o1 := ai (d := d) (fT ht) of
    have b1 := aK s5 (fT ht) of (D4 ht) bf
    refine ⟨d, ⟨aE d s (aQ d k), 0, 2⟩, j0 s (aQ d k), rfl, s5, fT ht, of, (D4 ht).mono (by decide), bf.mono (by decide), s, rfl, d, _, aX s, rfl, hd, o1, aB os, oS ns, b1.mono (by decide), (dJ bs).mono (by decide), ?_⟩
    walk_at "rn"
    have o2 := ai (d := d) oo oo
    have b2 := aK s5 oo oo bo bo
    have o3 := ai (d := d) ok (aB ok)
    have b3 := aK s5 ok (aB ok) bk (dJ bk)
    have n3 : times d k (aX k) ≠ ax := iT hd ok (aB ok) (ey hk) (oS (ey hk))
    have o4 : Ok ⟨4, 0, 1⟩ := vo 4
    have b4 : Bd 4 ⟨4, 0, 1⟩ := ⟨Sz.of (by decide), Sz.of (by decide), Sz.of (by decide)⟩
    have o5 := ai (d := d) o4 o3
    have b5 := aK s5 o4 o3 b4 b3
    have n5 : times d ⟨4, 0, 1⟩ (times d k (aX k)) ≠ ax := iT hd o4 o3 (fun e => absurd (congrArg N3.a e) (by decide)) n3
    refine ⟨d, _, _, rfl, s5, oo, oo, bo.mono (by decide), bo.mono (by decide), k, rfl, d, k, aX k, rfl, s5, ok, aB ok, bk.mono (by decide), (dJ bk).mono (by decide), d, ⟨4, 0, 1⟩, _, rfl, s5, o4, o3, b4.mono (by decide), b3.mono (by decide), d, _, _, rfl, hd, o2, o5, n5, b2.mono (by decide), b5.mono (by decide), ?_⟩
    walk_at "rn"
    have nn5 := hd.norm o5 n5
    have ob : Ok (ky d k (aQ d k)) := ai o2 (az nn5)
    have bb : Bd 1902 (ky d k (aQ d k)) := (aK s5 o2 (az nn5) b2 (bJ s5 nn5 b5)).mono (by decide)
    refine ⟨d, ky d k (aQ d k), bLast d s (aQ d k), rfl, hd, ob, L.ok, L.ne, bb.mono (by decide), L.bd.mono (by decide), ?_⟩
    refine ⟨mulR Gu, ?_⟩
    exact q
  · rw [if_neg hw] at q
    have hw' : ¬ sg d (aX s).a (aX s).b = sg d (aX k).a (aX k).b := hw
    walk_at "rn"
    rw [if_pos (by simpa using hw')]
    exact q
structure Nb (d : Int) (k s : N3) (n : Nat) : Prop where
  ou : Ok (qK d k s)
  ov : Ok (qf d k s)
  bu : Bd n (qK d k s)
  bv : Bd n (qf d k s)
theorem MY {d : Int} {k s : N3} {n m : Nat} (hd : ay d) (ok : Ok k) (bk : Bd n k) (hk : sg d k.a k.b = 1) (os : Ok s) (bs : Bd m s) : Nb d k s ((m + (2 * n + 6) + 6) + ((m + (2 * n + 6) + 6) + ((2 * n + 6) + (2 * n + 6) + 6) + ((2 * n + 6) + (2 * n + 6) + 6) + 6) + 1) := by
  have s5 := iN hd.1 hd.2.1
  have hn := aJ hd ok hk
  have oc := az hn
  have bc := bJ s5 hn bk
  have oa := fH (s := s) os hn
  have ba : Bd (m + (2 * n + 6) + 6) (shA d k s) := aK s5 os oc bs bc
  have op := vE (k := k) hn
  have bp : Bd ((2 * n + 6) + (2 * n + 6) + 6) (prt d k) := aK s5 oc oc bc bc
  refine ⟨Ft ok os hn, Fo ok os hn, ?_, ?_⟩
  · unfold qK
    split
    · exact ba.mono (by omega)
    · rename_i hl
      have h' : k.a * k.b ≠ 0 := fun z => hl ((fN ok).mpr z)
      have hc : (shA d k s).c * (prt d k).b ≠ 0 := Int.mul_ne_zero oa.cn (AM ok hn (ao ok) h')
      have bv : Bd ((m + (2 * n + 6) + 6) + ((2 * n + 6) + (2 * n + 6) + 6)) (shV d k s) := kU hc (ba.b.mul bp.c) sz0 (ba.c.mul bp.b)
      have ov := uo ok os hn h'
      exact (Jt oa (ai ov op) ba (aK s5 ov op bv bp)).mono (by omega)
  · unfold qf
    split
    · exact ⟨Sz.of (by show (0 : Int).natAbs < _; exact Nat.pos_of_ne_zero (by simp)), Sz.of (by show (0 : Int).natAbs < _; exact Nat.pos_of_ne_zero (by simp)), Sz.of (by show (1 : Int).natAbs < _; exact Nat.one_lt_two_pow (by omega))⟩
    · rename_i hl
      have h' : k.a * k.b ≠ 0 := fun z => hl ((fN ok).mpr z)
      have hc : (shA d k s).c * (prt d k).b ≠ 0 := Int.mul_ne_zero oa.cn (AM ok hn (ao ok) h')
      exact (kU hc (ba.b.mul bp.c) sz0 (ba.c.mul bp.b)).mono (by omega)
def Hu (d : Int) : PyData → Option PyData
  | .tuple [.int a, .int b, .int c] => some (.bool (bY d ⟨a, b, c⟩))
  | _ => none
theorem xA (h : oZ ds μ Qd) : k0 { nx := fun _ μ' => Qd (.v .none) μ', rt := Qd } (aO ["d", "kind", "shape", "shares"] ds) μ := by
  obtain ⟨d, k, s, rfl, hd, ok, bk, hk, os, bs, hs, q⟩ := h
  have s5 := iN hd.1 hd.2.1
  have nk := aJ hd ok hk
  have M := MY (s := s) hd ok bk hk os bs
  unfold k0
  walk_at "rn"
  refine ⟨d, k, rfl, hd, ok, bk.mono (by decide), hk, d, s, rfl, hd, os, bs.mono (by decide), hs, d, k, k, rfl, s5, ok, ok, bk.mono (by decide), bk.mono (by decide), ?_⟩
  walk_at "rn"
  by_cases hl : (times d k k).b = 0
  · rw [if_pos (by simpa using hl)]
    have bu := M.bu
    have bv := M.bv
    unfold Ko at q
    rw [vY hl] at bu q
    rw [vL hl] at bv q
    refine ⟨d, s, k, rfl, hd, os, ok, ey hk, bs.mono (by decide), bk.mono (by decide), ?_⟩
    refine ⟨(by show 2 ≤ 1000; decide), Hu d, fun x hx μ2 h2 => ⟨⟨trivial, trivial⟩, ?_⟩, ?_⟩
    · simp only [List.mem_cons, List.not_mem_nil, or_false] at hx
      rcases hx with rfl | rfl
      · exact ⟨d, _, rfl, hd, bu.mono (by decide), rfl, rfl⟩
      · exact ⟨d, _, rfl, hd, bv.mono (by decide), rfl, rfl⟩
    · show (if List.all [bY d (shA d k s), bY d ax] id = true then _ else _)
      have e3 : List.all [bY d (shA d k s), bY d ax] id = dZ d k s := by simp [dZ, vY hl, vL hl]
      rw [e3]
      cases hm : dZ d k s with
      | true =>
        rw [hm, if_pos rfl] at q
        exact q
      | false =>
        rw [hm, if_neg (by decide)] at q
        exact ⟨d, k, s, rfl, hd, ok, bk, hk, os, bs, hs, hm, q⟩
  · rw [if_neg (by simpa using hl)]
    have h' : k.a * k.b ≠ 0 := fun z => hl ((fN ok).mpr z)
    have bu := M.bu
    have bv := M.bv
    unfold Ko at q
    rw [AN hl] at bu q
    rw [BW hl] at bv q
    refine ⟨d, k, rfl, s5, nk, bk.mono (by decide), d, k, av d k, s, rfl, hd, ok, ey hk, az nk, os, ⟨230, 2 * 230 + 6, 1000, bk, bJ s5 nk bk, bs, by decide, by decide, by decide, by decide⟩, AM ok nk (ao ok) h', ?_⟩
    refine ⟨(by show 2 ≤ 1000; decide), Hu d, fun x hx μ2 h2 => ⟨⟨trivial, trivial⟩, ?_⟩, ?_⟩
    · simp only [List.mem_cons, List.not_mem_nil, or_false] at hx
      rcases hx with rfl | rfl
      · exact ⟨d, _, rfl, hd, bu.mono (by decide), rfl, rfl⟩
      · exact ⟨d, _, rfl, hd, bv.mono (by decide), rfl, rfl⟩
    · show (if List.all [bY d (shU d k s), bY d (shV d k s)] id = true then _ else _)
      have e3 : List.all [bY d (shU d k s), bY d (shV d k s)] id = dZ d k s := by simp [dZ, AN hl, BW hl]
      rw [e3]
      cases hm : dZ d k s with
      | true =>
        rw [hm, if_pos rfl] at q
        exact q
      | false =>
        rw [hm, if_neg (by decide)] at q
        exact ⟨d, k, s, rfl, hd, ok, bk, hk, os, bs, hs, hm, q⟩
end
open PySem PySem.Spec PyProof.Rows NM
structure cg (d : Int) (ks : List N3) : Prop where
  l1 : 1 ≤ ks.length
  l3 : ks.length ≤ 3
  ok : ∀ k ∈ ks, Ok k ∧ Bd 130 k ∧ sg d k.a k.b = 1
theorem KindsOk.wide {d : Int} {ks : List N3} (h : KindsOk d ks) : cg d ks := ⟨h.l1, h.l3, fun k hk => ⟨(h.ok k hk).1, (h.ok k hk).2.1.mono (by decide), (h.ok k hk).2.2⟩⟩
def gq : DSp := fun ds μ Q => ∃ (d : Int) (ks : List N3), ds = [.v (.int d), .v (.tuple (ks.map dN))] ∧ ay d ∧ 1 ≤ ks.length ∧ ks.length ≤ 3 ∧ (∀ k ∈ ks, Ok k ∧ Bd 130 k ∧ sg d k.a k.b = 1) ∧ Q (.v .none) μ
theorem vb {μ : Mu} {Q : DK} {ds : List D} (h : gq ds μ Q) : ds.length = 2 := by obtain ⟨_, _, rfl, _⟩ := h; rfl
def Nw (d : Int) (t : PyData) : Prop := Few t ∧ ∀ x, t = dN x → Bd 8900 x
def KT (d : Int) : PyData → Prop
  | .tuple xs => xs.length ≤ 1000 ∧ (xs.length ≤ 3 → ∀ x ∈ xs, Nw d x)
  | _ => True
def CY (d : Int) : PyData → Bool
  | .tuple xs => decide (1 ≤ xs.length) && (decide (xs.length ≤ 3) && xs.all (lj d))
  | _ => false
def qW : DSp := fun ds μ Q => ∃ (d : Int) (t : PyData), ds = [.v (.int d), .v t] ∧ ay d ∧ KT d t ∧ Q (.v (.bool (CY d t))) μ
theorem yW {μ : Mu} {Q : DK} {ds : List D} (h : qW ds μ Q) : ds.length = 2 := by obtain ⟨_, _, rfl, _⟩ := h; rfl
def sgN (d : Int) (k : N3) : Int := sg d (norm d k) 0
def sN : DSp := fun ds μ Q => ∃ (d : Int) (ks : List N3), ds = [.v (.int d), .v (.tuple (ks.map dN))] ∧ ay d ∧ cg d ks ∧ Q (.v (.list ((ks.map (sgN d)).map .int))) μ
theorem BO {μ : Mu} {Q : DK} {ds : List D} (h : sN ds μ Q) : ds.length = 2 := by obtain ⟨_, _, rfl, _⟩ := h; rfl
def wJ : DSp := fun ds μ Q => ∃ (d : Int) (k o : N3), ds = [.v (.int d), .v (dN k), .v (dN o)] ∧ ay d ∧ Ok k ∧ Bd 130 k ∧ sg d k.a k.b = 1 ∧ Ok o ∧ Bd 130 o ∧ sg d o.a o.b = 1 ∧ Q (.v (.bool (decide (gtL d k o)))) μ
theorem Dr {μ : Mu} {Q : DK} {ds : List D} (h : wJ ds μ Q) : ds.length = 3 := by obtain ⟨_, _, _, rfl, _⟩ := h; rfl
def cT (d : Int) (ks : List N3) : Bool := ks.any (fun k => decide (sgN d k = 1)) && ks.any (fun k => decide (sgN d k = -1))
def wM (d : Int) (ks : List N3) : PyData := if cT d ks = true then .none else .int (dE d ks (ks.length - 1) : Nat)
def wA : DSp := fun ds μ Q => ∃ (d : Int) (ks : List N3), ds = [.v (.int d), .v (.tuple (ks.map dN))] ∧ ay d ∧ cg d ks ∧ Q (.v (wM d ks)) μ
theorem DM {μ : Mu} {Q : DK} {ds : List D} (h : wA ds μ Q) : ds.length = 2 := by obtain ⟨_, _, rfl, _⟩ := h; rfl
def Es (i : Int) : PyData := .tuple [.str "kind", .int i]
def Iu (i : Int) : PyData := .tuple [.str "turn", Es i]
def uk (x : N3) (P : PyData) : PyData := if x = one then P else .tuple [.str "grid", .int x.c, .int x.a, P]
def Bw (u v : N3) (F S : PyData) : PyData := if v = ax then uk u F else if u = ax then uk v S else .tuple [.str "upon", .tuple [uk u F, uk v S]]
def kf : DSp := fun ds μ Q => ∃ (x : N3) (P : PyData), ds = [.v (dN x), .v P] ∧ Q (.v (uk x P)) μ
theorem yE {μ : Mu} {Q : DK} {ds : List D} (h : kf ds μ Q) : ds.length = 2 := by obtain ⟨_, _, rfl, _⟩ := h; rfl
def n9 : DSp := fun ds μ Q => ∃ (u v : N3) (F S : PyData), ds = [.v (dN u), .v F, .v (dN v), .v S] ∧ Q (.v (Bw u v F S)) μ
theorem y7 {μ : Mu} {Q : DK} {ds : List D} (h : n9 ds μ Q) : ds.length = 4 := by obtain ⟨_, _, _, _, rfl, _⟩ := h; rfl
def pA : DSp := fun ds μ Q => ∃ (u v : N3) (i : Int), ds = [.v (dN u), .v (dN v), .v (.int i)] ∧ Q (.v (Bw u v (Es i) (Iu i))) μ
theorem xl {μ : Mu} {Q : DK} {ds : List D} (h : pA ds μ Q) : ds.length = 3 := by obtain ⟨_, _, _, rfl, _⟩ := h; rfl
def oi : DTS :=
  (aM (dy (qB (hU (dB (BJ "tuple" (ae 1)))) (qB (dB (dOp rLt (dCB fK (ab (ae 1) ar)) (dC (.int 1)))) (dB (dOp rGt (dCB fK (ab (ae 1) ar)) (dC (.int 3)))))) (bF (dC (.bool false))) cb)
  (bF (dCB sj (ab (pX [none, some 0] (nU (ae 1)) (aw 0) pK (aq lO (ab (ae 1) (ab (ae 0) ar)))) ar))))
def iB : DTS :=
  (dy (hU (dB (aq qW (ab (ae 0) (ab (ae 1) ar))))) uf cb)
def kW : DTS :=
  (bF (pX [none, some 0] (nU (ae 1)) (aw 0) pK (aq gb (ab (ae 1) (ab (aq eN (ab (ae 0) ar)) ar)))))
def lr : DTS :=
  (aM (bA (aq rN (ab (ae 0) (ab (ae 1) ar))) (nu 3 (cK (aw 3) (cK (aw 4) (cK (aw 5) nT)))))
  (aM (bA (aq rN (ab (ae 0) (ab (ae 2) ar))) (nu 3 (cK (aw 6) (cK (aw 7) (cK (aw 8) nT)))))
  (bF (dOp rGt (cq (dCB oG (ab (ae 3) ar)) (ae 8)) (cq (dCB oG (ab (ae 6) ar)) (ae 5))))))
def k8 : DTS :=
  (aM (nO (aq gq (ab (ae 0) (ab (ae 1) ar))))
  (aM (bA (aq sN (ab (ae 0) (ab (ae 1) ar))) (aw 2))
  (aM (dy (uF (dB (dOp (Co false) (dC (.int 1)) (ae 2))) (dB (dOp (Co false) (vZ (dC (.int 1))) (ae 2)))) (bF (dC .none)) cb)
  (aM (bA (dC (.int 0)) (aw 3))
  (aM (Al (wL (ab (dC (.int 1)) (ab (dCB fK (ab (ae 1) ar)) ar))) (aw 4) (dy (dB (aq wJ (ab (ae 0) (ab (dOp aF (ae 1) (ae 4)) (ab (dOp aF (ae 1) (ae 3)) ar))))) (bA (ae 4) (aw 3)) cb))
  (bF (ae 3)))))))
def k6 : DTS :=
  (aM (dy (dB (dOp (eh false) (ae 0) (dC (.tuple [.int 1, .int 0, .int 1])))) (bF (ae 1)) cb)
  (bF (en (ab (dC (.str "grid")) (ab (dOp aF (ae 0) (dC (.int 2))) (ab (dOp aF (ae 0) (dC (.int 0))) (ab (ae 1) ar)))))))
def gY : DTS :=
  (aM (dy (dB (dOp (eh false) (ae 2) (dC (.tuple [.int 0, .int 0, .int 1])))) (bF (aq kf (ab (ae 0) (ab (ae 1) ar)))) cb)
  (aM (dy (dB (dOp (eh false) (ae 0) (dC (.tuple [.int 0, .int 0, .int 1])))) (bF (aq kf (ab (ae 2) (ab (ae 3) ar)))) cb)
  (bF (en (ab (dC (.str "upon")) (ab (en (ab (aq kf (ab (ae 0) (ab (ae 1) ar))) (ab (aq kf (ab (ae 2) (ab (ae 3) ar))) ar))) ar))))))
def gg : DTS :=
  (aM (bA (en (ab (dC (.str "kind")) (ab (ae 2) ar))) (aw 3))
  (bF (aq n9 (ab (ae 0) (ab (ae 3) (ab (ae 1) (ab (en (ab (dC (.str "turn")) (ab (ae 3) ar))) ar)))))))
section
variable {μ : Mu} {Qd : DK} {ds : List D}
theorem Di {xs : List PyData} (g : PyData → Bool) : dg (xs.filterMap fun x => some (.bool (g x))) = some (xs.map g) := by
  induction xs with
  | nil => rfl
  | cons x xs ih =>
    rw [List.filterMap_cons]
    show dg (PyData.bool (g x) :: _) = _
    unfold dg
    rw [ih]
    rfl
theorem BD (h : qW ds μ Qd) : oi { nx := fun _ μ' => Qd (.v .none) μ', rt := Qd } (aO ["d", "thing"] ds) μ := by
  obtain ⟨d, t, rfl, hd, kt, q⟩ := h
  unfold oi
  walk_at "rn"
  rcases D9 t with ⟨xs, rfl, e⟩ | ⟨hn, e⟩
  · rw [e]
    walk_at "rn"
    have q' : Qd (.v (.bool (decide (1 ≤ xs.length) && (decide (xs.length ≤ 3) && xs.all (lj d))))) μ := q
    by_cases h1 : ((xs.length : Nat) : Int) < 1
    · rw [if_pos (by simpa using h1)]
      rw [decide_eq_false (show ¬ 1 ≤ xs.length by omega), Bool.false_and] at q'
      exact q'
    · rw [if_neg (by simpa using h1)]
      by_cases h3 : (3 : Int) < ((xs.length : Nat) : Int)
      · rw [if_pos (by simpa using h3)]
        rw [decide_eq_false (show ¬ xs.length ≤ 3 by omega), Bool.false_and, Bool.and_false] at q'
        exact q'
      · rw [if_neg (by simpa using h3)]
        rw [decide_eq_true (show 1 ≤ xs.length by omega), decide_eq_true (show xs.length ≤ 3 by omega), Bool.true_and, Bool.true_and] at q'
        refine ⟨by omega, fun x => some (.bool (lj d x)), fun x hx μ' hs => ⟨⟨trivial, trivial⟩, ?_⟩, ?_⟩
        · have p := kt.2 (by omega) x hx
          exact ⟨d, x, rfl, hd, p.1, p.2, rfl, rfl⟩
        · rw [Di]
          dsimp only
          rw [List.all_map]
          exact q'
  · rw [e]
    walk_at "rn"
    have : CY d t = false := by cases t <;> first | rfl | exact absurd rfl (hn _)
    rw [this] at q
    exact q
theorem FJ {d : Int} {ks : List N3} (h : cg d ks) : CY d (.tuple (ks.map dN)) = true := by
  show (decide (1 ≤ (ks.map dN).length) && (decide ((ks.map dN).length ≤ 3) && (ks.map dN).all (lj d))) = true
  rw [List.length_map, decide_eq_true h.l1, decide_eq_true h.l3, Bool.true_and, Bool.true_and, List.all_map, List.all_eq_true]
  intro k hk
  obtain ⟨ok, _, sk⟩ := h.ok k hk
  show lj d (dN k) = true
  rw [rP ok, sk]
  rfl
theorem NS {d : Int} {ks : List N3} (h : cg d ks) : KT d (.tuple (ks.map dN)) := by
  refine ⟨by rw [List.length_map]; have := h.l3; omega, fun _ x hx => ?_⟩
  obtain ⟨k, hk, rfl⟩ := List.mem_map.mp hx
  exact ⟨Ek, fun y e => by rw [← GF e]; exact (h.ok k hk).2.1.mono (by decide)⟩
theorem tO (h : gq ds μ Qd) : iB { nx := fun _ μ' => Qd (.v .none) μ', rt := Qd } (aO ["d", "thing"] ds) μ := by
  obtain ⟨d, ks, rfl, hd, l1, l3, hk, q⟩ := h
  have ho : cg d ks := ⟨l1, l3, hk⟩
  unfold iB
  walk_at "rn"
  refine ⟨d, _, rfl, hd, NS ho, ?_⟩
  rw [FJ ho]
  exact q
theorem HZ {d : Int} {k : N3} (hd : ay d) (ok : Ok k) (sk : sg d k.a k.b = 1) : sg d (aX k).a (aX k).b = sgN d k := Er hd ok sk
def signOf (d : Int) : PyData → Option PyData
  | .tuple [.int a, .int b, .int c] => some (.int (sgN d ⟨a, b, c⟩))
  | _ => none
theorem JK {d : Int} (ks : List N3) : (ks.map dN).filterMap (signOf d) = (ks.map (sgN d)).map .int := by
  induction ks with
  | nil => rfl
  | cons k ks ih =>
    rw [List.map_cons, List.filterMap_cons]
    show (PyData.int (sgN d k)) :: _ = _
    rw [ih]
    rfl
theorem xG (h : sN ds μ Qd) : kW { nx := fun _ μ' => Qd (.v .none) μ', rt := Qd } (aO ["d", "kinds"] ds) μ := by
  obtain ⟨d, ks, rfl, hd, ho, q⟩ := h
  unfold kW
  walk_at "rn"
  refine ⟨by rw [List.length_map]; have := ho.l3; omega, signOf d, fun x hx μ' hs => ⟨⟨trivial, trivial⟩, ?_⟩, ?_⟩
  · obtain ⟨k, hk, rfl⟩ := List.mem_map.mp hx
    obtain ⟨ok, bk, sk⟩ := ho.ok k hk
    refine ⟨k, rfl, d, aX k, rfl, hd, (dJ bk).mono (by decide), rfl, ?_⟩
    rw [HZ hd ok sk]
    rfl
  · rw [JK]
    exact q
theorem xk (h : wJ ds μ Qd) : lr { nx := fun _ μ' => Qd (.v .none) μ', rt := Qd } (aO ["d", "kind", "other", "a", "b", "c", "other_a", "other_b", "other_c"] ds) μ := by
  obtain ⟨d, k, o, rfl, hd, ok, bk, sk, oo, bo, so, q⟩ := h
  have s5 := iN hd.1 hd.2.1
  have bl := BQ s5 hd ok (aJ hd ok sk) bk
  have bm := BQ s5 hd oo (aJ hd oo so) bo
  unfold lr
  walk_at "rn"
  refine ⟨d, k, rfl, hd, ok, bk.mono (by decide), sk, ?_⟩
  walk_at "rn"
  refine ⟨rfl, d, o, rfl, hd, oo, bo.mono (by decide), so, ?_⟩
  walk_at "rn"
  refine ⟨rfl, ?_⟩
  have sa : ∀ {n : Nat} {i : Int}, Sz n i → Sz n ((i.natAbs : Nat) : Int) := fun h => h.le (by simp)
  refine ⟨eM (sa bl.a) bm.c (by decide), eM (sa bm.a) bl.c (by decide), ?_⟩
  exact q
theorem Be {d : Int} {ks : List N3} (v : Int) : (((ks.map (sgN d)).map PyData.int).any fun b => PyData.eqv b (.int v)) = ks.any (fun k => decide (sgN d k = v)) := by
  induction ks with
  | nil => rfl
  | cons k ks ih =>
    rw [List.map_cons, List.map_cons, List.any_cons, List.any_cons, ih]
    rfl
theorem Ff (l : List Int) : PyData.canLayAll0 (l.map PyData.int) = true := by
  induction l with
  | nil => rfl
  | cons k l ih => rw [List.map_cons]; show (PyData.canLay0 (.int k) && PyData.canLayAll0 _) = true; rw [ih]; rfl
theorem eI {ks : List N3} {i : Nat} (h : i < ks.length) : (ks.map dN)[i]? = some (dN (ks.getD i ax)) ∧ ks.getD i ax ∈ ks := by
  have e : ks[i]? = some (ks.getD i ax) := by
    rw [List.getD_eq_getElem?_getD, List.getElem?_eq_getElem h]; rfl
  exact ⟨by rw [List.getElem?_map, e]; rfl, List.mem_of_getElem? e⟩
theorem xY (h : wA ds μ Qd) : k8 { nx := fun _ μ' => Qd (.v .none) μ', rt := Qd } (aO ["d", "kinds", "signs", "most", "place"] ds) μ := by
  obtain ⟨d, ks, rfl, hd, ho, q⟩ := h
  unfold k8
  walk_at "rn"
  refine ⟨d, ks, rfl, hd, ho.l1, ho.l3, ho.ok, d, ks, rfl, hd, ho, ?_⟩
  walk_at "rn"
  have tail : cT d ks = false → Al (wL (ab (dC (PyData.int 1)) (ab (dCB fK (ab (ae 1) ar)) ar))) (aw 4)
      (dy (dB (aq wJ (ab (ae 0) (ab (dOp aF (ae 1) (ae 4)) (ab (dOp aF (ae 1) (ae 3)) ar))))) (bA (ae 4) (aw 3)) cb)
      { nx := bF (ae 3) { nx := fun x μ' => Qd (D.v PyData.none) μ', rt := Qd }, rt := Qd }
      [some (D.v (PyData.int d)), some (D.v (PyData.tuple (List.map dN ks))), some (D.v (PyData.list (List.map PyData.int (List.map (sgN d) ks)))), some (D.v (PyData.int 0)), none] μ := fun hm => by
    have q' : Qd (D.v (.int (dE d ks (ks.length - 1) : Nat))) μ := by
      have : wM d ks = .int (dE d ks (ks.length - 1) : Nat) := by unfold wM; rw [hm]; rfl
      rw [this] at q; exact q
    have l1 := ho.l1
    have l3 := ho.l3
    rw [yd]
    walk_at "rn"
    rw [List.length_map]
    have hc : ∀ i, i < ks.length → 0 < (dF d (ks.getD i ax)).c := fun i hi => by
      obtain ⟨ok, _, sk⟩ := ho.ok _ (eI hi).2
      exact (lX hd (aJ hd ok sk) ok).c
    refine ⟨by omega, fun i ρ' μ' => μ' = μ ∧ ∃ r4, ρ' = [some (D.v (PyData.int d)), some (D.v (PyData.tuple (List.map dN ks))), some (D.v (PyData.list (List.map PyData.int (List.map (sgN d) ks)))), some (D.v (PyData.int (dE d ks i : Nat))), r4], ⟨rfl, _, rfl⟩, ?_, ?_⟩
    · rintro i x ρ' μ' hx ⟨rfl, r4, rfl⟩
      obtain ⟨rfl, hi⟩ := EA hx
      have hi' : i + 1 < ks.length := by omega
      obtain ⟨m1, m2, m3⟩ := oU hc i (by omega)
      have g1 := eI hi'
      have g2 := eI (ks := ks) (i := dE d ks i) (by omega)
      walk_at "rn"
      rw [show (1 + (i : Int)) = ((i + 1 : Nat) : Int) by omega]
      rw [kH g1.1, kH g2.1]
      obtain ⟨o1, b1, s1⟩ := ho.ok _ g1.2
      obtain ⟨o2, b2, s2⟩ := ho.ok _ g2.2
      refine ⟨d, _, _, rfl, hd, o1, b1, s1, o2, b2, s2, ?_⟩
      walk_at "rn"
      by_cases g : gtL d (ks.getD (i + 1) ax) (ks.getD (dE d ks i) ax)
      · rw [if_pos (by simpa using g)]
        have em : dE d ks (i + 1) = i + 1 := by show (if _ then _ else _) = _; rw [if_pos g]
        exact ⟨trivial, _, by rw [em]⟩
      · rw [if_neg (by simpa using g)]
        have em : dE d ks (i + 1) = dE d ks i := by show (if _ then _ else _) = _; rw [if_neg g]
        exact ⟨trivial, _, by rw [em]⟩
    · rintro ρ' μ' ⟨rfl, r4, rfl⟩
      rw [Dm]
      walk_at "rn"
      rw [show (((ks.length : Nat) : Int) - 1).toNat = ks.length - 1 by omega]
      exact q'
  have l1 := Ff (ks.map (sgN d))
  refine ⟨l1, rfl, by decide, ?_⟩
  rw [Be]
  cases e1 : ks.any (fun k => decide (sgN d k = 1)) with
  | false =>
    simp only [Bool.false_eq_true, ↓reduceIte]
    exact tail (by unfold cT; rw [e1]; rfl)
  | true =>
    simp only [↓reduceIte]
    refine ⟨l1, rfl, by decide, ?_⟩
    rw [Be]
    cases e2 : ks.any (fun k => decide (sgN d k = -1)) with
    | false =>
      simp only [Bool.false_eq_true, ↓reduceIte]
      exact tail (by unfold cT; rw [e1, e2]; rfl)
    | true =>
      simp only [↓reduceIte]
      have : wM d ks = .none := by unfold wM cT; rw [e1, e2]; rfl
      rw [this] at q
      exact q
theorem Jp {xs : List PyData} {lo hi : Option Int} {x : PyData} (h : x ∈ fJ xs lo hi) : x ∈ xs := by
  unfold fJ at h
  exact List.mem_of_mem_drop (List.mem_of_mem_take h)
theorem xb (h : kf ds μ Qd) : k6 { nx := fun _ μ' => Qd (.v .none) μ', rt := Qd } (aO ["share", "plan"] ds) μ := by
  obtain ⟨x, P, rfl, q⟩ := h
  unfold k6
  walk_at "rn"
  unfold uk at q
  by_cases c : x = one
  · rw [if_pos c] at q
    rw [if_pos (by simpa [one] using c)]
    exact q
  · rw [if_neg c] at q
    rw [if_neg (by simpa [one] using c)]
    exact q
theorem rS (h : n9 ds μ Qd) : gY { nx := fun _ μ' => Qd (.v .none) μ', rt := Qd } (aO ["u", "first", "v", "second"] ds) μ := by
  obtain ⟨u, v, F, S, rfl, q⟩ := h
  unfold gY
  walk_at "rn"
  unfold Bw at q
  by_cases c : v = ax
  · rw [if_pos c] at q
    rw [if_pos (by simpa [ax] using c)]
    exact ⟨u, F, rfl, q⟩
  · rw [if_neg c] at q
    rw [if_neg (by simpa [ax] using c)]
    by_cases c2 : u = ax
    · rw [if_pos c2] at q
      rw [if_pos (by simpa [ax] using c2)]
      exact ⟨v, S, rfl, q⟩
    · rw [if_neg c2] at q
      rw [if_neg (by simpa [ax] using c2)]
      refine ⟨u, F, rfl, ?_⟩
      walk_at "rn"
      refine ⟨v, S, rfl, ?_⟩
      walk_at "rn"
      exact q
theorem qa (h : pA ds μ Qd) : gg { nx := fun _ μ' => Qd (.v .none) μ', rt := Qd } (aO ["u", "v", "place", "kind"] ds) μ := by
  obtain ⟨u, v, i, rfl, q⟩ := h
  unfold gg
  walk_at "rn"
  exact ⟨u, v, _, _, rfl, q⟩
end
open PySem PySem.Spec PyProof.Rows NM
def grB (x : N3) : Bool := decide (x.a * x.b < 0)
def qM : DSp := fun ds μ Q => ∃ x : N3, ds = [.v (dN x)] ∧ Bd 4000 x ∧ Q (.v (.bool (grB x))) μ
theorem B7 {μ : Mu} {Q : DK} {ds : List D} (h : qM ds μ Q) : ds.length = 1 := by obtain ⟨_, rfl, _⟩ := h; rfl
def grN (d : Int) (k : N3) : N3 := if grB (av d k) = true then av d k else k
def grP (d : Int) (k : N3) (i : Int) : PyData := if grB (av d k) = true then Iu i else Es i
def lK : DSp := fun ds μ Q => ∃ (d : Int) (ks : List N3) (i : Nat), ds = [.v (.int d), .v (.tuple (ks.map dN)), .v (.int i)] ∧ ay d ∧ cg d ks ∧ i < ks.length ∧ Q (.v (.tuple [dN (grN d (ks.getD i ax)), grP d (ks.getD i ax) i])) μ
theorem xH {μ : Mu} {Q : DK} {ds : List D} (h : lK ds μ Q) : ds.length = 3 := by obtain ⟨_, _, _, rfl, _⟩ := h; rfl
def iOf (d : Int) (ks : List N3) (v : Int) : Nat := (wu v (ks.map (sgN d))).getD 0
def G4 (d : Int) (ks : List N3) (s : N3) : PyData := Bw (Oj d (grN d (ks.getD (iOf d ks 1) ax)) (grN d (ks.getD (iOf d ks (-1)) ax)) (if grB s = true then av d s else s)) (Fg d (grN d (ks.getD (iOf d ks 1) ax)) (grN d (ks.getD (iOf d ks (-1)) ax)) (if grB s = true then av d s else s)) (grP d (ks.getD (iOf d ks 1) ax) (iOf d ks 1 : Nat)) (grP d (ks.getD (iOf d ks (-1)) ax) (iOf d ks (-1) : Nat))
def Ho (d : Int) (ks : List N3) (s : N3) : PyData := if grB s = true then .tuple [.str "turn", G4 d ks s] else G4 d ks s
def yY : DSp := fun ds μ Q => ∃ (d : Int) (ks : List N3) (s : N3), ds = [.v (.int d), .v (.tuple (ks.map dN)), .v (dN s)] ∧ ay d ∧ cg d ks ∧ cT d ks = true ∧ Ok s ∧ Bd 700 s ∧ sg d s.a s.b = 1 ∧ Q (.v (Ho d ks s)) μ
theorem Ck {μ : Mu} {Q : DK} {ds : List D} (h : yY ds μ Q) : ds.length = 3 := by obtain ⟨_, _, _, rfl, _⟩ := h; rfl
def AI (d : Int) (ks : List N3) : Nat := dE d ks (ks.length - 1)
def jl (d : Int) (ks : List N3) : N3 := ks.getD (AI d ks) ax
def bO (d : Int) (ks : List N3) (s : N3) : Bool := cT d ks || dZ d (jl d ks) s
def sr (d : Int) (ks : List N3) (s : N3) : PyData :=
  if cT d ks = true then .tuple [.str "plan", Ho d ks s]
  else if dZ d (jl d ks) s = true then .tuple [.str "plan", Bw (qK d (jl d ks) s) (qf d (jl d ks) s) (Es (AI d ks : Nat)) (Iu (AI d ks : Nat))]
  else .tuple [.str "bar", AR d (jl d ks) s]
def vW : DSp := fun ds μ Q => ∃ (d : Int) (ks : List N3) (s : N3), ds = [.v (.int d), .v (.tuple (ks.map dN)), .v (dN s)] ∧ ay d ∧ cg d ks ∧ Ok s ∧ Bd 700 s ∧ sg d s.a s.b = 1 ∧ Q (.v (sr d ks s)) μ
theorem Dh {μ : Mu} {Q : DK} {ds : List D} (h : vW ds μ Q) : ds.length = 3 := by obtain ⟨_, _, _, rfl, _⟩ := h; rfl
def g9 : DSp := fun ds μ Q => ∃ (d : Int) (ks : List N3) (s : N3), ds = [.v (.int d), .v (.tuple (ks.map dN)), .v (dN s)] ∧ ay d ∧ cg d ks ∧ Ok s ∧ Bd 700 s ∧ sg d s.a s.b = 1 ∧ Q (.v (.bool (bO d ks s))) μ
theorem DJ {μ : Mu} {Q : DK} {ds : List D} (h : g9 ds μ Q) : ds.length = 3 := by obtain ⟨_, _, _, rfl, _⟩ := h; rfl
def fB : DTS :=
  (bF (dOp rLt (cq (dOp aF (ae 0) (dC (.int 0))) (dOp aF (ae 0) (dC (.int 1)))) (dC (.int 0))))
def eK : DTS :=
  (aM (bA (dOp aF (ae 1) (ae 2)) (aw 3))
  (aM (bA (en (ab (dC (.str "kind")) (ab (ae 2) ar))) (aw 4))
  (aM (dy (dB (aq qM (ab (aq bW (ab (ae 0) (ab (ae 3) ar))) ar))) (bF (en (ab (aq bW (ab (ae 0) (ab (ae 3) ar))) (ab (en (ab (dC (.str "turn")) (ab (ae 4) ar))) ar)))) cb)
  (bF (en (ab (ae 3) (ab (ae 4) ar)))))))
def i5 : DTS :=
  (aM (bA (aq sN (ab (ae 0) (ab (ae 1) ar))) (aw 3))
  (aM (bA (aq lK (ab (ae 0) (ab (ae 1) (ab (zm (ae 3) (dC (.int 1))) ar)))) (nu 2 (cK (aw 4) (cK (aw 5) nT))))
  (aM (bA (aq lK (ab (ae 0) (ab (ae 1) (ab (zm (ae 3) (vZ (dC (.int 1)))) ar)))) (nu 2 (cK (aw 6) (cK (aw 7) nT))))
  (aM (bA (aq qM (ab (ae 2) ar)) (aw 8))
  (aM (bA (aq nK (ab (ae 0) (ab (ae 4) (ab (ae 6) (ab (dIf (dB (ae 8)) (aq bW (ab (ae 0) (ab (ae 2) ar))) (ae 2)) ar))))) (nu 2 (cK (aw 9) (cK (aw 10) nT))))
  (aM (bA (aq n9 (ab (ae 9) (ab (ae 5) (ab (ae 10) (ab (ae 7) ar))))) (aw 11))
  (bF (dIf (dB (ae 8)) (en (ab (dC (.str "turn")) (ab (ae 11) ar))) (ae 11)))))))))
def mK : DTS :=
  (aM (nO (aq gq (ab (ae 0) (ab (ae 1) ar))))
  (aM (nO (aq dX (ab (ae 0) (ab (ae 2) ar))))
  (aM (bA (aq wA (ab (ae 0) (ab (ae 1) ar))) (aw 3))
  (aM (dy (dB (dOp yw (ae 3) (dC .none))) (bF (en (ab (dC (.str "plan")) (ab (aq yY (ab (ae 0) (ab (ae 1) (ab (ae 2) ar)))) ar)))) cb)
  (aM (bA (aq oZ (ab (ae 0) (ab (dOp aF (ae 1) (ae 3)) (ab (ae 2) ar)))) (aw 4))
  (aM (dy (dB (dOp (eh false) (dOp aF (ae 4) (dC (.int 0))) (dC (.str "bar")))) (bF (ae 4)) cb)
  (bF (en (ab (dC (.str "plan")) (ab (aq pA (ab (dOp aF (ae 4) (dC (.int 1))) (ab (dOp aF (ae 4) (dC (.int 2))) (ab (ae 3) ar)))) ar))))))))))
def qe : DTS :=
  (bF (dOp (eh false) (dOp aF (aq vW (ab (ae 0) (ab (ae 1) (ab (ae 2) ar)))) (dC (.int 0))) (dC (.str "plan"))))
section
variable {μ : Mu} {Qd : DK} {ds : List D}
theorem pG (h : qM ds μ Qd) : fB { nx := fun _ μ' => Qd (.v .none) μ', rt := Qd } (aO ["shape"] ds) μ := by
  obtain ⟨x, rfl, bx, q⟩ := h
  unfold fB
  walk_at "rn"
  exact ⟨eM bx.a bx.b (by decide), q⟩
theorem nQ (h : lK ds μ Qd) : eK { nx := fun _ μ' => Qd (.v .none) μ', rt := Qd } (aO ["d", "kinds", "place", "kind", "plan"] ds) μ := by
  obtain ⟨d, ks, i, rfl, hd, ho, hi, q⟩ := h
  have s5 := iN hd.1 hd.2.1
  obtain ⟨e1, hk⟩ := eI hi
  obtain ⟨ok, bk, sk⟩ := ho.ok _ hk
  have nk := aJ hd ok sk
  have bc := bJ s5 nk bk
  unfold eK
  walk_at "rn"
  rw [kH e1]
  walk_at "rn"
  refine ⟨d, _, rfl, s5, nk, bk.mono (by decide), _, rfl, bc.mono (by decide), ?_⟩
  unfold grN grP at q
  cases e : grB (av d (ks.getD i ax)) with
  | true =>
    rw [e, if_pos rfl, if_pos rfl] at q
    simp only [↓reduceIte]
    exact ⟨d, _, rfl, s5, nk, bk.mono (by decide), q⟩
  | false =>
    rw [e, if_neg (by decide), if_neg (by decide)] at q
    simp only [Bool.false_eq_true, ↓reduceIte]
    exact q
theorem A6 {v : Int} : ∀ {l : List Int}, v ∈ l → ∃ j, wu v l = some j ∧ j < l.length ∧ l[j]? = some v
  | [], h => nomatch h
  | x :: r, h => by
    unfold wu
    by_cases e : x = v
    · rw [if_pos e]
      exact ⟨0, rfl, Nat.succ_pos _, by rw [e]; rfl⟩
    · rw [if_neg e]
      have h' : v ∈ r := (List.mem_cons.mp h).resolve_left (fun z => e z.symm)
      obtain ⟨j, h1, h2, h3⟩ := A6 h'
      exact ⟨j + 1, by rw [h1]; rfl, Nat.succ_lt_succ h2, h3⟩
theorem B9 {d : Int} {ks : List N3} {v : Int} (h : ks.any (fun k => decide (sgN d k = v)) = true) : wu v (ks.map (sgN d)) = some (iOf d ks v) ∧ iOf d ks v < ks.length ∧ sgN d (ks.getD (iOf d ks v) ax) = v := by
  obtain ⟨k, hk, hv⟩ := List.any_eq_true.mp h
  have hv' : sgN d k = v := by simpa using hv
  obtain ⟨j, h1, h2, h3⟩ := A6 (l := ks.map (sgN d)) (v := v) (by rw [← hv']; exact List.mem_map_of_mem hk)
  have e : iOf d ks v = j := by unfold iOf; rw [h1]; rfl
  rw [List.length_map] at h2
  refine ⟨by rw [e]; exact h1, by rw [e]; exact h2, ?_⟩
  rw [e]
  rw [List.getElem?_map] at h3
  obtain ⟨g1, g2⟩ := eI h2
  have g3 : ks[j]? = some (ks.getD j ax) := by rw [List.getD_eq_getElem?_getD, List.getElem?_eq_getElem h2]; rfl
  rw [g3] at h3
  exact Option.some.inj h3
theorem zi {d : Int} {k : N3} (ok : Ok k) (nk : norm d k ≠ 0) : (0 < norm d (av d k) ↔ 0 < norm d k) ∧ (norm d (av d k) < 0 ↔ norm d k < 0) := j8 (eX ok nk)
structure OH (d : Int) (k : N3) : Prop where
  ok : Ok (grN d k)
  bd : Bd 266 (grN d k)
  sg : NM.sg d (grN d k).a (grN d k).b = 1
  pos : 0 < norm d (grN d k) ↔ 0 < norm d k
  neg : norm d (grN d k) < 0 ↔ norm d k < 0
theorem KR {d : Int} {k : N3} (hd : ay d) (ok : Ok k) (bk : Bd 130 k) (sk : sg d k.a k.b = 1) : OH d k := by
  have s5 := iN hd.1 hd.2.1
  have nk := aJ hd ok sk
  have n := zi ok nk
  by_cases e : grB (av d k) = true
  · have eg : grN d k = av d k := if_pos e
    exact ⟨by rw [eg]; exact az nk, by rw [eg]; exact bJ s5 nk bk, by rw [eg]; exact dY hd ok sk, by rw [eg]; exact n.1, by rw [eg]; exact n.2⟩
  · have eg : grN d k = k := if_neg e
    exact ⟨by rw [eg]; exact ok, by rw [eg]; exact bk.mono (by decide), by rw [eg]; exact sk, by rw [eg], by rw [eg]⟩
theorem unlike {d : Int} {f g : N3} (hd : ay d) (of : Ok f) (og : Ok g) (hf : 0 < norm d f) (hg : norm d g < 0) : (shA d f g).b ≠ 0 := fun z => by
  have nf : norm d f ≠ 0 := by omega
  have r := vV of og nf (ao of) (ao og)
  have h := (wF r (fH og nf)).mp z
  have h2 := (Int.mul_eq_zero.mp h).resolve_left of.cn
  have h3 : g.b * f.a = g.a * f.b := by omega
  have e : norm d g * (f.a * f.a) = g.a * g.a * norm d f := by
    unfold norm
    have : (g.a * g.a - d * g.b * g.b) * (f.a * f.a) = g.a * g.a * (f.a * f.a) - d * ((g.b * f.a) * (g.b * f.a)) := by grind
    rw [this, h3]
    grind
  have fa : f.a ≠ 0 := fun z => by
    have h0 : norm d f = f.a * f.a - d * f.b * f.b := rfl
    have h1 := dsq (d := d) (b := f.b) (by have := hd.1; omega)
    rw [z] at h0
    omega
  have h5 := sq_pos fa
  have h6 := Int.mul_neg_of_neg_of_pos hg h5
  have h7 := Int.mul_nonneg (sq_nonneg g.a) (Int.le_of_lt hf)
  omega
theorem JX {d : Int} {k : N3} (h : sgN d k = 1) : 0 < norm d k := by
  unfold sgN at h
  rw [kg] at h
  split at h
  · cases h
  · split at h
    · assumption
    · cases h
theorem JV {d : Int} {k : N3} (h : sgN d k = -1) : norm d k < 0 := by
  unfold sgN at h
  rw [kg] at h
  split at h
  · cases h
  · split at h
    · cases h
    · omega
theorem u7 (h : yY ds μ Qd) : i5 { nx := fun _ μ' => Qd (.v .none) μ', rt := Qd } (aO ["d", "kinds", "shape", "signs", "first", "first_plan", "second", "second_plan", "is_contrary", "u", "v", "plan"] ds) μ := by
  obtain ⟨d, ks, s, rfl, hd, ho, hm, os, bs, hs, q⟩ := h
  have s5 := iN hd.1 hd.2.1
  have ns := aJ hd os hs
  unfold cT at hm
  rw [Bool.and_eq_true] at hm
  obtain ⟨i1, i2, i3⟩ := B9 hm.1
  obtain ⟨j1, j2, j3⟩ := B9 hm.2
  obtain ⟨ok1, bk1, sk1⟩ := ho.ok _ (eI i2).2
  obtain ⟨ok2, bk2, sk2⟩ := ho.ok _ (eI j2).2
  have g1 := KR hd ok1 bk1 sk1
  have g2 := KR hd ok2 bk2 sk2
  have un := unlike hd g1.ok g2.ok (g1.pos.mpr (JX i3)) (g2.neg.mpr (JV j3))
  unfold i5
  walk_at "rn"
  refine ⟨d, ks, rfl, hd, ho, ?_⟩
  walk_at "rn"
  rw [DZ]
  walk_at "rn"
  refine ⟨_, _, rfl, i1, d, ks, _, rfl, hd, ho, i2, ?_⟩
  walk_at "rn"
  refine ⟨trivial, ?_⟩
  rw [DZ]
  walk_at "rn"
  refine ⟨_, _, rfl, j1, d, ks, _, rfl, hd, ho, j2, ?_⟩
  walk_at "rn"
  refine ⟨trivial, s, rfl, bs.mono (by decide), ?_⟩
  unfold Ho G4 at q
  cases e : grB s with
  | true =>
    rw [e, if_pos rfl, if_pos rfl] at q
    walk_at "rn"
    refine ⟨d, s, rfl, s5, ns, bs.mono (by decide), d, _, _, _, rfl, hd, g1.ok, ey g1.sg, g2.ok, az ns, ⟨266, 266, 2 * 700 + 6, g1.bd, g2.bd, bJ s5 ns bs, by decide, by decide, by decide, by decide⟩, un, ?_⟩
    walk_at "rn"
    refine ⟨trivial, _, _, _, _, rfl, ?_⟩
    exact q
  | false =>
    rw [e, if_neg (by decide), if_neg (by decide)] at q
    walk_at "rn"
    refine ⟨d, _, _, _, rfl, hd, g1.ok, ey g1.sg, g2.ok, os, ⟨266, 266, 700, g1.bd, g2.bd, bs, by decide, by decide, by decide, by decide⟩, un, ?_⟩
    walk_at "rn"
    refine ⟨trivial, _, _, _, _, rfl, ?_⟩
    exact q
theorem sX : SeqAt.shaped (.str "plan") = true := by decide +kernel
theorem vP : SeqAt.shaped (.str "bar") = true := by decide +kernel
theorem LI : SeqAt.shaped (.str "mixture") = true := by decide +kernel
theorem uc {a b : Str} {neg : Bool} {μ : Mu} {Q : DK} (ha : SeqAt.shaped (.str a) = true) (hb : SeqAt.shaped (.str b) = true) : eh neg (.v (.str a)) (.v (.str b)) μ Q = Q (.v (.bool (neg ^^ decide (a = b)))) μ := by
  rw [El]
  have e : PyData.eqv (.str a) (.str b) = decide (a = b) := by simp [PyData.eqv]; rfl
  rw [e]
  exact propext ⟨fun h => h.2.2, fun h => ⟨ha, hb, h⟩⟩
theorem vD {d : Int} {ks : List N3} (hd : ay d) (ho : cg d ks) : AI d ks < ks.length := by
  have l1 := ho.l1
  have hc : ∀ i, i < ks.length → 0 < (dF d (ks.getD i ax)).c := fun i hi => by
    obtain ⟨ok, _, sk⟩ := ho.ok _ (eI hi).2
    exact (lX hd (aJ hd ok sk) ok).c
  have := (oU hc (ks.length - 1) (by omega)).1
  unfold AI
  omega
theorem Av (h : vW ds μ Qd) : mK { nx := fun _ μ' => Qd (.v .none) μ', rt := Qd } (aO ["d", "kinds", "shape", "place", "told"] ds) μ := by
  obtain ⟨d, ks, s, rfl, hd, ho, os, bs, hs, q⟩ := h
  unfold mK
  walk_at "rn"
  refine ⟨d, ks, rfl, hd, ho.l1, ho.l3, ho.ok, d, s, rfl, hd, os, bs.mono (by decide), hs, d, ks, rfl, hd, ho, ?_⟩
  unfold sr at q
  unfold wM
  cases hm : cT d ks with
  | true =>
    rw [hm, if_pos rfl] at q
    rw [if_pos rfl]
    rw [Bm]
    simp only [↓reduceIte]
    exact ⟨d, ks, s, rfl, hd, ho, hm, os, bs, hs, q⟩
  | false =>
    rw [hm, if_neg (by decide)] at q
    rw [if_neg (by decide)]
    have hlt := vD hd ho
    obtain ⟨e1, hk⟩ := eI hlt
    obtain ⟨ok, bk, sk⟩ := ho.ok _ hk
    walk_at "rn"
    rw [D1]
    simp only [Bool.false_eq_true, ↓reduceIte]
    have e2 : atI (ks.map dN) ((dE d ks (ks.length - 1) : Nat) : Int) = some (dN (jl d ks)) := kH e1
    rw [e2]
    refine ⟨d, jl d ks, s, rfl, hd, ok, bk.mono (by decide), sk, os, bs.mono (by decide), hs, ?_⟩
    unfold Ko
    cases hx : dZ d (jl d ks) s with
    | true =>
      rw [hx, if_pos rfl] at q
      rw [if_pos rfl]
      walk_at "rn"
      rw [uc LI vP]
      simp only [show decide (("mixture" : Str) = "bar") = false from by decide, Bool.xor_false, Bool.false_eq_true, ↓reduceIte]
      exact ⟨_, _, _, rfl, q⟩
    | false =>
      rw [hx, if_neg (by decide)] at q
      rw [if_neg (by decide)]
      walk_at "rn"
      rw [uc vP vP]
      simp only [decide_true, Bool.false_xor, ↓reduceIte]
      exact q
theorem HN {d : Int} {ks : List N3} {s : N3} {Q : DK} : (aF (.v (sr d ks s)) (.v (.int 0)) μ Q) = Q (.v (.str (if bO d ks s = true then "plan" else "bar"))) μ := by
  unfold sr bO
  cases cT d ks
  · cases dZ d (jl d ks) s <;> rfl
  · rfl
theorem CT (h : g9 ds μ Qd) : qe { nx := fun _ μ' => Qd (.v .none) μ', rt := Qd } (aO ["d", "kinds", "shape"] ds) μ := by
  obtain ⟨d, ks, s, rfl, hd, ho, os, bs, hs, q⟩ := h
  unfold qe
  walk_at "rn"
  refine ⟨d, ks, s, rfl, hd, ho, os, bs, hs, ?_⟩
  dsimp only
  rw [HN]
  cases e : bO d ks s with
  | true =>
    rw [e] at q
    rw [if_pos rfl, uc sX sX]
    exact q
  | false =>
    rw [e] at q
    rw [if_neg (by decide), uc vP sX]
    exact q
end
open PySem PySem.Spec PyProof.Rows NM
def weigh (d : Int) (p q s t w h : N3) : N3 := plus (times d w (plus (times d p h) (times d q (aX h)))) (times d (aX w) (plus (times d s h) (times d t (aX h))))
def fZ (d : Int) (p q s t k : N3) : Bool :=
  if sg d (times d p k).a (times d p k).b < 0 then false else if sg d (times d t (aX k)).a (times d t (aX k)).b < 0 then false
  else !decide (dif d (times d (plus (times d q (aX k)) (times d s k)) (plus (times d q (aX k)) (times d s k))) (times d ⟨4, 0, 1⟩ (times d (times d p k) (times d t (aX k)))) = 1)
def W4 (p q s t : N3) : PyData := .tuple [dN p, dN q, dN s, dN t]
structure OkW (n n' : Nat) (p q s t : N3) : Prop where
  op : Ok p
  oq : Ok q
  os : Ok s
  ot : Ok t
  bp : Bd n p
  bq : Bd n' q
  bs : Bd n' s
  bt : Bd n t
def qR : DSp := fun ds μ Q => ∃ (d : Int) (p q s t k : N3) (n n' m : Nat), ds = [.v (.int d), .v (W4 p q s t), .v (dN k)] ∧ ay d ∧ OkW n n' p q s t ∧ Ok k ∧ Bd m k ∧ 2 * (n + m) + 40 ≤ 4300 ∧ 4 * (n' + m) + 40 ≤ 4300 ∧ Q (.v (.bool (fZ d p q s t k))) μ
theorem Bj {μ : Mu} {Q : DK} {ds : List D} (h : qR ds μ Q) : ds.length = 3 := by obtain ⟨_, _, _, _, _, _, _, _, _, rfl, _⟩ := h; rfl
def oT : DSp := fun ds μ Q => ∃ (d : Int) (p q s t w h : N3) (n n' m l : Nat), ds = [.v (.int d), .v (W4 p q s t), .v (dN w), .v (dN h)] ∧ ay d ∧ OkW n n' p q s t ∧ Ok w ∧ Bd m w ∧ Ok h ∧ Bd l h ∧ n + n' + 2 * l + m + 30 ≤ 4300 ∧ Q (.v (dN (weigh d p q s t w h))) μ
theorem xP {μ : Mu} {Q : DK} {ds : List D} (h : oT ds μ Q) : ds.length = 4 := by obtain ⟨_, _, _, _, _, _, _, _, _, _, _, rfl, _⟩ := h; rfl
def mN : DSp := fun ds μ Q => ∃ p q s t : N3, ds = [.v (W4 p q s t)] ∧ Ok p ∧ Ok q ∧ Ok s ∧ Ok t ∧ Q (.v (.bool true)) μ
theorem v5 {μ : Mu} {Q : DK} {ds : List D} (h : mN ds μ Q) : ds.length = 1 := by obtain ⟨_, _, _, _, rfl, _⟩ := h; rfl
def BP (d : Int) (ks : List N3) (shape w p q s t : N3) : Bool := ks.all (fun k => fZ d p q s t k && fZ d p q s t (av d k)) && decide (sg d (weigh d p q s t w (times d shape w)).a (weigh d p q s t w (times d shape w)).b < 0)
def zP : DSp := fun ds μ Q => ∃ (d : Int) (ks : List N3) (shape p q s t : N3), ds = [.v (.int d), .v (.tuple (ks.map dN)), .v (dN shape), .v (.tuple [dN one, W4 p q s t])] ∧ ay d ∧ cg d ks ∧ Ok shape ∧ Bd 700 shape ∧ sg d shape.a shape.b = 1 ∧ OkW 1800 10 p q s t ∧ Q (.v (.bool (BP d ks shape one p q s t))) μ
theorem Dw {μ : Mu} {Q : DK} {ds : List D} (h : zP ds μ Q) : ds.length = 4 := by obtain ⟨_, _, _, _, _, _, _, rfl, _⟩ := h; rfl
def kj : DTS :=
  (aM (bA (ae 1) (nu 4 (cK (aw 3) (cK (aw 4) (cK (aw 5) (cK (aw 6) nT))))))
  (aM (bA (aq aU (ab (ae 0) (ab (ae 3) (ab (ae 2) ar)))) (aw 7))
  (aM (bA (aq aU (ab (ae 0) (ab (ae 6) (ab (aq eN (ab (ae 2) ar)) ar)))) (aw 8))
  (aM (dy (qB (dB (dOp rLt (aq gb (ab (ae 0) (ab (ae 7) ar))) (dC (.int 0)))) (dB (dOp rLt (aq gb (ab (ae 0) (ab (ae 8) ar))) (dC (.int 0))))) (bF (dC (.bool false))) cb)
  (aM (bA (aq fF (ab (aq aU (ab (ae 0) (ab (ae 4) (ab (aq eN (ab (ae 2) ar)) ar)))) (ab (aq aU (ab (ae 0) (ab (ae 5) (ab (ae 2) ar)))) ar))) (aw 9))
  (aM (bA (aq aU (ab (ae 0) (ab (en (ab (dC (.int 4)) (ab (dC (.int 0)) (ab (dC (.int 1)) ar)))) (ab (aq aU (ab (ae 0) (ab (ae 7) (ab (ae 8) ar)))) ar)))) (aw 10))
  (bF (Ea (aq vh (ab (ae 0) (ab (aq aU (ab (ae 0) (ab (ae 9) (ab (ae 9) ar)))) (ab (ae 10) ar))))))))))))
def qA : DTS :=
  (aM (bA (ae 1) (nu 4 (cK (aw 4) (cK (aw 5) (cK (aw 6) (cK (aw 7) nT))))))
  (aM (bA (aq fF (ab (aq aU (ab (ae 0) (ab (ae 4) (ab (ae 3) ar)))) (ab (aq aU (ab (ae 0) (ab (ae 5) (ab (aq eN (ab (ae 3) ar)) ar)))) ar))) (aw 8))
  (aM (bA (aq fF (ab (aq aU (ab (ae 0) (ab (ae 6) (ab (ae 3) ar)))) (ab (aq aU (ab (ae 0) (ab (ae 7) (ab (aq eN (ab (ae 3) ar)) ar)))) ar))) (aw 9))
  (bF (aq fF (ab (aq aU (ab (ae 0) (ab (ae 2) (ab (ae 8) ar)))) (ab (aq aU (ab (ae 0) (ab (aq eN (ab (ae 2) ar)) (ab (ae 9) ar)))) ar)))))))
def kZ : DTS :=
  (aM (dy (qB (hU (dB (BJ "tuple" (ae 0)))) (dB (dOp (eh true) (dCB fK (ab (ae 0) ar)) (dC (.int 4))))) (bF (dC (.bool false))) cb)
  (bF (dCB sj (ab (pX [none] (nU (ae 0)) (aw 0) pK (aq v7 (ab (ae 0) ar))) ar))))
def tM : DTS :=
  (aM (nO (aq gq (ab (ae 0) (ab (ae 1) ar))))
  (aM (nO (aq dX (ab (ae 0) (ab (ae 2) ar))))
  (aM (dy (qB (hU (dB (BJ "tuple" (ae 3)))) (dB (dOp (eh true) (dCB fK (ab (ae 3) ar)) (dC (.int 2))))) (bF (dC (.bool false))) cb)
  (aM (bA (ae 3) (nu 2 (cK (aw 4) (cK (aw 5) nT))))
  (aM (dy (qB (hU (dB (aq lO (ab (ae 0) (ab (ae 4) ar))))) (hU (dB (aq mN (ab (ae 5) ar))))) (bF (dC (.bool false))) cb)
  (aM (Al (nU (ae 1)) (aw 6) (dy (qB (hU (dB (aq qR (ab (ae 0) (ab (ae 5) (ab (ae 6) ar)))))) (hU (dB (aq qR (ab (ae 0) (ab (ae 5) (ab (aq bW (ab (ae 0) (ab (ae 6) ar))) ar))))))) (bF (dC (.bool false))) cb))
  (bF (dOp rLt (aq gb (ab (ae 0) (ab (aq oT (ab (ae 0) (ab (ae 5) (ab (ae 4) (ab (aq aU (ab (ae 0) (ab (ae 2) (ab (ae 4) ar)))) ar))))) ar))) (dC (.int 0))))))))))
section
variable {μ : Mu} {Qd : DK} {ds : List D}
theorem vM (h : qR ds μ Qd) : kj { nx := fun _ μ' => Qd (.v .none) μ', rt := Qd } (aO ["d", "weights", "kind", "p", "q", "s", "t", "first", "last", "middle", "most"] ds) μ := by
  obtain ⟨d, p, q', s, t, k, n, n', m, rfl, hd, o4, ok, bk, l1, l2, q⟩ := h
  obtain ⟨op, oq, os, ot, bp, bq, bs, bt⟩ := o4
  have s5 := iN hd.1 hd.2.1
  have omk := aB ok
  have bmk := dJ bk
  have o1 := ai (d := d) op ok
  have o2 := ai (d := d) ot omk
  have b1 := aK s5 op ok bp bk
  have b2' := aK s5 ot omk bt bmk
  have oq' := ai (d := d) oq omk
  have os' := ai (d := d) os ok
  have bq' := aK s5 oq omk bq bmk
  have bs' := aK s5 os ok bs bk
  have om := aT oq' os'
  have bm := eO oq' os' bq' bs'
  have o12 := ai (d := d) o1 o2
  have b12 := aK s5 o1 o2 b1 b2'
  have o4' : Ok ⟨4, 0, 1⟩ := vo 4
  have b4' : Bd 4 ⟨4, 0, 1⟩ := ⟨Sz.of (by decide), Sz.of (by decide), Sz.of (by decide)⟩
  unfold fZ at q
  unfold kj
  simp only [W4]
  walk_at "rn"
  refine ⟨trivial, d, p, k, rfl, s5, op, ok, bp.mono (by omega), bk.mono (by omega), ?_⟩
  walk_at "rn"
  refine ⟨k, rfl, d, t, aX k, rfl, s5, ot, omk, bt.mono (by omega), bmk.mono (by omega), ?_⟩
  walk_at "rn"
  refine ⟨d, _, rfl, hd, b1.mono (by omega), ?_⟩
  walk_at "rn"
  by_cases c1 : sg d (times d p k).a (times d p k).b < 0
  · rw [if_pos (by simpa using c1)]
    rw [if_pos c1] at q
    exact q
  · rw [if_neg (by simpa using c1)]
    rw [if_neg c1] at q
    refine ⟨d, _, rfl, hd, b2'.mono (by omega), ?_⟩
    walk_at "rn"
    by_cases c2 : sg d (times d t (aX k)).a (times d t (aX k)).b < 0
    · rw [if_pos (by simpa using c2)]
      rw [if_pos c2] at q
      exact q
    · rw [if_neg (by simpa using c2)]
      rw [if_neg c2] at q
      refine ⟨k, rfl, d, q', aX k, rfl, s5, oq, omk, bq.mono (by omega), bmk.mono (by omega), ?_⟩
      walk_at "rn"
      refine ⟨d, s, k, rfl, s5, os, ok, bs.mono (by omega), bk.mono (by omega), _, _, rfl, oq', os', bq'.mono (by omega), bs'.mono (by omega), ?_⟩
      walk_at "rn"
      refine ⟨d, _, _, rfl, s5, o1, o2, b1.mono (by omega), b2'.mono (by omega), d, _, _, rfl, s5, o4', o12, b4'.mono (by decide), b12.mono (by omega), ?_⟩
      walk_at "rn"
      refine ⟨d, _, _, rfl, s5, om, om, bm.mono (by omega), bm.mono (by omega), ?_⟩
      walk_at "rn"
      refine ⟨d, _, _, rfl, hd, (aK s5 om om bm bm).mono (by omega), (aK s5 o4' o12 b4' b12).mono (by omega), ?_⟩
      walk_at "rn"
      exact q
theorem Dq (h : oT ds μ Qd) : qA { nx := fun _ μ' => Qd (.v .none) μ', rt := Qd } (aO ["d", "weights", "width", "height", "p", "q", "s", "t", "by_width", "by_its_mate"] ds) μ := by
  obtain ⟨d, p, q', s, t, w, h, n, n', m, l, rfl, hd, o4, ow, bw, oh, bh, lt, q⟩ := h
  obtain ⟨op, oq, os, ot, bp, bq, bs, bt⟩ := o4
  have s5 := iN hd.1 hd.2.1
  have omh := aB oh
  have bmh := dJ bh
  have tp := aK s5 op oh bp bh
  have tq := aK s5 oq omh bq bmh
  have ts := aK s5 os oh bs bh
  have tt := aK s5 ot omh bt bmh
  have o1 := ai (d := d) op oh
  have o2 := ai (d := d) oq omh
  have o3 := ai (d := d) os oh
  have o4 := ai (d := d) ot omh
  have b12 := eO o1 o2 tp tq
  have b34 := eO o3 o4 ts tt
  have o12 := aT o1 o2
  have o34 := aT o3 o4
  have ow1 := ai (d := d) ow o12
  have ow2 := ai (d := d) (aB ow) o34
  have bw1 := aK s5 ow o12 bw b12
  have bw2 := aK s5 (aB ow) o34 (dJ bw) b34
  unfold qA
  simp only [W4]
  walk_at "rn"
  refine ⟨trivial, d, p, h, rfl, s5, op, oh, bp.mono (by omega), bh.mono (by omega), ?_⟩
  walk_at "rn"
  refine ⟨h, rfl, d, q', aX h, rfl, s5, oq, omh, bq.mono (by omega), bmh.mono (by omega), _, _, rfl, o1, o2, tp.mono (by omega), tq.mono (by omega), ?_⟩
  walk_at "rn"
  refine ⟨d, s, h, rfl, s5, os, oh, bs.mono (by omega), bh.mono (by omega), ?_⟩
  walk_at "rn"
  refine ⟨h, rfl, d, t, aX h, rfl, s5, ot, omh, bt.mono (by omega), bmh.mono (by omega), _, _, rfl, o3, o4, ts.mono (by omega), tt.mono (by omega), ?_⟩
  walk_at "rn"
  refine ⟨d, w, _, rfl, s5, ow, o12, bw.mono (by omega), b12.mono (by omega), ?_⟩
  walk_at "rn"
  exact ⟨w, rfl, d, aX w, _, rfl, s5, aB ow, o34, (dJ bw).mono (by omega), b34.mono (by omega), _, _, rfl, ow1, ow2, bw1.mono (by omega), bw2.mono (by omega), q⟩
theorem Gy {d : Int} {p q s t w h : N3} {n n' m l : Nat} (hd : ay d) (o4 : OkW n n' p q s t) (ow : Ok w) (bw : Bd m w) (oh : Ok h) (bh : Bd l h) : Bd (2 * (n + n' + 2 * l + m + 30)) (weigh d p q s t w h) := by
  obtain ⟨op, oq, os, ot, bp, bq, bs, bt⟩ := o4
  have s5 := iN hd.1 hd.2.1
  have omh := aB oh
  have bmh := dJ bh
  have o1 := ai (d := d) op oh
  have o2 := ai (d := d) oq omh
  have o3 := ai (d := d) os oh
  have o4 := ai (d := d) ot omh
  have b12 := eO o1 o2 (aK s5 op oh bp bh) (aK s5 oq omh bq bmh)
  have b34 := eO o3 o4 (aK s5 os oh bs bh) (aK s5 ot omh bt bmh)
  have o12 := aT o1 o2
  have o34 := aT o3 o4
  exact (eO (ai ow o12) (ai (aB ow) o34) (aK s5 ow o12 bw b12) (aK s5 (aB ow) o34 (dJ bw) b34)).mono (by omega)
theorem xx (h : mN ds μ Qd) : kZ { nx := fun _ μ' => Qd (.v .none) μ', rt := Qd } (aO ["thing"] ds) μ := by
  obtain ⟨p, q', s, t, rfl, op, oq, os, ot, q⟩ := h
  unfold kZ
  walk_at "rn"
  have e : isT "tuple" (W4 p q' s t) = true := rfl
  rw [e]
  simp only [W4]
  walk_at "rn"
  refine ⟨by simp, fun x => some (.bool (isNum x)), fun x hx μ' hs => ⟨trivial, x, rfl, ?_, rfl, rfl⟩, ?_⟩
  · simp only [List.mem_cons, List.not_mem_nil, or_false] at hx
    rcases hx with rfl | rfl | rfl | rfl <;> exact Ek
  · have e1 : List.filterMap (fun x => some (PyData.bool (isNum x))) [dN p, dN q', dN s, dN t] = [.bool true, .bool true, .bool true, .bool true] := by
      show [PyData.bool (isNum (dN p)), PyData.bool (isNum (dN q')), PyData.bool (isNum (dN s)), PyData.bool (isNum (dN t))] = _
      rw [nR op, nR oq, nR os, nR ot]
    rw [e1]
    exact q
theorem HF {ks : List N3} {i : Nat} {x : PyData} (h : (ks.map dN)[i]? = some x) : ∃ k, ks[i]? = some k ∧ x = dN k := by
  rw [List.getElem?_map] at h
  cases e : ks[i]? with
  | none => rw [e] at h; cases h
  | some k => rw [e] at h; cases h; exact ⟨k, rfl, rfl⟩
theorem vS {ks : List N3} {f : N3 → Bool} {k : N3} (hk : k ∈ ks) (h : f k = false) : ks.all f = false := by
  cases e : ks.all f with
  | false => rfl
  | true => have := List.all_eq_true.mp e k hk; rw [h] at this; cases this
theorem C6 {α : Type} {P : α → Prop} {ks : List α} {i : Nat} {k : α} (h : ks[i]? = some k) (h1 : ∀ x ∈ ks.take i, P x) (h2 : P k) : ∀ x ∈ ks.take (i + 1), P x := fun x hx => by
  obtain ⟨hi, e⟩ := List.getElem?_eq_some_iff.mp h
  rw [List.take_succ_eq_append_getElem hi, e] at hx
  rcases List.mem_append.mp hx with hx | hx
  · exact h1 x hx
  · rw [List.mem_singleton.mp hx]; exact h2
theorem FH (h : zP ds μ Qd) : tM { nx := fun _ μ' => Qd (.v .none) μ', rt := Qd } (aO ["d", "kinds", "shape", "thing", "width", "weights", "kind"] ds) μ := by
  obtain ⟨d, ks, shape, p, q1, s, u, rfl, hd, ho, osh, bsh, ssh, o4, q⟩ := h
  have s5 := iN hd.1 hd.2.1
  have b1 : Bd 1 one := ⟨Sz.of (by decide), Sz.of (by decide), Sz.of (by decide)⟩
  unfold tM
  walk_at "rn"
  refine ⟨d, ks, rfl, hd, ho.l1, ho.l3, ho.ok, d, shape, rfl, hd, osh, bsh.mono (by decide), ssh, ?_⟩
  have e : isT "tuple" (.tuple [dN one, W4 p q1 s u]) = true := rfl
  rw [e]
  walk_at "rn"
  refine ⟨trivial, d, _, rfl, hd, Ek, fun x ex => by rw [← GF ex]; exact b1.mono (by decide), ?_⟩
  rw [rP mZ, vj]
  walk_at "rn"
  refine ⟨p, q1, s, u, rfl, o4.op, o4.oq, o4.os, o4.ot, ?_⟩
  walk_at "rn"
  unfold BP at q
  rw [yd]
  walk_at "rn"
  refine ⟨fun i ρ μ' => ∃ r6, ρ = [some (.v (.int d)), some (.v (.tuple (ks.map dN))), some (.v (dN shape)), some (.v (.tuple [dN one, W4 p q1 s u])), some (.v (dN one)), some (.v (W4 p q1 s u)), r6] ∧ μ' = μ ∧ ∀ k ∈ ks.take i, (fZ d p q1 s u k && fZ d p q1 s u (av d k)) = true, ⟨_, rfl, rfl, fun k h => by simp at h⟩, ?_, ?_⟩
  · rintro i y ρ μ' hy ⟨r6, rfl, rfl, hi⟩
    obtain ⟨k, hki, rfl⟩ := HF hy
    have hm := List.mem_of_getElem? hki
    obtain ⟨ok, bk, sk⟩ := ho.ok k hm
    have nk := aJ hd ok sk
    walk_at "rn"
    refine ⟨d, p, q1, s, u, k, 1800, 10, 130, rfl, hd, o4, ok, bk, by decide, by decide, ?_⟩
    cases n1 : fZ d p q1 s u k with
    | false =>
      walk_at "rn"
      rw [vS hm (by rw [n1]; rfl), Bool.false_and] at q
      exact q
    | true =>
      walk_at "rn"
      refine ⟨d, k, rfl, s5, nk, bk.mono (by decide), d, p, q1, s, u, _, 1800, 10, 2 * 130 + 6, rfl, hd, o4, az nk, bJ s5 nk bk, by decide, by decide, ?_⟩
      cases n2 : fZ d p q1 s u (av d k) with
      | false =>
        walk_at "rn"
        rw [vS hm (by rw [n1, n2]; rfl), Bool.false_and] at q
        exact q
      | true =>
        walk_at "rn"
        exact ⟨_, rfl, trivial, C6 hki hi (by rw [n1, n2]; rfl)⟩
  · rintro ρ μ' ⟨r6, rfl, rfl, hi⟩
    rw [List.length_map, List.take_length] at hi
    have ha : ks.all (fun k => fZ d p q1 s u k && fZ d p q1 s u (av d k)) = true := by rw [List.all_eq_true]; exact hi
    rw [ha, Bool.true_and] at q
    have ot := ai (d := d) osh mZ
    have bt := aK s5 osh mZ bsh b1
    refine ⟨d, shape, one, rfl, s5, osh, mZ, bsh.mono (by decide), b1.mono (by decide), d, p, q1, s, u, one, _, 1800, 10, 1, 700 + 1 + 6, rfl, hd, o4, mZ, b1, ot, bt, by decide, d, _, rfl, hd, (Gy hd o4 mZ b1 ot bt).mono (by decide), ?_⟩
    walk_at "rn"
    exact q
end
open PySem PySem.Spec PyProof.Rows NM
section
variable {d : Int} {k s k2 : N3} {w : Int}
theorem tt1 {t : Int} (h : t = 1 ∨ t = -1) : t * t = 1 := by rcases h with rfl | rfl <;> rfl
theorem vn (ox : Ok s) (hw : 0 < w) : Rep (j0 s w) 0 (2 * s.b) s.c := by
  unfold j0
  rw [if_pos hw]
  exact (Rep.less ox (aB ox) (ao ox) (ao (aB ox))).conv ox.cn (by show (s.a * s.c - s.a * s.c) * s.c = 0 * _; grind) (by show (s.b * s.c - -s.b * s.c) * s.c = 2 * s.b * (s.c * s.c); grind)
theorem vp (ox : Ok s) (hw : ¬ 0 < w) : Rep (j0 s w) (2 * s.a) 0 s.c := by
  unfold j0
  rw [if_neg hw]
  exact (Rep.plus ox (aB ox) (ao ox) (ao (aB ox))).conv ox.cn (by show (s.a * s.c + s.a * s.c) * s.c = 2 * s.a * (s.c * s.c); grind) (by show (s.b * s.c + -s.b * s.c) * s.c = 0 * _; grind)
structure iR (d : Int) (k s : N3) (w : Int) : Prop where
  hd : ay d
  ok : Ok k
  hk : sg d k.a k.b = 1
  os : Ok s
  hs : sg d s.a s.b = 1
  ne : j0 s w ≠ ax
theorem iR.ht (h : iR d k s w) : aE d s w = 1 ∨ aE d s w = -1 := B0 (bX h.os) h.ne
theorem iR.nm (h : iR d k s w) : norm d (aX s) ≠ 0 := by rw [yj]; exact aJ h.hd h.os h.hs
theorem iR.ol (h : iR d k s w) : Ok (bLast d s w) := ai (ai (fT h.ht) (bX h.os)) (az h.nm)
theorem iR.nl (h : iR d k s w) : bLast d s w ≠ ax := iT h.hd (ai (fT h.ht) (bX h.os)) (az h.nm) (iT h.hd (fT h.ht) (bX h.os) (Et h.ht) h.ne) (IL h.hd (aB h.os) (oS (ey h.hs)))
theorem iR.nn (h : iR d k s w) : norm d (bLast d s w) ≠ 0 := h.hd.norm h.ol h.nl
theorem Lg (h : iR d k s w) (hw : 0 < w) : 0 < aE d s w * s.b := by
  have r := Eo h.hd (bX (w := w) h.os) (vn h.os hw)
  have hc := h.os.c
  have e : 2 * s.b * s.c = s.b * (2 * s.c) := by grind
  rw [e] at r
  rcases h.ht with t | t
  · rw [t, Int.one_mul]
    have := r.1.mp t
    exact FZ this (by omega)
  · rw [t]
    have := r.2.mp t
    have h2 : 0 < -s.b := FZ (y := 2 * s.c) (by rw [Int.neg_mul]; omega) (by omega)
    omega
theorem KL (h : iR d k s w) (hw : ¬ 0 < w) : 0 < aE d s w * s.a := by
  have r := rZ h.hd (bX (w := w) h.os) (vp h.os hw)
  have hc := h.os.c
  have e : 2 * s.a * s.c = s.a * (2 * s.c) := by grind
  rw [e] at r
  rcases h.ht with t | t
  · rw [t, Int.one_mul]
    have := r.1.mp t
    exact FZ this (by omega)
  · rw [t]
    have := r.2.mp t
    have h2 : 0 < -s.a := FZ (y := 2 * s.c) (by rw [Int.neg_mul]; omega) (by omega)
    omega
theorem yq (h : iR d k s w) (hw : 0 < w) : Rep (bLast d s w) (aE d s w * (d * s.b * s.b)) (aE d s w * (s.b * s.a)) (norm d s) := by
  have oh := fT h.ht
  have of := bX (w := w) h.os
  have r3 := Rep.times (d := d) (ai (d := d) oh of) (az h.nm) (Rep.times (d := d) oh of (ao oh) (vn h.os hw)) ((ao (aB h.os)).av (d := d) (aB h.os) h.nm)
  refine r3.conv (aJ h.hd h.os h.hs) ?_ ?_
  · show ((aE d s w * 0 + d * 0 * (2 * s.b)) * (s.c * s.a) + d * (aE d s w * (2 * s.b) + 0 * 0) * (-s.c * -s.b)) * norm d s = aE d s w * (d * s.b * s.b) * (2 * s.c * (s.a * s.a - d * -s.b * -s.b))
    unfold norm; grind
  · show ((aE d s w * 0 + d * 0 * (2 * s.b)) * (-s.c * -s.b) + (aE d s w * (2 * s.b) + 0 * 0) * (s.c * s.a)) * norm d s = aE d s w * (s.b * s.a) * (2 * s.c * (s.a * s.a - d * -s.b * -s.b))
    unfold norm; grind
theorem yy (h : iR d k s w) (hw : ¬ 0 < w) : Rep (bLast d s w) (aE d s w * (s.a * s.a)) (aE d s w * (s.a * s.b)) (norm d s) := by
  have oh := fT h.ht
  have of := bX (w := w) h.os
  have r3 := Rep.times (d := d) (ai (d := d) oh of) (az h.nm) (Rep.times (d := d) oh of (ao oh) (vp h.os hw)) ((ao (aB h.os)).av (d := d) (aB h.os) h.nm)
  refine r3.conv (aJ h.hd h.os h.hs) ?_ ?_
  · show ((aE d s w * (2 * s.a) + d * 0 * 0) * (s.c * s.a) + d * (aE d s w * 0 + 0 * (2 * s.a)) * (-s.c * -s.b)) * norm d s = aE d s w * (s.a * s.a) * (2 * s.c * (s.a * s.a - d * -s.b * -s.b))
    unfold norm; grind
  · show ((aE d s w * (2 * s.a) + d * 0 * 0) * (-s.c * -s.b) + (aE d s w * 0 + 0 * (2 * s.a)) * (s.c * s.a)) * norm d s = aE d s w * (s.a * s.b) * (2 * s.c * (s.a * s.a - d * -s.b * -s.b))
    unfold norm; grind
theorem gF : Ok ⟨4, 0, 1⟩ := vo 4
theorem wK (hd : ay d) (ok : Ok k) (hk : sg d k.a k.b = 1) : norm d (times d ⟨4, 0, 1⟩ (times d k (aX k))) ≠ 0 := hd.norm (ai gF (ai ok (aB ok))) (iT hd gF (ai ok (aB ok)) (fun e => absurd (congrArg N3.a e) (by decide)) (iT hd ok (aB ok) (ey hk) (oS (ey hk))))
theorem CH (ok : Ok k) : Rep (times d k (aX k)) (norm d k) 0 (k.c * k.c) := (Rep.times (d := d) ok (aB ok) (ao ok) (ao (aB ok))).congr (by show k.a * k.a + d * k.b * -k.b = _; unfold norm; grind) (by show k.a * -k.b + k.b * k.a = 0; grind) rfl
theorem Ej (ok : Ok k) : Rep (times d ⟨4, 0, 1⟩ (times d k (aX k))) (4 * norm d k) 0 (k.c * k.c) := (Rep.times (d := d) gF (ai (d := d) ok (aB ok)) (ao gF) (CH ok)).congr (by show 4 * norm d k + d * 0 * 0 = _; grind) (by show 4 * 0 + 0 * norm d k = 0; grind) (by show 1 * _ = _; grind)
theorem oR (hd : ay d) (ok : Ok k) (hk : sg d k.a k.b = 1) : Ok (ky d k w) := ai (ai (bX ok) (bX ok)) (az (wK hd ok hk))
theorem sY (hd : ay d) (ok : Ok k) (hk : sg d k.a k.b = 1) (hw : 0 < w) : Rep (ky d k w) (d * k.b * k.b) 0 (norm d k) := by
  have r := Rep.times (d := d) (ai (d := d) (bX (w := w) ok) (bX ok)) (az (wK hd ok hk)) (Rep.times (d := d) (bX ok) (bX ok) (vn ok hw) (vn ok hw)) ((Ej ok).av (ai gF (ai ok (aB ok))) (wK hd ok hk))
  refine r.conv (aJ hd ok hk) ?_ ?_ <;> grind
theorem uh (hd : ay d) (ok : Ok k) (hk : sg d k.a k.b = 1) (hw : ¬ 0 < w) : Rep (ky d k w) (k.a * k.a) 0 (norm d k) := by
  have r := Rep.times (d := d) (ai (d := d) (bX (w := w) ok) (bX ok)) (az (wK hd ok hk)) (Rep.times (d := d) (bX ok) (bX ok) (vp ok hw) (vp ok hw)) ((Ej ok).av (ai gF (ai ok (aB ok))) (wK hd ok hk))
  refine r.conv (aJ hd ok hk) ?_ ?_ <;> grind
def bP (d : Int) (k s : N3) (w : Int) : N3 := times d (ky d k w) (av d (bLast d s w))
theorem iR.op (h : iR d k s w) : Ok (bP d k s w) := ai (oR h.hd h.ok h.hk) (az h.nn)
theorem Gv (h : iR d k s w) (hw : 0 < w) : Rep (bP d k s w) (-(aE d s w * (d * k.b * k.b * s.b))) (aE d s w * (k.b * k.b * s.a)) (norm d k * s.b) := by
  have tt := tt1 h.ht
  have tp := Lg h hw
  have sb : s.b ≠ 0 := fun z => by rw [z, Int.mul_zero] at tp; omega
  have nk := aJ h.hd h.ok h.hk
  have ns := aJ h.hd h.os h.hs
  have d0 : d ≠ 0 := by have := h.hd.1; omega
  have rc : Rep (av d (bLast d s w)) (-(aE d s w * (d * s.b))) (aE d s w * s.a) (d * s.b) := by
    refine ((yq h hw).av h.ol h.nn).conv (Int.mul_ne_zero d0 sb) ?_ ?_
    · generalize aE d s w = t at *
      have e : t * (d * s.b * s.b) * (t * (d * s.b * s.b)) - d * (t * (s.b * s.a)) * (t * (s.b * s.a)) = (t * t) * (-(d * s.b * s.b) * norm d s) := by unfold norm; grind
      rw [e, tt]
      grind
    · generalize aE d s w = t at *
      have e : t * (d * s.b * s.b) * (t * (d * s.b * s.b)) - d * (t * (s.b * s.a)) * (t * (s.b * s.a)) = (t * t) * (-(d * s.b * s.b) * norm d s) := by unfold norm; grind
      rw [e, tt]
      grind
  refine (Rep.times (d := d) (oR h.hd h.ok h.hk) (az h.nn) (sY h.hd h.ok h.hk hw) rc).conv (Int.mul_ne_zero nk sb) ?_ ?_ <;> grind
theorem G2 (h : iR d k s w) (hw : ¬ 0 < w) : Rep (bP d k s w) (aE d s w * (k.a * k.a * s.a)) (-(aE d s w * (k.a * k.a * s.b))) (norm d k * s.a) := by
  have tt := tt1 h.ht
  have tp := KL h hw
  have sa : s.a ≠ 0 := fun z => by rw [z, Int.mul_zero] at tp; omega
  have nk := aJ h.hd h.ok h.hk
  have ns := aJ h.hd h.os h.hs
  have rc : Rep (av d (bLast d s w)) (aE d s w * s.a) (-(aE d s w * s.b)) s.a := by
    refine ((yy h hw).av h.ol h.nn).conv sa ?_ ?_
    · generalize aE d s w = t at *
      have e : t * (s.a * s.a) * (t * (s.a * s.a)) - d * (t * (s.a * s.b)) * (t * (s.a * s.b)) = (t * t) * (s.a * s.a * norm d s) := by unfold norm; grind
      rw [e, tt]
      grind
    · generalize aE d s w = t at *
      have e : t * (s.a * s.a) * (t * (s.a * s.a)) - d * (t * (s.a * s.b)) * (t * (s.a * s.b)) = (t * t) * (s.a * s.a * norm d s) := by unfold norm; grind
      rw [e, tt]
      grind
  refine (Rep.times (d := d) (oR h.hd h.ok h.hk) (az h.nn) (uh h.hd h.ok h.hk hw) rc).conv (Int.mul_ne_zero nk sa) ?_ ?_ <;> grind
end
open PySem PySem.Spec PyProof.Rows NM
section
variable {d : Int} {k s k2 : N3} {w : Int}
theorem IX (hd : ay d) {t : Int} (h : t = 1 ∨ t = -1) : sg d (⟨t, 0, 1⟩ : N3).a (⟨t, 0, 1⟩ : N3).b = t := by
  show sg d t 0 = t
  rw [kg]
  rcases h with rfl | rfl <;> rfl
theorem HH (hd : ay d) {t : Int} (h : t = 1 ∨ t = -1) : sg d (⟨t, 0, 2⟩ : N3).a (⟨t, 0, 2⟩ : N3).b = t := by
  show sg d t 0 = t
  rw [kg]
  rcases h with rfl | rfl <;> rfl
theorem Eb (h : iR d k s w) : sg d (bLast d s w).a (bLast d s w).b = aQ d s := by
  have of := bX (w := w) h.os
  have oh := fT h.ht
  unfold bLast
  rw [bH h.hd (ai oh of) (az h.nm), bH h.hd oh of, HH h.hd h.ht, HQ h.hd (aB h.os) h.nm]
  show aE d s w * aE d s w * aQ d s = aQ d s
  rw [tt1 h.ht, Int.one_mul]
theorem j9 (hd : ay d) (ok : Ok k) (hk : sg d k.a k.b = 1) (h : 0 < norm d k) : aQ d k = 1 := by
  rcases je hd ok hk with ⟨a, b⟩ | ⟨a, b⟩
  · exact a
  · omega
theorem jV (hd : ay d) (ok : Ok k) (hk : sg d k.a k.b = 1) (h : norm d k < 0) : aQ d k = -1 := by
  rcases je hd ok hk with ⟨a, b⟩ | ⟨a, b⟩
  · omega
  · exact a
theorem OW (h : iR d k s (aQ d k)) (hw : aQ d s = aQ d k) : 0 ≤ sg d (bP d k s (aQ d k)).a (bP d k s (aQ d k)).b := by
  have ob := oR (w := aQ d k) h.hd h.ok h.hk
  unfold bP
  rw [bH h.hd ob (az h.nn), HQ h.hd h.ol h.nn, Eb h, hw]
  have d0 : 0 < d := by have := h.hd.1; omega
  rcases je h.hd h.ok h.hk with ⟨a, b⟩ | ⟨a, b⟩
  · have r := rZ h.hd ob (sY h.hd h.ok h.hk (by rw [a]; decide))
    have hn : 0 ≤ d * k.b * k.b * norm d k := Int.mul_nonneg (dsq d0) (Int.le_of_lt b)
    rw [a] at r ⊢
    rcases jR d (ky d k 1).a (ky d k 1).b with z | z | z
    · rw [z]; decide
    · rw [z]; decide
    · have := r.2.mp z; omega
  · have r := rZ h.hd ob (uh h.hd h.ok h.hk (by rw [a]; decide))
    have hn : k.a * k.a * norm d k ≤ 0 := by
      have := Int.mul_nonneg (sq_nonneg k.a) (show 0 ≤ -norm d k by omega)
      rw [Int.mul_neg] at this
      omega
    rw [a] at r ⊢
    rcases jR d (ky d k (-1)).a (ky d k (-1)).b with z | z | z
    · rw [z]; decide
    · have := r.1.mp z; omega
    · rw [z]; decide
theorem M0 (h : iR d k s w) : times d (bP d k s w) (bLast d s w) = ky d k w := by
  have ob := oR (w := w) h.hd h.ok h.hk
  unfold bP
  rw [Jh ob (az h.nn) h.ol, CM (az h.nn) h.ol, gM h.ol h.nn, KH ob]
theorem Ji (h : iR d k s w) (ok2 : Ok k2) : times d (times d (bP d k s w) k2) (times d (bLast d s w) (aX k2)) = times d (ky d k w) (times d k2 (aX k2)) := by
  rw [LK h.op ok2 h.ol (aB ok2), M0 h]
theorem cC (t : Int) : Ok ⟨t, 0, 1⟩ := vo t
theorem NY (ok2 : Ok k2) {t : Int} : Rep (plus (times d ⟨1 * t, 0, 1⟩ (aX k2)) (times d ⟨-t, 0, 1⟩ k2)) 0 (-(2 * (t * k2.b))) k2.c := by
  refine (Rep.plus (ai (d := d) (cC (1 * t)) (aB ok2)) (ai (d := d) (cC (-t)) ok2) (Rep.times (d := d) (cC (1 * t)) (aB ok2) (ao (cC (1 * t))) (ao (aB ok2))) (Rep.times (d := d) (cC (-t)) ok2 (ao (cC (-t))) (ao ok2))).conv ok2.cn ?_ ?_
  · show ((1 * t * k2.a + d * 0 * -k2.b) * (1 * k2.c) + (-t * k2.a + d * 0 * k2.b) * (1 * k2.c)) * k2.c = 0 * _
    grind
  · show ((1 * t * -k2.b + 0 * k2.a) * (1 * k2.c) + (-t * k2.b + 0 * k2.a) * (1 * k2.c)) * k2.c = -(2 * (t * k2.b)) * (1 * k2.c * (1 * k2.c))
    grind
theorem M7 (ok2 : Ok k2) {t : Int} : Rep (plus (times d ⟨-1 * t, 0, 1⟩ (aX k2)) (times d ⟨-t, 0, 1⟩ k2)) (-(2 * (t * k2.a))) 0 k2.c := by
  refine (Rep.plus (ai (d := d) (cC (-1 * t)) (aB ok2)) (ai (d := d) (cC (-t)) ok2) (Rep.times (d := d) (cC (-1 * t)) (aB ok2) (ao (cC (-1 * t))) (ao (aB ok2))) (Rep.times (d := d) (cC (-t)) ok2 (ao (cC (-t))) (ao ok2))).conv ok2.cn ?_ ?_
  · show ((-1 * t * k2.a + d * 0 * -k2.b) * (1 * k2.c) + (-t * k2.a + d * 0 * k2.b) * (1 * k2.c)) * k2.c = -(2 * (t * k2.a)) * (1 * k2.c * (1 * k2.c))
    grind
  · show ((-1 * t * -k2.b + 0 * k2.a) * (1 * k2.c) + (-t * k2.b + 0 * k2.a) * (1 * k2.c)) * k2.c = 0 * _
    grind
theorem Bf {x y : N3} {A B C E : Int} (hd : ay d) (ox : Ok x) (oy : Ok y) (rx : Rep x A 0 C) (ry : Rep y B 0 E) (h : (A * E - B * C) * (C * E) ≤ 0) : dif d x y ≠ 1 := fun z => by
  have r := Rep.less ox oy rx ry
  rw [Int.zero_mul, Int.zero_mul, Int.sub_zero] at r
  have := (rZ hd (kB ox oy) r).1
  rw [J8 hd ox oy] at this
  have := this.mp z
  omega
theorem Gb (h : iR d k s (aQ d k)) (hw : aQ d s = aQ d k) (ok2 : Ok k2) (hk2 : sg d k2.a k2.b = 1) (hl : Lay d k k2) : fZ d (bP d k s (aQ d k)) ⟨aQ d k * aE d s (aQ d k), 0, 1⟩ ⟨-aE d s (aQ d k), 0, 1⟩ (bLast d s (aQ d k)) k2 = true := by
  have d0 : 0 < d := by have := h.hd.1; omega
  have hp := OW h hw
  have s1 : ¬ sg d (times d (bP d k s (aQ d k)) k2).a (times d (bP d k s (aQ d k)) k2).b < 0 := by
    rw [bH h.hd h.op ok2, hk2]; omega
  have w2 : aQ d k2 = aQ d k := by
    rcases hl with ⟨a, b, _⟩ | ⟨a, b, _⟩
    · rw [j9 h.hd ok2 hk2 b, j9 h.hd h.ok h.hk a]
    · rw [jV h.hd ok2 hk2 b, jV h.hd h.ok h.hk a]
  have s2 : ¬ sg d (times d (bLast d s (aQ d k)) (aX k2)).a (times d (bLast d s (aQ d k)) (aX k2)).b < 0 := by
    rw [bH h.hd h.ol (aB ok2), Eb h, hw]
    show ¬ aQ d k * aQ d k2 < 0
    rw [w2]
    have := sq_nonneg (aQ d k)
    omega
  unfold fZ
  rw [if_neg s1, if_neg s2, Ji h ok2]
  rw [Bool.not_eq_true', decide_eq_false_iff_not]
  have ob := oR (w := aQ d k) h.hd h.ok h.hk
  have okm := ai (d := d) ok2 (aB ok2)
  have tt := tt1 h.ht
  have hc := ok2.c
  rcases hl with ⟨a, b, c⟩ | ⟨a, b, c⟩
  · have ew := j9 h.hd h.ok h.hk a
    rw [ew] at h ob tt ⊢
    have om := aT (ai (d := d) (cC (1 * aE d s 1)) (aB ok2)) (ai (d := d) (cC (-aE d s 1)) ok2)
    have rx := Rep.times (d := d) om om (NY ok2) (NY ok2)
    have ry := Rep.times (d := d) gF (ai (d := d) ob okm) (ao gF) (Rep.times (d := d) ob okm (sY h.hd h.ok h.hk (by decide)) (CH ok2))
    have rx2 := rx.congr (A' := 4 * (d * k2.b * k2.b)) (B' := 0) (by
      generalize aE d s 1 = t at *
      have : 0 * 0 + d * -(2 * (t * k2.b)) * -(2 * (t * k2.b)) = 4 * (d * k2.b * k2.b) * (t * t) := by grind
      rw [this, tt]; grind) (by grind) rfl
    have ry2 := ry.congr (A' := 4 * (d * k.b * k.b * norm d k2)) (B' := 0) (C' := norm d k * (k2.c * k2.c)) (by show 4 * (d * k.b * k.b * norm d k2 + d * 0 * 0) + d * 0 * (d * k.b * k.b * 0 + 0 * norm d k2) = _; grind) (by show 4 * (d * k.b * k.b * 0 + 0 * norm d k2) + 0 * (d * k.b * k.b * norm d k2 + d * 0 * 0) = 0; grind) (by show 1 * _ = _; grind)
    refine Bf h.hd (ai om om) (ai gF (ai ob okm)) rx2 ry2 ?_
    have e : (4 * (d * k2.b * k2.b) * (norm d k * (k2.c * k2.c)) - 4 * (d * k.b * k.b * norm d k2) * (k2.c * k2.c)) * (k2.c * k2.c * (norm d k * (k2.c * k2.c))) = 4 * (d * (k2.c * k2.c * (k2.c * k2.c) * (k2.c * k2.c))) * (norm d k * (k2.b * k2.b * (k.a * k.a) - k2.a * k2.a * (k.b * k.b))) := by unfold norm; grind
    rw [e]
    have p1 : 0 ≤ 4 * (d * (k2.c * k2.c * (k2.c * k2.c) * (k2.c * k2.c))) := by
      have := sq_nonneg k2.c
      exact Int.mul_nonneg (by decide) (Int.mul_nonneg (by omega) (Int.mul_nonneg (Int.mul_nonneg this this) this))
    have p2 : 0 ≤ norm d k * (k2.a * k2.a * (k.b * k.b) - k2.b * k2.b * (k.a * k.a)) := Int.mul_nonneg (by omega) (by omega)
    have p3 := Int.mul_nonneg p1 p2
    have e2 : norm d k * (k2.b * k2.b * (k.a * k.a) - k2.a * k2.a * (k.b * k.b)) = -(norm d k * (k2.a * k2.a * (k.b * k.b) - k2.b * k2.b * (k.a * k.a))) := by grind
    rw [e2, Int.mul_neg]
    omega
  · have ew := jV h.hd h.ok h.hk a
    rw [ew] at h ob tt ⊢
    have om := aT (ai (d := d) (cC (-1 * aE d s (-1))) (aB ok2)) (ai (d := d) (cC (-aE d s (-1))) ok2)
    have rx := Rep.times (d := d) om om (M7 ok2) (M7 ok2)
    have ry := Rep.times (d := d) gF (ai (d := d) ob okm) (ao gF) (Rep.times (d := d) ob okm (uh h.hd h.ok h.hk (by decide)) (CH ok2))
    have rx2 := rx.congr (A' := 4 * (k2.a * k2.a)) (B' := 0) (by
      generalize aE d s (-1) = t at *
      have : -(2 * (t * k2.a)) * -(2 * (t * k2.a)) + d * 0 * 0 = 4 * (k2.a * k2.a) * (t * t) := by grind
      rw [this, tt]; grind) (by grind) rfl
    have ry2 := ry.congr (A' := 4 * (k.a * k.a * norm d k2)) (B' := 0) (C' := norm d k * (k2.c * k2.c)) (by show 4 * (k.a * k.a * norm d k2 + d * 0 * 0) + d * 0 * (k.a * k.a * 0 + 0 * norm d k2) = _; grind) (by show 4 * (k.a * k.a * 0 + 0 * norm d k2) + 0 * (k.a * k.a * norm d k2 + d * 0 * 0) = 0; grind) (by show 1 * _ = _; grind)
    refine Bf h.hd (ai om om) (ai gF (ai ob okm)) rx2 ry2 ?_
    have e : (4 * (k2.a * k2.a) * (norm d k * (k2.c * k2.c)) - 4 * (k.a * k.a * norm d k2) * (k2.c * k2.c)) * (k2.c * k2.c * (norm d k * (k2.c * k2.c))) = 4 * (d * (k2.c * k2.c * (k2.c * k2.c) * (k2.c * k2.c))) * (norm d k * (k2.b * k2.b * (k.a * k.a) - k2.a * k2.a * (k.b * k.b))) := by unfold norm; grind
    rw [e]
    have p1 : 0 ≤ 4 * (d * (k2.c * k2.c * (k2.c * k2.c) * (k2.c * k2.c))) := by
      have := sq_nonneg k2.c
      exact Int.mul_nonneg (by decide) (Int.mul_nonneg (by omega) (Int.mul_nonneg (Int.mul_nonneg this this) this))
    have p2 : 0 ≤ -norm d k * (k2.b * k2.b * (k.a * k.a) - k2.a * k2.a * (k.b * k.b)) := Int.mul_nonneg (by omega) (by omega)
    have p3 := Int.mul_nonneg p1 p2
    have e2 : -norm d k * (k2.b * k2.b * (k.a * k.a) - k2.a * k2.a * (k.b * k.b)) = -(norm d k * (k2.b * k2.b * (k.a * k.a) - k2.a * k2.a * (k.b * k.b))) := by grind
    rw [e2, Int.mul_neg] at p3
    omega
end
open PySem PySem.Spec PyProof.Rows NM
section
variable {d : Int} {k s k2 : N3} {w : Int}
theorem DD (hd : ay d) {p q r t : N3} (op : Ok p) (oq : Ok q) (or' : Ok r) (ot : Ok t) (os : Ok s) : weigh d p q r t one (times d s one) = plus (plus (times d p s) (times d q (aX s))) (plus (times d r s) (times d t (aX s))) := by
  have om := aB os
  unfold weigh
  rw [KH os, show aX one = one from rfl, LB (aT (ai op os) (ai oq om)), LB (aT (ai or' os) (ai ot om))]
theorem JI (t : Int) : Rep (⟨t, 0, 1⟩ : N3) t 0 1 := ao (cC t)
theorem Js {t : Int} (os : Ok s) : Rep (times d ⟨t, 0, 1⟩ s) (t * s.a) (t * s.b) s.c := (Rep.times (d := d) (cC t) os (JI t) (ao os)).congr (by grind) (by grind) (by grind)
theorem Dx (h : iR d k s 1) (hn : 0 < norm d k) (hl : s.a * s.a * (k.b * k.b) < s.b * s.b * (k.a * k.a)) : sg d (weigh d (bP d k s 1) ⟨1 * aE d s 1, 0, 1⟩ ⟨-aE d s 1, 0, 1⟩ (bLast d s 1) one (times d s one)).a (weigh d (bP d k s 1) ⟨1 * aE d s 1, 0, 1⟩ ⟨-aE d s 1, 0, 1⟩ (bLast d s 1) one (times d s one)).b < 0 := by
  have om := aB h.os
  have tp := Lg h (by decide)
  have sb : s.b ≠ 0 := fun z => by rw [z, Int.mul_zero] at tp; omega
  have nk := aJ h.hd h.ok h.hk
  have ns := aJ h.hd h.os h.hs
  have gc := h.os.cn
  rw [DD h.hd h.op (cC _) (cC _) h.ol h.os]
  have r1 : Rep (times d (bP d k s 1) s) 0 (aE d s 1 * (k.b * k.b * norm d s)) (norm d k * s.b * s.c) := (Rep.times (d := d) h.op h.os (Gv h (by decide)) (ao h.os)).congr (by grind) (by unfold norm; grind) rfl
  have r2 := Js (d := d) (t := 1 * aE d s 1) om
  have r3 := Js (d := d) (t := -aE d s 1) h.os
  have r4 : Rep (times d (bLast d s 1) (aX s)) 0 (aE d s 1 * s.b) s.c := by
    refine (Rep.times (d := d) h.ol om (yq h (by decide)) (ao om)).conv gc ?_ ?_
    · show (aE d s 1 * (d * s.b * s.b) * s.a + d * (aE d s 1 * (s.b * s.a)) * -s.b) * s.c = 0 * _
      grind
    · show (aE d s 1 * (d * s.b * s.b) * -s.b + aE d s 1 * (s.b * s.a) * s.a) * s.c = aE d s 1 * s.b * (norm d s * s.c)
      unfold norm; grind
  have o12 := aT (ai (d := d) h.op h.os) (ai (d := d) (cC (1 * aE d s 1)) om)
  have o34 := aT (ai (d := d) (cC (-aE d s 1)) h.os) (ai (d := d) h.ol om)
  have r34 : Rep (plus (times d ⟨-aE d s 1, 0, 1⟩ s) (times d (bLast d s 1) (aX s))) (-(aE d s 1 * s.a)) 0 s.c := by
    refine (Rep.plus (ai (cC _) h.os) (ai h.ol om) r3 r4).conv gc ?_ ?_ <;> grind
  have r := Rep.plus o12 o34 (Rep.plus (ai h.op h.os) (ai (cC _) om) r1 r2) r34
  have rX : Rep (plus (plus (times d (bP d k s 1) s) (times d ⟨1 * aE d s 1, 0, 1⟩ (aX s))) (plus (times d ⟨-aE d s 1, 0, 1⟩ s) (times d (bLast d s 1) (aX s)))) 0 (aE d s 1 * (s.a * s.a * (k.b * k.b) - s.b * s.b * (k.a * k.a))) (norm d k * s.b * s.c) := by
    refine r.conv (Int.mul_ne_zero (Int.mul_ne_zero nk sb) gc) ?_ ?_
    · show ((0 * s.c + 1 * aE d s 1 * s.a * (norm d k * s.b * s.c)) * s.c + -(aE d s 1 * s.a) * (norm d k * s.b * s.c * s.c)) * (norm d k * s.b * s.c) = 0 * _
      generalize norm d k = N
      grind
    · show ((aE d s 1 * (k.b * k.b * norm d s) * s.c + 1 * aE d s 1 * -s.b * (norm d k * s.b * s.c)) * s.c + 0 * (norm d k * s.b * s.c * s.c)) * (norm d k * s.b * s.c) = aE d s 1 * (s.a * s.a * (k.b * k.b) - s.b * s.b * (k.a * k.a)) * (norm d k * s.b * s.c * s.c * s.c)
      have e : k.b * k.b * norm d s - norm d k * (s.b * s.b) = s.a * s.a * (k.b * k.b) - s.b * s.b * (k.a * k.a) := by unfold norm; grind
      rw [← e]
      generalize norm d k = N
      generalize norm d s = M
      grind
  have hs := (Eo h.hd (aT o12 o34) rX).2
  have hneg : aE d s 1 * (s.a * s.a * (k.b * k.b) - s.b * s.b * (k.a * k.a)) * (norm d k * s.b * s.c) < 0 := by
    have e : aE d s 1 * (s.a * s.a * (k.b * k.b) - s.b * s.b * (k.a * k.a)) * (norm d k * s.b * s.c) = (s.a * s.a * (k.b * k.b) - s.b * s.b * (k.a * k.a)) * ((aE d s 1 * s.b) * (norm d k * s.c)) := by grind
    rw [e]
    exact Int.mul_neg_of_neg_of_pos (by omega) (Int.mul_pos tp (Int.mul_pos hn h.os.c))
  rw [hs.mpr hneg]
  decide
theorem CO (h : iR d k s (-1)) (hn : norm d k < 0) (hl : s.b * s.b * (k.a * k.a) < s.a * s.a * (k.b * k.b)) : sg d (weigh d (bP d k s (-1)) ⟨-1 * aE d s (-1), 0, 1⟩ ⟨-aE d s (-1), 0, 1⟩ (bLast d s (-1)) one (times d s one)).a (weigh d (bP d k s (-1)) ⟨-1 * aE d s (-1), 0, 1⟩ ⟨-aE d s (-1), 0, 1⟩ (bLast d s (-1)) one (times d s one)).b < 0 := by
  have om := aB h.os
  have tp := KL h (by decide)
  have sa : s.a ≠ 0 := fun z => by rw [z, Int.mul_zero] at tp; omega
  have nk := aJ h.hd h.ok h.hk
  have gc := h.os.cn
  have d0 : 0 < d := by have := h.hd.1; omega
  rw [DD h.hd h.op (cC _) (cC _) h.ol h.os]
  have r1 : Rep (times d (bP d k s (-1)) s) (aE d s (-1) * (k.a * k.a * norm d s)) 0 (norm d k * s.a * s.c) := (Rep.times (d := d) h.op h.os (G2 h (by decide)) (ao h.os)).congr (by unfold norm; grind) (by grind) rfl
  have r2 := Js (d := d) (t := -1 * aE d s (-1)) om
  have r3 := Js (d := d) (t := -aE d s (-1)) h.os
  have r4 : Rep (times d (bLast d s (-1)) (aX s)) (aE d s (-1) * s.a) 0 s.c := by
    refine (Rep.times (d := d) h.ol om (yy h (by decide)) (ao om)).conv gc ?_ ?_
    · show (aE d s (-1) * (s.a * s.a) * s.a + d * (aE d s (-1) * (s.a * s.b)) * -s.b) * s.c = aE d s (-1) * s.a * (norm d s * s.c)
      unfold norm; grind
    · show (aE d s (-1) * (s.a * s.a) * -s.b + aE d s (-1) * (s.a * s.b) * s.a) * s.c = 0 * _
      grind
  have o12 := aT (ai (d := d) h.op h.os) (ai (d := d) (cC (-1 * aE d s (-1))) om)
  have o34 := aT (ai (d := d) (cC (-aE d s (-1))) h.os) (ai (d := d) h.ol om)
  have r34 : Rep (plus (times d ⟨-aE d s (-1), 0, 1⟩ s) (times d (bLast d s (-1)) (aX s))) 0 (-(aE d s (-1) * s.b)) s.c := by
    refine (Rep.plus (ai (cC _) h.os) (ai h.ol om) r3 r4).conv gc ?_ ?_ <;> grind
  have r := Rep.plus o12 o34 (Rep.plus (ai h.op h.os) (ai (cC _) om) r1 r2) r34
  have rX : Rep (plus (plus (times d (bP d k s (-1)) s) (times d ⟨-1 * aE d s (-1), 0, 1⟩ (aX s))) (plus (times d ⟨-aE d s (-1), 0, 1⟩ s) (times d (bLast d s (-1)) (aX s)))) (aE d s (-1) * (d * (s.a * s.a * (k.b * k.b) - s.b * s.b * (k.a * k.a)))) 0 (norm d k * s.a * s.c) := by
    refine r.conv (Int.mul_ne_zero (Int.mul_ne_zero nk sa) gc) ?_ ?_
    · show ((aE d s (-1) * (k.a * k.a * norm d s) * s.c + -1 * aE d s (-1) * s.a * (norm d k * s.a * s.c)) * s.c + 0 * (norm d k * s.a * s.c * s.c)) * (norm d k * s.a * s.c) = aE d s (-1) * (d * (s.a * s.a * (k.b * k.b) - s.b * s.b * (k.a * k.a))) * (norm d k * s.a * s.c * s.c * s.c)
      have e : k.a * k.a * norm d s - norm d k * (s.a * s.a) = d * (s.a * s.a * (k.b * k.b) - s.b * s.b * (k.a * k.a)) := by unfold norm; grind
      rw [← e]
      generalize norm d k = N
      generalize norm d s = M
      grind
    · show ((0 * s.c + -1 * aE d s (-1) * -s.b * (norm d k * s.a * s.c)) * s.c + -(aE d s (-1) * s.b) * (norm d k * s.a * s.c * s.c)) * (norm d k * s.a * s.c) = 0 * _
      generalize norm d k = N
      grind
  have hs := (rZ h.hd (aT o12 o34) rX).2
  have hneg : aE d s (-1) * (d * (s.a * s.a * (k.b * k.b) - s.b * s.b * (k.a * k.a))) * (norm d k * s.a * s.c) < 0 := by
    have e : aE d s (-1) * (d * (s.a * s.a * (k.b * k.b) - s.b * s.b * (k.a * k.a))) * (norm d k * s.a * s.c) = norm d k * ((s.a * s.a * (k.b * k.b) - s.b * s.b * (k.a * k.a)) * ((aE d s (-1) * s.a) * (d * s.c))) := by grind
    rw [e]
    exact Int.mul_neg_of_neg_of_pos hn (Int.mul_pos (by omega) (Int.mul_pos tp (Int.mul_pos d0 h.os.c)))
  rw [hs.mpr hneg]
  decide
theorem Cs {w : Int} (hd : ay d) (ok2 : Ok k2) (hk2 : sg d k2.a k2.b = 1) (hw : aQ d k2 = w) : fZ d ax ax ax ⟨w, 0, 1⟩ k2 = true := by
  have hpm : w = 1 ∨ w = -1 := by rw [← hw]; rcases je hd ok2 hk2 with ⟨a, _⟩ | ⟨a, _⟩ <;> omega
  have om := aB ok2
  have z : sg d ax.a ax.b = 0 := dI.mpr ⟨rfl, rfl⟩
  unfold fZ
  rw [CS ok2, CS om, Nd fO, CS fO, CS (ai (cC w) om), CM gF fO, CS gF, IY, z]
  rw [if_neg (by decide), bH hd (cC w) om, IX hd hpm]
  have e : sg d (aX k2).a (aX k2).b = w := hw
  rw [e, tt1 hpm, if_neg (by decide)]
  rfl
theorem Ce {w : Int} (hd : ay d) (os : Ok s) (hs : sg d s.a s.b = 1) (hw : w = 1 ∨ w = -1) (hn : aQ d s ≠ w) : sg d (weigh d ax ax ax ⟨w, 0, 1⟩ one (times d s one)).a (weigh d ax ax ax ⟨w, 0, 1⟩ one (times d s one)).b < 0 := by
  have om := aB os
  rw [DD hd fO fO fO (cC w) os, CS os, CS om, Nd fO, Nf (ai (cC w) om), Nf (ai (cC w) om), bH hd (cC w) om, IX hd hw]
  show w * aQ d s < 0
  rcases je hd os hs with ⟨a, _⟩ | ⟨a, _⟩ <;> rw [a] at hn ⊢ <;> rcases hw with rfl | rfl <;> first | exact absurd rfl hn | decide
theorem LP (hd : ay d) (ok : Ok k) (bk : Bd 130 k) (hk : sg d k.a k.b = 1) (os : Ok s) (bs : Bd 700 s) (hs : sg d s.a s.b = 1) (hm : dZ d k s = false) : ∃ p q r t : N3, AR d k s = .tuple [dN one, W4 p q r t] ∧ OkW 1800 10 p q r t ∧ ∀ ks : List N3, (∀ x ∈ ks, Ok x ∧ sg d x.a x.b = 1 ∧ Lay d k x) → BP d ks s one p q r t = true := by
  have s5 := iN hd.1 hd.2.1
  have hl : ¬ Lay d k s := fun z => by rw [(zW hd ok os hk hs).mpr z] at hm; cases hm
  have both : ∀ {p q r t : N3}, (∀ x, Ok x → sg d x.a x.b = 1 → Lay d k x → fZ d p q r t x = true) → sg d (weigh d p q r t one (times d s one)).a (weigh d p q r t one (times d s one)).b < 0 → ∀ ks : List N3, (∀ x ∈ ks, Ok x ∧ sg d x.a x.b = 1 ∧ Lay d k x) → BP d ks s one p q r t = true := fun {p q r t} h1 h2 ks hks => by
    unfold BP
    rw [decide_eq_true h2, Bool.and_true, List.all_eq_true]
    intro x hx
    obtain ⟨ox, sx, lx⟩ := hks x hx
    have nx := aJ hd ox sx
    rw [h1 x ox sx lx, h1 _ (az nx) (dY hd ox sx) ((An (eX ox nx)).mpr lx)]
    rfl
  have wl : ∀ x, Ok x → sg d x.a x.b = 1 → Lay d k x → aQ d x = aQ d k := fun x ox sx lx => by
    rcases lx with ⟨a, b, _⟩ | ⟨a, b, _⟩
    · rw [j9 hd ox sx b, j9 hd ok hk a]
    · rw [jV hd ox sx b, jV hd ok hk a]
  have hpm : aQ d k = 1 ∨ aQ d k = -1 := by rcases je hd ok hk with ⟨a, _⟩ | ⟨a, _⟩ <;> omega
  have bl : ∀ {t : Int}, t.natAbs ≤ 1 → Bd 10 ⟨t, 0, 1⟩ := fun {t} h => ⟨Sz.of (by show t.natAbs < 1024; omega), Sz.of (by show (0 : Int).natAbs < 1024; decide), Sz.of (by show (1 : Int).natAbs < 1024; decide)⟩
  have b0 : Bd 10 ax := ⟨Sz.of (by decide), Sz.of (by decide), Sz.of (by decide)⟩
  by_cases hw : aQ d s = aQ d k
  · have hne := DY hd ok hk os hs hm hw
    have B : iR d k s (aQ d k) := ⟨hd, ok, hk, os, hs, hne⟩
    have tpm := B.ht
    refine ⟨bP d k s (aQ d k), ⟨aQ d k * aE d s (aQ d k), 0, 1⟩, ⟨-aE d s (aQ d k), 0, 1⟩, bLast d s (aQ d k), ?_, ?_, ?_⟩
    · unfold AR
      rw [if_pos hw]
      rfl
    · refine ⟨B.op, cC _, cC _, B.ol, ?_, bl ?_, bl ?_, (rG s5 os bs B.nm tpm).mono (by decide)⟩
      · have hN := qZ s5 bk
        have st : ∀ {j : Nat} {i : Int}, Sz j i → Sz j (aE d s (aQ d k) * i) := fun h => h.le (by rw [Int.natAbs_mul]; rcases tpm with t | t <;> rw [t] <;> simp)
        rcases je hd ok hk with ⟨a, b⟩ | ⟨a, b⟩
        · exact ((Gv B (by rw [a]; decide)).bd B.op (n := 1000) ((st (((s5.mul bk.b).mul bk.b).mul bs.b)).neg.mono (by decide)) ((st ((bk.b.mul bk.b).mul bs.a)).mono (by decide)) ((hN.mul bs.b).mono (by decide))).mono (by decide)
        · exact ((G2 B (by rw [a]; decide)).bd B.op (n := 1000) ((st ((bk.a.mul bk.a).mul bs.a)).mono (by decide)) ((st ((bk.a.mul bk.a).mul bs.b)).neg.mono (by decide)) ((hN.mul bs.a).mono (by decide))).mono (by decide)
      · rcases hpm with a | a <;> rcases tpm with t | t <;> rw [a] <;> rw [a] at t <;> rw [t] <;> decide
      · rcases tpm with t | t <;> rw [t] <;> decide
    · refine both (fun x ox sx lx => Gb B hw ox sx lx) ?_
      rcases je hd ok hk with ⟨a, b⟩ | ⟨a, b⟩
      · have ns : 0 < norm d s := by
          rcases je hd os hs with ⟨a', b'⟩ | ⟨a', b'⟩
          · exact b'
          · rw [a', a] at hw; exact absurd hw (by decide)
        rw [a] at B ⊢
        exact Dx B b (Int.not_le.mp fun z => hl (.inl ⟨b, ns, z⟩))
      · have ns : norm d s < 0 := by
          rcases je hd os hs with ⟨a', b'⟩ | ⟨a', b'⟩
          · rw [a', a] at hw; exact absurd hw (by decide)
          · exact b'
        rw [a] at B ⊢
        exact CO B b (Int.not_le.mp fun z => hl (.inr ⟨b, ns, z⟩))
  · refine ⟨ax, ax, ax, ⟨aQ d k, 0, 1⟩, ?_, ?_, both (fun x ox sx lx => Cs hd ox sx (wl x ox sx lx)) (Ce hd os hs hpm hw)⟩
    · unfold AR
      rw [if_neg hw]
      rfl
    · exact ⟨fO, fO, fO, cC _, b0.mono (by decide), b0, b0, (bl (by rcases hpm with a | a <;> rw [a] <;> decide)).mono (by decide)⟩
end
open PySem PySem.Spec PyProof.Rows NM
section
variable {d : Int} {k s m : N3}
theorem IS (h : norm d k ≠ 0) : Lay d k k := by
  rcases Int.lt_or_gt_of_ne h with z | z
  · exact .inr ⟨z, z, by rw [Int.mul_comm]; exact Int.le_refl _⟩
  · exact .inl ⟨z, z, by rw [Int.mul_comm]; exact Int.le_refl _⟩
theorem tr1 {x y u v p q : Int} (hu : 0 < u) (hx : 0 ≤ x) (hq : 0 ≤ q) (h1 : v * y ≤ u * x) (h2 : p * u ≤ q * v) (hy : 0 ≤ y) : p * y ≤ q * x := by
  have a := Int.mul_le_mul_of_nonneg_right h2 hy
  have b := Int.mul_le_mul_of_nonneg_left h1 hq
  have c : u * (q * x - p * y) = (q * (u * x) - q * (v * y)) + (q * v * y - p * u * y) := by grind
  have e : 0 ≤ (q * x - p * y) * u := by rw [Int.mul_comm, c]; omega
  rw [hJ hu] at e
  omega
theorem E4 (hd : ay d) (h1 : Lay d k m) (h2 : Lay d m s) : Lay d k s := by
  have d0 : 0 < d := by have := hd.1; omega
  rcases h1 with ⟨a, b, c⟩ | ⟨a, b, c⟩ <;> rcases h2 with ⟨a', b', c'⟩ | ⟨a', b', c'⟩
  · have hm : 0 < m.a * m.a := by have := dsq (d := d) (b := m.b) d0; have e : norm d m = m.a * m.a - d * m.b * m.b := rfl; omega
    exact .inl ⟨a, b', tr1 hm (sq_nonneg _) (sq_nonneg _) c c' (sq_nonneg _)⟩
  · omega
  · omega
  · have hm : 0 < m.b * m.b := by
      rcases Classical.em (m.b = 0) with z | z
      · have e : norm d m = m.a * m.a - d * m.b * m.b := rfl
        rw [z] at e
        have := sq_nonneg m.a
        omega
      · exact sq_pos z
    exact .inr ⟨a, b', tr1 hm (sq_nonneg _) (sq_nonneg _) c c' (sq_nonneg _)⟩
theorem AL (hd : ay d) (ok : Ok k) (nk : norm d k ≠ 0) : ((dF d k).a.natAbs : Int) * ((norm d k).natAbs : Int) = 4 * (k.a * k.a) * (dF d k).c := by
  have r := FK hd ok nk
  have e := congrArg Int.natAbs r.a
  rw [Int.natAbs_mul] at e
  have hc := (lX hd nk ok).c
  have h0 : 0 ≤ 4 * (k.a * k.a) * (dF d k).c := Int.mul_nonneg (Int.mul_nonneg (by decide) (sq_nonneg _)) (by omega)
  have e2 : ((4 * (k.a * k.a) * (dF d k).c).natAbs : Int) = 4 * (k.a * k.a) * (dF d k).c := Int.natAbs_of_nonneg h0
  rw [← e2, ← e]
  rfl
theorem FC (hd : ay d) (ok : Ok k) (om : Ok m) (hs : (0 < norm d k ∧ 0 < norm d m) ∨ (norm d k < 0 ∧ norm d m < 0)) (h : ¬ gtL d m k) : Lay d k m := by
  have nk : norm d k ≠ 0 := by omega
  have nm : norm d m ≠ 0 := by omega
  have d0 : 0 < d := by have := hd.1; omega
  have ak := AL hd ok nk
  have am := AL hd om nm
  have ck := (lX hd nk ok).c
  have cm := (lX hd nm om).c
  unfold gtL at h
  have h1 : ((dF d m).a.natAbs : Int) * (dF d k).c ≤ ((dF d k).a.natAbs : Int) * (dF d m).c := by omega
  have pk : (0 : Int) < ((norm d k).natAbs : Int) := by omega
  have pm : (0 : Int) < ((norm d m).natAbs : Int) := by omega
  generalize ((dF d m).a.natAbs : Int) = A at *
  generalize ((dF d k).a.natAbs : Int) = B at *
  generalize (dF d k).c = C at *
  generalize (dF d m).c = E at *
  have key : 0 ≤ (k.a * k.a * ((norm d m).natAbs : Int) - m.a * m.a * ((norm d k).natAbs : Int)) * (4 * (C * E)) := by
    have h2 : 0 ≤ (B * E - A * C) * (((norm d k).natAbs : Int) * ((norm d m).natAbs : Int)) := Int.mul_nonneg (by omega) (Int.mul_nonneg (by omega) (by omega))
    have e : (B * E - A * C) * (((norm d k).natAbs : Int) * ((norm d m).natAbs : Int)) = (B * ((norm d k).natAbs : Int)) * (E * ((norm d m).natAbs : Int)) - (A * ((norm d m).natAbs : Int)) * (C * ((norm d k).natAbs : Int)) := by grind
    rw [e, ak, am] at h2
    have e2 : 4 * (k.a * k.a) * C * (E * ((norm d m).natAbs : Int)) - 4 * (m.a * m.a) * E * (C * ((norm d k).natAbs : Int)) = (k.a * k.a * ((norm d m).natAbs : Int) - m.a * m.a * ((norm d k).natAbs : Int)) * (4 * (C * E)) := by grind
    rw [e2] at h2
    exact h2
  rw [hJ (Int.mul_pos (by decide) (Int.mul_pos ck cm))] at key
  rcases hs with ⟨a, b⟩ | ⟨a, b⟩
  · refine .inl ⟨a, b, ?_⟩
    rw [Int.natAbs_of_nonneg (Int.le_of_lt a), Int.natAbs_of_nonneg (Int.le_of_lt b)] at key
    have e : k.a * k.a * norm d m - m.a * m.a * norm d k = (m.a * m.a * (k.b * k.b) - m.b * m.b * (k.a * k.a)) * d := by unfold norm; grind
    rw [e, hJ d0] at key
    omega
  · refine .inr ⟨a, b, ?_⟩
    have ea : ((norm d k).natAbs : Int) = -norm d k := by omega
    have eb : ((norm d m).natAbs : Int) = -norm d m := by omega
    rw [ea, eb] at key
    have e : k.a * k.a * -norm d m - m.a * m.a * -norm d k = (m.b * m.b * (k.a * k.a) - m.a * m.a * (k.b * k.b)) * d := by unfold norm; grind
    rw [e, hJ d0] at key
    omega
theorem CA {ks : List N3} (hd : ay d) (ho : cg d ks) (hm : cT d ks = false) {x y : N3} (hx : x ∈ ks) (hy : y ∈ ks) : (0 < norm d x ∧ 0 < norm d y) ∨ (norm d x < 0 ∧ norm d y < 0) := by
  obtain ⟨ox, _, sx⟩ := ho.ok x hx
  obtain ⟨oy, _, sy⟩ := ho.ok y hy
  have nx := aJ hd ox sx
  have ny := aJ hd oy sy
  have sp : ∀ z : N3, norm d z ≠ 0 → (0 < norm d z → sgN d z = 1) ∧ (norm d z < 0 → sgN d z = -1) := fun z hz => by
    unfold sgN
    rw [kg, if_neg hz]
    exact ⟨fun h => by rw [if_pos h], fun h => by rw [if_neg (by omega)]⟩
  have no : ∀ {p n : N3}, p ∈ ks → n ∈ ks → sgN d p = 1 → sgN d n = -1 → False := fun {p n} hp hn e1 e2 => by
    have a : ks.any (fun k => decide (sgN d k = 1)) = true := List.any_eq_true.mpr ⟨p, hp, by simp [e1]⟩
    have b : ks.any (fun k => decide (sgN d k = -1)) = true := List.any_eq_true.mpr ⟨n, hn, by simp [e2]⟩
    unfold cT at hm
    rw [a, b] at hm
    cases hm
  rcases Int.lt_or_gt_of_ne nx with a | a <;> rcases Int.lt_or_gt_of_ne ny with b | b
  · exact .inr ⟨a, b⟩
  · exact (no hy hx ((sp y ny).1 b) ((sp x nx).2 a)).elim
  · exact (no hx hy ((sp x nx).1 a) ((sp y ny).2 b)).elim
  · exact .inl ⟨a, b⟩
theorem lU {ks : List N3} (hd : ay d) (ho : cg d ks) : jl d ks ∈ ks := (eI (vD hd ho)).2
theorem BN {ks : List N3} (hd : ay d) (ho : cg d ks) (hm : cT d ks = false) {x : N3} (hx : x ∈ ks) : Lay d (jl d ks) x := by
  have hM := lU hd ho
  obtain ⟨oM, _, sM⟩ := ho.ok _ hM
  obtain ⟨ox, _, sx⟩ := ho.ok x hx
  have l1 := ho.l1
  have hc : ∀ i, i < ks.length → 0 < (dF d (ks.getD i ax)).c := fun i hi => by
    obtain ⟨ok, _, sk⟩ := ho.ok _ (eI hi).2
    exact (lX hd (aJ hd ok sk) ok).c
  obtain ⟨j, hj, e⟩ := List.mem_iff_getElem.mp hx
  have e2 : ks.getD j ax = x := by rw [List.getD_eq_getElem?_getD, List.getElem?_eq_getElem hj, e]; rfl
  have := (oU hc (ks.length - 1) (by omega)).2.1 j (by omega)
  rw [e2] at this
  exact FC hd oM ox (CA hd ho hm hM hx) this
theorem oD {ks : List N3} (hd : ay d) (ho : cg d ks) (os : Ok s) (hs : sg d s.a s.b = 1) : bO d ks s = true ↔ cT d ks = true ∨ ∃ k ∈ ks, Lay d k s := by
  have hM := lU hd ho
  obtain ⟨oM, _, sM⟩ := ho.ok _ hM
  unfold bO
  rw [Bool.or_eq_true]
  cases hm : cT d ks with
  | true => simp
  | false =>
    rw [zW hd oM os sM hs]
    constructor
    · rintro (h | h)
      · cases h
      · exact .inr ⟨_, hM, h⟩
    · rintro (h | ⟨k, hk, h⟩)
      · cases h
      · exact .inr (E4 hd (BN hd ho hm hk) h)
theorem oY {ks : List N3} (hd : ay d) (ho : cg d ks) : cT d ks = true ↔ (∃ k ∈ ks, 0 < norm d k) ∧ ∃ k ∈ ks, norm d k < 0 := by
  have sp : ∀ z ∈ ks, (sgN d z = 1 ↔ 0 < norm d z) ∧ (sgN d z = -1 ↔ norm d z < 0) := fun z hz => by
    obtain ⟨oz, _, sz⟩ := ho.ok z hz
    have nz := aJ hd oz sz
    unfold sgN
    rw [kg, if_neg nz]
    split <;> omega
  unfold cT
  rw [Bool.and_eq_true, List.any_eq_true, List.any_eq_true]
  constructor
  · rintro ⟨⟨x, hx, a⟩, ⟨y, hy, b⟩⟩
    exact ⟨⟨x, hx, (sp x hx).1.mp (by simpa using a)⟩, ⟨y, hy, (sp y hy).2.mp (by simpa using b)⟩⟩
  · rintro ⟨⟨x, hx, a⟩, ⟨y, hy, b⟩⟩
    exact ⟨⟨x, hx, by simpa using (sp x hx).1.mpr a⟩, ⟨y, hy, by simpa using (sp y hy).2.mpr b⟩⟩
theorem MU {a b : Bool} (h : a = true ↔ b = true) : a = b := by cases a <;> cases b <;> simp_all
theorem gT {ks ls : List N3} (hd : ay d) (ho : cg d ks) (hl : cg d ls) (os : Ok s) (hs : sg d s.a s.b = 1) {t : N3} (ot : Ok t) (ht : sg d t.a t.b = 1) (hr : Ray d s t) (h1 : ∀ k ∈ ks, ∃ l ∈ ls, Ray d k l) (h2 : ∀ l ∈ ls, ∃ k ∈ ks, Ray d k l) : bO d ls t = bO d ks s := by
  refine MU ?_
  rw [oD hd ho os hs, oD hd hl ot ht, oY hd ho, oY hd hl]
  constructor
  · rintro (⟨⟨x, hx, a⟩, ⟨y, hy, b⟩⟩ | ⟨l, hl, h⟩)
    · obtain ⟨x', hx', rx⟩ := h2 x hx
      obtain ⟨y', hy', ry⟩ := h2 y hy
      exact .inl ⟨⟨x', hx', (j8 rx).1.mp a⟩, ⟨y', hy', (j8 ry).2.mp b⟩⟩
    · obtain ⟨k, hk, rk⟩ := h2 l hl
      exact .inr ⟨k, hk, (AB rk).mp ((An hr).mp h)⟩
  · rintro (⟨⟨x, hx, a⟩, ⟨y, hy, b⟩⟩ | ⟨k, hk, h⟩)
    · obtain ⟨x', hx', rx⟩ := h1 x hx
      obtain ⟨y', hy', ry⟩ := h1 y hy
      exact .inl ⟨⟨x', hx', (j8 rx).1.mpr a⟩, ⟨y', hy', (j8 ry).2.mpr b⟩⟩
    · obtain ⟨l, hl, rl⟩ := h1 k hk
      exact .inr ⟨l, hl, (An hr).mpr ((AB rl).mpr h)⟩
theorem km : Ray d s s := ⟨1, 1, by decide, by decide, rfl, .inl rfl⟩
theorem Gw {ks ls : List N3} (hd : ay d) (ho : cg d ks) (hl : cg d ls) (os : Ok s) (hs : sg d s.a s.b = 1) (h : ∀ l ∈ ls, l ∈ ks) (hx : bO d ls s = true) : bO d ks s = true := by
  rw [oD hd hl os hs, oY hd hl] at hx
  rw [oD hd ho os hs, oY hd ho]
  rcases hx with ⟨⟨x, hx, a⟩, ⟨y, hy, b⟩⟩ | ⟨l, hl, z⟩
  · exact .inl ⟨⟨x, h x hx, a⟩, ⟨y, h y hy, b⟩⟩
  · exact .inr ⟨l, h l hl, z⟩
theorem FN {ks : List N3} {o : N3} (hd : ay d) (ho : cg d ks) (os : Ok s) (oo : Ok o) (h1 : bO d ks s = true) (h2 : bO d ks o = true) : bO d ks (plus s o) = true := by
  obtain ⟨oM, _, sM⟩ := ho.ok _ (lU hd ho)
  unfold bO at *
  cases hm : cT d ks with
  | true => rfl
  | false =>
    rw [hm, Bool.false_or] at h1 h2
    rw [Bool.false_or]
    exact Ij oM os oo (aJ hd oM sM) h1 h2
theorem yn {ks : List N3} (hd : ay d) (ho : cg d ks) {x : N3} (hx : x ∈ ks) : bO d ks x = true := by
  obtain ⟨ox, _, sx⟩ := ho.ok x hx
  rw [oD hd ho ox sx]
  exact .inr ⟨x, hx, IS (aJ hd ox sx)⟩
theorem IV {k : N3} : bO d [k] s = dZ d k s := by
  unfold bO
  have e : cT d [k] = false := by
    unfold cT
    simp only [List.any_cons, List.any_nil, Bool.or_false]
    cases h : decide (sgN d k = 1) with
    | false => rfl
    | true =>
      have : sgN d k = 1 := by simpa using h
      rw [this]; rfl
  rw [e, Bool.false_or]
  rfl
end
open PySem PySem.Spec PyProof.Rows NM
def mm : DSp := fun ds μ Q => ∃ (d : Int) (ks : List N3) (s o f : N3), ds = [.v (.int d), .v (.tuple (ks.map dN)), .v (dN s), .v (dN o), .v (dN f)] ∧ ay d ∧ KindsOk d ks ∧ Ok s ∧ Bd 466 s ∧ sg d s.a s.b = 1 ∧ Ok o ∧ Bd 230 o ∧ sg d o.a o.b = 1 ∧ Fr0 f ∧ 0 < f.a ∧ Q (.v (.bool true)) μ
theorem wC {μ : Mu} {Q : DK} {ds : List D} (h : mm ds μ Q) : ds.length = 5 := by obtain ⟨_, _, _, _, _, rfl, _⟩ := h; rfl
def gi : DTS :=
  (aM (bA (dCB jo (ab (pX [none, some 0] (nU (ae 1)) (aw 0) pK (aq bW (ab (ae 1) (ab (ae 0) ar)))) ar)) (aw 9))
  (aM (bA (dCB jo (ab (pX [none, some 0, some 4] (nU (ae 1)) (aw 0) pK (aq aU (ab (ae 1) (ab (ae 0) (ab (ae 2) ar))))) ar)) (aw 10))
  (aM (Al (zZ (dSl (pE (ab (ae 9) (ab (ae 10) (ab (dOp pW (ae 1) (dSl (ae 1) ku (uE (dC (.int 1))))) ar)))) ku (uE (dOp pW (dC (.int 2)) (dCB nY (ab (dOp rLt (dCB fK (ab (ae 1) ar)) (dC (.int 3))) ar)))))) (aw 11) (dy (qB (dB (dOp (eh true) (aq g9 (ab (ae 0) (ab (ae 11) (ab (ae 2) ar)))) (ae 6))) (dB (dOp (eh true) (aq g9 (ab (ae 0) (ab (ae 11) (ab (aq aU (ab (ae 0) (ab (ae 2) (ab (ae 4) ar)))) ar)))) (ae 6)))) (bF (dC (.bool false))) cb))
  (aM (dy (uF (dB (ae 6)) (dB (aq g9 (ab (ae 0) (ab (ae 1) (ab (ae 3) ar)))))) (bF (aq g9 (ab (ae 0) (ab (ae 1) (ab (aq fF (ab (ae 2) (ab (ae 3) ar))) ar))))) cb)
  (bF (Kd (ae 6) (dCB sj (ab (pX [none, some 0, some 2, some 5] (nU (ae 1)) (aw 0) pK (aq zP (ab (ae 1) (ab (en (ab (ae 0) ar)) (ab (ae 2) (ab (dOp aF (ae 3) (dC (.int 1))) ar)))))) ar))))))))
def fY : DTS :=
  (aM (bA (aq wA (ab (ae 0) (ab (ae 1) ar))) (aw 8))
  (aM (dy (dB (dOp (eh true) (ae 6) (Kd (dOp yw (ae 8) (dC .none)) (aq g9 (ab (ae 0) (ab (dSl (dSl (ae 1) (uE (ae 8)) ku) ku (uE (dC (.int 1)))) (ab (ae 2) ar))))))) (bF (dC (.bool false))) cb)
  (gi)))
def ij : DTS :=
  (aM (bA (aq vW (ab (ae 0) (ab (ae 1) (ab (ae 2) ar)))) (aw 5))
  (aM (bA (dOp (eh false) (dOp aF (ae 5) (dC (.int 0))) (dC (.str "plan"))) (aw 6))
  (aM (bA (tU [none, some 1, some 0, some 2] (vH (ab (dCB fK (ab (ae 1) ar)) ar)) (aw 0) (dB (dOp rGt (dCB fK (ab (ae 1) ar)) (dC (.int 1)))) (aq g9 (ab (ae 2) (ab (dOp pW (dSl (ae 1) ku (uE (ae 0))) (dSl (ae 1) (uE (lH (ae 0) (dC (.int 1)))) ku)) (ab (ae 3) ar))))) (aw 7))
  (aM (dy (qB (dB (dOp (eh true) (aq g9 (ab (ae 0) (ab (ae 1) (ab (ae 2) ar)))) (ae 6))) (uF (dB (dOp (Co false) (dC (.bool true)) (ae 7))) (hU (dB (ae 6))))) (bF (dC (.bool false))) cb)
  (fY)))))
section
variable {μ : Mu} {Qd : DK} {ds : List D}
theorem qL {ks : List N3} {lo hi : Option Int} : fJ (ks.map dN) lo hi = (fJ ks lo hi).map dN := by
  unfold fJ
  rw [List.length_map, List.map_take, List.map_drop]
def Gg (ks : List N3) (i : Int) : List N3 := fJ ks none (some i) ++ fJ ks (some (i + 1)) none
theorem wG {ks : List N3} {lo hi : Option Int} {x : N3} (h : x ∈ fJ ks lo hi) : x ∈ ks := by
  unfold fJ at h
  exact List.mem_of_mem_drop (List.mem_of_mem_take h)
theorem EM {ks : List N3} {i : Int} {x : N3} (h : x ∈ Gg ks i) : x ∈ ks := by
  rcases List.mem_append.mp h with h | h <;> exact wG h
theorem MK {d : Int} {ks : List N3} {i : Nat} (ho : cg d ks) (h1 : 1 < ks.length) (hi : i < ks.length) : cg d (Gg ks (0 + (i : Int))) := by
  have l : 1 ≤ (Gg ks (0 + (i : Int))).length ∧ (Gg ks (0 + (i : Int))).length ≤ 3 := by
    have l3 := ho.l3
    match ks, h1, l3, hi with
    | [a, b], _, _, hi =>
      match i, hi with
      | 0, _ => exact (show 1 ≤ 1 ∧ 1 ≤ 3 from ⟨by decide, by decide⟩)
      | 1, _ => exact (show 1 ≤ 1 ∧ 1 ≤ 3 from ⟨by decide, by decide⟩)
    | [a, b, c], _, _, hi =>
      match i, hi with
      | 0, _ => exact (show 1 ≤ 2 ∧ 2 ≤ 3 from ⟨by decide, by decide⟩)
      | 1, _ => exact (show 1 ≤ 2 ∧ 2 ≤ 3 from ⟨by decide, by decide⟩)
      | 2, _ => exact (show 1 ≤ 2 ∧ 2 ≤ 3 from ⟨by decide, by decide⟩)
  exact ⟨l.1, l.2, fun x hx => ho.ok x (EM hx)⟩
def O8 (d : Int) (ks : List N3) (s : N3) : PyData → Option PyData
  | .int i => if 1 < ks.length then some (.bool (bO d (Gg ks i) s)) else none
  | _ => none
theorem yh : ∀ {xs : List PyData}, (∀ y ∈ xs, ∃ b : Bool, y = .bool b) → PyData.canLayAll0 xs = true
  | [], _ => rfl
  | x :: r, h => by
    obtain ⟨b, rfl⟩ := h x List.mem_cons_self
    show (PyData.canLay0 (.bool b) && PyData.canLayAll0 r) = true
    rw [yh fun y hy => h y (List.mem_cons_of_mem _ hy)]
    rfl
structure GoH (d : Int) (ks : List N3) (s o f : N3) : Prop where
  hd : ay d
  ho : KindsOk d ks
  os : Ok s
  bs : Bd 466 s
  hs : sg d s.a s.b = 1
  oo : Ok o
  bo : Bd 230 o
  hoo : sg d o.a o.b = 1
  ff : Fr0 f
  fa : 0 < f.a
def NP (d : Int) : PyData → Option PyData
  | .tuple [.int a, .int b, .int c] => some (dN (av d ⟨a, b, c⟩))
  | _ => none
def M6 (d : Int) (f : N3) : PyData → Option PyData
  | .tuple [.int a, .int b, .int c] => some (dN (times d ⟨a, b, c⟩ f))
  | _ => none
theorem G0 {d : Int} : ∀ ks : List N3, (ks.map dN).filterMap (NP d) = (ks.map (av d)).map dN
  | [] => rfl
  | k :: ks => by rw [List.map_cons, List.filterMap_cons]; show dN (av d k) :: _ = _; rw [G0 ks]; rfl
theorem GV {d : Int} {f : N3} : ∀ ks : List N3, (ks.map dN).filterMap (M6 d f) = (ks.map (fun k => times d k f)).map dN
  | [] => rfl
  | k :: ks => by rw [List.map_cons, List.filterMap_cons]; show dN (times d k f) :: _ = _; rw [GV ks]; rfl
theorem Fp {d : Int} {ks : List N3} (hd : ay d) (ho : KindsOk d ks) : cg d (ks.map (av d)) := ⟨by rw [List.length_map]; exact ho.l1, by rw [List.length_map]; exact ho.l3, fun x hx => by
  obtain ⟨k, hk, rfl⟩ := List.mem_map.mp hx
  obtain ⟨ok, bk, sk⟩ := ho.ok k hk
  have nk := aJ hd ok sk
  exact ⟨az nk, (bJ (iN hd.1 hd.2.1) nk bk).mono (by decide), dY hd ok sk⟩⟩
theorem Gd {d : Int} {ks : List N3} {f : N3} (hd : ay d) (ho : KindsOk d ks) (ff : Fr0 f) (fa : 0 < f.a) : cg d (ks.map (fun k => times d k f)) := ⟨by rw [List.length_map]; exact ho.l1, by rw [List.length_map]; exact ho.l3, fun x hx => by
  obtain ⟨k, hk, rfl⟩ := List.mem_map.mp hx
  obtain ⟨ok, bk, sk⟩ := ho.ok k hk
  exact ⟨ai ok ff.ok, (aK (iN hd.1 hd.2.1) ok ff.ok bk ff.bd).mono (by decide), by rw [bH hd ok ff.ok, sk, rA fa ff.b]; rfl⟩⟩
theorem DQ {d : Int} {ks : List N3} (ho : KindsOk d ks) (h : ks.length < 3) : cg d (ks ++ fJ ks none (some 1)) := by
  have c1 : (fJ ks none (some 1)).length ≤ 1 := by
    cases ks with
    | nil => exact Nat.zero_le _
    | cons a r => exact (show 1 ≤ 1 from Nat.le_refl 1)
  refine ⟨by rw [List.length_append]; have := ho.l1; omega, by rw [List.length_append]; omega, fun x hx => ?_⟩
  have hx' : x ∈ ks := (List.mem_append.mp hx).elim id wG
  exact ⟨(ho.ok x hx').1, (ho.ok x hx').2.1.mono (by decide), (ho.ok x hx').2.2⟩
theorem Nn {d : Int} {ks : List N3} {s o f : N3} {r7 r8 r9 r10 r11 : Option D} (h : GoH d ks s o f) (q : Qd (.v (.bool true)) μ) : gi { nx := fun _ μ' => Qd (.v .none) μ', rt := Qd } [some (.v (.int d)), some (.v (.tuple (ks.map dN))), some (.v (dN s)), some (.v (dN o)), some (.v (dN f)), some (.v (sr d ks s)), some (.v (.bool (bO d ks s))), r7, r8, r9, r10, r11] μ := by
  obtain ⟨hd, ho, os, bs, hs, oo, bo, hoo, ff, fa⟩ := h
  have s5 := iN hd.1 hd.2.1
  have hw := ho.wide
  have l1 := ho.l1
  have l3 := ho.l3
  have ot := ai (d := d) os ff.ok
  have bt := aK s5 os ff.ok bs ff.bd
  have ht : sg d (times d s f).a (times d s f).b = 1 := by rw [bH hd os ff.ok, hs, rA fa ff.b]; rfl
  have rt : Ray d s (times d s f) := rT os ff.ok ff.b fa
  unfold gi
  walk_at "rn"
  refine ⟨by rw [List.length_map]; omega, NP d, fun x hx μ' hsub => ⟨⟨trivial, trivial⟩, ?_⟩, ?_⟩
  · obtain ⟨k, hk, rfl⟩ := List.mem_map.mp hx
    obtain ⟨ok, bk, sk⟩ := ho.ok k hk
    exact ⟨d, k, rfl, s5, aJ hd ok sk, bk.mono (by decide), rfl, rfl⟩
  rw [G0]
  refine ⟨by rw [List.length_map]; omega, M6 d f, fun x hx μ' hsub => ⟨⟨trivial, trivial, trivial⟩, ?_⟩, ?_⟩
  · obtain ⟨k, hk, rfl⟩ := List.mem_map.mp hx
    obtain ⟨ok, bk, sk⟩ := ho.ok k hk
    exact ⟨d, k, f, rfl, s5, ok, ff.ok, bk.mono (by decide), ff.bd.mono (by decide), rfl, rfl⟩
  rw [GV]
  rw [yd]
  walk_at "rn"
  have c1 : (fJ (List.map dN ks) none (some 1)).length ≤ 3 := by unfold fJ; rw [List.length_take, List.length_drop, List.length_map]; omega
  have memb : ∀ x ∈ fJ [PyData.tuple (List.map dN (List.map (av d) ks)), PyData.tuple (List.map dN (List.map (fun k => times d k f) ks)), PyData.tuple (List.map dN ks ++ fJ (List.map dN ks) none (some 1))] none (some (2 + if decide (((List.map dN ks).length : Int) < 3) = true then 1 else 0)), ∃ ls, x = .tuple (ls.map dN) ∧ cg d ls ∧ bO d ls s = bO d ks s ∧ bO d ls (times d s f) = bO d ks s := fun x hx => by
    have h1 : ∃ ls, PyData.tuple (List.map dN (List.map (av d) ks)) = .tuple (ls.map dN) ∧ cg d ls ∧ bO d ls s = bO d ks s ∧ bO d ls (times d s f) = bO d ks s := by
      have kc := Fp hd ho
      have a1 : ∀ k ∈ ks, ∃ l ∈ ks.map (av d), Ray d k l := fun k hk => ⟨_, List.mem_map_of_mem hk, eX (ho.ok k hk).1 (aJ hd (ho.ok k hk).1 (ho.ok k hk).2.2)⟩
      have a2 : ∀ l ∈ ks.map (av d), ∃ k ∈ ks, Ray d k l := fun l hl => by
        obtain ⟨k, hk, rfl⟩ := List.mem_map.mp hl
        exact ⟨k, hk, eX (ho.ok k hk).1 (aJ hd (ho.ok k hk).1 (ho.ok k hk).2.2)⟩
      exact ⟨_, rfl, kc, gT hd hw kc os hs os hs km a1 a2, gT hd hw kc os hs ot ht rt a1 a2⟩
    have h2 : ∃ ls, PyData.tuple (List.map dN (List.map (fun k => times d k f) ks)) = .tuple (ls.map dN) ∧ cg d ls ∧ bO d ls s = bO d ks s ∧ bO d ls (times d s f) = bO d ks s := by
      have kc := Gd hd ho ff fa
      have a1 : ∀ k ∈ ks, ∃ l ∈ ks.map (fun k => times d k f), Ray d k l := fun k hk => ⟨_, List.mem_map_of_mem hk, rT (ho.ok k hk).1 ff.ok ff.b fa⟩
      have a2 : ∀ l ∈ ks.map (fun k => times d k f), ∃ k ∈ ks, Ray d k l := fun l hl => by
        obtain ⟨k, hk, rfl⟩ := List.mem_map.mp hl
        exact ⟨k, hk, rT (ho.ok k hk).1 ff.ok ff.b fa⟩
      exact ⟨_, rfl, kc, gT hd hw kc os hs os hs km a1 a2, gT hd hw kc os hs ot ht rt a1 a2⟩
    by_cases h3 : ks.length < 3
    · have hx' := Jp hx
      simp only [List.mem_cons, List.not_mem_nil, or_false] at hx'
      rcases hx' with rfl | rfl | rfl
      · exact h1
      · exact h2
      · have kc := DQ ho h3
        have a1 : ∀ k ∈ ks, ∃ l ∈ ks ++ fJ ks none (some 1), Ray d k l := fun k hk => ⟨k, List.mem_append_left _ hk, km⟩
        have a2 : ∀ l ∈ ks ++ fJ ks none (some 1), ∃ k ∈ ks, Ray d k l := fun l hl => ⟨l, (List.mem_append.mp hl).elim id wG, km⟩
        exact ⟨_, by rw [qL, ← List.map_append], kc, gT hd hw kc os hs os hs km a1 a2, gT hd hw kc os hs ot ht rt a1 a2⟩
    · rw [decide_eq_false (by rw [List.length_map]; omega)] at hx
      have hx' : x ∈ [PyData.tuple (List.map dN (List.map (av d) ks)), PyData.tuple (List.map dN (List.map (fun k => times d k f) ks))] := hx
      simp only [List.mem_cons, List.not_mem_nil, or_false] at hx'
      rcases hx' with rfl | rfl
      · exact h1
      · exact h2
  refine ⟨by rw [List.length_map]; omega, fun i ρ' μ' => ∃ r11, ρ' = [some (.v (.int d)), some (.v (.tuple (ks.map dN))), some (.v (dN s)), some (.v (dN o)), some (.v (dN f)), some (.v (sr d ks s)), some (.v (.bool (bO d ks s))), r7, r8, some (.v (.tuple (List.map dN (List.map (av d) ks)))), some (.v (.tuple (List.map dN (List.map (fun k => times d k f) ks)))), r11] ∧ μ' = μ, ⟨_, rfl, rfl⟩, ?_, ?_⟩
  · rintro i x ρ' μ' hx ⟨r11', rfl, rfl⟩
    obtain ⟨ls, rfl, kl, e1, e2⟩ := memb x (List.mem_of_getElem? hx)
    walk_at "rn"
    refine ⟨d, ls, s, rfl, hd, kl, os, bs.mono (by decide), hs, ?_⟩
    rw [e1]
    walk_at "rn"
    simp only [beq_self_eq_true, Bool.xor_true, Bool.not_true, Bool.false_eq_true, ↓reduceIte]
    refine ⟨d, s, f, rfl, s5, os, ff.ok, bs.mono (by decide), ff.bd.mono (by decide), d, ls, _, rfl, hd, kl, ot, bt.mono (by decide), ht, ?_⟩
    rw [e2]
    walk_at "rn"
    simp only [beq_self_eq_true, Bool.xor_true, Bool.not_true, Bool.false_eq_true, ↓reduceIte]
    exact ⟨_, rfl, trivial⟩
  · rintro ρ' μ' ⟨r11', rfl, rfl⟩
    walk_at "rn"
    cases el : bO d ks s with
    | true =>
      simp only [↓reduceIte]
      refine ⟨d, ks, o, rfl, hd, hw, oo, bo.mono (by decide), hoo, ?_⟩
      cases eo : bO d ks o with
      | true =>
        simp only [↓reduceIte]
        refine ⟨s, o, rfl, os, oo, bs.mono (by decide), bo.mono (by decide), d, ks, plus s o, rfl, hd, hw, aT os oo, (eO os oo bs bo).mono (by decide), vT hd os oo hs hoo, ?_⟩
        rw [FN hd hw os oo el eo]
        exact q
      | false =>
        simp only [Bool.false_eq_true, ↓reduceIte]
        exact q
    | false =>
      simp only [Bool.false_eq_true, ↓reduceIte]
      have hm : cT d ks = false := by unfold bO at el; cases h : cT d ks with | false => rfl | true => rw [h] at el; cases el
      have hx : dZ d (jl d ks) s = false := by unfold bO at el; rw [hm] at el; exact el
      have ew : sr d ks s = .tuple [.str "bar", AR d (jl d ks) s] := by unfold sr; rw [hm, hx]; rfl
      have hM := lU hd hw
      obtain ⟨oM, bM, sM⟩ := hw.ok _ hM
      obtain ⟨p, q1, r, t, eb, o4, hb⟩ := LP hd oM bM sM os (bs.mono (by decide)) hs hx
      refine ⟨by rw [List.length_map]; omega, fun _ => some (.bool true), fun x hx μ' hsub => ⟨⟨trivial, trivial, trivial, trivial⟩, ?_⟩, ?_⟩
      · obtain ⟨k, hk, rfl⟩ := List.mem_map.mp hx
        obtain ⟨ok, bk, sk⟩ := hw.ok k hk
        rw [ew]
        walk_at "rn"
        rw [eb]
        refine ⟨d, [k], s, p, q1, r, t, rfl, hd, ⟨Nat.le_refl 1, (by show 1 ≤ 3; decide), fun x hx => by rw [List.mem_singleton.mp hx]; exact ⟨ok, bk, sk⟩⟩, os, bs.mono (by decide), hs, o4, rfl, ?_⟩
        rw [hb [k] (fun x hx => by rw [List.mem_singleton.mp hx]; exact ⟨ok, sk, BN hd hw hm hk⟩)]
      · have e1 : ∀ xs : List PyData, dg (xs.filterMap fun _ => some (.bool true)) = some (xs.map fun _ => true) := fun xs => Di (fun _ => true)
        rw [e1]
        dsimp only
        rw [show List.all (List.map (fun _ => true) (List.map dN ks)) id = true from by simp]
        exact q
theorem JC {ks : List N3} {i : Nat} (l3 : ks.length ≤ 3) (h : i < ks.length) : fJ (fJ ks (some (i : Int)) none) none (some 1) = [ks.getD i ax] := by
  match ks, l3, h with
  | [a], _, h =>
    match i, h with
    | 0, _ => rfl
  | [a, b], _, h =>
    match i, h with
    | 0, _ => rfl
    | 1, _ => rfl
  | [a, b, c], _, h =>
    match i, h with
    | 0, _ => rfl
    | 1, _ => rfl
    | 2, _ => rfl
theorem ON {d : Int} {ks : List N3} {s o f : N3} {r7 r8 r9 r10 r11 : Option D} (h : GoH d ks s o f) (q : Qd (.v (.bool true)) μ) : fY { nx := fun _ μ' => Qd (.v .none) μ', rt := Qd } [some (.v (.int d)), some (.v (.tuple (ks.map dN))), some (.v (dN s)), some (.v (dN o)), some (.v (dN f)), some (.v (sr d ks s)), some (.v (.bool (bO d ks s))), r7, r8, r9, r10, r11] μ := by
  have hd := h.hd
  have hw := h.ho.wide
  have hM := lU hd hw
  obtain ⟨oM, bM, sM⟩ := hw.ok _ hM
  unfold fY
  walk_at "rn"
  refine ⟨d, ks, rfl, hd, hw, ?_⟩
  unfold wM
  cases hm : cT d ks with
  | true =>
    rw [if_pos rfl]
    have e : bO d ks s = true := by unfold bO; rw [hm]; rfl
    rw [Bm]
    have := Nn (r7 := r7) (r8 := some (.v .none)) (r9 := r9) (r10 := r10) (r11 := r11) h q
    rw [e] at this ⊢
    exact this
  | false =>
    rw [if_neg (by decide)]
    dsimp only
    rw [D1]
    have hlt := vD hd hw
    have ec : fJ (fJ (List.map dN ks) (some ((dE d ks (ks.length - 1) : Nat) : Int)) none) none (some 1) = [jl d ks].map dN := by
      rw [qL, qL]
      congr 1
      exact JC hw.l3 hlt
    have e : bO d ks s = dZ d (jl d ks) s := by unfold bO; rw [hm]; rfl
    simp only [Bool.false_eq_true, ↓reduceIte]
    rw [ec]
    refine ⟨d, [jl d ks], s, rfl, hd, ⟨Nat.le_refl 1, (by show 1 ≤ 3; decide), fun x hx => by rw [List.mem_singleton.mp hx]; exact ⟨oM, bM, sM⟩⟩, h.os, h.bs.mono (by decide), h.hs, ?_⟩
    rw [IV, ← e]
    walk_at "rn"
    simp only [beq_self_eq_true, Bool.xor_true, Bool.not_true, Bool.false_eq_true, ↓reduceIte]
    exact Nn h q
theorem um (h : mm ds μ Qd) : ij { nx := fun _ μ' => Qd (.v .none) μ', rt := Qd } (aO ["_law_d", "_law_kinds_here", "_law_shape_here", "_law_other", "_law_part", "_law_told", "_law_laid", "_law_some", "_law_place", "_law_turned_kinds", "_law_grown", "_law_more"] ds) μ := by
  obtain ⟨d, ks, s, o, f, rfl, hd, ho, os, bs, hs, oo, bo, hoo, ff, fa, q⟩ := h
  have s5 := iN hd.1 hd.2.1
  have hw := ho.wide
  have l1 := ho.l1
  have l3 := ho.l3
  unfold ij
  walk_at "rn"
  refine ⟨d, ks, s, rfl, hd, hw, os, bs.mono (by decide), hs, ?_⟩
  walk_at "rn"
  rw [HN]
  have hlw : eh false (.v (.str (if bO d ks s = true then "plan" else "bar"))) (.v (.str "plan")) μ = fun Q => Q (.v (.bool (bO d ks s))) μ := by
    funext Q
    cases bO d ks s
    · rw [if_neg (by decide), uc vP sX]; rfl
    · rw [if_pos rfl, uc sX sX]; rfl
  rw [hlw]
  refine ⟨⟨by omega, by rw [List.length_map]; omega⟩, by rw [Dm, List.length_map]; omega, fun p hp => ⟨fun i acc μ' => μ' = aV μ p acc ∧ ∀ y ∈ acc, ∃ b : Bool, y = .bool b ∧ (b = true → bO d ks s = true), ⟨rfl, fun y hy => nomatch hy⟩, ?_, ?_⟩⟩
  · rintro i x acc μ' hx hpa ⟨e1, e2⟩
    obtain ⟨rfl, hi⟩ := EA hx
    rw [List.length_map] at hi
    have hi' : i < ks.length := by omega
    refine ⟨⟨trivial, trivial, trivial, trivial⟩, ?_⟩
    by_cases h1 : 1 < ks.length
    · rw [if_pos (by rw [List.length_map]; simp; omega)]
      have hk := MK hw h1 hi'
      walk_at "rn"
      rw [qL, qL]
      have c1 : ∀ lo hi, (fJ ks lo hi).length ≤ 3 := fun lo hi => by unfold fJ; rw [List.length_take, List.length_drop]; omega
      refine ⟨by rw [List.length_map, List.length_map]; have := c1 none (some (0 + (i : Int))); have := c1 (some (0 + (i : Int) + 1)) none; omega, ?_⟩
      rw [← List.map_append]
      refine ⟨d, Gg ks (0 + (i : Int)), s, rfl, hd, hk, os, bs.mono (by decide), hs, hpa, ?_, ?_⟩
      · rw [e1, tF]
      · intro y hy
        rcases List.mem_append.mp hy with hy | hy
        · exact e2 y hy
        · exact ⟨_, List.mem_singleton.mp hy, fun z => Gw hd hw hk os hs (fun l hl => EM hl) z⟩
    · rw [if_neg (by rw [List.length_map]; simp; omega)]
      exact ⟨hpa, e1, e2⟩
  · rintro acc μ' ⟨e1, e2⟩ hpa
    have ed : ji μ' p = μ := by rw [e1]; exact yi hp
    rw [ed]
    refine ⟨d, ks, s, rfl, hd, hw, os, bs.mono (by decide), hs, ?_⟩
    walk_at "rn"
    simp only [beq_self_eq_true, Bool.xor_true, Bool.not_true, Bool.false_eq_true, ↓reduceIte]
    refine ⟨yh fun y hy => (e2 y hy).imp fun b h => h.1, rfl, by decide, ?_⟩
    have fin := ON (r7 := some (.v (.list acc))) (r8 := none) (r9 := none) (r10 := none) (r11 := none) (μ := μ) ⟨hd, ho, os, bs, hs, oo, bo, hoo, ff, fa⟩ q
    cases ea : acc.any fun b => b.eqv (PyData.bool true) with
    | false =>
      simp only [Bool.false_eq_true, ↓reduceIte]
      exact fin
    | true =>
      obtain ⟨y, hy, e3⟩ := List.any_eq_true.mp ea
      obtain ⟨b, rfl, hb⟩ := e2 y hy
      have hb' : b = true := by cases b; cases e3; rfl
      rw [hb hb'] at fin ⊢
      simp only [↓reduceIte, Bool.not_true, Bool.false_eq_true]
      exact fin
end
open PySem PySem.Spec PyProof.Rows NM
def CC : DTS :=
  (aM (Al (vH (ab (dCB (Cp max) (ab (dC (.int 2)) (ab (dCB (Cp min) (ab (dC (.int 5)) (ab (dCB fK (ab (ae 0) ar)) ar))) ar))) ar)) (aw 1) (aM (bA (aq ED (ab (ae 0) (ab (ae 1) ar))) (aw 2))
  (aM (bA (aq vi (ab (ae 2) ar)) (aw 3))
  (aM (bA (aq rh (ab (ae 2) (ab (ae 3) ar))) (aw 4))
  (aM (yZ 5 6 (ab (aq nN (ab (ae 2) (ab (ae 3) (ab (ae 4) ar)))) (ab (aq nN (ab (ae 2) (ab (ae 3) (ab (ae 4) ar)))) ar)))
  (aM (bA (aq pf (ab (ae 2) ar)) (aw 7))
  (aM (Al (zZ (pE (ab (ae 5) (ab (aq bW (ab (ae 3) (ab (ae 5) ar))) (ab (aq aU (ab (ae 3) (ab (ae 5) (ab (ae 7) ar)))) ar))))) (aw 8) (dy (qB (dB (dOp (eh true) (aq g9 (ab (ae 3) (ab (ae 4) (ab (ae 8) ar)))) (aq g9 (ab (ae 3) (ab (ae 4) (ab (ae 5) ar)))))) (hU (dB (aq mm (ab (ae 3) (ab (ae 4) (ab (ae 8) (ab (ae 6) (ab (ae 7) ar))))))))) (bF (dC (.bool false))) cb))
  (dy (hU (dB (dCB sj (ab (pX [none, some 3, some 4] (nU (ae 4)) (aw 0) pK (vK (aq g9 (ab (ae 1) (ab (ae 2) (ab (ae 0) ar)))) (aq g9 (ab (ae 1) (ab (ae 2) (ab (aq bW (ab (ae 1) (ab (ae 0) ar))) ar)))))) ar)))) (bF (dC (.bool false))) cb))))))))
  (bF (dC (.bool true))))
section
variable {μ : Mu} {Qd : DK} {ds : List D}
theorem MG (h : wO ds μ Qd) : CC { nx := fun _ μ' => Qd (.v .none) μ', rt := Qd } (aO ["_law_script", "_law_k", "_law_bag_here", "_law_d", "_law_kinds_here", "_law_shape_here", "_law_other", "_law_part", "_law_one"] ds) μ := by
  obtain ⟨ns, rfl, h63, q⟩ := h
  unfold CC
  rw [Jc, yd]
  walk_at "rn"
  have hm : (-(2 ^ 62) ≤ max 2 (min 5 ((ns.length : Nat) : Int)) ∧ max 2 (min 5 ((ns.length : Nat) : Int)) < 2 ^ 62) := by omega
  refine ⟨hm, fun i ρ μ' => ∃ r1 r2 r3 r4 r5 r6 r7 r8, ρ = [some (.s ns), r1, r2, r3, r4, r5, r6, r7, r8], ⟨_, _, _, _, _, _, _, _, rfl⟩, ?_, ?_⟩
  · rintro i x ρ μ0 hx ⟨r1, r2, r3, r4, r5, r6, r7, r8, rfl⟩
    obtain ⟨rfl, hi⟩ := EA hx
    walk_at "rn"
    refine ⟨ns, _, rfl, by omega, by omega, fun a μ1 ha s1 => ?_⟩
    walk_at "rn"
    refine ⟨a, rfl, s1.1, fun d μ2 hd s2 => ?_⟩
    walk_at "rn"
    refine ⟨a, d, rfl, hd, s2.1, fun ks μ3 ho s3 => ?_⟩
    walk_at "rn"
    refine ⟨a, d, ks, rfl, hd, ho, s3.1, fun s μ4 os bs hs s4 => ?_⟩
    walk_at "rn"
    refine ⟨a, d, ks, rfl, hd, ho, s4.1, fun o μ5 oo bo hoo s5' => ?_⟩
    walk_at "rn"
    refine ⟨a, rfl, s5'.1, fun f μ6 ff fa s6 => ?_⟩
    walk_at "rn"
    have s5 := iN hd.1 hd.2.1
    have hw := ho.wide
    have l3 := ho.l3
    have ns' := aJ hd os hs
    have oc := az ns'
    have bc := bJ s5 ns' bs
    have hc := dY hd os hs
    have ot := ai (d := d) os ff.ok
    have bt := aK s5 os ff.ok bs ff.bd
    have ht : sg d (times d s f).a (times d s f).b = 1 := by rw [bH hd os ff.ok, hs, rA fa ff.b]; rfl
    have same : ∀ k ∈ ks, ∃ l ∈ ks, Ray d k l := fun k hk => ⟨k, hk, km⟩
    have same2 : ∀ l ∈ ks, ∃ k ∈ ks, Ray d k l := fun k hk => ⟨k, hk, km⟩
    rw [yd]
    walk_at "rn"
    refine ⟨d, s, rfl, s5, ns', bs.mono (by decide), d, s, f, rfl, s5, os, ff.ok, bs.mono (by decide), ff.bd.mono (by decide), ?_⟩
    have memb : ∀ x ∈ [dN s, dN (av d s), dN (times d s f)], ∃ t, x = dN t ∧ Ok t ∧ Bd 466 t ∧ sg d t.a t.b = 1 ∧ bO d ks t = bO d ks s := fun x hx => by
      simp only [List.mem_cons, List.not_mem_nil, or_false] at hx
      rcases hx with rfl | rfl | rfl
      · exact ⟨s, rfl, os, bs.mono (by decide), hs, rfl⟩
      · exact ⟨_, rfl, oc, bc, hc, gT hd hw hw os hs oc hc (eX os ns') same same2⟩
      · exact ⟨_, rfl, ot, bt.mono (by decide), ht, gT hd hw hw os hs ot ht (rT os ff.ok ff.b fa) same same2⟩
    refine ⟨fun i' ρ μ' => ∃ r1 r8, ρ = [some (.s ns), r1, some (.m a), some (.v (.int d)), some (.v (.tuple (ks.map dN))), some (.v (dN s)), some (.v (dN o)), some (.v (dN f)), r8] ∧ μ' = μ6, ⟨_, _, rfl, rfl⟩, ?_, ?_⟩
    · rintro j u ρ μ7 hu ⟨r1, r8, rfl, rfl⟩
      obtain ⟨t, rfl, ot', bt', ht', et⟩ := memb u (List.mem_of_getElem? hu)
      walk_at "rn"
      refine ⟨d, ks, t, rfl, hd, hw, ot', bt'.mono (by decide), ht', d, ks, s, rfl, hd, hw, os, bs.mono (by decide), hs, ?_⟩
      rw [et]
      walk_at "rn"
      simp only [beq_self_eq_true, Bool.xor_true, Bool.not_true, Bool.false_eq_true, ↓reduceIte]
      refine ⟨d, ks, t, o, f, rfl, hd, ho, ot', bt', ht', oo, bo, hoo, ff, fa, ?_⟩
      walk_at "rn"
      exact ⟨_, _, rfl, trivial⟩
    · rintro ρ μ7 ⟨r1, r8, rfl, rfl⟩
      walk_at "rn"
      refine ⟨by rw [List.length_map]; omega, fun _ => some (.bool true), fun x hx μ' hsub => ⟨⟨trivial, trivial, trivial⟩, ?_⟩, ?_⟩
      · obtain ⟨k, hk, rfl⟩ := List.mem_map.mp hx
        obtain ⟨ok, bk, sk⟩ := ho.ok k hk
        have nk := aJ hd ok sk
        refine ⟨d, ks, k, rfl, hd, hw, ok, bk.mono (by decide), sk, ?_⟩
        rw [yn hd hw hk]
        simp only [↓reduceIte]
        have okc := az nk
        have skc := dY hd ok sk
        refine ⟨d, k, rfl, s5, nk, bk.mono (by decide), d, ks, _, rfl, hd, hw, okc, (bJ s5 nk bk).mono (by decide), skc, ?_⟩
        rw [gT hd hw hw ok sk okc skc (eX ok nk) same same2, yn hd hw hk]
        exact ⟨rfl, rfl⟩
      · have e1 : ∀ xs : List PyData, dg (xs.filterMap fun _ => some (.bool true)) = some (xs.map fun _ => true) := fun xs => Di (fun _ => true)
        rw [e1]
        dsimp only
        rw [show List.all (List.map (fun _ => true) (List.map dN ks)) id = true from by simp]
        simp only [Bool.not_true, Bool.false_eq_true, ↓reduceIte]
        exact ⟨_, _, _, _, _, _, _, _, rfl⟩
  · rintro ρ μ0 ⟨r1, r2, r3, r4, r5, r6, r7, r8, rfl⟩
    exact q _
end
end L2.DL
set_option Elab.async false
set_option linter.all false
set_option maxRecDepth 100000
set_option maxHeartbeats 4000000
namespace K43
open PySem L2 L2.DL
structure Adr where
  mM : Addr
  qC : FuncData
  fj : Addr
  iC : FuncData
  kJ : Addr
  nJ : FuncData
  fh : Addr
  iu : FuncData
  sI : Addr
  vt : FuncData
  zL : Addr
  Cm : FuncData
  yC : Addr
  CG : FuncData
  zS : Addr
  Ct : FuncData
  vk : Addr
  yT : FuncData
  zI : Addr
  Dl : FuncData
  mv : Addr
  qw : FuncData
  oO : Addr
  sQ : FuncData
  fP : Addr
  iV : FuncData
  nc : Addr
  p5 : FuncData
  eG : Addr
  g8 : FuncData
  cU : Addr
  d4 : FuncData
  mi : Addr
  qF : FuncData
  fW : Addr
  iZ : FuncData
  fR : Addr
  i7 : FuncData
  jw : Addr
  mx : FuncData
  kA : Addr
  nG : FuncData
  mn : Addr
  qI : FuncData
  o8 : Addr
  ur : FuncData
  zM : Addr
  Df : FuncData
  eD : Addr
  gN : FuncData
  fm : Addr
  ie : FuncData
  jy : Addr
  me : FuncData
  kC : Addr
  oA : FuncData
  oX : Addr
  ua : FuncData
  jE : Addr
  ml : FuncData
  jB : Addr
  mD : FuncData
  jG : Addr
  mz : FuncData
  gP : Addr
  jQ : FuncData
  dH : Addr
  fD : FuncData
  d6 : Addr
  fX : FuncData
  js : Addr
  mV : FuncData
  pe : Addr
  tD : FuncData
  iM : Addr
  k5 : FuncData
  se : Addr
  vO : FuncData
  mw : Addr
  qJ : FuncData
  kv : Addr
  oj : FuncData
  iH : Addr
  kS : FuncData
  my : Addr
  qk : FuncData
  kF : Addr
  nM : FuncData
  jI : Addr
  mX : FuncData
  jK : Addr
  mR : FuncData
  fQ : Addr
  i6 : FuncData
  kr : Addr
  nI : FuncData
  kx : Addr
  nD : FuncData
  iI : Addr
  kR : FuncData
  jA : Addr
  mL : FuncData
  ju : Addr
  mj : FuncData
  jD : Addr
  ma : FuncData
  fV : Addr
  jg : FuncData
  fS : Addr
  jc : FuncData
  Ep : Addr
  GB : FuncData
  xT : Tok
  Gf : Addr
  LS : Addr
structure Txt (K : PySem.W.Frag) (mg : Str → Option Value) (t : Adr) : Prop where
  Dk : Fun K "is_whole" "is_whole" iF t.mM t.qC
  qh : mg "is_whole" = some (.ref t.mM)
  qu : PySem.W.keepIn K (.ref t.mM) = true
  qv : Binds K t.qC ["thing"] []
  tX : Fun K "common_divisor" "common_divisor" cV t.fj t.iC
  ly : mg "common_divisor" = some (.ref t.fj)
  lW : PySem.W.keepIn K (.ref t.fj) = true
  lF : Binds K t.iC ["a", "b"] []
  AG : Fun K "is_number" "is_number" gv t.kJ t.nJ
  uB : mg "is_number" = some (.ref t.kJ)
  uJ : PySem.W.keepIn K (.ref t.kJ) = true
  uL : Binds K t.nJ ["thing"] []
  tP : Fun K "divisor_of_all" "divisor_of_all" cW t.fh t.iu
  lI : mg "divisor_of_all" = some (.ref t.fh)
  lB : PySem.W.keepIn K (.ref t.fh) = true
  lu : Binds K t.iu ["a", "b", "c"] []
  GK : Fun K "number" "number" lD t.sI t.vt
  nX : mg "number" = some (.ref t.sI)
  n8 : PySem.W.keepIn K (.ref t.sI) = true
  oJ : Binds K t.vt ["a", "b", "c"] []
  LU : Fun K "mate" "mate" sZ t.zL t.Cm
  gQ : mg "mate" = some (.ref t.zL)
  g0 : PySem.W.keepIn K (.ref t.zL) = true
  gS : Binds K t.Cm ["x"] []
  MT : Fun K "plus" "plus" tw t.yC t.CG
  tK : mg "plus" = some (.ref t.yC)
  sU : PySem.W.keepIn K (.ref t.yC) = true
  tI : Binds K t.CG ["x", "y"] []
  Mw : Fun K "less" "less" tQ t.zS t.Ct
  HX : mg "less" = some (.ref t.zS)
  Hb : PySem.W.keepIn K (.ref t.zS) = true
  I0 : Binds K t.Ct ["x", "y"] []
  Jz : Fun K "times" "times" o9 t.vk t.yT
  cF : mg "times" = some (.ref t.vk)
  cD : PySem.W.keepIn K (.ref t.vk) = true
  cB : Binds K t.yT ["d", "x", "y"] []
  ME : Fun K "over" "over" tN t.zI t.Dl
  qG : mg "over" = some (.ref t.zI)
  p6 : PySem.W.keepIn K (.ref t.zI) = true
  qy : Binds K t.Dl ["d", "x", "y"] []
  Dc : Fun K "contrary" "contrary" iE t.mv t.qw
  hV : mg "contrary" = some (.ref t.mv)
  ic : PySem.W.keepIn K (.ref t.mv) = true
  ik : Binds K t.qw ["d", "x"] []
  E1 : Fun K "sign_of" "sign_of" jO t.oO t.sQ
  fc : mg "sign_of" = some (.ref t.oO)
  fg : PySem.W.keepIn K (.ref t.oO) = true
  fw : Binds K t.sQ ["d", "x"] []
  uZ : Fun K "sign_of_parts" "sign_of_parts" dq t.fP t.iV
  ni : mg "sign_of_parts" = some (.ref t.fP)
  nq : PySem.W.keepIn K (.ref t.fP) = true
  nh : Binds K t.iV ["d", "a", "b"] []
  CU : Fun K "is_above" "is_above" ix t.nc t.p5
  C7 : mg "is_above" = some (.ref t.nc)
  DN : PySem.W.keepIn K (.ref t.nc) = true
  Cv : Binds K t.p5 ["d", "x", "y"] []
  sf : Fun K "is_above_nought" "is_above_nought" cP t.eG t.g8
  gR : mg "is_above_nought" = some (.ref t.eG)
  gW : PySem.W.keepIn K (.ref t.eG) = true
  gJ : Binds K t.g8 ["d", "thing"] []
  mQ : Fun K "must_be_above_nought" "must_be_above_nought" bQ t.cU t.d4
  cA : mg "must_be_above_nought" = some (.ref t.cU)
  cE : PySem.W.keepIn K (.ref t.cU) = true
  cG : Binds K t.d4 ["d", "thing"] []
  DR : Fun K "is_kinds" "is_kinds" ig t.mi t.qF
  C2 : mg "is_kinds" = some (.ref t.mi)
  CW : PySem.W.keepIn K (.ref t.mi) = true
  Dn : Binds K t.qF ["d", "thing"] []
  vd : Fun K "must_be_kinds" "must_be_kinds" dm t.fW t.iZ
  jf : mg "must_be_kinds" = some (.ref t.fW)
  iY : PySem.W.keepIn K (.ref t.fW) = true
  iW : Binds K t.iZ ["d", "thing"] []
  u5 : Fun K "lean_fraction" "lean_fraction" dj t.fR t.i7
  ng : mg "lean_fraction" = some (.ref t.fR)
  nj : PySem.W.keepIn K (.ref t.fR) = true
  nt : Binds K t.i7 ["d", "shape"] []
  Ai : Fun K "mixture_of" "mixture_of" eU t.jw t.mx
  Ab : mg "mixture_of" = some (.ref t.jw)
  zo : PySem.W.keepIn K (.ref t.jw) = true
  As : Binds K t.mx ["d", "kind", "shape"] []
  AU : Fun K "shares_of" "shares_of" gC t.kA t.nG
  uz : mg "shares_of" = some (.ref t.kA)
  uN : PySem.W.keepIn K (.ref t.kA) = true
  uS : Binds K t.nG ["d", "first", "second", "shape"] []
  Dp : Fun K "is_share" "is_share" iq t.mn t.qI
  Dy : mg "is_share" = some (.ref t.mn)
  CJ : PySem.W.keepIn K (.ref t.mn) = true
  CB : Binds K t.qI ["d", "x"] []
  FU : Fun K "bar_for" "bar_for" jN t.o8 t.ur
  Ge : mg "bar_for" = some (.ref t.o8)
  E6 : PySem.W.keepIn K (.ref t.o8) = true
  Fm : Binds K t.ur ["d", "kind", "shape"] []
  Mk : Fun K "skew" "skew" tS t.zM t.Df
  HC : mg "skew" = some (.ref t.zM)
  Gk : PySem.W.keepIn K (.ref t.zM) = true
  Hk : Binds K t.Df ["shape", "way"] []
  qP : Fun K "plan_of_mixture" "plan_of_mixture" cQ t.eD t.gN
  qY : mg "plan_of_mixture" = some (.ref t.eD)
  sA : PySem.W.keepIn K (.ref t.eD) = true
  rH : Binds K t.gN ["u", "v", "place"] []
  uw : Fun K "plan_of_shares" "plan_of_shares" cX t.fm t.ie
  lN : mg "plan_of_shares" = some (.ref t.fm)
  lQ : PySem.W.keepIn K (.ref t.fm) = true
  lz : Binds K t.ie ["u", "first", "v", "second"] []
  yz : Fun K "share_plan" "share_plan" fA t.jy t.me
  jH : mg "share_plan" = some (.ref t.jy)
  jF : PySem.W.keepIn K (.ref t.jy) = true
  jt : Binds K t.me ["share", "plan"] []
  AH : Fun K "wish_told" "wish_told" gu t.kC t.oA
  uR : mg "wish_told" = some (.ref t.kC)
  uP : PySem.W.keepIn K (.ref t.kC) = true
  uT : Binds K t.oA ["d", "kinds", "shape"] []
  FV : Fun K "is_laid" "is_laid" jP t.oX t.ua
  dS : mg "is_laid" = some (.ref t.oX)
  dR : PySem.W.keepIn K (.ref t.oX) = true
  dU : Binds K t.ua ["d", "kinds", "shape"] []
  y8 : Fun K "leans_most" "leans_most" eY t.jE t.ml
  rB : mg "leans_most" = some (.ref t.jE)
  qU : PySem.W.keepIn K (.ref t.jE) = true
  sL : Binds K t.ml ["d", "kinds"] []
  Au : Fun K "mate_signs" "mate_signs" eZ t.jB t.mD
  rM : mg "mate_signs" = some (.ref t.jB)
  rz : PySem.W.keepIn K (.ref t.jB) = true
  sH : Binds K t.mD ["d", "kinds"] []
  zu : Fun K "leans_more" "leans_more" fi t.jG t.mz
  yA : mg "leans_more" = some (.ref t.jG)
  yG : PySem.W.keepIn K (.ref t.jG) = true
  zG : Binds K t.mz ["d", "kind", "other"] []
  wQ : Fun K "plan_by_both" "plan_by_both" dQ t.gP t.jQ
  wo : mg "plan_by_both" = some (.ref t.gP)
  wm : PySem.W.keepIn K (.ref t.gP) = true
  wj : Binds K t.jQ ["d", "kinds", "shape"] []
  pH : Fun K "with_greater_mate" "with_greater_mate" cH t.dH t.fD
  jn : mg "with_greater_mate" = some (.ref t.dH)
  jj : PySem.W.keepIn K (.ref t.dH) = true
  jm : Binds K t.fD ["d", "kinds", "place"] []
  ql : Fun K "has_greater_mate" "has_greater_mate" cL t.d6 t.fX
  jX : mg "has_greater_mate" = some (.ref t.d6)
  j4 : PySem.W.keepIn K (.ref t.d6) = true
  jW : Binds K t.fX ["shape"] []
  yI : Fun K "is_weights" "is_weights" fe t.js t.mV
  zY : mg "is_weights" = some (.ref t.js)
  zE : PySem.W.keepIn K (.ref t.js) = true
  Ap : Binds K t.mV ["thing"] []
  Fv : Fun K "weighed" "weighed" jM t.pe t.tD
  Fn : mg "weighed" = some (.ref t.pe)
  Fx : PySem.W.keepIn K (.ref t.pe) = true
  E7 : Binds K t.tD ["d", "weights", "width", "height"] []
  xS : Fun K "never_below" "never_below" ez t.iM t.k5
  pP : mg "never_below" = some (.ref t.iM)
  pZ : PySem.W.keepIn K (.ref t.iM) = true
  pY : Binds K t.k5 ["d", "weights", "kind"] []
  Io : Fun K "is_bar" "is_bar" lS t.se t.vO
  GH : mg "is_bar" = some (.ref t.se)
  IJ : PySem.W.keepIn K (.ref t.se) = true
  GY : Binds K t.vO ["d", "kinds", "shape", "thing"] []
  DH : Fun K "_law_bag" "_law_bag" ip t.mw t.qJ
  Cn : mg "_law_bag" = some (.ref t.mw)
  CP : PySem.W.keepIn K (.ref t.mw) = true
  Cf : Binds K t.qJ ["_law_script", "_law_at"] []
  AJ : Fun K "_law_take" "_law_take" gn t.kv t.oj
  bC : mg "_law_take" = some (.ref t.kv)
  bE : PySem.W.keepIn K (.ref t.kv) = true
  bD : Binds K t.oj ["_law_bag_here", "_law_many"] []
  xJ : Fun K "_law_shared" "_law_shared" eB t.iH t.kS
  pI : mg "_law_shared" = some (.ref t.iH)
  pU : PySem.W.keepIn K (.ref t.iH) = true
  pJ : Binds K t.kS ["_law_one", "_law_other"] []
  C5 : Fun K "_law_low" "_law_low" il t.my t.qk
  iy : mg "_law_low" = some (.ref t.my)
  iz : PySem.W.keepIn K (.ref t.my) = true
  iA : Binds K t.qk ["_law_a", "_law_b", "_law_c"] []
  Bx : Fun K "_law_plus" "_law_plus" gB t.kF t.nM
  iO : mg "_law_plus" = some (.ref t.kF)
  iQ : PySem.W.keepIn K (.ref t.kF) = true
  iU : Binds K t.nM ["_law_x", "_law_y"] []
  yP : Fun K "_law_minus" "_law_minus" eW t.jI t.mX
  zT : mg "_law_minus" = some (.ref t.jI)
  zC : PySem.W.keepIn K (.ref t.jI) = true
  zF : Binds K t.mX ["_law_x"] []
  Aw : Fun K "_law_times" "_law_times" eS t.jK t.mR
  bT : mg "_law_times" = some (.ref t.jK)
  bR : PySem.W.keepIn K (.ref t.jK) = true
  bS : Binds K t.mR ["_law_d", "_law_x", "_law_y"] []
  uX : Fun K "_law_contrary" "_law_contrary" di t.fQ t.i6
  ej : mg "_law_contrary" = some (.ref t.fQ)
  d9 : PySem.W.keepIn K (.ref t.fQ) = true
  eu : Binds K t.i6 ["_law_d", "_law_x"] []
  A1 : Fun K "_law_sign" "_law_sign" gA t.kr t.nI
  AW : mg "_law_sign" = some (.ref t.kr)
  A8 : PySem.W.keepIn K (.ref t.kr) = true
  Bv : Binds K t.nI ["_law_d", "_law_x"] []
  BZ : Fun K "_law_root" "_law_root" gz t.kx t.nD
  AV : mg "_law_root" = some (.ref t.kx)
  Bt : PySem.W.keepIn K (.ref t.kx) = true
  AY : Binds K t.nD ["_law_bag_here"] []
  xn : Fun K "_law_number" "_law_number" eA t.iI t.kR
  xh : mg "_law_number" = some (.ref t.iI)
  x8 : PySem.W.keepIn K (.ref t.iI) = true
  xc : Binds K t.kR ["_law_bag_here"] []
  y9 : Fun K "_law_above" "_law_above" fk t.jA t.mL
  jJ : mg "_law_above" = some (.ref t.jA)
  jv : PySem.W.keepIn K (.ref t.jA) = true
  jz : Binds K t.mL ["_law_bag_here", "_law_d"] []
  Ar : Fun K "_law_kinds" "_law_kinds" fx t.ju t.mj
  zh : mg "_law_kinds" = some (.ref t.ju)
  zk : PySem.W.keepIn K (.ref t.ju) = true
  Aj : Binds K t.mj ["_law_bag_here", "_law_d"] []
  yB : Fun K "_law_shape" "_law_shape" fo t.jD t.ma
  qX : mg "_law_shape" = some (.ref t.jD)
  rj : PySem.W.keepIn K (.ref t.jD) = true
  sG : Binds K t.ma ["_law_bag_here", "_law_d", "_law_kinds_here"] []
  va : Fun K "_law_fraction" "_law_fraction" dr t.fV t.jg
  iX : mg "_law_fraction" = some (.ref t.fV)
  i4 : PySem.W.keepIn K (.ref t.fV) = true
  i9 : Binds K t.jg ["_law_bag_here"] []
  uV : Fun K "_law_go_along" "_law_go_along" dn t.fS t.jc
  u6 : mg "_law_go_along" = some (.ref t.fS)
  u4 : PySem.W.keepIn K (.ref t.fS) = true
  uY : Binds K t.jc ["_law_d", "_law_kinds_here", "_law_shape_here", "_law_other", "_law_part"] []
  NH : Fun K "law" "law" p4 t.Ep t.GB
  O5 : mg "law" = some (.ref t.Ep)
  O7 : PySem.W.keepIn K (.ref t.Ep) = true
  O6 : Binds K t.GB ["_law_script"] []
  eQ : mg "isinstance" = none
  w4 : mg "int" = none
  Me : mg "bool" = none
  wV : mg "abs" = none
  md : mg "tuple" = none
  lP : mg "len" = none
  BF : mg "all" = none
  qO : mg "range" = none
  Of : mg "max" = none
  NV : mg "min" = none
  zl : mg "MOST_KINDS" = some (.int 3 t.xT)
  ko : L9 K mg "NOUGHT" t.Gf 0 0 1
  Iy : L9 K mg "ONE" t.LS 1 0 1
structure EQ where
  P : Program
  w : World
  K : PySem.W.Frag
  mg : Str → Option Value
  base : Heap
  t : Adr
abbrev TX (e : EQ) : Prop := Txt e.K e.mg e.t
abbrev uG (e : EQ) : Prop := bU e.P e.w e.K e.mg e.base CX0 1 e.t.mM e.t.qC ["thing"] (spD e.K oW)
abbrev kz (e : EQ) : Prop := bU e.P e.w e.K e.mg e.base CX0 1 e.t.fj e.t.iC ["a", "b"] (spD e.K sD)
abbrev mO (e : EQ) : Prop := bU e.P e.w e.K e.mg e.base CX0 3 e.t.kJ e.t.nJ ["thing"] (spD e.K v7)
abbrev gI (e : EQ) : Prop := bU e.P e.w e.K e.mg e.base CX0 2 e.t.fh e.t.iu ["a", "b", "c"] (spD e.K wR)
abbrev jL (e : EQ) : Prop := bU e.P e.w e.K e.mg e.base CX0 3 e.t.sI e.t.vt ["a", "b", "c"] (spD e.K cS)
abbrev mh (e : EQ) : Prop := bU e.P e.w e.K e.mg e.base CX0 1 e.t.zL e.t.Cm ["x"] (spD e.K eN)
abbrev sE (e : EQ) : Prop := bU e.P e.w e.K e.mg e.base CX0 4 e.t.yC e.t.CG ["x", "y"] (spD e.K fF)
abbrev yX (e : EQ) : Prop := bU e.P e.w e.K e.mg e.base CX0 4 e.t.zS e.t.Ct ["x", "y"] (spD e.K vJ)
abbrev gZ (e : EQ) : Prop := bU e.P e.w e.K e.mg e.base CX0 4 e.t.vk e.t.yT ["d", "x", "y"] (spD e.K aU)
abbrev rD (e : EQ) : Prop := bU e.P e.w e.K e.mg e.base CX0 5 e.t.zI e.t.Dl ["d", "x", "y"] (spD e.K kO)
abbrev gy (e : EQ) : Prop := bU e.P e.w e.K e.mg e.base CX0 4 e.t.mv e.t.qw ["d", "x"] (spD e.K bW)
abbrev gk (e : EQ) : Prop := bU e.P e.w e.K e.mg e.base CX0 2 e.t.oO e.t.sQ ["d", "x"] (spD e.K gb)
abbrev hZ (e : EQ) : Prop := bU e.P e.w e.K e.mg e.base CX0 1 e.t.fP e.t.iV ["d", "a", "b"] (spD e.K rq)
abbrev uK (e : EQ) : Prop := bU e.P e.w e.K e.mg e.base CX0 2 e.t.nc e.t.p5 ["d", "x", "y"] (spD e.K vh)
abbrev d5 (e : EQ) : Prop := bU e.P e.w e.K e.mg e.base CX0 4 e.t.eG e.t.g8 ["d", "thing"] (spD e.K lO)
abbrev cp (e : EQ) : Prop := bU e.P e.w e.K e.mg e.base CX0 5 e.t.cU e.t.d4 ["d", "thing"] (spD e.K dX)
abbrev uH (e : EQ) : Prop := bU e.P e.w e.K e.mg e.base CX0 5 e.t.mi e.t.qF ["d", "thing"] (spD e.K qW)
abbrev eT (e : EQ) : Prop := bU e.P e.w e.K e.mg e.base CX0 6 e.t.fW e.t.iZ ["d", "thing"] (spD e.K gq)
abbrev l4 (e : EQ) : Prop := bU e.P e.w e.K e.mg e.base CX0 6 e.t.fR e.t.i7 ["d", "shape"] (spD e.K rN)
abbrev pN (e : EQ) : Prop := bU e.P e.w e.K e.mg e.base CX0 7 e.t.jw e.t.mx ["d", "kind", "shape"] (spD e.K oZ)
abbrev mB (e : EQ) : Prop := bU e.P e.w e.K e.mg e.base CX0 6 e.t.kA e.t.nG ["d", "first", "second", "shape"] (spD e.K nK)
abbrev uD (e : EQ) : Prop := bU e.P e.w e.K e.mg e.base CX0 3 e.t.mn e.t.qI ["d", "x"] (spD e.K pd)
abbrev vR (e : EQ) : Prop := bU e.P e.w e.K e.mg e.base CX0 6 e.t.o8 e.t.ur ["d", "kind", "shape"] (spD e.K rg)
abbrev EB (e : EQ) : Prop := bU e.P e.w e.K e.mg e.base CX0 5 e.t.zM e.t.Df ["shape", "way"] (spD e.K we)
abbrev jY (e : EQ) : Prop := bU e.P e.w e.K e.mg e.base CX0 3 e.t.eD e.t.gN ["u", "v", "place"] (spD e.K pA)
abbrev gG (e : EQ) : Prop := bU e.P e.w e.K e.mg e.base CX0 2 e.t.fm e.t.ie ["u", "first", "v", "second"] (spD e.K n9)
abbrev pM (e : EQ) : Prop := bU e.P e.w e.K e.mg e.base CX0 1 e.t.jy e.t.me ["share", "plan"] (spD e.K kf)
abbrev l5 (e : EQ) : Prop := bU e.P e.w e.K e.mg e.base CX0 9 e.t.kC e.t.oA ["d", "kinds", "shape"] (spD e.K vW)
abbrev p7 (e : EQ) : Prop := bU e.P e.w e.K e.mg e.base CX0 10 e.t.oX e.t.ua ["d", "kinds", "shape"] (spD e.K g9)
abbrev kY (e : EQ) : Prop := bU e.P e.w e.K e.mg e.base CX0 8 e.t.jE e.t.ml ["d", "kinds"] (spD e.K wA)
abbrev kN (e : EQ) : Prop := bU e.P e.w e.K e.mg e.base CX0 3 e.t.jB e.t.mD ["d", "kinds"] (spD e.K sN)
abbrev pQ (e : EQ) : Prop := bU e.P e.w e.K e.mg e.base CX0 7 e.t.jG e.t.mz ["d", "kind", "other"] (spD e.K wJ)
abbrev nr (e : EQ) : Prop := bU e.P e.w e.K e.mg e.base CX0 7 e.t.gP e.t.jQ ["d", "kinds", "shape"] (spD e.K yY)
abbrev iP (e : EQ) : Prop := bU e.P e.w e.K e.mg e.base CX0 5 e.t.dH e.t.fD ["d", "kinds", "place"] (spD e.K lK)
abbrev fI (e : EQ) : Prop := bU e.P e.w e.K e.mg e.base CX0 1 e.t.d6 e.t.fX ["shape"] (spD e.K qM)
abbrev pL (e : EQ) : Prop := bU e.P e.w e.K e.mg e.base CX0 4 e.t.js e.t.mV ["thing"] (spD e.K mN)
abbrev vA (e : EQ) : Prop := bU e.P e.w e.K e.mg e.base CX0 5 e.t.pe e.t.tD ["d", "weights", "width", "height"] (spD e.K oT)
abbrev oF (e : EQ) : Prop := bU e.P e.w e.K e.mg e.base CX0 5 e.t.iM e.t.k5 ["d", "weights", "kind"] (spD e.K qR)
abbrev yb (e : EQ) : Prop := bU e.P e.w e.K e.mg e.base CX0 7 e.t.se e.t.vO ["d", "kinds", "shape", "thing"] (spD e.K zP)
abbrev uM (e : EQ) : Prop := bU e.P e.w e.K e.mg e.base CX0 1 e.t.mw e.t.qJ ["_law_script", "_law_at"] (spD e.K ED)
abbrev d7 (e : EQ) : Prop := bU e.P e.w e.K e.mg e.base CX0 1 e.t.kv e.t.oj ["_law_bag_here", "_law_many"] (spD e.K dh)
abbrev nL (e : EQ) : Prop := bU e.P e.w e.K e.mg e.base CX0 1 e.t.iH e.t.kS ["_law_one", "_law_other"] (spD e.K sD)
abbrev eJ (e : EQ) : Prop := bU e.P e.w e.K e.mg e.base CX0 2 e.t.my e.t.qk ["_law_a", "_law_b", "_law_c"] (spD e.K cS)
abbrev mY (e : EQ) : Prop := bU e.P e.w e.K e.mg e.base CX0 3 e.t.kF e.t.nM ["_law_x", "_law_y"] (spD e.K fF)
abbrev pV (e : EQ) : Prop := bU e.P e.w e.K e.mg e.base CX0 1 e.t.jI e.t.mX ["_law_x"] (spD e.K ve)
abbrev fM (e : EQ) : Prop := bU e.P e.w e.K e.mg e.base CX0 3 e.t.jK e.t.mR ["_law_d", "_law_x", "_law_y"] (spD e.K aU)
abbrev dW (e : EQ) : Prop := bU e.P e.w e.K e.mg e.base CX0 3 e.t.fQ e.t.i6 ["_law_d", "_law_x"] (spD e.K bW)
abbrev rF (e : EQ) : Prop := bU e.P e.w e.K e.mg e.base CX0 1 e.t.kr e.t.nI ["_law_d", "_law_x"] (spD e.K gb)
abbrev rV (e : EQ) : Prop := bU e.P e.w e.K e.mg e.base CX0 2 e.t.kx e.t.nD ["_law_bag_here"] (spD e.K vi)
abbrev nS (e : EQ) : Prop := bU e.P e.w e.K e.mg e.base CX0 3 e.t.iI e.t.kR ["_law_bag_here"] (spD e.K oV)
abbrev kQ (e : EQ) : Prop := bU e.P e.w e.K e.mg e.base CX0 4 e.t.jA e.t.mL ["_law_bag_here", "_law_d"] (spD e.K ke)
abbrev pO (e : EQ) : Prop := bU e.P e.w e.K e.mg e.base CX0 5 e.t.ju e.t.mj ["_law_bag_here", "_law_d"] (spD e.K rh)
abbrev pT (e : EQ) : Prop := bU e.P e.w e.K e.mg e.base CX0 5 e.t.jD e.t.ma ["_law_bag_here", "_law_d", "_law_kinds_here"] (spD e.K nN)
abbrev ia (e : EQ) : Prop := bU e.P e.w e.K e.mg e.base CX0 3 e.t.fV e.t.jg ["_law_bag_here"] (spD e.K pf)
abbrev lM (e : EQ) : Prop := bU e.P e.w e.K e.mg e.base CX0 11 e.t.fS e.t.jc ["_law_d", "_law_kinds_here", "_law_shape_here", "_law_other", "_law_part"] (spD e.K mm)
abbrev GQ (e : EQ) : Prop := bU e.P e.w e.K e.mg e.base CX0 12 e.t.Ep e.t.GB ["_law_script"] (spD e.K wO)
section
variable {e : EQ}
theorem Cc : aG ["thing"] ["thing"] (aC iF) := ⟨rfl, rfl, rfl, by decide +kernel, rfl, by decide +kernel, by decide +kernel⟩
theorem B5 (T : TX e)  : uG e := by
  have S := Cc
  exact T.Dk.okD S (fun ds μ Q h => BK h) (fun cdv A outer s H E hr => ⟨nP, (au (aD (vy (sS (Jq _) rfl T.eQ rfl T.w4 PyProof.Rows.Boot.«int» (dv 0)) (qm (Gp (sS (Hi _) rfl T.eQ rfl T.Me PyProof.Rows.Boot.«bool» (dv 0))))))), fun ds μ Qd h => BX h⟩)
theorem rf : aG ["a", "b"] ["a", "b"] (aC cV) := ⟨rfl, rfl, rfl, by decide +kernel, rfl, by decide +kernel, by decide +kernel⟩
theorem rL (T : TX e)  : kz e := by
  have S := rf
  exact T.tX.okD S (fun ds μ Q h => ym h) (fun cdv A outer s H E hr => ⟨hR, (aj (BB PassesOwn.never (aY (kd hr.units) cI (dv 1) ag (aN _)) (au (qr (i := 0) (j := 1) rfl S.nd rfl rfl (by decide) rfl rfl (aa (dv 1) (aa (kM (dv 0) (dv 1)) af)) rfl)))
    (au (aD (qo rfl T.wV (aa (dv 0) af))))), fun ds μ Qd h => qV h⟩)
theorem Kk : aG ["x"] ["x"] (aC sZ) := ⟨rfl, rfl, rfl, by decide +kernel, rfl, by decide +kernel, by decide +kernel⟩
theorem aB (T : TX e)  : mh e := by
  have S := Kk
  exact T.LU.okD S (fun ds μ Q h => C3 h) (fun cdv A outer s H E hr => ⟨Ak, (au (aD (bN (aa (aA (dv 0) ag (fun _ _ => rfl)) (aa (mW (aA (dv 0) ag (fun _ _ => rfl))) (aa (aA (dv 0) ag (fun _ _ => rfl)) af)))))), fun ds μ Qd h => JJ h⟩)
theorem tV : aG ["d", "a", "b", "prevailing"] ["d", "a", "b"] (aC dq) := ⟨rfl, rfl, rfl, by decide +kernel, rfl, by decide +kernel, by decide +kernel⟩
theorem sO (T : TX e)  : hZ e := by
  have S := tV
  exact T.uZ.okD S (fun ds μ Q h => BA h) (fun cdv A outer s H E hr => ⟨iw, (aj (cj (DW.dt (tT (aY (eL hr.units) cI (dv 1) ag (aN _)) (pC (aY (eL hr.units) cI (dv 2) ag (aN _))))) (au (aD ag)) bj)
    (aj (cj (DW.dt (tT (aY yf fG (dv 1) ag (aN _)) (pC (aY yf fG (dv 2) ag (aN _))))) (au (aD ag)) bj)
    (aj (cj (DW.dt (tT (aY KI fG (dv 1) ag (aN _)) (pC (aY KI fG (dv 2) ag (aN _))))) (au (aD (mW ag))) bj)
    (aj (aH (i := 3) S.nd rfl (Or.inl rfl) (uC (aY kG fG (aP (dv 1) (dv 1)) (aP (aP (dv 0) (dv 2)) (dv 2)) (aN _)) (dv 1) (dv 2)))
    (au (aD (uC (aY kG fG (dv 3) ag (aN _)) ag (mW ag)))))))), fun ds μ Qd h => sP h⟩)
theorem xf : aG ["share", "plan"] ["share", "plan"] (aC fA) := ⟨rfl, rfl, rfl, by decide +kernel, rfl, by decide +kernel, by decide +kernel⟩
theorem xp (T : TX e)  : pM e := by
  have S := xf
  exact T.yz.okD S (fun ds μ Q h => yE h) (fun cdv A outer s H E hr => ⟨k6, (aj (cj (aY (eL hr.units) cI (dv 0) (fL rfl T.Iy) (aN _)) (au (aD (dv 1))) bj)
    (au (aD (bN (aa gX (aa (aA (dv 0) ag (fun _ _ => rfl)) (aa (aA (dv 0) ag (fun _ _ => rfl)) (aa (dv 1) af)))))))), fun ds μ Qd h => xb h⟩)
theorem pF : aG ["shape"] ["shape"] (aC cL) := ⟨rfl, rfl, rfl, by decide +kernel, rfl, by decide +kernel, by decide +kernel⟩
theorem pD (T : TX e)  : fI e := by
  have S := pF
  exact T.ql.okD S (fun ds μ Q h => B7 h) (fun cdv A outer s H E hr => ⟨fB, (au (aD (eC nZ fG (aP (aA (dv 0) ag (fun _ _ => rfl)) (aA (dv 0) ag (fun _ _ => rfl))) ag (aN _)))), fun ds μ Qd h => pG h⟩)
theorem AZ : aG ["_law_script", "_law_at", "_law_cell", "_law_great", "_law_primes", "_law_mixed"] ["_law_script", "_law_at"] (aC ip) := ⟨rfl, rfl, rfl, by decide +kernel, rfl, by decide +kernel, by decide +kernel⟩
theorem AE (T : TX e)  : uM e := by
  have S := AZ
  exact T.DH.okD S (fun ds μ Q h => E3 h) (fun cdv A outer s H E hr => ⟨n6, (aj (aH (i := 2) S.nd rfl (Or.inl rfl) ag)
    (aj (cj (aY nZ fG (dv 1) (ir rfl T.lP (aa (dv 0) af)) (aN _)) (au (aH (i := 2) S.nd rfl (Or.inl rfl) (aA (dv 0) (dv 1) (fun _ _ => rfl)))) bj)
    (aj (aH (i := 3) S.nd rfl (Or.inl rfl) ag)
    (aj (cj (aY yf fG (qo rfl T.wV (aa (dv 2) af)) (Hy ag ag) (aN _)) (au (aH (i := 3) S.nd rfl (Or.inl rfl) (qo rfl T.wV (aa (dv 2) af)))) bj)
    (aj (aH (i := 4) S.nd rfl (Or.inl rfl) (gO (aa ag (aa ag (aa ag (aa ag (aa ag (aa ag (aa ag (aa ag af))))))))))
    (aj (aH (i := 5) S.nd rfl (Or.inl rfl) (d8 (d8 (d8 (aP (kM (dv 2) ag) ag) (aP (aP ag (dv 1)) (dv 1))) (aP ag (dv 1))) ag))
    (au (aD (D5 (aa (dv 3) (aa (kM (dv 5) (aA (dv 4) (kM (dv 1) ag) (fun _ _ => rfl))) af))))))))))), fun ds μ Qd h => BV h⟩)
theorem yH : aG ["_law_bag_here", "_law_many", "_law_digit"] ["_law_bag_here", "_law_many"] (aC gn) := ⟨rfl, rfl, rfl, by decide +kernel, rfl, by decide +kernel, by decide +kernel⟩
theorem ze (T : TX e)  : d7 e := by
  have S := yH
  exact T.AJ.okD S (fun ds μ Q h => C0 h) (fun cdv A outer s H E hr => ⟨mG, (aj (cj (aY kG fG (aA (dv 0) ag (fun _ _ => rfl)) ag (aN _)) (aj (aH (i := 2) S.nd rfl (Or.inl rfl) (kM (aA (dv 0) ag (fun _ _ => rfl)) (dv 1)))
    (aj (j7 (lh (aA (dv 0) ag (fun _ _ => rfl)) (dv 1)) (Hj (dv 0) ag))
    (au (aD (dv 2))))) bj)
    (aj (j7 (kM (d8 (aP (aA (dv 0) ag (fun _ _ => rfl)) ag) ag) ag) (Hj (dv 0) ag))
    (au (aD (kM (lh (kM (Hy (aA (dv 0) ag (fun _ _ => rfl)) ag) ag) ag) (dv 1)))))), fun ds μ Qd h => zz h⟩)
theorem wD : aG ["_law_one", "_law_other"] ["_law_one", "_law_other"] (aC eB) := ⟨rfl, rfl, rfl, by decide +kernel, rfl, by decide +kernel, by decide +kernel⟩
theorem vQ (T : TX e)  : nL e := by
  have S := wD
  exact T.xJ.okD S (fun ds μ Q h => ym h) (fun cdv A outer s H E hr => ⟨j6, (aj (qr (i := 0) (j := 1) rfl S.nd rfl rfl (by decide) rfl rfl (aa (qo rfl T.wV (aa (dv 0) af)) (aa (qo rfl T.wV (aa (dv 1) af)) af)) rfl)
    (aj (BB PassesOwn.never (aY kG fG (dv 1) ag (aN _)) (au (qr (i := 0) (j := 1) rfl S.nd rfl rfl (by decide) rfl rfl (aa (dv 1) (aa (kM (dv 0) (dv 1)) af)) rfl)))
    (au (aD (dv 0))))), fun ds μ Qd h => vF h⟩)
theorem xB : aG ["_law_x"] ["_law_x"] (aC eW) := ⟨rfl, rfl, rfl, by decide +kernel, rfl, by decide +kernel, by decide +kernel⟩
theorem xX (T : TX e)  : pV e := by
  have S := xB
  exact T.yP.okD S (fun ds μ Q h => A0 h) (fun cdv A outer s H E hr => ⟨kL, (au (aD (bN (aa (gU ag (aA (dv 0) ag (fun _ _ => rfl))) (aa (gU ag (aA (dv 0) ag (fun _ _ => rfl))) (aa (aA (dv 0) ag (fun _ _ => rfl)) af)))))), fun ds μ Qd h => xU h⟩)
theorem zB : aG ["_law_d", "_law_x", "_law_first", "_law_second", "_law_sides"] ["_law_d", "_law_x"] (aC gA) := ⟨rfl, rfl, rfl, by decide +kernel, rfl, by decide +kernel, by decide +kernel⟩
theorem zU (T : TX e)  : rF e := by
  have S := zB
  exact T.A1.okD S (fun ds μ Q h => wt h) (fun cdv A outer s H E hr => ⟨mE, (aj (qr (i := 2) (j := 3) rfl S.nd rfl rfl (by decide) rfl rfl (aa (aP (aA (dv 1) ag (fun _ _ => rfl)) (aA (dv 1) ag (fun _ _ => rfl))) (aa (aP (aP (dv 0) (aA (dv 1) ag (fun _ _ => rfl))) (aA (dv 1) ag (fun _ _ => rfl))) af)) rfl)
    (aj (aH (i := 4) S.nd rfl (Or.inl rfl) (gO (aa (gU (lZ rfl T.w4 (aa (eC kG fG (aA (dv 1) ag (fun _ _ => rfl)) ag (aN _)) af)) (lZ rfl T.w4 (aa (eC nZ fG (aA (dv 1) ag (fun _ _ => rfl)) ag (aN _)) af))) (aa (gU (lZ rfl T.w4 (aa (eC kG fG (aA (dv 1) ag (fun _ _ => rfl)) ag (aN _)) af)) (lZ rfl T.w4 (aa (eC nZ fG (aA (dv 1) ag (fun _ _ => rfl)) ag (aN _)) af))) af))))
    (aj (cj (aY yf fG (aP (aA (dv 4) ag (fun _ _ => rfl)) (aA (dv 4) ag (fun _ _ => rfl))) ag (aN _)) (au (aD (uC (aY (kd hr.units) cI (aA (dv 4) ag (fun _ _ => rfl)) ag (aN _)) (aA (dv 4) ag (fun _ _ => rfl)) (aA (dv 4) ag (fun _ _ => rfl))))) bj)
    (au (aD (uC (aY kG fG (dv 2) (dv 3) (aN _)) (aA (dv 4) ag (fun _ _ => rfl)) (aA (dv 4) ag (fun _ _ => rfl)))))))), fun ds μ Qd h => Ax h⟩)
theorem rm : aG ["a", "b", "c"] ["a", "b", "c"] (aC cW) := ⟨rfl, rfl, rfl, by decide +kernel, rfl, by decide +kernel, by decide +kernel⟩
theorem rC (T : TX e) (eV : kz e) : gI e := by
  have S := rm
  exact T.tP.okD S (fun ds μ Q h => C8 h) (fun cdv A outer s H E hr => ⟨gE, (au (aD (ah eV (hr.mono (by decide)) rfl T.ly T.lW T.lF (aa (ah eV (hr.mono (by decide)) rfl T.ly T.lW T.lF (aa (dv 2) (aa (dv 0) af))) (aa (dv 1) af))))), fun ds μ Qd h => qT h⟩)
theorem Cu : aG ["d", "x"] ["d", "x"] (aC jO) := ⟨rfl, rfl, rfl, by decide +kernel, rfl, by decide +kernel, by decide +kernel⟩
theorem C9 (T : TX e) (dk : hZ e) : gk e := by
  have S := Cu
  exact T.E1.okD S (fun ds μ Q h => wt h) (fun cdv A outer s H E hr => ⟨qi, (au (aD (ah dk (hr.mono (by decide)) rfl T.ni T.nq T.nh (aa (dv 0) (aa (aA (dv 1) ag (fun _ _ => rfl)) (aa (aA (dv 1) ag (fun _ _ => rfl)) af)))))), fun ds μ Qd h => CD h⟩)
theorem AD : aG ["d", "x", "y", "a", "b"] ["d", "x", "y"] (aC ix) := ⟨rfl, rfl, rfl, by decide +kernel, rfl, by decide +kernel, by decide +kernel⟩
theorem AX (T : TX e) (dk : hZ e) : uK e := by
  have S := AD
  exact T.CU.okD S (fun ds μ Q h => BE h) (fun cdv A outer s H E hr => ⟨nv, (aj (aH (i := 3) S.nd rfl (Or.inl rfl) (gU (aP (aA (dv 1) ag (fun _ _ => rfl)) (aA (dv 2) ag (fun _ _ => rfl))) (aP (aA (dv 2) ag (fun _ _ => rfl)) (aA (dv 1) ag (fun _ _ => rfl)))))
    (aj (aH (i := 4) S.nd rfl (Or.inl rfl) (gU (aP (aA (dv 1) ag (fun _ _ => rfl)) (aA (dv 2) ag (fun _ _ => rfl))) (aP (aA (dv 2) ag (fun _ _ => rfl)) (aA (dv 1) ag (fun _ _ => rfl)))))
    (au (aD (eC (eL hr.units) cI (ah dk (hr.mono (by decide)) rfl T.ni T.nq T.nh (aa (dv 0) (aa (dv 3) (aa (dv 4) af)))) ag (aN _)))))), fun ds μ Qd h => AS h⟩)
theorem sJ : aG ["u", "first", "v", "second"] ["u", "first", "v", "second"] (aC cX) := ⟨rfl, rfl, rfl, by decide +kernel, rfl, by decide +kernel, by decide +kernel⟩
theorem rE (T : TX e) (eR : pM e) : gG e := by
  have S := sJ
  exact T.uw.okD S (fun ds μ Q h => y7 h) (fun cdv A outer s H E hr => ⟨gY, (aj (cj (aY (eL hr.units) cI (dv 2) (fL rfl T.ko) (aN _)) (au (aD (ah eR (hr.mono (by decide)) rfl T.jH T.jF T.jt (aa (dv 0) (aa (dv 1) af))))) bj)
    (aj (cj (aY (eL hr.units) cI (dv 0) (fL rfl T.ko) (aN _)) (au (aD (ah eR (hr.mono (by decide)) rfl T.jH T.jF T.jt (aa (dv 2) (aa (dv 3) af))))) bj)
    (au (aD (bN (aa gX (aa (bN (aa (ah eR (hr.mono (by decide)) rfl T.jH T.jF T.jt (aa (dv 0) (aa (dv 1) af))) (aa (ah eR (hr.mono (by decide)) rfl T.jH T.jF T.jt (aa (dv 2) (aa (dv 3) af))) af))) af))))))), fun ds μ Qd h => rS h⟩)
theorem Bz : aG ["_law_a", "_law_b", "_law_c", "_law_common"] ["_law_a", "_law_b", "_law_c"] (aC il) := ⟨rfl, rfl, rfl, by decide +kernel, rfl, by decide +kernel, by decide +kernel⟩
theorem Ba (T : TX e) (iL : nL e) : eJ e := by
  have S := Bz
  exact T.C5.okD S (fun ds μ Q h => rn h) (fun cdv A outer s H E hr => ⟨oK, (aj (aH (i := 3) S.nd rfl (Or.inl rfl) (aP (ah iL (hr.mono (by decide)) rfl T.pI T.pU T.pJ (aa (ah iL (hr.mono (by decide)) rfl T.pI T.pU T.pJ (aa (dv 0) (aa (dv 1) af))) (aa (dv 2) af))) (aA (gO (aa ag (aa (mW ag) af))) (lZ rfl T.w4 (aa (eC nZ fG (dv 2) ag (aN _)) af)) (fun _ _ => rfl))))
    (au (aD (bN (aa (lh (dv 0) (dv 3)) (aa (lh (dv 1) (dv 3)) (aa (lh (dv 2) (dv 3)) af))))))), fun ds μ Qd h => A2 h⟩)
theorem zx : aG ["_law_bag_here", "_law_some"] ["_law_bag_here"] (aC gz) := ⟨rfl, rfl, rfl, by decide +kernel, rfl, by decide +kernel, by decide +kernel⟩
theorem yF (T : TX e) (aI : d7 e) : rV e := by
  have S := zx
  exact T.BZ.okD S (fun ds μ Q h => Bc h) (fun cdv A outer s H E hr => ⟨l6, (aj (cj (aY (eL hr.units) cI (ah aI (hr.mono (by decide)) rfl T.bC T.bE T.bD (aa (dv 0) (aa ag af))) ag (aN _)) (au (aD (aA (gO (aa ag (aa ag (aa ag af)))) (ah aI (hr.mono (by decide)) rfl T.bC T.bE T.bD (aa (dv 0) (aa ag af))) (fun _ _ => rfl)))) bj)
    (aj (Ex (i := 1) (N' := ["_law_d"]) (cap := [none]) S.nd rfl rfl rfl (EW rfl T.qO (aa ag (aa ag af))) (fun _ _ _ => (aW (i := 0) (show List.Nodup (["_law_d"] : List Str) by decide +kernel) rfl (Or.inl rfl))) (fun _ _ _ => (Bp (aY (Fq hr.units) zq (dv 0) (gO (aa ag (aa ag (aa ag (aa ag af))))) (by with_unfolding_all rfl)))) (fun _ _ _ => (dv 0)) rfl (by decide +kernel) rfl (by decide +kernel) (by intro _ _ h; first | exact h | exact cl1 h | exact cl2 (by decide +kernel) h | exact cl3 (by decide +kernel) h | exact da (cu rfl gD) _ _ h | exact da (cu rfl (cu rfl gD)) _ _ h | exact da (cu rfl (cu rfl (cu rfl gD))) _ _ h | cases h) (kX rfl) rfl (jb trivial))
    (au (aD (aA (dv 1) (ah aI (hr.mono (by decide)) rfl T.bC T.bE T.bD (aa (dv 0) (aa ag af))) (fun _ _ => rfl)))))), fun ds μ Qd h => zd h⟩)
theorem Aq : aG ["thing", "a", "b", "c"] ["thing"] (aC gv) := ⟨rfl, rfl, rfl, by decide +kernel, rfl, by decide +kernel, by decide +kernel⟩
theorem zO (T : TX e) (jS : uG e) (cZ : gI e) : mO e := by
  have S := Aq
  exact T.AG.okD S (fun ds μ Q h => DC h) (fun cdv A outer s H E hr => ⟨mS, (aj (cj (DW.dt (lC (fE (dc (sS (kit_tuple _) rfl T.eQ rfl T.md PyProof.Rows.Boot.«tuple» (dv 0)))) (jU (aY (kd hr.units) cI (ir rfl T.lP (aa (dv 0) af)) ag (aN _))))) (au (aD j5)) bj)
    (aj (j7 (dv 0) (mr (n := 3) rfl (bG (aW (i := 1) S.nd rfl (Or.inl rfl)) (bG (aW (i := 2) S.nd rfl (Or.inl rfl)) (bG (aW (i := 3) S.nd rfl (Or.inl rfl)) jr)))))
    (aj (cj (DW.dt (lC (fE (dc (ah jS (hr.mono (by decide)) rfl T.qh T.qu T.qv (aa (dv 1) af)))) (lC (fE (dc (ah jS (hr.mono (by decide)) rfl T.qh T.qu T.qv (aa (dv 2) af)))) (jU (fE (dc (ah jS (hr.mono (by decide)) rfl T.qh T.qu T.qv (aa (dv 3) af)))))))) (au (aD j5)) bj)
    (au (aD (vy (eC yf fG (dv 3) ag (aN _)) (qm (eC (eL hr.units) cI (ah cZ (hr.mono (by decide)) rfl T.lI T.lB T.lu (aa (dv 1) (aa (dv 2) (aa (dv 3) af)))) ag (aN _))))))))), fun ds μ Qd h => yJ h⟩)
theorem Ga : aG ["a", "b", "c", "divisor"] ["a", "b", "c"] (aC lD) := ⟨rfl, rfl, rfl, by decide +kernel, rfl, by decide +kernel, by decide +kernel⟩
theorem Fi (T : TX e) (cZ : gI e) : jL e := by
  have S := Ga
  exact T.GK.okD S (fun ds μ Q h => rn h) (fun cdv A outer s H E hr => ⟨sV, (aj (cj (aY (eL hr.units) cI (dv 2) ag (aN _)) (au rY) bj)
    (aj (aH (i := 3) S.nd rfl (Or.inl rfl) (ah cZ (hr.mono (by decide)) rfl T.lI T.lB T.lu (aa (dv 0) (aa (dv 1) (aa (dv 2) af)))))
    (aj (cj (aY nZ fG (dv 2) ag (aN _)) (au (aH (i := 3) S.nd rfl (Or.inl rfl) (mW (dv 3)))) bj)
    (au (aD (bN (aa (lh (dv 0) (dv 3)) (aa (lh (dv 1) (dv 3)) (aa (lh (dv 2) (dv 3)) af))))))))), fun ds μ Qd h => FD h⟩)
theorem BG : aG ["d", "x"] ["d", "x"] (aC iq) := ⟨rfl, rfl, rfl, by decide +kernel, rfl, by decide +kernel, by decide +kernel⟩
theorem Ca (T : TX e) (bI : gk e) : uD e := by
  have S := BG
  exact T.Dp.okD S (fun ds μ Q h => xD h) (fun cdv A outer s H E hr => ⟨oN, (au (aD (vy (eC (eL hr.units) cI (aA (dv 1) ag (fun _ _ => rfl)) ag (aN _)) (qm (eC yf fG (ah bI (hr.mono (by decide)) rfl T.fc T.fg T.fw (aa (dv 0) (aa (dv 1) af))) ag (aN _)))))), fun ds μ Qd h => BM h⟩)
theorem qD : aG ["u", "v", "place", "kind"] ["u", "v", "place"] (aC cQ) := ⟨rfl, rfl, rfl, by decide +kernel, rfl, by decide +kernel, by decide +kernel⟩
theorem qc (T : TX e) (cY : gG e) : jY e := by
  have S := qD
  exact T.qP.okD S (fun ds μ Q h => xl h) (fun cdv A outer s H E hr => ⟨gg, (aj (aH (i := 3) S.nd rfl (Or.inl rfl) (bN (aa gX (aa (dv 2) af))))
    (au (aD (ah cY (hr.mono (by decide)) rfl T.lN T.lQ T.lz (aa (dv 0) (aa (dv 3) (aa (dv 1) (aa (bN (aa gX (aa (dv 3) af))) af)))))))), fun ds μ Qd h => qa h⟩)
theorem xw : aG ["d", "kinds"] ["d", "kinds"] (aC eZ) := ⟨rfl, rfl, rfl, by decide +kernel, rfl, by decide +kernel, by decide +kernel⟩
theorem xr (T : TX e) (bI : gk e) (cO : mh e) : kN e := by
  have S := xw
  exact T.Au.okD S (fun ds μ Q h => BO h) (fun cdv A outer s H E hr => ⟨kW, (au (aD (kE (N' := ["kind", "d"]) (cap := [none, some 0]) rfl (mq (dv 1)) (fun _ _ _ => (aW (i := 0) (show List.Nodup (["kind", "d"] : List Str) by decide +kernel) rfl (Or.inl rfl))) (fun _ _ _ => iS) (fun _ _ _ => (ah bI (hr.mono (by decide)) rfl T.fc T.fg T.fw (aa (dv 1) (aa (ah cO (hr.mono (by decide)) rfl T.gQ T.g0 T.gS (aa (dv 0) af)) af)))) rfl (by decide +kernel) rfl (by decide +kernel) (by intro _ _ h; first | exact h | exact cl1 h | exact cl2 (by decide +kernel) h | exact cl3 (by decide +kernel) h | exact da (cu rfl gD) _ _ h | exact da (cu rfl (cu rfl gD)) _ _ h | exact da (cu rfl (cu rfl (cu rfl gD))) _ _ h | cases h) (kX rfl) rfl (jb ⟨sh, trivial⟩)))), fun ds μ Qd h => xG h⟩)
theorem y0 : aG ["_law_x", "_law_y"] ["_law_x", "_law_y"] (aC gB) := ⟨rfl, rfl, rfl, by decide +kernel, rfl, by decide +kernel, by decide +kernel⟩
theorem yQ (T : TX e) (bK : eJ e) : mY e := by
  have S := y0
  exact T.Bx.okD S (fun ds μ Q h => wZ h) (fun cdv A outer s H E hr => ⟨rQ, (au (aD (ah bK (hr.mono (by decide)) rfl T.iy T.iz T.iA (aa (d8 (aP (aA (dv 0) ag (fun _ _ => rfl)) (aA (dv 1) ag (fun _ _ => rfl))) (aP (aA (dv 1) ag (fun _ _ => rfl)) (aA (dv 0) ag (fun _ _ => rfl)))) (aa (d8 (aP (aA (dv 0) ag (fun _ _ => rfl)) (aA (dv 1) ag (fun _ _ => rfl))) (aP (aA (dv 1) ag (fun _ _ => rfl)) (aA (dv 0) ag (fun _ _ => rfl)))) (aa (aP (aA (dv 0) ag (fun _ _ => rfl)) (aA (dv 1) ag (fun _ _ => rfl))) af)))))), fun ds μ Qd h => yN h⟩)
theorem xm : aG ["_law_d", "_law_x", "_law_y"] ["_law_d", "_law_x", "_law_y"] (aC eS) := ⟨rfl, rfl, rfl, by decide +kernel, rfl, by decide +kernel, by decide +kernel⟩
theorem xj (T : TX e) (bK : eJ e) : fM e := by
  have S := xm
  exact T.Aw.okD S (fun ds μ Q h => uI h) (fun cdv A outer s H E hr => ⟨pR, (au (aD (ah bK (hr.mono (by decide)) rfl T.iy T.iz T.iA (aa (d8 (aP (aA (dv 1) ag (fun _ _ => rfl)) (aA (dv 2) ag (fun _ _ => rfl))) (aP (aP (dv 0) (aA (dv 1) ag (fun _ _ => rfl))) (aA (dv 2) ag (fun _ _ => rfl)))) (aa (d8 (aP (aA (dv 1) ag (fun _ _ => rfl)) (aA (dv 2) ag (fun _ _ => rfl))) (aP (aA (dv 1) ag (fun _ _ => rfl)) (aA (dv 2) ag (fun _ _ => rfl)))) (aa (aP (aA (dv 1) ag (fun _ _ => rfl)) (aA (dv 2) ag (fun _ _ => rfl))) af)))))), fun ds μ Qd h => xa h⟩)
theorem tE : aG ["_law_d", "_law_x"] ["_law_d", "_law_x"] (aC di) := ⟨rfl, rfl, rfl, by decide +kernel, rfl, by decide +kernel, by decide +kernel⟩
theorem tY (T : TX e) (bK : eJ e) : dW e := by
  have S := tE
  exact T.uX.okD S (fun ds μ Q h => nV h) (fun cdv A outer s H E hr => ⟨iD, (au (aD (ah bK (hr.mono (by decide)) rfl T.iy T.iz T.iA (aa (aP (aA (dv 1) ag (fun _ _ => rfl)) (aA (dv 1) ag (fun _ _ => rfl))) (aa (gU ag (aP (aA (dv 1) ag (fun _ _ => rfl)) (aA (dv 1) ag (fun _ _ => rfl)))) (aa (gU (aP (aA (dv 1) ag (fun _ _ => rfl)) (aA (dv 1) ag (fun _ _ => rfl))) (aP (aP (dv 0) (aA (dv 1) ag (fun _ _ => rfl))) (aA (dv 1) ag (fun _ _ => rfl)))) af)))))), fun ds μ Qd h => ub h⟩)
theorem vC : aG ["_law_bag_here", "_law_wide", "_law_a", "_law_b", "_law_c", "_law_way"] ["_law_bag_here"] (aC eA) := ⟨rfl, rfl, rfl, by decide +kernel, rfl, by decide +kernel, by decide +kernel⟩
theorem vw (T : TX e) (aI : d7 e) (bK : eJ e) : nS e := by
  have S := vC
  exact T.xn.okD S (fun ds μ Q h => xV h) (fun cdv A outer s H E hr => ⟨jT, (aj (aH (i := 1) S.nd rfl (Or.inl rfl) (aA (gO (aa ag (aa ag (aa ag (aa ag af))))) (ah aI (hr.mono (by decide)) rfl T.bC T.bE T.bD (aa (dv 0) (aa ag af))) (fun _ _ => rfl)))
    (aj (qr (i := 2) (j := 3) rfl S.nd rfl rfl (by decide) rfl rfl (aa (gU (ah aI (hr.mono (by decide)) rfl T.bC T.bE T.bD (aa (dv 0) (aa (dv 1) af))) (lh (dv 1) ag)) (aa (gU (ah aI (hr.mono (by decide)) rfl T.bC T.bE T.bD (aa (dv 0) (aa (dv 1) af))) (lh (dv 1) ag)) af)) rfl)
    (aj (aH (i := 4) S.nd rfl (Or.inl rfl) (d8 ag (ah aI (hr.mono (by decide)) rfl T.bC T.bE T.bD (aa (dv 0) (aa (gU (dv 1) ag) af)))))
    (aj (aH (i := 5) S.nd rfl (Or.inl rfl) (ah aI (hr.mono (by decide)) rfl T.bC T.bE T.bD (aa (dv 0) (aa ag af))))
    (au (aD (ah bK (hr.mono (by decide)) rfl T.iy T.iz T.iA (aa (aA (gO (aa (dv 2) (aa (dv 2) (aa (dv 2) (aa (dv 2) (aa (dv 2) (aa (dv 2) (aa (dv 2) (aa ag af))))))))) (dv 5) (fun _ _ => rfl)) (aa (aA (gO (aa (dv 3) (aa (dv 3) (aa (dv 3) (aa (dv 3) (aa (dv 3) (aa ag (aa ag (aa (dv 3) af))))))))) (dv 5) (fun _ _ => rfl)) (aa (aA (gO (aa (dv 4) (aa (dv 4) (aa ag (aa (dv 4) (aa ag (aa (dv 4) (aa ag (aa (dv 4) af))))))))) (dv 5) (fun _ _ => rfl)) af)))))))))), fun ds μ Qd h => wx h⟩)
theorem tL : aG ["_law_bag_here", "_law_wide"] ["_law_bag_here"] (aC dr) := ⟨rfl, rfl, rfl, by decide +kernel, rfl, by decide +kernel, by decide +kernel⟩
theorem sR (T : TX e) (aI : d7 e) (bK : eJ e) : ia e := by
  have S := tL
  exact T.va.okD S (fun ds μ Q h => B6 h) (fun cdv A outer s H E hr => ⟨iG, (aj (aH (i := 1) S.nd rfl (Or.inl rfl) (aA (gO (aa ag (aa ag (aa ag (aa ag af))))) (ah aI (hr.mono (by decide)) rfl T.bC T.bE T.bD (aa (dv 0) (aa ag af))) (fun _ _ => rfl)))
    (au (aD (ah bK (hr.mono (by decide)) rfl T.iy T.iz T.iA (aa (d8 ag (ah aI (hr.mono (by decide)) rfl T.bC T.bE T.bD (aa (dv 0) (aa (dv 1) af)))) (aa ag (aa (d8 ag (ah aI (hr.mono (by decide)) rfl T.bC T.bE T.bD (aa (dv 0) (aa (dv 1) af)))) af))))))), fun ds μ Qd h => tR h⟩)
theorem JL : aG ["x", "y"] ["x", "y"] (aC tw) := ⟨rfl, rfl, rfl, by decide +kernel, rfl, by decide +kernel, by decide +kernel⟩
theorem aT (T : TX e) (df : jL e) : sE e := by
  have S := JL
  exact T.MT.okD S (fun ds μ Q h => wZ h) (fun cdv A outer s H E hr => ⟨y6, (au (aD (ah df (hr.mono (by decide)) rfl T.nX T.n8 T.oJ (aa (d8 (aP (aA (dv 0) ag (fun _ _ => rfl)) (aA (dv 1) ag (fun _ _ => rfl))) (aP (aA (dv 1) ag (fun _ _ => rfl)) (aA (dv 0) ag (fun _ _ => rfl)))) (aa (d8 (aP (aA (dv 0) ag (fun _ _ => rfl)) (aA (dv 1) ag (fun _ _ => rfl))) (aP (aA (dv 1) ag (fun _ _ => rfl)) (aA (dv 0) ag (fun _ _ => rfl)))) (aa (aP (aA (dv 0) ag (fun _ _ => rfl)) (aA (dv 1) ag (fun _ _ => rfl))) af)))))), fun ds μ Qd h => EY h⟩)
theorem Jf : aG ["x", "y"] ["x", "y"] (aC tQ) := ⟨rfl, rfl, rfl, by decide +kernel, rfl, by decide +kernel, by decide +kernel⟩
theorem kB (T : TX e) (df : jL e) : yX e := by
  have S := Jf
  exact T.Mw.okD S (fun ds μ Q h => Cy h) (fun cdv A outer s H E hr => ⟨zA, (au (aD (ah df (hr.mono (by decide)) rfl T.nX T.n8 T.oJ (aa (gU (aP (aA (dv 0) ag (fun _ _ => rfl)) (aA (dv 1) ag (fun _ _ => rfl))) (aP (aA (dv 1) ag (fun _ _ => rfl)) (aA (dv 0) ag (fun _ _ => rfl)))) (aa (gU (aP (aA (dv 0) ag (fun _ _ => rfl)) (aA (dv 1) ag (fun _ _ => rfl))) (aP (aA (dv 1) ag (fun _ _ => rfl)) (aA (dv 0) ag (fun _ _ => rfl)))) (aa (aP (aA (dv 0) ag (fun _ _ => rfl)) (aA (dv 1) ag (fun _ _ => rfl))) af)))))), fun ds μ Qd h => JZ h⟩)
theorem II : aG ["d", "x", "y"] ["d", "x", "y"] (aC o9) := ⟨rfl, rfl, rfl, by decide +kernel, rfl, by decide +kernel, by decide +kernel⟩
theorem ai (T : TX e) (df : jL e) : gZ e := by
  have S := II
  exact T.Jz.okD S (fun ds μ Q h => uI h) (fun cdv A outer s H E hr => ⟨wH, (au (aD (ah df (hr.mono (by decide)) rfl T.nX T.n8 T.oJ (aa (d8 (aP (aA (dv 1) ag (fun _ _ => rfl)) (aA (dv 2) ag (fun _ _ => rfl))) (aP (aP (dv 0) (aA (dv 1) ag (fun _ _ => rfl))) (aA (dv 2) ag (fun _ _ => rfl)))) (aa (d8 (aP (aA (dv 1) ag (fun _ _ => rfl)) (aA (dv 2) ag (fun _ _ => rfl))) (aP (aA (dv 1) ag (fun _ _ => rfl)) (aA (dv 2) ag (fun _ _ => rfl)))) (aa (aP (aA (dv 1) ag (fun _ _ => rfl)) (aA (dv 2) ag (fun _ _ => rfl))) af)))))), fun ds μ Qd h => BY h⟩)
theorem Bl : aG ["d", "x", "norm"] ["d", "x"] (aC iE) := ⟨rfl, rfl, rfl, by decide +kernel, rfl, by decide +kernel, by decide +kernel⟩
theorem az (T : TX e) (df : jL e) : gy e := by
  have S := Bl
  exact T.Dc.okD S (fun ds μ Q h => nV h) (fun cdv A outer s H E hr => ⟨nE, (aj (aH (i := 2) S.nd rfl (Or.inl rfl) (gU (aP (aA (dv 1) ag (fun _ _ => rfl)) (aA (dv 1) ag (fun _ _ => rfl))) (aP (aP (dv 0) (aA (dv 1) ag (fun _ _ => rfl))) (aA (dv 1) ag (fun _ _ => rfl)))))
    (au (aD (ah df (hr.mono (by decide)) rfl T.nX T.n8 T.oJ (aa (aP (aA (dv 1) ag (fun _ _ => rfl)) (aA (dv 1) ag (fun _ _ => rfl))) (aa (aP (mW (aA (dv 1) ag (fun _ _ => rfl))) (aA (dv 1) ag (fun _ _ => rfl))) (aa (dv 2) af))))))), fun ds μ Qd h => BC h⟩)
theorem qd : aG ["d", "thing"] ["d", "thing"] (aC cP) := ⟨rfl, rfl, rfl, by decide +kernel, rfl, by decide +kernel, by decide +kernel⟩
theorem qj (T : TX e) (gw : mO e) (bI : gk e) : d5 e := by
  have S := qd
  exact T.sf.okD S (fun ds μ Q h => zr h) (fun cdv A outer s H E hr => ⟨gm, (au (aD (vy (ah gw (hr.mono (by decide)) rfl T.uB T.uJ T.uL (aa (dv 1) af)) (qm (eC (eL hr.units) cI (ah bI (hr.mono (by decide)) rfl T.fc T.fg T.fw (aa (dv 0) (aa (dv 1) af))) ag (aN _)))))), fun ds μ Qd h => qg h⟩)
theorem x5 : aG ["thing"] ["thing"] (aC fe) := ⟨rfl, rfl, rfl, by decide +kernel, rfl, by decide +kernel, by decide +kernel⟩
theorem xC (T : TX e) (gw : mO e) : pL e := by
  have S := x5
  exact T.yI.okD S (fun ds μ Q h => v5 h) (fun cdv A outer s H E hr => ⟨kZ, (aj (cj (DW.dt (lC (fE (dc (sS (kit_tuple _) rfl T.eQ rfl T.md PyProof.Rows.Boot.«tuple» (dv 0)))) (jU (aY (kd hr.units) cI (ir rfl T.lP (aa (dv 0) af)) ag (aN _))))) (au (aD j5)) bj)
    (au (aD (vx rfl rfl T.BF (aa (kE (N' := ["part"]) (cap := [none]) rfl (mq (dv 0)) (fun _ _ _ => (aW (i := 0) (show List.Nodup (["part"] : List Str) by decide +kernel) rfl (Or.inl rfl))) (fun _ _ _ => iS) (fun _ _ _ => (ah gw (hr.mono (by decide)) rfl T.uB T.uJ T.uL (aa (dv 0) af))) rfl (by decide +kernel) rfl (by decide +kernel) (by intro _ _ h; first | exact h | exact cl1 h | exact cl2 (by decide +kernel) h | exact cl3 (by decide +kernel) h | exact da (cu rfl gD) _ _ h | exact da (cu rfl (cu rfl gD)) _ _ h | exact da (cu rfl (cu rfl (cu rfl gD))) _ _ h | cases h) (kX rfl) rfl (jb trivial)) af))))), fun ds μ Qd h => xx h⟩)
theorem xq : aG ["_law_bag_here", "_law_d", "_law_x", "_law_sign_here"] ["_law_bag_here", "_law_d"] (aC fk) := ⟨rfl, rfl, rfl, by decide +kernel, rfl, by decide +kernel, by decide +kernel⟩
theorem xy (T : TX e) (kT : nS e) (nF : rF e) (aI : d7 e) (mT : pV e) : kQ e := by
  have S := xq
  exact T.y9.okD S (fun ds μ Q h => zQ h) (fun cdv A outer s H E hr => ⟨ll, (aj (aH (i := 2) S.nd rfl (Or.inl rfl) (ah kT (hr.mono (by decide)) rfl T.xh T.x8 T.xc (aa (dv 0) af)))
    (aj (aH (i := 3) S.nd rfl (Or.inl rfl) (ah nF (hr.mono (by decide)) rfl T.AW T.A8 T.Bv (aa (dv 1) (aa (dv 2) af))))
    (aj (cj (aY (eL hr.units) cI (dv 3) ag (aN _)) (au (aD (bN (aa (d8 ag (ah aI (hr.mono (by decide)) rfl T.bC T.bE T.bD (aa (dv 0) (aa ag af)))) (aa ag (aa ag af)))))) bj)
    (au (aD (uC (aY kG fG (dv 3) ag (aN _)) (dv 2) (ah mT (hr.mono (by decide)) rfl T.zT T.zC T.zF (aa (dv 2) af)))))))), fun ds μ Qd h => w6 h⟩)
theorem Kr : aG ["d", "x", "y"] ["d", "x", "y"] (aC tN) := ⟨rfl, rfl, rfl, by decide +kernel, rfl, by decide +kernel, by decide +kernel⟩
theorem Kq (T : TX e) (aZ : gZ e) (bV : gy e) : rD e := by
  have S := Kr
  exact T.ME.okD S (fun ds μ Q h => Cg h) (fun cdv A outer s H E hr => ⟨yL, (aj (cj (aY (eL hr.units) cI (dv 2) (fL rfl T.ko) (aN _)) (au rY) bj)
    (au (aD (ah aZ (hr.mono (by decide)) rfl T.cF T.cD T.cB (aa (dv 0) (aa (dv 1) (aa (ah bV (hr.mono (by decide)) rfl T.hV T.ic T.ik (aa (dv 0) (aa (dv 2) af))) af))))))), fun ds μ Qd h => JU h⟩)
theorem lG : aG ["d", "thing"] ["d", "thing"] (aC bQ) := ⟨rfl, rfl, rfl, by decide +kernel, rfl, by decide +kernel, by decide +kernel⟩
theorem lT (T : TX e) (bL : d5 e) : cp e := by
  have S := lG
  exact T.mQ.okD S (fun ds μ Q h => u9 h) (fun cdv A outer s H E hr => ⟨dO, (au (cj (fE (dc (ah bL (hr.mono (by decide)) rfl T.gR T.gW T.gJ (aa (dv 0) (aa (dv 1) af))))) (au rY) bj)), fun ds μ Qd h => lJ h⟩)
theorem B1 : aG ["d", "thing"] ["d", "thing"] (aC ig) := ⟨rfl, rfl, rfl, by decide +kernel, rfl, by decide +kernel, by decide +kernel⟩
theorem AO (T : TX e) (bL : d5 e) : uH e := by
  have S := B1
  exact T.DR.okD S (fun ds μ Q h => yW h) (fun cdv A outer s H E hr => ⟨oi, (aj (cj (DW.dt (lC (fE (dc (sS (kit_tuple _) rfl T.eQ rfl T.md PyProof.Rows.Boot.«tuple» (dv 1)))) (lC (aY nZ fG (ir rfl T.lP (aa (dv 1) af)) ag (aN _)) (jU (aY kG fG (ir rfl T.lP (aa (dv 1) af)) (Ez (u := .int 3) rfl T.zl ⟨_, rfl⟩ (fun _ _ _ => Rp.int 3)) (aN _)))))) (au (aD j5)) bj)
    (au (aD (vx rfl rfl T.BF (aa (kE (N' := ["kind", "d"]) (cap := [none, some 0]) rfl (mq (dv 1)) (fun _ _ _ => (aW (i := 0) (show List.Nodup (["kind", "d"] : List Str) by decide +kernel) rfl (Or.inl rfl))) (fun _ _ _ => iS) (fun _ _ _ => (ah bL (hr.mono (by decide)) rfl T.gR T.gW T.gJ (aa (dv 1) (aa (dv 0) af)))) rfl (by decide +kernel) rfl (by decide +kernel) (by intro _ _ h; first | exact h | exact cl1 h | exact cl2 (by decide +kernel) h | exact cl3 (by decide +kernel) h | exact da (cu rfl gD) _ _ h | exact da (cu rfl (cu rfl gD)) _ _ h | exact da (cu rfl (cu rfl (cu rfl gD))) _ _ h | cases h) (kX rfl) rfl (jb ⟨sh, trivial⟩)) af))))), fun ds μ Qd h => BD h⟩)
theorem Jj : aG ["shape", "way"] ["shape", "way"] (aC tS) := ⟨rfl, rfl, rfl, by decide +kernel, rfl, by decide +kernel, by decide +kernel⟩
theorem bX (T : TX e) (tf : yX e) (cO : mh e) (gK : sE e) : EB e := by
  have S := Jj
  exact T.Mk.okD S (fun ds μ Q h => Ds h) (fun cdv A outer s H E hr => ⟨Ad, (au (aD (uC (aY kG fG (dv 1) ag (aN _)) (ah tf (hr.mono (by decide)) rfl T.HX T.Hb T.I0 (aa (dv 0) (aa (ah cO (hr.mono (by decide)) rfl T.gQ T.g0 T.gS (aa (dv 0) af)) af))) (ah gK (hr.mono (by decide)) rfl T.tK T.sU T.tI (aa (dv 0) (aa (ah cO (hr.mono (by decide)) rfl T.gQ T.g0 T.gS (aa (dv 0) af)) af)))))), fun ds μ Qd h => JS h⟩)
theorem oI : aG ["d", "kinds", "place", "kind", "plan"] ["d", "kinds", "place"] (aC cH) := ⟨rfl, rfl, rfl, by decide +kernel, rfl, by decide +kernel, by decide +kernel⟩
theorem nB (T : TX e) (cN : fI e) (bV : gy e) : iP e := by
  have S := oI
  exact T.pH.okD S (fun ds μ Q h => xH h) (fun cdv A outer s H E hr => ⟨eK, (aj (aH (i := 3) S.nd rfl (Or.inl rfl) (aA (dv 1) (dv 2) (fun _ _ => rfl)))
    (aj (aH (i := 4) S.nd rfl (Or.inl rfl) (bN (aa gX (aa (dv 2) af))))
    (aj (cj (dc (ah cN (hr.mono (by decide)) rfl T.jX T.j4 T.jW (aa (ah bV (hr.mono (by decide)) rfl T.hV T.ic T.ik (aa (dv 0) (aa (dv 3) af))) af))) (au (aD (bN (aa (ah bV (hr.mono (by decide)) rfl T.hV T.ic T.ik (aa (dv 0) (aa (dv 3) af))) (aa (bN (aa gX (aa (dv 4) af))) af))))) bj)
    (au (aD (bN (aa (dv 3) (aa (dv 4) af)))))))), fun ds μ Qd h => nQ h⟩)
theorem Dg : aG ["d", "weights", "width", "height", "p", "q", "s", "t", "by_width", "by_its_mate"] ["d", "weights", "width", "height"] (aC jM) := ⟨rfl, rfl, rfl, by decide +kernel, rfl, by decide +kernel, by decide +kernel⟩
theorem CV (T : TX e) (gK : sE e) (aZ : gZ e) (cO : mh e) : vA e := by
  have S := Dg
  exact T.Fv.okD S (fun ds μ Q h => xP h) (fun cdv A outer s H E hr => ⟨qA, (aj (j7 (dv 1) (mr (n := 4) rfl (bG (aW (i := 4) S.nd rfl (Or.inl rfl)) (bG (aW (i := 5) S.nd rfl (Or.inl rfl)) (bG (aW (i := 6) S.nd rfl (Or.inl rfl)) (bG (aW (i := 7) S.nd rfl (Or.inl rfl)) jr))))))
    (aj (aH (i := 8) S.nd rfl (Or.inl rfl) (ah gK (hr.mono (by decide)) rfl T.tK T.sU T.tI (aa (ah aZ (hr.mono (by decide)) rfl T.cF T.cD T.cB (aa (dv 0) (aa (dv 4) (aa (dv 3) af)))) (aa (ah aZ (hr.mono (by decide)) rfl T.cF T.cD T.cB (aa (dv 0) (aa (dv 5) (aa (ah cO (hr.mono (by decide)) rfl T.gQ T.g0 T.gS (aa (dv 3) af)) af)))) af))))
    (aj (aH (i := 9) S.nd rfl (Or.inl rfl) (ah gK (hr.mono (by decide)) rfl T.tK T.sU T.tI (aa (ah aZ (hr.mono (by decide)) rfl T.cF T.cD T.cB (aa (dv 0) (aa (dv 6) (aa (dv 3) af)))) (aa (ah aZ (hr.mono (by decide)) rfl T.cF T.cD T.cB (aa (dv 0) (aa (dv 7) (aa (ah cO (hr.mono (by decide)) rfl T.gQ T.g0 T.gS (aa (dv 3) af)) af)))) af))))
    (au (aD (ah gK (hr.mono (by decide)) rfl T.tK T.sU T.tI (aa (ah aZ (hr.mono (by decide)) rfl T.cF T.cD T.cB (aa (dv 0) (aa (dv 2) (aa (dv 8) af)))) (aa (ah aZ (hr.mono (by decide)) rfl T.cF T.cD T.cB (aa (dv 0) (aa (ah cO (hr.mono (by decide)) rfl T.gQ T.g0 T.gS (aa (dv 2) af)) (aa (dv 9) af)))) af)))))))), fun ds μ Qd h => Dq h⟩)
theorem vq : aG ["d", "weights", "kind", "p", "q", "s", "t", "first", "last", "middle", "most"] ["d", "weights", "kind"] (aC ez) := ⟨rfl, rfl, rfl, by decide +kernel, rfl, by decide +kernel, by decide +kernel⟩
theorem vB (T : TX e) (aZ : gZ e) (cO : mh e) (bI : gk e) (gK : sE e) (qs : uK e) : oF e := by
  have S := vq
  exact T.xS.okD S (fun ds μ Q h => Bj h) (fun cdv A outer s H E hr => ⟨kj, (aj (j7 (dv 1) (mr (n := 4) rfl (bG (aW (i := 3) S.nd rfl (Or.inl rfl)) (bG (aW (i := 4) S.nd rfl (Or.inl rfl)) (bG (aW (i := 5) S.nd rfl (Or.inl rfl)) (bG (aW (i := 6) S.nd rfl (Or.inl rfl)) jr))))))
    (aj (aH (i := 7) S.nd rfl (Or.inl rfl) (ah aZ (hr.mono (by decide)) rfl T.cF T.cD T.cB (aa (dv 0) (aa (dv 3) (aa (dv 2) af)))))
    (aj (aH (i := 8) S.nd rfl (Or.inl rfl) (ah aZ (hr.mono (by decide)) rfl T.cF T.cD T.cB (aa (dv 0) (aa (dv 6) (aa (ah cO (hr.mono (by decide)) rfl T.gQ T.g0 T.gS (aa (dv 2) af)) af)))))
    (aj (cj (DW.dt (lC (aY nZ fG (ah bI (hr.mono (by decide)) rfl T.fc T.fg T.fw (aa (dv 0) (aa (dv 7) af))) ag (aN _)) (jU (aY nZ fG (ah bI (hr.mono (by decide)) rfl T.fc T.fg T.fw (aa (dv 0) (aa (dv 8) af))) ag (aN _))))) (au (aD j5)) bj)
    (aj (aH (i := 9) S.nd rfl (Or.inl rfl) (ah gK (hr.mono (by decide)) rfl T.tK T.sU T.tI (aa (ah aZ (hr.mono (by decide)) rfl T.cF T.cD T.cB (aa (dv 0) (aa (dv 4) (aa (ah cO (hr.mono (by decide)) rfl T.gQ T.g0 T.gS (aa (dv 2) af)) af)))) (aa (ah aZ (hr.mono (by decide)) rfl T.cF T.cD T.cB (aa (dv 0) (aa (dv 5) (aa (dv 2) af)))) af))))
    (aj (aH (i := 10) S.nd rfl (Or.inl rfl) (ah aZ (hr.mono (by decide)) rfl T.cF T.cD T.cB (aa (dv 0) (aa (bN (aa ag (aa ag (aa ag af)))) (aa (ah aZ (hr.mono (by decide)) rfl T.cF T.cD T.cB (aa (dv 0) (aa (dv 7) (aa (dv 8) af)))) af)))))
    (au (aD (Gp (ah qs (hr.mono (by decide)) rfl T.C7 T.DN T.Cv (aa (dv 0) (aa (ah aZ (hr.mono (by decide)) rfl T.cF T.cD T.cB (aa (dv 0) (aa (dv 9) (aa (dv 9) af)))) (aa (dv 10) af))))))))))))), fun ds μ Qd h => vM h⟩)
theorem xR : aG ["_law_bag_here", "_law_d", "_law_found", "_law_turn", "_law_way", "_law_part", "_law_kind"] ["_law_bag_here", "_law_d"] (aC fx) := ⟨rfl, rfl, rfl, by decide +kernel, rfl, by decide +kernel, by decide +kernel⟩
theorem xM (T : TX e) (dz : kQ e) (aI : d7 e) (bB : dW e) (aS : fM e) (bK : eJ e) : pO e := by
  have S := xR
  exact T.Ar.okD S (fun ds μ Q h => zD h) (fun cdv A outer s H E hr => ⟨k9, (aj (aH (i := 2) S.nd rfl (Or.inl rfl) (D5 (aa (ah dz (hr.mono (by decide)) rfl T.jJ T.jv T.jz (aa (dv 0) (aa (dv 1) af))) af)))
    (aj (tu PassesOwn.never rfl (zw rfl T.qO (aa (ah aI (hr.mono (by decide)) rfl T.bC T.bE T.bD (aa (dv 0) (aa ag af))) af)) (aW (i := 3) S.nd rfl (Or.inl rfl)) (aj (aH (i := 4) S.nd rfl (Or.inl rfl) (ah aI (hr.mono (by decide)) rfl T.bC T.bE T.bD (aa (dv 0) (aa ag af))))
    (aj (aH (i := 5) S.nd rfl (Or.inl rfl) (bN (aa (d8 ag (ah aI (hr.mono (by decide)) rfl T.bC T.bE T.bD (aa (dv 0) (aa ag af)))) (aa ag (aa (d8 ag (ah aI (hr.mono (by decide)) rfl T.bC T.bE T.bD (aa (dv 0) (aa ag af)))) af)))))
    (aj (aH (i := 6) S.nd rfl (Or.inl rfl) (aA (gO (aa (aA (dv 2) ag (fun _ _ => rfl)) (aa (ah bB (hr.mono (by decide)) rfl T.ej T.d9 T.eu (aa (dv 1) (aa (aA (dv 2) ag (fun _ _ => rfl)) af))) af))) (kM (dv 4) ag) (fun _ _ => rfl)))
    (aj (cj (aY kG fG (dv 4) ag (aN _)) (au (aH (i := 6) S.nd rfl (Or.inl rfl) (ah dz (hr.mono (by decide)) rfl T.jJ T.jv T.jz (aa (dv 0) (aa (dv 1) af))))) (au (cj (aY kG fG (dv 4) ag (aN _)) (au (aH (i := 6) S.nd rfl (Or.inl rfl) (ah aS (hr.mono (by decide)) rfl T.bT T.bR T.bS (aa (dv 1) (aa (dv 6) (aa (ah bK (hr.mono (by decide)) rfl T.iy T.iz T.iA (aa (aA (dv 5) ag (fun _ _ => rfl)) (aa (aA (dv 5) ag (fun _ _ => rfl)) (aa (aA (dv 5) ag (fun _ _ => rfl)) af)))) af)))))) bj)))
    (au (jC (FG (dv 2) (dv 6)))))))))
    (au (aD (wN rfl T.md (aa (dv 2) af)))))), fun ds μ Qd h => xi h⟩)
theorem xW : aG ["_law_bag_here", "_law_d", "_law_kinds_here", "_law_kind", "_law_other", "_law_u", "_law_v", "_law_way", "_law_turned_kind", "_law_some"] ["_law_bag_here", "_law_d", "_law_kinds_here"] (aC fo) := ⟨rfl, rfl, rfl, by decide +kernel, rfl, by decide +kernel, by decide +kernel⟩
theorem xg (T : TX e) (aI : d7 e) (cR : ia e) (bB : dW e) (dz : kQ e) (aS : fM e) (dA : mY e) : pT e := by
  have S := xW
  exact T.yB.okD S (fun ds μ Q h => yD h) (fun cdv A outer s H E hr => ⟨lq, (aj (aH (i := 3) S.nd rfl (Or.inl rfl) (aA (dv 2) (ah aI (hr.mono (by decide)) rfl T.bC T.bE T.bD (aa (dv 0) (aa (ir rfl T.lP (aa (dv 2) af)) af))) (fun _ _ => rfl)))
    (aj (aH (i := 4) S.nd rfl (Or.inl rfl) (aA (dv 2) (ah aI (hr.mono (by decide)) rfl T.bC T.bE T.bD (aa (dv 0) (aa (ir rfl T.lP (aa (dv 2) af)) af))) (fun _ _ => rfl)))
    (aj (qr (i := 5) (j := 6) rfl S.nd rfl rfl (by decide) rfl rfl (aa (ah cR (hr.mono (by decide)) rfl T.iX T.i4 T.i9 (aa (dv 0) af)) (aa (ah cR (hr.mono (by decide)) rfl T.iX T.i4 T.i9 (aa (dv 0) af)) af)) rfl)
    (aj (aH (i := 7) S.nd rfl (Or.inl rfl) (ah aI (hr.mono (by decide)) rfl T.bC T.bE T.bD (aa (dv 0) (aa ag af))))
    (aj (aH (i := 8) S.nd rfl (Or.inl rfl) (ah bB (hr.mono (by decide)) rfl T.ej T.d9 T.eu (aa (dv 1) (aa (dv 3) af))))
    (aj (aH (i := 9) S.nd rfl (Or.inl rfl) (gO (aa (ah dz (hr.mono (by decide)) rfl T.jJ T.jv T.jz (aa (dv 0) (aa (dv 1) af))) (aa (ah aS (hr.mono (by decide)) rfl T.bT T.bR T.bS (aa (dv 1) (aa (dv 3) (aa (dv 5) af)))) (aa (ah aS (hr.mono (by decide)) rfl T.bT T.bR T.bS (aa (dv 1) (aa (dv 8) (aa (dv 5) af)))) (aa (ah dA (hr.mono (by decide)) rfl T.iO T.iQ T.iU (aa (ah aS (hr.mono (by decide)) rfl T.bT T.bR T.bS (aa (dv 1) (aa (dv 3) (aa (dv 5) af)))) (aa (ah aS (hr.mono (by decide)) rfl T.bT T.bR T.bS (aa (dv 1) (aa (dv 8) (aa (dv 6) af)))) af))) (aa (ah dA (hr.mono (by decide)) rfl T.iO T.iQ T.iU (aa (dv 3) (aa (ah aS (hr.mono (by decide)) rfl T.bT T.bR T.bS (aa (dv 1) (aa (dv 4) (aa (dv 6) af)))) af))) (aa (dv 5) (aa (ah aS (hr.mono (by decide)) rfl T.bT T.bR T.bS (aa (dv 1) (aa (bN (aa ag (aa ag (aa ag af)))) (aa (dv 5) af)))) (aa (ah dA (hr.mono (by decide)) rfl T.iO T.iQ T.iU (aa (ah aS (hr.mono (by decide)) rfl T.bT T.bR T.bS (aa (dv 1) (aa (dv 8) (aa (dv 5) af)))) (aa (bN (aa ag (aa ag (aa ag af)))) af))) (aa (ah dA (hr.mono (by decide)) rfl T.iO T.iQ T.iU (aa (ah aS (hr.mono (by decide)) rfl T.bT T.bR T.bS (aa (dv 1) (aa (dv 3) (aa (dv 5) af)))) (aa (ah aS (hr.mono (by decide)) rfl T.bT T.bR T.bS (aa (dv 1) (aa (dv 6) (aa (bN (aa ag (aa ag (aa ag af)))) af)))) af))) (aa (ah dz (hr.mono (by decide)) rfl T.jJ T.jv T.jz (aa (dv 0) (aa (dv 1) af))) af))))))))))))
    (au (aD (aA (dv 9) (dv 7) (fun _ _ => rfl)))))))))), fun ds μ Qd h => x9 h⟩)
theorem uj : aG ["d", "thing"] ["d", "thing"] (aC dm) := ⟨rfl, rfl, rfl, by decide +kernel, rfl, by decide +kernel, by decide +kernel⟩
theorem tm (T : TX e) (qE : uH e) : eT e := by
  have S := uj
  exact T.vd.okD S (fun ds μ Q h => vb h) (fun cdv A outer s H E hr => ⟨iB, (au (cj (fE (dc (ah qE (hr.mono (by decide)) rfl T.C2 T.CW T.Dn (aa (dv 0) (aa (dv 1) af))))) (au rY) bj)), fun ds μ Qd h => tO h⟩)
theorem tj : aG ["d", "shape", "together"] ["d", "shape"] (aC dj) := ⟨rfl, rfl, rfl, by decide +kernel, rfl, by decide +kernel, by decide +kernel⟩
theorem ui (T : TX e) (aL : cp e) (gK : sE e) (cO : mh e) (gj : rD e) (aZ : gZ e) : l4 e := by
  have S := tj
  exact T.u5.okD S (fun ds μ Q h => Bb h) (fun cdv A outer s H E hr => ⟨hW, (aj (jC (ah aL (hr.mono (by decide)) rfl T.cA T.cE T.cG (aa (dv 0) (aa (dv 1) af))))
    (aj (aH (i := 2) S.nd rfl (Or.inl rfl) (ah gK (hr.mono (by decide)) rfl T.tK T.sU T.tI (aa (dv 1) (aa (ah cO (hr.mono (by decide)) rfl T.gQ T.g0 T.gS (aa (dv 1) af)) af))))
    (au (aD (ah gj (hr.mono (by decide)) rfl T.qG T.p6 T.qy (aa (dv 0) (aa (ah aZ (hr.mono (by decide)) rfl T.cF T.cD T.cB (aa (dv 0) (aa (dv 2) (aa (dv 2) af)))) (aa (ah aZ (hr.mono (by decide)) rfl T.cF T.cD T.cB (aa (dv 0) (aa (dv 1) (aa (ah cO (hr.mono (by decide)) rfl T.gQ T.g0 T.gS (aa (dv 1) af)) af)))) af)))))))), fun ds μ Qd h => tJ h⟩)
theorem zK : aG ["d", "first", "second", "shape", "whole", "part", "of_second", "of_first"] ["d", "first", "second", "shape"] (aC gC) := ⟨rfl, rfl, rfl, by decide +kernel, rfl, by decide +kernel, by decide +kernel⟩
theorem zV (T : TX e) (gj : rD e) (df : jL e) (tf : yX e) (aZ : gZ e) : mB e := by
  have S := zK
  exact T.AU.okD S (fun ds μ Q h => zy h) (fun cdv A outer s H E hr => ⟨mI, (aj (aH (i := 4) S.nd rfl (Or.inl rfl) (ah gj (hr.mono (by decide)) rfl T.qG T.p6 T.qy (aa (dv 0) (aa (dv 3) (aa (dv 1) af)))))
    (aj (aH (i := 5) S.nd rfl (Or.inl rfl) (ah gj (hr.mono (by decide)) rfl T.qG T.p6 T.qy (aa (dv 0) (aa (dv 2) (aa (dv 1) af)))))
    (aj (aH (i := 6) S.nd rfl (Or.inl rfl) (ah df (hr.mono (by decide)) rfl T.nX T.n8 T.oJ (aa (aP (aA (dv 4) ag (fun _ _ => rfl)) (aA (dv 5) ag (fun _ _ => rfl))) (aa ag (aa (aP (aA (dv 4) ag (fun _ _ => rfl)) (aA (dv 5) ag (fun _ _ => rfl))) af)))))
    (aj (aH (i := 7) S.nd rfl (Or.inl rfl) (ah tf (hr.mono (by decide)) rfl T.HX T.Hb T.I0 (aa (dv 4) (aa (ah aZ (hr.mono (by decide)) rfl T.cF T.cD T.cB (aa (dv 0) (aa (dv 6) (aa (dv 5) af)))) af))))
    (au (aD (bN (aa (dv 7) (aa (dv 6) af))))))))), fun ds μ Qd h => yM h⟩)
theorem Cw : aG ["d", "kind", "shape", "way", "own", "floor", "turn", "last", "both"] ["d", "kind", "shape"] (aC jN) := ⟨rfl, rfl, rfl, by decide +kernel, rfl, by decide +kernel, by decide +kernel⟩
theorem Cz (T : TX e) (bI : gk e) (cO : mh e) (zH : EB e) (gj : rD e) (aZ : gZ e) : vR e := by
  have S := Cw
  exact T.FU.okD S (fun ds μ Q h => Ay h) (fun cdv A outer s H E hr => ⟨qp, (aj (aH (i := 3) S.nd rfl (Or.inl rfl) (ah bI (hr.mono (by decide)) rfl T.fc T.fg T.fw (aa (dv 0) (aa (ah cO (hr.mono (by decide)) rfl T.gQ T.g0 T.gS (aa (dv 1) af)) af))))
    (aj (cj (aY (kd hr.units) cI (ah bI (hr.mono (by decide)) rfl T.fc T.fg T.fw (aa (dv 0) (aa (ah cO (hr.mono (by decide)) rfl T.gQ T.g0 T.gS (aa (dv 2) af)) af))) (dv 3) (aN _)) (au (aD (bN (aa (fL rfl T.Iy) (aa (bN (aa (fL rfl T.ko) (aa (fL rfl T.ko) (aa (fL rfl T.ko) (aa (bN (aa (dv 3) (aa ag (aa ag af)))) af))))) af))))) bj)
    (aj (aH (i := 4) S.nd rfl (Or.inl rfl) (ah zH (hr.mono (by decide)) rfl T.HC T.Gk T.Hk (aa (dv 1) (aa (dv 3) af))))
    (aj (aH (i := 5) S.nd rfl (Or.inl rfl) (ah zH (hr.mono (by decide)) rfl T.HC T.Gk T.Hk (aa (dv 2) (aa (dv 3) af))))
    (aj (aH (i := 6) S.nd rfl (Or.inl rfl) (ah bI (hr.mono (by decide)) rfl T.fc T.fg T.fw (aa (dv 0) (aa (dv 5) af))))
    (aj (aH (i := 7) S.nd rfl (Or.inl rfl) (ah gj (hr.mono (by decide)) rfl T.qG T.p6 T.qy (aa (dv 0) (aa (ah aZ (hr.mono (by decide)) rfl T.cF T.cD T.cB (aa (dv 0) (aa (bN (aa (dv 6) (aa ag (aa ag af)))) (aa (dv 5) af)))) (aa (ah cO (hr.mono (by decide)) rfl T.gQ T.g0 T.gS (aa (dv 2) af)) af)))))
    (aj (aH (i := 8) S.nd rfl (Or.inl rfl) (ah gj (hr.mono (by decide)) rfl T.qG T.p6 T.qy (aa (dv 0) (aa (ah aZ (hr.mono (by decide)) rfl T.cF T.cD T.cB (aa (dv 0) (aa (dv 4) (aa (dv 4) af)))) (aa (ah aZ (hr.mono (by decide)) rfl T.cF T.cD T.cB (aa (dv 0) (aa (bN (aa ag (aa ag (aa ag af)))) (aa (ah aZ (hr.mono (by decide)) rfl T.cF T.cD T.cB (aa (dv 0) (aa (dv 1) (aa (ah cO (hr.mono (by decide)) rfl T.gQ T.g0 T.gS (aa (dv 1) af)) af)))) af)))) af)))))
    (au (aD (bN (aa (fL rfl T.Iy) (aa (bN (aa (ah gj (hr.mono (by decide)) rfl T.qG T.p6 T.qy (aa (dv 0) (aa (dv 8) (aa (dv 7) af)))) (aa (bN (aa (aP (dv 3) (dv 6)) (aa ag (aa ag af)))) (aa (bN (aa (mW (dv 6)) (aa ag (aa ag af)))) (aa (dv 7) af))))) af)))))))))))), fun ds μ Qd h => C1 h⟩)
theorem ya : aG ["d", "kind", "shape", "shares"] ["d", "kind", "shape"] (aC eU) := ⟨rfl, rfl, rfl, by decide +kernel, rfl, by decide +kernel, by decide +kernel⟩
theorem xZ (T : TX e) (aL : cp e) (aZ : gZ e) (gj : rD e) (gx : mB e) (bV : gy e) (qH : uD e) (tZ : vR e) : pN e := by
  have S := ya
  exact T.Ai.okD S (fun ds μ Q h => x6 h) (fun cdv A outer s H E hr => ⟨k0, (aj (jC (ah aL (hr.mono (by decide)) rfl T.cA T.cE T.cG (aa (dv 0) (aa (dv 1) af))))
    (aj (jC (ah aL (hr.mono (by decide)) rfl T.cA T.cE T.cG (aa (dv 0) (aa (dv 2) af))))
    (aj (cj (aY (eL hr.units) cI (aA (ah aZ (hr.mono (by decide)) rfl T.cF T.cD T.cB (aa (dv 0) (aa (dv 1) (aa (dv 1) af)))) ag (fun _ _ => rfl)) ag (aN _)) (au (aH (i := 3) S.nd rfl (Or.inl rfl) (bN (aa (ah gj (hr.mono (by decide)) rfl T.qG T.p6 T.qy (aa (dv 0) (aa (dv 2) (aa (dv 1) af)))) (aa (fL rfl T.ko) af))))) (au (aH (i := 3) S.nd rfl (Or.inl rfl) (ah gx (hr.mono (by decide)) rfl T.uz T.uN T.uS (aa (dv 0) (aa (dv 1) (aa (ah bV (hr.mono (by decide)) rfl T.hV T.ic T.ik (aa (dv 0) (aa (dv 1) af))) (aa (dv 2) af))))))))
    (aj (cj (dc (vx rfl rfl T.BF (aa (kE (N' := ["share", "d"]) (cap := [none, some 0]) rfl (mq (dv 3)) (fun _ _ _ => (aW (i := 0) (show List.Nodup (["share", "d"] : List Str) by decide +kernel) rfl (Or.inl rfl))) (fun _ _ _ => iS) (fun _ _ _ => (ah qH (hr.mono (by decide)) rfl T.Dy T.CJ T.CB (aa (dv 1) (aa (dv 0) af)))) rfl (by decide +kernel) rfl (by decide +kernel) (by intro _ _ h; first | exact h | exact cl1 h | exact cl2 (by decide +kernel) h | exact cl3 (by decide +kernel) h | exact da (cu rfl gD) _ _ h | exact da (cu rfl (cu rfl gD)) _ _ h | exact da (cu rfl (cu rfl (cu rfl gD))) _ _ h | cases h) (kX rfl) rfl (jb ⟨sh, trivial⟩)) af))) (au (aD (bN (aa gX (aa (aA (dv 3) ag (fun _ _ => rfl)) (aa (aA (dv 3) ag (fun _ _ => rfl)) af)))))) bj)
    (au (aD (bN (aa gX (aa (ah tZ (hr.mono (by decide)) rfl T.Ge T.E6 T.Fm (aa (dv 0) (aa (dv 1) (aa (dv 2) af)))) af))))))))), fun ds μ Qd h => xA h⟩)
theorem xE : aG ["d", "kind", "other", "a", "b", "c", "other_a", "other_b", "other_c"] ["d", "kind", "other"] (aC fi) := ⟨rfl, rfl, rfl, by decide +kernel, rfl, by decide +kernel, by decide +kernel⟩
theorem xF (T : TX e) (fU : l4 e) : pQ e := by
  have S := xE
  exact T.zu.okD S (fun ds μ Q h => Dr h) (fun cdv A outer s H E hr => ⟨lr, (aj (j7 (ah fU (hr.mono (by decide)) rfl T.ng T.nj T.nt (aa (dv 0) (aa (dv 1) af))) (mr (n := 3) rfl (bG (aW (i := 3) S.nd rfl (Or.inl rfl)) (bG (aW (i := 4) S.nd rfl (Or.inl rfl)) (bG (aW (i := 5) S.nd rfl (Or.inl rfl)) jr)))))
    (aj (j7 (ah fU (hr.mono (by decide)) rfl T.ng T.nj T.nt (aa (dv 0) (aa (dv 2) af))) (mr (n := 3) rfl (bG (aW (i := 6) S.nd rfl (Or.inl rfl)) (bG (aW (i := 7) S.nd rfl (Or.inl rfl)) (bG (aW (i := 8) S.nd rfl (Or.inl rfl)) jr)))))
    (au (aD (eC kG fG (aP (qo rfl T.wV (aa (dv 3) af)) (dv 8)) (aP (qo rfl T.wV (aa (dv 6) af)) (dv 5)) (aN _)))))), fun ds μ Qd h => xk h⟩)
theorem vc : aG ["d", "kinds", "shape", "signs", "first", "first_plan", "second", "second_plan", "is_contrary", "u", "v", "plan"] ["d", "kinds", "shape"] (aC dQ) := ⟨rfl, rfl, rfl, by decide +kernel, rfl, by decide +kernel, by decide +kernel⟩
theorem uU (T : TX e) (fz : kN e) (dM : iP e) (cN : fI e) (gx : mB e) (bV : gy e) (cY : gG e) : nr e := by
  have S := vc
  exact T.wQ.okD S (fun ds μ Q h => Ck h) (fun cdv A outer s H E hr => ⟨i5, (aj (aH (i := 3) S.nd rfl (Or.inl rfl) (ah fz (hr.mono (by decide)) rfl T.rM T.rz T.sH (aa (dv 0) (aa (dv 1) af))))
    (aj (j7 (ah dM (hr.mono (by decide)) rfl T.jn T.jj T.jm (aa (dv 0) (aa (dv 1) (aa (BH (dv 3) ag) af)))) (mr (n := 2) rfl (bG (aW (i := 4) S.nd rfl (Or.inl rfl)) (bG (aW (i := 5) S.nd rfl (Or.inl rfl)) jr))))
    (aj (j7 (ah dM (hr.mono (by decide)) rfl T.jn T.jj T.jm (aa (dv 0) (aa (dv 1) (aa (BH (dv 3) (mW ag)) af)))) (mr (n := 2) rfl (bG (aW (i := 6) S.nd rfl (Or.inl rfl)) (bG (aW (i := 7) S.nd rfl (Or.inl rfl)) jr))))
    (aj (aH (i := 8) S.nd rfl (Or.inl rfl) (ah cN (hr.mono (by decide)) rfl T.jX T.j4 T.jW (aa (dv 2) af)))
    (aj (j7 (ah gx (hr.mono (by decide)) rfl T.uz T.uN T.uS (aa (dv 0) (aa (dv 4) (aa (dv 6) (aa (uC (dc (dv 8)) (ah bV (hr.mono (by decide)) rfl T.hV T.ic T.ik (aa (dv 0) (aa (dv 2) af))) (dv 2)) af))))) (mr (n := 2) rfl (bG (aW (i := 9) S.nd rfl (Or.inl rfl)) (bG (aW (i := 10) S.nd rfl (Or.inl rfl)) jr))))
    (aj (aH (i := 11) S.nd rfl (Or.inl rfl) (ah cY (hr.mono (by decide)) rfl T.lN T.lQ T.lz (aa (dv 9) (aa (dv 5) (aa (dv 10) (aa (dv 7) af))))))
    (au (aD (uC (dc (dv 8)) (bN (aa gX (aa (dv 11) af))) (dv 11)))))))))), fun ds μ Qd h => u7 h⟩)
theorem Fw : aG ["d", "kinds", "shape", "thing", "width", "weights", "kind"] ["d", "kinds", "shape", "thing"] (aC lS) := ⟨rfl, rfl, rfl, by decide +kernel, rfl, by decide +kernel, by decide +kernel⟩
theorem Fj (T : TX e) (bZ : eT e) (aL : cp e) (bL : d5 e) (l7 : pL e) (iJ : oF e) (bV : gy e) (bI : gk e) (ue : vA e) (aZ : gZ e) : yb e := by
  have S := Fw
  exact T.Io.okD S (fun ds μ Q h => Dw h) (fun cdv A outer s H E hr => ⟨tM, (aj (jC (ah bZ (hr.mono (by decide)) rfl T.jf T.iY T.iW (aa (dv 0) (aa (dv 1) af))))
    (aj (jC (ah aL (hr.mono (by decide)) rfl T.cA T.cE T.cG (aa (dv 0) (aa (dv 2) af))))
    (aj (cj (DW.dt (lC (fE (dc (sS (kit_tuple _) rfl T.eQ rfl T.md PyProof.Rows.Boot.«tuple» (dv 3)))) (jU (aY (kd hr.units) cI (ir rfl T.lP (aa (dv 3) af)) ag (aN _))))) (au (aD j5)) bj)
    (aj (j7 (dv 3) (mr (n := 2) rfl (bG (aW (i := 4) S.nd rfl (Or.inl rfl)) (bG (aW (i := 5) S.nd rfl (Or.inl rfl)) jr))))
    (aj (cj (DW.dt (lC (fE (dc (ah bL (hr.mono (by decide)) rfl T.gR T.gW T.gJ (aa (dv 0) (aa (dv 4) af))))) (jU (fE (dc (ah l7 (hr.mono (by decide)) rfl T.zY T.zE T.Ap (aa (dv 5) af))))))) (au (aD j5)) bj)
    (aj (tu PassesOwn.never rfl (mq (dv 1)) (aW (i := 6) S.nd rfl (Or.inl rfl)) (au (cj (DW.dt (lC (fE (dc (ah iJ (hr.mono (by decide)) rfl T.pP T.pZ T.pY (aa (dv 0) (aa (dv 5) (aa (dv 6) af)))))) (jU (fE (dc (ah iJ (hr.mono (by decide)) rfl T.pP T.pZ T.pY (aa (dv 0) (aa (dv 5) (aa (ah bV (hr.mono (by decide)) rfl T.hV T.ic T.ik (aa (dv 0) (aa (dv 6) af))) af))))))))) (au (aD j5)) bj)))
    (au (aD (eC nZ fG (ah bI (hr.mono (by decide)) rfl T.fc T.fg T.fw (aa (dv 0) (aa (ah ue (hr.mono (by decide)) rfl T.Fn T.Fx T.E7 (aa (dv 0) (aa (dv 5) (aa (dv 4) (aa (ah aZ (hr.mono (by decide)) rfl T.cF T.cD T.cB (aa (dv 0) (aa (dv 2) (aa (dv 4) af)))) af))))) af))) ag (aN _)))))))))), fun ds μ Qd h => FH h⟩)
theorem xt : aG ["d", "kinds", "signs", "most", "place"] ["d", "kinds"] (aC eY) := ⟨rfl, rfl, rfl, by decide +kernel, rfl, by decide +kernel, by decide +kernel⟩
theorem xI (T : TX e) (bZ : eT e) (fz : kN e) (mP : pQ e) : kY e := by
  have S := xt
  exact T.y8.okD S (fun ds μ Q h => DM h) (fun cdv A outer s H E hr => ⟨k8, (aj (jC (ah bZ (hr.mono (by decide)) rfl T.jf T.iY T.iW (aa (dv 0) (aa (dv 1) af))))
    (aj (aH (i := 2) S.nd rfl (Or.inl rfl) (ah fz (hr.mono (by decide)) rfl T.rM T.rz T.sH (aa (dv 0) (aa (dv 1) af))))
    (aj (cj (DW.dt (tT (aY (CL hr.units) zq ag (dv 2) (by with_unfolding_all rfl)) (pC (aY (CL hr.units) zq (mW ag) (dv 2) (by with_unfolding_all rfl))))) (au (aD C4)) bj)
    (aj (aH (i := 3) S.nd rfl (Or.inl rfl) ag)
    (aj (tu PassesOwn.never rfl (EW rfl T.qO (aa ag (aa (ir rfl T.lP (aa (dv 1) af)) af))) (aW (i := 4) S.nd rfl (Or.inl rfl)) (au (cj (dc (ah mP (hr.mono (by decide)) rfl T.yA T.yG T.zG (aa (dv 0) (aa (aA (dv 1) (dv 4) (fun _ _ => rfl)) (aa (aA (dv 1) (dv 3) (fun _ _ => rfl)) af))))) (au (aH (i := 3) S.nd rfl (Or.inl rfl) (dv 4))) bj)))
    (au (aD (dv 3)))))))), fun ds μ Qd h => xY h⟩)
theorem yR : aG ["d", "kinds", "shape", "place", "told"] ["d", "kinds", "shape"] (aC gu) := ⟨rfl, rfl, rfl, by decide +kernel, rfl, by decide +kernel, by decide +kernel⟩
theorem zf (T : TX e) (bZ : eT e) (aL : cp e) (fq : kY e) (kh : nr e) (mf : pN e) (gL : jY e) : l5 e := by
  have S := yR
  exact T.AH.okD S (fun ds μ Q h => Dh h) (fun cdv A outer s H E hr => ⟨mK, (aj (jC (ah bZ (hr.mono (by decide)) rfl T.jf T.iY T.iW (aa (dv 0) (aa (dv 1) af))))
    (aj (jC (ah aL (hr.mono (by decide)) rfl T.cA T.cE T.cG (aa (dv 0) (aa (dv 2) af))))
    (aj (aH (i := 3) S.nd rfl (Or.inl rfl) (ah fq (hr.mono (by decide)) rfl T.rB T.qU T.sL (aa (dv 0) (aa (dv 1) af))))
    (aj (cj (aY D7 G7 (dv 3) C4 (aN _)) (au (aD (bN (aa gX (aa (ah kh (hr.mono (by decide)) rfl T.wo T.wm T.wj (aa (dv 0) (aa (dv 1) (aa (dv 2) af)))) af))))) bj)
    (aj (aH (i := 4) S.nd rfl (Or.inl rfl) (ah mf (hr.mono (by decide)) rfl T.Ab T.zo T.As (aa (dv 0) (aa (aA (dv 1) (dv 3) (fun _ _ => rfl)) (aa (dv 2) af)))))
    (aj (cj (aY (eL hr.units) cI (aA (dv 4) ag (fun _ _ => rfl)) gX (aN _)) (au (aD (dv 4))) bj)
    (au (aD (bN (aa gX (aa (ah gL (hr.mono (by decide)) rfl T.qY T.sA T.rH (aa (aA (dv 4) ag (fun _ _ => rfl)) (aa (aA (dv 4) ag (fun _ _ => rfl)) (aa (dv 3) af)))) af))))))))))), fun ds μ Qd h => Av h⟩)
theorem DP : aG ["d", "kinds", "shape"] ["d", "kinds", "shape"] (aC jP) := ⟨rfl, rfl, rfl, by decide +kernel, rfl, by decide +kernel, by decide +kernel⟩
theorem Cd (T : TX e) (gp : l5 e) : p7 e := by
  have S := DP
  exact T.FV.okD S (fun ds μ Q h => DJ h) (fun cdv A outer s H E hr => ⟨qe, (au (aD (eC (eL hr.units) cI (aA (ah gp (hr.mono (by decide)) rfl T.uR T.uP T.uT (aa (dv 0) (aa (dv 1) (aa (dv 2) af)))) ag (fun _ _ => rfl)) gX (aN _)))), fun ds μ Qd h => CT h⟩)
theorem tG : aG ["_law_d", "_law_kinds_here", "_law_shape_here", "_law_other", "_law_part", "_law_told", "_law_laid", "_law_some", "_law_place", "_law_turned_kinds", "_law_grown", "_law_more"] ["_law_d", "_law_kinds_here", "_law_shape_here", "_law_other", "_law_part"] (aC dn) := ⟨rfl, rfl, rfl, by decide +kernel, rfl, by decide +kernel, by decide +kernel⟩
theorem tW (T : TX e) (gp : l5 e) (cM : p7 e) (fq : kY e) (bB : dW e) (aS : fM e) (dA : mY e) (vI : yb e) : lM e := by
  have S := tG
  exact T.uV.okD S (fun ds μ Q h => wC h) (fun cdv A outer s H E hr => ⟨ij, (aj (aH (i := 5) S.nd rfl (Or.inr rfl) (ah gp (hr.mono (by decide)) rfl T.uR T.uP T.uT (aa (dv 0) (aa (dv 1) (aa (dv 2) af)))))
    (aj (aH (i := 6) S.nd rfl (Or.inl rfl) (eC (eL hr.units) cI (aA (dv 5) ag (fun _ _ => rfl)) gX (aN _)))
    (aj (Ex (i := 7) (N' := ["_law_at", "_law_kinds_here", "_law_d", "_law_shape_here"]) (cap := [none, some 1, some 0, some 2]) S.nd rfl rfl rfl (zw rfl T.qO (aa (ir rfl T.lP (aa (dv 1) af)) af)) (fun _ _ _ => (aW (i := 0) (show List.Nodup (["_law_at", "_law_kinds_here", "_law_d", "_law_shape_here"] : List Str) by decide +kernel) rfl (Or.inl rfl))) (fun _ _ _ => (Bp (aY kG fG (ir rfl T.lP (aa (dv 1) af)) ag (aN _)))) (fun _ _ _ => (ah cM (hr.mono (by decide)) rfl T.dS T.dR T.dU (aa (dv 2) (aa (Ah (lE (dv 1) oP (pj (dv 0))) (lE (dv 1) (pj (d8 (dv 0) ag)) oP)) (aa (dv 3) af))))) rfl (by decide +kernel) rfl (by decide +kernel) (by intro _ _ h; first | exact h | exact cl1 h | exact cl2 (by decide +kernel) h | exact cl3 (by decide +kernel) h | exact da (cu rfl gD) _ _ h | exact da (cu rfl (cu rfl gD)) _ _ h | exact da (cu rfl (cu rfl (cu rfl gD))) _ _ h | cases h) (kX rfl) rfl (jb ⟨sh, ⟨sh, ⟨sh, trivial⟩⟩⟩))
    (aj (cj (DW.dt (lC (aY (kd hr.units) cI (ah cM (hr.mono (by decide)) rfl T.dS T.dR T.dU (aa (dv 0) (aa (dv 1) (aa (dv 2) af)))) (dv 6) (aN _)) (jU (DW.dt (tT (aY (CL hr.units) zq j5 (dv 7) (by with_unfolding_all rfl)) (pC (fE (dc (dv 6))))))))) (au (aD j5)) bj)
    (aj (aH (i := 8) S.nd rfl (Or.inl rfl) (ah fq (hr.mono (by decide)) rfl T.rB T.qU T.sL (aa (dv 0) (aa (dv 1) af))))
    (aj (cj (aY (kd hr.units) cI (dv 6) (Lj (eC D7 G7 (dv 8) C4 (aN _)) (qm (ah cM (hr.mono (by decide)) rfl T.dS T.dR T.dU (aa (dv 0) (aa (lE (lE (dv 1) (pj (dv 8)) oP) oP (pj ag)) (aa (dv 2) af)))))) (aN _)) (au (aD j5)) bj)
    (aj (aH (i := 9) S.nd rfl (Or.inl rfl) (wN rfl T.md (aa (kE (N' := ["_law_kind", "_law_d"]) (cap := [none, some 0]) rfl (mq (dv 1)) (fun _ _ _ => (aW (i := 0) (show List.Nodup (["_law_kind", "_law_d"] : List Str) by decide +kernel) rfl (Or.inl rfl))) (fun _ _ _ => iS) (fun _ _ _ => (ah bB (hr.mono (by decide)) rfl T.ej T.d9 T.eu (aa (dv 1) (aa (dv 0) af)))) rfl (by decide +kernel) rfl (by decide +kernel) (by intro _ _ h; first | exact h | exact cl1 h | exact cl2 (by decide +kernel) h | exact cl3 (by decide +kernel) h | exact da (cu rfl gD) _ _ h | exact da (cu rfl (cu rfl gD)) _ _ h | exact da (cu rfl (cu rfl (cu rfl gD))) _ _ h | cases h) (kX rfl) rfl (jb ⟨sh, trivial⟩)) af)))
    (aj (aH (i := 10) S.nd rfl (Or.inl rfl) (wN rfl T.md (aa (kE (N' := ["_law_kind", "_law_d", "_law_part"]) (cap := [none, some 0, some 4]) rfl (mq (dv 1)) (fun _ _ _ => (aW (i := 0) (show List.Nodup (["_law_kind", "_law_d", "_law_part"] : List Str) by decide +kernel) rfl (Or.inl rfl))) (fun _ _ _ => iS) (fun _ _ _ => (ah aS (hr.mono (by decide)) rfl T.bT T.bR T.bS (aa (dv 1) (aa (dv 0) (aa (dv 2) af))))) rfl (by decide +kernel) rfl (by decide +kernel) (by intro _ _ h; first | exact h | exact cl1 h | exact cl2 (by decide +kernel) h | exact cl3 (by decide +kernel) h | exact da (cu rfl gD) _ _ h | exact da (cu rfl (cu rfl gD)) _ _ h | exact da (cu rfl (cu rfl (cu rfl gD))) _ _ h | cases h) (kX rfl) rfl (jb ⟨sh, ⟨sh, trivial⟩⟩)) af)))
    (aj (tu PassesOwn.never rfl (D0 (lE (gO (aa (dv 9) (aa (dv 10) (aa (Ah (dv 1) (lE (dv 1) oP (pj ag))) af)))) oP (pj (Ah ag (lZ rfl T.w4 (aa (eC nZ fG (ir rfl T.lP (aa (dv 1) af)) ag (aN _)) af)))))) (aW (i := 11) S.nd rfl (Or.inl rfl)) (au (cj (DW.dt (lC (aY (kd hr.units) cI (ah cM (hr.mono (by decide)) rfl T.dS T.dR T.dU (aa (dv 0) (aa (dv 11) (aa (dv 2) af)))) (dv 6) (aN _)) (jU (aY (kd hr.units) cI (ah cM (hr.mono (by decide)) rfl T.dS T.dR T.dU (aa (dv 0) (aa (dv 11) (aa (ah aS (hr.mono (by decide)) rfl T.bT T.bR T.bS (aa (dv 0) (aa (dv 2) (aa (dv 4) af)))) af)))) (dv 6) (aN _))))) (au (aD j5)) bj)))
    (aj (cj (DW.dt (tT (dc (dv 6)) (pC (dc (ah cM (hr.mono (by decide)) rfl T.dS T.dR T.dU (aa (dv 0) (aa (dv 1) (aa (dv 3) af)))))))) (au (aD (ah cM (hr.mono (by decide)) rfl T.dS T.dR T.dU (aa (dv 0) (aa (dv 1) (aa (ah dA (hr.mono (by decide)) rfl T.iO T.iQ T.iU (aa (dv 2) (aa (dv 3) af))) af)))))) bj)
    (au (aD (Lj (dv 6) (qm (vx rfl rfl T.BF (aa (kE (N' := ["_law_kind", "_law_d", "_law_shape_here", "_law_told"]) (cap := [none, some 0, some 2, some 5]) rfl (mq (dv 1)) (fun _ _ _ => (aW (i := 0) (show List.Nodup (["_law_kind", "_law_d", "_law_shape_here", "_law_told"] : List Str) by decide +kernel) rfl (Or.inl rfl))) (fun _ _ _ => iS) (fun _ _ _ => (ah vI (hr.mono (by decide)) rfl T.GH T.IJ T.GY (aa (dv 1) (aa (bN (aa (dv 0) af)) (aa (dv 2) (aa (aA (dv 3) ag (fun _ _ => rfl)) af)))))) rfl (by decide +kernel) rfl (by decide +kernel) (by intro _ _ h; first | exact h | exact cl1 h | exact cl2 (by decide +kernel) h | exact cl3 (by decide +kernel) h | exact da (cu rfl gD) _ _ h | exact da (cu rfl (cu rfl gD)) _ _ h | exact da (cu rfl (cu rfl (cu rfl gD))) _ _ h | cases h) (kX rfl) rfl (jb ⟨sh, ⟨sh, ⟨sh, trivial⟩⟩⟩)) af)))))))))))))))), fun ds μ Qd h => um h⟩)
theorem L5 : aG ["_law_script", "_law_k", "_law_bag_here", "_law_d", "_law_kinds_here", "_law_shape_here", "_law_other", "_law_part", "_law_one"] ["_law_script"] (aC p4) := ⟨rfl, rfl, rfl, by decide +kernel, rfl, by decide +kernel, by decide +kernel⟩
theorem Mr (T : TX e) (qq : uM e) (nC : rV e) (mU : pO e) (jx : pT e) (cR : ia e) (bB : dW e) (aS : fM e) (cM : p7 e) (jd : lM e) : GQ e := by
  have S := L5
  exact T.NH.okD S (fun ds μ Q h => FO h) (fun cdv A outer s H E hr => ⟨CC, (aj (tu PassesOwn.never rfl (zw rfl T.qO (aa (Lu rfl rfl T.Of (aa ag (aa (LR rfl rfl T.NV (aa ag (aa (ir rfl T.lP (aa (dv 0) af)) af))) af))) af)) (aW (i := 1) S.nd rfl (Or.inl rfl)) (aj (aH (i := 2) S.nd rfl (Or.inl rfl) (ah qq (hr.mono (by decide)) rfl T.Cn T.CP T.Cf (aa (dv 0) (aa (dv 1) af))))
    (aj (aH (i := 3) S.nd rfl (Or.inr rfl) (ah nC (hr.mono (by decide)) rfl T.AV T.Bt T.AY (aa (dv 2) af)))
    (aj (aH (i := 4) S.nd rfl (Or.inr rfl) (ah mU (hr.mono (by decide)) rfl T.zh T.zk T.Aj (aa (dv 2) (aa (dv 3) af))))
    (aj (qr (i := 5) (j := 6) rfl S.nd rfl rfl (by decide) rfl rfl (aa (ah jx (hr.mono (by decide)) rfl T.qX T.rj T.sG (aa (dv 2) (aa (dv 3) (aa (dv 4) af)))) (aa (ah jx (hr.mono (by decide)) rfl T.qX T.rj T.sG (aa (dv 2) (aa (dv 3) (aa (dv 4) af)))) af)) rfl)
    (aj (aH (i := 7) S.nd rfl (Or.inl rfl) (ah cR (hr.mono (by decide)) rfl T.iX T.i4 T.i9 (aa (dv 2) af)))
    (aj (tu PassesOwn.never rfl (D0 (gO (aa (dv 5) (aa (ah bB (hr.mono (by decide)) rfl T.ej T.d9 T.eu (aa (dv 3) (aa (dv 5) af))) (aa (ah aS (hr.mono (by decide)) rfl T.bT T.bR T.bS (aa (dv 3) (aa (dv 5) (aa (dv 7) af)))) af))))) (aW (i := 8) S.nd rfl (Or.inl rfl)) (au (cj (DW.dt (lC (aY (kd hr.units) cI (ah cM (hr.mono (by decide)) rfl T.dS T.dR T.dU (aa (dv 3) (aa (dv 4) (aa (dv 8) af)))) (ah cM (hr.mono (by decide)) rfl T.dS T.dR T.dU (aa (dv 3) (aa (dv 4) (aa (dv 5) af)))) (aN _)) (jU (fE (dc (ah jd (hr.mono (by decide)) rfl T.u6 T.u4 T.uY (aa (dv 3) (aa (dv 4) (aa (dv 8) (aa (dv 6) (aa (dv 7) af))))))))))) (au (aD j5)) bj)))
    (au (cj (fE (dc (vx rfl rfl T.BF (aa (kE (N' := ["_law_kind", "_law_d", "_law_kinds_here"]) (cap := [none, some 3, some 4]) rfl (mq (dv 4)) (fun _ _ _ => (aW (i := 0) (show List.Nodup (["_law_kind", "_law_d", "_law_kinds_here"] : List Str) by decide +kernel) rfl (Or.inl rfl))) (fun _ _ _ => iS) (fun _ _ _ => (vy (ah cM (hr.mono (by decide)) rfl T.dS T.dR T.dU (aa (dv 1) (aa (dv 2) (aa (dv 0) af)))) (qm (ah cM (hr.mono (by decide)) rfl T.dS T.dR T.dU (aa (dv 1) (aa (dv 2) (aa (ah bB (hr.mono (by decide)) rfl T.ej T.d9 T.eu (aa (dv 1) (aa (dv 0) af))) af))))))) rfl (by decide +kernel) rfl (by decide +kernel) (by intro _ _ h; first | exact h | exact cl1 h | exact cl2 (by decide +kernel) h | exact cl3 (by decide +kernel) h | exact da (cu rfl gD) _ _ h | exact da (cu rfl (cu rfl gD)) _ _ h | exact da (cu rfl (cu rfl (cu rfl gD))) _ _ h | cases h) (kX rfl) rfl (jb ⟨sh, ⟨sh, trivial⟩⟩)) af)))) (au (aD j5)) bj)))))))))
    (au (aD j5))), fun ds μ Qd h => MG h⟩)
theorem LJ (T : TX e) : GQ e := by
  have jS := B5 T
  have eV := rL T
  have cO := aB T
  have dk := sO T
  have eR := xp T
  have cN := pD T
  have qq := AE T
  have aI := ze T
  have iL := vQ T
  have mT := xX T
  have nF := zU T
  have cZ := rC T eV
  have bI := C9 T dk
  have qs := AX T dk
  have cY := rE T eR
  have bK := Ba T iL
  have nC := yF T aI
  have gw := zO T jS cZ
  have df := Fi T cZ
  have qH := Ca T bI
  have gL := qc T cY
  have fz := xr T bI cO
  have dA := yQ T bK
  have aS := xj T bK
  have bB := tY T bK
  have kT := vw T aI bK
  have cR := sR T aI bK
  have gK := aT T df
  have tf := kB T df
  have aZ := ai T df
  have bV := az T df
  have bL := qj T gw bI
  have l7 := xC T gw
  have dz := xy T kT nF aI mT
  have gj := Kq T aZ bV
  have aL := lT T bL
  have qE := AO T bL
  have zH := bX T tf cO gK
  have dM := nB T cN bV
  have ue := CV T gK aZ cO
  have iJ := vB T aZ cO bI gK qs
  have mU := xM T dz aI bB aS bK
  have jx := xg T aI cR bB dz aS dA
  have bZ := tm T qE
  have fU := ui T aL gK cO gj aZ
  have gx := zV T gj df tf aZ
  have tZ := Cz T bI cO zH gj aZ
  have mf := xZ T aL aZ gj gx bV qH tZ
  have mP := xF T fU
  have kh := uU T fz dM cN gx bV cY
  have vI := Fj T bZ aL bL l7 iJ bV bI ue aZ
  have fq := xI T bZ fz mP
  have gp := zf T bZ aL fq kh mf gL
  have cM := Cd T gp
  have jd := tW T gp cM fq bB aS dA vI
  exact Mr T qq nC mU jx cR bB aS cM jd
end
theorem all_mk {l : PySem.W.OpenLaw} {w : World} {K : PySem.W.Frag} {h : Heap} {mg : Str → Option Value} {fa : Addr} (X : K.In h) (G : h.Ns mainGlobals mg) (hfa : mg "law" = some (.ref fa))
    {f0 c0 f1 c1 f2 c2 f3 c3 f4 c4 f5 c5 f6 c6 f7 c7 f8 c8 f9 c9 f10 c10 f11 c11 f12 c12 f13 c13 f14 c14 f15 c15 f16 c16 f17 c17 f18 c18 f19 c19 f20 c20 f21 c21 f22 c22 f23 c23 f24 c24 f25 c25 f26 c26 f27 c27 f28 c28 f29 c29 f30 c30 f31 c31 f32 c32 f33 c33 f34 c34 f35 c35 f36 c36 f37 c37 f38 c38 f39 c39 f40 c40 f41 c41 f42 c42 f43 c43 f44 c44 f45 c45 f46 c46 f47 c47 f48 c48 f49 c49 f50 c50 f51 c51 f52 c52 f53 c53 f54 c54 f55 c55 : Addr} {t0 t1 t2 t3 t4 t5 t6 t7 t8 t9 t10 t11 t12 t13 t14 t15 t16 t17 t18 t19 t20 t21 t22 t23 t24 t25 t26 t27 t28 t29 t30 t31 t32 t33 t34 t35 t36 t37 t38 t39 t40 t41 t42 t43 t44 t45 t46 t47 t48 t49 t50 t51 t52 t53 t54 t55 : Tok} {m0 m1 m2 m3 m4 m5 m6 m7 m8 m9 m10 m11 m12 m13 m14 m15 m16 m17 m18 m19 m20 m21 m22 m23 m24 m25 m26 m27 m28 m29 m30 m31 m32 m33 m34 m35 m36 m37 m38 m39 m40 m41 m42 m43 m44 m45 m46 m47 m48 m49 m50 m51 m52 m53 m54 m55 : Str} {q0 : Tok} {g1 : Addr} {go1 : Option Addr} {q1a q1b q1c : Tok} {gn1 : Nat} {gs1 : Array (Option Value)} {g2 : Addr} {go2 : Option Addr} {q2a q2b q2c : Tok} {gn2 : Nat} {gs2 : Array (Option Value)}
    (a0 : FQ K "is_whole" iF f0 c0 t0 m0)
    (a1 : FQ K "common_divisor" cV f1 c1 t1 m1)
    (a2 : FQ K "is_number" gv f2 c2 t2 m2)
    (a3 : FQ K "divisor_of_all" cW f3 c3 t3 m3)
    (a4 : FQ K "number" lD f4 c4 t4 m4)
    (a5 : FQ K "mate" sZ f5 c5 t5 m5)
    (a6 : FQ K "plus" tw f6 c6 t6 m6)
    (a7 : FQ K "less" tQ f7 c7 t7 m7)
    (a8 : FQ K "times" o9 f8 c8 t8 m8)
    (a9 : FQ K "over" tN f9 c9 t9 m9)
    (a10 : FQ K "contrary" iE f10 c10 t10 m10)
    (a11 : FQ K "sign_of" jO f11 c11 t11 m11)
    (a12 : FQ K "sign_of_parts" dq f12 c12 t12 m12)
    (a13 : FQ K "is_above" ix f13 c13 t13 m13)
    (a14 : FQ K "is_above_nought" cP f14 c14 t14 m14)
    (a15 : FQ K "must_be_above_nought" bQ f15 c15 t15 m15)
    (a16 : FQ K "is_kinds" ig f16 c16 t16 m16)
    (a17 : FQ K "must_be_kinds" dm f17 c17 t17 m17)
    (a18 : FQ K "lean_fraction" dj f18 c18 t18 m18)
    (a19 : FQ K "mixture_of" eU f19 c19 t19 m19)
    (a20 : FQ K "shares_of" gC f20 c20 t20 m20)
    (a21 : FQ K "is_share" iq f21 c21 t21 m21)
    (a22 : FQ K "bar_for" jN f22 c22 t22 m22)
    (a23 : FQ K "skew" tS f23 c23 t23 m23)
    (a24 : FQ K "plan_of_mixture" cQ f24 c24 t24 m24)
    (a25 : FQ K "plan_of_shares" cX f25 c25 t25 m25)
    (a26 : FQ K "share_plan" fA f26 c26 t26 m26)
    (a27 : FQ K "wish_told" gu f27 c27 t27 m27)
    (a28 : FQ K "is_laid" jP f28 c28 t28 m28)
    (a29 : FQ K "leans_most" eY f29 c29 t29 m29)
    (a30 : FQ K "mate_signs" eZ f30 c30 t30 m30)
    (a31 : FQ K "leans_more" fi f31 c31 t31 m31)
    (a32 : FQ K "plan_by_both" dQ f32 c32 t32 m32)
    (a33 : FQ K "with_greater_mate" cH f33 c33 t33 m33)
    (a34 : FQ K "has_greater_mate" cL f34 c34 t34 m34)
    (a35 : FQ K "is_weights" fe f35 c35 t35 m35)
    (a36 : FQ K "weighed" jM f36 c36 t36 m36)
    (a37 : FQ K "never_below" ez f37 c37 t37 m37)
    (a38 : FQ K "is_bar" lS f38 c38 t38 m38)
    (a39 : FQ K "_law_bag" ip f39 c39 t39 m39)
    (a40 : FQ K "_law_take" gn f40 c40 t40 m40)
    (a41 : FQ K "_law_shared" eB f41 c41 t41 m41)
    (a42 : FQ K "_law_low" il f42 c42 t42 m42)
    (a43 : FQ K "_law_plus" gB f43 c43 t43 m43)
    (a44 : FQ K "_law_minus" eW f44 c44 t44 m44)
    (a45 : FQ K "_law_times" eS f45 c45 t45 m45)
    (a46 : FQ K "_law_contrary" di f46 c46 t46 m46)
    (a47 : FQ K "_law_sign" gA f47 c47 t47 m47)
    (a48 : FQ K "_law_root" gz f48 c48 t48 m48)
    (a49 : FQ K "_law_number" eA f49 c49 t49 m49)
    (a50 : FQ K "_law_above" fk f50 c50 t50 m50)
    (a51 : FQ K "_law_kinds" fx f51 c51 t51 m51)
    (a52 : FQ K "_law_shape" fo f52 c52 t52 m52)
    (a53 : FQ K "_law_fraction" dr f53 c53 t53 m53)
    (a54 : FQ K "_law_go_along" dn f54 c54 t54 m54)
    (a55 : FQ K "law" p4 f55 c55 t55 m55)
    (z0 : PySem.W.nsIn K mainGlobals "isinstance" = some none)
    (z1 : PySem.W.nsIn K mainGlobals "int" = some none)
    (z2 : PySem.W.nsIn K mainGlobals "bool" = some none)
    (z3 : PySem.W.nsIn K mainGlobals "abs" = some none)
    (z4 : PySem.W.nsIn K mainGlobals "tuple" = some none)
    (z5 : PySem.W.nsIn K mainGlobals "len" = some none)
    (z6 : PySem.W.nsIn K mainGlobals "all" = some none)
    (z7 : PySem.W.nsIn K mainGlobals "range" = some none)
    (z8 : PySem.W.nsIn K mainGlobals "max" = some none)
    (z9 : PySem.W.nsIn K mainGlobals "min" = some none)
    (v0 : PySem.W.nsIn K mainGlobals "MOST_KINDS" = some (some (.int 3 q0)))
    (v1 : PySem.W.nsIn K mainGlobals "NOUGHT" = some (some (.ref g1))) (w1 : K.lookup g1 = some ⟨.type "tuple", go1, .seq #[.int 0 q1a, .int 0 q1b, .int 1 q1c] gn1, gs1⟩)
    (v2 : PySem.W.nsIn K mainGlobals "ONE" = some (some (.ref g2))) (w2 : K.lookup g2 = some ⟨.type "tuple", go2, .seq #[.int 1 q2a, .int 0 q2b, .int 1 q2c] gn2, gs2⟩) :
    ∃ fd : FuncData, (∀ (s : Shared) (v : Value), BindsTo s fd ⟨[v], []⟩ [("_law_script", v)]) ∧ ∀ base : Heap, K.In base → base.Ns mainGlobals mg → bU l.prog w K mg base CX0 12 fa fd ["_law_script"] (spD K wO) := by
  have e := hfa.symm.trans (PySem.W.mg_of X G a55.1)
  cases e
  have F0 := aR (st := iF) a0.2.1 a0.2.2.1 a0.2.2.2
  have b0 := F0.binds (ps := ["thing"]) fun _ _ _ _ _ _ us hl => match us, hl with | [_], _ => rfl
  have F1 := aR (st := cV) a1.2.1 a1.2.2.1 a1.2.2.2
  have b1 := F1.binds (ps := ["a", "b"]) fun _ _ _ _ _ _ us hl => match us, hl with | [_, _], _ => rfl
  have F2 := aR (st := gv) a2.2.1 a2.2.2.1 a2.2.2.2
  have b2 := F2.binds (ps := ["thing"]) fun _ _ _ _ _ _ us hl => match us, hl with | [_], _ => rfl
  have F3 := aR (st := cW) a3.2.1 a3.2.2.1 a3.2.2.2
  have b3 := F3.binds (ps := ["a", "b", "c"]) fun _ _ _ _ _ _ us hl => match us, hl with | [_, _, _], _ => rfl
  have F4 := aR (st := lD) a4.2.1 a4.2.2.1 a4.2.2.2
  have b4 := F4.binds (ps := ["a", "b", "c"]) fun _ _ _ _ _ _ us hl => match us, hl with | [_, _, _], _ => rfl
  have F5 := aR (st := sZ) a5.2.1 a5.2.2.1 a5.2.2.2
  have b5 := F5.binds (ps := ["x"]) fun _ _ _ _ _ _ us hl => match us, hl with | [_], _ => rfl
  have F6 := aR (st := tw) a6.2.1 a6.2.2.1 a6.2.2.2
  have b6 := F6.binds (ps := ["x", "y"]) fun _ _ _ _ _ _ us hl => match us, hl with | [_, _], _ => rfl
  have F7 := aR (st := tQ) a7.2.1 a7.2.2.1 a7.2.2.2
  have b7 := F7.binds (ps := ["x", "y"]) fun _ _ _ _ _ _ us hl => match us, hl with | [_, _], _ => rfl
  have F8 := aR (st := o9) a8.2.1 a8.2.2.1 a8.2.2.2
  have b8 := F8.binds (ps := ["d", "x", "y"]) fun _ _ _ _ _ _ us hl => match us, hl with | [_, _, _], _ => rfl
  have F9 := aR (st := tN) a9.2.1 a9.2.2.1 a9.2.2.2
  have b9 := F9.binds (ps := ["d", "x", "y"]) fun _ _ _ _ _ _ us hl => match us, hl with | [_, _, _], _ => rfl
  have F10 := aR (st := iE) a10.2.1 a10.2.2.1 a10.2.2.2
  have b10 := F10.binds (ps := ["d", "x"]) fun _ _ _ _ _ _ us hl => match us, hl with | [_, _], _ => rfl
  have F11 := aR (st := jO) a11.2.1 a11.2.2.1 a11.2.2.2
  have b11 := F11.binds (ps := ["d", "x"]) fun _ _ _ _ _ _ us hl => match us, hl with | [_, _], _ => rfl
  have F12 := aR (st := dq) a12.2.1 a12.2.2.1 a12.2.2.2
  have b12 := F12.binds (ps := ["d", "a", "b"]) fun _ _ _ _ _ _ us hl => match us, hl with | [_, _, _], _ => rfl
  have F13 := aR (st := ix) a13.2.1 a13.2.2.1 a13.2.2.2
  have b13 := F13.binds (ps := ["d", "x", "y"]) fun _ _ _ _ _ _ us hl => match us, hl with | [_, _, _], _ => rfl
  have F14 := aR (st := cP) a14.2.1 a14.2.2.1 a14.2.2.2
  have b14 := F14.binds (ps := ["d", "thing"]) fun _ _ _ _ _ _ us hl => match us, hl with | [_, _], _ => rfl
  have F15 := aR (st := bQ) a15.2.1 a15.2.2.1 a15.2.2.2
  have b15 := F15.binds (ps := ["d", "thing"]) fun _ _ _ _ _ _ us hl => match us, hl with | [_, _], _ => rfl
  have F16 := aR (st := ig) a16.2.1 a16.2.2.1 a16.2.2.2
  have b16 := F16.binds (ps := ["d", "thing"]) fun _ _ _ _ _ _ us hl => match us, hl with | [_, _], _ => rfl
  have F17 := aR (st := dm) a17.2.1 a17.2.2.1 a17.2.2.2
  have b17 := F17.binds (ps := ["d", "thing"]) fun _ _ _ _ _ _ us hl => match us, hl with | [_, _], _ => rfl
  have F18 := aR (st := dj) a18.2.1 a18.2.2.1 a18.2.2.2
  have b18 := F18.binds (ps := ["d", "shape"]) fun _ _ _ _ _ _ us hl => match us, hl with | [_, _], _ => rfl
  have F19 := aR (st := eU) a19.2.1 a19.2.2.1 a19.2.2.2
  have b19 := F19.binds (ps := ["d", "kind", "shape"]) fun _ _ _ _ _ _ us hl => match us, hl with | [_, _, _], _ => rfl
  have F20 := aR (st := gC) a20.2.1 a20.2.2.1 a20.2.2.2
  have b20 := F20.binds (ps := ["d", "first", "second", "shape"]) fun _ _ _ _ _ _ us hl => match us, hl with | [_, _, _, _], _ => rfl
  have F21 := aR (st := iq) a21.2.1 a21.2.2.1 a21.2.2.2
  have b21 := F21.binds (ps := ["d", "x"]) fun _ _ _ _ _ _ us hl => match us, hl with | [_, _], _ => rfl
  have F22 := aR (st := jN) a22.2.1 a22.2.2.1 a22.2.2.2
  have b22 := F22.binds (ps := ["d", "kind", "shape"]) fun _ _ _ _ _ _ us hl => match us, hl with | [_, _, _], _ => rfl
  have F23 := aR (st := tS) a23.2.1 a23.2.2.1 a23.2.2.2
  have b23 := F23.binds (ps := ["shape", "way"]) fun _ _ _ _ _ _ us hl => match us, hl with | [_, _], _ => rfl
  have F24 := aR (st := cQ) a24.2.1 a24.2.2.1 a24.2.2.2
  have b24 := F24.binds (ps := ["u", "v", "place"]) fun _ _ _ _ _ _ us hl => match us, hl with | [_, _, _], _ => rfl
  have F25 := aR (st := cX) a25.2.1 a25.2.2.1 a25.2.2.2
  have b25 := F25.binds (ps := ["u", "first", "v", "second"]) fun _ _ _ _ _ _ us hl => match us, hl with | [_, _, _, _], _ => rfl
  have F26 := aR (st := fA) a26.2.1 a26.2.2.1 a26.2.2.2
  have b26 := F26.binds (ps := ["share", "plan"]) fun _ _ _ _ _ _ us hl => match us, hl with | [_, _], _ => rfl
  have F27 := aR (st := gu) a27.2.1 a27.2.2.1 a27.2.2.2
  have b27 := F27.binds (ps := ["d", "kinds", "shape"]) fun _ _ _ _ _ _ us hl => match us, hl with | [_, _, _], _ => rfl
  have F28 := aR (st := jP) a28.2.1 a28.2.2.1 a28.2.2.2
  have b28 := F28.binds (ps := ["d", "kinds", "shape"]) fun _ _ _ _ _ _ us hl => match us, hl with | [_, _, _], _ => rfl
  have F29 := aR (st := eY) a29.2.1 a29.2.2.1 a29.2.2.2
  have b29 := F29.binds (ps := ["d", "kinds"]) fun _ _ _ _ _ _ us hl => match us, hl with | [_, _], _ => rfl
  have F30 := aR (st := eZ) a30.2.1 a30.2.2.1 a30.2.2.2
  have b30 := F30.binds (ps := ["d", "kinds"]) fun _ _ _ _ _ _ us hl => match us, hl with | [_, _], _ => rfl
  have F31 := aR (st := fi) a31.2.1 a31.2.2.1 a31.2.2.2
  have b31 := F31.binds (ps := ["d", "kind", "other"]) fun _ _ _ _ _ _ us hl => match us, hl with | [_, _, _], _ => rfl
  have F32 := aR (st := dQ) a32.2.1 a32.2.2.1 a32.2.2.2
  have b32 := F32.binds (ps := ["d", "kinds", "shape"]) fun _ _ _ _ _ _ us hl => match us, hl with | [_, _, _], _ => rfl
  have F33 := aR (st := cH) a33.2.1 a33.2.2.1 a33.2.2.2
  have b33 := F33.binds (ps := ["d", "kinds", "place"]) fun _ _ _ _ _ _ us hl => match us, hl with | [_, _, _], _ => rfl
  have F34 := aR (st := cL) a34.2.1 a34.2.2.1 a34.2.2.2
  have b34 := F34.binds (ps := ["shape"]) fun _ _ _ _ _ _ us hl => match us, hl with | [_], _ => rfl
  have F35 := aR (st := fe) a35.2.1 a35.2.2.1 a35.2.2.2
  have b35 := F35.binds (ps := ["thing"]) fun _ _ _ _ _ _ us hl => match us, hl with | [_], _ => rfl
  have F36 := aR (st := jM) a36.2.1 a36.2.2.1 a36.2.2.2
  have b36 := F36.binds (ps := ["d", "weights", "width", "height"]) fun _ _ _ _ _ _ us hl => match us, hl with | [_, _, _, _], _ => rfl
  have F37 := aR (st := ez) a37.2.1 a37.2.2.1 a37.2.2.2
  have b37 := F37.binds (ps := ["d", "weights", "kind"]) fun _ _ _ _ _ _ us hl => match us, hl with | [_, _, _], _ => rfl
  have F38 := aR (st := lS) a38.2.1 a38.2.2.1 a38.2.2.2
  have b38 := F38.binds (ps := ["d", "kinds", "shape", "thing"]) fun _ _ _ _ _ _ us hl => match us, hl with | [_, _, _, _], _ => rfl
  have F39 := aR (st := ip) a39.2.1 a39.2.2.1 a39.2.2.2
  have b39 := F39.binds (ps := ["_law_script", "_law_at"]) fun _ _ _ _ _ _ us hl => match us, hl with | [_, _], _ => rfl
  have F40 := aR (st := gn) a40.2.1 a40.2.2.1 a40.2.2.2
  have b40 := F40.binds (ps := ["_law_bag_here", "_law_many"]) fun _ _ _ _ _ _ us hl => match us, hl with | [_, _], _ => rfl
  have F41 := aR (st := eB) a41.2.1 a41.2.2.1 a41.2.2.2
  have b41 := F41.binds (ps := ["_law_one", "_law_other"]) fun _ _ _ _ _ _ us hl => match us, hl with | [_, _], _ => rfl
  have F42 := aR (st := il) a42.2.1 a42.2.2.1 a42.2.2.2
  have b42 := F42.binds (ps := ["_law_a", "_law_b", "_law_c"]) fun _ _ _ _ _ _ us hl => match us, hl with | [_, _, _], _ => rfl
  have F43 := aR (st := gB) a43.2.1 a43.2.2.1 a43.2.2.2
  have b43 := F43.binds (ps := ["_law_x", "_law_y"]) fun _ _ _ _ _ _ us hl => match us, hl with | [_, _], _ => rfl
  have F44 := aR (st := eW) a44.2.1 a44.2.2.1 a44.2.2.2
  have b44 := F44.binds (ps := ["_law_x"]) fun _ _ _ _ _ _ us hl => match us, hl with | [_], _ => rfl
  have F45 := aR (st := eS) a45.2.1 a45.2.2.1 a45.2.2.2
  have b45 := F45.binds (ps := ["_law_d", "_law_x", "_law_y"]) fun _ _ _ _ _ _ us hl => match us, hl with | [_, _, _], _ => rfl
  have F46 := aR (st := di) a46.2.1 a46.2.2.1 a46.2.2.2
  have b46 := F46.binds (ps := ["_law_d", "_law_x"]) fun _ _ _ _ _ _ us hl => match us, hl with | [_, _], _ => rfl
  have F47 := aR (st := gA) a47.2.1 a47.2.2.1 a47.2.2.2
  have b47 := F47.binds (ps := ["_law_d", "_law_x"]) fun _ _ _ _ _ _ us hl => match us, hl with | [_, _], _ => rfl
  have F48 := aR (st := gz) a48.2.1 a48.2.2.1 a48.2.2.2
  have b48 := F48.binds (ps := ["_law_bag_here"]) fun _ _ _ _ _ _ us hl => match us, hl with | [_], _ => rfl
  have F49 := aR (st := eA) a49.2.1 a49.2.2.1 a49.2.2.2
  have b49 := F49.binds (ps := ["_law_bag_here"]) fun _ _ _ _ _ _ us hl => match us, hl with | [_], _ => rfl
  have F50 := aR (st := fk) a50.2.1 a50.2.2.1 a50.2.2.2
  have b50 := F50.binds (ps := ["_law_bag_here", "_law_d"]) fun _ _ _ _ _ _ us hl => match us, hl with | [_, _], _ => rfl
  have F51 := aR (st := fx) a51.2.1 a51.2.2.1 a51.2.2.2
  have b51 := F51.binds (ps := ["_law_bag_here", "_law_d"]) fun _ _ _ _ _ _ us hl => match us, hl with | [_, _], _ => rfl
  have F52 := aR (st := fo) a52.2.1 a52.2.2.1 a52.2.2.2
  have b52 := F52.binds (ps := ["_law_bag_here", "_law_d", "_law_kinds_here"]) fun _ _ _ _ _ _ us hl => match us, hl with | [_, _, _], _ => rfl
  have F53 := aR (st := dr) a53.2.1 a53.2.2.1 a53.2.2.2
  have b53 := F53.binds (ps := ["_law_bag_here"]) fun _ _ _ _ _ _ us hl => match us, hl with | [_], _ => rfl
  have F54 := aR (st := dn) a54.2.1 a54.2.2.1 a54.2.2.2
  have b54 := F54.binds (ps := ["_law_d", "_law_kinds_here", "_law_shape_here", "_law_other", "_law_part"]) fun _ _ _ _ _ _ us hl => match us, hl with | [_, _, _, _, _], _ => rfl
  have F55 := aR (st := p4) a55.2.1 a55.2.2.1 a55.2.2.2
  have b55 := F55.binds (ps := ["_law_script"]) fun _ _ _ _ _ _ us hl => match us, hl with | [_], _ => rfl
  have T : Txt K mg ⟨f0, fd "is_whole" iF t0 m0 c0, f1, fd "common_divisor" cV t1 m1 c1, f2, fd "is_number" gv t2 m2 c2, f3, fd "divisor_of_all" cW t3 m3 c3, f4, fd "number" lD t4 m4 c4, f5, fd "mate" sZ t5 m5 c5, f6, fd "plus" tw t6 m6 c6, f7, fd "less" tQ t7 m7 c7, f8, fd "times" o9 t8 m8 c8, f9, fd "over" tN t9 m9 c9, f10, fd "contrary" iE t10 m10 c10, f11, fd "sign_of" jO t11 m11 c11, f12, fd "sign_of_parts" dq t12 m12 c12, f13, fd "is_above" ix t13 m13 c13, f14, fd "is_above_nought" cP t14 m14 c14, f15, fd "must_be_above_nought" bQ t15 m15 c15, f16, fd "is_kinds" ig t16 m16 c16, f17, fd "must_be_kinds" dm t17 m17 c17, f18, fd "lean_fraction" dj t18 m18 c18, f19, fd "mixture_of" eU t19 m19 c19, f20, fd "shares_of" gC t20 m20 c20, f21, fd "is_share" iq t21 m21 c21, f22, fd "bar_for" jN t22 m22 c22, f23, fd "skew" tS t23 m23 c23, f24, fd "plan_of_mixture" cQ t24 m24 c24, f25, fd "plan_of_shares" cX t25 m25 c25, f26, fd "share_plan" fA t26 m26 c26, f27, fd "wish_told" gu t27 m27 c27, f28, fd "is_laid" jP t28 m28 c28, f29, fd "leans_most" eY t29 m29 c29, f30, fd "mate_signs" eZ t30 m30 c30, f31, fd "leans_more" fi t31 m31 c31, f32, fd "plan_by_both" dQ t32 m32 c32, f33, fd "with_greater_mate" cH t33 m33 c33, f34, fd "has_greater_mate" cL t34 m34 c34, f35, fd "is_weights" fe t35 m35 c35, f36, fd "weighed" jM t36 m36 c36, f37, fd "never_below" ez t37 m37 c37, f38, fd "is_bar" lS t38 m38 c38, f39, fd "_law_bag" ip t39 m39 c39, f40, fd "_law_take" gn t40 m40 c40, f41, fd "_law_shared" eB t41 m41 c41, f42, fd "_law_low" il t42 m42 c42, f43, fd "_law_plus" gB t43 m43 c43, f44, fd "_law_minus" eW t44 m44 c44, f45, fd "_law_times" eS t45 m45 c45, f46, fd "_law_contrary" di t46 m46 c46, f47, fd "_law_sign" gA t47 m47 c47, f48, fd "_law_root" gz t48 m48 c48, f49, fd "_law_number" eA t49 m49 c49, f50, fd "_law_above" fk t50 m50 c50, f51, fd "_law_kinds" fx t51 m51 c51, f52, fd "_law_shape" fo t52 m52 c52, f53, fd "_law_fraction" dr t53 m53 c53, f54, fd "_law_go_along" dn t54 m54 c54, fa, fd "law" p4 t55 m55 c55, q0, g1, g2⟩ := ⟨F0, PySem.W.mg_of X G a0.1, a0.2.2.2, b0, F1, PySem.W.mg_of X G a1.1, a1.2.2.2, b1, F2, PySem.W.mg_of X G a2.1, a2.2.2.2, b2, F3, PySem.W.mg_of X G a3.1, a3.2.2.2, b3, F4, PySem.W.mg_of X G a4.1, a4.2.2.2, b4, F5, PySem.W.mg_of X G a5.1, a5.2.2.2, b5, F6, PySem.W.mg_of X G a6.1, a6.2.2.2, b6, F7, PySem.W.mg_of X G a7.1, a7.2.2.2, b7, F8, PySem.W.mg_of X G a8.1, a8.2.2.2, b8, F9, PySem.W.mg_of X G a9.1, a9.2.2.2, b9, F10, PySem.W.mg_of X G a10.1, a10.2.2.2, b10, F11, PySem.W.mg_of X G a11.1, a11.2.2.2, b11, F12, PySem.W.mg_of X G a12.1, a12.2.2.2, b12, F13, PySem.W.mg_of X G a13.1, a13.2.2.2, b13, F14, PySem.W.mg_of X G a14.1, a14.2.2.2, b14, F15, PySem.W.mg_of X G a15.1, a15.2.2.2, b15, F16, PySem.W.mg_of X G a16.1, a16.2.2.2, b16, F17, PySem.W.mg_of X G a17.1, a17.2.2.2, b17, F18, PySem.W.mg_of X G a18.1, a18.2.2.2, b18, F19, PySem.W.mg_of X G a19.1, a19.2.2.2, b19, F20, PySem.W.mg_of X G a20.1, a20.2.2.2, b20, F21, PySem.W.mg_of X G a21.1, a21.2.2.2, b21, F22, PySem.W.mg_of X G a22.1, a22.2.2.2, b22, F23, PySem.W.mg_of X G a23.1, a23.2.2.2, b23, F24, PySem.W.mg_of X G a24.1, a24.2.2.2, b24, F25, PySem.W.mg_of X G a25.1, a25.2.2.2, b25, F26, PySem.W.mg_of X G a26.1, a26.2.2.2, b26, F27, PySem.W.mg_of X G a27.1, a27.2.2.2, b27, F28, PySem.W.mg_of X G a28.1, a28.2.2.2, b28, F29, PySem.W.mg_of X G a29.1, a29.2.2.2, b29, F30, PySem.W.mg_of X G a30.1, a30.2.2.2, b30, F31, PySem.W.mg_of X G a31.1, a31.2.2.2, b31, F32, PySem.W.mg_of X G a32.1, a32.2.2.2, b32, F33, PySem.W.mg_of X G a33.1, a33.2.2.2, b33, F34, PySem.W.mg_of X G a34.1, a34.2.2.2, b34, F35, PySem.W.mg_of X G a35.1, a35.2.2.2, b35, F36, PySem.W.mg_of X G a36.1, a36.2.2.2, b36, F37, PySem.W.mg_of X G a37.1, a37.2.2.2, b37, F38, PySem.W.mg_of X G a38.1, a38.2.2.2, b38, F39, PySem.W.mg_of X G a39.1, a39.2.2.2, b39, F40, PySem.W.mg_of X G a40.1, a40.2.2.2, b40, F41, PySem.W.mg_of X G a41.1, a41.2.2.2, b41, F42, PySem.W.mg_of X G a42.1, a42.2.2.2, b42, F43, PySem.W.mg_of X G a43.1, a43.2.2.2, b43, F44, PySem.W.mg_of X G a44.1, a44.2.2.2, b44, F45, PySem.W.mg_of X G a45.1, a45.2.2.2, b45, F46, PySem.W.mg_of X G a46.1, a46.2.2.2, b46, F47, PySem.W.mg_of X G a47.1, a47.2.2.2, b47, F48, PySem.W.mg_of X G a48.1, a48.2.2.2, b48, F49, PySem.W.mg_of X G a49.1, a49.2.2.2, b49, F50, PySem.W.mg_of X G a50.1, a50.2.2.2, b50, F51, PySem.W.mg_of X G a51.1, a51.2.2.2, b51, F52, PySem.W.mg_of X G a52.1, a52.2.2.2, b52, F53, PySem.W.mg_of X G a53.1, a53.2.2.2, b53, F54, PySem.W.mg_of X G a54.1, a54.2.2.2, b54, F55, PySem.W.mg_of X G a55.1, a55.2.2.2, b55, PySem.W.mg_none_of X G z0, PySem.W.mg_none_of X G z1, PySem.W.mg_none_of X G z2, PySem.W.mg_none_of X G z3, PySem.W.mg_none_of X G z4, PySem.W.mg_none_of X G z5, PySem.W.mg_none_of X G z6, PySem.W.mg_none_of X G z7, PySem.W.mg_none_of X G z8, PySem.W.mg_none_of X G z9, PySem.W.mg_of X G v0, ⟨PySem.W.mg_of X G v1, ⟨_, _, _, _, _, _, w1⟩⟩, ⟨PySem.W.mg_of X G v2, ⟨_, _, _, _, _, _, w2⟩⟩⟩
  exact ⟨_, fun s v => .of_eq rfl, fun base _ _ => LJ (e := ⟨l.prog, w, K, mg, base, _⟩) T⟩
theorem walk {l : PySem.W.OpenLaw} {q : Program} {loose : List Str} {XP : (Str → Option Value) → Heap → Prop} {YP : World → Heap → Prop} {d : DefRec} {K : Params → PySem.W.Frag} (tabs : List Addr) (hn : l.most = some 63) (hdf : d.params.defaults = [])
    (hY : ∀ (w : World) (h : Heap), YP w h → (K w.params).In h ∧ (∀ p ∈ tabs, h.get? p = some (PySem.W.tabObj #[]) ∧ (K w.params).lookup p = none) ∧ (∀ p ∈ tabs, isCodeTable h p))
    (hA2 : ∀ (w : World) c o p q, (K w.params).lookup c = some o → eE o = some (p, q) → p ∈ tabs)
    (F : ∀ (w : World) (mg : Str → Option Value) (fa : Addr) (h : Heap), (K w.params).In h → h.Ns mainGlobals mg → mg d.name = some (.ref fa) →
      ∃ fd : FuncData, (∀ (s : Shared) (u : Value), BindsTo s fd ⟨[u], []⟩ [("_law_script", u)]) ∧ ∀ base : Heap, (K w.params).In base → base.Ns mainGlobals mg → bU l.prog w (K w.params) mg base CX0 12 fa fd ["_law_script"] (spD (K w.params) wO)) :
    PySem.W.WalkO q loose XP YP l.row.toRowW d [] (fun f vs => PySem.call f vs) :=
  L2.GI (n := 63) (k := 12) (x := "_law_script") (CX := fun _ => CX0) (sp := fun w => spD (K w.params) wO) tabs hn (by decide) hdf ⟨rfl, by decide, by decide⟩ hY hA2 F (fun w H a ns hl hT hS => FA hl hT hS) fun _ _ _ _ _ z => z
end K43
open PySem PySem.W PyProof.Rows L2.DL in
set_option maxRecDepth 100000 in
set_option maxHeartbeats 0 in
theorem PySem.Challenge.cw_matefloors_k43_whole_kinds_more_and_fewe_holds : PySem.Challenge.rw_matefloors_k43_whole_kinds_more_and_fewe.Holds :=
  holds_law K43.H.ws fun said => holds_open (XP := XL K43.H.V []) (YP := K43.H.HK.says) (d := K43.H.D) (kwd := []) K43.H.left K43.H.HK.of K43.H.HK.keeps (fun s e => xl_of s (Bool.and_eq_true_iff.mp e).1) XL.keeps (by kernel_rfl) (by kernel_rfl) (by kernel_rfl)
    (fun s e => recFacts_of (Bool.and_eq_true_iff.mp e).2) (by kernel_rfl) said (by kernel_rfl) ⟨by kernel_rfl, by kernel_rfl, by kernel_rfl, by kernel_rfl, by kernel_rfl, by kernel_rfl⟩ ⟨[.list []], by kernel_rfl, by kernel_rfl⟩
    (K43.walk (l := PySem.Challenge.rw_matefloors_k43_whole_kinds_more_and_fewe) (K := K43.H.K) K43.H.tabs (by kernel_rfl) (by kernel_rfl) (fun w h Y => by
      have Y : (K43.H.KF w.params).In h := Y
      refine ⟨Eh Y, fun p hp => ?_, fun p hp => ?_⟩
      · rcases List.mem_cons.mp hp with rfl | hp
        · exact ⟨Y _ _ (K43.H.EX w.params).1, (K43.H.EX w.params).2⟩
        exact nomatch hp
      · rcases List.mem_cons.mp hp with rfl | hp
        · obtain ⟨o, e1, e2⟩ := Jg (K43.H.HI w.params); exact Fs (Eh Y) e1 e2
        exact nomatch hp) (fun w c o p q e e2 => by
      have h := JM (K43.H.Mb w.params) e e2
      have h2 := List.mem_map_of_mem (f := fun x : Addr × Str => x.1) h
      exact h2) fun w mg fa h KX G hmg => by
      obtain ⟨h0, h1, h2, h3, h4, h5, h6, h7, h8, h9, h10, h11, h12, h13, h14, h15, h16, h17, h18, h19, h20, h21, h22, h23, h24, h25, h26, h27, h28, h29, h30, h31, h32, h33, h34, h35, h36, h37, h38, h39, h40, h41, h42, h43, h44, h45, h46, h47, h48, h49, h50, h51, h52, h53, h54, h55, h56, h57, h58, h59, h60, h61, h62, h63, h64, h65, h66, h67, h68⟩ := K43.H.facts w.params
      exact K43.all_mk KX G hmg h0 h1 h2 h3 h4 h5 h6 h7 h8 h9 h10 h11 h12 h13 h14 h15 h16 h17 h18 h19 h20 h21 h22 h23 h24 h25 h26 h27 h28 h29 h30 h31 h32 h33 h34 h35 h36 h37 h38 h39 h40 h41 h42 h43 h44 h45 h46 h47 h48 h49 h50 h51 h52 h53 h54 h55 h56 h57 h58 h59 h60 h61 h62 h63 h64 h65 h66 h67.1 h67.2 h68.1 h68.2)
