import PyProof.Rows.All
import KE.KFind
import KE.KLam
import KE.KTryMore
import KE.LcSums
import Lean
import PySem.Challenge.RW_matefloors_k18_whole_no_bar_for_what_is
set_option Elab.async false
set_option linter.all false
set_option maxRecDepth 100000
set_option maxHeartbeats 4000000
namespace L2
open PySem PySem.W
def mD : Sem Fin -> Bool
  | .choose .. => false
  | .os .. => false
  | _ => true
theorem NU {den : Code -> Sem Fin} {p : Program} {w : World} {os : OsState} {s s' : Shared} {t t' : Thread} (h : mD t.cur = true) (e : step den p ⟨fun _ _ => 0, w.params⟩ s t = .go s' t') :
    step den p w { s with os := os } t = .go { s' with os := os } t' := by
  obtain ⟨heap, gens, drawn, toks, os0⟩ := s
  obtain ⟨cur, code, pos, stack⟩ := t
  cases cur <;> simp only [step, finish, mD] at e h ⊢ <;> (try (cases h; done)) <;> (repeat' split at e) <;> simp_all <;> (try (obtain ⟨rfl, rfl⟩ := e; simp_all)) <;> (try (obtain ⟨h1, h2⟩ := e; subst h1; rfl))
def uS (tb : String -> Option Builtin) (p : Program) (P : Params) (n₀ : Nat) (ann : Option Value) : Nat -> Shared -> Thread -> Option Shared
  | 0, _, _ => none
  | n + 1, s, t => match through t with
    | true => some s
    | false => match stepOk n₀ ann t && mD t.cur with
      | false => none
      | true => match step (denote tb) p ⟨fun _ _ => 0, P⟩ s t with
        | .go s' t' => uS tb p P n₀ ann n s' t'
        | .halt _ _ => none
theorem yM {tb : String -> Option Builtin} {p : Program} {w : World} {n₀ : Nat} {ann : Option Value} {os : OsState} : ∀ {n : Nat} {s s' : Shared} {t : Thread}, uS tb p w.params n₀ ann n s t = some s' -> topRun tb p w n₀ ann n { s with os := os } t = some { s' with os := os }
  | 0, _, _, _, h => by cases h
  | n + 1, s, s', t, h => by
    unfold uS at h
    unfold topRun
    cases ht : through t with
    | true => rw [ht] at h; cases h; rfl
    | false =>
      rw [ht] at h
      cases hk : (stepOk n₀ ann t && mD t.cur) with
      | false => rw [hk] at h; cases h
      | true =>
        rw [hk] at h
        obtain ⟨k1, k2⟩ := Bool.and_eq_true_iff.mp hk
        cases hs : step (denote tb) p ⟨fun _ _ => 0, w.params⟩ s t with
        | halt o s₂ => rw [hs] at h; cases h
        | go s₂ t₂ =>
          rw [hs] at h
          rw [k1, NU (os := os) k2 hs]
          exact yM h
noncomputable def wQ (p : Program) (P : Params) (n₀ : Nat) (ann : Option Value) : Nat -> Shared -> Thread -> Option Shared
  | 0, _, _ => none
  | n + 1, s, t => match through t with
    | true => some s
    | false => match Fast.tw6613529449190102663 n₀ ann t && mD t.cur with
      | false => none
      | true => match Fast.tw8437177126325714943 (Fast.tw11892475500146522536 Fast.tw14364793385576792824) p ⟨fun _ _ => 0, P⟩ s t with
        | .go s' t' => wQ p P n₀ ann n s' t'
        | .halt _ _ => none
theorem xD {p : Program} {P : Params} {n₀ : Nat} {ann : Option Value} : ∀ (n : Nat) (s : Shared) (t : Thread), wQ p P n₀ ann n s t = uS treeTable p P n₀ ann n s t
  | 0, _, _ => rfl
  | n + 1, s, t => by
    unfold wQ uS
    rw [<- Fast.te6613529449190102663, <- Fast.te8437177126325714943, <- Fast.te11892475500146522536, <- Fast.te14364793385576792824]
    cases through t with
    | true => rfl
    | false =>
      cases (stepOk n₀ ann t && mD t.cur) with
      | false => rfl
      | true =>
        cases step (denote treeTable) p ⟨fun _ _ => 0, P⟩ s t with
        | halt o s₂ => rfl
        | go s₂ t₂ => exact xD n s₂ t₂
end L2
namespace L2
open PySem
def qZ (s : Stmt) : Arguments := match s with
  | .FunctionDef _ a _ _ _ _ _ _ _ _ => a
  | _ => { posonlyargs := [], args := [], vararg := none, kwonlyargs := [], kw_defaults := [], kwarg := none, defaults := [] }
def gw (s : Stmt) : List Stmt := match s with
  | .FunctionDef _ _ b _ _ _ _ _ _ _ => b
  | _ => []
def aD (s : Stmt) : Scope := match s with
  | .FunctionDef _ _ _ _ _ _ sc _ _ _ => sc
  | _ => { kind := .function, names := [], isGenerator := false, isCoroutine := false }
end L2
namespace L2.DL
open PySem
def J2 : List Str := ["law", "_law_is_right", "_law_is_put", "_law_are_refused", "_law_is_told", "_law_said", "_law_is_plan_told"]
def cb (o : Obj) : Option (Addr × Str) := match o.cls, o.data with
  | .type c, .fields vs => if c = "code" then (match vs[1]?, vs[7]?, vs[9]?, vs[10]?, vs[11]?, vs[18]? with
    | some (Value.str q _), some (Value.int _ _), some (Value.bool _), some (Value.int _ _), some (Value.ref P), some (Value.str _ _) => if J2.contains q = true then some (P, q) else none
    | _, _, _, _, _, _ => none) else none
  | _, _ => none
abbrev bmV : List Value := [.type "ValueError", .type "Exception", .type "BaseException", .type "object"]
end L2.DL
namespace K18
open PySem L2
def top (i : Nat) : Stmt := PySem.Challenge.pw_matefloors_k18_whole_no_bar_for_what_is.main.body.getD i (.Pass ⟨0, 0, 0, 0⟩)
abbrev jI : Stmt := top 16
abbrev dA : Stmt := top 17
abbrev il : Stmt := top 18
abbrev dD : Stmt := top 19
abbrev mC : Stmt := top 20
abbrev vI : Stmt := top 21
abbrev vw : Stmt := top 22
abbrev qW : Stmt := top 23
abbrev jE : Stmt := top 24
abbrev kF : Stmt := top 25
abbrev dY : Stmt := top 26
abbrev jG : Stmt := top 27
abbrev cW : Stmt := top 28
abbrev bV : Stmt := top 29
abbrev jh : Stmt := top 32
abbrev dW : Stmt := top 33
abbrev fS : Stmt := top 35
abbrev kG : Stmt := top 36
abbrev eT : Stmt := top 38
abbrev mP : Stmt := top 39
abbrev jC : Stmt := top 41
abbrev hJ : Stmt := top 42
abbrev eX : Stmt := top 43
abbrev ju : Stmt := top 44
abbrev ib : Stmt := top 45
abbrev fP : Stmt := top 46
abbrev ia : Stmt := top 47
abbrev fV : Stmt := top 48
abbrev dZ : Stmt := top 49
abbrev g9 : Stmt := top 50
abbrev ig : Stmt := top 51
abbrev eW : Stmt := top 52
abbrev fN : Stmt := top 53
abbrev jf : Stmt := top 54
abbrev eC : Stmt := top 55
abbrev fT : Stmt := top 56
abbrev dE : Stmt := top 57
abbrev dH : Stmt := top 58
abbrev cZ : Stmt := top 59
abbrev iq : Stmt := top 60
abbrev cq : Stmt := top 61
abbrev gY : Stmt := top 62
abbrev ey : Stmt := top 63
abbrev dU : Stmt := top 64
abbrev cN : Stmt := top 65
abbrev bI : Stmt := top 66
abbrev rA : Stmt := top 67
abbrev fd (n : Str) (s : Stmt) (tk : Tok) (m : Str) (cd : Addr) : FuncData := PySem.W.fnOf n n (qZ s) (gw s) (aD s) .none .none .none (.str m tk) none (.ref cd) .none
abbrev FQ (K : PySem.W.Frag) (n : Str) (s : Stmt) (a cd : Addr) (tk : Tok) (m : Str) : Prop := PySem.W.nsIn K mainGlobals n = some (some (.ref a)) /\ K.lookup a = some ⟨.type "function", none, .func (fd n s tk m cd), #[]⟩ /\ PySem.W.codeIn K (.ref cd) n = true /\ PySem.W.keepIn K (.ref a) = true
end K18
namespace K18.H
open PySem PySem.W PyProof.Rows L2 L2.DL
set_option maxRecDepth 100000
set_option maxHeartbeats 0
abbrev R : OpenLaw := PySem.Challenge.rw_matefloors_k18_whole_no_bar_for_what_is
noncomputable def sT (P : Params) : Option Shared := wQ R.row.prog P 11 (some (.ref 6)) 20000 { heap := boot_heap P, gens := #[], drawn := boot_drawn, toks := boot_toks, os := default } (topStub R.row.prog)
noncomputable def hT (P : Params) : Heap := (sT P).elim default (·.heap)
def isNm : Stmt -> Bool
  | .Assign [.Name x _] _ _ => x == "__name__"
  | _ => false
def V : Program := { R.row.prog with main := { R.row.prog.main with body := R.row.prog.main.body.filter fun s => !isNm s } }
def as : List Addr := [3, 190, 189, 197, 196, 204, 203, 211, 210, 218, 217, 225, 224, 232, 231, 239, 238, 246, 245, 253, 252, 260, 259, 267, 266, 274, 273, 281, 280, 286, 285, 293, 292, 298, 297, 305, 304, 312, 311, 319, 318, 326, 325, 333, 332, 340, 339, 347, 346, 354, 353, 361, 360, 368, 367, 375, 374, 382, 381, 389, 388, 394, 393, 401, 400, 408, 407, 415, 414, 420, 419, 427, 426, 434, 433, 441, 440, 448, 447, 455, 454, 462, 461, 467, 466, 472, 471, 479, 478, 484, 483, 489, 488, 496, 495, 24, 23, 37, 36, 49, 48, 61, 60, 73, 72, 85, 84, 97, 96, 109, 108, 121, 120, 133, 132, 145, 144, 157, 156, 169, 168, 181, 180, 4]
def tabs : List Addr := [481, 491]
noncomputable def K (P : Params) : Frag := as.map fun a => (a, ((hT P).get? a).getD default)
noncomputable def TF (P : Params) : Frag := tabs.map fun a => (a, ((hT P).get? a).getD default)
noncomputable def KF (P : Params) : Frag := K P ++ TF P
theorem kAs (P : Params) : as ++ tabs = (KF P).map (·.1) := by
  unfold KF K TF
  rw [List.map_append, List.map_map, List.map_map]
  exact congr (congrArg HAppend.hAppend (List.map_id _).symm) (List.map_id _).symm
noncomputable def HK : Hook := kHook KF (as ++ tabs) kAs
def posOf : Stmt -> Pos
  | .FunctionDef _ _ _ _ _ _ _ _ _ p => p
  | _ => ⟨0, 0, 0, 0⟩
def D : DefRec := ⟨"law", qZ K18.rA, gw K18.rA, aD K18.rA, posOf K18.rA⟩
def Xt : Shared -> Bool := fun s => xlAt V [] s && recOk R.row.records s
theorem runC (P : Params) : (sT P).map (fun s => (s.gens, s.drawn, s.toks)) = some (#[], {}, 860) := by kernel_rfl
theorem run (w : World) (os : OsState) : topRun treeTable R.row.prog w 11 (some (.ref 6)) 20000 { heap := boot_heap w.params, gens := #[], drawn := boot_drawn, toks := boot_toks, os := os } (topStub R.row.prog) = some { heap := hT w.params, gens := #[], drawn := {}, toks := 860, os := os } := by
  have h := runC w.params
  cases e : sT w.params with
  | none => rw [e] at h; cases h
  | some s =>
    rw [e] at h
    obtain ⟨heap, gens, drawn, toks, os0⟩ := s
    have hh : hT w.params = heap := by unfold hT; rw [e]; rfl
    have h' : some (gens, drawn, toks) = some ((#[] : Array GenState), ({} : Drawn), 860) := h
    cases h'
    rw [hh]
    exact yM (w := w) (os := os) ((xD _ _ _).symm.trans e)
theorem Qv (w : World) (os : OsState) : (staticsOk (importedModules R.row.prog.main.body) (boot_heap w.params) (hT w.params) && namesBound R.row.prog (hT w.params) && gensDone { heap := hT w.params, gens := #[], drawn := {}, toks := 860, os := os } && laidKept (boot_heap w.params) (hT w.params)) = true := by kernel_rfl
theorem Pb (w : World) (os : OsState) : (openSeen V [] (importedModules R.row.prog.main.body) Xt true { heap := hT w.params, gens := #[], drawn := {}, toks := 860, os := os }).1 = (openGood V []).1 := by kernel_rfl
theorem Ov (w : World) (os : OsState) : (openSeen V [] (importedModules R.row.prog.main.body) Xt true { heap := hT w.params, gens := #[], drawn := {}, toks := 860, os := os }).2.1 = (openGood V []).2.1 := by kernel_rfl
theorem Od (w : World) (os : OsState) : (openSeen V [] (importedModules R.row.prog.main.body) Xt true { heap := hT w.params, gens := #[], drawn := {}, toks := 860, os := os }).2.2.1 = (openGood V []).2.2.1 := by kernel_rfl
theorem N5 (w : World) (os : OsState) : (openSeen V [] (importedModules R.row.prog.main.body) Xt true { heap := hT w.params, gens := #[], drawn := {}, toks := 860, os := os }).2.2.2.1 = (openGood V []).2.2.2.1 := by kernel_rfl
theorem Pk (w : World) (os : OsState) : (openSeen V [] (importedModules R.row.prog.main.body) Xt true { heap := hT w.params, gens := #[], drawn := {}, toks := 860, os := os }).2.2.2.2.1 = (openGood V []).2.2.2.2.1 := by kernel_rfl
theorem O3 (w : World) (os : OsState) : (openSeen V [] (importedModules R.row.prog.main.body) Xt true { heap := hT w.params, gens := #[], drawn := {}, toks := 860, os := os }).2.2.2.2.2.1 = (openGood V []).2.2.2.2.2.1 := by kernel_rfl
theorem Om (w : World) (os : OsState) : (openSeen V [] (importedModules R.row.prog.main.body) Xt true { heap := hT w.params, gens := #[], drawn := {}, toks := 860, os := os }).2.2.2.2.2.2.1 = (openGood V []).2.2.2.2.2.2.1 := by kernel_rfl
theorem Oh (w : World) (os : OsState) : (openSeen V [] (importedModules R.row.prog.main.body) Xt true { heap := hT w.params, gens := #[], drawn := {}, toks := 860, os := os }).2.2.2.2.2.2.2.1 = (openGood V []).2.2.2.2.2.2.2.1 := by kernel_rfl
theorem Pp (w : World) (os : OsState) : (openSeen V [] (importedModules R.row.prog.main.body) Xt true { heap := hT w.params, gens := #[], drawn := {}, toks := 860, os := os }).2.2.2.2.2.2.2.2 = (openGood V []).2.2.2.2.2.2.2.2 := by kernel_rfl
theorem Qs (w : World) (os : OsState) : openSeen V [] (importedModules R.row.prog.main.body) Xt true { heap := hT w.params, gens := #[], drawn := {}, toks := 860, os := os } = openGood V [] := Prod.ext (Pb w os) (Prod.ext (Ov w os) (Prod.ext (Od w os) (Prod.ext (N5 w os) (Prod.ext (Pk w os) (Prod.ext (O3 w os) (Prod.ext (Om w os) (Prod.ext (Oh w os) (Pp w os))))))))
theorem QP (w : World) (os : OsState) : HK.obs { heap := hT w.params, gens := #[], drawn := {}, toks := 860, os := os } = HK.val w := by kernel_rfl
theorem seen (w : World) : (fun os => (staticsOk (importedModules R.row.prog.main.body) (boot_heap w.params) (hT w.params) && namesBound R.row.prog (hT w.params) && gensDone { heap := hT w.params, gens := #[], drawn := {}, toks := 860, os := os } && laidKept (boot_heap w.params) (hT w.params),
    openSeen V [] (importedModules R.row.prog.main.body) Xt true { heap := hT w.params, gens := #[], drawn := {}, toks := 860, os := os }, HK.obs { heap := hT w.params, gens := #[], drawn := {}, toks := 860, os := os })) = fun _ : OsState => (true, openGood V [], HK.val w) :=
  funext fun os => Prod.ext (Qv w os) (Prod.ext (Qs w os) (QP w os))
theorem ws : R.wellSaid = true := by kernel_rfl
theorem facts (P : Params) : FQ (K P) "is_whole" jI 190 189 415 "matefloors.numbers" /\ FQ (K P) "common_divisor" dA 197 196 415 "matefloors.numbers" /\ FQ (K P) "is_number" il 204 203 415 "matefloors.numbers" /\ FQ (K P) "divisor_of_all" dD 211 210 415 "matefloors.numbers" /\ FQ (K P) "number" mC 218 217 415 "matefloors.numbers" /\ FQ (K P) "mate" vI 225 224 415 "matefloors.numbers" /\ FQ (K P) "plus" vw 232 231 415 "matefloors.numbers" /\ FQ (K P) "times" qW 239 238 415 "matefloors.numbers" /\ FQ (K P) "contrary" jE 246 245 415 "matefloors.numbers" /\ FQ (K P) "sign_of" kF 253 252 415 "matefloors.numbers" /\ FQ (K P) "sign_of_parts" dY 260 259 415 "matefloors.numbers" /\ FQ (K P) "is_above" jG 267 266 415 "matefloors.numbers" /\ FQ (K P) "is_above_nought" cW 274 273 415 "matefloors.numbers" /\ FQ (K P) "must_be_above_nought" bV 281 280 415 "matefloors.numbers" /\ FQ (K P) "is_kinds" jh 286 285 539 "matefloors.layings" /\ FQ (K P) "must_be_kinds" dW 293 292 539 "matefloors.layings" /\ FQ (K P) "is_weights" fS 298 297 557 "matefloors.weighing" /\ FQ (K P) "weighed" kG 305 304 557 "matefloors.weighing" /\ FQ (K P) "never_below" eT 312 311 581 "matefloors.bars" /\ FQ (K P) "is_bar" mP 319 318 581 "matefloors.bars" /\ FQ (K P) "_law_bag" jC 326 325 613 "law_matefloors_k18_whole_no_bar_for_what_is" /\ FQ (K P) "_law_take" hJ 333 332 613 "law_matefloors_k18_whole_no_bar_for_what_is" /\ FQ (K P) "_law_shared" eX 340 339 613 "law_matefloors_k18_whole_no_bar_for_what_is" /\ FQ (K P) "_law_low" ju 347 346 613 "law_matefloors_k18_whole_no_bar_for_what_is" /\ FQ (K P) "_law_plus" ib 354 353 613 "law_matefloors_k18_whole_no_bar_for_what_is" /\ FQ (K P) "_law_minus" fP 361 360 613 "law_matefloors_k18_whole_no_bar_for_what_is" /\ FQ (K P) "_law_mate" ia 368 367 613 "law_matefloors_k18_whole_no_bar_for_what_is" /\ FQ (K P) "_law_times" fV 375 374 613 "law_matefloors_k18_whole_no_bar_for_what_is" /\ FQ (K P) "_law_contrary" dZ 382 381 613 "law_matefloors_k18_whole_no_bar_for_what_is" /\ FQ (K P) "_law_sign" g9 389 388 613 "law_matefloors_k18_whole_no_bar_for_what_is" /\ FQ (K P) "_law_root" ig 394 393 613 "law_matefloors_k18_whole_no_bar_for_what_is" /\ FQ (K P) "_law_number" eW 401 400 613 "law_matefloors_k18_whole_no_bar_for_what_is" /\ FQ (K P) "_law_above" fN 408 407 613 "law_matefloors_k18_whole_no_bar_for_what_is" /\ FQ (K P) "_law_odd" jf 415 414 613 "law_matefloors_k18_whole_no_bar_for_what_is" /\ FQ (K P) "_law_refusal" eC 420 419 613 "law_matefloors_k18_whole_no_bar_for_what_is" /\ FQ (K P) "_law_kinds" fT 427 426 613 "law_matefloors_k18_whole_no_bar_for_what_is" /\ FQ (K P) "_law_bad_above" dE 434 433 613 "law_matefloors_k18_whole_no_bar_for_what_is" /\ FQ (K P) "_law_bad_kinds" dH 441 440 613 "law_matefloors_k18_whole_no_bar_for_what_is" /\ FQ (K P) "_law_plan_shape" cZ 448 447 613 "law_matefloors_k18_whole_no_bar_for_what_is" /\ FQ (K P) "_law_lean" iq 455 454 613 "law_matefloors_k18_whole_no_bar_for_what_is" /\ FQ (K P) "_law_lean_fraction" cq 462 461 613 "law_matefloors_k18_whole_no_bar_for_what_is" /\ FQ (K P) "_law_plan" gY 467 466 613 "law_matefloors_k18_whole_no_bar_for_what_is" /\ FQ (K P) "_law_weights" ey 472 471 613 "law_matefloors_k18_whole_no_bar_for_what_is" /\ FQ (K P) "_law_bar_like" dU 479 478 613 "law_matefloors_k18_whole_no_bar_for_what_is" /\ FQ (K P) "_law_are_refused" cN 484 483 613 "law_matefloors_k18_whole_no_bar_for_what_is" /\ FQ (K P) "_law_is_barred_by_sign" bI 489 488 613 "law_matefloors_k18_whole_no_bar_for_what_is" /\ FQ (K P) "law" rA 496 495 613 "law_matefloors_k18_whole_no_bar_for_what_is" /\ nsIn (K P) mainGlobals "isinstance" = some none /\ nsIn (K P) mainGlobals "int" = some none /\ nsIn (K P) mainGlobals "bool" = some none /\ nsIn (K P) mainGlobals "abs" = some none /\ nsIn (K P) mainGlobals "tuple" = some none /\ nsIn (K P) mainGlobals "len" = some none /\ nsIn (K P) mainGlobals "all" = some none /\ nsIn (K P) mainGlobals "range" = some none /\ nsIn (K P) mainGlobals "ValueError" = some none /\ nsIn (K P) mainGlobals "list" = some none /\ nsIn (K P) mainGlobals "set" = some none /\ nsIn (K P) mainGlobals "max" = some none /\ nsIn (K P) mainGlobals "min" = some none /\ nsIn (K P) mainGlobals "MOST_KINDS" = some (some (.int 3 541)) /\ nsIn (K P) mainGlobals "FloorError" = some (some (.ref 24)) /\ nsIn (K P) mainGlobals "NoRoot" = some (some (.ref 37)) /\ nsIn (K P) mainGlobals "NoNumber" = some (some (.ref 49)) /\ nsIn (K P) mainGlobals "NoLaying" = some (some (.ref 61)) /\ nsIn (K P) mainGlobals "NoTile" = some (some (.ref 73)) /\ nsIn (K P) mainGlobals "NoFit" = some (some (.ref 85)) /\ nsIn (K P) mainGlobals "NoKinds" = some (some (.ref 97)) /\ nsIn (K P) mainGlobals "NoPlan" = some (some (.ref 109)) /\ nsIn (K P) mainGlobals "NoSpot" = some (some (.ref 121)) /\ nsIn (K P) mainGlobals "NoNet" = some (some (.ref 133)) /\ nsIn (K P) mainGlobals "NoText" = some (some (.ref 145)) /\ nsIn (K P) mainGlobals "NoSaying" = some (some (.ref 157)) /\ nsIn (K P) mainGlobals "NoName" = some (some (.ref 169)) /\ nsIn (K P) mainGlobals "TooMany" = some (some (.ref 181)) /\ excIn (K P) (49) bmV "ValueError.__new__" = true /\ exmOne (K P) (.ref 49) (.ref 24) = some true /\ findIn (K P) (.ref 49) "__getattribute__" = some (some (.builtin "BaseException.__getattribute__")) /\ findIn (K P) (.ref 49) "__getattr__" = some none /\ findIn (K P) (.ref 49) "__class__" = some (some (.builtin "object.__class__")) /\ mroIn (K P) 49 (.type "object") = some true /\ mroIn (K P) 49 (.type "BaseException") = some true /\ (clsIn (K P) 49).isSome = true /\ kitOne (K P) (.ref 49) (.ref 37) = some false /\ kitOne (K P) (.ref 49) (.ref 49) = some true /\ kitOne (K P) (.ref 49) (.ref 61) = some false /\ kitOne (K P) (.ref 49) (.ref 73) = some false /\ kitOne (K P) (.ref 49) (.ref 85) = some false /\ kitOne (K P) (.ref 49) (.ref 97) = some false /\ kitOne (K P) (.ref 49) (.ref 109) = some false /\ kitOne (K P) (.ref 49) (.ref 121) = some false /\ kitOne (K P) (.ref 49) (.ref 133) = some false /\ kitOne (K P) (.ref 49) (.ref 145) = some false /\ kitOne (K P) (.ref 49) (.ref 157) = some false /\ kitOne (K P) (.ref 49) (.ref 169) = some false /\ kitOne (K P) (.ref 49) (.ref 181) = some false /\ kitOne (K P) (.ref 49) (.type "ValueError") = some true /\ excIn (K P) (97) bmV "ValueError.__new__" = true /\ exmOne (K P) (.ref 97) (.ref 24) = some true /\ findIn (K P) (.ref 97) "__getattribute__" = some (some (.builtin "BaseException.__getattribute__")) /\ findIn (K P) (.ref 97) "__getattr__" = some none /\ findIn (K P) (.ref 97) "__class__" = some (some (.builtin "object.__class__")) /\ mroIn (K P) 97 (.type "object") = some true /\ mroIn (K P) 97 (.type "BaseException") = some true /\ (clsIn (K P) 97).isSome = true /\ kitOne (K P) (.ref 97) (.ref 37) = some false /\ kitOne (K P) (.ref 97) (.ref 49) = some false /\ kitOne (K P) (.ref 97) (.ref 61) = some false /\ kitOne (K P) (.ref 97) (.ref 73) = some false /\ kitOne (K P) (.ref 97) (.ref 85) = some false /\ kitOne (K P) (.ref 97) (.ref 97) = some true /\ kitOne (K P) (.ref 97) (.ref 109) = some false /\ kitOne (K P) (.ref 97) (.ref 121) = some false /\ kitOne (K P) (.ref 97) (.ref 133) = some false /\ kitOne (K P) (.ref 97) (.ref 145) = some false /\ kitOne (K P) (.ref 97) (.ref 157) = some false /\ kitOne (K P) (.ref 97) (.ref 169) = some false /\ kitOne (K P) (.ref 97) (.ref 181) = some false /\ kitOne (K P) (.ref 97) (.type "ValueError") = some true /\ (nsIn (K P) mainGlobals "__builtins__" = some (some (.ref 4)) /\ (4 : Addr) ≠ builtinsNs /\ (K P).lookup 4 = some ⟨.type "module", some builtinsNs, .plain, #[]⟩) :=
  ⟨⟨by kernel_rfl, by kernel_rfl, by kernel_rfl, by kernel_rfl⟩, ⟨by kernel_rfl, by kernel_rfl, by kernel_rfl, by kernel_rfl⟩, ⟨by kernel_rfl, by kernel_rfl, by kernel_rfl, by kernel_rfl⟩, ⟨by kernel_rfl, by kernel_rfl, by kernel_rfl, by kernel_rfl⟩, ⟨by kernel_rfl, by kernel_rfl, by kernel_rfl, by kernel_rfl⟩, ⟨by kernel_rfl, by kernel_rfl, by kernel_rfl, by kernel_rfl⟩, ⟨by kernel_rfl, by kernel_rfl, by kernel_rfl, by kernel_rfl⟩, ⟨by kernel_rfl, by kernel_rfl, by kernel_rfl, by kernel_rfl⟩, ⟨by kernel_rfl, by kernel_rfl, by kernel_rfl, by kernel_rfl⟩, ⟨by kernel_rfl, by kernel_rfl, by kernel_rfl, by kernel_rfl⟩, ⟨by kernel_rfl, by kernel_rfl, by kernel_rfl, by kernel_rfl⟩, ⟨by kernel_rfl, by kernel_rfl, by kernel_rfl, by kernel_rfl⟩, ⟨by kernel_rfl, by kernel_rfl, by kernel_rfl, by kernel_rfl⟩, ⟨by kernel_rfl, by kernel_rfl, by kernel_rfl, by kernel_rfl⟩, ⟨by kernel_rfl, by kernel_rfl, by kernel_rfl, by kernel_rfl⟩, ⟨by kernel_rfl, by kernel_rfl, by kernel_rfl, by kernel_rfl⟩, ⟨by kernel_rfl, by kernel_rfl, by kernel_rfl, by kernel_rfl⟩, ⟨by kernel_rfl, by kernel_rfl, by kernel_rfl, by kernel_rfl⟩, ⟨by kernel_rfl, by kernel_rfl, by kernel_rfl, by kernel_rfl⟩, ⟨by kernel_rfl, by kernel_rfl, by kernel_rfl, by kernel_rfl⟩, ⟨by kernel_rfl, by kernel_rfl, by kernel_rfl, by kernel_rfl⟩, ⟨by kernel_rfl, by kernel_rfl, by kernel_rfl, by kernel_rfl⟩, ⟨by kernel_rfl, by kernel_rfl, by kernel_rfl, by kernel_rfl⟩, ⟨by kernel_rfl, by kernel_rfl, by kernel_rfl, by kernel_rfl⟩, ⟨by kernel_rfl, by kernel_rfl, by kernel_rfl, by kernel_rfl⟩, ⟨by kernel_rfl, by kernel_rfl, by kernel_rfl, by kernel_rfl⟩, ⟨by kernel_rfl, by kernel_rfl, by kernel_rfl, by kernel_rfl⟩, ⟨by kernel_rfl, by kernel_rfl, by kernel_rfl, by kernel_rfl⟩, ⟨by kernel_rfl, by kernel_rfl, by kernel_rfl, by kernel_rfl⟩, ⟨by kernel_rfl, by kernel_rfl, by kernel_rfl, by kernel_rfl⟩, ⟨by kernel_rfl, by kernel_rfl, by kernel_rfl, by kernel_rfl⟩, ⟨by kernel_rfl, by kernel_rfl, by kernel_rfl, by kernel_rfl⟩, ⟨by kernel_rfl, by kernel_rfl, by kernel_rfl, by kernel_rfl⟩, ⟨by kernel_rfl, by kernel_rfl, by kernel_rfl, by kernel_rfl⟩, ⟨by kernel_rfl, by kernel_rfl, by kernel_rfl, by kernel_rfl⟩, ⟨by kernel_rfl, by kernel_rfl, by kernel_rfl, by kernel_rfl⟩, ⟨by kernel_rfl, by kernel_rfl, by kernel_rfl, by kernel_rfl⟩, ⟨by kernel_rfl, by kernel_rfl, by kernel_rfl, by kernel_rfl⟩, ⟨by kernel_rfl, by kernel_rfl, by kernel_rfl, by kernel_rfl⟩, ⟨by kernel_rfl, by kernel_rfl, by kernel_rfl, by kernel_rfl⟩, ⟨by kernel_rfl, by kernel_rfl, by kernel_rfl, by kernel_rfl⟩, ⟨by kernel_rfl, by kernel_rfl, by kernel_rfl, by kernel_rfl⟩, ⟨by kernel_rfl, by kernel_rfl, by kernel_rfl, by kernel_rfl⟩, ⟨by kernel_rfl, by kernel_rfl, by kernel_rfl, by kernel_rfl⟩, ⟨by kernel_rfl, by kernel_rfl, by kernel_rfl, by kernel_rfl⟩, ⟨by kernel_rfl, by kernel_rfl, by kernel_rfl, by kernel_rfl⟩, ⟨by kernel_rfl, by kernel_rfl, by kernel_rfl, by kernel_rfl⟩, by kernel_rfl, by kernel_rfl, by kernel_rfl, by kernel_rfl, by kernel_rfl, by kernel_rfl, by kernel_rfl, by kernel_rfl, by kernel_rfl, by kernel_rfl, by kernel_rfl, by kernel_rfl, by kernel_rfl, by kernel_rfl, by kernel_rfl, by kernel_rfl, by kernel_rfl, by kernel_rfl, by kernel_rfl, by kernel_rfl, by kernel_rfl, by kernel_rfl, by kernel_rfl, by kernel_rfl, by kernel_rfl, by kernel_rfl, by kernel_rfl, by kernel_rfl, by kernel_rfl, by kernel_rfl, by kernel_rfl, by kernel_rfl, by kernel_rfl, by kernel_rfl, by kernel_rfl, by kernel_rfl, by kernel_rfl, by kernel_rfl, by kernel_rfl, by kernel_rfl, by kernel_rfl, by kernel_rfl, by kernel_rfl, by kernel_rfl, by kernel_rfl, by kernel_rfl, by kernel_rfl, by kernel_rfl, by kernel_rfl, by kernel_rfl, by kernel_rfl, by kernel_rfl, by kernel_rfl, by kernel_rfl, by kernel_rfl, by kernel_rfl, by kernel_rfl, by kernel_rfl, by kernel_rfl, by kernel_rfl, by kernel_rfl, by kernel_rfl, by kernel_rfl, by kernel_rfl, by kernel_rfl, by kernel_rfl, by kernel_rfl, by kernel_rfl, by kernel_rfl, by kernel_rfl, by kernel_rfl, by kernel_rfl, ⟨by kernel_rfl, by decide, by kernel_rfl⟩⟩
theorem Gg (P : Params) : ((K P).filterMap fun p => cb p.2) = [(481, ("_law_are_refused" : Str)), (491, ("law" : Str))] /\ ((K P).lookup 483).bind cb = some (481, ("_law_are_refused" : Str)) /\ ((K P).lookup 495).bind cb = some (491, ("law" : Str)) /\ (KF P).lookup 481 = some (tabObj #[]) /\ (KF P).lookup 491 = some (tabObj #[]) /\ (K P).lookup 481 = none /\ (K P).lookup 491 = none := ⟨by kernel_rfl, by kernel_rfl, by kernel_rfl, by kernel_rfl, by kernel_rfl, by kernel_rfl, by kernel_rfl⟩
theorem J4 (P : Params) : ((K P).filterMap fun p => cb p.2) = [(481, ("_law_are_refused" : Str)), (491, ("law" : Str))] := (Gg P).1
theorem ja (P : Params) : ((K P).lookup 483).bind cb = some (481, ("_law_are_refused" : Str)) := (Gg P).2.1
theorem pd {q2 : Str} (h : ((481 : Addr), q2) ∈ ([(481, ("_law_are_refused" : Str)), (491, ("law" : Str))] : List (Addr × Str))) : q2 = "_law_are_refused" := by simpa using h
theorem LR (P : Params) : ((K P).lookup 495).bind cb = some (491, ("law" : Str)) := (Gg P).2.2.1
theorem Qc {q2 : Str} (h : ((491 : Addr), q2) ∈ ([(481, ("_law_are_refused" : Str)), (491, ("law" : Str))] : List (Addr × Str))) : q2 = "law" := by simpa using h
theorem j5 (P : Params) : (KF P).lookup 481 = some (tabObj #[]) /\ (K P).lookup 481 = none := ⟨(Gg P).2.2.2.1, (Gg P).2.2.2.2.2.1⟩
theorem Hs (P : Params) : (KF P).lookup 491 = some (tabObj #[]) /\ (K P).lookup 491 = none := ⟨(Gg P).2.2.2.2.1, (Gg P).2.2.2.2.2.2⟩
theorem left : LeftO R.row.prog V [] Xt HK.obs HK.val 20000 :=
  LeftO.of_pieces (H₀ := boot_heap) (H₁ := hT) (gs₀ := #[]) (gs₁ := #[]) (d₀ := boot_drawn) (d₁ := {}) (k₀ := boot_toks) (k₁ := 860) (m₀ := 11) (ann := some (.ref 6)) (M := 20000)
    (boot_open (by kernel_rfl) (by kernel_rfl) (fun s => by kernel_rfl)) (fun w => by kernel_rfl) run (by kernel_rfl) seen
end K18.H
set_option Elab.async false
set_option linter.all false
set_option maxRecDepth 100000
namespace L2
open PySem PySem.Spec PyProof.Rows
def jQ (A : Around) (h : Heap) : Prop := A.handled = none \/ ∃ (e : Addr) (oe : Obj) (vs : Array Value), A.handled = some (.ref e) /\ h.get? e = some oe /\ oe.data = .fields vs /\ vs[2]? = some .none
theorem zO : entryFor table "proto.unchain" = some Builtin.«proto.unchain» := entryFor_of_tree (by kernel_rfl)
section
variable {prog : Program} {w : World} {A : Around} {E : Value -> Shared -> Prop} {s : Shared}
theorem Br {x e : Addr} {oe : Obj} {vs : Array Value} {Q : Value -> Shared -> Prop} (he : s.heap.get? e = some oe) (hd : oe.data = .fields vs) (h2 : vs[2]? = some .none) (h : Q .none s) :
    wpAny (model prog w) A (runValue (.builtin "proto.unchain" ⟨[.ref x, .ref e, .ref e, .bool false], []⟩)) Q E s := by
  refine wpAny_runValue (codeAny_builtin zO ?_)
  unfold Builtin.«proto.unchain»
  dsimp only
  refine wpAny_bind (wpAny_field he hd h2 ?_)
  rw [if_pos (by rfl)]
  exact wpAny_pure h
theorem yC {α : Type} {a : Addr} {oa : Obj} {ws : Array Value} {Q : α -> Shared -> Prop} (q : jQ A s.heap) (ha : s.heap.get? a = some oa) (hda : oa.data = .fields ws) (hz : 2 < ws.size)
    (hnew : ∀ e oe, A.handled = some (.ref e) -> s.heap.get? e = some oe -> e ≠ a)
    (h : ∀ h', Heap.ExtBut a s.heap h' -> (∃ o', h'.get? a = some o' /\ o'.cls = oa.cls) -> E (.ref a) { s with heap := h' }) : wpAny (model prog w) A (raiseNew (.ref a) : Sem α) Q E s := by
  unfold raiseNew
  refine wpAny_bind (wpAny_handled ?_)
  rcases q with q | ⟨e, oe, vs, q, he, hd, h2⟩
  . rw [q]
    exact wpAny_bind (wpAny_pure (wpAny_throw (h s.heap (fun b o _ z => z) ⟨oa, ha, rfl⟩)))
  . rw [q]
    have ne : e ≠ a := hnew e oe q he
    dsimp only
    rw [if_pos (by simp [ne])]
    refine wpAny_bind (wpAny_holding (Br he hd h2 ?_))
    refine wpAny_bind ?_
    refine wpAny_setField ha hda hz (wpAny_throw ?_)
    have hd' := Obj.data_mapFields hda (·.setIfInBounds 2 (Value.ref e))
    exact h _ (Heap.SameBut.update ..).extBut ⟨_, Heap.get?_update_self _ ha (Obj.isFreed_of_fields hd'), Obj.cls_mapFields ..⟩
theorem xT {it : Addr} {α : Type} {h0 : Heap} {Q : α -> Shared -> Prop} (q : jQ A s.heap) (k : Heap.ExtBut it h0 s.heap) (kl : ∀ e oe, A.handled = some (.ref e) -> s.heap.get? e = some oe -> True)
    (h : ∀ h' a, Heap.ExtBut it h0 h' -> (∃ o', h'.get? a = some o' /\ o'.cls = .type "StopIteration") -> E (.ref a) { s with heap := h' }) : wpAny (model prog w) A (newExc (.type "StopIteration") [] >>= fun e => (raiseNew e : Sem α)) Q E s := by
  refine wpAny_bind ?_; simp only [newExc, newTuple]
  refine wpAny_bind (wpAny_newObj_type ?_ (by size_fits)); refine wpAny_bind (m := firstArgMember _ _) (wpAny_of_eq (a := Value.none) (by first | rfl | (simp only [firstArgMember]; rfl)) ?_); refine wpAny_newObj_type ?_ (by size_fits)
  have q' : ∀ o1 o2 : Obj, jQ A ((s.heap.push o1).push o2) := fun o1 o2 => by
    rcases q with q | ⟨e, oe, vs, q, he, r⟩
    . exact .inl q
    . exact .inr ⟨e, oe, vs, q, Heap.get?_push_of_some _ (Heap.get?_push_of_some _ he), r⟩
  refine yC (q' _ _) (Heap.get?_push_size _ rfl) rfl (by rw [Array.size_append]; exact Nat.lt_of_lt_of_le (by decide : 2 < 6) (Nat.le_add_right _ _)) (fun e oe hq he z => ?_) fun h' hx ⟨o', ho', hc'⟩ => h h' _ (fun b o hb e => hx b o ?_ (Heap.get?_push_of_some _ (Heap.get?_push_of_some _ (k b o hb e)))) ⟨o', ho', hc'⟩
  . rcases q with q | ⟨e1, oe1, vs, q, he1, r⟩
    . rw [q] at hq; cases hq
    . rw [q] at hq; cases hq
      exact absurd (Heap.lt_size he1) (by rw [z]; simp)
  . exact Nat.ne_of_lt (Nat.lt_of_lt_of_le (Heap.lt_size (k b o hb e)) (by simp))
theorem tu {it : Addr} {o : Obj} {ws : Array Value} {f : Array Value -> Array Value} (q : jQ A s.heap) (ho : s.heap.get? it = some o) (hd : o.data = .fields ws) (hn : ∀ e, A.handled = some (.ref e) -> e ≠ it) : jQ A (s.heap.update it (Obj.mapFields f)) := by
  rcases q with q | ⟨e, oe, vs, q, he, r⟩
  . exact .inl q
  . exact .inr ⟨e, oe, vs, q, by rw [Heap.get?_update_other _ _ (Ne.symm (hn e q))]; exact he, r⟩
theorem zq {it l : Addr} {i : Nat} {items} {Q : Option Value -> Shared -> Prop} (q : jQ A s.heap) (hn : ∀ e, A.handled = some (.ref e) -> e ≠ it) (hit : s.heap.IsListIter it l i) (hl : s.heap.IsList l items) (hx : items[i]? = none)
    (hQ : ∀ h', Heap.ExtBut it s.heap h' -> Q none { s with heap := h' }) : wpAny (model prog w) A (pyNext (.ref it)) Q E s := by
  obtain ⟨o, ho, hc, hd⟩ := id hit
  obtain ⟨ol, hol, _, nl, hdl⟩ := hl; unfold pyNext
  refine wpAny_bind (wpAny_attempt (wpAny_callSpecial?_slot (name := Str.ofString "__next__") hit.typeIs slot_listiter_next (wpAny_call_entry slot_listiter_next hit.typeIs entry_listiter_next ?_ (args_listiter_next _))))
  show wpAny _ _ (field (.ref it) 0 >>= _) _ _ s; refine wpAny_bind (wpAny_field ho hd (x := .ref l) rfl ?_)
  show wpAny _ _ (if (Value.ref l == Value.none) = true then _ else _) _ _ s; rw [if_neg (show ¬ ((Value.ref l == Value.none) = true) from Bool.false_ne_true)]
  show wpAny _ _ (field (.ref it) 1 >>= _) _ _ s; refine wpAny_bind (wpAny_field ho hd (x := .int i 0) rfl ?_)
  show wpAny _ _ (seqItems? (.ref l) >>= _) _ _ s; refine wpAny_bind (wpAny_seqItems hol hdl ?_); simp only [Int.toNat_natCast, hx]
  refine wpAny_bind (wpAny_rule (wpAny_bind (wpAny_setField ho hd (by simp) ?_)))
  refine xT (it := it) (h0 := s.heap) (A := A.in1) (tu (A := A.in1) q ho hd hn) (Heap.SameBut.update ..).extBut (fun _ _ _ _ => trivial) fun h' a hx' ⟨o', ho', hc'⟩ => ?_
  refine wpAny_bind (wpAny_isInstance (T := "StopIteration") (b := true) ⟨_, ho', hc'⟩ isSubtype_stop ?_); exact wpAny_pure (hQ _ hx')
theorem ui {it t : Addr} {i : Nat} {items} {Q : Option Value -> Shared -> Prop} (q : jQ A s.heap) (hn : ∀ e, A.handled = some (.ref e) -> e ≠ it) (hit : IsTupIter s.heap it t i) (ht : IsTup s.heap t items) (hx : items[i]? = none)
    (hQ : ∀ h', Heap.ExtBut it s.heap h' -> Q none { s with heap := h' }) : wpAny (model prog w) A (pyNext (.ref it)) Q E s := by
  obtain ⟨o, ho, hc, hd⟩ := id hit
  obtain ⟨ol, hol, _, nl, hdl⟩ := ht; unfold pyNext
  refine wpAny_bind (wpAny_attempt (wpAny_callSpecial?_slot (name := Str.ofString "__next__") hit.typeIs slot_tupleiter_next (wpAny_call_entry slot_tupleiter_next hit.typeIs entry_tupleiter_next ?_ (args_tupleiter_next _))))
  show wpAny _ _ (field (.ref it) 0 >>= _) _ _ s; refine wpAny_bind (wpAny_field ho hd (x := .ref t) rfl ?_)
  show wpAny _ _ (if (Value.ref t == Value.none) = true then _ else _) _ _ s; rw [if_neg (show ¬ ((Value.ref t == Value.none) = true) from Bool.false_ne_true)]
  show wpAny _ _ (field (.ref it) 1 >>= _) _ _ s; refine wpAny_bind (wpAny_field ho hd (x := .int i 0) rfl ?_)
  show wpAny _ _ (seqItems? (.ref t) >>= _) _ _ s; refine wpAny_bind (wpAny_seqItems hol hdl ?_); simp only [Int.toNat_natCast, hx]
  refine wpAny_bind (wpAny_rule (wpAny_bind (wpAny_setField ho hd (by simp) ?_)))
  refine xT (it := it) (h0 := s.heap) (A := A.in1) (tu (A := A.in1) q ho hd hn) (Heap.SameBut.update ..).extBut (fun _ _ _ _ => trivial) fun h' a hx' ⟨o', ho', hc'⟩ => ?_
  refine wpAny_bind (wpAny_isInstance (T := "StopIteration") (b := true) ⟨_, ho', hc'⟩ isSubtype_stop ?_); exact wpAny_pure (hQ _ hx')
theorem zH {env : Env} {elts : List Expr} {x1} {pos : Pos} {t : Addr} {items : Array Value} {Q : Unit -> Shared -> Prop} (q : jQ A s.heap) (ht : IsTup s.heap t items) (hn : (assignEach elts env).length = items.size)
    (hstar : (assignEach elts env).findIdx? (·.1) = none) (h : ∀ h', Heap.ExtBut s.heap.objs.size s.heap h' -> wpAny (model prog w) A (assignInOrder ((assignEach elts env).map (·.2)) items.toList) Q E { s with heap := h' }) :
    wpAny (model prog w) A (assign (.Tuple elts x1 pos) env (.ref t)) Q E s := by
  rw [assign_Tuple]
  refine wpAny_bind (wpAny_standAt ?_)
  unfold unpack; rw [hn, hstar]
  refine wpAny_bind (wpAny_holding ?_)
  have hlt : t ≠ s.heap.objs.size := by obtain ⟨o, ho, _⟩ := ht; exact Nat.ne_of_lt (Heap.lt_size ho)
  unfold unpackItems; refine wpAny_bind ?_
  unfold notIterableAtAll; refine wpAny_bind (wpAny_specialOf ht.typeIs slot_tuple_iter.lookup ?_); refine wpAny_pure ?_; simp only [Bool.false_eq_true, if_false]
  refine wpAny_bind (wpAny_holding (iter_tuple ht ?_))
  refine wpAny_bind (wpAny_holding (draw_tuple hlt items.size 0 _ _ ⟨_, Heap.get?_push_size _ rfl, rfl, rfl⟩ (ht.push _) (by omega) fun h₁ hit₁ hs₁ => ?_))
  rw [show List.take items.size (List.drop 0 items.toList) = items.toList from by rw [List.drop_zero]; exact List.take_of_length_le (by simp), if_neg (by simp)]
  have fr : ∀ e, A.handled = some (.ref e) -> e ≠ s.heap.objs.size := fun e hq => by
    rcases q with q | ⟨e1, oe1, vs, q, he1, r⟩
    . rw [q] at hq; cases hq
    . rw [q] at hq; cases hq; exact Nat.ne_of_lt (Heap.lt_size he1)
  have q1 : jQ A h₁ := by
    rcases q with q | ⟨e, oe, vs, q, he, r⟩
    . exact .inl q
    . exact .inr ⟨e, oe, vs, q, hs₁.extBut e oe (fr e q) (Heap.get?_push_of_some _ he), r⟩
  refine wpAny_bind (wpAny_holding (ui q1 fr hit₁ ((ht.push _).extBut hs₁.extBut hlt) (by simp) fun h₂ he₂ => ?_)); simp only [Option.isSome_none, Bool.false_eq_true, if_false]
  exact wpAny_pure (h h₂ fun b o hb e => he₂ b o hb (hs₁.extBut b o hb (Heap.get?_push_of_some _ e)))
end
end L2
set_option Elab.async false
set_option linter.all false
set_option maxRecDepth 100000
namespace L2
open PySem PySem.Spec PyProof.Rows
abbrev Key := Sum Int Str
def Nk : Key -> Value -> Bool
  | .inl k, v => Value.isInt k v
  | .inr x, v => Value.isStrOf x v
def Rb (w : World) : Key -> Int
  | .inl k => hashInt k
  | .inr x => hashStr w x
theorem d7 : ∀ {k : Key} {v : Value}, Nk k v = true -> (∃ i t, k = Sum.inl i /\ v = Value.int i t) \/ (∃ x t, k = Sum.inr x /\ v = Value.str x t)
  | .inl i, v, h => by
    obtain ⟨t, e⟩ := Value.isInt_shape (k := i) (v := v) h
    exact .inl ⟨i, t, rfl, e⟩
  | .inr x, v, h => by
    obtain ⟨t, e⟩ := Value.isStrOf_shape (x := x) (v := v) h
    exact .inr ⟨x, t, rfl, e⟩
theorem OZ (a b : Int) : decide ((Sum.inl a : Key) = Sum.inl b) = (a == b) := by
  by_cases e : a = b
  . subst e; simp
  . have h : ¬ (Sum.inl a : Key) = Sum.inl b := fun q => e (Sum.inl.inj q)
    rw [decide_eq_false h]
    exact (beq_eq_false_iff_ne.mpr e).symm
theorem Pl (a b : Str) : decide ((Sum.inr a : Key) = Sum.inr b) = decide (a = b) := by
  by_cases e : a = b
  . subst e; simp
  . have h : ¬ (Sum.inr a : Key) = Sum.inr b := fun q => e (Sum.inr.inj q)
    rw [decide_eq_false h, decide_eq_false e]
theorem NS (a : Int) (b : Str) : decide ((Sum.inl a : Key) = Sum.inr b) = false := decide_eq_false (fun q => nomatch q)
theorem Oy (a : Str) (b : Int) : decide ((Sum.inr a : Key) = Sum.inl b) = false := decide_eq_false (fun q => nomatch q)
def Il (prog : Program) (w : World) : PySem.KeyKind prog w Key where
  is := Nk
  hash := Rb w
  inj := fun v a b ha hb => by
    rcases d7 ha with ⟨i, t, rfl, rfl⟩ | ⟨x, t, rfl, rfl⟩
    . rcases d7 hb with ⟨j, u, rfl, e⟩ | ⟨y, u, rfl, e⟩
      . injection e with e1 _; rw [e1]
      . exact nomatch e
    . rcases d7 hb with ⟨j, u, rfl, e⟩ | ⟨y, u, rfl, e⟩
      . exact nomatch e
      . injection e with e1 _; rw [e1]
  byValue := fun k v h => by
    rcases d7 h with ⟨i, t, rfl, rfl⟩ | ⟨x, t, rfl, rfl⟩ <;> rfl
  pyHash := fun hv h => by
    rcases d7 hv with ⟨i, t, rfl, rfl⟩ | ⟨x, t, rfl, rfl⟩
    . exact wpAny_pyHash_int h
    . exact wpAny_pyHash_str h
  eqBool := fun hu hv h => by
    rcases d7 hu with ⟨i, t, rfl, rfl⟩ | ⟨x, t, rfl, rfl⟩
    . rcases d7 hv with ⟨j, u, rfl, rfl⟩ | ⟨y, u, rfl, rfl⟩
      . rw [OZ] at h; exact wpAny_eqBool_int h
      . rw [NS] at h; exact SeqAt.EqAt.int_str i t y u _ _ _ _ h
    . rcases d7 hv with ⟨j, u, rfl, rfl⟩ | ⟨y, u, rfl, rfl⟩
      . rw [Oy] at h; exact SeqAt.EqAt.str_int x t j u _ _ _ _ h
      . rw [Pl] at h; exact wpAny_eqBool_str h
  «strs» := fun k x t v h => by
    rcases d7 h with ⟨i, u, rfl, e⟩ | ⟨y, u, rfl, e⟩
    . exact nomatch e
    . injection e with e1 _
      subst e1
      cases v <;> rfl
end L2
namespace L2
open PySem PySem.Spec PyProof.Rows
inductive V where
  | non | bl (b : Bool) | int (i : Int) | str (x : Str) | byt (b : Array UInt8) | flt (b : UInt64) | ref (a : Addr) | ty (n : String)
  deriving DecidableEq
def RelV : V -> Value -> Prop
  | .non, u => u = Value.none
  | .bl b, u => u = Value.bool b
  | .int i, u => ∃ t, u = Value.int i t
  | .str x, u => ∃ t, u = Value.str x t
  | .byt b, u => ∃ t, u = Value.bytes b t
  | .flt b, u => ∃ t, u = Value.float b t
  | .ref a, u => u = Value.ref a
  | .ty n, u => u = Value.type n
abbrev Vals : List V -> List Value -> Prop := Paired RelV
theorem Vals.length {xs : List V} {us : List Value} (r : Vals xs us) : xs.length = us.length := Paired.length r
theorem Vals.get : ∀ {xs : List V} {us : List Value} {i : Nat} {x : V}, Vals xs us -> xs[i]? = some x -> ∃ u, us[i]? = some u /\ RelV x u
  | _, _, _, _, .nil, e => by simp at e
  | _, _, 0, _, .cons r _, e => by simp at e; subst e; exact ⟨_, rfl, r⟩
  | _, _, i + 1, x, .cons _ t, e => by
    obtain ⟨u, h1, h2⟩ := Vals.get (i := i) (x := x) t (by simpa using e)
    exact ⟨u, by simpa using h1, h2⟩
theorem Vals.set {x : V} {u : Value} (r : RelV x u) : ∀ {xs : List V} {us : List Value} (i : Nat), Vals xs us -> Vals (xs.set i x) (us.set i u)
  | _, _, _, .nil => .nil
  | _, _, 0, .cons _ t => .cons r t
  | _, _, i + 1, .cons q t => .cons q (Vals.set r i t)
theorem Vals.append : ∀ {xs ys : List V} {us ws : List Value}, Vals xs us -> Vals ys ws -> Vals (xs ++ ys) (us ++ ws)
  | _, _, _, _, .nil, s => s
  | _, _, _, _, .cons r t, s => .cons r (Vals.append t s)
theorem Vals.take : ∀ {xs : List V} {us : List Value} (n : Nat), Vals xs us -> Vals (xs.take n) (us.take n)
  | _, _, 0, _ => .nil
  | _, _, _ + 1, .nil => .nil
  | _, _, n + 1, .cons r t => .cons r (Vals.take n t)
theorem Vals.drop : ∀ {xs : List V} {us : List Value} (n : Nat), Vals xs us -> Vals (xs.drop n) (us.drop n)
  | _, _, 0, r => r
  | _, _, _ + 1, .nil => .nil
  | _, _, n + 1, .cons _ t => Vals.drop n t
def QU : Option V -> Option Value -> Prop
  | some v, some u => RelV v u
  | none, none => True
  | _, _ => False
def KV {κ : Type} : List (κ × V) -> List (κ × Value) -> Prop := Paired fun (p : κ × V) (q : κ × Value) => p.1 = q.1 /\ RelV p.2 q.2
def kV : Key -> V
  | .inl i => .int i
  | .inr x => .str x
inductive HO where
  /-- a list -/
  | lst (xs : List V)
  /-- a tuple (never changes) -/
  | tup (xs : List V)
  /-- a dict whose keys are ints and texts; one whose keys are tuples of ints and texts (the empty one is both) -/
  | dK (kvs : List (Key × V)) | dT (kvs : List (List Key × V))
  /-- a set of ints: its members, its size -/
  | set (S : Int -> Bool) (n : Nat)
  /-- an instance of the class at C, its dict at dx, its attributes -/
  | ins (C dx : Addr) (fs : List (Str × V))
  /-- the dict of the instance at x -/
  | own (x : Addr)
  /-- the dict of an exception -/
  | xd (fs : List (Str × V))
  /-- a bound method, f of x -/
  | met (f x : Addr)
  /-- a range object lo, lo + 1, .. below hi -/
  | rng (lo hi : Int)
  /-- a thing that is known to the object (the script; a dict while a loop walks it): read, never written while it is so -/
  | frz (o : Obj) (u : HO)
  /-- a code object's table -/
  | tbl (ps : Array Value)
  /-- any other thing, by what is true of its one object (a def of one's own: SetO a S n := HO.ext fun h => ..) -/
  | ext (φ : Heap -> Prop)
abbrev Hp := Addr -> Option HO
def upd (H : Hp) (a : Addr) (o : HO) : Hp := fun b => if b = a then some o else H b
theorem cL {H : Hp} {a : Addr} {o : HO} : upd H a o a = some o := by unfold upd; rw [if_pos rfl]
theorem bF {H : Hp} {a b : Addr} {o : HO} (h : b ≠ a) : upd H a o b = H b := by unfold upd; rw [if_neg h]
theorem aZ {H : Hp} {a b : Addr} {o : HO} (h : H a = some o) (h' : H b = none) : a ≠ b := by
  intro e; subst e; rw [h] at h'; cases h'
section
variable (P : Program) (w : World)
def kQ (H : Hp) (h : Heap) (a : Addr) : HO -> Prop
  | .lst xs => xs.length ≤ sizeLine /\ ∃ (its : List Value) (n : Nat), Vals xs its /\ h.get? a = some { cls := .type "list", data := .seq its.toArray n }
  | .tup xs => xs.length ≤ sizeLine /\ ∃ its : List Value, Vals xs its /\ IsTup h a its.toArray
  | .dK kvs => kvs.length ≤ sizeLine /\ (a == sysModules) = false /\ ∃ vs, KV kvs vs /\ h.DictOf (Il P w) a vs
  | .dT kvs => kvs.length ≤ sizeLine /\ (a == sysModules) = false /\ ∃ xs : List (List Key × Addr × Value),
      Paired (fun (p : List Key × V) (q : List Key × Addr × Value) => p.1 = q.1 /\ H q.2.1 = some (.tup (p.1.map kV)) /\ RelV p.2 q.2.2) kvs xs /\
      ∃ o es ep, h.get? a = some o /\ o.ExactDict /\ o.data = .dict es ep /\ es.toList = xs.map (entryOfKey (tupleKind (Il P w))) /\ (xs.map (·.1)).Nodup
  | .set S n => h.SetOf (intKind P w) a S n
  | .ins C dx fs => H dx = some (.own a) /\ fs.length <= 1000 /\ dx ≠ a /\ h.get? a = some (PySem.W.instObj C dx) /\
      ∃ mA, h.Ns1 dx mA /\ (∀ f, QU (fs.lookup f) (mA f)) /\ PySem.Within mA (fs.map (·.1))
  | .own _ => ∃ o, h.get? a = some o
  | .xd fs => ∃ mA, h.Ns1 a mA /\ ∀ f, QU (fs.lookup f) (mA f)
  | .rng lo hi => ∃ t u v, h.get? a = some { cls := .type "range", data := .fields #[.int lo t, .int hi u, .int 1 v] }
  | .frz o u => h.get? a = some o /\ kQ H h a u
  | .tbl ps => h.get? a = some { cls := .none, data := .fields ps }
  | .met f x => h.get? a = some (PySem.W.methodObj (.ref f) (.ref x))
  | .ext φ => φ h /\ (∃ o, h.get? a = some o) /\ ∀ h1 h2 : Heap, φ h1 -> (∀ o, h1.get? a = some o -> h2.get? a = some o) -> φ h2
def HOk (H : Hp) (h : Heap) : Prop := ∀ a o, H a = some o -> kQ P w H h a o
end
section
variable {P : Program} {w : World} {H H' : Hp} {h h' : Heap} {a : Addr} {o : HO}
theorem kQ.lt (x : kQ P w H h a o) : a < h.objs.size := by
  cases o with
  | lst xs => obtain ⟨_, _, _, _, e⟩ := x; exact Heap.lt_size e
  | tup xs => obtain ⟨_, _, _, p⟩ := x; exact p.lt
  | dK kvs => obtain ⟨_, _, _, _, o, _, _, e, _⟩ := x; exact Heap.lt_size e
  | dT kvs => obtain ⟨_, _, _, _, o, _, _, e, _⟩ := x; exact Heap.lt_size e
  | set S n => obtain ⟨o, _, _, _, e, _⟩ := x; exact Heap.lt_size e
  | ins C dx fs => obtain ⟨_, _, _, e, _⟩ := x; exact Heap.lt_size e
  | own y => obtain ⟨_, e⟩ := x; exact Heap.lt_size e
  | xd fs => obtain ⟨_, ⟨_, _, _, e, _⟩, _⟩ := x; exact Heap.lt_size e
  | rng lo hi => obtain ⟨_, _, _, e⟩ := x; exact Heap.lt_size e
  | frz ob u => obtain ⟨e, _⟩ := x; exact Heap.lt_size e
  | tbl ps => exact Heap.lt_size (show h.get? a = some _ from x)
  | met f y => exact Heap.lt_size (show h.get? a = some _ from x)
  | ext φ => obtain ⟨_, ⟨_, e⟩, _⟩ := x; exact Heap.lt_size e
theorem Paired.P5 {α β : Type} {F G : α -> β -> Prop} : ∀ {l₁ : List α} {l₂ : List β}, Paired F l₁ l₂ -> (∀ a b, F a b -> G a b) -> Paired G l₁ l₂
  | _, _, .nil, _ => .nil
  | _, _, .cons r t, f => .cons (f _ _ r) (Paired.P5 t f)
theorem kQ.wx (x : kQ P w H h a o) (k : ∀ b u, (b = a \/ H b = some (.own a)) -> h.get? b = some u -> h'.get? b = some u)
    (ho : ∀ b, H b = some (.own a) -> H' b = some (.own a)) (ht : ∀ b xs, H b = some (.tup xs) -> H' b = some (.tup xs)) : kQ P w H' h' a o := by
  induction o with
  | lst xs => obtain ⟨z, its, n, r, e⟩ := x; exact ⟨z, its, n, r, k _ _ (.inl rfl) e⟩
  | tup xs => obtain ⟨z, its, r, ob, e, c⟩ := x; exact ⟨z, its, r, ob, k _ _ (.inl rfl) e, c⟩
  | dK kvs => obtain ⟨z, y, vs, r, ob, es, ep, e, c⟩ := x; exact ⟨z, y, vs, r, ob, es, ep, k _ _ (.inl rfl) e, c⟩
  | dT kvs =>
    obtain ⟨z, y, xs, r, ob, es, ep, e, c⟩ := x
    exact ⟨z, y, xs, Paired.P5 r fun p q z => ⟨z.1, ht _ _ z.2.1, z.2.2⟩, ob, es, ep, k _ _ (.inl rfl) e, c⟩
  | set S n => obtain ⟨ob, es, ep, t, e, c⟩ := x; exact ⟨ob, es, ep, t, k _ _ (.inl rfl) e, c⟩
  | ins C dx fs =>
    obtain ⟨d, z, ne, e, mA, ⟨od, es, ep, e2, c⟩, r⟩ := x
    exact ⟨ho _ d, z, ne, k _ _ (.inl rfl) e, mA, ⟨od, es, ep, k _ _ (.inr d) e2, c⟩, r⟩
  | own y => obtain ⟨ob, e⟩ := x; exact ⟨ob, k _ _ (.inl rfl) e⟩
  | xd fs => obtain ⟨mA, ⟨od, es, ep, e, c⟩, r⟩ := x; exact ⟨mA, ⟨od, es, ep, k _ _ (.inl rfl) e, c⟩, r⟩
  | rng lo hi => obtain ⟨t, u, v, e⟩ := x; exact ⟨t, u, v, k _ _ (.inl rfl) e⟩
  | frz ob u ih => obtain ⟨e, q⟩ := x; exact ⟨k _ _ (.inl rfl) e, ih q⟩
  | tbl ps =>
    have e : h.get? a = some { cls := .none, data := .fields ps } := x
    show h'.get? a = some { cls := .none, data := .fields ps }
    exact k a _ (.inl rfl) e
  | met f y =>
    have e : h.get? a = some (PySem.W.methodObj (.ref f) (.ref y)) := x
    show h'.get? a = some (PySem.W.methodObj (.ref f) (.ref y))
    exact k a _ (.inl rfl) e
  | ext φ => obtain ⟨p, ⟨o, e⟩, st⟩ := x; exact ⟨st _ _ p fun o q => k _ _ (.inl rfl) q, ⟨o, k _ _ (.inl rfl) e⟩, st⟩
theorem HOk.lt (x : HOk P w H h) (e : H a = some o) : a < h.objs.size := (x a o e).lt
theorem HOk.fresh (x : HOk P w H h) (e : h.objs.size <= a) : H a = none := by
  cases q : H a with
  | none => rfl
  | some u => exact absurd (Nat.lt_of_lt_of_le (x.lt q) e) (Nat.lt_irrefl _)
theorem HOk.kept (x : HOk P w H h) (k : ∀ b u, h.get? b = some u -> h'.get? b = some u) : HOk P w H h' := fun a o e =>
  (x a o e).wx (fun b u _ q => k b u q) (fun _ q => q) fun _ _ q => q
theorem HOk.laid (x : HOk P w H h) (k : ∀ b u, h.get? b = some u -> h'.get? b = some u) (hp : h.objs.size ≤ a) (new : kQ P w (upd H a o) h' a o) : HOk P w (upd H a o) h' := fun b u e => by
  have hn := x.fresh hp
  by_cases hb : b = a
  . subst hb; rw [cL] at e; cases e; exact new
  . rw [bF hb] at e
    exact (x b u e).wx (fun c v _ q => k c v q) (fun c q => by rw [bF (aZ q hn)]; exact q) fun c xs q => by rw [bF (aZ q hn)]; exact q
end
def Rd (H : Hp) (a : Addr) (u : HO) : Prop := H a = some u \/ ∃ o, H a = some (.frz o u)
theorem Rd.of {H : Hp} {a : Addr} {u : HO} (h : H a = some u) : Rd H a u := .inl h
theorem Rd.ok {P : Program} {w : World} {H : Hp} {h : Heap} {a : Addr} {u : HO} (r : Rd H a u) (x : HOk P w H h) : kQ P w H h a u := by
  rcases r with r | ⟨o, r⟩
  . exact x a u r
  . obtain ⟨_, q⟩ := x a _ r
    exact q
def Mut : Option HO -> Prop
  | some (.lst _) => True
  | some (.dK _) => True
  | some (.dT _) => True
  | some (.set _ _) => True
  | some (.ins _ _ _) => True
  | some (.ext _) => True
  | _ => False
section
variable {P : Program} {w : World} {H : Hp} {h h' : Heap} {x e : Addr} {o' : HO}
theorem HOk.write (ok : HOk P w H h) (mu : Mut (H x)) (he : e = x \/ H e = some (.own x)) (k : ∀ b u, b ≠ e -> h.get? b = some u -> h'.get? b = some u) (heo : ∃ u, h'.get? e = some u)
    (new : kQ P w (upd H x o') h' x o') : HOk P w (upd H x o') h' := fun b u q => by
  have nown : ∀ c y, H c = some (.own y) -> c ≠ x := fun c y r z => by subst z; rw [r] at mu; exact mu
  have ntup : ∀ c xs, H c = some (.tup xs) -> c ≠ x := fun c xs r z => by subst z; rw [r] at mu; exact mu
  by_cases hb : b = x
  . subst hb; rw [cL] at q; cases q; exact new
  . rw [bF hb] at q
    by_cases hbe : b = e
    . have q' : H b = some (.own x) := by
        rcases he with z | z
        . exact absurd (hbe.trans z) hb
        . rw [hbe]; exact z
      rw [q] at q'; cases q'
      obtain ⟨v, hv⟩ := heo
      exact ⟨v, by rw [hbe]; exact hv⟩
    . refine (ok b u q).wx (fun c v hc r => k c v ?_ r) (fun c r => by rw [bF (nown c b r)]; exact r) fun c xs r => by rw [bF (ntup c xs r)]; exact r
      rcases hc with rfl | hc
      . exact hbe
      . rintro rfl
        rcases he with z | z
        . exact nown c b hc z
        . rw [hc] at z; cases z; exact hb rfl
end
structure Un (fs ex : List Addr) (H H' : Hp) (h h' : Heap) : Prop where
  keep : ∀ b o, h.get? b = some o -> H b = none -> b ∉ fs -> b ∉ ex -> h'.get? b = some o
  slot : ∀ b o, h.get? b = some o -> H b = none -> b ∈ fs -> b ∉ ex -> ∃ sl, h'.get? b = some { o with slots := sl }
  free : ∀ b o, h.get? b = some o -> H b = none -> b ∉ ex -> H' b = none
  there : ∀ b o, h.get? b = some o -> b ∉ ex -> ∃ o', h'.get? b = some o'
  q9 : ∀ b xs, H b = some (.tup xs) -> H' b = some (.tup xs)
  qA : ∀ b o u, H b = some (.frz o u) -> H' b = some (.frz o u)
  pN : ∀ b ps, H b = some (.tbl ps) -> ∃ more, H' b = some (.tbl (ps ++ more))
section
variable {fs fs' ex ex' : List Addr} {H H1 H2 : Hp} {h h1 h2 h' : Heap} {a x e : Addr} {o : HO}
theorem Un.any (u : Un fs ex H H1 h h1) {b : Addr} {ob : Obj} (q : h.get? b = some ob) (n : H b = none) (hx : b ∉ ex) : ∃ sl, h1.get? b = some { ob with slots := sl } := by
  by_cases hb : b ∈ fs
  . exact u.slot b ob q n hb hx
  . exact ⟨ob.slots, u.keep b ob q n hb hx⟩
theorem Un.trans (a : Un fs ex H H1 h h1) (b : Un fs ex H1 H2 h1 h2) : Un fs ex H H2 h h2 where
  keep := fun c ob q n hc hx => b.keep c ob (a.keep c ob q n hc hx) (a.free c ob q n hx) hc hx
  slot := fun c ob q n hc hx => by
    obtain ⟨sl, e1⟩ := a.slot c ob q n hc hx
    obtain ⟨sl', e2⟩ := b.slot c _ e1 (a.free c ob q n hx) hc hx
    exact ⟨sl', e2⟩
  free := fun c ob q n hx => by
    obtain ⟨o', e1⟩ := a.there c ob q hx
    exact b.free c o' e1 (a.free c ob q n hx) hx
  there := fun c ob q hx => by
    obtain ⟨o', e1⟩ := a.there c ob q hx
    exact b.there c o' e1 hx
  q9 := fun c xs q => b.q9 c xs (a.q9 c xs q)
  qA := fun c ob xs q => b.qA c ob xs (a.qA c ob xs q)
  pN := fun c ps q => by
    obtain ⟨m1, e1⟩ := a.pN c ps q
    obtain ⟨m2, e2⟩ := b.pN c _ e1
    exact ⟨m1 ++ m2, by rw [e2, Array.append_assoc]⟩
theorem Un.kept (k : ∀ b u, h.get? b = some u -> h'.get? b = some u) : Un fs ex H H h h' :=
  ⟨fun b ob q _ _ _ => k b ob q, fun b ob q _ _ _ => ⟨ob.slots, k b ob q⟩, fun _ _ _ n _ => n, fun b ob q _ => ⟨ob, k b ob q⟩, fun _ _ q => q, fun _ _ _ q => q, fun _ ps q => ⟨#[], by rw [q]; simp⟩⟩
theorem Un.refl : Un fs ex H H h h := Un.kept fun _ _ q => q
theorem Un.laid (k : ∀ b u, h.get? b = some u -> h'.get? b = some u) (hp : h.objs.size ≤ a) (hn : H a = none) : Un fs ex H (upd H a o) h h' where
  keep := fun b u q _ _ _ => k b u q
  slot := fun b u q _ _ _ => ⟨u.slots, k b u q⟩
  free := fun b u q n _ => by rw [bF (Nat.ne_of_lt (Nat.lt_of_lt_of_le (Heap.lt_size q) hp))]; exact n
  there := fun b u q _ => ⟨u, k b u q⟩
  q9 := fun b xs q => by rw [bF (aZ q hn)]; exact q
  qA := fun b u xs q => by rw [bF (aZ q hn)]; exact q
  pN := fun b ps q => ⟨#[], by rw [bF (aZ q hn), q]; simp⟩
theorem Un.write (mu : Mut (H x)) (he : e = x \/ H e = some (.own x)) (k : ∀ b u, b ≠ e -> h.get? b = some u -> h'.get? b = some u) (heo : ∃ u, h'.get? e = some u) : Un fs ex H (upd H x o) h h' := by
  have hx : ∀ b, H b = none -> b ≠ x := fun b n z => by subst z; rw [n] at mu; exact mu
  have hb : ∀ b, H b = none -> b ≠ e := fun b n z => by
    subst z
    rcases he with r | r
    . exact hx b n r
    . rw [n] at r; cases r
  have hm : ∀ b u, H b = some u -> ¬ Mut (some u) -> b ≠ x := fun b u q nm z => by subst z; rw [q] at mu; exact nm mu
  refine ⟨fun b u q n _ _ => k b u (hb b n) q, fun b u q n _ _ => ⟨u.slots, k b u (hb b n) q⟩, fun b u q n _ => by rw [bF (hx b n)]; exact n, fun b u q _ => ?_,
    fun b xs q => by rw [bF (hm b _ q fun z => z)]; exact q, fun b u xs q => by rw [bF (hm b _ q fun z => z)]; exact q, fun b ps q => ⟨#[], by rw [bF (hm b _ q fun z => z), q]; simp⟩⟩
  by_cases hbe : b = e
  . subst hbe; exact heo
  . exact ⟨u, k b u hbe q⟩
theorem Un.mono (u : Un fs ex H H1 h h1) (hs : ∀ b ∈ fs, b ∈ fs') (hx : ∀ b ∈ ex, b ∈ ex') : Un fs' ex' H H1 h h1 :=
  ⟨fun b ob q n hb he => u.keep b ob q n (fun z => hb (hs b z)) fun z => he (hx b z), fun _ _ q n _ he => u.any q n fun z => he (hx _ z), fun b ob q n he => u.free b ob q n fun z => he (hx b z), fun b ob q he => u.there b ob q fun z => he (hx b z), u.q9, u.qA, u.pN⟩
end
def trk (h : Heap) (H : Hp) : List Addr := (List.range h.objs.size).filter fun a => (H a).isSome
def BC (h : Heap) (H : Hp) : Heap := PySem.W.hideAll h (trk h H)
theorem IQ (h : Heap) (H : Hp) : (BC h H).objs.size = h.objs.size := PySem.W.hideAll_size _ _
theorem JV {h : Heap} {H : Hp} {b : Addr} {o : Obj} (e : h.get? b = some o) (n : H b = none) : (BC h H).get? b = some o :=
  PySem.W.hideAll_get _ e fun hm => by
    have q : (H b).isSome = true := (List.mem_filter.mp hm).2
    rw [n] at q; simp at q
theorem Nc {h : Heap} {H : Hp} {b : Addr} {o : Obj} (e : (BC h H).get? b = some o) : h.get? b = some o /\ H b = none := by
  have e' : h.get? b = some o := PySem.W.of_hideAll (trk h H) e
  refine ⟨e', ?_⟩
  cases q : H b with
  | none => rfl
  | some x =>
    have hm : b ∈ trk h H := List.mem_filter.mpr ⟨List.mem_range.mpr (Heap.lt_size e'), by simp [q]⟩
    have z : (BC h H).get? b = none := PySem.W.hideAll_none (trk h H) hm
    rw [z] at e; cases e
def LZ (g h : Heap) (L : Addr) : List (Addr × Obj) := (List.range h.objs.size).filterMap fun a => if a = L \/ (g.get? a).isSome = true then none else (h.get? a).map fun o => (a, o)
def rest (g h : Heap) (L d : Addr) : List (Addr × Obj) := (LZ g h L).filter fun p => decide (p.1 ≠ d)
end L2
namespace L2
open PySem PySem.Spec PyProof.Rows
structure Mod (K : PySem.W.Frag) (mg : Str -> Option Value) (base : Heap) : Prop where
  kin : K.In base
  glob : base.Ns mainGlobals mg
  blt : ∃ mb, base.Ns builtinsNs mb /\ ∀ x : Str, x ≠ "__name__" -> mb x = bootBuiltins x
  nolimit : base.NoLimit
structure Cx where
  prog : Program
  w : World
  K : PySem.W.Frag
  mg : Str -> Option Value
  base : Heap
  A : Around
  N : List Str
  s₀ : Shared
  H₀ : Hp
  env : Env
  outer : List Env
  stack : List Env
  ex : List Addr
  fn : Str -> Bool
  calm : Bool
  pn : List (Addr × Obj)
  xe : Value -> Shared -> Prop
def frs (l : List Env) : List Addr := l.filterMap (·.frame)
abbrev Cx.fs (X : Cx) : List Addr := frs X.outer
def Vis (sc : Scope) (x : Str) : Prop := sc.names.lookup x = some .local \/ sc.names.lookup x = some .cell \/ sc.names.lookup x = some .free
def Loc (sc : Scope) (x : Str) : Prop := sc.names.lookup x = some .local \/ sc.names.lookup x = some .cell
def Look (env : Env) (h : Heap) (m : Str -> Option Value) (x : Str) (u : Value) : Prop :=
  (env.kindOf x = some .local /\ m x = some u) \/ ((env.kindOf x = some .cell \/ env.kindOf x = some .free) /\ ∃ c, env.cells.lookup x = some c /\ h.IsCell c (some u))
structure Cx.Ok (X : Cx) : Prop where
  mod : Mod X.K X.mg X.base
  kind : X.env.scope.kind = .function
  glob : X.env.globals = mainGlobals
  blt : X.env.builtins = builtinsNs
  above : X.s₀.heap.objs.size <= X.env.locals
  inj : ∀ x y c, X.env.cells.lookup x = some c -> X.env.cells.lookup y = some c -> x = y
  has : ∀ x, (X.env.kindOf x = some .cell \/ X.env.kindOf x = some .free) -> ∃ c, X.env.cells.lookup x = some c
  cab : ∀ x c, X.fn x = true -> X.env.cells.lookup x = some c -> X.s₀.heap.objs.size ≤ c
  hd : X.calm = true -> X.A.handled = none
  qt : X.A.handled = none \/ ∃ (e : Addr) (oe : Obj) (vs : Array Value), X.A.handled = some (.ref e) /\ (e, oe) ∈ X.pn /\ oe.data = .fields vs /\ vs[2]? = some .none
  frames : X.A.frames = some X.stack
  stk : X.stack = X.outer \/ (X.stack = X.env :: X.outer /\ X.env.frame = some X.env.locals)
  exf : ∀ b ∈ X.ex, b ≠ X.env.locals /\ ∀ x c, X.env.cells.lookup x = some c -> c ≠ b
  bs : ∀ b o, X.base.get? b = some o -> X.s₀.heap.get? b = some o /\ X.H₀ b = none
  bsz : X.base.objs.size <= X.s₀.heap.objs.size
  CN : ∀ b o, X.base.get? b = some o -> b ∉ X.ex
  Lz : ∀ b ∈ X.ex, b ∉ X.fs
  sr : X.s₀.heap.FunFrames X.base X.outer
  frf : ∀ b ∈ X.fs, X.H₀ b = none
structure Inv (X : Cx) (pins : List (Addr × Obj)) (σ : List (Option V)) (H : Hp) (s : Shared) : Prop where
  ok : X.Ok
  os : s.os = X.s₀.os
  bare : AllBare s.gens
  base : Un X.fs X.ex X.H₀ H X.s₀.heap s.heap
  loc : ∃ m, s.heap.Ns X.env.locals m /\ ∀ (i : Nat) (x : Str) (v : V), X.N[i]? = some x -> σ[i]? = some (some v) -> Vis X.env.scope x -> ∃ u, RelV v u /\ Look X.env s.heap m x u
  cell : ∀ x c, X.env.cells.lookup x = some c -> ∃ v, s.heap.IsCell c v
  free : H X.env.locals = none
  jZ : ∀ x c, X.env.cells.lookup x = some c -> H c = none
  pin : ∀ p ∈ X.pn ++ pins, s.heap.get? p.1 = some p.2 /\ H p.1 = none /\ p.1 ≠ X.env.locals /\ p.1 ∉ X.fs /\ ∀ v, p.2.data ≠ .cell v
  hok : HOk X.prog X.w H s.heap
  len : σ.length = X.N.length
section
variable {X : Cx} {pins : List (Addr × Obj)} {σ : List (Option V)} {H H' : Hp} {s : Shared} {h' : Heap}
theorem Inv.FR (I : Inv X pins σ H s) : jQ X.A s.heap := by
  rcases I.ok.qt with q | ⟨e, oe, vs, q, hp, r⟩
  . exact .inl q
  . exact .inr ⟨e, oe, vs, q, (I.pin (e, oe) (List.mem_append_left _ hp)).1, r⟩
theorem Inv.hne (I : Inv X pins σ H s) {b : Addr} (hb : ∀ p ∈ X.pn ++ pins, p.1 ≠ b) : ∀ e, X.A.handled = some (.ref e) -> e ≠ b := fun e he => by
  rcases I.ok.qt with q | ⟨e1, oe, vs, q, hp, r⟩
  . rw [q] at he; cases he
  . rw [q] at he; cases he; exact hb (e, oe) (List.mem_append_left _ hp)
theorem Cx.Ok.Ry (ok : X.Ok) {b : Addr} {o : Obj} (e : X.base.get? b = some o) : b ∉ X.fs := fun hb => by
  have := (ok.sr.mem hb).1
  rw [e] at this; cases this
theorem Inv.bs (I : Inv X pins σ H s) : ∀ b o, X.base.get? b = some o -> s.heap.get? b = some o /\ H b = none := fun b o e =>
  ⟨I.base.keep b o (I.ok.bs b o e).1 (I.ok.bs b o e).2 (I.ok.Ry e) (I.ok.CN b o e), I.base.free b o (I.ok.bs b o e).1 (I.ok.bs b o e).2 (I.ok.CN b o e)⟩
theorem Inv.bk (I : Inv X pins σ H s) : ∀ b o, X.base.get? b = some o -> s.heap.get? b = some o := fun b o e => (I.bs b o e).1
theorem Inv.mod (I : Inv X pins σ H s) : Mod X.K X.mg X.base := I.ok.mod
theorem Inv.kIn (I : Inv X pins σ H s) : X.K.In s.heap := I.ok.mod.kin.keeps I.bk
theorem Inv.fr (I : Inv X pins σ H s) : ∃ m, Fr X.base X.env.locals s.heap m :=
  let ⟨m, hn, _⟩ := I.loc
  ⟨m, hn, I.bk, Nat.le_trans I.ok.bsz I.ok.above⟩
theorem Inv.lt (I : Inv X pins σ H s) : X.env.locals < s.heap.objs.size := let ⟨_, hn, _⟩ := I.loc; hn.lt
theorem Inv.sz (I : Inv X pins σ H s) : X.s₀.heap.objs.size <= s.heap.objs.size := Nat.le_trans I.ok.above (Nat.le_of_lt I.lt)
theorem Inv.RJ (I : Inv X pins σ H s) {a : Addr} (h : s.heap.objs.size <= a) : a ∉ X.fs := fun hb => by
  obtain ⟨_, o, ho, _⟩ := I.ok.sr.mem hb
  exact absurd (Nat.lt_of_lt_of_le (Heap.lt_size ho) (Nat.le_trans I.sz h)) (Nat.lt_irrefl _)
theorem Inv.cne (I : Inv X pins σ H s) : ∀ x c, X.env.cells.lookup x = some c -> c ≠ X.env.locals := fun x c e z => by
  obtain ⟨v, o, ho, hd⟩ := I.cell x c e
  obtain ⟨m, ⟨o', es, ep, ho', hd', _⟩, _⟩ := I.loc
  rw [z, ho'] at ho; cases ho; rw [hd'] at hd; cases hd
theorem Inv.sr (I : Inv X pins σ H s) : s.heap.FunFrames X.base X.outer := by
  have all : ∀ (l : List Env), (∀ b ∈ frs l, b ∈ X.fs) -> X.s₀.heap.FunFrames X.base l -> s.heap.FunFrames X.base l := by
    intro l
    induction l with
    | nil => intro _ _; trivial
    | cons env r ih =>
      intro hs hl
      obtain ⟨hk, ⟨L, o, hf, hn, ho, hd⟩, hr⟩ := hl
      have hL : L ∈ X.fs := hs L (by unfold frs; rw [List.filterMap_cons, hf]; exact List.mem_cons_self)
      obtain ⟨sl, e⟩ := I.base.slot L o ho (I.ok.frf L hL) hL fun z => I.ok.Lz L z hL
      exact ⟨hk, ⟨L, _, hf, hn, e, hd⟩, ih (fun b hb => hs b (by unfold frs; rw [List.filterMap_cons, hf]; exact List.mem_cons_of_mem _ hb)) hr⟩
  exact all X.outer (fun _ hb => hb) I.ok.sr
theorem Inv.stack (I : Inv X pins σ H s) : s.heap.FunFrames X.base X.stack := by
  rcases I.ok.stk with e | ⟨e, hf⟩
  . rw [e]; exact I.sr
  . rw [e]
    obtain ⟨m, hn, _⟩ := I.loc
    refine .cons (by rw [I.ok.kind]; decide) hf hn ?_ I.sr
    exact Heap.get?_none_of_le (Nat.le_trans I.ok.bsz I.ok.above)
theorem Inv.qp (I : Inv X pins σ H s) : ∀ b ∈ frs X.stack, b ∈ X.env.locals :: X.fs := fun b hb => by
  rcases I.ok.stk with e | ⟨e, hf⟩
  . rw [e] at hb; exact List.mem_cons_of_mem _ hb
  . rw [e] at hb
    unfold frs at hb
    rw [List.filterMap_cons, hf] at hb
    exact hb
theorem Inv.tP (I : Inv X pins σ H s) : ∀ b ∈ frs X.stack, H b = none := fun b hb => by
  rcases List.mem_cons.mp (I.qp b hb) with e | hb
  . rw [e]; exact I.free
  . obtain ⟨_, o, ho, _⟩ := I.ok.sr.mem hb
    exact I.base.free b o ho (I.ok.frf b hb) fun z => I.ok.Lz b z hb
theorem Inv.step {g' : Array GenState} {t' : Nat} {d' : Drawn} {ch : List Addr} (I : Inv X pins σ H s)
    (hch : ∀ b ∈ ch, (b ∈ X.ex \/ X.s₀.heap.objs.size ≤ b) /\ b ≠ X.env.locals /\ (∀ x c, X.env.cells.lookup x = some c -> c ≠ b) /\ ∀ p ∈ X.pn ++ pins, p.1 ≠ b)
    (keep : ∀ b o, b ≠ X.env.locals -> b ∉ X.fs -> b ∉ ch -> s.heap.get? b = some o -> H b = none -> h'.get? b = some o)
    (slot : ∀ b o, b ≠ X.env.locals -> b ∈ X.fs -> b ∉ ch -> s.heap.get? b = some o -> H b = none -> ∃ sl, h'.get? b = some { o with slots := sl }) (free : ∀ b o, b ∉ ch -> s.heap.get? b = some o -> H b = none -> H' b = none)
    (there : ∀ b o, b ∉ ch -> s.heap.get? b = some o -> ∃ o', h'.get? b = some o')
    (q9 : ∀ b xs, H b = some (.tup xs) -> H' b = some (.tup xs)) (qA : ∀ b o u, H b = some (.frz o u) -> H' b = some (.frz o u)) (pN : ∀ b ps, H b = some (.tbl ps) -> ∃ more, H' b = some (.tbl (ps ++ more)))
    (ns : ∀ m, s.heap.Ns X.env.locals m -> h'.Ns X.env.locals m) (hok : HOk X.prog X.w H' h') (hg : AllBare g') :
    Inv X pins σ H' { s with heap := h', gens := g', drawn := d', toks := t' } := by
  have neL : ∀ b o, X.s₀.heap.get? b = some o -> b ≠ X.env.locals := fun b o e => Nat.ne_of_lt (Nat.lt_of_lt_of_le (Heap.lt_size e) I.ok.above)
  have neC : ∀ b o, X.s₀.heap.get? b = some o -> b ∉ X.ex -> b ∉ ch := fun b o e hx hb => by
    rcases (hch b hb).1 with z | z
    . exact hx z
    . exact absurd (Nat.lt_of_lt_of_le (Heap.lt_size e) z) (Nat.lt_irrefl _)
  have cellK : ∀ x c, X.env.cells.lookup x = some c -> ∀ v, s.heap.IsCell c v -> h'.IsCell c v := fun x c e v ⟨o, ho, hd⟩ => by
    have nch : c ∉ ch := fun z => (hch c z).2.2.1 x c e rfl
    by_cases hc : c ∈ X.fs
    . obtain ⟨sl, q⟩ := slot c o (I.cne x c e) hc nch ho (I.jZ x c e)
      exact ⟨_, q, hd⟩
    . exact ⟨o, keep c o (I.cne x c e) hc nch ho (I.jZ x c e), hd⟩
  refine ⟨I.ok, I.os, hg, ⟨fun b o e n hb hx => ?_, fun b o e n hb hx => ?_, fun b o e n hx => ?_, fun b o e hx => ?_, fun b xs e => q9 b xs (I.base.q9 b xs e), fun b o xs e => qA b o xs (I.base.qA b o xs e), fun b ps e => ?_⟩, ?_, fun x c e => ?_, ?_, fun x c e => ?_, fun p hp => ?_, hok, I.len⟩
  . exact keep b o (neL b o e) hb (neC b o e hx) (I.base.keep b o e n hb hx) (I.base.free b o e n hx)
  . obtain ⟨sl, e1⟩ := I.base.slot b o e n hb hx
    obtain ⟨sl', e2⟩ := slot b _ (neL b o e) hb (neC b o e hx) e1 (I.base.free b o e n hx)
    exact ⟨sl', e2⟩
  . obtain ⟨o', e1⟩ := I.base.there b o e hx
    exact free b o' (neC b o e hx) e1 (I.base.free b o e n hx)
  . obtain ⟨o', e1⟩ := I.base.there b o e hx
    exact there b o' (neC b o e hx) e1
  . obtain ⟨m1, e1⟩ := I.base.pN b ps e
    obtain ⟨m2, e2⟩ := pN b _ e1
    exact ⟨m1 ++ m2, by rw [e2, Array.append_assoc]⟩
  . obtain ⟨m, hn, hl⟩ := I.loc
    refine ⟨m, ns m hn, fun i x v e1 e2 e3 => ?_⟩
    obtain ⟨u, r, l⟩ := hl i x v e1 e2 e3
    refine ⟨u, r, ?_⟩
    rcases l with l | ⟨k, c, e, z⟩
    . exact .inl l
    . exact .inr ⟨k, c, e, cellK x c e _ z⟩
  . obtain ⟨v, z⟩ := I.cell x c e
    exact ⟨v, cellK x c e v z⟩
  . obtain ⟨m, ⟨o, _, _, ho, _⟩, _⟩ := I.loc
    exact free _ o (fun z => (hch _ z).2.1 rfl) ho I.free
  . obtain ⟨v, o, ho, hd⟩ := I.cell x c e
    exact free c o (fun z => (hch c z).2.2.1 x c e rfl) ho (I.jZ x c e)
  . obtain ⟨e, n, ne, nf, d⟩ := I.pin p hp
    have nch : p.1 ∉ ch := fun z => (hch p.1 z).2.2.2 p hp rfl
    exact ⟨keep p.1 p.2 ne nf nch e n, free p.1 p.2 nch e n, ne, nf, d⟩
theorem Inv.un {t' : Nat} (I : Inv X pins σ H s) (u : Un X.fs [] H H' s.heap h') (hok : HOk X.prog X.w H' h') : Inv X pins σ H' { s with heap := h', toks := t' } := by
  obtain ⟨m, ⟨o, es, ep, ho, r⟩, _⟩ := id I.loc
  obtain ⟨sl, hL⟩ := u.any ho I.free (by simp)
  exact I.step (g' := s.gens) (d' := s.drawn) (ch := []) (fun _ z => nomatch z) (fun b o _ hb _ e n => u.keep b o e n hb (by simp)) (fun b o _ hb _ e n => u.slot b o e n hb (by simp)) (fun b o _ e n => u.free b o e n (by simp)) (fun b o _ e => u.there b o e (by simp)) u.q9 u.qA u.pN (fun m' hm => by
    obtain ⟨o', es', ep', ho', r'⟩ := hm
    rw [ho] at ho'; cases ho'
    exact ⟨_, es', ep', hL, r'⟩) hok I.bare
theorem Inv.call {g' : Array GenState} {t' : Nat} {d' : Drawn} {ch : List Addr} (I : Inv X pins σ H s) (u : Un (frs X.stack) ch H H' s.heap h') (hok : HOk X.prog X.w H' h') (hg : AllBare g')
    (hch : ∀ b ∈ ch, (b ∈ X.ex \/ X.s₀.heap.objs.size ≤ b) /\ b ≠ X.env.locals /\ (∀ x c, X.env.cells.lookup x = some c -> c ≠ b) /\ ∀ p ∈ X.pn ++ pins, p.1 ≠ b) :
    Inv X pins σ H' { s with heap := h', gens := g', drawn := d', toks := t' } := by
  obtain ⟨m, ⟨o, es, ep, ho, r⟩, _⟩ := id I.loc
  obtain ⟨sl, hL⟩ := u.any ho I.free fun z => (hch _ z).2.1 rfl
  exact I.step (ch := ch) hch (fun b o hL hb hc e n => u.keep b o e n (fun z => (List.mem_cons.mp (I.qp b z)).elim hL hb) hc) (fun b o _ _ hc e n => u.any e n hc) (fun b o hc e n => u.free b o e n hc) (fun b o hc e => u.there b o e hc) u.q9 u.qA u.pN (fun m' hm => by
    obtain ⟨o', es', ep', ho', r'⟩ := hm
    rw [ho] at ho'; cases ho'
    exact ⟨_, es', ep', hL, r'⟩) hok hg
theorem Inv.turned {t' : Nat} {it : Addr} (I : Inv X pins σ H s) (k : ∀ b o, b ≠ it -> s.heap.get? b = some o -> h'.get? b = some o) (hn : H it = none) (hL : it ≠ X.env.locals)
    (h1 : it ∈ X.ex \/ X.s₀.heap.objs.size ≤ it) (h2 : ∀ x c, X.env.cells.lookup x = some c -> c ≠ it) (h3 : ∀ p ∈ X.pn ++ pins, p.1 ≠ it) : Inv X pins σ H { s with heap := h', toks := t' } := by
  have nit : ∀ b u, H b = some u -> b ≠ it := fun b u e z => by rw [z, hn] at e; cases e
  refine I.step (g' := s.gens) (d' := s.drawn) (ch := [it]) (fun b hb => ?_) (fun b o _ _ hc e _ => k b o (fun z => hc (by simp [z])) e) (fun b o _ _ hc e _ => ⟨o.slots, k b o (fun z => hc (by simp [z])) e⟩) (fun _ _ _ _ n => n)
    (fun b o hc e => ⟨o, k b o (fun z => hc (by simp [z])) e⟩) (fun _ _ e => e) (fun _ _ _ e => e) (fun b ps e => ⟨#[], by rw [e]; simp⟩) (fun m hm => ?_) (fun b u e => ?_) I.bare
  . have e : b = it := by simpa using hb
    subst e
    exact ⟨h1, hL, h2, h3⟩
  . obtain ⟨o, es, ep, ho, r⟩ := hm
    exact ⟨o, es, ep, k _ o (Ne.symm hL) ho, r⟩
  . refine (I.hok b u e).wx (fun c v hc q => k c v ?_ q) (fun _ q => q) fun _ _ q => q
    rcases hc with z | z
    . rw [z]; exact nit b u e
    . exact nit c _ z
theorem Inv.tok (I : Inv X pins σ H s) (t : Nat) : Inv X pins σ H { s with toks := t } := I.un (h' := s.heap) (t' := t) Un.refl I.hok
theorem Inv.kept {t' : Nat} (I : Inv X pins σ H s) (k : ∀ b u, s.heap.get? b = some u -> h'.get? b = some u) : Inv X pins σ H { s with heap := h', toks := t' } := I.un (Un.kept k) (I.hok.kept k)
theorem Inv.laid {a : Addr} {o : HO} {t' : Nat} (I : Inv X pins σ H s) (k : ∀ b u, s.heap.get? b = some u -> h'.get? b = some u) (hp : s.heap.objs.size ≤ a) (new : kQ X.prog X.w (upd H a o) h' a o) :
    Inv X pins σ (upd H a o) { s with heap := h', toks := t' } := I.un (Un.laid k hp (I.hok.fresh hp)) (I.hok.laid k hp new)
theorem Inv.write {x e : Addr} {o : HO} {t' : Nat} (I : Inv X pins σ H s) (mu : Mut (H x)) (he : e = x \/ H e = some (.own x)) (k : ∀ b u, b ≠ e -> s.heap.get? b = some u -> h'.get? b = some u) (heo : ∃ u, h'.get? e = some u)
    (new : kQ X.prog X.w (upd H x o) h' x o) : Inv X pins σ (upd H x o) { s with heap := h', toks := t' } := I.un (Un.write mu he k heo) (I.hok.write mu he k heo new)
theorem Inv.Hm {pins' : List (Addr × Obj)} (I : Inv X pins σ H s) (h : ∀ p ∈ pins', s.heap.get? p.1 = some p.2 /\ H p.1 = none /\ p.1 ≠ X.env.locals /\ p.1 ∉ X.fs /\ ∀ v, p.2.data ≠ .cell v) : Inv X pins' σ H s :=
  ⟨I.ok, I.os, I.bare, I.base, I.loc, I.cell, I.free, I.jZ, fun p hp => (List.mem_append.mp hp).elim (fun z => I.pin p (List.mem_append_left _ z)) (h p), I.hok, I.len⟩
theorem CV {N : List Str} (hN : N.Nodup) {i j : Nat} {x : Str} (a : N[i]? = some x) (b : N[j]? = some x) : i = j := by
  obtain ⟨h1, e1⟩ := List.getElem?_eq_some_iff.mp a
  obtain ⟨h2, e2⟩ := List.getElem?_eq_some_iff.mp b
  exact (List.getElem_inj hN).mp (e1.trans e2.symm)
theorem Jk {M : Model} {A : Around} {E : Value -> Shared -> Prop} {i : Nat} {x : Str} {v : V} {u : Value} {Q : Unit -> Shared -> Prop} (I : Inv X pins σ H s) (hN : X.N.Nodup) (hi : X.N[i]? = some x) (hx : Loc X.env.scope x) (r : RelV v u)
    (h : ∀ s', Inv X pins (σ.set i (some v)) H s' -> (∃ a, Heap.SameBut a s.heap s'.heap /\ (a = X.env.locals \/ X.env.cells.lookup x = some a)) -> Q () s') (hf : X.fn x = true \/ X.env.scope.names.lookup x = some .local := by first | exact .inl rfl | exact .inr rfl | assumption) : wpAny M A (storeName X.env x u) Q E s := by
  obtain ⟨m, hn, hl⟩ := id I.loc
  have hcls : (X.env.scope.kind == .class || (X.env.scope.kind == .module && X.env.locals != X.env.globals)) = false := by rw [I.ok.kind]; rfl
  have hiσ : i < σ.length := by rw [I.len]; exact (List.getElem?_eq_some_iff.mp hi).1
  have cne := I.cne
  have tracked : ∀ {a : Addr} {h' : Heap}, (∃ o, s.heap.get? a = some o /\ H a = none) -> Heap.SameBut a s.heap h' -> HOk X.prog X.w H h' := fun {a h'} ha hs b ob e => by
    obtain ⟨_, _, hfree⟩ := ha
    refine (I.hok b ob e).wx (fun c w' hc q => (hs.2 c ?_).trans q) (fun _ q => q) fun _ _ q => q
    rintro rfl
    rcases hc with rfl | hc
    . rw [hfree] at e; cases e
    . rw [hfree] at hc; cases hc
  rcases hx with hk | hk
  . refine wpAny_storeName_local hk hn (fun h' hn' hs => ?_) hcls
    obtain ⟨oL, _, _, hoL, _⟩ := id hn
    refine h _ ⟨I.ok, I.os, I.bare, ⟨fun b o e n hb hx => ?_, fun b o e n hb hx => ?_, I.base.free, fun b o e hx => ?_, I.base.q9, I.base.qA, I.base.pN⟩, ⟨_, hn', fun j y v' e1 e2 e3 => ?_⟩, fun y c e => ?_, I.free, I.jZ, fun p hp => ?_, tracked ⟨oL, hoL, I.free⟩ hs, by simpa using I.len⟩ ⟨_, hs, .inl rfl⟩
    . exact (hs.2 b (Nat.ne_of_lt (Nat.lt_of_lt_of_le (Heap.lt_size e) I.ok.above))).trans (I.base.keep b o e n hb hx)
    . obtain ⟨sl, e1⟩ := I.base.slot b o e n hb hx
      exact ⟨sl, (hs.2 b (Nat.ne_of_lt (Nat.lt_of_lt_of_le (Heap.lt_size e) I.ok.above))).trans e1⟩
    . obtain ⟨o', e1⟩ := I.base.there b o e hx
      exact ⟨o', (hs.2 b (Nat.ne_of_lt (Nat.lt_of_lt_of_le (Heap.lt_size e) I.ok.above))).trans e1⟩
    . by_cases hj : j = i
      . subst hj
        rw [hi] at e1; cases e1
        rw [List.getElem?_set_self hiσ] at e2
        cases e2
        exact ⟨u, r, .inl ⟨hk, by simp⟩⟩
      . rw [List.getElem?_set_ne (Ne.symm hj)] at e2
        obtain ⟨u', r', q⟩ := hl j y v' e1 e2 e3
        refine ⟨u', r', ?_⟩
        rcases q with ⟨k, e⟩ | ⟨k, c, e, z⟩
        . refine .inl ⟨k, ?_⟩
          have : y ≠ x := fun e => hj (CV hN e1 (e ▸ hi))
          simp [this, e]
        . exact .inr ⟨k, c, e, z.sameBut hs (cne y c e)⟩
    . obtain ⟨w', z⟩ := I.cell y c e
      exact ⟨w', z.sameBut hs (cne y c e)⟩
    . obtain ⟨e, n, ne, nf, d⟩ := I.pin p hp
      exact ⟨(hs.2 p.1 ne).trans e, n, ne, nf, d⟩
  . have hfn : X.fn x = true := by
      rcases hf with z | z
      . exact z
      . rw [z] at hk; cases hk
    obtain ⟨c, hc⟩ := I.ok.has x (.inl hk)
    obtain ⟨w', z⟩ := I.cell x c hc
    refine wpAny_storeName_cell I.ok.kind hk hc z (fun h' hc' hs => ?_)
    obtain ⟨oc, hoc, hocd⟩ := id z
    refine h { s with heap := h' } ⟨I.ok, I.os, I.bare, ⟨fun b o e n hb hx => ?_, fun b o e n hb hx => ?_, I.base.free, fun b o e hx => ?_, I.base.q9, I.base.qA, I.base.pN⟩, ⟨m, hn.sameBut hs (Ne.symm (cne x c hc)), fun j y v' e1 e2 e3 => ?_⟩, fun y c' e => ?_, I.free, I.jZ, fun p hp => ?_, tracked ⟨oc, hoc, I.jZ x c hc⟩ hs, by simpa using I.len⟩ ⟨c, hs, .inr hc⟩
    . exact (hs.2 b (Nat.ne_of_lt (Nat.lt_of_lt_of_le (Heap.lt_size e) (I.ok.cab x c hfn hc)))).trans (I.base.keep b o e n hb hx)
    . obtain ⟨sl, e1⟩ := I.base.slot b o e n hb hx
      exact ⟨sl, (hs.2 b (Nat.ne_of_lt (Nat.lt_of_lt_of_le (Heap.lt_size e) (I.ok.cab x c hfn hc)))).trans e1⟩
    . obtain ⟨o', e1⟩ := I.base.there b o e hx
      exact ⟨o', (hs.2 b (Nat.ne_of_lt (Nat.lt_of_lt_of_le (Heap.lt_size e) (I.ok.cab x c hfn hc)))).trans e1⟩
    . by_cases hj : j = i
      . subst hj
        rw [hi] at e1; cases e1
        rw [List.getElem?_set_self hiσ] at e2
        cases e2
        exact ⟨u, r, .inr ⟨.inl hk, c, hc, hc'⟩⟩
      . rw [List.getElem?_set_ne (Ne.symm hj)] at e2
        obtain ⟨u', r', q⟩ := hl j y v' e1 e2 e3
        refine ⟨u', r', ?_⟩
        rcases q with q | ⟨k, c', e, z'⟩
        . exact .inl q
        . refine .inr ⟨k, c', e, z'.sameBut hs ?_⟩
          rintro rfl
          exact hj (CV hN e1 (I.ok.inj _ _ _ e hc ▸ hi))
    . by_cases hcc : c' = c
      . subst hcc; exact ⟨_, hc'⟩
      . obtain ⟨w2, z2⟩ := I.cell y c' e
        exact ⟨w2, z2.sameBut hs hcc⟩
    . obtain ⟨e, n, ne, nf, d⟩ := I.pin p hp
      refine ⟨(hs.2 p.1 ?_).trans e, n, ne, nf, d⟩
      intro q
      rw [q, hoc] at e
      have q' : oc = p.2 := Option.some.inj e
      exact d w' (by rw [<- q']; exact hocd)
theorem nu {M : Model} {A : Around} {E : Value -> Shared -> Prop} {i : Nat} {x : Str} {v : V} {u : Value} {Q : Unit -> Shared -> Prop} (I : Inv X pins σ H s) (hN : X.N.Nodup) (hi : X.N[i]? = some x) (hx : Loc X.env.scope x) (r : RelV v u)
    (h : ∀ s', Inv X pins (σ.set i (some v)) H s' -> Q () s') (hf : X.fn x = true \/ X.env.scope.names.lookup x = some .local := by first | exact .inl rfl | exact .inr rfl | assumption) : wpAny M A (storeName X.env x u) Q E s :=
  Jk I hN hi hx r (fun s' I' _ => h s' I') hf
theorem Inv.Ai {s' : Shared} {ch : List Addr} (I : Inv X pins σ H s) (ho : s'.os = s.os) (u : Un (frs X.stack) ch H H' s.heap s'.heap) (hok : HOk X.prog X.w H' s'.heap) (hg : AllBare s'.gens)
    (hch : ∀ b ∈ ch, (b ∈ X.ex \/ X.s₀.heap.objs.size ≤ b) /\ b ≠ X.env.locals /\ (∀ x c, X.env.cells.lookup x = some c -> c ≠ b) /\ ∀ p ∈ X.pn ++ pins, p.1 ≠ b) : Inv X pins σ H' s' := by
  obtain ⟨h', g', d', t', o'⟩ := s'
  have e : o' = s.os := ho
  subst e
  exact I.call (g' := g') (t' := t') (d' := d') u hok hg hch
end
abbrev XK := Value -> Option Addr -> Hp -> Prop
abbrev St := List (Option V)
abbrev VK := V -> Hp -> Prop
abbrev TE := St -> Hp -> VK -> Prop
abbrev TT := St -> Hp -> (Bool -> Hp -> Prop) -> Prop
abbrev TA := St -> Hp -> (List V -> Hp -> Prop) -> Prop
structure Ends where
  nx : St -> Hp -> Prop
  rt : VK
  bk : St -> Hp -> Prop := fun _ _ => False
  ct : St -> Hp -> Prop := fun _ _ => False
abbrev TS := Ends -> St -> Hp -> Prop
def EP (X : Cx) (pins : List (Addr × Obj)) (σ : St) (Q : VK) (u : Value) (s' : Shared) : Prop := ∃ v H', Inv X pins σ H' s' /\ RelV v u /\ Q v H'
def TP (X : Cx) (pins : List (Addr × Obj)) (σ : St) (Q : Bool -> Hp -> Prop) (b : Bool) (s' : Shared) : Prop := ∃ H', Inv X pins σ H' s' /\ Q b H'
def AP (X : Cx) (pins : List (Addr × Obj)) (σ : St) (Q : List V -> Hp -> Prop) (us : List Value) (s' : Shared) : Prop := ∃ vs H', Inv X pins σ H' s' /\ Vals vs us /\ Q vs H'
def SP (X : Cx) (pins : List (Addr × Obj)) (D : Ends) (f : Flow) (s' : Shared) : Prop :=
  match f with
  | .next => ∃ σ' H', Inv X pins σ' H' s' /\ D.nx σ' H'
  | .brk => ∃ σ' H', Inv X pins σ' H' s' /\ D.bk σ' H'
  | .cont => ∃ σ' H', Inv X pins σ' H' s' /\ D.ct σ' H'
  | .ret u => ∃ v σ' H', Inv X pins σ' H' s' /\ RelV v u /\ D.rt v H'
def PE (X : Cx) (e : Expr) (t : TE) : Prop :=
  ∀ (pins : List (Addr × Obj)) (s : Shared) (σ : St) (H : Hp) (Q : VK), Inv X pins σ H s -> t σ H Q -> wpAny (model X.prog X.w) X.A (eval e X.env) (EP X pins σ Q) X.xe s
def PT (X : Cx) (e : Expr) (t : TT) : Prop :=
  ∀ (pins : List (Addr × Obj)) (s : Shared) (σ : St) (H : Hp) (Q : Bool -> Hp -> Prop), Inv X pins σ H s -> t σ H Q -> wpAny (model X.prog X.w) X.A (isTrue e X.env (eval e X.env)) (TP X pins σ Q) X.xe s
def PW (X : Cx) (e : Expr) (t : TT) : Prop :=
  ∀ (whole : Sem Value) (pins : List (Addr × Obj)) (s : Shared) (σ : St) (H : Hp) (Q : Bool -> Hp -> Prop), Inv X pins σ H s -> t σ H Q -> wpAny (model X.prog X.w) X.A (isTrue e X.env whole) (TP X pins σ Q) X.xe s
theorem PW.pt {X : Cx} {e : Expr} {t : TT} (h : PW X e t) : PT X e t := h _
def PA (X : Cx) (es : List Expr) (t : TA) : Prop :=
  ∀ (pos : Pos) (pins : List (Addr × Obj)) (s : Shared) (σ : St) (H : Hp) (Q : List V -> Hp -> Prop), Inv X pins σ H s -> t σ H Q -> wpAny (model X.prog X.w) X.A (spliced (backTo pos (starEach es X.env))) (AP X pins σ Q) X.xe s
def PS (X : Cx) (st : Stmt) (t : TS) : Prop :=
  ∀ (pins : List (Addr × Obj)) (s : Shared) (σ : St) (H : Hp) (D : Ends), Inv X pins σ H s -> t D σ H -> wpAny (model X.prog X.w) X.A (exec st X.env) (SP X pins D) X.xe s
def PSs (X : Cx) (st : List Stmt) (t : TS) : Prop :=
  ∀ (pins : List (Addr × Obj)) (s : Shared) (σ : St) (H : Hp) (D : Ends), Inv X pins σ H s -> t D σ H -> wpAny (model X.prog X.w) X.A (execs st X.env) (SP X pins D) X.xe s
theorem thn {α : Type} {t : Sem α} {Q Q' : α -> Shared -> Prop} {M : Model} {A : Around} {E : Value -> Shared -> Prop} {s : Shared} (h : wpAny M A t Q E s) (hQ : ∀ a s, Q a s -> Q' a s) : wpAny M A t Q' E s := wpAny_mono h hQ fun _ _ x => x
end L2
namespace L2
open PySem PySem.Spec PyProof.Rows
section
variable {X : Cx}
theorem bin {a b : Expr} {ta tb : TE} (ha : PE X a ta) (hb : PE X b tb) {pins : List (Addr × Obj)} {s : Shared} {σ : St} {H : Hp} {R : V -> V -> Hp -> Prop} (I : Inv X pins σ H s) (h : ta σ H fun x H1 => tb σ H1 fun y H2 => R x y H2)
    {α : Type} {Q : α -> Shared -> Prop} {f : Value -> Value -> Sem α}
    (hf : ∀ v u s2 x y H2, Inv X pins σ H2 s2 -> RelV x v -> RelV y u -> R x y H2 -> wpAny (model X.prog X.w) X.A (f v u) Q X.xe s2) :
    wpAny (model X.prog X.w) X.A (eval a X.env) (fun v s₁ => wpAny (model X.prog X.w) X.A (eval b X.env) (fun u s₂ => wpAny (model X.prog X.w) X.A (f v u) Q X.xe s₂) X.xe s₁) X.xe s := by
  refine thn (ha pins s σ H _ I h) fun v s1 ⟨x, H1, I1, r1, q1⟩ => ?_
  refine thn (hb pins s1 σ H1 _ I1 q1) fun u s2 ⟨y, H2, I2, r2, q2⟩ => ?_
  exact hf v u s2 x y H2 I2 r1 r2 q2
def Oc (i : Nat) : TE := fun σ H Q => ∃ v, σ[i]? = some (some v) /\ Q v H
def tC (v : V) : TE := fun _ H Q => Q v H
theorem Fl {i : Nat} {x : Str} {pos : Pos} (hN : X.N[i]? = some x) (hv : Vis X.env.scope x) (hd : (x == ("__debug__" : Str)) = false := by decide) (hcd : (x == ("__classdict__" : Str)) = false := by decide) : PE X (.Name x pos) (Oc i) := by
  intro pins s σ H Q I h
  obtain ⟨v, e, h⟩ := h
  obtain ⟨m, hn, hl⟩ := I.loc
  obtain ⟨u, r, l⟩ := hl i x v hN e hv
  have fin : EP X pins σ Q u s := ⟨v, H, I, r, h⟩
  rcases l with ⟨hk, hm⟩ | ⟨hk, c, hc, hcell⟩
  . exact wpAny_Name (wpAny_loadName_local I.ok.kind hk hn hm fin) hd
  . rcases hk with hk | hk
    . exact wpAny_Name (wpAny_loadName_cell I.ok.kind hk hc hcell fin) hd
    . exact wpAny_Name (wpAny_loadName_free I.ok.kind hk hc hcell fin hcd) hd
theorem NJ {i j pos} : PE X (.Constant (.int i) j pos) (tC (.int i)) := fun _ _ _ H _ I h => wpAny_Constant_int ⟨.int i, H, I.tok _, ⟨_, rfl⟩, h⟩
theorem PY {b j pos} : PE X (.Constant (.bool b) j pos) (tC (.bl b)) := fun _ _ _ H _ I h => Constant_bool ⟨.bl b, H, I, rfl, h⟩
theorem Pd {j pos} : PE X (.Constant .none j pos) (tC .non) := fun _ _ _ H _ I h => Constant_none ⟨.non, H, I, rfl, h⟩
theorem KP {x j pos} : PE X (.Constant (.str x) j pos) (tC (.str x)) := fun _ _ _ H _ I h => Calls.Constant_str ⟨.str x, H, I.tok _, ⟨_, rfl⟩, h⟩
def Gl (X : Cx) (x : Str) : Prop := X.env.kindOf x = some .globalImplicit
theorem tE {E : Value -> Shared -> Prop} {pins : List (Addr × Obj)} {s : Shared} {σ : St} {H : Hp} {x : Str} {u : Value} {pos : Pos} {Q : Value -> Shared -> Prop} (I : Inv X pins σ H s) (hg : Gl X x) (hm : X.mg x = some u) (h : Q u s)
    (hd : (x == ("__debug__" : Str)) = false := by decide) : wpAny (model X.prog X.w) X.A (eval (.Name x pos) X.env) Q E s :=
  Calls.Name_function_global I.ok.kind hg (Calls.loadGlobal_global (by rw [I.ok.glob]; exact I.mod.glob.keeps I.bk) hm h) hd
theorem yB {E : Value -> Shared -> Prop} {pins : List (Addr × Obj)} {s : Shared} {σ : St} {H : Hp} {x : Str} {u : Value} {pos : Pos} {Q : Value -> Shared -> Prop} (I : Inv X pins σ H s) (hg : Gl X x) (hm : X.mg x = none) (hv : bootBuiltins x = some u) (h : Q u s)
    (hn : x ≠ "__name__" := by decide) (hd : (x == ("__debug__" : Str)) = false := by decide) : wpAny (model X.prog X.w) X.A (eval (.Name x pos) X.env) Q E s := by
  obtain ⟨mb, h1, h2⟩ := I.mod.blt
  exact Calls.Name_function_global I.ok.kind hg (Calls.loadGlobal_builtin (by rw [I.ok.glob]; exact I.mod.glob.keeps I.bk) hm (by rw [I.ok.blt]; exact h1.keeps I.bk) ((h2 x hn).trans hv) h) hd
theorem G4 {x : Str} {v : V} {u : Value} {pos : Pos} (hg : Gl X x) (hm : X.mg x = some u) (r : RelV v u) (hd : (x == ("__debug__" : Str)) = false := by decide) : PE X (.Name x pos) (tC v) :=
  fun _ _ _ H _ I h => tE I hg hm ⟨v, H, I, r, h⟩ hd
theorem G5 {x : Str} {v : V} {u : Value} {pos : Pos} (hg : Gl X x) (hm : X.mg x = none) (hv : bootBuiltins x = some u) (r : RelV v u) (hn : x ≠ "__name__" := by decide) (hd : (x == ("__debug__" : Str)) = false := by decide) : PE X (.Name x pos) (tC v) :=
  fun _ _ _ H _ I h => yB I hg hm hv ⟨v, H, I, r, h⟩ hn hd
variable {a b : Expr} {ta tb : TE} {pos : Pos}
def PC (X : Cx) (op : CmpOp) (a b : Expr) (t : TE) : Prop :=
  ∀ (pins : List (Addr × Obj)) (s : Shared) (σ : St) (H : Hp) (Q : VK), Inv X pins σ H s -> t σ H Q ->
    wpAny (model X.prog X.w) X.A (eval a X.env) (fun v s₁ => wpAny (model X.prog X.w) X.A (eval b X.env) (fun u s₂ => wpAny (model X.prog X.w) X.A (compareOp op v u) (EP X pins σ Q) X.xe s₂) X.xe s₁) X.xe s
theorem KY (b : Expr) {op : CmpOp} (h : op ≠ .In) (h2 : op ≠ .NotIn) : behindInMarks op b = false := by
  have e1 : (op == CmpOp.In) = false := by cases op <;> first | rfl | exact absurd rfl h
  have e2 : (op == CmpOp.NotIn) = false := by cases op <;> first | rfl | exact absurd rfl h2
  cases b <;> simp [behindInMarks, e1, e2]
def tB (t : TE) : TT := fun σ H Q => t σ H fun x H1 => ∃ c, x = .bl c /\ Q c H1
theorem Sa {op : CmpOp} {t : TE} (h : PC X op a b t) (h1 : behindInMarks op b = false := by first | exact KY _ (by decide) (by decide) | rfl) : PT X (.Compare a [op] [b] pos) (tB t) := by
  intro pins s σ H Q I hw
  refine wpAny_isTrue_Compare1 (thn (h pins s σ H _ I hw) fun v s1 h1 => thn h1 fun u s2 h2 => thn h2 fun c s3 ⟨x, H1, I1, r1, q1⟩ => ?_) h1
  obtain ⟨d, rfl, q⟩ := q1
  cases r1
  exact wpAny_truthy_bool ⟨H1, I1, q⟩
theorem OM {e : Expr} {t : TE} (h : PE X e t) (he : ∀ whole, isTrue e X.env whole = (do let v <- whole; standAt e.pos; holding [v] (truthy v)) := by intro _; rfl) : PT X e (tB t) := by
  intro pins s σ H Q I hw
  refine isTrue_plain (thn (h pins s σ H _ I hw) fun v s1 ⟨x, H1, I1, r1, q1⟩ => ?_) (he _)
  obtain ⟨d, rfl, q⟩ := q1
  cases r1
  exact wpAny_truthy_bool ⟨H1, I1, q⟩
variable {tA tB' : TT} {rest : List Expr}
def Rv (t u : TT) : TT := fun σ H Q => t σ H fun c H1 => if c = true then u σ H1 Q else Q false H1
def tOr (t u : TT) : TT := fun σ H Q => t σ H fun c H1 => if c = true then Q true H1 else u σ H1 Q
def Rw (t : TT) : TT := fun σ H Q => t σ H fun c H1 => Q (!c) H1
theorem pw_and1 (ha : PT X a tA) : PW X (.BoolOp .And [a] pos) tA := by
  intro wh pins s σ H Q I h
  refine isTrue_and (thn (ha pins s σ H Q I h) fun c s1 e => ?_)
  cases c with
  | true => exact isTrue_and_nil e
  | false => exact e
theorem pw_or1 (ha : PT X a tA) : PW X (.BoolOp .Or [a] pos) tA := by
  intro wh pins s σ H Q I h
  refine isTrue_or (thn (ha pins s σ H Q I h) fun c s1 e => ?_)
  cases c with
  | false => exact isTrue_or_nil e
  | true => exact e
theorem pw_and (ha : PT X a tA) (hb : PW X (.BoolOp .And (b :: rest) pos) tB') : PW X (.BoolOp .And (a :: b :: rest) pos) (Rv tA tB') := by
  intro wh pins s σ H Q I h
  refine isTrue_and (thn (ha pins s σ H _ I h) fun c s1 ⟨H1, I1, q1⟩ => ?_)
  cases c with
  | true => exact hb wh pins s1 σ H1 Q I1 q1
  | false => exact ⟨H1, I1, q1⟩
theorem pw_or (ha : PT X a tA) (hb : PW X (.BoolOp .Or (b :: rest) pos) tB') : PW X (.BoolOp .Or (a :: b :: rest) pos) (tOr tA tB') := by
  intro wh pins s σ H Q I h
  refine isTrue_or (thn (ha pins s σ H _ I h) fun c s1 ⟨H1, I1, q1⟩ => ?_)
  cases c with
  | true => exact ⟨H1, I1, q1⟩
  | false => exact hb wh pins s1 σ H1 Q I1 q1
theorem NN (ha : PT X a tA) : PT X (.UnaryOp .Not a pos) (Rw tA) := by
  intro pins s σ H Q I h
  exact isTrue_not (ha pins s σ H (fun c H1 => Q (!c) H1) I h)
def Qm (ta tb : TE) : TE := fun σ H Q => ta σ H fun x H1 => ∃ c, x = .bl c /\ if c = true then tb σ H1 Q else Q (.bl false) H1
def Q2 (ta : TE) : TE := fun σ H Q => ta σ H fun x H1 => ∃ c, x = .bl c /\ Q (.bl (!c)) H1
theorem N9 {op} {t : TE} (h : PE X a t) : PE X (.BoolOp op [a] pos) t := fun pins s σ H Q I hw => BoolOp_one (h pins s σ H Q I hw)
theorem OV (ha : PE X a ta) (hb : PE X (.BoolOp .And (b :: rest) pos) tb) : PE X (.BoolOp .And (a :: b :: rest) pos) (Qm ta tb) := by
  intro pins s σ H Q I h
  refine BoolOp_and (thn (ha pins s σ H _ I h) fun v s1 ⟨x, H1, I1, r1, q1⟩ => ?_)
  obtain ⟨c, rfl, q1⟩ := q1
  cases r1
  refine wpAny_truthy_bool ?_
  cases c with
  | true => exact hb pins s1 σ H1 Q I1 q1
  | false => exact ⟨.bl false, H1, I1, rfl, q1⟩
theorem NW (ha : PE X a ta) : PE X (.UnaryOp .Not a pos) (Q2 ta) := by
  intro pins s σ H Q I h
  refine UnaryOp_ (thn (ha pins s σ H _ I h) fun v s1 ⟨x, H1, I1, r1, q1⟩ => ?_)
  obtain ⟨c, rfl, q1⟩ := q1
  cases r1
  exact not_of (wpAny_truthy_bool ⟨.bl (!c), H1, I1, rfl, q1⟩)
def tIf (t : TT) (ta tb : TE) : TE := fun σ H Q => t σ H fun c H1 => if c = true then ta σ H1 Q else tb σ H1 Q
theorem LO {c : Expr} (hc : PT X c tA) (ha : PE X a ta) (hb : PE X b tb) : PE X (.IfExp c a b pos) (tIf tA ta tb) := by
  intro pins s σ H Q I h
  refine wpAny_IfExp (thn (hc pins s σ H _ I h) fun d s1 ⟨H1, I1, q1⟩ => ?_)
  cases d with
  | true => exact ha pins s1 σ H1 Q I1 q1
  | false => exact hb pins s1 σ H1 Q I1 q1
end
end L2
namespace L2
open PySem PySem.Spec PyProof.Rows
def SqL (K : PySem.W.Frag) (H : Hp) (a : Addr) (xs : List V) : Prop :=
  Rd H a (.lst xs) \/
    ∃ (o : Obj) (its : Array Value) (n : Nat), K.lookup a = some o /\ o.cls = .type "list" /\ o.dict = none /\ o.data = .seq its n /\ its.size ≤ sizeLine /\ Vals xs its.toList
def SqT (K : PySem.W.Frag) (H : Hp) (a : Addr) (xs : List V) : Prop :=
  Rd H a (.tup xs) \/
    ∃ (o : Obj) (its : Array Value) (n : Nat), K.lookup a = some o /\ o.cls = .type "tuple" /\ o.data = .seq its n /\ its.size ≤ sizeLine /\ Vals xs its.toList
def Ro : Value -> Option V
  | .none => some .non
  | .bool b => some (.bl b)
  | .int i _ => some (.int i)
  | .str x _ => some (.str x)
  | .bytes b _ => some (.byt b)
  | .float b _ => some (.flt b)
  | .ref a => some (.ref a)
  | .type n => some (.ty n)
  | _ => none
theorem RelV.abs {x : V} {u : Value} (r : RelV x u) : Ro u = some x := by
  cases x with
  | non => cases r; rfl
  | bl _ => cases r; rfl
  | int _ => obtain ⟨t, rfl⟩ := r; rfl
  | str _ => obtain ⟨t, rfl⟩ := r; rfl
  | byt _ => obtain ⟨t, rfl⟩ := r; rfl
  | flt _ => obtain ⟨t, rfl⟩ := r; rfl
  | ref _ => cases r; rfl
  | ty _ => cases r; rfl
theorem RelV.inj {x y : V} {u : Value} (r : RelV x u) (q : RelV y u) : x = y := Option.some.inj (r.abs.symm.trans q.abs)
theorem Vals.inj : ∀ {xs ys : List V} {us : List Value}, Vals xs us -> Vals ys us -> xs = ys
  | _, _, _, .nil, .nil => rfl
  | _, _, _, .cons r t, .cons r' t' => by rw [r.inj r', Vals.inj t t']
section
variable {X : Cx} {pins : List (Addr × Obj)} {σ : St} {H : Hp} {s : Shared} {a : Addr} {xs ys : List V}
theorem SqL.of {K : PySem.W.Frag} (h : H a = some (.lst xs)) : SqL K H a xs := .inl (.inl h)
theorem SqT.of {K : PySem.W.Frag} (h : H a = some (.tup xs)) : SqT K H a xs := .inl (.inl h)
theorem Inv.list (I : Inv X pins σ H s) (h : SqL X.K H a xs) : ∃ its : List Value, Vals xs its /\ PlainL s.heap a its.toArray /\ xs.length ≤ sizeLine := by
  rcases h with h | ⟨o, its, n, hk, hc, hd, hs, hz, r⟩
  . obtain ⟨z, its, n, r, e⟩ := h.ok I.hok
    exact ⟨its, r, ⟨_, n, e, rfl, rfl, rfl⟩, z⟩
  . refine ⟨its.toList, r, ⟨o, n, I.kIn a o hk, hc, hd, by simpa using hs⟩, ?_⟩
    have e := r.length
    simp only [Array.length_toList] at e
    omega
theorem Inv.tuple (I : Inv X pins σ H s) (h : SqT X.K H a xs) : ∃ its : List Value, Vals xs its /\ IsTup s.heap a its.toArray /\ xs.length ≤ sizeLine := by
  rcases h with h | ⟨o, its, n, hk, hc, hs, hz, r⟩
  . obtain ⟨z, its, r, p⟩ := h.ok I.hok
    exact ⟨its, r, p, z⟩
  . refine ⟨its.toList, r, ⟨o, I.kIn a o hk, hc, n, by simpa using hs⟩, ?_⟩
    have e := r.length
    simp only [Array.length_toList] at e
    omega
theorem Inv.LI (I : Inv X pins σ H s) (h : SqL X.K H a xs) (h' : SqL X.K H a ys) : xs = ys := by
  obtain ⟨its, r, ⟨o, n, e, _, _, d⟩, _⟩ := I.list h
  obtain ⟨its', r', ⟨o', n', e', _, _, d'⟩, _⟩ := I.list h'
  rw [e] at e'; cases e'
  rw [d] at d'
  injection d' with d1 _
  have : its = its' := by simpa using congrArg Array.toList d1
  subst this
  exact r.inj r'
theorem Inv.IL (I : Inv X pins σ H s) (h : SqT X.K H a xs) (h' : SqT X.K H a ys) : xs = ys := by
  obtain ⟨its, r, ⟨o, e, _, n, d⟩, _⟩ := I.tuple h
  obtain ⟨its', r', ⟨o', e', _, n', d'⟩, _⟩ := I.tuple h'
  rw [e] at e'; cases e'
  rw [d] at d'
  injection d' with d1 _
  have : its = its' := by simpa using congrArg Array.toList d1
  subst this
  exact r.inj r'
end
abbrev Cx.yX (X : Cx) (E : Value -> Shared -> Prop) : Cx := { X with xe := E }
abbrev Cx.nox (X : Cx) : Cx := X.yX fun _ _ => False
theorem Cx.Ok.yX {X : Cx} (ok : X.Ok) (E : Value -> Shared -> Prop) : (X.yX E).Ok :=
  ⟨ok.mod, ok.kind, ok.glob, ok.blt, ok.above, ok.inj, ok.has, ok.cab, ok.hd, ok.qt, ok.frames, ok.stk, ok.exf, ok.bs, ok.bsz, ok.CN, ok.Lz, ok.sr, ok.frf⟩
theorem Cx.Ok.nQ {X : Cx} {E : Value -> Shared -> Prop} (ok : (X.yX E).Ok) : X.Ok :=
  ⟨ok.mod, ok.kind, ok.glob, ok.blt, ok.above, ok.inj, ok.has, ok.cab, ok.hd, ok.qt, ok.frames, ok.stk, ok.exf, ok.bs, ok.bsz, ok.CN, ok.Lz, ok.sr, ok.frf⟩
section
variable {X : Cx} {pins : List (Addr × Obj)} {σ : St} {H : Hp} {s : Shared} {E : Value -> Shared -> Prop}
theorem Inv.yX (I : Inv X pins σ H s) (E : Value -> Shared -> Prop) : Inv (X.yX E) pins σ H s := ⟨I.ok.yX E, I.os, I.bare, I.base, I.loc, I.cell, I.free, I.jZ, I.pin, I.hok, I.len⟩
theorem Inv.nQ (I : Inv (X.yX E) pins σ H s) : Inv X pins σ H s := ⟨I.ok.nQ, I.os, I.bare, I.base, I.loc, I.cell, I.free, I.jZ, I.pin, I.hok, I.len⟩
theorem SP.nQ {D : Ends} {f : Flow} {s' : Shared} (h : SP (X.yX E) pins D f s') : SP X pins D f s' := by
  cases f with
  | next => obtain ⟨σ', H', I, q⟩ := h; exact ⟨σ', H', I.nQ, q⟩
  | brk => obtain ⟨σ', H', I, q⟩ := h; exact ⟨σ', H', I.nQ, q⟩
  | cont => obtain ⟨σ', H', I, q⟩ := h; exact ⟨σ', H', I.nQ, q⟩
  | ret u => obtain ⟨v, σ', H', I, r, q⟩ := h; exact ⟨v, σ', H', I.nQ, r, q⟩
theorem PSs.nox {st : List Stmt} {t : TS} (h : PSs X.nox st t) : PSs X st t := fun pins s σ H D I hw =>
  wpAny_mono (h pins s σ H D (I.yX _) hw) (fun _ _ q => q.nQ) fun _ _ z => False.elim z
end
section
variable {X : Cx} {st : Stmt} {rest : List Stmt} {t u : TS} {e : Expr} {te : TE} {pos : Pos}
def Qp : TS := fun D σ H => D.nx σ H
def QC (t u : TS) : TS := fun D σ H => t { D with nx := u D } σ H
theorem M5 : PSs X [] Qp := fun _ _ σ H _ I h => wpAny_execs_nil ⟨σ, H, I, h⟩
theorem yv (h1 : PS X st t) (h2 : PSs X rest u) : PSs X (st :: rest) (QC t u) := by
  intro pins s σ H D I h
  refine wpAny_execs_cons (thn (h1 pins s σ H { D with nx := u D } I h) fun f s1 q => ?_)
  cases f with
  | next =>
    obtain ⟨σ', H', I', q⟩ := q
    exact h2 pins s1 σ' H' D I' q
  | ret v => exact q
  | brk => exact q
  | cont => exact q
theorem MU (h1 : PS X st t) : PSs X [st] t := by
  intro pins s σ H D I h
  refine wpAny_execs_cons (thn (h1 pins s σ H D I h) fun f s1 q => ?_)
  cases f with
  | next => exact wpAny_execs_nil q
  | ret v => exact q
  | brk => exact q
  | cont => exact q
theorem Inv.quiet {pins : List (Addr × Obj)} {σ : St} {H : Hp} {s : Shared} (I : Inv X pins σ H s) : interactive X.env = false := by simp [interactive, I.ok.kind]
def PM (te : TE) : TS := fun D σ H => te σ H fun _ H1 => D.nx σ H1
theorem Ho (he : PE X e te) (hs : swapsWith e none pos.line X.env = pure false := by rfl) : PS X (.Expr e pos) (PM te) := by
  intro pins s σ H D I h
  exact wpAny_Expr_any (thn (he pins s σ H _ I h) fun v s1 ⟨x, H1, I1, r1, q1⟩ => ⟨σ, H1, I1, q1⟩) I.quiet hs
def RI (te : TE) : TS := fun D σ H => te σ H D.rt
theorem Oe (he : PE X e te) : PS X (.Return (some e) pos) (RI te) := by
  intro pins s σ H D I h
  exact wpAny_Return_some (thn (he pins s σ H _ I h) fun v s1 ⟨x, H1, I1, r1, q1⟩ => ⟨x, σ, H1, I1, r1, q1⟩)
def RY (c : TT) (t u : TS) : TS := fun D σ H => c σ H fun b H1 => if b = true then t D σ H1 else u D σ H1
theorem Nw {c : Expr} {a b : List Stmt} {tc : TT} (hc : PT X c tc) (ha : PSs X a t) (hb : PSs X b u) : PS X (.If c a b pos) (RY tc t u) := by
  intro pins s σ H D I h
  refine wpAny_If (thn (hc pins s σ H _ I h) fun d s1 ⟨H1, I1, q1⟩ => ?_)
  cases d with
  | true => exact ha pins s1 σ H1 D I1 q1
  | false => exact hb pins s1 σ H1 D I1 q1
def Ot : TS := fun _ _ _ => False
theorem AE {sts : List Stmt} : PSs X sts Ot := fun _ _ _ _ _ _ h => h.elim
end
abbrev TG := V -> St -> Hp -> (St -> Hp -> Prop) -> Prop
abbrev TGs := List V -> St -> Hp -> (St -> Hp -> Prop) -> Prop
def PG (X : Cx) (target : Expr) (t : TG) : Prop :=
  ∀ (pins : List (Addr × Obj)) (s : Shared) (σ : St) (H : Hp) (v : V) (u : Value) (Q : St -> Hp -> Prop), Inv X pins σ H s -> RelV v u -> t v σ H Q ->
    wpAny (model X.prog X.w) X.A (assign target X.env u) (fun _ s' => ∃ σ' H', Inv X pins σ' H' s' /\ Q σ' H') X.xe s
def PGs (X : Cx) (ts : List Expr) (t : TGs) : Prop :=
  ∀ (pins : List (Addr × Obj)) (s : Shared) (σ : St) (H : Hp) (vs : List V) (us : List Value) (Q : St -> Hp -> Prop), Inv X pins σ H s -> Vals vs us -> t vs σ H Q ->
    wpAny (model X.prog X.w) X.A (assignInOrder ((assignEach ts X.env).map (·.2)) us) (fun _ s' => ∃ σ' H', Inv X pins σ' H' s' /\ Q σ' H') X.xe s
abbrev Oa := V -> V -> V -> Hp -> (Hp -> Prop) -> Prop
def QE (X : Cx) (t : Oa) : Prop :=
  ∀ (pins : List (Addr × Obj)) (s : Shared) (σ : St) (H : Hp) (o i v : V) (ov iv u : Value) (Q : Hp -> Prop), Inv X pins σ H s -> RelV o ov -> RelV i iv -> RelV v u -> t o i v H Q ->
    wpAny (model X.prog X.w) X.A (setItem ov iv u) (fun _ s' => ∃ H', Inv X pins σ H' s' /\ Q H') X.xe s
section
variable {X : Cx} {pos : Pos}
def JA (i : Nat) : TG := fun v σ H Q => Q (σ.set i (some v)) H
theorem ME {i : Nat} {x : Str} (hN : X.N.Nodup) (hi : X.N[i]? = some x) (hx : Loc X.env.scope x) (hf : X.fn x = true \/ X.env.scope.names.lookup x = some .local := by first | exact .inl rfl | exact .inr rfl | assumption) : PG X (.Name x pos) (JA i) := by
  intro pins s σ H v u Q I r h
  exact wpAny_assign_Name (nu I hN hi hx r (fun s' I' => ⟨_, H, I', h⟩) hf)
def RK : TGs := fun vs σ H Q => vs = [] /\ Q σ H
def P9 (t : TG) (u : TGs) : TGs := fun vs σ H Q => ∃ v r, vs = v :: r /\ t v σ H fun σ' H' => u r σ' H' Q
theorem HV : PGs X [] RK := by
  intro pins s σ H vs us Q I r h
  obtain ⟨e, h⟩ := h
  subst e
  cases r
  exact assignInOrder_nil ⟨σ, H, I, h⟩
theorem CY {e : Expr} {es : List Expr} {t : TG} {u : TGs} (h1 : PG X e t) (h2 : PGs X es u)
    (hs : (assignEach (e :: es) X.env).map (·.2) = assign e X.env :: (assignEach es X.env).map (·.2) := by rfl) : PGs X (e :: es) (P9 t u) := by
  intro pins s σ H vs us Q I r h
  obtain ⟨v, vr, e1, h⟩ := h
  subst e1
  cases r with
  | cons r rr =>
    rw [hs]
    refine assignInOrder_cons (thn (h1 pins s σ H _ _ _ I r h) fun _ s1 ⟨σ1, H1, I1, q1⟩ => ?_)
    exact h2 pins s1 σ1 H1 _ _ Q I1 rr q1
def Sd (K : PySem.W.Frag) (n : Nat) (t : TGs) : TG := fun v σ H Q => ∃ a xs, v = .ref a /\ SqT K H a xs /\ xs.length = n /\ t xs σ H Q
theorem Ln {es : List Expr} {k : Nat} {t : TGs} {n : Nat} (hc : X.calm = X.calm) (h : PGs X es t)
    (hn : (assignEach es X.env).length = n := by rfl) (hst : (assignEach es X.env).findIdx? (·.1) = none := by rfl) : PG X (.Tuple es k pos) (Sd X.K n t) := by
  intro pins s σ H v u Q I r hw
  obtain ⟨a, xs, e1, hq, hl, hw⟩ := hw
  subst e1
  cases r
  obtain ⟨its, rv, ht, hz⟩ := I.tuple hq
  refine zH I.FR ht (by simp [hn, <- hl, rv.length]) hst fun h' hx => ?_
  have I1 : Inv X pins σ H { s with heap := h' } := I.kept (t' := s.toks) fun b o e => hx b o (Nat.ne_of_lt (Heap.lt_size e)) e
  exact h pins _ σ H xs _ Q I1 (by simpa using rv) hw
def RP (to ti : TE) (t : Oa) : TG := fun v σ H Q => to σ H fun o H1 => ti σ H1 fun i H2 => t o i v H2 fun H3 => Q σ H3
theorem O7 {o i : Expr} {to ti : TE} {t : Oa} (ho : PE X o to) (hi : PE X i ti) (hs : QE X t)
    (ha : ∀ v, assign (.Subscript o i pos) X.env v = (do
      let ov <- holding [v] (eval o X.env)
      let iv <- holding [v, ov] (eval i X.env)
      standAt pos
      holding [v, ov, iv] (setItem ov iv v)
      release [v, ov, iv] []) := by intro _; rfl) : PG X (.Subscript o i pos) (RP to ti t) := by
  intro pins s σ H v u Q I r h
  rw [ha]
  refine wpAny_bind (wpAny_holding (thn (ho pins s σ H _ I h) fun ov s1 ⟨x, H1, I1, r1, q1⟩ => ?_))
  refine wpAny_bind (wpAny_holding (thn (hi pins s1 σ H1 _ I1 q1) fun iv s2 ⟨y, H2, I2, r2, q2⟩ => ?_))
  refine wpAny_bind (wpAny_standAt (wpAny_bind (wpAny_holding (thn (hs pins s2 σ H2 x y v ov iv u _ I2 r1 r2 r q2) fun _ s3 ⟨H3, I3, q3⟩ => ?_))))
  exact wpAny_release ⟨σ, H3, I3, q3⟩
def NH (te : TE) (g : TG) : TS := fun D σ H => te σ H fun x H1 => g x σ H1 D.nx
theorem NQ {tg e : Expr} {te : TE} {g : TG} (he : PE X e te) (hg : PG X tg g) (hs : swapsWithSole [tg] e pos.line X.env = pure false := by rfl) (hw : swappedStores [tg] e X.env = pure none := by rfl)
    (h1 : (assignEach [tg] X.env).map (·.2) = [assign tg X.env] := by rfl) : PS X (.Assign [tg] e pos) (NH te g) := by
  intro pins s σ H D I h
  refine wpAny_Assign_stores (thn (he pins s σ H _ I h) fun v s1 ⟨x, H1, I1, r1, q1⟩ => ?_) hs hw
  rw [h1]
  exact thn (hg pins s1 σ H1 x v _ I1 r1 q1) fun _ s2 q => q
theorem ON {i : Nat} {x : Str} {e : Expr} {te : TE} {pos' : Pos} (hN : X.N.Nodup) (hi : X.N[i]? = some x) (hx : Loc X.env.scope x) (he : PE X e te) (hs : swapsWith e (some (.Name x pos')) pos.line X.env = pure false := by rfl) (hf : X.fn x = true \/ X.env.scope.names.lookup x = some .local := by first | exact .inl rfl | exact .inr rfl | assumption) :
    PS X (.Assign [.Name x pos'] e pos) (NH te (JA i)) := by
  intro pins s σ H D I h
  refine wpAny_Assign_Name (thn (he pins s σ H _ I h) fun v s1 ⟨y, H1, I1, r1, q1⟩ => ?_) hs
  exact nu I1 hN hi hx r1 (fun s2 I2 => ⟨_, H1, I2, q1⟩) hf
def RA (i j : Nat) (ta : TA) : TS := fun D σ H => ta σ H fun vs H1 => ∃ v w, vs = [v, w] /\ D.nx ((σ.set i (some v)).set j (some w)) H1
theorem Ol {i j : Nat} {x y : Str} {a b : Expr} {ta : TA} {px py pt : Pos} {kt k2 pt2} (hc : X.calm = true) (hN : X.N.Nodup) (hi : X.N[i]? = some x) (hj : X.N[j]? = some y) (hij : i ≠ j)
    (hx : X.env.scope.names.lookup x = some .local) (hy : X.env.scope.names.lookup y = some .local) (ha : PA X [a, b] ta)
    (hw : swappedStores [.Tuple [.Name x px, .Name y py] kt pt] (.Tuple [a, b] k2 pt2) X.env = pure (some [x, y]))
    (hs : swapsWithSole [.Tuple [.Name x px, .Name y py] kt pt] (.Tuple [a, b] k2 pt2) pos.line X.env = pure false := by rfl) :
    PS X (.Assign [.Tuple [.Name x px, .Name y py] kt pt] (.Tuple [a, b] k2 pt2) pos) (RA i j ta) := by
  intro pins s σ H D I h
  rw [exec_Assign_arm]
  refine wpAny_bind (wpAny_standAt ?_)
  rw [hs]
  refine wpAny_bind (wpAny_pure ?_)
  rw [if_neg (by decide)]
  refine wpAny_bind (Tuple_ (thn (ha _ pins s σ H _ I h) fun us s1 ⟨vs, H1, I1, r1, q1⟩ => ?_))
  obtain ⟨v, w, e1, q1⟩ := q1
  subst e1
  obtain ⟨u1, u2, rfl, rv, rw'⟩ : ∃ u1 u2, us = [u1, u2] /\ RelV v u1 /\ RelV w u2 := by
    cases r1 with
    | cons p q =>
      cases q with
      | cons p' q' =>
        cases q'
        exact ⟨_, _, rfl, p, p'⟩
  refine wpAny_newObj_type ?_ (by show 2 <= sizeLine; decide)
  have I2 : Inv X pins σ H1 { s1 with heap := s1.heap.push { cls := .type "tuple", data := .seq [u1, u2].toArray } } := I1.kept (t' := s1.toks) fun b o e => Heap.get?_push_of_some _ e
  rw [hw]
  refine wpAny_bind (wpAny_pure ?_)
  show wpAny (model X.prog X.w) X.A (do rule "assign.swapped-stores"; let items <- unpackItems (.ref s1.heap.objs.size) 2 none; assignInOrder [fun v => bindName X.env y v, fun v => bindName X.env x v] items.reverse; pure Flow.next) _ _ _
  refine wpAny_bind (wpAny_rule (wpAny_bind (unpackItems_tuple (items := #[u1, u2]) (I.ok.hd hc) (IsTup.new s1.heap _) fun h' hx' => ?_)))
  have I3 := I2.kept (h' := h') (t' := s1.toks) fun b o e => hx' b o (Nat.ne_of_lt (Heap.lt_size e)) e
  show wpAny _ _ (assignInOrder [fun v => bindName X.env y v, fun v => bindName X.env x v] [u2, u1] >>= fun _ => pure Flow.next) _ _ _
  refine wpAny_bind (assignInOrder_cons (wpAny_bindName (nu I3 hN hj (.inl hy) rw' (fun s2 I4 => ?_) (.inr hy))))
  refine assignInOrder_cons (wpAny_bindName (nu I4 hN hi (.inl hx) rv (fun s3 I5 => assignInOrder_nil (wpAny_pure ?_)) (.inr hx)))
  rw [List.set_comm _ _ (Ne.symm hij)] at I5
  exact ⟨_, H1, I5, q1⟩
end
section
variable {X : Cx} {pos : Pos}
def Po (c : TT) (tb : TS) : TS := fun D σ H => ∃ W : Nat -> St -> Hp -> Prop, (∃ m, W m σ H) /\ ∀ m σ H, W m σ H ->
  c σ H fun b H1 => if b = true then ∃ N : St -> Hp -> Prop, (∀ σ' H', N σ' H' -> ∃ m', m' < m /\ W m' σ' H') /\ tb { D with nx := N, ct := N, bk := D.nx } σ H1 else D.nx σ H1
theorem Ku {c : Expr} {body : List Stmt} {tc : TT} {tb : TS} (hp : PassesOwn (model X.prog X.w) X.A X.env X.xe) (hc : PT X c tc) (hb : PSs X body tb) : PS X (.While c body [] pos) (Po tc tb) := by
  intro pins s σ H D I h
  obtain ⟨W, ⟨m0, w0⟩, turn⟩ := h
  refine wpAny_While (codeAny_whileLoop (fun n s' => ∃ σ' H', Inv X pins σ' H' s' /\ W n σ' H') ?_ m0 ⟨σ, H, I, w0⟩)
  rintro n s1 ⟨σ1, H1, I1, w1⟩
  refine wpAny_passesOwn hp (thn (hc pins s1 σ1 H1 _ I1 (turn n σ1 H1 w1)) fun b s2 ⟨H2, I2, q2⟩ => ?_)
  cases b with
  | true =>
    obtain ⟨N, hN, q2⟩ := q2
    rw [if_pos rfl]
    refine wpAny_passesOwn hp (thn (hb pins s2 σ1 H2 _ I2 q2) fun f s3 q3 => ?_)
    cases f with
    | next =>
      obtain ⟨σ3, H3, I3, n3⟩ := q3
      obtain ⟨m', hm, w3⟩ := hN σ3 H3 n3
      exact ⟨m', hm, σ3, H3, I3, w3⟩
    | cont =>
      obtain ⟨σ3, H3, I3, n3⟩ := q3
      obtain ⟨m', hm, w3⟩ := hN σ3 H3 n3
      exact ⟨m', hm, σ3, H3, I3, w3⟩
    | brk => exact q3
    | ret v => exact q3
  | false =>
    rw [if_neg Bool.false_ne_true]
    exact wpAny_execs_nil ⟨σ1, H2, I2, q2⟩
end
structure It where
  go : Nat -> Hp -> Prop
  yld : Nat -> Hp -> V -> Hp -> Prop
  stop : Nat -> Hp -> Prop
def zC (X : Cx) (pins : List (Addr × Obj)) (H : Hp) (b : Addr) : Prop :=
  H b = none /\ b ≠ X.env.locals /\ b ∉ X.fs /\ (b ∈ X.ex \/ X.s₀.heap.objs.size ≤ b) /\ (∀ x c, X.env.cells.lookup x = some c -> c ≠ b) /\ ∀ p ∈ X.pn ++ pins, p.1 ≠ b
theorem Inv.MN {X : Cx} {pins : List (Addr × Obj)} {σ : St} {H H' : Hp} {s : Shared} {b : Addr} (I : Inv X pins σ H s) (hb : s.heap.objs.size <= b) (hn : H' b = none) : zC X pins H' b := by
  refine ⟨hn, Nat.ne_of_gt (Nat.lt_of_lt_of_le I.lt hb), I.RJ hb, .inr (Nat.le_trans I.sz hb), fun x c e z => ?_, fun p hp z => ?_⟩
  . obtain ⟨v, q⟩ := I.cell x c e
    exact absurd (Nat.lt_of_lt_of_le q.lt (by rw [z]; exact hb)) (Nat.lt_irrefl _)
  . exact absurd (Nat.lt_of_lt_of_le (Heap.lt_size (I.pin p hp).1) (by rw [z]; exact hb)) (Nat.lt_irrefl _)
structure Turn (c : Bool) (P : Program) (w : World) (K : PySem.W.Frag) (tg : Expr) (J : It) (fp : List Addr) (it : Addr) (tn : Nat -> Heap -> Prop) : Prop where
  mem : it ∈ fp
  obj : ∀ i h, tn i h -> ∀ b ∈ fp, ∃ o, h.get? b = some o /\ ∀ v, o.data ≠ .cell v
  keep : ∀ i h h', tn i h -> (∀ b ∈ fp, ∀ o, h.get? b = some o -> h'.get? b = some o) -> tn i h'
  item : ∀ (X : Cx), X.prog = P -> X.w = w -> X.K = K -> (c = true -> X.calm = true) -> ∀ (i : Nat) (pins : List (Addr × Obj)) (s : Shared) (σ : St) (H : Hp) (E : Value -> Shared -> Prop), Inv X pins σ H s -> (∀ b ∈ fp, zC X pins H b) -> tn i s.heap -> J.go i H ->
    wpAny (model P w) X.A (pyNext (.ref it)) (fun r s1 => ∃ u, r = some u /\
      wpAny (model P w) X.A (letOwnedTupleGo tg (.ref it) u) (fun _ s2 => ∃ x H', Inv X pins σ H' s2 /\ RelV x u /\ J.yld i H x H' /\ tn (i + 1) s2.heap /\ ∀ b ∈ fp, H' b = none) E s1) E s
  done : ∀ (X : Cx), X.prog = P -> X.w = w -> X.K = K -> (c = true -> X.calm = true) -> ∀ (i : Nat) (pins : List (Addr × Obj)) (s : Shared) (σ : St) (H : Hp) (E : Value -> Shared -> Prop), Inv X pins σ H s -> (∀ b ∈ fp, zC X pins H b) -> tn i s.heap -> J.stop i H ->
    wpAny (model P w) X.A (pyNext (.ref it)) (fun r s1 => r = none /\ Inv X pins σ H s1) E s
  self : ∀ (A : Around) (i : Nat) (s : Shared) (Q : Value -> Shared -> Prop) (E : Value -> Shared -> Prop), tn i s.heap -> Q (.ref it) s -> wpAny (model P w) A (pyIter (.ref it)) Q E s
theorem Turn.calm {c : Bool} {P : Program} {w : World} {K : PySem.W.Frag} {tg : Expr} {J : It} {fp : List Addr} {it : Addr} {tn : Nat -> Heap -> Prop} (T : Turn true P w K tg J fp it tn) (h : c = true) : Turn c P w K tg J fp it tn := by subst h; exact T
abbrev TI := St -> Hp -> (It -> Hp -> Prop) -> Prop
def PIE (X : Cx) (pins : List (Addr × Obj)) (σ : St) (tg : Expr) (R : It -> Hp -> Prop) (itv : Value) (s2 : Shared) : Prop :=
  ∃ (it : Addr) (fp : List Addr) (tn : Nat -> Heap -> Prop) (J : It) (H' : Hp), itv = .ref it /\ Inv X pins σ H' s2 /\ Turn X.calm X.prog X.w X.K tg J fp it tn /\ tn 0 s2.heap /\ (∀ b ∈ fp, zC X pins H' b) /\ R J H'
def PI (X : Cx) (tg iter : Expr) (wi : TI) : Prop :=
  ∀ (pins : List (Addr × Obj)) (s : Shared) (σ : St) (H : Hp) (R : It -> Hp -> Prop), Inv X pins σ H s -> wi σ H R ->
    wpAny (model X.prog X.w) X.A (eval iter X.env) (fun v s1 => wpAny (model X.prog X.w) X.A (pyIter v) (PIE X pins σ tg R) X.xe s1) X.xe s
theorem Kc {M : Model} {A : Around} {E : Value -> Shared -> Prop} {s : Shared} {tg : Expr} {it : Addr} {u : Value} {o : Obj} {n : String} {vs : Array Value} {Q : Unit -> Shared -> Prop} (ho : s.heap.get? it = some o) (hc : o.cls = .type n) (hd : o.data = .fields vs)
    (hn : ["enumerate", "zip", "dict_itemiterator", "dict_reverseitemiterator", "odict_iterator", "itertools.zip_longest", "itertools.pairwise"].contains n = false) (hQ : Q () s) : wpAny M A (letOwnedTupleGo tg (.ref it) u) Q E s := by
  unfold letOwnedTupleGo
  cases tg <;> first
    | exact wpAny_pure hQ
    | (cases u <;> first
        | exact wpAny_pure hQ
        | (refine wpAny_bind (wpAny_load ho ?_)
           rw [hc, hd]
           show wpAny M A (if (["enumerate", "zip", "dict_itemiterator", "dict_reverseitemiterator", "odict_iterator", "itertools.zip_longest", "itertools.pairwise"].contains n && vs[0]? == some (rawInt _)) = true then _ else _) Q E s
           rw [if_neg (by intro h; rw [hn, Bool.false_and] at h; cases h)]
           exact wpAny_pure hQ))
def Itl (K : PySem.W.Frag) (a : Addr) : It :=
  ⟨fun i H => ∃ xs x, SqL K H a xs /\ xs[i]? = some x, fun i H x H' => H' = H /\ ∀ xs, SqL K H a xs -> xs[i]? = some x, fun i H => ∃ xs, SqL K H a xs /\ xs.length ≤ i⟩
def Itt (K : PySem.W.Frag) (a : Addr) : It :=
  ⟨fun i H => ∃ xs x, SqT K H a xs /\ xs[i]? = some x, fun i H x H' => H' = H /\ ∀ xs, SqT K H a xs -> xs[i]? = some x, fun i H => ∃ xs, SqT K H a xs /\ xs.length ≤ i⟩
def Itr (lo : Int) (n : Nat) : It := ⟨fun i _ => i < n, fun i H x H' => H' = H /\ x = .int (lo + i), fun i _ => n <= i⟩
theorem IE {c : Bool} {P : Program} {w : World} {K : PySem.W.Frag} {tg : Expr} (a it : Addr) : Turn c P w K tg (Itl K a) [it] it (fun i h => h.IsListIter it a i) where
  mem := by simp
  obj := fun i h st b hb => by
    have e : b = it := by simpa using hb
    subst e
    obtain ⟨o, e, c, d⟩ := st
    exact ⟨o, e, fun v z => by rw [d] at z; cases z⟩
  keep := fun i h h' st k => st.at fun o e => k it (by simp) o e
  item := by
    intro X hP hw hK hc i pins s σ H E I hf st hg
    subst hP hw hK
    obtain ⟨xs, x, hq, hx⟩ := hg
    obtain ⟨its, rv, p, hz⟩ := I.list hq
    obtain ⟨u, hu, ru⟩ := rv.get hx
    obtain ⟨f0, f1, f2, f3, f4, f5⟩ := hf it (by simp)
    refine wpAny_pyNext_list_item st p.isList (x := u) (by simpa using hu) fun h' st' sb => ?_
    have I1 : Inv X pins σ H { s with heap := h' } := I.turned (t' := s.toks) (fun b o hb e => (sb.2 b hb).trans e) f0 f1 f3 f4 f5
    obtain ⟨o, e, c, d⟩ := id st'
    exact ⟨u, rfl, Kc (s := { s with heap := h' }) e c d (by decide) ⟨x, H, I1, ru, ⟨rfl, fun ys hy => by rw [I.LI hy hq]; exact hx⟩, st', fun b hb => (hf b hb).1⟩⟩
  done := by
    intro X hP hw hK hc i pins s σ H E I hf st hg
    subst hP hw hK
    obtain ⟨xs, hq, hx⟩ := hg
    obtain ⟨its, rv, p, hz⟩ := I.list hq
    obtain ⟨f0, f1, f2, f3, f4, f5⟩ := hf it (by simp)
    have hl := rv.length
    exact zq I.FR (I.hne f5) st p.isList (by simp; omega) fun h' eb => ⟨rfl, I.turned (t' := s.toks) (fun b o hb e => eb b o hb e) f0 f1 f3 f4 f5⟩
  self := fun _ _ _ _ _ st h => wpAny_pyIter_listiter st h
theorem Gx {c : Bool} {P : Program} {w : World} {K : PySem.W.Frag} {tg : Expr} (a it : Addr) : Turn c P w K tg (Itt K a) [it] it (fun i h => h.IsTupleIter it a i) where
  mem := by simp
  obj := fun i h st b hb => by
    have e : b = it := by simpa using hb
    subst e
    obtain ⟨o, e, c, d⟩ := st
    exact ⟨o, e, fun v z => by rw [d] at z; cases z⟩
  keep := fun i h h' st k => st.at fun o e => k it (by simp) o e
  item := by
    intro X hP hw hK hc i pins s σ H E I hf st hg
    subst hP hw hK
    obtain ⟨xs, x, hq, hx⟩ := hg
    obtain ⟨its, rv, p, hz⟩ := I.tuple hq
    obtain ⟨u, hu, ru⟩ := rv.get hx
    obtain ⟨f0, f1, f2, f3, f4, f5⟩ := hf it (by simp)
    refine wpAny_pyNext_tuple_item st (show s.heap.IsTuple a its.toArray from p) (x := u) (by simpa using hu) fun h' st' sb => ?_
    have I1 : Inv X pins σ H { s with heap := h' } := I.turned (t' := s.toks) (fun b o hb e => (sb.2 b hb).trans e) f0 f1 f3 f4 f5
    obtain ⟨o, e, c, d⟩ := id st'
    exact ⟨u, rfl, Kc (s := { s with heap := h' }) e c d (by decide) ⟨x, H, I1, ru, ⟨rfl, fun ys hy => by rw [I.IL hy hq]; exact hx⟩, st', fun b hb => (hf b hb).1⟩⟩
  done := by
    intro X hP hw hK hc i pins s σ H E I hf st hg
    subst hP hw hK
    obtain ⟨xs, hq, hx⟩ := hg
    obtain ⟨its, rv, p, hz⟩ := I.tuple hq
    obtain ⟨f0, f1, f2, f3, f4, f5⟩ := hf it (by simp)
    have hl := rv.length
    exact ui I.FR (I.hne f5) st (show s.heap.IsTuple a its.toArray from p) (by simp; omega) fun h' eb => ⟨rfl, I.turned (t' := s.toks) (fun b o hb e => eb b o hb e) f0 f1 f3 f4 f5⟩
  self := fun _ _ _ _ _ st h => wpAny_pyIter_tupleiter st h
theorem Fb {P : Program} {w : World} {K : PySem.W.Frag} {tg : Expr} (it : Addr) (lo : Int) (n : Nat) : Turn true P w K tg (Itr lo n) [it] it (fun i h => IsRangeIter h it (lo + (i : Nat) * 1) ((n : Int) - (i : Nat)) 1) where
  mem := by simp
  obj := fun i h st b hb => by
    have e : b = it := by simpa using hb
    subst e
    exact ⟨_, st, fun v z => by
      have z' : Data.fields _ = Data.cell v := z
      cases z'⟩
  keep := fun i h h' st k => k it (by simp) _ st
  item := by
    intro X hP hw hK hc i pins s σ H E I hf st hg
    subst hP hw hK
    obtain ⟨f0, f1, f2, f3, f4, f5⟩ := hf it (by simp)
    have W := Walks.range (prog := X.prog) (w := X.w) (I.ok.hd (hc rfl)) it lo 1 n
    refine W.item i s _ _ hg st fun v h' tk hv st' kk => ?_
    obtain ⟨t, rfl⟩ := hv
    have I1 : Inv X pins σ H { s with heap := h', toks := tk } := I.turned (fun b o hb e => kk b o (by simpa using hb) e) f0 f1 f3 f4 f5
    refine ⟨_, rfl, Kc (s := { s with heap := h', toks := tk }) (n := "range_iterator") st' rfl rfl (by decide) ⟨.int (lo + i), H, I1, ⟨t, ?_⟩, ⟨rfl, rfl⟩, st', fun b hb => (hf b hb).1⟩⟩
    rw [Int.mul_one]
  done := by
    intro X hP hw hK hc i pins s σ H E I hf st hg
    subst hP hw hK
    obtain ⟨f0, f1, f2, f3, f4, f5⟩ := hf it (by simp)
    exact wpAny_pyNext_range_end (I.ok.hd (hc rfl)) st (by have : n <= i := hg; omega) fun h' eb => ⟨rfl, I.turned (t' := s.toks) (fun b o hb e => eb b o hb e) f0 f1 f3 f4 f5⟩
  self := fun _ _ _ _ _ st h => wpAny_pyIter_rangeiter st h
end L2
namespace L2
open PySem PySem.Spec PyProof.Rows
section
variable {X : Cx} {tg : Expr}
def PZ (K : PySem.W.Frag) (tl : TE) : TI := fun σ H R => tl σ H fun x H1 => ∃ a, x = .ref a /\ (∃ xs, SqL K H1 a xs) /\ R (Itl K a) H1
def RR (K : PySem.W.Frag) (tl : TE) : TI := fun σ H R => tl σ H fun x H1 => ∃ a, x = .ref a /\ (∃ xs, SqT K H1 a xs) /\ R (Itt K a) H1
theorem Hn {l : Expr} {tl : TE} (hl : PE X l tl) : PI X tg l (PZ X.K tl) := by
  intro pins s σ H R I h
  refine thn (hl pins s σ H _ I h) fun v s1 ⟨x, H1, I1, r1, q1⟩ => ?_
  obtain ⟨a, e, ⟨xs, hq⟩, q⟩ := q1
  subst e
  cases r1
  obtain ⟨its, rv, p, hz⟩ := I1.list hq
  refine wpAny_pyIter_list p.isList ?_
  refine ⟨s1.heap.objs.size, [s1.heap.objs.size], _, _, H1, rfl, I1.kept (t' := s1.toks) fun b o e => Heap.get?_push_of_some _ e, IE a _, ⟨_, Heap.get?_push_size _ rfl, rfl, rfl⟩, fun b hb => ?_, q⟩
  have e : b = s1.heap.objs.size := by simpa using hb
  subst e
  exact I1.MN (Nat.le_refl _) (I1.hok.fresh (Nat.le_refl _))
theorem OG {l : Expr} {tl : TE} (hl : PE X l tl) : PI X tg l (RR X.K tl) := by
  intro pins s σ H R I h
  refine thn (hl pins s σ H _ I h) fun v s1 ⟨x, H1, I1, r1, q1⟩ => ?_
  obtain ⟨a, e, ⟨xs, hq⟩, q⟩ := q1
  subst e
  cases r1
  obtain ⟨its, rv, p, hz⟩ := I1.tuple hq
  refine wpAny_pyIter_tuple (show s1.heap.IsTuple a its.toArray from p) ?_
  refine ⟨s1.heap.objs.size, [s1.heap.objs.size], _, _, H1, rfl, I1.kept (t' := s1.toks) fun b o e => Heap.get?_push_of_some _ e, Gx a _, ⟨_, Heap.get?_push_size _ rfl, rfl, rfl⟩, fun b hb => ?_, q⟩
  have e : b = s1.heap.objs.size := by simpa using hb
  subst e
  exact I1.MN (Nat.le_refl _) (I1.hok.fresh (Nat.le_refl _))
theorem Dt (hc : X.calm = true) {pins : List (Addr × Obj)} {σ : St} {H : Hp} {s : Shared} {R : It -> Hp -> Prop} {E : Value -> Shared -> Prop} {lo hi : Int} {t u v : Tok} {tk : Nat} (I : Inv X pins σ H s) (h1 : -(2 ^ 62) <= lo) (h2 : lo < 2 ^ 62) (h3 : -(2 ^ 62) <= hi) (h4 : hi < 2 ^ 62)
    (q : R (Itr lo (hi - lo).toNat) H) : wpAny (model X.prog X.w) X.A (pyIter (.ref s.heap.objs.size)) (PIE X pins σ tg R) E { s with heap := s.heap.push { cls := .type "range", data := .fields #[.int lo t, .int hi u, .int 1 v] }, toks := tk } := by
  refine wpAny_pyIter_range (IsRange.new ..) (small_one h1 h2 h3 h4) ?_
  have I1 : Inv X pins σ H { s with heap := s.heap.push { cls := .type "range", data := .fields #[.int lo t, .int hi u, .int 1 v] }, toks := tk } := I.kept fun b o e => Heap.get?_push_of_some _ e
  refine ⟨(s.heap.push { cls := .type "range", data := .fields #[.int lo t, .int hi u, .int 1 v] }).objs.size, [(s.heap.push { cls := .type "range", data := .fields #[.int lo t, .int hi u, .int 1 v] }).objs.size], _, _, H, rfl,
    I1.kept (t' := tk) fun b o e => Heap.get?_push_of_some _ e, (Fb _ lo (hi - lo).toNat).calm hc, ?_, fun b hb => ?_, q⟩
  . have e1 : lo + ((0 : Nat) : Int) * 1 = lo := by simp
    have e2 : (((hi - lo).toNat : Nat) : Int) - ((0 : Nat) : Int) = Builtin.Range.rangeSize lo hi 1 := by rw [rangeSize_one]; split <;> omega
    show IsRangeIter _ _ (lo + ((0 : Nat) : Int) * 1) ((((hi - lo).toNat : Nat) : Int) - ((0 : Nat) : Int)) 1
    rw [e1, e2]
    exact Heap.get?_push_size _ rfl
  . have e : b = (s.heap.push { cls := .type "range", data := .fields #[.int lo t, .int hi u, .int 1 v] }).objs.size := by simpa using hb
    subst e
    exact I1.MN (Nat.le_refl _) (I1.hok.fresh (Nat.le_refl _))
def Qu (ta : TA) : TI := fun σ H R => ta σ H fun vs H1 => ∃ j : Int, vs = [.int j] /\ -(2 ^ 62) ≤ j /\ j < 2 ^ 62 /\ R (Itr 0 j.toNat) H1
def QZ (ta : TA) : TI := fun σ H R => ta σ H fun vs H1 => ∃ i j : Int, vs = [.int i, .int j] /\ (-(2 ^ 62) ≤ i /\ i < 2 ^ 62 /\ -(2 ^ 62) ≤ j /\ j < 2 ^ 62) /\ R (Itr i (j - i).toNat) H1
theorem Jb {a : Expr} {ta : TA} {p pos : Pos} (hc : X.calm = true) (hg : Gl X "range") (hm : X.mg "range" = none) (ha : PA X [a] ta) (hs : starEach [a] X.env = [(false, eval a X.env)] := by rfl) : PI X tg (.Call (.Name "range" p) [a] [] pos) (Qu ta) := by
  intro pins s σ H R I h
  refine Call_ (yB I hg hm boot_range (PyProof.Rows.callWith_type1 (thn (ha pos pins s σ H _ I h) fun us s1 ⟨vs, H1, I1, r1, q1⟩ => ?_) hs rfl))
  obtain ⟨j, e, q1, q2, q⟩ := q1
  subst e
  cases r1 with
  | cons r rr =>
    cases rr
    obtain ⟨t, rfl⟩ := r
    exact call_range_1 (Dt hc I1 (by omega) (by omega) q1 q2 (by simpa using q))
theorem ID {a b : Expr} {ta : TA} {p pos : Pos} (hc : X.calm = true) (hg : Gl X "range") (hm : X.mg "range" = none) (ha : PA X [a, b] ta) (hs : starEach [a, b] X.env = [(false, eval a X.env), (false, eval b X.env)] := by rfl) (hs2 : starEach [b] X.env = [(false, eval b X.env)] := by rfl) :
    PI X tg (.Call (.Name "range" p) [a, b] [] pos) (QZ ta) := by
  intro pins s σ H R I h
  refine Call_ (yB I hg hm boot_range (PyProof.Rows.callWith_type1 (thn (ha pos pins s σ H _ I h) fun us s1 ⟨vs, H1, I1, r1, q1⟩ => ?_) (by rw [hs, hs2]) (by rw [hs2]; rfl)))
  obtain ⟨i, j, e, ⟨q1, q2, q3, q4⟩, q⟩ := q1
  subst e
  cases r1 with
  | cons r rr =>
    cases rr with
    | cons r' rr =>
      cases rr
      obtain ⟨t, rfl⟩ := r
      obtain ⟨t', rfl⟩ := r'
      exact call_range_2 (Dt hc I1 q1 q2 q3 q4 q)
def R1 (wi : TI) (g : TG) (tb : TS) : TS := fun D σ H => wi σ H fun J H1 => ∃ W : Nat -> Nat -> St -> Hp -> Prop, (∃ m, W 0 m σ H1) /\ ∀ i m σ H, W i m σ H ->
  (J.stop i H /\ D.nx σ H) \/ (J.go i H /\ ∃ N : St -> Hp -> Prop, (∀ σ' H', N σ' H' -> ∃ m', m' < m /\ W (i + 1) m' σ' H') /\ ∀ x H', J.yld i H x H' -> g x σ H' fun σ2 H2 => tb { D with nx := N, ct := N, bk := D.nx } σ2 H2)
def rO (fp : List Addr) (h : Heap) : List (Addr × Obj) := fp.filterMap fun b => (h.get? b).map fun o => (b, o)
theorem eO {fp : List Addr} {h : Heap} {b : Addr} {o : Obj} (hb : b ∈ fp) (e : h.get? b = some o) : (b, o) ∈ rO fp h := List.mem_filterMap.mpr ⟨b, hb, by rw [e]; rfl⟩
theorem Jj {fp : List Addr} {h : Heap} {p : Addr × Obj} (hp : p ∈ rO fp h) : p.1 ∈ fp /\ h.get? p.1 = some p.2 := by
  obtain ⟨b, hb, e⟩ := List.mem_filterMap.mp hp
  cases q : h.get? b with
  | none => rw [q] at e; cases e
  | some o =>
    rw [q] at e
    have e' : (b, o) = p := Option.some.inj e
    subst e'
    exact ⟨hb, q⟩
theorem Inv.pinned {pins : List (Addr × Obj)} {σ : St} {H : Hp} {s : Shared} {fp : List Addr} (I : Inv X pins σ H s) (hf : ∀ b ∈ fp, zC X pins H b) (ho : ∀ b ∈ fp, ∃ o, s.heap.get? b = some o /\ ∀ v, o.data ≠ .cell v) : Inv X (pins ++ rO fp s.heap) σ H s :=
  I.Hm fun p hp => (List.mem_append.mp hp).elim (fun z => I.pin p (List.mem_append_right _ z)) fun z => by
    obtain ⟨hb, e⟩ := Jj z
    obtain ⟨f0, f1, f2, _⟩ := hf p.1 hb
    obtain ⟨o, e', d⟩ := ho p.1 hb
    rw [e] at e'; cases e'
    exact ⟨e, f0, f1, f2, d⟩
theorem Inv.kH {pins pl : List (Addr × Obj)} {σ : St} {H : Hp} {s : Shared} (I : Inv X (pins ++ pl) σ H s) : Inv X pins σ H s := I.Hm fun p hp => I.pin p (List.mem_append_right _ (List.mem_append_left _ hp))
theorem Oo {iter : Expr} {body : List Stmt} {wi : TI} {g : TG} {tb : TS} {pos : Pos} (hp : PassesOwn (model X.prog X.w) X.A X.env X.xe) (hc : X.calm = true) (hi : PI X tg iter wi) (hg : PG X tg g) (hb : PSs X body tb)
    (hs : ∀ x, foldedSetIterable iter X.env x = pure x := by intro _; rfl) : PS X (.For tg iter body [] pos) (R1 wi g tb) := by
  intro pins s σ H D I h
  refine wpAny_For (thn (hi pins s σ H _ I h) fun v s1 h1 => thn h1 fun itv s2 h2 => ?_) hs
  obtain ⟨it, fp, tn, J, H2, e, I2, T, st2, f2, W, ⟨m0, w0⟩, turn⟩ := h2
  subst e
  have stat : ∀ {H' : Hp}, (∀ b ∈ fp, H' b = none) -> ∀ b ∈ fp, zC X pins H' b := fun hn b hb => ⟨hn b hb, (f2 b hb).2⟩
  refine codeAny_forLoop_any (fun n s' => ∃ i σ' H', Inv X pins σ' H' s' /\ tn i s'.heap /\ (∀ b ∈ fp, H' b = none) /\ W i n σ' H') ?_ m0 ⟨0, σ, H2, I2, st2, fun b hb => (f2 b hb).1, w0⟩
  rintro n s3 ⟨i, σ3, H3, I3, st3, fr3, w3⟩
  rcases turn i n σ3 H3 w3 with ⟨stop, qn⟩ | ⟨go, N, hN, step⟩
  . refine wpAny_passesOwn hp (thn (T.done X rfl rfl rfl (fun z => z) i pins s3 σ3 H3 X.xe I3 (stat fr3) st3 stop) fun r s4 ⟨hr, I4⟩ => ?_)
    subst hr
    exact wpAny_execs_nil ⟨σ3, H3, I4, qn⟩
  . refine wpAny_passesOwn hp (thn (T.item X rfl rfl rfl (fun z => z) i pins s3 σ3 H3 X.xe I3 (stat fr3) st3 go) fun r s4 ⟨u, hr, h4⟩ => ?_)
    subst hr
    refine wpAny_passesOwn hp (thn h4 fun _ s5 ⟨x, H5, I5, r5, y5, st5, fr5⟩ => ?_)
    have I5' := I5.pinned (stat fr5) (T.obj _ _ st5)
    refine wpAny_passesOwn hp (thn (hg _ s5 σ3 H5 x u _ I5' r5 (step x H5 y5)) fun _ s6 ⟨σ6, H6, I6, q6⟩ => ?_)
    refine wpAny_passesOwn hp (thn (hb _ s6 σ6 H6 _ I6 q6) fun f s7 q7 => ?_)
    have again : ∀ {σ7 : St} {H7 : Hp}, Inv X (pins ++ rO fp s5.heap) σ7 H7 s7 -> N σ7 H7 -> ∃ m, m < n /\ ∃ i σ' H', Inv X pins σ' H' s7 /\ tn i s7.heap /\ (∀ b ∈ fp, H' b = none) /\ W i m σ' H' := fun {σ7 H7} I7 n7 => by
      obtain ⟨m', hm, w7⟩ := hN σ7 H7 n7
      refine ⟨m', hm, i + 1, σ7, H7, I7.kH, T.keep _ _ _ st5 fun b hb o e => (I7.pin (b, o) (List.mem_append_right _ (List.mem_append_right _ (eO hb e)))).1, fun b hb => ?_, w7⟩
      obtain ⟨o, e, d⟩ := T.obj _ _ st5 b hb
      exact (I7.pin (b, o) (List.mem_append_right _ (List.mem_append_right _ (eO hb e)))).2.1
    cases f with
    | next => obtain ⟨σ7, H7, I7, n7⟩ := q7; exact again I7 n7
    | cont => obtain ⟨σ7, H7, I7, n7⟩ := q7; exact again I7 n7
    | brk => obtain ⟨σ7, H7, I7, q7⟩ := q7; exact ⟨σ7, H7, I7.kH, q7⟩
    | ret v => obtain ⟨x7, σ7, H7, I7, r7, q7⟩ := q7; exact ⟨x7, σ7, H7, I7.kH, r7, q7⟩
end
end L2
namespace L2
open PySem PySem.Spec PyProof.Rows
abbrev R2 := V -> V -> Hp -> VK -> Prop
def OpR (X : Cx) (f : Value -> Value -> Sem Value) (r : R2) : Prop :=
  ∀ (pins : List (Addr × Obj)) (s : Shared) (σ : St) (H : Hp) (x y : V) (v u : Value) (Q : VK), Inv X pins σ H s -> RelV x v -> RelV y u -> r x y H Q ->
    wpAny (model X.prog X.w) X.A (f v u) (EP X pins σ Q) X.xe s
def UnR (X : Cx) (f : Value -> Sem Value) (r : V -> Hp -> VK -> Prop) : Prop :=
  ∀ (pins : List (Addr × Obj)) (s : Shared) (σ : St) (H : Hp) (x : V) (v : Value) (Q : VK), Inv X pins σ H s -> RelV x v -> r x H Q ->
    wpAny (model X.prog X.w) X.A (f v) (EP X pins σ Q) X.xe s
def gZ (X : Cx) (f : Value) (r : List V -> Hp -> VK -> Prop) : Prop :=
  ∀ (pins : List (Addr × Obj)) (s : Shared) (σ : St) (H : Hp) (xs : List V) (us : List Value) (Q : VK), Inv X pins σ H s -> Vals xs us -> r xs H Q ->
    wpAny (model X.prog X.w) X.A (call f us) (EP X pins σ Q) X.xe s
def tOp (r : R2) (ta tb : TE) : TE := fun σ H Q => ta σ H fun x H1 => tb σ H1 fun y H2 => r x y H2 Q
def tUn (r : V -> Hp -> VK -> Prop) (ta : TE) : TE := fun σ H Q => ta σ H fun x H1 => r x H1 Q
def rI (C : Int -> Int -> Prop) (g : Int -> Int -> V) : R2 := fun x y H Q => ∃ i j, x = .int i /\ y = .int j /\ C i j /\ Q (g i j) H
def rI0 (g : Int -> Int -> V) : R2 := fun x y H Q => ∃ i j, x = .int i /\ y = .int j /\ Q (g i j) H
def rU (g : Int -> V) : V -> Hp -> VK -> Prop := fun x H Q => ∃ i, x = .int i /\ Q (g i) H
section
variable {X : Cx} {a b c : Expr} {ta tb tc : TE} {pos : Pos}
theorem Pw (ha : PE X a ta) (hb : PE X b tb) {pins : List (Addr × Obj)} {s : Shared} {σ : St} {H : Hp} {R : V -> V -> Hp -> Prop} (I : Inv X pins σ H s)
    (h : ta σ H fun x H1 => tb σ H1 fun y H2 => R x y H2) {Q : Value -> Shared -> Prop} {f : Value -> Value -> Sem Value}
    (hf : ∀ v u s2 x y H2, Inv X pins σ H2 s2 -> RelV x v -> RelV y u -> R x y H2 -> wpAny (model X.prog X.w) X.A (f v u) Q X.xe s2) :
    wpAny (model X.prog X.w) X.A (eval a X.env) (fun v s₁ => wpAny (model X.prog X.w) X.A (eval b X.env) (fun u s₂ => wpAny (model X.prog X.w) X.A (f v u) Q X.xe s₂) X.xe s₁) X.xe s := by
  refine thn (ha pins s σ H _ I h) fun v s1 ⟨x, H1, I1, r1, q1⟩ => ?_
  refine thn (hb pins s1 σ H1 _ I1 q1) fun u s2 ⟨y, H2, I2, r2, q2⟩ => ?_
  exact hf v u s2 x y H2 I2 r1 r2 q2
theorem Qa {op : Operator} {r : R2} (ho : OpR X (binaryOp op) r) (ha : PE X a ta) (hb : PE X b tb) : PE X (.BinOp a op b pos) (tOp r ta tb) := by
  intro pins s σ H Q I h
  exact wpAny_BinOp (Pw ha hb I h fun v u s2 x y H2 I2 rx ry q => ho pins s2 σ H2 x y v u Q I2 rx ry q)
theorem QF {op : UnaryOp} {r : V -> Hp -> VK -> Prop} (ho : UnR X (unaryOp op) r) (ha : PE X a ta) : PE X (.UnaryOp op a pos) (tUn r ta) := by
  intro pins s σ H Q I h
  exact UnaryOp_ (thn (ha pins s σ H _ I h) fun v s1 ⟨x, H1, I1, r1, q1⟩ => ho pins s1 σ H1 x v Q I1 r1 q1)
theorem opI {f : Value -> Value -> Sem Value} {C : Int -> Int -> Prop} {g : Int -> Int -> Int}
    (rule : ∀ (i j : Int) (t u : Tok) (s : Shared) (Q : Value -> Shared -> Prop) (E : Value -> Shared -> Prop), C i j -> Q (.int (g i j) s.toks) { s with toks := s.toks + 1 } -> wpAny (model X.prog X.w) X.A (f (.int i t) (.int j u)) Q E s) :
    OpR X f (rI C fun i j => .int (g i j)) := by
  intro pins s σ H x y v u Q I rx ry h
  obtain ⟨i, j, rfl, rfl, hc, q⟩ := h
  obtain ⟨t, rfl⟩ := rx
  obtain ⟨t', rfl⟩ := ry
  exact rule i j t t' s _ _ hc ⟨.int (g i j), H, I.tok _, ⟨_, rfl⟩, q⟩
theorem QK {f : Value -> Value -> Sem Value} {g : Int -> Int -> Int}
    (rule : ∀ (i j : Int) (t u : Tok) (s : Shared) (Q : Value -> Shared -> Prop) (E : Value -> Shared -> Prop), Q (.int (g i j) s.toks) { s with toks := s.toks + 1 } -> wpAny (model X.prog X.w) X.A (f (.int i t) (.int j u)) Q E s) :
    OpR X f (rI0 fun i j => .int (g i j)) := by
  intro pins s σ H x y v u Q I rx ry h
  obtain ⟨i, j, rfl, rfl, q⟩ := h
  obtain ⟨t, rfl⟩ := rx
  obtain ⟨t', rfl⟩ := ry
  exact rule i j t t' s _ _ ⟨.int (g i j), H, I.tok _, ⟨_, rfl⟩, q⟩
theorem MG {f : Value -> Value -> Sem Value} {g : Int -> Int -> Bool}
    (rule : ∀ (i j : Int) (t u : Tok) (s : Shared) (Q : Value -> Shared -> Prop) (E : Value -> Shared -> Prop), Q (.bool (g i j)) s -> wpAny (model X.prog X.w) X.A (f (.int i t) (.int j u)) Q E s) :
    OpR X f (rI0 fun i j => .bl (g i j)) := by
  intro pins s σ H x y v u Q I rx ry h
  obtain ⟨i, j, rfl, rfl, q⟩ := h
  obtain ⟨t, rfl⟩ := rx
  obtain ⟨t', rfl⟩ := ry
  exact rule i j t t' s _ _ ⟨.bl (g i j), H, I, rfl, q⟩
def OC (i j : Int) : Prop := 0 <= j /\ j <= 1000000 /\ i.natAbs < 2 ^ 64
def Mg (i j : Int) : Prop := (-(2 ^ 64) < i /\ i < 2 ^ 64) \/ (-(2 ^ 64) < j /\ j < 2 ^ 64)
theorem Mg.ok {i j : Int} (h : Mg i j) : IntMulOk i j := by
  rcases h with ⟨h1, h2⟩ | ⟨h1, h2⟩
  . exact .of_left (intBits_le_64 h1 h2)
  . exact .of_right (intBits_le_64 h1 h2)
theorem JL : OpR X (binaryOp .Add) (rI0 fun i j => .int (i + j)) := QK fun _ _ _ _ _ _ _ q => add_int q
theorem N4 : OpR X (binaryOp .Sub) (rI0 fun i j => .int (i - j)) := QK fun _ _ _ _ _ _ _ q => sub_int q
theorem M0 : OpR X (binaryOp .Mod) (rI (fun _ j => j ≠ 0) fun i j => .int (i.fmod j)) := opI fun _ _ _ _ _ _ _ hc q => mod_int' hc q
theorem N2 : OpR X (binaryOp .Pow) (rI OC fun i j => .int (i ^ j.toNat)) := opI fun _ _ _ _ _ _ _ hc q => pow_int_small hc.1 hc.2.1 hc.2.2 q
theorem unI {f : Value -> Sem Value} {g : Int -> Int}
    (rule : ∀ (i : Int) (t : Tok) (s : Shared) (Q : Value -> Shared -> Prop) (E : Value -> Shared -> Prop), Q (.int (g i) s.toks) { s with toks := s.toks + 1 } -> wpAny (model X.prog X.w) X.A (f (.int i t)) Q E s) :
    UnR X f (rU fun i => .int (g i)) := by
  intro pins s σ H x v Q I rx h
  obtain ⟨i, rfl, q⟩ := h
  obtain ⟨t, rfl⟩ := rx
  exact rule i t s _ _ ⟨.int (g i), H, I.tok _, ⟨_, rfl⟩, q⟩
theorem NC : UnR X (unaryOp .USub) (rU fun i => .int (-i)) := unI fun _ _ _ _ _ q => neg_int q
end
section
variable {X : Cx} {a b c : Expr} {ta tb tc : TE} {pos : Pos}
theorem lS : OpR X (compareOp .Lt) (rI0 fun i j => .bl (decide (i < j))) := MG fun _ _ _ _ _ _ _ q => lt_int q
theorem Nm : OpR X (compareOp .LtE) (rI0 fun i j => .bl (decide (i <= j))) := MG fun _ _ _ _ _ _ _ q => le_int q
theorem oU : OpR X (compareOp .Gt) (rI0 fun i j => .bl (decide (j < i))) := MG fun _ _ _ _ _ _ _ q => gt_int q
theorem CT : OpR X (compareOp .GtE) (rI0 fun i j => .bl (decide (j <= i))) := MG fun _ _ _ _ _ _ _ q => ge_int q
theorem OpR.or {f : Value -> Value -> Sem Value} {r r' : R2} (h : OpR X f r) (h' : OpR X f r') : OpR X f (fun x y H Q => r x y H Q \/ r' x y H Q) := by
  intro pins s σ H x y v u Q I rx ry q
  rcases q with q | q
  . exact h pins s σ H x y v u Q I rx ry q
  . exact h' pins s σ H x y v u Q I rx ry q
theorem aW (b : Expr) {op : CmpOp} (h : op ≠ .In := by decide) (h2 : op ≠ .NotIn := by decide) : behindInMarks op b = false := by
  have e1 : (op == CmpOp.In) = false := by cases op <;> first | rfl | exact absurd rfl h
  have e2 : (op == CmpOp.NotIn) = false := by cases op <;> first | rfl | exact absurd rfl h2
  cases b <;> simp [behindInMarks, e1, e2]
theorem MW {op : CmpOp} {r : R2} (ho : OpR X (compareOp op) r) (ha : PE X a ta) (hb : PE X b tb) (hm : behindInMarks op b = false) : PE X (.Compare a [op] [b] pos) (tOp r ta tb) := by
  intro pins s σ H Q I h
  exact wpAny_Compare1 (Pw ha hb I h fun v u s2 x y H2 I2 rx ry q => ho pins s2 σ H2 x y v u Q I2 rx ry q) hm
def Nx (t : TE) : TT := fun σ H Q => t σ H fun x H' => ∃ k, x = .bl k /\ Q k H'
theorem Mk {op : CmpOp} {r : R2} (ho : OpR X (compareOp op) r) (ha : PE X a ta) (hb : PE X b tb) (hm : behindInMarks op b = false) : PT X (.Compare a [op] [b] pos) (Nx (tOp r ta tb)) := by
  intro pins s σ H Q I h
  refine wpAny_isTrue_Compare1 (thn (ha pins s σ H _ I h) fun v s1 ⟨x, H1, I1, r1, q1⟩ => thn (hb pins s1 σ H1 _ I1 q1) fun u s2 ⟨y, H2, I2, r2, q2⟩ =>
    thn (ho pins s2 σ H2 x y v u _ I2 r1 r2 q2) fun c s3 ⟨z, H3, I3, r3, k, e, q3⟩ => ?_) hm
  subst e
  cases r3
  exact wpAny_truthy_bool ⟨H3, I3, q3⟩
theorem xK : (sizeLine : Nat) < 2 ^ 63 := by rw [sizeLine_eq]; decide
theorem vals1 {x : V} {us : List Value} (r : Vals [x] us) : ∃ u, us = [u] /\ RelV x u := by
  cases r with
  | cons r1 r2 => cases r2; exact ⟨_, rfl, r1⟩
theorem vals2 {x y : V} {us : List Value} (r : Vals [x, y] us) : ∃ u w', us = [u, w'] /\ RelV x u /\ RelV y w' := by
  cases r with
  | cons r1 r2 =>
    cases r2 with
    | cons r3 r4 => cases r4; exact ⟨_, _, rfl, r1, r3⟩
theorem J3 : gZ X (.builtin "abs") (fun xs H Q => ∃ i, xs = [.int i] /\ Q (.int (if i < 0 then -i else i)) H) := by
  intro pins s σ H xs us Q I r h
  obtain ⟨i, rfl, q⟩ := h
  obtain ⟨u, rfl, t, rfl⟩ := vals1 r
  exact call_abs_int fun u tk => ⟨.int (if i < 0 then -i else i), H, I.tok _, ⟨_, rfl⟩, q⟩
theorem IV (hc : X.calm = true) : gZ X (.builtin "max") (fun xs H Q => ∃ i j, xs = [.int i, .int j] /\ Q (.int (if j > i then j else i)) H) := by
  intro pins s σ H xs us Q I r h
  obtain ⟨i, j, rfl, q⟩ := h
  obtain ⟨u, w', rfl, ⟨t, rfl⟩, ⟨t', rfl⟩⟩ := vals2 r
  refine max_two_ints (I.ok.hd hc) fun h' tk k => ⟨_, H, I.kept k, ?_, q⟩
  by_cases hj : j > i
  . rw [if_pos hj, if_pos hj]; exact ⟨_, rfl⟩
  . rw [if_neg hj, if_neg hj]; exact ⟨_, rfl⟩
theorem Ip (hc : X.calm = true) : gZ X (.builtin "min") (fun xs H Q => ∃ i j, xs = [.int i, .int j] /\ Q (.int (if j < i then j else i)) H) := by
  intro pins s σ H xs us Q I r h
  obtain ⟨i, j, rfl, q⟩ := h
  obtain ⟨u, w', rfl, ⟨t, rfl⟩, ⟨t', rfl⟩⟩ := vals2 r
  refine min_two_ints (I.ok.hd hc) fun h' tk k => ⟨_, H, I.kept k, ?_, q⟩
  by_cases hj : j < i
  . rw [if_pos hj, if_pos hj]; exact ⟨_, rfl⟩
  . rw [if_neg hj, if_neg hj]; exact ⟨_, rfl⟩
theorem IT : gZ X (.type "int") (fun xs H Q => (∃ i, xs = [.int i] /\ Q (.int i) H) \/ ∃ k, xs = [.bl k] /\ Q (.int (if k then 1 else 0)) H) := by
  intro pins s σ H xs us Q I r h
  rcases h with ⟨i, rfl, q⟩ | ⟨k, rfl, q⟩
  . obtain ⟨u, rfl, t, rfl⟩ := vals1 r
    exact call_int_int ⟨.int i, H, I, ⟨_, rfl⟩, q⟩
  . obtain ⟨u, rfl, r1⟩ := vals1 r
    cases r1
    exact call_int_bool ⟨.int (if k then 1 else 0), H, I.tok _, ⟨_, rfl⟩, q⟩
end
end L2
namespace L2
open PySem PySem.Spec PyProof.Rows
section
variable {prog : Program} {w : World} {A : Around} {E : Value -> Shared -> Prop} {s : Shared} {K : PySem.W.Frag} {x dx C f : Addr} {mA : Str -> Option Value} {name : Str} {v : Value}
end
section
variable {P : Program} {w : World} {H H' : Hp} {h h' : Heap} {a C dx : Addr} {fs fs' : List (Str × V)}
end
structure Cls (K : PySem.W.Frag) (C : Addr) : Prop where
  pg : PySem.W.plainGet K C Str.empty = true
  hd : PySem.W.hasDictIn K C = true
  po : PySem.W.plainOver K C = true
  sa : PySem.W.findIn K (.ref C) "__setattr__" = some (some (.builtin "object.__setattr__"))
theorem Cls.get {K : PySem.W.Frag} {C : Addr} (c : Cls K C) (f : Str) : PySem.W.plainGet K C f = true := c.pg
section
variable {X : Cx} {pins : List (Addr × Obj)} {σ : St} {H : Hp} {s : Shared} {a C dx : Addr} {fs : List (Str × V)} {f : Str} {v : V} {A : Around} {E : Value -> Shared -> Prop}
theorem Inv.made (I : Inv X pins σ H s) : Inv X pins σ (upd (upd H s.heap.objs.size (.own (s.heap.objs.size + 1))) (s.heap.objs.size + 1) (.ins C s.heap.objs.size []))
    { s with heap := (s.heap.push PySem.W.emptyDict).push (PySem.W.instObj C s.heap.objs.size) } := by
  have e1 : (s.heap.push PySem.W.emptyDict).get? s.heap.objs.size = some PySem.W.emptyDict := Heap.get?_push_size s.heap rfl
  have e2 : ((s.heap.push PySem.W.emptyDict).push (PySem.W.instObj C s.heap.objs.size)).get? (s.heap.objs.size + 1) = some (PySem.W.instObj C s.heap.objs.size) := by
    have := Heap.get?_push_size (s.heap.push PySem.W.emptyDict) (o := PySem.W.instObj C s.heap.objs.size) rfl
    rwa [Heap.size_push] at this
  have e3 : (s.heap.push PySem.W.emptyDict).Ns s.heap.objs.size (fun _ => none) := ⟨PySem.W.emptyDict, #[], _, e1, rfl, (fun e he => absurd he (by simp)), fun _ => rfl⟩
  have I1 := I.laid (a := s.heap.objs.size) (o := .own (s.heap.objs.size + 1)) (h' := s.heap.push PySem.W.emptyDict) (t' := s.toks) (fun b u q => Heap.get?_push_of_some _ q) (Nat.le_refl _) ⟨_, e1⟩
  refine I1.laid (a := s.heap.objs.size + 1) (o := .ins C s.heap.objs.size []) (t' := s.toks) (fun b u q => Heap.get?_push_of_some _ q) (Nat.le_of_eq (Heap.size_push _ _)) ?_
  have ne : s.heap.objs.size ≠ s.heap.objs.size + 1 := Nat.ne_of_lt (Nat.lt_succ_self _)
  refine ⟨by rw [bF ne, cL], Nat.zero_le _, ne, e2, fun _ => none, (Heap.Ns1.of_empty e3).at fun o q => Heap.get?_push_of_some _ q, fun _ => True.intro, fun y hy => absurd rfl hy⟩
end
section
variable {X : Cx} {o e value : Expr} {f : Str} {pos pos' tpos : Pos} {ta tv : TE}
end
section
variable {X : Cx} {pins : List (Addr × Obj)} {σ : St} {H : Hp} {s : Shared} {A : Around} {E : Value -> Shared -> Prop} {Q : Value -> Shared -> Prop} {c : Value} {b : Bool}
end
end L2
namespace L2
open PySem PySem.Spec PyProof.Rows
structure ir (k : Nat) (A : Around) : Prop where
  hd : A.handled = none
  dp : A.depth + 3 * k + 5 < recursionLimit
  un : A.units + 16 * k + 200 < cLine
theorem ir.mono {j k : Nat} {A : Around} (r : ir k A) (h : j <= k) : ir j A := ⟨r.hd, by have := r.dp; omega, by have := r.un; omega⟩
theorem ir.deeper {k : Nat} {A : Around} (r : ir (k + 1) A) (env : Env) : ir k (A.deeper env) :=
  ⟨r.hd, by have := r.dp; show A.depth + 1 + 3 * k + 5 < _; omega, by have := r.un; show A.units + 3 + 16 * k + 200 < _; omega⟩
theorem ir.depth {k : Nat} {A : Around} (r : ir k A) : A.depth < recursionLimit := by have := r.dp; omega
theorem ir.units {k : Nat} {A : Around} (r : ir k A) : A.units + 64 < cLine := by have := r.un; omega
def PV : TA := fun _ H Q => Q [] H
def Nd (ta : TE) (tr : TA) : TA := fun σ H Q => ta σ H fun x H1 => tr σ H1 fun xs H2 => Q (x :: xs) H2
section
variable {X : Cx} {e : Expr} {es : List Expr} {te : TE} {t : TA} {pos : Pos}
theorem nV : PA X [] PV := fun _ _ _ _ H Q I h => Calls.spliced_nil ⟨[], H, I, .nil, h⟩
theorem gy (ha : PE X e te) (hr : PA X es t) (hs : starEach (e :: es) X.env = (false, eval e X.env) :: starEach es X.env := by rfl) : PA X (e :: es) (Nd te t) := by
  intro pos pins s σ H Q I h
  rw [hs]
  show wpAny _ _ (spliced ((false, eval e X.env) :: backTo pos (starEach es X.env))) _ _ s
  refine Calls.spliced_cons (thn (ha pins s σ H _ I h) fun u s1 ⟨x, H1, I1, r1, q1⟩ => ?_)
  exact thn (hr pos pins s1 σ H1 _ I1 q1) fun us s2 ⟨xs, H2, I2, r2, q2⟩ => ⟨x :: xs, H2, I2, .cons r1 r2, q2⟩
def Sf (t : TA) : TE := fun σ H Q => t σ H fun xs H1 => xs.length ≤ sizeLine /\ ∀ p, H1 p = none -> Q (.ref p) (upd H1 p (.tup xs))
def RT (t : TA) : TE := fun σ H Q => t σ H fun xs H1 => xs.length ≤ sizeLine /\ ∀ p, H1 p = none -> Q (.ref p) (upd H1 p (.lst xs))
theorem K0 {x1} (h : PA X es t) : PE X (.Tuple es x1 pos) (Sf t) := by
  intro pins s σ H Q I hq
  refine wpAny_Tuple_spliced (thn (h pos pins s σ H _ I hq) fun us s1 ⟨xs, H1, I1, r, z, q⟩ => ⟨by rw [<- r.length]; exact z, ?_⟩)
  have hf : H1 s1.heap.objs.size = none := I1.hok.fresh (Nat.le_refl _)
  refine ⟨.ref s1.heap.objs.size, upd H1 s1.heap.objs.size (.tup xs), I1.laid (t' := s1.toks) (fun b u e => Heap.get?_push_of_some _ e) (Nat.le_refl _) ?_, rfl, q _ hf⟩
  exact ⟨z, us, r, ⟨_, Heap.get?_push_size _ rfl, rfl, _, rfl⟩⟩
theorem Lj (h : PA X es t) : PE X (.List es pos) (RT t) := by
  intro pins s σ H Q I hq
  refine wpAny_List_spliced (thn (h pos pins s σ H _ I hq) fun us s1 ⟨xs, H1, I1, r, z, q⟩ => ⟨by rw [<- r.length]; exact z, ?_⟩)
  have hf : H1 s1.heap.objs.size = none := I1.hok.fresh (Nat.le_refl _)
  refine ⟨.ref s1.heap.objs.size, upd H1 s1.heap.objs.size (.lst xs), I1.laid (t' := s1.toks) (fun b u e => Heap.get?_push_of_some _ e) (Nat.le_refl _) ?_, rfl, q _ hf⟩
  exact ⟨z, us, 0, r, Heap.get?_push_size _ rfl⟩
end
abbrev Sp := List V -> Hp -> VK -> XK -> Prop
abbrev CXT := List Env -> Hp -> Shared -> XK -> Value -> Shared -> Prop
structure C9 (P : Program) (w : World) (K : PySem.W.Frag) (mg : Str -> Option Value) (base : Heap) (A : Around) (outer : List Env) (s : Shared) (H : Hp) : Prop where
  frames : A.frames = some outer
  mod : Mod K mg base
  bs : ∀ b o, base.get? b = some o -> s.heap.get? b = some o /\ H b = none
  bsz : base.objs.size <= s.heap.objs.size
  sr : s.heap.FunFrames base outer
  frf : ∀ b ∈ frs outer, H b = none
  hok : HOk P w H s.heap
  bare : AllBare s.gens
def CE (outer : List Env) (P : Program) (w : World) (H : Hp) (s : Shared) (Q : VK) (u : Value) (s' : Shared) : Prop :=
  ∃ v H', s'.os = s.os /\ AllBare s'.gens /\ Un (frs outer) [] H H' s.heap s'.heap /\ HOk P w H' s'.heap /\ RelV v u /\ Q v H'
def CR (CX : CXT) (outer : List Env) (P : Program) (w : World) (H : Hp) (s : Shared) (Q : VK) (E : XK) (r : Result) (s' : Shared) : Prop :=
  match r with
  | .ok (.ret u) => CE outer P w H s Q u s'
  | .ok _ => False
  | .error e => CX outer H s E e s'
structure bL (P : Program) (w : World) (K : PySem.W.Frag) (mg : Str -> Option Value) (base : Heap) (CX : CXT) (k : Nat) (f : Addr) (fd : FuncData) (ps : List Str) (sp : Sp) : Prop where
  len : ∀ vs H Q E, sp vs H Q E -> vs.length = ps.length
  run : ∀ (A : Around) (outer : List Env) (s : Shared) (H : Hp) (args : Args) (us : List Value) (vs : List V) (Q : VK) (E : XK), ir k A -> C9 P w K mg base A outer s H -> BindsTo s fd args (ps.zip us) -> Vals vs us -> sp vs H Q E ->
    codeAny (model P w) A (.call (.ref f) args) (CR CX outer P w H s Q E) s
theorem bL.mono {P : Program} {w : World} {K : PySem.W.Frag} {mg : Str -> Option Value} {base : Heap} {CX : CXT} {j k : Nat} {f : Addr} {fd : FuncData} {ps : List Str} {sp : Sp} (F : bL P w K mg base CX j f fd ps sp) (h : j <= k) :
    bL P w K mg base CX k f fd ps sp := ⟨F.len, fun A outer s H args us vs Q E hr => F.run A outer s H args us vs Q E (hr.mono h)⟩
section
variable {X : Cx} {pins : List (Addr × Obj)} {σ : St} {H : Hp} {s s' : Shared}
theorem Inv.O1 (I : Inv X pins σ H s) : C9 X.prog X.w X.K X.mg X.base X.A X.stack s H :=
  ⟨I.ok.frames, I.ok.mod, I.bs, Nat.le_trans I.ok.bsz I.sz, I.stack, I.tP, I.hok, I.bare⟩
theorem Inv.after {Q : VK} {u : Value} (I : Inv X pins σ H s) (h : CE X.stack X.prog X.w H s Q u s') : EP X pins σ Q u s' := by
  obtain ⟨v, H', os, bare, un, hok, r, q⟩ := h
  obtain ⟨hh, g, d, t, os'⟩ := s'
  obtain rfl : os' = s.os := os
  exact ⟨v, H', I.call (h' := hh) (g' := g) (d' := d) (t' := t) (ch := []) un hok bare (fun b z => absurd z (by simp)), r, q⟩
end
def Qw (sp : Sp) (dvs : List V) (E : XK) (t : TA) : TE := fun σ H Q => t σ H fun vs H1 => sp (vs ++ dvs) H1 Q E
def Binds (K : PySem.W.Frag) (fd : FuncData) (ps : List Str) (ds : List Value) : Prop :=
  ∀ (s : Shared) (us : List Value), K.In s.heap -> (us ++ ds).length = ps.length -> BindsTo s fd ⟨us, []⟩ (ps.zip (us ++ ds))
theorem Binds.all {K : PySem.W.Frag} {fd : FuncData} {ps : List Str} (h : ∀ us : List Value, us.length = ps.length -> bindArgs fd ⟨us, []⟩ = pure (ps.zip us)) : Binds K fd ps [] := fun s us _ hl => by
  rw [List.append_nil] at hl ⊢
  exact .of_eq (h us hl)
def Passes (CX : CXT) (X : Cx) (E : XK) : Prop := ∀ (pins : List (Addr × Obj)) (σ : St) (H : Hp) (s : Shared) (e : Value) (s' : Shared), Inv X pins σ H s -> CX X.stack H s E e s' -> X.xe e s'
section
variable {X : Cx} {CX : CXT} {k : Nat} {f C : Addr} {fd : FuncData} {ps : List Str} {sp : Sp} {dvs : List V} {ds : List Value} {E : XK} {x m : Str} {p pos apos : Pos} {e o : Expr} {es : List Expr} {ta : TE} {t : TA}
theorem NI {pins : List (Addr × Obj)} {σ : St} {H : Hp} {s : Shared} {Q : VK} {us : List Value} {vs : List V} (F : bL X.prog X.w X.K X.mg X.base CX k f fd ps sp) (hr : ir k X.A) (hb : Binds X.K fd ps ds) (hd : Vals dvs ds) (hx : Passes CX X E)
    (I : Inv X pins σ H s) (r : Vals vs us) (h : sp (vs ++ dvs) H Q E) : wpAny (model X.prog X.w) X.A (call (.ref f) us) (EP X pins σ Q) X.xe s := by
  have r2 : Vals (vs ++ dvs) (us ++ ds) := r.append hd
  have hl : (us ++ ds).length = ps.length := by rw [<- r2.length]; exact F.len _ _ _ _ h
  refine wpAny_call (codeAny_mono (F.run X.A X.stack s H ⟨us, []⟩ (us ++ ds) (vs ++ dvs) Q E hr I.O1 (hb s us I.kIn hl) r2 h) fun r s' hq => ?_)
  cases r with
  | error e => exact hx pins σ H s e s' I hq
  | ok fl =>
    cases fl with
    | ret u => exact I.after hq
    | next => exact False.elim hq
    | brk => exact False.elim hq
    | cont => exact False.elim hq
theorem G9 (F : bL X.prog X.w X.K X.mg X.base CX k f fd ps sp) (hr : ir k X.A) (hg : Gl X x) (hm : X.mg x = some (.ref f)) (hk : PySem.W.keepIn X.K (.ref f) = true) (hb : Binds X.K fd ps ds) (hd : Vals dvs ds) (hx : Passes CX X E)
    (ha : PA X (e :: es) t) (hdb : (x == ("__debug__" : Str)) = false := by decide) (he : starEach (e :: es) X.env = (false, eval e X.env) :: starEach es X.env := by rfl) (hpl : (backTo pos (starEach es X.env)).any (·.1) = false := by rfl) :
    PE X (.Call (.Name x p) (e :: es) [] pos) (Qw sp dvs E t) := by
  intro pins s σ H Q I h
  refine wpAny_Call_Name_kw (tE I hg hm ?_ hdb)
  refine PySem.W.callWith_K (h₀ := X.base) I.ok.mod.kin hk (thn (ha pos pins s σ H _ I h) fun us s1 ⟨vs, H1, I1, r, q⟩ => ⟨I1.kIn, ?_⟩) he hpl
  exact NI F hr hb hd hx I1 r q
end
section
variable {X : Cx} {CX : CXT} {k : Nat} {f C : Addr} {fd : FuncData} {ps ks : List Str} {sp : Sp} {E : XK} {x m : Str} {p pos apos kpos : Pos} {e o : Expr} {es : List Expr} {kws : List Keyword} {te ta : TE} {t tk : TA} {nm : Option Str}
variable {g : List Value -> List Value -> List Value} {gV : List V -> List V -> List V}
end
structure aP (N P : List Str) (sc : Scope) : Prop where
  kind : sc.kind = .function
  co : sc.isCoroutine = false
  gen : sc.isGenerator = false
  nd : N.Nodup
  pre : N.take P.length = P
  par : ∀ x ∈ P, sc.names.lookup x = some .local \/ sc.names.lookup x = some .cell
  OW : ∀ y ∈ sc.names, y.2 ≠ .free
theorem Ae {kindOf : Str -> Option NameKind} {x : Str} : ∀ {binds : List (Str × Value)} {m : Str -> Option Value}, (∀ v, (x, v) ∉ binds) -> bindL kindOf binds m x = m x
  | [], _, _ => rfl
  | (n, v) :: r, m, h => by
    unfold bindL
    rw [Ae fun w hw => h w (List.mem_cons_of_mem _ hw)]
    split
    . have : x ≠ n := by rintro rfl; exact h v List.mem_cons_self
      simp [this]
    . rfl
theorem AD {kindOf : Str -> Option NameKind} {x : Str} : ∀ {binds : List (Str × Value)} {m : Str -> Option Value}, (∀ v, (x, v) ∉ binds) -> bindC kindOf binds m x = m x
  | [], _, _ => rfl
  | (n, v) :: r, m, h => by
    unfold bindC
    rw [AD fun w hw => h w (List.mem_cons_of_mem _ hw)]
    split
    . rfl
    . have : x ≠ n := by rintro rfl; exact h v List.mem_cons_self
      simp [this]
theorem Af {kindOf : Str -> Option NameKind} {x : Str} {v : Value} : ∀ {P : List Str} {vs : List Value} {i : Nat} {m : Str -> Option Value}, P.Nodup -> P[i]? = some x -> vs[i]? = some v -> kindOf x = some .local ->
    bindL kindOf (P.zip vs) m x = some v
  | [], _, _, _, _, h, _, _ => by simp at h
  | _ :: _, [], _, _, _, _, h, _ => by simp at h
  | p :: P, w :: vs, 0, m, nd, h1, h2, hk => by
    simp at h1 h2; subst h1; subst h2
    show bindL kindOf ((p, w) :: P.zip vs) m p = _
    unfold bindL
    rw [Ae fun v hv => (List.nodup_cons.mp nd).1 (List.of_mem_zip hv).1, if_pos hk]
    simp
  | p :: P, w :: vs, i + 1, m, nd, h1, h2, hk => by
    show bindL kindOf ((p, w) :: P.zip vs) m x = _
    unfold bindL
    exact Af (i := i) (List.nodup_cons.mp nd).2 (by simpa using h1) (by simpa using h2) hk
theorem Ag {kindOf : Str -> Option NameKind} {x : Str} {v : Value} : ∀ {P : List Str} {vs : List Value} {i : Nat} {m : Str -> Option Value}, P.Nodup -> P[i]? = some x -> vs[i]? = some v -> kindOf x ≠ some .local ->
    bindC kindOf (P.zip vs) m x = some v
  | [], _, _, _, _, h, _, _ => by simp at h
  | _ :: _, [], _, _, _, _, h, _ => by simp at h
  | p :: P, w :: vs, 0, m, nd, h1, h2, hk => by
    simp at h1 h2; subst h1; subst h2
    show bindC kindOf ((p, w) :: P.zip vs) m p = _
    unfold bindC
    rw [AD fun v hv => (List.nodup_cons.mp nd).1 (List.of_mem_zip hv).1, if_neg hk]
    simp
  | p :: P, w :: vs, i + 1, m, nd, h1, h2, hk => by
    show bindC kindOf ((p, w) :: P.zip vs) m x = _
    unfold bindC
    exact Ag (i := i) (List.nodup_cons.mp nd).2 (by simpa using h1) (by simpa using h2) hk
def start (N : List Str) (vs : List V) : St := vs.map some ++ List.replicate (N.length - vs.length) none
def mn (CX : CXT) (P : Program) (w : World) (K : PySem.W.Frag) (mg : Str -> Option Value) (base : Heap) (N : List Str) (qual : Str) (scope : Scope) (f : Addr) (cd : Value) (A : Around) (outer : List Env) (s : Shared) (H : Hp) (E : XK) : Cx where
  prog := P
  w := w
  K := K
  mg := mg
  base := base
  A := A.deeper (envOfC qual scope s.heap.objs.size f cd)
  N := N
  s₀ := s
  H₀ := H
  env := envOfC qual scope s.heap.objs.size f cd
  outer := outer
  stack := envOfC qual scope s.heap.objs.size f cd :: outer
  ex := []
  calm := true
  fn := fun _ => true
  pn := []
  xe := fun e s' => wpAny (model P w) (A.deeper (envOfC qual scope s.heap.objs.size f cd)) (leaving (envOfC qual scope s.heap.objs.size f cd) e) (fun _ s'' => CX outer H s E e s'') (fun e' s'' => CX outer H s E e' s'') s'
theorem Et {sc : Scope} {n : Nat} {x : Str} (h : sc.names.lookup x = some .cell) : ∃ c, (cellsFrom n sc.names []).lookup x = some c := by
  have q := PySem.W.cellsFrom_some sc.names n [] (.inl h)
  exact Option.isSome_iff_exists.mp q
theorem Ar {CX : CXT} {P : Program} {w : World} {K : PySem.W.Frag} {mg : Str -> Option Value} {base : Heap} {N ps : List Str} {qual : Str} {scope : Scope} {f : Addr} {cd : Value} {A : Around} {outer : List Env} {s s1 : Shared} {H : Hp} {E : XK} {us : List Value} {vs : List V}
    (S : aP N ps scope) (hd : A.handled = none) (e0 : C9 P w K mg base A outer s H) (hl : vs.length = ps.length) (r : Vals vs us)
    (x : InCallC s s.heap.objs.size (bindL (envOfC qual scope s.heap.objs.size f cd).kindOf (ps.zip us) fun _ => none) (cellsFrom (s.heap.objs.size + 1) scope.names []) (bindC (envOfC qual scope s.heap.objs.size f cd).kindOf (ps.zip us) fun _ => none) s1) :
    Inv (mn CX P w K mg base N qual scope f cd A outer s H E) [] (start N vs) H s1 := by
  have hpl : ps.length <= N.length := by have := congrArg List.length S.pre; rw [List.length_take] at this; omega
  obtain ⟨h1, tk, rfl, hk⟩ := x.done
  have noA : ∀ b : Addr, b ∉ (mn CX P w K mg base N qual scope f cd A outer s H E).ex := fun b z => absurd (show b ∈ ([] : List Addr) from z) (by simp)
  refine ⟨⟨e0.mod, S.kind, rfl, rfl, Nat.le_refl _, fun y z c h1 h2 => ?_, fun y hy => ?_, fun y c _ h => ?_, fun _ => hd, .inl hd, Around.frames_deeper e0.frames, .inr ⟨rfl, rfl⟩, fun b z => absurd z (noA b), e0.bs, e0.bsz, fun b _ _ => noA b, fun b z => absurd z (noA b), e0.sr, e0.frf⟩,
    rfl, e0.bare, Un.kept hk, ⟨_, x.toInCall.ns, fun i y v h1 h2 h3 => ?_⟩, fun y c h => ⟨_, x.cell y c h⟩, e0.hok.fresh (Nat.le_refl _), fun y c h => ?_, fun p hp => absurd (show p ∈ ([] : List (Addr × Obj)) from hp) (by simp), e0.hok.kept hk, ?_⟩
  . exact name_of_addr x.apart (PySem.mem_of_lookup h1) (PySem.mem_of_lookup h2)
  . have hy : scope.names.lookup y = some .cell \/ scope.names.lookup y = some .free := hy
    rcases hy with hy | hy
    . exact Et hy
    . exact absurd rfl (S.OW _ (PySem.mem_of_lookup hy))
  . exact Nat.le_of_lt (x.above y c (PySem.mem_of_lookup h))
  . have hi : i < vs.length := by
      unfold start at h2
      by_cases hi : i < vs.length
      . exact hi
      . rw [List.getElem?_append_right (by simpa using hi)] at h2
        rw [List.getElem?_replicate] at h2
        split at h2 <;> cases h2
    have ha : vs[i]? = some v := by
      unfold start at h2
      rw [List.getElem?_append_left (by simpa using hi), List.getElem?_map] at h2
      cases e : vs[i]? with
      | none => rw [e] at h2; cases h2
      | some a => rw [e] at h2; cases h2; rfl
    obtain ⟨u, hu, rv⟩ := r.get ha
    have hp : ps[i]? = some y := by
      rw [<- S.pre, List.getElem?_take_of_lt (by omega)]; exact h1
    have ndP : ps.Nodup := by rw [<- S.pre]; exact S.nd.sublist (List.take_sublist _ _)
    refine ⟨u, rv, ?_⟩
    rcases S.par y (List.mem_of_getElem? hp) with k | k
    . exact .inl ⟨k, Af ndP hp hu k⟩
    . obtain ⟨c, e⟩ := Et (n := s.heap.objs.size + 1) k
      refine .inr ⟨.inl k, c, e, ?_⟩
      have q := x.cell y c e
      rw [Ag ndP hp hu (by show scope.names.lookup y ≠ _; rw [k]; decide)] at q
      exact q
  . exact e0.hok.fresh (Nat.le_of_lt (x.above y c (PySem.mem_of_lookup h)))
  . unfold start
    show _ = N.length
    rw [List.length_append, List.length_map, List.length_replicate]
    omega
theorem JZ {CX : CXT} {P : Program} {w : World} {K : PySem.W.Frag} {mg : Str -> Option Value} {base : Heap} {k : Nat} {f : Addr} {name qual : Str} {params : Arguments} {body : List Stmt} {scope : Scope} {dV kV doc pm cdv ct oc : Value} {an od : Option Addr}
    {osl : Array (Option Value)} {N ps : List Str} {sp : Sp} (lk : K.lookup f = some ⟨oc, od, .func (PySem.W.fnOf name qual params body scope dV kV doc pm an cdv ct), osl⟩) (hcd : PySem.W.codeIn K cdv qual = true) (S : aP N ps scope)
    (len : ∀ vs H Q E, sp vs H Q E -> vs.length = ps.length)
    (hbody : ∀ (A : Around) (outer : List Env) (s : Shared) (H : Hp) (vs : List V) (Q : VK) (E : XK), ir k (A.deeper (envOfC qual scope s.heap.objs.size f cdv)) -> sp vs H Q E ->
      ∃ t, PSs (mn CX P w K mg base N qual scope f cdv A outer s H E) body t /\ t { nx := fun _ H' => Q .non H', rt := Q } (start N vs) H) :
    bL P w K mg base CX (k + 1) f (PySem.W.fnOf name qual params body scope dV kV doc pm an cdv ct) ps sp := by
  refine ⟨len, fun A outer s H args us vs Q E hr e0 hb r hsp => ?_⟩
  have hl := len _ _ _ _ hsp
  have KX : K.In s.heap := e0.mod.kin.keeps fun b o e => (e0.bs b o e).1
  have lim : s.heap.NoLimit := e0.mod.nolimit.keeps fun b o e => (e0.bs b o e).1
  have hkind : ∀ y ∈ ps.zip us, scope.names.lookup y.1 = some .local \/ (scope.names.lookup y.1 = some .cell /\ ((cellsFrom (s.heap.objs.size + 1) scope.names []).lookup y.1).isSome = true) := fun ⟨n, v⟩ hy => by
    rcases S.par n (List.of_mem_zip hy).1 with q | q
    . exact .inl q
    . exact .inr ⟨q, PySem.W.cellsFrom_some _ _ _ (.inl q)⟩
  refine codeAny_call_function hr.depth (KX _ _ lk) rfl S.co S.gen rfl (PySem.W.codeRec_of KX hcd) (hb _ _ _ _ ?_)
  refine wpAny_newFunctionEnv_cells S.kind hkind fun env he s1 x => ?_
  subst he
  refine ⟨lim.keeps x.toInCall.keep, codeAny_func ?_⟩
  obtain ⟨t, ht, hq⟩ := hbody A outer s H vs Q E (hr.deeper _) hsp
  have I : Inv (mn CX P w K mg base N qual scope f cdv A outer s H E) [] (start N vs) H s1 := Ar S hr.hd e0 hl r x
  refine wpAny_mono (ht [] s1 (start N vs) H _ I hq) (fun fl s' hs => ?_) fun e s' hs => hs
  have fin : ∀ {σ' : St} {H' : Hp} {v : V} {u : Value}, Inv (mn CX P w K mg base N qual scope f cdv A outer s H E) [] σ' H' s' -> RelV v u -> Q v H' -> CE outer P w H s Q u s' :=
    fun {σ' H' v u} J rv q => ⟨v, H', J.os, J.bare, J.base, J.hok, rv, q⟩
  cases fl with
  | ret u =>
    obtain ⟨v, σ', H', J, rv, q⟩ := hs
    exact fin J rv q
  | next =>
    obtain ⟨σ', H', J, q⟩ := hs
    exact fin (v := V.non) (u := Value.none) J rfl q
  | brk =>
    obtain ⟨_, _, _, q⟩ := hs
    exact False.elim q
  | cont =>
    obtain ⟨_, _, _, q⟩ := hs
    exact False.elim q
end L2
namespace L2
open PySem PySem.Spec PyProof.Rows
section
variable {X : Cx} {x : Str} {p pos : Pos} {e : Expr} {es : List Expr} {t : TA} {id T : String} {r : List V -> Hp -> VK -> Prop}
def tCB (r : List V -> Hp -> VK -> Prop) (t : TA) : TE := fun σ H Q => t σ H fun vs H1 => r vs H1 Q
theorem qv (hc : gZ X (.builtin id) r) (hg : Gl X x) (hm : X.mg x = none) (hv : bootBuiltins x = some (.builtin id)) (ha : PA X (e :: es) t) (hn : x ≠ "__name__" := by decide) (hdb : (x == ("__debug__" : Str)) = false := by decide)
    (he : starEach (e :: es) X.env = (false, eval e X.env) :: starEach es X.env := by rfl) (hpl : (backTo pos (starEach es X.env)).any (·.1) = false := by rfl) : PE X (.Call (.Name x p) (e :: es) [] pos) (tCB r t) := by
  intro pins s σ H Q I h
  refine wpAny_Call_Name_kw (yB I hg hm hv ?_ hn hdb)
  exact PyProof.Rows.callWith_builtin1 (thn (ha pos pins s σ H _ I h) fun us s1 ⟨vs, H1, I1, r1, q1⟩ => hc pins s1 σ H1 vs us Q I1 r1 q1) he hpl
theorem Ak (hc : gZ X (.type T) r) (hg : Gl X x) (hm : X.mg x = none) (hv : bootBuiltins x = some (.type T)) (ha : PA X (e :: es) t) (hn : x ≠ "__name__" := by decide) (hdb : (x == ("__debug__" : Str)) = false := by decide)
    (he : starEach (e :: es) X.env = (false, eval e X.env) :: starEach es X.env := by rfl) (hpl : (backTo pos (starEach es X.env)).any (·.1) = false := by rfl) : PE X (.Call (.Name x p) (e :: es) [] pos) (tCB r t) := by
  intro pins s σ H Q I h
  refine wpAny_Call_Name_kw (yB I hg hm hv ?_ hn hdb)
  exact PyProof.Rows.callWith_type1 (thn (ha pos pins s σ H _ I h) fun us s1 ⟨vs, H1, I1, r1, q1⟩ => hc pins s1 σ H1 vs us Q I1 r1 q1) he hpl
end
end L2
namespace HT
open PySem PyProof.Rows
section
open PySem.SeqAt
open PySem.AutoSeq1 (wpAny_loadPart')
open PySem.MeetsSeq PySem.MeetsSeq2 PySem.MeetsSeq3
end
section
variable {prog : Program} {w : World} {A : Around} {E : Value -> Shared -> Prop} {s : Shared}
theorem M8 {t b : Addr} {vs ws : List Value} {Q : Value -> Shared -> Prop} (ht : IsTup s.heap t vs.toArray) (hb : IsTup s.heap b ws.toArray) (hv : vs ≠ [])
    (h1 : ws = [] -> Q (.ref t) s) (h2 : ws ≠ [] -> Q (.ref s.heap.objs.size) { s with heap := s.heap.push { cls := .type "tuple", data := .seq (vs ++ ws).toArray } })
    (hsz : vs.length + ws.length <= sizeLine) : wpAny (model prog w) A (binaryOp .Add (.ref t) (.ref b)) Q E s := by
  obtain ⟨⟨cls, dd, data, sl⟩, ho, hc, n, hd⟩ := id ht
  obtain ⟨⟨cls2, dd2, data2, sl2⟩, ho2, hc2, n2, hd2⟩ := id hb
  simp only at hc hd hc2 hd2
  subst hc hd hc2 hd2
  have e : vs.toArray ++ ws.toArray = (vs ++ ws).toArray := by simp
  by_cases hw : ws = []
  . exact concat_meets ⟨_, ho, rfl⟩ ⟨_, ho2, rfl⟩ noFill_tuple_add seq_tuple_add PySem.F.slot_tuple_add PySem.F.entry_tuple_add (PySem.F.args_tuple_add_2 _ _)
      (tuple_addW1 t b vs.toArray ws.toArray n n2 dd dd2 sl sl2 (by simpa using hv) (by simp [hw])) ⟨ho, ho2, h1 hw⟩
  . refine concat_meets ⟨_, ho, rfl⟩ ⟨_, ho2, rfl⟩ noFill_tuple_add seq_tuple_add PySem.F.slot_tuple_add PySem.F.entry_tuple_add (PySem.F.args_tuple_add_2 _ _)
      (tuple_addW2 t b vs.toArray ws.toArray n n2 dd dd2 sl sl2 (by simpa using hv) (by simpa using hw) (by rw [List.size_toArray, List.size_toArray]; exact hsz)) ⟨ho, ho2, ?_⟩
    rw [e]
    exact h2 hw
def sIx (n d : Nat) : Option Int -> Nat
  | none => d
  | some v => if v < 0 then (v + (n : Int)).toNat else min v.toNat n
theorem OX (n d : Nat) (hd : d <= n) (o : Option Int) : sIx n d o <= n := by
  cases o with
  | none => exact hd
  | some v =>
    show (if v < 0 then (v + (n : Int)).toNat else min v.toNat n) <= n
    by_cases hv : v < 0
    . rw [if_pos hv]; omega
    . rw [if_neg hv]; exact Nat.min_le_right _ _
theorem G7 (v : Int) (n d : Nat) : (if v < 0 then max (v + (n : Int)) 0 else min v (n : Int)) = ((sIx n d (some v) : Nat) : Int) := by
  show (if v < 0 then max (v + (n : Int)) 0 else min v (n : Int)) = (((if v < 0 then (v + (n : Int)).toNat else min v.toNat n) : Nat) : Int)
  by_cases hv : v < 0
  . simp only [if_pos hv]; omega
  . simp only [if_neg hv]; omega
theorem Fg (lo hi : Option Int) (n : Nat) : Builtin.Slice.sliceAdjust lo hi 1 (n : Int) = (((sIx n 0 lo : Nat) : Int), ((sIx n n hi : Nat) : Int)) := by
  have h1 : ¬ ((1 : Int) < 0) := by omega
  unfold Builtin.Slice.sliceAdjust
  simp only [h1, if_false]
  refine Prod.ext ?_ ?_
  . cases lo with
    | none => rfl
    | some v => exact G7 v n 0
  . cases hi with
    | none => rfl
    | some v => exact G7 v n n
theorem GQ (i j : Nat) : Builtin.Slice.slicePlaces (i : Int) (j : Int) 1 = j - i := by
  unfold Builtin.Slice.slicePlaces
  have h1 : (1 : Int) > 0 := by omega
  simp only [h1, if_true, Int.ediv_one]
  split <;> omega
theorem yw {v : Value} {o : Option Int} {Q : Option Int -> Shared -> Prop} (p : IsPart v o) (h : Q o s) : wpAny (model prog w) A (Builtin.Slice.slicePartIndex v) Q E s := by
  cases p with
  | none => exact slicePart_none h
  | int i t => exact slicePart_int h
theorem mL {sl : Addr} {vl vu : Value} {lo hi : Option Int} {n : Nat} {Q : Int × Int × Nat -> Shared -> Prop} (hs : s.heap.IsSliceOf sl vl vu .none) (pl : IsPart vl lo) (pu : IsPart vu hi)
    (h : Q (((sIx n 0 lo : Nat) : Int), 1, sIx n n hi - sIx n 0 lo) s) : wpAny (model prog w) A (Builtin.Slice.sliceApplied (.ref sl) (pure (n : Int))) Q E s := by
  obtain ⟨os, hos, hcs, hds⟩ := id hs
  unfold Builtin.Slice.sliceApplied Builtin.Slice.sliceFields
  refine wpAny_bind (wpAny_bind (wpAny_field hos hds (x := vl) rfl (wpAny_bind (wpAny_field hos hds (x := vu) rfl (wpAny_bind (wpAny_field hos hds (x := .none) rfl (wpAny_pure ?_)))))))
  refine wpAny_bind (slicePart_none ?_)
  show wpAny _ _ (if ((1 : Int) == 0) = true then _ else _) _ _ s
  rw [if_neg (by decide)]
  refine wpAny_bind (yw pl (wpAny_bind (yw pu (wpAny_bind (wpAny_pure ?_)))))
  show wpAny _ _ (match Builtin.Slice.sliceAdjust lo hi 1 (n : Int) with | (lo, hi) => pure (lo, (1 : Int), Builtin.Slice.slicePlaces lo hi 1)) _ _ s
  rw [Fg lo hi n]
  show wpAny _ _ (pure (((sIx n 0 lo : Nat) : Int), (1 : Int), Builtin.Slice.slicePlaces ((sIx n 0 lo : Nat) : Int) ((sIx n n hi : Nat) : Int) 1)) _ _ s
  rw [GQ]
  exact wpAny_pure h
theorem KL (xs : Array Value) (i k : Nat) : ((List.range k).filterMap fun (m : Nat) => xs[((i : Int) + (m : Int) * 1).toNat]?).toArray = ((xs.toList.drop i).take k).toArray := by
  have e : (fun (m : Nat) => xs[((i : Int) + (m : Int) * 1).toNat]?) = fun m => xs[i + m]? := by
    funext m
    have : ((i : Int) + (m : Int) * 1).toNat = i + m := by omega
    rw [this]
  rw [e]
  have := pick_run xs i k
  rw [List.filterMap_map] at this
  have e2 : ((fun x => xs[x]?) ∘ fun x => i + x) = fun m => xs[i + m]? := rfl
  rw [e2] at this
  rw [this]
theorem tK {t sl : Addr} {items : Array Value} {vl vu : Value} {lo hi : Option Int} {Q : Value -> Shared -> Prop} (ht : IsTup s.heap t items) (hs : s.heap.IsSliceOf sl vl vu .none) (pl : IsPart vl lo) (pu : IsPart vu hi)
    (hw : ¬ (sIx items.size 0 lo = 0 /\ sIx items.size items.size hi = items.size))
    (h : Q (.ref s.heap.objs.size) { s with heap := s.heap.push { cls := .type "tuple", data := .seq ((items.toList.drop (sIx items.size 0 lo)).take (sIx items.size items.size hi - sIx items.size 0 lo)).toArray } })
    (hsz : items.size <= sizeLine) : wpAny (model prog w) A (getItem (.ref t) (.ref sl)) Q E s := by
  have htake : sizeOk (.seq ((items.toList.drop (sIx items.size 0 lo)).take (sIx items.size items.size hi - sIx items.size 0 lo)).toArray) := by
    show ((items.toList.drop (sIx items.size 0 lo)).take (sIx items.size items.size hi - sIx items.size 0 lo)).toArray.size <= sizeLine
    rw [List.size_toArray, List.length_take, List.length_drop, Array.length_toList]
    omega
  have hj : sIx items.size items.size hi <= items.size := OX _ _ (Nat.le_refl _) hi
  obtain ⟨os, hos, hcs, hds⟩ := id hs
  have hTs : s.TypeIs (.ref sl) "slice" := ⟨os, hos, hcs⟩
  unfold getItem
  try with_reducible refine wpAny_holding ?_
  first | refine wpAny_bind (wpAny_pure ?_) | skip
  refine wpAny_bind (wpAny_sequenceKey ht.typeIs (by decide) ?_)
  refine wpAny_bind (wpAny_callSpecial?_slot (name := Str.ofString "__getitem__") ht.typeIs PyProof.Rows.slot_tuple_getitem
    (wpAny_call_entry PyProof.Rows.slot_tuple_getitem ht.typeIs entry_tuple_getitem ?_ (args_tuple_getitem _ _)))
  show wpAny _ _ (Builtin.Tuple.tupleItemsOf (.ref t) >>= _) _ _ s
  refine wpAny_bind (tupleItemsOf_ ht ?_)
  refine wpAny_bind (wpAny_typeOf hTs ?_)
  rw [if_pos (by decide)]
  refine wpAny_bind (mL hs pl pu ?_)
  have hno : ¬ ((((sIx items.size 0 lo : Nat) : Int) == 0 && (1 : Int) == 1 && (sIx items.size items.size hi - sIx items.size 0 lo) == items.size) = true) := by
    intro q
    rw [Bool.and_eq_true, Bool.and_eq_true] at q
    have q1 : ((sIx items.size 0 lo : Nat) : Int) = 0 := eq_of_beq q.1.1
    have q2 : sIx items.size items.size hi - sIx items.size 0 lo = items.size := eq_of_beq q.2
    exact hw ⟨by omega, by omega⟩
  show wpAny _ _ (if (((sIx items.size 0 lo : Nat) : Int) == 0 && (1 : Int) == 1 && (sIx items.size items.size hi - sIx items.size 0 lo) == items.size) = true then _ else _) _ _ s
  rw [if_neg hno, KL]
  first
    | exact wpAny_bind (m := Builtin.Tuple.tupleExact _) (wpAny_newObj_type (wpAny_pure ⟨_, rfl, wpAny_pure h⟩) htake)
    | exact wpAny_bind (m := Builtin.Tuple.tupleExact _) (wpAny_newObj_type (wpAny_bind (wpAny_pure (wpAny_pure ⟨_, rfl, wpAny_pure h⟩))) htake)
    | exact wpAny_bind (wpAny_bind (m := Builtin.Tuple.tupleExact _) (wpAny_newObj_type (wpAny_pure (wpAny_pure ⟨_, rfl, wpAny_pure h⟩)) htake))
    | exact wpAny_bind (wpAny_bind (m := Builtin.Tuple.tupleExact _) (wpAny_newObj_type (wpAny_pure ⟨_, rfl, wpAny_pure h⟩) htake))
end
end HT
namespace L2
open PySem PySem.Spec PyProof.Rows
abbrev TO := St -> Hp -> (Option Int -> Hp -> Prop) -> Prop
def PO (X : Cx) (e : Option Expr) (t : TO) : Prop :=
  ∀ (pins : List (Addr × Obj)) (s : Shared) (σ : St) (H : Hp) (Q : Option Int -> Hp -> Prop), Inv X pins σ H s -> t σ H Q ->
    wpAny (model X.prog X.w) X.A (evalPart e X.env) (fun u s' => ∃ o H', Inv X pins σ H' s' /\ IsPart u o /\ Q o H') X.xe s
def Mz : TO := fun _ H Q => Q none H
def QD (t : TE) : TO := fun σ H Q => t σ H fun x H1 => ∃ i, x = .int i /\ Q (some i) H1
section
variable {X : Cx} {e : Expr} {te : TE} {lo hi : Option Expr} {tl th : TO} {pos p2 : Pos}
theorem Mm : PO X none Mz := by
  intro pins s σ H Q I h
  rw [evalPart_none]
  exact wpAny_pure ⟨none, H, I, .none, h⟩
theorem MK (h : PE X e te) : PO X (some e) (QD te) := by
  intro pins s σ H Q I hw
  rw [evalPart_some]
  refine thn (h pins s σ H _ I hw) fun u s1 ⟨x, H1, I1, r1, q1⟩ => ?_
  obtain ⟨i, rfl, q⟩ := q1
  obtain ⟨t, rfl⟩ := r1
  exact ⟨some i, H1, I1, .int i t, q⟩
def SlR (X : Cx) (r : V -> Option Int -> Option Int -> Hp -> VK -> Prop) : Prop :=
  ∀ (pins : List (Addr × Obj)) (s : Shared) (σ : St) (H : Hp) (x : V) (v vl vu : Value) (lo hi : Option Int) (sl : Addr) (Q : VK), Inv X pins σ H s -> RelV x v -> s.heap.IsSliceOf sl vl vu .none -> IsPart vl lo -> IsPart vu hi -> r x lo hi H Q ->
    ∃ T id, typeLookup (.type T) "__getitem__" = pure (some (.builtin id)) /\ s.TypeIs v T /\ wpAny (model X.prog X.w) X.A (getItem v (.ref sl)) (EP X pins σ Q) X.xe s
theorem SlR.or {r r' : V -> Option Int -> Option Int -> Hp -> VK -> Prop} (h : SlR X r) (h' : SlR X r') : SlR X (fun x lo hi H Q => r x lo hi H Q \/ r' x lo hi H Q) := by
  intro pins s σ H x v vl vu lo hi sl Q I rx hs pl pu q
  rcases q with q | q
  . exact h pins s σ H x v vl vu lo hi sl Q I rx hs pl pu q
  . exact h' pins s σ H x v vl vu lo hi sl Q I rx hs pl pu q
def tSl (r : V -> Option Int -> Option Int -> Hp -> VK -> Prop) (te : TE) (tl th : TO) : TE := fun σ H Q => te σ H fun x H1 => tl σ H1 fun l H2 => th σ H2 fun u H3 => r x l u H3 Q
theorem JO {r : V -> Option Int -> Option Int -> Hp -> VK -> Prop} (hr : SlR X r) (he : PE X e te) (hl : PO X lo tl) (hu : PO X hi th) : PE X (.Subscript e (.Slice lo hi none p2) pos) (tSl r te tl th) := by
  intro pins s σ H Q I h
  refine Subscript_ (thn (he pins s σ H _ I h) fun v s1 ⟨x, H1, I1, r1, q1⟩ => ?_)
  refine wpAny_Slice (thn (hl pins s1 σ H1 _ I1 q1) fun vl s2 ⟨l, H2, I2, pl, q2⟩ => thn (hu pins s2 σ H2 _ I2 q2) fun vu s3 ⟨u, H3, I3, pu, q3⟩ => ?_)
  rw [evalPart_none]
  refine wpAny_pure ?_
  have I4 : Inv X pins σ H3 { s3 with heap := s3.heap.push { cls := .type "slice", data := .fields #[vl, vu, .none] } } := I3.kept (t' := s3.toks) fun b ob q => Heap.get?_push_of_some _ q
  obtain ⟨T, id, hT, ht, hg⟩ := hr pins { s3 with heap := s3.heap.push { cls := .type "slice", data := .fields #[vl, vu, .none] } } σ H3 x v vl vu l u s3.heap.objs.size Q I4 r1 (Heap.IsSliceOf.new ..) pl pu q3
  show wpAny (model X.prog X.w) X.A (subscriptTail e (.Slice lo hi none p2) v (.ref s3.heap.objs.size)) (EP X pins σ Q) X.xe { s3 with heap := s3.heap.push { cls := .type "slice", data := .fields #[vl, vu, .none] } }
  exact tail_any (ops := [.ref s3.heap.objs.size, v]) ht hT hg (by with_unfolding_all rfl)
def BM (xs : List V) (lo hi : Option Int) : List V := (xs.drop (HT.sIx xs.length 0 lo)).take (HT.sIx xs.length xs.length hi - HT.sIx xs.length 0 lo)
theorem wo (xs : List V) (lo hi : Option Int) : (BM xs lo hi).length <= xs.length := by
  unfold BM
  rw [List.length_take, List.length_drop]
  omega
def R8 (K : PySem.W.Frag) : V -> Option Int -> Option Int -> Hp -> VK -> Prop := fun x lo hi H Q => ∃ a xs, x = .ref a /\ SqT K H a xs /\
  ¬ (HT.sIx xs.length 0 lo = 0 /\ HT.sIx xs.length xs.length hi = xs.length) /\ ∀ p, H p = none -> Q (.ref p) (upd H p (.tup (BM xs lo hi)))
theorem N6 : SlR X (R8 X.K) := by
  intro pins s σ H x v vl vu lo hi sl Q I rx hs pl pu h
  obtain ⟨a, xs, rfl, hx, hw, q⟩ := h
  cases rx
  obtain ⟨its, r, ht, hz⟩ := I.tuple hx
  have hlen : its.toArray.size = xs.length := by rw [List.size_toArray]; exact r.length.symm
  refine ⟨"tuple", _, PyProof.Rows.slot_tuple_getitem.lookup, ht.typeIs, ?_⟩
  refine HT.tK ht hs pl pu (by rw [hlen]; exact hw) ?_ (by rw [hlen]; exact hz)
  rw [hlen]
  refine ⟨.ref s.heap.objs.size, _, I.laid (t' := s.toks) (o := .tup (BM xs lo hi)) (fun b ob q => Heap.get?_push_of_some _ q) (Nat.le_refl _) ?_, rfl, q _ (I.hok.fresh (Nat.le_refl _))⟩
  exact ⟨Nat.le_trans (wo xs lo hi) hz, _, (r.drop (HT.sIx xs.length 0 lo)).take (HT.sIx xs.length xs.length hi - HT.sIx xs.length 0 lo), IsTup.new _ _⟩
def Qt (K : PySem.W.Frag) : R2 := fun x y H Q => ∃ a b xs ys, x = .ref a /\ y = .ref b /\ SqT K H a xs /\ SqT K H b ys /\ xs ≠ [] /\ xs.length + ys.length ≤ sizeLine /\
  (ys = [] -> Q (.ref a) H) /\ (ys ≠ [] -> ∀ p, H p = none -> Q (.ref p) (upd H p (.tup (xs ++ ys))))
theorem Vals.Cb {xs : List V} {us : List Value} (r : Vals xs us) : us = [] ↔ xs = [] := by
  cases r with
  | nil => simp
  | cons _ _ => simp
theorem MH : OpR X (binaryOp .Add) (Qt X.K) := by
  intro pins s σ H x y v u Q I rx ry h
  obtain ⟨a, b, xs, ys, rfl, rfl, ha, hb, hx, hz, q1, q2⟩ := h
  cases rx
  cases ry
  obtain ⟨its, r1, p1, _⟩ := I.tuple ha
  obtain ⟨its2, r2, p2, _⟩ := I.tuple hb
  refine HT.M8 p1 p2 (fun z => hx (r1.Cb.mp z)) (fun z => ⟨.ref a, H, I, rfl, q1 (r2.Cb.mp z)⟩) (fun z => ?_) (by rw [<- r1.length, <- r2.length]; exact hz)
  refine ⟨.ref s.heap.objs.size, _, I.laid (t' := s.toks) (o := .tup (xs ++ ys)) (fun b ob q => Heap.get?_push_of_some _ q) (Nat.le_refl _) ?_, rfl, q2 (fun w => z (r2.Cb.mpr w)) _ (I.hok.fresh (Nat.le_refl _))⟩
  exact ⟨by rw [List.length_append]; exact hz, _, r1.append r2, IsTup.new _ _⟩
end
end L2
namespace L2
open PySem PySem.Spec PyProof.Rows
def ixN (n : Nat) (i : Int) : Option Nat := if 0 <= i then (if i < n then some i.toNat else none) else if -(n : Int) <= i then some (i + n).toNat else none
def atI {α : Type} (xs : List α) (i : Int) : Option α := (ixN xs.length i).bind fun j => xs[j]?
theorem HR {n : Nat} {i : Int} {j : Nat} (h : ixN n i = some j) : seqIndex? i n = some j /\ j < n /\ -(n : Int) <= i /\ i < n := by
  unfold ixN at h
  by_cases h0 : 0 <= i
  . rw [if_pos h0] at h
    by_cases h1 : i < n
    . rw [if_pos h1] at h
      have e : i.toNat = j := Option.some.inj h
      exact ⟨by rw [seqIndex_of h0 h1, e], by omega, by omega, h1⟩
    . rw [if_neg h1] at h; cases h
  . rw [if_neg h0] at h
    by_cases h1 : -(n : Int) <= i
    . rw [if_pos h1] at h
      have e : (i + n).toNat = j := Option.some.inj h
      exact ⟨by rw [seqIndex_neg (by omega) h1, e], by omega, h1, by omega⟩
    . rw [if_neg h1] at h; cases h
theorem Bb {α : Type} {xs : List α} {i : Int} {v : α} (h : atI xs i = some v) : ∃ j, seqIndex? i xs.length = some j /\ xs[j]? = some v /\ j < xs.length /\ -(xs.length : Int) ≤ i /\ i < xs.length := by
  unfold atI at h
  cases e : ixN xs.length i with
  | none => rw [e] at h; cases h
  | some j =>
    rw [e] at h
    obtain ⟨h1, h2, h3, h4⟩ := HR e
    exact ⟨j, h1, h, h2, h3, h4⟩
theorem uG {α : Type} {xs : List α} {j : Nat} {v : α} (h : xs[j]? = some v) : atI xs (j : Int) = some v := by
  have hj : j < xs.length := (List.getElem?_eq_some_iff.mp h).1
  have e : ixN xs.length (j : Int) = some j := by
    unfold ixN
    rw [if_pos (by omega), if_pos (by omega)]; simp
  unfold atI; rw [e]; exact h
def Hy (b : Expr) : Prop := ∀ o i, subscripted b false o i = operate [o, i] (getItem o i)
def IxR (X : Cx) (r : R2) : Prop :=
  ∀ (value slice : Expr) (pins : List (Addr × Obj)) (s : Shared) (σ : St) (H : Hp) (x y : V) (v u : Value) (Q : VK), Inv X pins σ H s -> RelV x v -> RelV y u -> r x y H Q ->
    subscripted slice false v u = operate [v, u] (getItem v u) -> wpAny (model X.prog X.w) X.A (subscriptTail value slice v u) (EP X pins σ Q) X.xe s
def MtR (X : Cx) (id : String) (r : V -> List V -> Hp -> VK -> Prop) : Prop :=
  ∀ (pins : List (Addr × Obj)) (s : Shared) (σ : St) (H : Hp) (x : V) (xs : List V) (v : Value) (us : List Value) (Q : VK), Inv X pins σ H s -> RelV x v -> Vals xs us -> r x xs H Q ->
    wpAny (model X.prog X.w) X.A (call (.builtin id) (v :: us)) (EP X pins σ Q) X.xe s
section
variable {X : Cx} {a b : Expr} {ta tb : TE} {pos : Pos}
theorem IxR.or {r r' : R2} (h : IxR X r) (h' : IxR X r') : IxR X (fun x y H Q => r x y H Q \/ r' x y H Q) := by
  intro value slice pins s σ H x y v u Q I rx ry q hs
  rcases q with q | q
  . exact h value slice pins s σ H x y v u Q I rx ry q hs
  . exact h' value slice pins s σ H x y v u Q I rx ry q hs
theorem MtR.or {id : String} {r r' : V -> List V -> Hp -> VK -> Prop} (h : MtR X id r) (h' : MtR X id r') : MtR X id (fun x xs H Q => r x xs H Q \/ r' x xs H Q) := by
  intro pins s σ H x xs v us Q I rx rs q
  rcases q with q | q
  . exact h pins s σ H x xs v us Q I rx rs q
  . exact h' pins s σ H x xs v us Q I rx rs q
theorem Q0 {r : R2} (hr : IxR X r) (ha : PE X a ta) (hb : PE X b tb) (hs : Hy b) : PE X (.Subscript a b pos) (tOp r ta tb) := by
  intro pins s σ H Q I h
  exact Subscript_ (Pw ha hb I h fun v u s2 x y H2 I2 rx ry q => hr a b pins s2 σ H2 x y v u Q I2 rx ry q (hs _ _))
def Qf (K : PySem.W.Frag) : R2 := fun x y H Q => ∃ p xs i v, x = .ref p /\ y = .int i /\ SqL K H p xs /\ atI xs i = some v /\ Q v H
def P6 (K : PySem.W.Frag) : R2 := fun x y H Q => ∃ p xs i v, x = .ref p /\ y = .int i /\ SqT K H p xs /\ atI xs i = some v /\ Q v H
def PN : R2 := fun x y H Q => ∃ z i c, x = .str z /\ y = .int i /\ z.length ≤ sizeLine /\ atI z.cps.toList i = some c /\ Q (.str ⟨#[c]⟩) H
theorem MY : IxR X (Qf X.K) := by
  intro value slice pins s σ H x y v u Q I rx ry h hs
  obtain ⟨p, xs, i, z, rfl, rfl, hq, he, q⟩ := h
  cases rx
  obtain ⟨t, rfl⟩ := ry
  obtain ⟨its, r, pl, hz⟩ := I.list hq
  obtain ⟨j, h1, h2, h3, h4, h5⟩ := Bb he
  obtain ⟨w, ew, rw'⟩ := r.get h2
  have hl := r.length
  have hn := xK
  have fin : EP X pins σ Q w s := ⟨z, H, I, rw', q⟩
  by_cases h0 : 0 <= i
  . have hj : i.toNat = j := by
      rw [seqIndex_of h0 h5] at h1
      exact Option.some.inj h1
    exact item_listR pl.isList h0 (by omega) (by rw [hj]; simpa using ew) fin hs
  . have hj : (i + (its.toArray.size : Int)).toNat = j := by
      rw [seqIndex_neg (by omega) h4] at h1
      rw [List.size_toArray, <- hl]
      exact Option.some.inj h1
    exact subscriptTail_builtinR (x := w) pl.isList.typeIs slot_list_getitem.lookup
      (wpAny_getItem_list_neg (Q := fun r s' => r = w /\ EP X pins σ Q r s') pl.isList (by omega) (by rw [List.size_toArray] <;> omega) (by omega) (by rw [hj]; simpa using ew) ⟨rfl, fin⟩) hs
theorem O4 : IxR X (P6 X.K) := by
  intro value slice pins s σ H x y v u Q I rx ry h hs
  obtain ⟨p, xs, i, z, rfl, rfl, hq, he, q⟩ := h
  cases rx
  obtain ⟨t, rfl⟩ := ry
  obtain ⟨its, r, pl, hz⟩ := I.tuple hq
  obtain ⟨j, h1, h2, h3, h4, h5⟩ := Bb he
  obtain ⟨w, ew, rw'⟩ := r.get h2
  have hl := r.length
  have hn := xK
  have fin : EP X pins σ Q w s := ⟨z, H, I, rw', q⟩
  exact subscriptTail_builtinR (x := w) pl.typeIs slot_tuple_getitem.lookup
    (getItem_tuple (j := j) (Q := fun r s' => r = w /\ EP X pins σ Q r s') pl (by omega) (by omega) (by rw [List.size_toArray, <- hl]; exact h1) (by simpa using ew) ⟨rfl, fin⟩) hs
theorem PB : IxR X PN := by
  intro value slice pins s σ H x y v u Q I rx ry h hs
  obtain ⟨z, i, c, rfl, rfl, hz, he, q⟩ := h
  obtain ⟨t, rfl⟩ := rx
  obtain ⟨t', rfl⟩ := ry
  obtain ⟨j, h1, h2, h3, h4, h5⟩ := Bb he
  have hl : z.cps.toList.length = z.length := by simp [Str.length]
  rw [hl] at h1 h4 h5
  have hn := xK
  exact tail_any (typeIs_str s z t) slot_str_getitem.lookup (getItem_str (c := c) (by
    have e1 : decide (i < -(2 ^ 63 : Int)) = false := decide_eq_false (by omega)
    have e2 : decide (i ≥ 2 ^ 63) = false := decide_eq_false (by omega)
    rw [e1, e2, Bool.or_false]) (by rw [h1]; simpa using h2) ⟨.str ⟨#[c]⟩, H, I.tok _, ⟨_, rfl⟩, q⟩) hs
def rIx (K : PySem.W.Frag) : R2 := fun x y H Q => Qf K x y H Q \/ P6 K x y H Q \/ PN x y H Q
theorem OY : IxR X (rIx X.K) := MY.or (O4.or PB)
theorem FZ (its : List Value) (n j : Nat) (u : Value) : Obj.mapSeq (·.setIfInBounds j u) { cls := .type "list", data := .seq its.toArray n } = { cls := .type "list", data := .seq (its.set j u).toArray n } := by
  simp [Obj.mapSeq]
theorem Inv.lst {pins : List (Addr × Obj)} {σ : St} {H : Hp} {s : Shared} {p : Addr} {xs : List V} (I : Inv X pins σ H s) (h : H p = some (.lst xs)) :
    ∃ (its : List Value) (n : Nat), Vals xs its /\ s.heap.get? p = some { cls := .type "list", data := .seq its.toArray n } /\ xs.length ≤ sizeLine := by
  obtain ⟨z, its, n, r, e⟩ := I.hok p _ h
  exact ⟨its, n, r, e, z⟩
theorem Inv.OQ {pins : List (Addr × Obj)} {σ : St} {H : Hp} {s : Shared} {p : Addr} {xs ys : List V} {its its' : List Value} {n n' : Nat} {f : Obj -> Obj} (I : Inv X pins σ H s) (h : H p = some (.lst xs))
    (ho : s.heap.get? p = some { cls := .type "list", data := .seq its.toArray n }) (hf : f { cls := .type "list", data := .seq its.toArray n } = { cls := .type "list", data := .seq its'.toArray n' }) (r : Vals ys its') (hz : ys.length <= sizeLine) (t : Nat) :
    Inv X pins σ (upd H p (.lst ys)) { s with heap := s.heap.update p f, toks := t } := by
  have e : (s.heap.update p f).get? p = some { cls := .type "list", data := .seq its'.toArray n' } := by
    rw [Heap.get?_update_self f ho (by rw [hf] <;> rfl), hf]
  refine I.write (x := p) (e := p) (by rw [h]; trivial) (.inl rfl) (fun b u hb q => (Heap.get?_update_other _ _ (Ne.symm hb)).trans q) ⟨_, e⟩ ?_
  exact ⟨hz, its', n', r, e⟩
def Qq : V -> V -> V -> Hp -> (Hp -> Prop) -> Prop := fun o i v H Q => ∃ p xs k j, o = .ref p /\ i = .int k /\ H p = some (.lst xs) /\ ixN xs.length k = some j /\ Q (upd H p (.lst (xs.set j v)))
theorem set_list : QE X Qq := by
  intro pins s σ H o i v ov iv u Q I ro ri rv h
  obtain ⟨p, xs, k, j, rfl, rfl, hp, hj, q⟩ := h
  cases ro
  obtain ⟨t, rfl⟩ := ri
  obtain ⟨its, n, r, ho, hz⟩ := I.lst hp
  obtain ⟨h1, h2, h3, h4⟩ := HR hj
  have hl := r.length
  have hn := xK
  have I' : Inv X pins σ (upd H p (.lst (xs.set j v))) { s with heap := s.heap.update p (Obj.mapSeq (·.setIfInBounds j u)) } :=
    I.OQ hp ho (FZ its n j u) (r.set rv j) (by rw [List.length_set]; exact hz) s.toks
  by_cases h0 : 0 <= k
  . have hk : k.toNat = j := by
      rw [seqIndex_of h0 h4] at h1
      exact Option.some.inj h1
    exact PySem.W.ki_setAt ho h0 (by omega) (by rw [List.size_toArray, <- hl]; exact h4) (by rw [hk]; exact ⟨_, I', q⟩)
  . have hk : (k + (its.toArray.size : Int)).toNat = j := by
      rw [seqIndex_neg (by omega) h3] at h1
      rw [List.size_toArray, <- hl]
      exact Option.some.inj h1
    exact PySem.W.ki_setBack ho (by omega) (by rw [List.size_toArray, <- hl]; exact h3) (by omega) (by rw [hk]; exact ⟨_, I', q⟩)
theorem Cr (lo hi : Option Int) (n : Nat) : (sliceBounds lo hi none n).1 = ((HT.sIx n 0 lo : Nat) : Int) /\ (sliceBounds lo hi none n).2.1 = ((HT.sIx n n hi : Nat) : Int) /\ (sliceBounds lo hi none n).2.2 = 1 := by
  refine ⟨?_, ?_, rfl⟩
  . cases lo with
    | none => simp [sliceBounds, HT.sIx]
    | some i =>
      simp only [sliceBounds, HT.sIx, Option.getD_none, show (1 : Int) > 0 by decide, if_true]
      by_cases h : i < 0
      . simp only [h, if_true] <;> omega
      . simp only [h, if_false] <;> omega
  . cases hi with
    | none => simp [sliceBounds, HT.sIx]
    | some i =>
      simp only [sliceBounds, HT.sIx, Option.getD_none, show (1 : Int) > 0 by decide, if_true]
      by_cases h : i < 0
      . simp only [h, if_true] <;> omega
      . simp only [h, if_false] <;> omega
theorem zr (its : List Value) (lo hi : Option Int) : slicePick its.toArray lo hi none = ((its.drop (HT.sIx its.length 0 lo)).take (HT.sIx its.length its.length hi - HT.sIx its.length 0 lo)).toArray := by
  obtain ⟨h1, h2, h3⟩ := Cr lo hi its.toArray.size
  unfold slicePick
  rw [h1, h2, h3]
  simp only [sliceRange_one, pick_run, List.size_toArray] <;> rfl
def RZ (K : PySem.W.Frag) : V -> Option Int -> Option Int -> Hp -> VK -> Prop := fun x lo hi H Q => ∃ a xs, x = .ref a /\ SqL K H a xs /\ ∀ p, H p = none -> Q (.ref p) (upd H p (.lst (BM xs lo hi)))
theorem Ms : SlR X (RZ X.K) := by
  intro pins s σ H x v vl vu lo hi sl Q I rx hs pl pu h
  obtain ⟨a, xs, rfl, hx, q⟩ := h
  cases rx
  obtain ⟨its, r, ht, hz⟩ := I.list hx
  have hlen := r.length
  refine ⟨"list", _, slot_list_getitem.lookup, ht.isList.typeIs, ?_⟩
  refine wpAny_getItem_list_slice ht.isList hs pl pu .none (by simp) ?_ (by rw [List.size_toArray] <;> omega)
  rw [zr, <- hlen]
  refine ⟨.ref s.heap.objs.size, _, I.laid (t' := s.toks) (o := .lst (BM xs lo hi)) (fun b ob q => Heap.get?_push_of_some _ q) (Nat.le_refl _) ?_, rfl, q _ (I.hok.fresh (Nat.le_refl _))⟩
  exact ⟨Nat.le_trans (wo xs lo hi) hz, _, 0, (r.drop (HT.sIx xs.length 0 lo)).take (HT.sIx xs.length xs.length hi - HT.sIx xs.length 0 lo), Heap.get?_push_size _ rfl⟩
theorem Cf : gZ X (.builtin "len") (fun xs H Q => ∃ p ys, xs = [.ref p] /\ (SqL X.K H p ys \/ SqT X.K H p ys) /\ Q (.int ys.length) H) := by
  intro pins s σ H xs us Q I r h
  obtain ⟨p, ys, rfl, hq, q⟩ := h
  obtain ⟨u, rfl, rx⟩ := vals1 r
  cases rx
  have hn := xK
  rcases hq with hq | hq
  . obtain ⟨its, r', pl, hz⟩ := I.list hq
    have hlen := r'.length
    exact Calls.call_len_list pl.isList (by simp only [List.size_toArray] <;> omega) ⟨.int ys.length, H, I.tok _, ⟨s.toks + 1, by rw [List.size_toArray, hlen]⟩, q⟩
  . obtain ⟨its, r', pl, hz⟩ := I.tuple hq
    have hlen := r'.length
    exact len_tuple pl (by simp only [List.size_toArray] <;> omega) ⟨.int ys.length, H, I.tok _, ⟨s.toks + 1, by rw [List.size_toArray, hlen]⟩, q⟩
theorem gZ.or {f : Value} {r r' : List V -> Hp -> VK -> Prop} (h : gZ X f r) (h' : gZ X f r') : gZ X f (fun xs H Q => r xs H Q \/ r' xs H Q) := by
  intro pins s σ H xs us Q I rs q
  rcases q with q | q
  . exact h pins s σ H xs us Q I rs q
  . exact h' pins s σ H xs us Q I rs q
theorem Bt : gZ X (.type "list") (fun xs H Q => ∃ p ys, xs = [.ref p] /\ (SqL X.K H p ys \/ SqT X.K H p ys) /\ ∀ l, H l = none -> Q (.ref l) (upd H l (.lst ys))) := by
  intro pins s σ H xs us Q I r h
  obtain ⟨p, ys, rfl, hq, q⟩ := h
  obtain ⟨u, rfl, rx⟩ := vals1 r
  cases rx
  have fin : ∀ (its : List Value), Vals ys its -> ys.length ≤ sizeLine -> ∀ (h' : Heap) (c' : Nat), (∀ b o', s.heap.get? b = some o' -> h'.get? b = some o') ->
      h'.get? s.heap.objs.size = some { cls := .type "list", dict := none, data := .seq its.toArray c', slots := #[] } -> EP X pins σ Q (.ref s.heap.objs.size) { s with heap := h' } := fun its r' hz h' c' kp e =>
    ⟨.ref s.heap.objs.size, _, I.laid (t' := s.toks) kp (Nat.le_refl _) (show kQ X.prog X.w _ h' _ (.lst ys) from ⟨hz, its, c', r', e⟩), rfl, q _ (I.hok.fresh (Nat.le_refl _))⟩
  rcases hq with hq | hq
  . obtain ⟨its, r', pl, hz⟩ := I.list hq
    have hlen := r'.length
    obtain ⟨o, ho, hc, n, hd⟩ := pl.isList
    exact call_list_seq p (.inl rfl) ho hc hd (fun h' c' kp e => fin its r' hz h' c' kp e) (by simp only [List.size_toArray] <;> omega)
  . obtain ⟨its, r', pl, hz⟩ := I.tuple hq
    have hlen := r'.length
    obtain ⟨o, ho, hc, n, hd⟩ := pl
    exact call_list_seq p (.inr rfl) ho hc hd (fun h' c' kp e => fin its r' hz h' c' kp e) (by simp only [List.size_toArray] <;> omega)
theorem zo : gZ X (.type "tuple") (fun xs H Q => ∃ p ys, xs = [.ref p] /\ ((SqL X.K H p ys /\ ∀ l, H l = none -> Q (.ref l) (upd H l (.tup ys))) \/ (SqT X.K H p ys /\ Q (.ref p) H))) := by
  intro pins s σ H xs us Q I r h
  obtain ⟨p, ys, rfl, h⟩ := h
  obtain ⟨u, rfl, rx⟩ := vals1 r
  cases rx
  rcases h with ⟨hq, q⟩ | ⟨hq, q⟩
  . obtain ⟨its, r', pl, hz⟩ := I.list hq
    have hlen := r'.length
    refine call_tuple_list pl.isList (fun h' kp => ?_) (by simp only [List.size_toArray] <;> omega)
    have I1 : Inv X pins σ H { s with heap := h' } := I.kept (t' := s.toks) kp
    have I2 : Inv X pins σ (upd H h'.objs.size (.tup ys)) { s with heap := h'.push { cls := .type "tuple", data := .seq its.toArray } } :=
      I1.laid (t' := s.toks) (fun b o e => Heap.get?_push_of_some _ e) (Nat.le_refl _) (show kQ X.prog X.w _ _ _ (.tup ys) from ⟨hz, its, r', IsTup.new _ _⟩)
    exact ⟨.ref h'.objs.size, _, I2, rfl, q _ (I1.hok.fresh (Nat.le_refl _))⟩
  . obtain ⟨its, r', pl, hz⟩ := I.tuple hq
    exact call_tuple_same pl ⟨.ref p, H, I, rfl, q⟩
def tyV (K : PySem.W.Frag) (T : String) (x : V) (H : Hp) : Prop := match x with
  | .str _ => T = "str"
  | .int _ => T = "int"
  | .ref p => (T = "list" /\ ∃ xs, SqL K H p xs) \/ (T = "tuple" /\ ∃ o, K.lookup p = some o /\ o.cls = .type "tuple" /\ o.dict = none) \/
      (T = "dict" /\ ((∃ kvs, H p = some (.dK kvs)) \/ ∃ kvs, H p = some (.dT kvs))) \/ (T = "set" /\ ∃ S n, H p = some (.set S n))
  | _ => False
theorem NF {pins : List (Addr × Obj)} {σ : St} {H : Hp} {s : Shared} {T : String} {x : V} {v : Value} (I : Inv X pins σ H s) (r : RelV x v) (ty : tyV X.K T x H) :
    s.TypeIs v T /\ ∀ a, v = .ref a -> ∃ ob, s.heap.get? a = some ob /\ ob.dict = none := by
  cases x with
  | str z =>
    obtain ⟨t, rfl⟩ := r
    cases (show T = "str" from ty)
    exact ⟨typeIs_str s z t, fun _ e => nomatch e⟩
  | int i =>
    obtain ⟨t, rfl⟩ := r
    cases (show T = "int" from ty)
    exact ⟨typeIs_int s i t, fun _ e => nomatch e⟩
  | ref p =>
    cases r
    rcases ty with ⟨rfl, xs, hq⟩ | ⟨rfl, o, hk, hc, hd⟩ | ⟨rfl, hk⟩ | ⟨rfl, S, n, hk⟩
    . obtain ⟨its, _, pl, _⟩ := I.list hq
      refine ⟨pl.isList.typeIs, fun a e => ?_⟩
      cases e
      obtain ⟨o, n, e, c, hd, _⟩ := pl
      exact ⟨o, e, hd⟩
    . refine ⟨⟨o, I.kIn p o hk, hc⟩, fun a e => ?_⟩
      cases e
      exact ⟨o, I.kIn _ o hk, hd⟩
    . have z : ∃ o, s.heap.get? p = some o /\ o.ExactDict := by
        rcases hk with ⟨kvs, hk⟩ | ⟨kvs, hk⟩
        . obtain ⟨_, _, _, _, o, _, _, e, ex, _⟩ := I.hok p _ hk
          exact ⟨o, e, ex⟩
        . obtain ⟨_, _, _, _, o, _, _, e, ex, _⟩ := I.hok p _ hk
          exact ⟨o, e, ex⟩
      obtain ⟨o, e, ex⟩ := z
      refine ⟨⟨o, e, ex.1⟩, fun a e2 => ?_⟩
      cases e2
      exact ⟨o, e, ex.2.1⟩
    . obtain ⟨o, _, _, _, e, ex, _⟩ := I.hok p _ hk
      refine ⟨⟨o, e, ex.1⟩, fun a e2 => ?_⟩
      cases e2
      exact ⟨o, e, ex.2.1⟩
  | _ => exact False.elim ty
def tBM (K : PySem.W.Frag) (T : String) (r : V -> List V -> Hp -> VK -> Prop) (to : TE) (t : TA) : TE := fun σ H Q => to σ H fun x H1 => tyV K T x H1 /\ t σ H1 fun xs H2 => r x xs H2 Q
variable {o e : Expr} {es : List Expr} {to : TE} {t : TA} {name : Str} {apos cpos : Pos} {T id : String} {r : V -> List V -> Hp -> VK -> Prop}
theorem QH (pa : PlainAttrs T) (slot : Slot T name id) (hty : typeOf (.builtin id) = pure (.type "method_descriptor")) (hm : MtR X id r) (ho : PE X o to) (ha : PA X (e :: es) t)
    (hbase : attributeBase o name X.env (eval o X.env) = eval o X.env := by rfl)
    (hfew : ((backTo cpos (starEach (e :: es) X.env)).all (fun x => !x.1) && (backToKw cpos (keywordEach [] X.env)).all (fun x => x.1.isSome)
      && decide ((e :: es).length + ([] : List Keyword).length + (if ([] : List Keyword).isEmpty then 0 else 1) < 30)) = true := by rfl)
    (hline : (apos.endLine == cpos.line) = true := by rfl) (hs : starEach (e :: es) X.env = (false, eval e X.env) :: starEach es X.env := by rfl) (hplain : (backTo cpos (starEach es X.env)).any (·.1) = false := by rfl) :
    PE X (.Call (.Attribute o name apos) (e :: es) [] cpos) (tBM X.K T r to t) := by
  intro pins s σ H Q I h
  refine wpAny_Call_method_late hbase hfew hline rfl (thn (ho pins s σ H _ I h) fun v s1 ⟨x, H1, I1, r1, ty, q1⟩ => ?_)
  obtain ⟨h1, h2⟩ := NF I1 r1 ty
  refine ⟨T, id, pa, slot, hty, h1, h2, ?_⟩
  have hA := ha cpos pins s1 σ H1 _ I1 q1
  rw [hs] at hA ⊢
  refine Calls.callWith_builtin (by show (false || (backTo cpos (starEach es X.env)).any (·.1)) = false; rw [hplain] <;> rfl) (Calls.evalArgs_plain ?_)
  exact thn hA fun us s2 ⟨vs, H2, I2, r2, q2⟩ => hm pins s2 σ H2 x vs v us Q I2 r1 r2 q2
end
end L2
namespace L2
open PySem PySem.Spec PyProof.Rows
def MtM (X : Cx) (id : String) (r : V -> List V -> Hp -> VK -> Prop) : Prop :=
  ∀ (pins : List (Addr × Obj)) (s : Shared) (σ : St) (H : Hp) (x : V) (xs : List V) (v : Value) (us : List Value) (Q : VK), Inv X pins σ H s -> RelV x v -> Vals xs us -> r x xs H Q ->
    wpAny (model X.prog X.w) X.A (call (.builtin id) (v :: us)) (EP X pins σ Q) X.xe s
theorem Vals.one : ∀ {x : V} {us : List Value}, Vals [x] us -> ∃ u, us = [u] /\ RelV x u
  | _, _, .cons r .nil => ⟨_, rfl, r⟩
theorem Vals.two : ∀ {x y : V} {us : List Value}, Vals [x, y] us -> ∃ u v, us = [u, v] /\ RelV x u /\ RelV y v
  | _, _, _, .cons r (.cons q .nil) => ⟨_, _, rfl, r, q⟩
theorem Vals.eraseIdx : ∀ {xs : List V} {us : List Value} (i : Nat), Vals xs us -> Vals (xs.eraseIdx i) (us.eraseIdx i)
  | _, _, _, .nil => .nil
  | _, _, 0, .cons _ t => t
  | _, _, i + 1, .cons r t => .cons r (Vals.eraseIdx i t)
theorem Vals.reverse {xs : List V} {us : List Value} (h : Vals xs us) : Vals xs.reverse us.reverse := by
  induction h with
  | nil => exact .nil
  | cons r t ih => rw [List.reverse_cons, List.reverse_cons]; exact Vals.append ih (.cons r .nil)
section
variable {X : Cx} {pins : List (Addr × Obj)} {σ : St} {H : Hp} {s : Shared} {l b : Addr} {xs ys zs : List V}
theorem Inv.PX {its its' : List Value} {n : Nat} {f : Array Value -> Array Value} {t' : Nat} (I : Inv X pins σ H s) (hH : H l = some (.lst xs))
    (e : s.heap.get? l = some { cls := .type "list", data := .seq its.toArray n }) (hf : f its.toArray = its'.toArray) (hv : Vals ys its') (hz : ys.length <= sizeLine) :
    Inv X pins σ (upd H l (.lst ys)) { s with heap := s.heap.update l (Obj.mapSeq f), toks := t' } := by
  have q := PySem.IsL.update e f
  rw [hf] at q
  refine I.write (x := l) (e := l) (by rw [hH]; exact trivial) (.inl rfl) (fun b' u hb hu => (Heap.get?_update_other s.heap (Obj.mapSeq f) (Ne.symm hb)).trans hu) ⟨_, q⟩ ?_
  exact ⟨hz, its', _, hv, q⟩
theorem Inv.Rz {its : List Value} {t' : Nat} (I : Inv X pins σ H s) (hv : Vals ys its) (hz : ys.length <= sizeLine) :
    Inv X pins σ (upd H s.heap.objs.size (.lst ys)) { s with heap := s.heap.push { cls := .type "list", data := .seq its.toArray }, toks := t' } :=
  I.laid (fun _ _ q => Heap.get?_push_of_some _ q) (Nat.le_refl _) ⟨hz, its, 0, hv, Heap.get?_push_size _ rfl⟩
theorem Inv.fresh (I : Inv X pins σ H s) : H s.heap.objs.size = none := I.hok.fresh (Nat.le_refl _)
theorem Inv.J7 (I : Inv X pins σ H s) (hH : H l = some (.lst xs)) : xs.length ≤ sizeLine /\ ∃ (its : List Value) (n : Nat), Vals xs its /\ xs.length = its.length /\ s.heap.get? l = some { cls := .type "list", data := .seq its.toArray n } := by
  obtain ⟨z, its, n, r, e⟩ := I.hok l _ hH
  exact ⟨z, its, n, r, r.length, e⟩
theorem Lk {n : Nat} (h : n <= sizeLine) : Builtin.List.listTooLong n = false := by
  unfold Builtin.List.listTooLong
  exact decide_eq_false (by omega)
end
section
variable {X : Cx}
def MX : V -> List V -> Hp -> VK -> Prop := fun x vs H Q => ∃ l xs y, x = .ref l /\ vs = [y] /\ H l = some (.lst xs) /\ xs.length < sizeLine /\ Q .non (upd H l (.lst (xs ++ [y])))
theorem qV : MtM X "list.append" MX := by
  intro pins s σ H x vs v us Q I rx rv h
  obtain ⟨l, xs, y, rfl, rfl, hH, hz, q⟩ := h
  cases rx
  obtain ⟨u, rfl, ru⟩ := rv.one
  obtain ⟨z, its, n, r, hl, e⟩ := I.J7 hH
  refine call_meets F.slot_list_append ⟨_, e, rfl⟩ F.entry_list_append (F.args_list_append_2 _ _) (PySem.list_append l its.toArray n u (by rw [List.size_toArray]; omega)) ⟨e, ?_⟩
  refine ⟨.non, _, I.PX (its' := its ++ [u]) hH e (by simp) (r.append (.cons ru .nil)) ?_, rfl, q⟩
  rw [List.length_append, List.length_singleton]
  omega
def MI : V -> List V -> Hp -> VK -> Prop := fun x vs H Q => ∃ l b xs zs, x = .ref l /\ vs = [.ref b] /\ H l = some (.lst xs) /\ H b = some (.lst zs) /\ xs.length + zs.length ≤ sizeLine /\ Q .non (upd H l (.lst (xs ++ zs)))
theorem PD : MtM X "list.extend" MI := by
  intro pins s σ H x vs v us Q I rx rv h
  obtain ⟨l, b, xs, zs, rfl, rfl, hH, hB, hz, q⟩ := h
  cases rx
  obtain ⟨u, rfl, ru⟩ := rv.one
  cases ru
  obtain ⟨z, its, n, r, hl, e⟩ := I.J7 hH
  obtain ⟨z2, its2, n2, r2, hl2, e2⟩ := I.J7 hB
  have hsz : its.toArray.size + its2.toArray.size <= sizeLine := by rw [List.size_toArray, List.size_toArray]; omega
  have hlong : ¬ (!its.toArray.isEmpty && Builtin.List.listTooLong (its.toArray.size + its2.toArray.size)) = true := by
    rw [Lk hsz, Bool.and_false]
    exact Bool.false_ne_true
  refine call_meets F.slot_list_extend ⟨_, e, rfl⟩ F.entry_list_extend (F.args_list_extend_2 _ _)
    (AutoSeq1.list_extend_list_list_0 l its.toArray n b its2.toArray n2 hlong (by rw [List.size_toArray]; omega) (by omega)) ⟨e, e2, ?_⟩
  refine ⟨.non, _, I.PX (its' := its ++ its2) hH e (by simp) (r.append r2) ?_, rfl, q⟩
  rw [List.length_append]
  omega
def NL : R2 := fun x y H Q => ∃ l b xs zs, x = .ref l /\ y = .ref b /\ H l = some (.lst xs) /\ H b = some (.lst zs) /\ xs.length + zs.length ≤ sizeLine /\ ∀ p, H p = none -> Q (.ref p) (upd H p (.lst (xs ++ zs)))
theorem O9 : OpR X (binaryOp .Add) NL := by
  intro pins s σ H x y v u Q I rx ry h
  obtain ⟨l, b, xs, zs, rfl, rfl, hH, hB, hz, q⟩ := h
  cases rx
  cases ry
  obtain ⟨z, its, n, r, hl, e⟩ := I.J7 hH
  obtain ⟨z2, its2, n2, r2, hl2, e2⟩ := I.J7 hB
  refine PySem.P.add_list e e2 ?_ (by rw [List.size_toArray, List.size_toArray]; omega)
  have ea : its.toArray ++ its2.toArray = (its ++ its2).toArray := by simp
  rw [ea]
  exact ⟨.ref _, _, I.Rz (t' := s.toks) (r.append r2) (by rw [List.length_append]; omega), rfl, q _ I.fresh⟩
end
section
variable {prog : Program} {w : World} {A : Around} {E : Value -> Shared -> Prop} {s : Shared}
end
section
variable {X : Cx}
end
end L2
namespace Att
open PySem PySem.W PySem.Calls PyProof.Rows
theorem wt {P : Params} {h : Heap} : ∀ (ns : List Int) (vs : List Value), WellAll P h vs (ns.map WData.int) -> IntsAre vs ns := by
  intro ns
  induction ns with
  | nil =>
    intro vs w
    rw [List.map_nil] at w
    cases w
    exact .nil
  | cons n ns ih =>
    intro vs w
    rw [List.map_cons] at w
    cases w with
    | cons a b =>
      cases a
      exact .cons _ _ (ih _ b)
theorem Jw {l : OpenLaw} {n : Nat} (hn : l.most = some n) {P : Params} {h : Heap} {args : List WData} {vals : List Value}
    (hpre : l.row.toRowW.claim.pre args = true) (hwl : WellAll P h vals args) :
    ∃ a vs ns, vals = [Value.ref a] /\ args = [WData.list (ns.map WData.int)] /\ h.get? a = some { cls := .type "list", data := .seq vs.toArray } /\ IntsAre vs ns /\ ns.length ≤ n := by
  have hsh : WShape.hasAll [] args [.list .int] = true := (pre_splitW hpre).1
  have hc : l.pre.holds [] { args := args } = true := (pre_splitW hpre).2
  obtain ⟨d, r, rfl, h1, h2⟩ := hasAllW_cons hsh
  obtain rfl := hasAllW_nil h2
  obtain ⟨xs, rfl, h3⟩ := hasW_list h1
  obtain ⟨ns, rfl⟩ := items_int h3
  have hlen : ns.length <= n := by
    unfold OpenLaw.pre at hc
    have h4 : (WTm.not (.lt (.lit (.int (n : Int))) (.len (.arg 0)))).holds [] { args := [.list (ns.map .int)] } = true := by
      have h4 := (holds_andW hc).1
      rw [hn] at h4
      exact h4
    have h5 := condW_of h4 (w_not (w_lt w_lit (w_len_list (w_arg rfl))))
    rw [List.length_map] at h5
    refine Nat.le_of_not_lt fun q => ?_
    have q' : (n : Int) < ((ns.length : Nat) : Int) := by omega
    first
      | (rw [decide_eq_true q'] at h5; exact absurd h5 (by decide))
      | (simp at h5; omega)
  cases hwl with
  | cons w1 w2 =>
    cases w2
    cases w1 with
    | list ho hall => exact ⟨_, _, ns, rfl, rfl, ho, wt ns _ hall, hlen⟩
theorem IC (l : OpenLaw) (args : List WData) : l.row.toRowW.claim.post args (.bool true) args = true :=
  postW_of (r := l.row.toRowW) (X := (true == true))
    (show WShape.has [] (.bool true) .bool = true by first | rfl | decide | simp [WShape.has, WShape.arms, WShape.armsAll])
    (show (WTm.eq .res (.lit (.bool true))).value [] { args := args, res := some (.bool true), after := args } = some (.bool (true == true)) from w_eq_bool (w_res rfl) w_lit) rfl
theorem DC {l : OpenLaw} {n : Nat} {q : Program} {loose : List Str} {XP : (Str -> Option Value) -> Heap -> Prop} {YP : World -> Heap -> Prop} {d : DefRec}
    (hn : l.most = some n) (hdf : d.params.defaults = [])
    (call : ∀ (w : World) (s₀ s₁ : Shared) (mg mb : Str -> Option Value) (fa : Addr) (o : Obj) (pm cd doc : Value) (a : Addr) (vs : List Value) (ns : List Int),
      Ground q loose [] XP w s₀ mg mb s₁.heap -> YP w s₁.heap ->
      s₁.heap.get? fa = some o -> o.data = .func (docDef d.name d.params d.body d.scope pm cd doc) -> s₁.heap.CodeRec cd d.name -> mg d.name = some (.ref fa) ->
      s₁.heap.get? a = some { cls := .type "list", data := .seq vs.toArray } -> IntsAre vs ns -> ns.length <= n -> s₁.gens = #[] ->
      codeAny (model l.prog w) callerA (.call (.ref fa) ⟨[.ref a], []⟩) (fun r s' => r = .ok (.ret (.bool true)) /\ OldK s₁.heap s'.heap /\ s'.os = s₁.os /\ AllBare s'.gens) s₁) :
    WalkO q loose XP YP l.row.toRowW d [] (fun f vs => PySem.call f vs) := by
  intro w s₀ s₁ mg mb G Y fa o pm cd doc dV kV ho hd hcd hD hmg hg args vals as hpre hlay hrd hwl hlo
  obtain rfl : dV = .none := Dflts.none hD hdf
  obtain rfl : kV = .none := Dflts.noKw hD
  obtain ⟨a, vs, ns, rfl, rfl, hobj, hints, hlen⟩ := Jw hn hpre hwl
  refine enter_call (codeAny_mono (call w s₀ s₁ mg mb fa o pm cd doc a vs ns G Y ho (fd_plain hd) hcd hmg hobj hints hlen hg) fun r s' hq => ?_)
  obtain ⟨rfl, h2, h3, h4⟩ := hq
  exact ⟨.inl ⟨.bool true, .bool true, [], rfl, fun _ => rfl, .bool true, IC l _, fun _ => ⟨List.Pairwise.nil, fun _ hm => (nomatch hm)⟩⟩, h2, h3, h4⟩
section
variable {prog : Program} {w : World} {A : Around} {E : Value -> Shared -> Prop} {s : Shared} {K : Frag}
def ledger (h : Heap) (L d : Addr) : List (Addr × Obj) := (List.range h.objs.size).filterMap fun a => if a = L \/ a = d then none else (h.get? a).map fun o => (a, o)
end
end Att
namespace L2
open PySem PySem.Spec PyProof.Rows
theorem Ao : ∀ {vs : List Value} {ns : List Int}, IntsAre vs ns -> Vals (ns.map V.int) vs
  | _, _, .nil => .nil
  | _, _, .cons n t h => .cons ⟨t, rfl⟩ (Ao h)
end L2
namespace L2
open PySem PySem.Spec PyProof.Rows
end L2
namespace L2
open PySem PySem.Spec PyProof.Rows
abbrev CX0 : CXT := fun _ _ _ _ _ _ => False
abbrev E0 : XK := fun _ _ _ => False
theorem PF {X : Cx} : Passes CX0 X E0 := fun _ _ _ _ _ _ _ h => h.elim
structure Fun (K : PySem.W.Frag) (x qual : Str) (st : Stmt) (f : Addr) (fd : FuncData) : Prop where
  ex : ∃ (oc : Value) (od : Option Addr) (kV doc pm : Value) (an : Option Addr) (cdv ct : Value) (osl : Array (Option Value)),
    fd = PySem.W.fnOf x qual (qZ st) (gw st) (aD st) .none kV doc pm an cdv ct /\ K.lookup f = some ⟨oc, od, .func fd, osl⟩ /\ PySem.W.codeIn K cdv qual = true
  kp : PySem.W.keepIn K (.ref f) = true
section
variable {P : Program} {w : World} {K : PySem.W.Frag} {mg : Str -> Option Value} {base : Heap}
theorem Fun.ok {x qual : Str} {st : Stmt} {f : Addr} {fd : FuncData} {N ps : List Str} {k : Nat} {sp : Sp} (F : Fun K x qual st f fd) (S : aP N ps (aD st)) (len : ∀ vs H Q E, sp vs H Q E -> vs.length = ps.length)
    (hbody : ∀ (cdv : Value) (A : Around) (outer : List Env) (s : Shared) (H : Hp) (vs : List V) (Q : VK) (E : XK), ir k (A.deeper (envOfC qual (aD st) s.heap.objs.size f cdv)) -> sp vs H Q E ->
      ∃ t, PSs (mn CX0 P w K mg base N qual (aD st) f cdv A outer s H E).nox (gw st) t /\ t { nx := fun _ H' => Q .non H', rt := Q } (start N vs) H) : bL P w K mg base CX0 (k + 1) f fd ps sp := by
  obtain ⟨oc, od, kV, doc, pm, an, cdv, ct, osl, rfl, lk, hcd⟩ := F.ex
  refine JZ lk hcd S len fun A outer s H vs Q E hr hsp => ?_
  obtain ⟨t, h, q⟩ := hbody cdv A outer s H vs Q E hr hsp
  exact ⟨t, h.nox, q⟩
theorem Fun.binds {x qual : Str} {st : Stmt} {f : Addr} {fd : FuncData} {ps : List Str} (F : Fun K x qual st f fd)
    (h : ∀ (kV doc pm : Value) (an : Option Addr) (cdv ct : Value) (us : List Value), us.length = ps.length -> bindArgs (PySem.W.fnOf x qual (qZ st) (gw st) (aD st) .none kV doc pm an cdv ct) ⟨us, []⟩ = pure (ps.zip us)) : Binds K fd ps [] := by
  obtain ⟨oc, od, kV, doc, pm, an, cdv, ct, osl, rfl, lk, hcd⟩ := F.ex
  exact .all (h kV doc pm an cdv ct)
theorem bj {x qual : Str} {st : Stmt} {f : Addr} {oc : Value} {od an : Option Addr} {osl : Array (Option Value)} {kV doc pm cdv ct : Value} (l : K.lookup f = some ⟨oc, od, .func (PySem.W.fnOf x qual (qZ st) (gw st) (aD st) .none kV doc pm an cdv ct), osl⟩)
    (c : PySem.W.codeIn K cdv qual = true) (k : PySem.W.keepIn K (.ref f) = true) : Fun K x qual st f (PySem.W.fnOf x qual (qZ st) (gw st) (aD st) .none kV doc pm an cdv ct) := ⟨⟨oc, od, kV, doc, pm, an, cdv, ct, osl, rfl, l, c⟩, k⟩
end
theorem eV {n : Nat} (h : n <= 1000) : n < sizeLine := Nat.lt_of_le_of_lt h (by decide)
section
variable {X : Cx}
end
theorem BD {A B : Prop} (h : B) : if false = true then A else B := by
  rw [if_neg Bool.false_ne_true]
  exact h
theorem zW {A B : Prop} (h : A) : if true = true then A else B := by
  rw [if_pos rfl]
  exact h
def qo (H H' : Hp) : Prop := ∀ b o, H b = some o -> H' b = some o
theorem qo.refl (H : Hp) : qo H H := fun _ _ h => h
theorem qo.trans {H H1 H2 : Hp} (a : qo H H1) (b : qo H1 H2) : qo H H2 := fun c o h => b c o (a c o h)
theorem qo.free {H H' : Hp} (e : qo H H') {l : Addr} (h : H' l = Option.none) : H l = Option.none := by
  cases q : H l with
  | none => rfl
  | some o =>
    rw [e l o q] at h
    cases h
end L2
set_option linter.all false
set_option maxRecDepth 100000
set_option maxHeartbeats 4000000
namespace NM
@[irreducible] def Sz (n : Nat) (i : Int) : Prop := i.natAbs < 2 ^ n
theorem Sz.mono {n m : Nat} {i : Int} (h : Sz n i) (l : n <= m) : Sz m i := by unfold Sz at *; exact Nat.lt_of_lt_of_le h (Nat.pow_le_pow_right (by decide) l)
theorem Sz.mul {n m : Nat} {i j : Int} (h : Sz n i) (g : Sz m j) : Sz (n + m) (i * j) := by
  unfold Sz at *
  rw [Int.natAbs_mul, Nat.pow_add]
  exact Nat.mul_lt_mul'' h g
theorem Sz.add {n : Nat} {i j : Int} (h : Sz n i) (g : Sz n j) : Sz (n + 1) (i + j) := by
  unfold Sz at *
  have := Int.natAbs_add_le i j
  rw [Nat.pow_succ]
  omega
theorem Sz.neg {n : Nat} {i : Int} (h : Sz n i) : Sz n (-i) := by unfold Sz at *; rw [Int.natAbs_neg]; exact h
theorem Sz.sub {n : Nat} {i j : Int} (h : Sz n i) (g : Sz n j) : Sz (n + 1) (i - j) := by rw [Int.sub_eq_add_neg]; exact h.add g.neg
theorem Sz.le {n : Nat} {i j : Int} (h : Sz n i) (g : j.natAbs <= i.natAbs) : Sz n j := by unfold Sz at *; exact Nat.lt_of_le_of_lt g h
theorem Sz.of {n : Nat} {i : Int} (h : i.natAbs < 2 ^ n) : Sz n i := by unfold Sz; exact h
theorem Sz.lt {n : Nat} {i : Int} (h : Sz n i) : i.natAbs < 2 ^ n := by unfold Sz at h; exact h
def g3 (a b c : Int) : Nat := Int.gcd (Int.gcd a b : Nat) c
theorem Mb (a b c : Int) : Int.gcd (Int.gcd c a : Nat) b = g3 a b c := by
  unfold g3
  simp only [Int.gcd, Int.natAbs_natCast]
  rw [Nat.gcd_assoc, Nat.gcd_comm]
theorem LG (a b c : Int) : ((g3 a b c : Nat) : Int) ∣ a /\ ((g3 a b c : Nat) : Int) ∣ b /\ ((g3 a b c : Nat) : Int) ∣ c := by
  have h : ((g3 a b c : Nat) : Int) ∣ ((Int.gcd a b : Nat) : Int) := Int.gcd_dvd_left ..
  exact ⟨Int.dvd_trans h (Int.gcd_dvd_left ..), Int.dvd_trans h (Int.gcd_dvd_right ..), Int.gcd_dvd_right ..⟩
theorem O2 {a b c : Int} {k : Nat} (h1 : (k : Int) ∣ a) (h2 : (k : Int) ∣ b) (h3 : (k : Int) ∣ c) : k ∣ g3 a b c := by
  unfold g3
  exact Int.dvd_gcd (Int.natCast_dvd_natCast.mpr (Int.dvd_gcd h1 h2)) h3
theorem BV {a b c : Int} (h : c ≠ 0) : 0 < g3 a b c := by
  unfold g3
  exact Int.gcd_pos_of_ne_zero_right _ h
theorem FD (a b c k : Int) : g3 (a * k) (b * k) (c * k) = g3 a b c * k.natAbs := by
  unfold g3
  simp only [Int.gcd, Int.natAbs_natCast, Int.natAbs_mul, Nat.gcd_mul_right]
theorem EO (a b c : Int) : g3 a (-b) c = g3 a b c := by
  unfold g3
  rw [Int.gcd_neg]
theorem JP (a b c : Int) : g3 (-a) b c = g3 a b c := by
  unfold g3
  rw [Int.neg_gcd]
structure N3 where
  a : Int
  b : Int
  c : Int
deriving DecidableEq
theorem N3.ext' {x y : N3} (h1 : x.a = y.a) (h2 : x.b = y.b) (h3 : x.c = y.c) : x = y := by cases x; cases y; simp_all
structure Ok (x : N3) : Prop where
  c : 0 < x.c
  g : g3 x.a x.b x.c = 1
def dv (a b c : Int) : Int := if c < 0 then -(g3 a b c : Nat) else (g3 a b c : Nat)
def low (a b c : Int) : N3 := ⟨a.fdiv (dv a b c), b.fdiv (dv a b c), c.fdiv (dv a b c)⟩
theorem AL {a k q : Int} (hk : k ≠ 0) (h : a = k * q) : a.fdiv k = q := by
  subst h
  exact Int.mul_fdiv_cancel_left q hk
theorem Qo {a b c : Int} (h : c ≠ 0) : dv a b c ≠ 0 := by
  have := BV (a := a) (b := b) h
  unfold dv
  split <;> omega
theorem Ow (a b c : Int) : dv a b c ∣ a /\ dv a b c ∣ b /\ dv a b c ∣ c := by
  obtain ⟨h1, h2, h3⟩ := LG a b c
  unfold dv
  split
  . exact ⟨Int.neg_dvd.mpr h1, Int.neg_dvd.mpr h2, Int.neg_dvd.mpr h3⟩
  . exact ⟨h1, h2, h3⟩
theorem kM (a b : Int) {c : Int} (h : c ≠ 0) : ∃ k : Int, k ≠ 0 /\ (0 < k ↔ 0 < c) /\ a = k * (low a b c).a /\ b = k * (low a b c).b /\ c = k * (low a b c).c /\ Ok (low a b c) := by
  have hk := Qo (a := a) (b := b) h
  obtain ⟨⟨p, hp⟩, ⟨q, hq⟩, ⟨r, hr⟩⟩ := Ow a b c
  have ep : (low a b c).a = p := AL hk hp
  have eq : (low a b c).b = q := AL hk hq
  have er : (low a b c).c = r := AL hk hr
  have hg := BV (a := a) (b := b) h
  have hs : 0 < dv a b c ↔ 0 < c := by unfold dv; split <;> omega
  have hr0 : 0 < r := by
    have hr' : r ≠ 0 := fun z => h (by rw [hr, z, Int.mul_zero])
    rcases Int.lt_trichotomy 0 (dv a b c) with z | z | z
    . have := hs.mp z
      rw [hr] at this
      rw [Int.mul_comm] at this
      exact Int.pos_of_mul_pos_left this z |> fun t => t
    . exact absurd z.symm hk
    . have : c < 0 := by omega
      rcases Int.lt_trichotomy 0 r with w | w | w
      . exact w
      . exact absurd w.symm hr'
      . have := Int.mul_pos_of_neg_of_neg z w
        rw [<- hr] at this
        omega
  refine ⟨dv a b c, hk, hs, by rw [ep]; exact hp, by rw [eq]; exact hq, by rw [er]; exact hr, by rw [er]; exact hr0, ?_⟩
  rw [ep, eq, er]
  have e := FD p q r (dv a b c)
  rw [Int.mul_comm p, Int.mul_comm q, Int.mul_comm r, <- hp, <- hq, <- hr] at e
  have e2 : (dv a b c).natAbs = g3 a b c := by unfold dv; split <;> simp
  rw [e2] at e
  have : g3 p q r * g3 a b c = 1 * g3 a b c := by omega
  exact Nat.eq_of_mul_eq_mul_right hg this
theorem iP (a b : Int) {c : Int} (h : c ≠ 0) : Ok (low a b c) := (kM a b h).choose_spec.2.2.2.2.2
theorem Ok.same {x y : N3} (hx : Ok x) (hy : Ok y) (h1 : x.a * y.c = y.a * x.c) (h2 : x.b * y.c = y.b * x.c) : x = y := by
  have key : ∀ {u v : N3}, Ok u -> Ok v -> u.a * v.c = v.a * u.c -> u.b * v.c = v.b * u.c -> u.c ∣ v.c := fun {u v} hu hv e1 e2 => by
    have hd : u.c.natAbs ∣ g3 (u.a * v.c) (u.b * v.c) (u.c * v.c) := O2
      (by rw [Int.natAbs_of_nonneg (Int.le_of_lt hu.c), e1]; exact Int.dvd_mul_left _ _) (by rw [Int.natAbs_of_nonneg (Int.le_of_lt hu.c), e2]; exact Int.dvd_mul_left _ _) (by rw [Int.natAbs_of_nonneg (Int.le_of_lt hu.c)]; exact Int.dvd_mul_right _ _)
    rw [FD, hu.g, Nat.one_mul] at hd
    exact Int.natAbs_dvd_natAbs.mp hd
  have hc : x.c = y.c := Int.dvd_antisymm (Int.le_of_lt hx.c) (Int.le_of_lt hy.c) (key hx hy h1 h2) (key hy hx h1.symm h2.symm)
  have hn : y.c ≠ 0 := by have := hy.c; omega
  rw [hc] at h1 h2
  exact N3.ext' (Int.eq_of_mul_eq_mul_right hn h1) (Int.eq_of_mul_eq_mul_right hn h2) hc
theorem O5 {a b c a' b' c' : Int} (h : c ≠ 0) (h' : c' ≠ 0) (e1 : a * c' = a' * c) (e2 : b * c' = b' * c) : low a b c = low a' b' c' := by
  obtain ⟨k, hk, _, p1, p2, p3, o⟩ := kM a b h
  obtain ⟨l, hl, _, q1, q2, q3, o'⟩ := kM a' b' h'
  generalize low a b c = x at *
  generalize low a' b' c' = y at *
  subst p1 p2 p3 q1 q2 q3
  have hkl : k * l ≠ 0 := Int.mul_ne_zero hk hl
  refine o.same o' (Int.eq_of_mul_eq_mul_left hkl (by grind)) (Int.eq_of_mul_eq_mul_left hkl (by grind))
theorem Ok.low {x : N3} (h : Ok x) : low x.a x.b x.c = x := by
  have hc : x.c ≠ 0 := by have := h.c; omega
  obtain ⟨k, hk, _, p1, p2, p3, o⟩ := kM x.a x.b hc
  refine o.same h ?_ ?_
  . exact Int.eq_of_mul_eq_mul_left hk (by grind)
  . exact Int.eq_of_mul_eq_mul_left hk (by grind)
theorem Ok.Pf {x : N3} {a b c : Int} (h : Ok x) (hc : c ≠ 0) (e1 : x.a * c = a * x.c) (e2 : x.b * c = b * x.c) : x = NM.low a b c := by
  have q := O5 (by have := h.c; omega) hc e1 e2
  rw [h.low] at q
  exact q
theorem NR (a b : Int) {c : Int} (h : c ≠ 0) : (low a b c).a.natAbs <= a.natAbs /\ (low a b c).b.natAbs <= b.natAbs /\ (low a b c).c.natAbs <= c.natAbs := by
  obtain ⟨k, hk, _, p1, p2, p3, _⟩ := kM a b h
  have hk' : 1 <= k.natAbs := by omega
  have le : ∀ {u v : Int}, u = k * v -> v.natAbs ≤ u.natAbs := fun {u v} e => by
    rw [e, Int.natAbs_mul]
    exact Nat.le_mul_of_pos_left _ hk'
  exact ⟨le p1, le p2, le p3⟩
structure Bd (n : Nat) (x : N3) : Prop where
  a : Sz n x.a
  b : Sz n x.b
  c : Sz n x.c
theorem Bd.mono {n m : Nat} {x : N3} (h : Bd n x) (l : n <= m) : Bd m x := ⟨h.a.mono l, h.b.mono l, h.c.mono l⟩
theorem qe {a b c : Int} {n : Nat} (h : c ≠ 0) (ha : Sz n a) (hb : Sz n b) (hc : Sz n c) : Bd n (low a b c) := by
  obtain ⟨h1, h2, h3⟩ := NR a b h
  exact ⟨ha.le h1, hb.le h2, hc.le h3⟩
def plus (x y : N3) : N3 := low (x.a * y.c + y.a * x.c) (x.b * y.c + y.b * x.c) (x.c * y.c)
def less (x y : N3) : N3 := low (x.a * y.c - y.a * x.c) (x.b * y.c - y.b * x.c) (x.c * y.c)
def times (d : Int) (x y : N3) : N3 := low (x.a * y.a + d * x.b * y.b) (x.a * y.b + x.b * y.a) (x.c * y.c)
def norm (d : Int) (x : N3) : Int := x.a * x.a - d * x.b * x.b
def ao (d : Int) (x : N3) : N3 := low (x.c * x.a) (-x.c * x.b) (norm d x)
def bR (x : N3) : N3 := ⟨x.a, -x.b, x.c⟩
def minus (x : N3) : N3 := ⟨-x.a, -x.b, x.c⟩
def aB : N3 := ⟨0, 0, 1⟩
def one : N3 := ⟨1, 0, 1⟩
theorem Ok.cn {x : N3} (h : Ok x) : x.c ≠ 0 := by have := h.c; omega
theorem wH {x y : N3} (h : Ok x) (g : Ok y) : x.c * y.c ≠ 0 := Int.mul_ne_zero h.cn g.cn
theorem aX {x : N3} (h : Ok x) : Ok (bR x) := ⟨h.c, by show g3 x.a (-x.b) x.c = 1; rw [EO]; exact h.g⟩
theorem k8 {x : N3} (h : Ok x) : Ok (minus x) := ⟨h.c, by show g3 (-x.a) (-x.b) x.c = 1; rw [JP, EO]; exact h.g⟩
theorem aT {x y : N3} (h : Ok x) (g : Ok y) : Ok (plus x y) := iP _ _ (wH h g)
theorem wO {x y : N3} (h : Ok x) (g : Ok y) : Ok (less x y) := iP _ _ (wH h g)
theorem au {d : Int} {x y : N3} (h : Ok x) (g : Ok y) : Ok (times d x y) := iP _ _ (wH h g)
theorem cM : Ok aB := ⟨by decide, by decide⟩
theorem jr : Ok one := ⟨by decide, by decide⟩
theorem i6 {n : Nat} {x : N3} (h : Bd n x) : Bd n (bR x) := ⟨h.a, h.b.neg, h.c⟩
theorem CH {n : Nat} {x : N3} (h : Bd n x) : Bd n (minus x) := ⟨h.a.neg, h.b.neg, h.c⟩
theorem ku {n m : Nat} {x y : N3} (hx : Ok x) (hy : Ok y) (h : Bd n x) (g : Bd m y) : Bd (n + m + 1) (plus x y) :=
  qe (wH hx hy) ((h.a.mul g.c).add ((g.a.mul h.c).mono (by omega))) ((h.b.mul g.c).add ((g.b.mul h.c).mono (by omega))) ((h.c.mul g.c).mono (by omega))
theorem mU {d : Int} (h : 2 <= d) (h' : d <= 30) : Sz 5 d := by unfold Sz; omega
theorem br {n m : Nat} {d : Int} {x y : N3} (hd : Sz 5 d) (hx : Ok x) (hy : Ok y) (h : Bd n x) (g : Bd m y) : Bd (n + m + 6) (times d x y) :=
  qe (wH hx hy) (((h.a.mul g.a).mono (by omega)).add (((hd.mul h.b).mul g.b).mono (by omega))) ((((h.a.mul g.b).mono (by omega : n + m <= n + m)).add ((h.b.mul g.a).mono (by omega))).mono (by omega)) ((h.c.mul g.c).mono (by omega))
theorem BU {n : Nat} {d : Int} {x : N3} (hd : Sz 5 d) (h : Bd n x) : Sz (2 * n + 6) (norm d x) := by
  have e1 := h.a.mul h.a
  have e2 := (hd.mul h.b).mul h.b
  exact ((e1.mono (by omega : n + n <= 5 + n + n)).sub e2).mono (by omega)
theorem cJ {n : Nat} {d : Int} {x : N3} (hd : Sz 5 d) (hn : norm d x ≠ 0) (h : Bd n x) : Bd (2 * n + 6) (ao d x) :=
  qe hn ((h.c.mul h.a).mono (by omega)) ((h.c.neg.mul h.b).mono (by omega)) (BU hd h)
def aw (d : Int) : Prop := 2 <= d /\ d <= 30 /\ d ≠ 4 /\ d ≠ 9 /\ d ≠ 16 /\ d ≠ 25
theorem IS {d : Nat} (h : ∀ m : Nat, m * m ≠ d) : ∀ {a b : Nat}, a * a = d * (b * b) -> b = 0 := fun {a b} e => by
  rcases Nat.eq_zero_or_pos b with hb | hb
  . exact hb
  exfalso
  obtain ⟨g, p, q, hg, hc, rfl, rfl⟩ := Nat.exists_coprime' (m := a) (n := b) (Nat.gcd_pos_of_pos_right _ hb)
  have e2 : (p * p) * (g * g) = (d * (q * q)) * (g * g) := by grind
  have e3 : p * p = d * (q * q) := Nat.eq_of_mul_eq_mul_right (Nat.mul_pos hg hg) e2
  have hq : q ∣ p * p := ⟨d * q, by rw [e3]; grind⟩
  have hq1 : q ∣ p := hc.symm.dvd_of_dvd_mul_left hq
  have hq2 : q = 1 := by
    have := Nat.dvd_gcd hq1 (Nat.dvd_refl q)
    rw [hc] at this
    exact Nat.dvd_one.mp this
  subst hq2
  exact h p (by rw [e3]; simp)
theorem aw.nat {d : Int} (h : aw d) : ∀ m : Nat, m * m ≠ d.toNat := fun m e => by
  obtain ⟨h1, h2, h3, h4, h5, h6⟩ := h
  have hm : m <= 5 := by
    rcases Nat.lt_or_ge 5 m with z | z
    . have := Nat.mul_le_mul z z; omega
    . exact z
  have : m = 0 \/ m = 1 \/ m = 2 \/ m = 3 \/ m = 4 \/ m = 5 := by omega
  rcases this with rfl | rfl | rfl | rfl | rfl | rfl <;> omega
theorem aw.Gz {d a b : Int} (h : aw d) (e : a * a = d * b * b) : a = 0 /\ b = 0 := by
  have hd : d = ((d.toNat : Nat) : Int) := by have := h.1; omega
  have e1 : a.natAbs * a.natAbs = d.toNat * (b.natAbs * b.natAbs) := by
    have e2 := congrArg Int.natAbs e
    rw [Int.natAbs_mul, Int.natAbs_mul, Int.natAbs_mul] at e2
    rw [e2, Nat.mul_assoc]
    congr 1
    omega
  have hb := IS h.nat e1
  have hb' : b = 0 := by omega
  subst hb'
  have : a * a = 0 := by rw [e]; simp
  exact ⟨by rcases Int.mul_eq_zero.mp this with z | z <;> exact z, rfl⟩
theorem aw.norm {d : Int} {x : N3} (h : aw d) (ok : Ok x) (hx : x ≠ aB) : norm d x ≠ 0 := fun e => by
  have e' : x.a * x.a = d * x.b * x.b := by unfold NM.norm at e; omega
  obtain ⟨h1, h2⟩ := h.Gz e'
  apply hx
  have hg := ok.g
  rw [h1, h2] at hg
  have hc := ok.c
  have : x.c = 1 := by
    unfold g3 at hg
    simp [Int.gcd] at hg
    omega
  exact N3.ext' h1 h2 this
theorem aC {d : Int} {x : N3} (h : NM.norm d x ≠ 0) : Ok (ao d x) := iP _ _ h
def sg (d a b : Int) : Int :=
  if a = 0 /\ b = 0 then 0 else if 0 <= a /\ 0 <= b then 1 else if a <= 0 /\ b <= 0 then -1 else if (if d * b * b < a * a then a else b) > 0 then 1 else -1
theorem Hx {u v : Int} (hu : 0 <= u) (h : u * u <= v * v) (hv : 0 <= v) : u <= v := by
  rcases Int.lt_or_le v u with z | z
  . have := Int.mul_lt_mul_of_pos_left z (show 0 < u by omega)
    have := Int.mul_le_mul_of_nonneg_right (Int.le_of_lt z) hv
    omega
  . exact z
theorem sq_nonneg (u : Int) : 0 <= u * u := by
  rcases Int.le_total 0 u with h | h
  . exact Int.mul_nonneg h h
  . exact Int.mul_nonneg_of_nonpos_of_nonpos h h
theorem sq_pos {u : Int} (h : u ≠ 0) : 0 < u * u := by
  have := sq_nonneg u
  have : u * u ≠ 0 := Int.mul_ne_zero h h
  omega
def P (d a b : Int) : Prop := (0 <= a /\ 0 <= b /\ ¬ (a = 0 /\ b = 0)) \/ (0 < a /\ b < 0 /\ d * b * b < a * a) \/ (a < 0 /\ 0 < b /\ a * a < d * b * b)
theorem iL {d a b : Int} (h : aw d) : sg d a b = 1 ↔ P d a b := by
  unfold sg P
  have key : a * a = d * b * b -> a = 0 /\ b = 0 := h.Gz
  by_cases c1 : d * b * b < a * a
  . simp only [c1, if_true]; split <;> (try split) <;> (try split) <;> (try split) <;> simp <;> omega
  . simp only [c1, if_false]; split <;> (try split) <;> (try split) <;> (try split) <;> simp <;> omega
theorem yn {d a b : Int} (h : aw d) : sg d (-a) (-b) = - sg d a b := by
  unfold sg
  have key : a * a = d * b * b -> a = 0 /\ b = 0 := h.Gz
  have e1 : d * -b * -b = d * b * b := by grind
  have e2 : -a * -a = a * a := by grind
  rw [e1, e2]
  by_cases c1 : d * b * b < a * a
  . simp only [c1, if_true]; split <;> split <;> (try split) <;> (try split) <;> (try split) <;> (try split) <;> (try split) <;> (try split) <;> omega
  . simp only [c1, if_false]; split <;> split <;> (try split) <;> (try split) <;> (try split) <;> (try split) <;> (try split) <;> (try split) <;> omega
theorem cX {d a b : Int} : sg d a b = 0 ↔ a = 0 /\ b = 0 := by
  unfold sg; split <;> (try split) <;> (try split) <;> (try split) <;> omega
theorem sQ (d a b : Int) : sg d a b = 0 \/ sg d a b = 1 \/ sg d a b = -1 := by
  unfold sg; split <;> (try split) <;> (try split) <;> (try split) <;> omega
theorem PK {d a b : Int} (h : aw d) : (a = 0 /\ b = 0) \/ P d a b \/ P d (-a) (-b) := by
  rcases sQ d a b with e | e | e
  . exact .inl (cX.mp e)
  . exact .inr (.inl ((iL h).mp e))
  . exact .inr (.inr ((iL h).mp (by rw [yn h, e]; rfl)))
theorem lI {d a b : Int} (h : aw d) (n : d * b * b < a * a) : P d a b ↔ 0 < a := by
  unfold P
  have := sq_nonneg b
  have h0 : 0 <= d * b * b := by rw [Int.mul_assoc]; exact Int.mul_nonneg (by have := h.1; omega) this
  have ha : a ≠ 0 := fun z => by subst z; simp at n; omega
  omega
theorem jY {d a b : Int} (h : aw d) (n : a * a < d * b * b) : P d a b ↔ 0 < b := by
  unfold P
  have h0 := sq_nonneg a
  have hb : b ≠ 0 := fun z => by subst z; simp at n; omega
  omega
theorem um {u v : Int} (h : v * v < u * u) : 0 < u + v ↔ 0 < u := by
  have hu : u ≠ 0 := fun z => by subst z; have := sq_nonneg v; simp at h; omega
  have l : v.natAbs < u.natAbs := by
    rcases Nat.lt_or_ge v.natAbs u.natAbs with z | z
    . exact z
    . have := Nat.mul_le_mul z z
      have e1 : ((u.natAbs * u.natAbs : Nat) : Int) = u * u := Int.natAbs_mul_self
      have e2 : ((v.natAbs * v.natAbs : Nat) : Int) = v * v := Int.natAbs_mul_self
      omega
  omega
theorem mul_pos_iff {u v : Int} (hu : u ≠ 0) (hv : v ≠ 0) : 0 < u * v ↔ (0 < u ↔ 0 < v) := by
  rcases Int.lt_or_gt_of_ne hu with h | h <;> rcases Int.lt_or_gt_of_ne hv with g | g
  . have := Int.mul_pos_of_neg_of_neg h g; omega
  . have := Int.mul_neg_of_neg_of_pos h g; omega
  . have := Int.mul_neg_of_pos_of_neg h g; omega
  . have := Int.mul_pos h g; omega
theorem yI {u v s t : Int} (hu : 0 <= u) (h : u < v) (hs : 0 <= s) (g : s < t) : u * s < v * t := by
  have e1 : u * s <= v * s := Int.mul_le_mul_of_nonneg_right (Int.le_of_lt h) hs
  have e2 : v * s < v * t := Int.mul_lt_mul_of_pos_left g (by omega)
  omega
theorem dsq {d b : Int} (hd : 0 < d) : 0 <= d * b * b := by rw [Int.mul_assoc]; exact Int.mul_nonneg (Int.le_of_lt hd) (sq_nonneg b)
theorem QS {d a b p q : Int} (h : aw d) (h1 : ¬ (a = 0 /\ b = 0)) (h2 : ¬ (p = 0 /\ q = 0)) : P d (a * p + d * b * q) (a * q + b * p) ↔ (P d a b ↔ P d p q) := by
  have hd : 0 < d := by have := h.1; omega
  have n1 : a * a ≠ d * b * b := fun e => h1 (h.Gz e)
  have n2 : p * p ≠ d * q * q := fun e => h2 (h.Gz e)
  have pz : ∀ {u v : Int}, d * v * v < u * u -> u ≠ 0 := fun {u v} e z => by subst z; have := dsq (b := v) hd; simp at e; omega
  have qz : ∀ {u v : Int}, u * u < d * v * v -> v ≠ 0 := fun {u v} e z => by subst z; have := sq_nonneg u; simp at e; omega
  have id1 : (a * p + d * b * q) * (a * p + d * b * q) - d * (a * q + b * p) * (a * q + b * p) = (a * a - d * b * b) * (p * p - d * q * q) := by grind
  rcases Int.lt_or_gt_of_ne n1 with c1 | c1 <;> rcases Int.lt_or_gt_of_ne n2 with c2 | c2
  . have pp := Int.mul_pos_of_neg_of_neg (show a * a - d * b * b < 0 by omega) (show p * p - d * q * q < 0 by omega)
    rw [lI h (by omega), jY h c1, jY h c2]
    have sq : (a * p) * (a * p) < (d * b * q) * (d * b * q) := by
      have e2 := yI (sq_nonneg a) c1 (sq_nonneg p) c2
      grind
    rw [Int.add_comm, um sq, Int.mul_assoc, mul_pos_iff (by omega) (Int.mul_ne_zero (qz c1) (qz c2)), mul_pos_iff (qz c1) (qz c2)]
    omega
  . have pp := Int.mul_neg_of_neg_of_pos (show a * a - d * b * b < 0 by omega) (show 0 < p * p - d * q * q by omega)
    rw [jY h (by omega), jY h c1, lI h c2]
    have sq : (a * q) * (a * q) < (b * p) * (b * p) := by
      have e2 := yI (sq_nonneg a) c1 (dsq (b := q) hd) c2
      have e3 : d * ((a * q) * (a * q)) < d * ((b * p) * (b * p)) := by grind
      exact Int.lt_of_mul_lt_mul_left e3 (Int.le_of_lt hd)
    rw [Int.add_comm, um sq, mul_pos_iff (qz c1) (pz c2)]
  . have pp := Int.mul_neg_of_pos_of_neg (show 0 < a * a - d * b * b by omega) (show p * p - d * q * q < 0 by omega)
    rw [jY h (by omega), lI h c1, jY h c2]
    have sq : (b * p) * (b * p) < (a * q) * (a * q) := by
      have e2 := yI (dsq (b := b) hd) c1 (sq_nonneg p) c2
      have e3 : d * ((b * p) * (b * p)) < d * ((a * q) * (a * q)) := by grind
      exact Int.lt_of_mul_lt_mul_left e3 (Int.le_of_lt hd)
    rw [um sq, mul_pos_iff (pz c1) (qz c2)]
  . have pp := Int.mul_pos (show 0 < a * a - d * b * b by omega) (show 0 < p * p - d * q * q by omega)
    rw [lI h (by omega), lI h c1, lI h c2]
    have sq : (d * b * q) * (d * b * q) < (a * p) * (a * p) := by
      have e2 := yI (dsq (b := b) hd) c1 (dsq (b := q) hd) c2
      grind
    rw [um sq, mul_pos_iff (pz c1) (pz c2)]
theorem H0 {d A x B y : Int} (hd : 0 < d) (hA : 0 <= A) (hx : 0 <= x) (hB : 0 <= B) (hy : 0 <= y) (h1 : A * A <= d * B * B) (h2 : x * x <= d * y * y) : A * x <= d * (B * y) := by
  refine Hx (Int.mul_nonneg hA hx) ?_ (Int.mul_nonneg (Int.le_of_lt hd) (Int.mul_nonneg hB hy))
  have := Int.mul_le_mul h1 h2 (sq_nonneg x) (dsq hd)
  grind
theorem T1 {d A x B y : Int} (hd : 0 < d) (hA : 0 <= A) (hx : 0 <= x) (hB : 0 <= B) (hy : 0 <= y) (h1 : A * A < d * B * B) (h2 : x * x < d * y * y) : (A + x) * (A + x) < d * (B + y) * (B + y) := by
  have := H0 hd hA hx hB hy (Int.le_of_lt h1) (Int.le_of_lt h2)
  grind
theorem T2 {d A x B y : Int} (hd : 0 < d) (hA : 0 <= A) (hx : 0 <= x) (hB : 0 <= B) (hy : 0 <= y) (h1 : d * B * B < A * A) (h2 : d * y * y < x * x) : d * (B + y) * (B + y) < (A + x) * (A + x) := by
  have : d * (B * y) <= A * x := by
    refine Hx (Int.mul_nonneg (Int.le_of_lt hd) (Int.mul_nonneg hB hy)) ?_ (Int.mul_nonneg hA hx)
    have := yI (dsq (b := B) hd) h1 (dsq (b := y) hd) h2
    grind
  grind
theorem Z1 {d x1 y1 x2 y2 : Int} (hd : 0 < d) (h1 : x1 * x1 < d * y1 * y1) (h2 : d * y2 * y2 < x2 * x2) (a1 : 0 <= x2) (a2 : x2 <= x1) (a3 : 0 <= y1) (a4 : y1 <= y2) : False := by
  have e1 := Int.mul_le_mul a2 a2 a1 (Int.le_trans a1 a2)
  have e2 := Int.mul_le_mul_of_nonneg_left (Int.mul_le_mul a4 a4 a3 (Int.le_trans a3 a4)) (Int.le_of_lt hd)
  grind
theorem Z2 {d x1 y1 x2 y2 x3 y3 : Int} (hd : 0 < d) (h1 : x1 * x1 < d * y1 * y1) (h2 : d * y2 * y2 < x2 * x2) (h3 : d * y3 * y3 < x3 * x3) (a1 : 0 <= x2) (a2 : 0 <= y2) (a3 : 0 <= x3) (a4 : 0 <= y3) (e1 : x1 = x2 + x3) (e2 : y1 = y2 + y3) : False := by
  subst e1 e2
  have := T2 hd a1 a3 a2 a4 h2 h3
  omega
theorem Z3 {d x1 y1 x2 y2 x3 y3 : Int} (hd : 0 < d) (h1 : d * y1 * y1 < x1 * x1) (h2 : x2 * x2 < d * y2 * y2) (h3 : x3 * x3 < d * y3 * y3) (a1 : 0 <= x2) (a2 : 0 <= y2) (a3 : 0 <= x3) (a4 : 0 <= y3) (e1 : x1 = x2 + x3) (e2 : y1 = y2 + y3) : False := by
  subst e1 e2
  have := T1 hd a1 a3 a2 a4 h2 h3
  omega
theorem QB {d a b p q u v : Int} (h : aw d) (h1 : P d a b) (h2 : P d p q) (h3 : P d u v) (e1 : a + p + u = 0) (e2 : b + q + v = 0) : False := by
  have hd : 0 < d := by have := h.1; omega
  unfold P at h1 h2 h3
  have x1 : ∀ {u c : Int}, u * u < c -> -u * -u < c := fun {u c} e => by grind
  have x2 : ∀ {u c : Int}, c < u * u -> c < -u * -u := fun {u c} e => by grind
  have x3 : ∀ {u c : Int}, c < d * u * u -> c < d * -u * -u := fun {u c} e => by grind
  have x4 : ∀ {u c : Int}, d * u * u < c -> d * -u * -u < c := fun {u c} e => by grind
  rcases h1 with ⟨u1, u2, u3⟩ | ⟨u1, u2, u3⟩ | ⟨u1, u2, u3⟩ <;> rcases h2 with ⟨v1, v2, v3⟩ | ⟨v1, v2, v3⟩ | ⟨v1, v2, v3⟩ <;> rcases h3 with ⟨w1, w2, w3⟩ | ⟨w1, w2, w3⟩ | ⟨w1, w2, w3⟩ <;> (try omega)
  all_goals first
    | exact Z1 hd (x1 u3) (x4 v3) (by omega) (by omega) (by omega) (by omega)
    | exact Z1 hd (x1 v3) (x4 u3) (by omega) (by omega) (by omega) (by omega)
    | exact Z1 hd (x1 u3) (x4 w3) (by omega) (by omega) (by omega) (by omega)
    | exact Z1 hd (x1 w3) (x4 u3) (by omega) (by omega) (by omega) (by omega)
    | exact Z1 hd (x1 v3) (x4 w3) (by omega) (by omega) (by omega) (by omega)
    | exact Z1 hd (x1 w3) (x4 v3) (by omega) (by omega) (by omega) (by omega)
    | exact Z2 hd (x1 u3) (x4 v3) (x4 w3) (by omega) (by omega) (by omega) (by omega) (by omega) (by omega)
    | exact Z2 hd (x1 v3) (x4 u3) (x4 w3) (by omega) (by omega) (by omega) (by omega) (by omega) (by omega)
    | exact Z2 hd (x1 w3) (x4 u3) (x4 v3) (by omega) (by omega) (by omega) (by omega) (by omega) (by omega)
    | exact Z3 hd (x4 u3) (x1 v3) (x1 w3) (by omega) (by omega) (by omega) (by omega) (by omega) (by omega)
    | exact Z3 hd (x4 v3) (x1 u3) (x1 w3) (by omega) (by omega) (by omega) (by omega) (by omega) (by omega)
    | exact Z3 hd (x4 w3) (x1 u3) (x1 v3) (by omega) (by omega) (by omega) (by omega) (by omega) (by omega)
theorem Qi {d a b p q : Int} (h : aw d) (h1 : P d a b) (h2 : P d p q) : P d (a + p) (b + q) := by
  rcases PK (a := a + p) (b := b + q) h with ⟨e1, e2⟩ | e | e
  . have ea : p = -a := by omega
    have eb : q = -b := by omega
    subst ea eb
    have s1 := (iL h).mpr h1
    have s2 := (iL h).mpr h2
    rw [yn h, s1] at s2
    omega
  . exact e
  . exact (QB h h1 h2 e (by omega) (by omega)).elim
theorem AS {d a b p q : Int} (h : aw d) : sg d (a * p + d * b * q) (a * q + b * p) = sg d a b * sg d p q := by
  by_cases h1 : a = 0 /\ b = 0
  . obtain ⟨rfl, rfl⟩ := h1
    have e : sg d (0 : Int) 0 = 0 := cX.mpr ⟨rfl, rfl⟩
    rw [e]; simp [cX]
  by_cases h2 : p = 0 /\ q = 0
  . obtain ⟨rfl, rfl⟩ := h2
    have e : sg d (0 : Int) 0 = 0 := cX.mpr ⟨rfl, rfl⟩
    rw [e]; simp [cX]
  have k := QS h h1 h2
  have h3 : ¬ (a * p + d * b * q = 0 /\ a * q + b * p = 0) := fun ⟨e1, e2⟩ => by
    have id1 : (a * p + d * b * q) * (a * p + d * b * q) - d * (a * q + b * p) * (a * q + b * p) = (a * a - d * b * b) * (p * p - d * q * q) := by grind
    rw [e1, e2] at id1
    simp only [Int.mul_zero, Int.sub_self] at id1
    rcases Int.mul_eq_zero.mp id1.symm with z | z
    . exact h1 (h.Gz (by omega))
    . exact h2 (h.Gz (by omega))
  rw [<- iL h, <- iL h, <- iL h] at k
  have t1 := sQ d a b
  have t2 := sQ d p q
  have t3 := sQ d (a * p + d * b * q) (a * q + b * p)
  have z1 : sg d a b ≠ 0 := fun z => h1 (cX.mp z)
  have z2 : sg d p q ≠ 0 := fun z => h2 (cX.mp z)
  have z3 : sg d (a * p + d * b * q) (a * q + b * p) ≠ 0 := fun z => h3 (cX.mp z)
  rcases t1 with e | e | e <;> rcases t2 with f | f | f <;> rcases t3 with g | g | g <;> simp_all
theorem ql {d a b k : Int} (h : aw d) (hk : 0 < k) : sg d (k * a) (k * b) = sg d a b := by
  have e := AS (a := k) (b := 0) (p := a) (q := b) h
  have e1 : sg d k 0 = 1 := by unfold sg; rw [if_neg (by omega), if_pos (by omega)]
  rw [e1] at e
  simpa using e
end NM
set_option linter.all false
set_option maxRecDepth 100000
set_option maxHeartbeats 4000000
namespace NM
structure Rep (x : N3) (A B C : Int) : Prop where
  c : C ≠ 0
  a : x.a * C = A * x.c
  b : x.b * C = B * x.c
section
variable {x y : N3} {A B C A' B' C' d : Int}
theorem ai (h : Ok x) : Rep x x.a x.b x.c := ⟨h.cn, rfl, rfl⟩
theorem iY {a b c : Int} (h : c ≠ 0) : Rep (low a b c) a b c := by
  obtain ⟨k, hk, _, p1, p2, p3, _⟩ := kM a b h
  generalize low a b c = z at *
  exact ⟨h, by grind, by grind⟩
theorem Rep.eq (ox : Ok x) (oy : Ok y) (h : Rep x A B C) (g : Rep y A' B' C') (e1 : A * C' = A' * C) (e2 : B * C' = B' * C) : x = y := by
  have hc : C * C' ≠ 0 := Int.mul_ne_zero h.c g.c
  obtain ⟨_, h1, h2⟩ := h
  obtain ⟨_, g1, g2⟩ := g
  exact ox.same oy (Int.eq_of_mul_eq_mul_right hc (by grind)) (Int.eq_of_mul_eq_mul_right hc (by grind))
theorem Rep.bR (h : Rep x A B C) : Rep (bR x) A (-B) C := ⟨h.c, h.a, by show -x.b * C = -B * x.c; have := h.b; grind⟩
theorem Rep.minus (h : Rep x A B C) : Rep (minus x) (-A) (-B) C := ⟨h.c, by show -x.a * C = -A * x.c; have := h.a; grind, by show -x.b * C = -B * x.c; have := h.b; grind⟩
theorem Rep.plus (ox : Ok x) (oy : Ok y) (h : Rep x A B C) (g : Rep y A' B' C') : Rep (plus x y) (A * C' + A' * C) (B * C' + B' * C) (C * C') := by
  have hc := wH ox oy
  obtain ⟨_, q1, q2⟩ := iY (a := x.a * y.c + y.a * x.c) (b := x.b * y.c + y.b * x.c) hc
  obtain ⟨hc1, h1, h2⟩ := h
  obtain ⟨hc2, g1, g2⟩ := g
  change (NM.plus x y).a * (x.c * y.c) = _ * (NM.plus x y).c at q1
  change (NM.plus x y).b * (x.c * y.c) = _ * (NM.plus x y).c at q2
  generalize NM.plus x y = z at *
  exact ⟨Int.mul_ne_zero hc1 hc2, Int.eq_of_mul_eq_mul_right hc (by grind), Int.eq_of_mul_eq_mul_right hc (by grind)⟩
theorem Rep.less (ox : Ok x) (oy : Ok y) (h : Rep x A B C) (g : Rep y A' B' C') : Rep (less x y) (A * C' - A' * C) (B * C' - B' * C) (C * C') := by
  have hc := wH ox oy
  obtain ⟨_, q1, q2⟩ := iY (a := x.a * y.c - y.a * x.c) (b := x.b * y.c - y.b * x.c) hc
  obtain ⟨hc1, h1, h2⟩ := h
  obtain ⟨hc2, g1, g2⟩ := g
  change (NM.less x y).a * (x.c * y.c) = _ * (NM.less x y).c at q1
  change (NM.less x y).b * (x.c * y.c) = _ * (NM.less x y).c at q2
  generalize NM.less x y = z at *
  exact ⟨Int.mul_ne_zero hc1 hc2, Int.eq_of_mul_eq_mul_right hc (by grind), Int.eq_of_mul_eq_mul_right hc (by grind)⟩
theorem Rep.times (ox : Ok x) (oy : Ok y) (h : Rep x A B C) (g : Rep y A' B' C') : Rep (times d x y) (A * A' + d * B * B') (A * B' + B * A') (C * C') := by
  have hc := wH ox oy
  obtain ⟨_, q1, q2⟩ := iY (a := x.a * y.a + d * x.b * y.b) (b := x.a * y.b + x.b * y.a) hc
  obtain ⟨hc1, h1, h2⟩ := h
  obtain ⟨hc2, g1, g2⟩ := g
  change (NM.times d x y).a * (x.c * y.c) = _ * (NM.times d x y).c at q1
  change (NM.times d x y).b * (x.c * y.c) = _ * (NM.times d x y).c at q2
  generalize NM.times d x y = z at *
  exact ⟨Int.mul_ne_zero hc1 hc2, Int.eq_of_mul_eq_mul_right hc (by grind), Int.eq_of_mul_eq_mul_right hc (by grind)⟩
theorem Rep.norm (h : Rep x A B C) : NM.norm d x * (C * C) = (A * A - d * B * B) * (x.c * x.c) := by
  obtain ⟨_, h1, h2⟩ := h
  unfold NM.norm
  have e1 : x.a * x.a * (C * C) = A * A * (x.c * x.c) := by
    have : (x.a * C) * (x.a * C) = (A * x.c) * (A * x.c) := by rw [h1]
    grind
  have e2 : x.b * x.b * (C * C) = B * B * (x.c * x.c) := by
    have : (x.b * C) * (x.b * C) = (B * x.c) * (B * x.c) := by rw [h2]
    grind
  grind
theorem Rep.ao (ox : Ok x) (hn : NM.norm d x ≠ 0) (h : Rep x A B C) : Rep (ao d x) (C * A) (-C * B) (A * A - d * B * B) := by
  have hN := h.norm (d := d)
  have hcc : x.c * x.c ≠ 0 := Int.mul_ne_zero ox.cn ox.cn
  have hN0 : A * A - d * B * B ≠ 0 := fun z => by
    rw [z, Int.zero_mul] at hN
    rcases Int.mul_eq_zero.mp hN with w | w
    . exact hn w
    . rcases Int.mul_eq_zero.mp w with w | w <;> exact h.c w
  obtain ⟨_, q1, q2⟩ := iY (a := x.c * x.a) (b := -x.c * x.b) hn
  change (NM.ao d x).a * NM.norm d x = _ * (NM.ao d x).c at q1
  change (NM.ao d x).b * NM.norm d x = _ * (NM.ao d x).c at q2
  obtain ⟨hc1, h1, h2⟩ := h
  generalize NM.ao d x = z at *
  generalize NM.norm d x = n at *
  generalize A * A - d * B * B = m at *
  refine ⟨hN0, ?_, ?_⟩
  . have e : z.a * m * (x.c * x.c) = C * A * z.c * (x.c * x.c) := by grind
    exact Int.eq_of_mul_eq_mul_right hcc e
  . have e : z.b * m * (x.c * x.c) = -C * B * z.c * (x.c * x.c) := by grind
    exact Int.eq_of_mul_eq_mul_right hcc e
theorem Rep.sg (hd : aw d) (ox : Ok x) (h : Rep x A B C) (hC : 0 < C) : sg d x.a x.b = NM.sg d A B := by
  have e1 := ql (a := x.a) (b := x.b) hd hC
  have e2 := ql (a := A) (b := B) hd ox.c
  rw [show C * x.a = x.c * A by have := h.a; grind, show C * x.b = x.c * B by have := h.b; grind] at e1
  rw [<- e1, e2]
end
end NM
set_option linter.all false
set_option maxRecDepth 100000
set_option maxHeartbeats 4000000
namespace NM
def lean (d : Int) (x : N3) : N3 := times d (bR x) (ao d x)
def d6 (d : Int) (x : N3) : N3 := times d (times d (plus x (bR x)) (plus x (bR x))) (ao d (times d x (bR x)))
section
variable {d : Int} {x y z : N3}
theorem Rep.div {A B C k : Int} (hk : k ≠ 0) (h : Rep x (k * A) (k * B) (k * C)) : Rep x A B C := by
  obtain ⟨c, e1, e2⟩ := h
  exact ⟨fun z => c (by rw [z, Int.mul_zero]), Int.eq_of_mul_eq_mul_left hk (by grind), Int.eq_of_mul_eq_mul_left hk (by grind)⟩
theorem A2 {a b c : Int} (h : aw d) (hc : 0 < c) : sg d (low a b c).a (low a b c).b = sg d a b := (iY (show c ≠ 0 by omega)).sg h (iP _ _ (by omega)) hc
theorem fW (h : aw d) (ox : Ok x) (oy : Ok y) : sg d (times d x y).a (times d x y).b = sg d x.a x.b * sg d y.a y.b := by
  unfold times
  rw [A2 h (Int.mul_pos ox.c oy.c), AS h]
theorem B7 : sg d one.a one.b = 1 := by
  unfold one sg
  rw [if_neg (by simp), if_pos (by simp)]
theorem aR (h : aw d) (ox : Ok x) (hx : sg d x.a x.b = 1) : norm d x ≠ 0 := h.norm ox (fun e => by subst e; have : sg d aB.a aB.b = 0 := cX.mpr ⟨rfl, rfl⟩; omega)
theorem k6 (ox : Ok x) (hn : norm d x ≠ 0) : times d x (ao d x) = one := by
  have oc := aC hn
  exact ((ai ox).times ox oc ((ai ox).ao ox hn)).eq (au ox oc) jr (ai jr) (by simp only [one]; grind) (by simp only [one]; grind)
theorem dw (h : aw d) (ox : Ok x) (hx : sg d x.a x.b = 1) : sg d (ao d x).a (ao d x).b = 1 := by
  have hn := aR h ox hx
  have e := fW h ox (aC hn)
  rw [k6 ox hn, B7, hx] at e
  omega
theorem Bf (hn : norm d x ≠ 0) (ox : Ok x) : Ok (lean d x) := au (aX ox) (aC hn)
theorem Io : norm d (bR y) = norm d y := by unfold norm bR; grind
theorem qM (h : aw d) (ox : Ok x) (hn : norm d x ≠ 0) : norm d (times d x (bR x)) ≠ 0 := by
  refine h.norm (au ox (aX ox)) (fun e => ?_)
  have r := (ai ox).times (d := d) ox (aX ox) (ai ox).bR
  rw [e] at r
  have := r.a
  simp only [aB, Int.zero_mul, Int.mul_one] at this
  apply hn
  unfold norm
  grind
theorem mZ (h : aw d) (hn : norm d x ≠ 0) (ox : Ok x) : Ok (d6 d x) := by
  have op := aT ox (aX ox)
  exact au (au op op) (aC (qM h ox hn))
theorem K4 (ox : Ok x) (hn : norm d x ≠ 0) : times d (lean d x) x = bR x := by
  have oc := aC hn
  have ol := Bf hn ox
  exact ((((ai ox).bR.times (aX ox) oc ((ai ox).ao ox hn))).times ol ox (ai ox)).eq (au ol ox) (aX ox) (ai ox).bR (by grind) (by grind)
theorem Mf (h : aw d) (ox : Ok x) (hx : sg d x.a x.b = 1) : sg d (lean d x).a (lean d x).b = sg d x.a (-x.b) := by
  have hn := aR h ox hx
  have e := fW h (Bf hn ox) ox
  rw [K4 ox hn, hx, Int.mul_one] at e
  exact e.symm
theorem HI (h : aw d) (ox : Ok x) (hx : sg d x.a x.b = 1) : sg d x.a (-x.b) = sg d (norm d x) 0 := by
  have e := AS (a := x.a) (b := x.b) (p := x.a) (q := -x.b) h
  rw [hx, Int.one_mul] at e
  rw [<- e]
  unfold norm
  congr 1 <;> grind
theorem gM {n : Int} : sg d n 0 = if n = 0 then 0 else if 0 < n then 1 else -1 := by
  unfold sg
  by_cases h : n = 0
  . simp [h]
  . rcases Int.lt_or_gt_of_ne h with z | z
    . rw [if_neg (by omega), if_neg (by omega), if_pos (by omega), if_neg h, if_neg (by omega)]
    . rw [if_neg (by omega), if_pos (by omega), if_neg h, if_pos (by omega)]
theorem HH {n : Int} : sg d 0 n = if n = 0 then 0 else if 0 < n then 1 else -1 := by
  unfold sg
  by_cases h : n = 0
  . simp [h]
  . rcases Int.lt_or_gt_of_ne h with z | z
    . rw [if_neg (by omega), if_neg (by omega), if_pos (by omega), if_neg h, if_neg (by omega)]
    . rw [if_neg (by omega), if_pos (by omega), if_neg h, if_pos (by omega)]
def W (x y : N3) : Int := x.b * y.a - x.a * y.b
theorem Rep.congr {A B C A' B' C' : Int} (h : Rep x A B C) (e1 : A = A') (e2 : B = B') (e3 : C = C') : Rep x A' B' C' := by subst e1 e2 e3; exact h
theorem Rep.neg {A B C : Int} (h : Rep x A B C) : Rep x (-A) (-B) (-C) := ⟨by have := h.c; omega, by rw [Int.mul_neg, Int.neg_mul, h.a], by rw [Int.mul_neg, Int.neg_mul, h.b]⟩
theorem lf1 (a c : Int) : a * c + a * c = c * (2 * a) := by grind
theorem lf2 (b c : Int) : b * c + -b * c = c * 0 := by grind
theorem lf3 (a b d : Int) : a * a + d * b * -b = a * a - d * b * b := by grind
theorem lf4 (a b : Int) : a * -b + b * a = 0 := by grind
theorem lf5 (a c n d : Int) : (2 * a * (2 * a) + d * 0 * 0) * (c * c * n) + d * (2 * a * 0 + 0 * (2 * a)) * (-(c * c) * 0) = c * c * n * (4 * (a * a)) := by grind
theorem lf6 (a c n d : Int) : (2 * a * (2 * a) + d * 0 * 0) * (-(c * c) * 0) + (2 * a * 0 + 0 * (2 * a)) * (c * c * n) = c * c * n * 0 := by grind
theorem lf7 (c n d : Int) : c * c * (n * n - d * 0 * 0) = c * c * n * n := by grind
structure M4 (z x y : N3) : Prop where
  ex : ∃ p q C : Int, 0 < p /\ 0 < q /\ 0 < C /\ Rep z (p * x.a + q * y.a) (p * x.b + q * y.b) C
theorem IM (ox : Ok x) (oy : Ok y) : M4 (plus x y) x y :=
  ⟨y.c, x.c, x.c * y.c, oy.c, ox.c, Int.mul_pos ox.c oy.c, by
    have r := (ai ox).plus ox oy (ai oy)
    exact ⟨r.c, by have := r.a; grind, by have := r.b; grind⟩⟩
theorem M4.pos (hd : aw d) (oz : Ok z) (h : M4 z x y) (hx : sg d x.a x.b = 1) (hy : sg d y.a y.b = 1) : sg d z.a z.b = 1 := by
  obtain ⟨p, q, C, hp, hq, hC, r⟩ := h.ex
  rw [r.sg hd oz hC, iL hd]
  refine Qi hd ?_ ?_
  . rw [<- iL hd, ql hd hp]; exact hx
  . rw [<- iL hd, ql hd hq]; exact hy
theorem Jv (hd : aw d) (ox : Ok x) (hn : norm d x ≠ 0) : Rep (d6 d x) (4 * (x.a * x.a)) 0 (norm d x) := by
  have op := aT ox (aX ox)
  have ot := au (d := d) ox (aX ox)
  have np := qM hd ox hn
  have r1 := (ai ox).plus ox (aX ox) (ai ox).bR
  have r1' : Rep (plus x (bR x)) (2 * x.a) 0 x.c := Rep.div (k := x.c) ox.cn (r1.congr (lf1 ..) (lf2 ..) rfl)
  have r2 := (ai ox).times (d := d) ox (aX ox) (ai ox).bR
  have r2' : Rep (times d x (bR x)) (norm d x) 0 (x.c * x.c) := r2.congr (lf3 ..) (lf4 ..) rfl
  have r3 := (r1'.times (d := d) op op r1').times (d := d) (au op op) (aC np) (r2'.ao ot np)
  have hk : x.c * x.c * norm d x ≠ 0 := Int.mul_ne_zero (wH ox ox) hn
  exact Rep.div hk (r3.congr (lf5 ..) (lf6 ..) (lf7 ..))
end
end NM
set_option Elab.async false
set_option linter.all false
set_option maxRecDepth 100000
set_option maxHeartbeats 4000000
namespace L2.DL
open PySem PySem.Spec PyProof.Rows
abbrev Mu := Addr -> Option (List PyData)
abbrev PQ := PySem.W.Frag -> V -> Mu -> Hp -> Prop
inductive D where
  | v (x : PyData)
  | m (a : Addr)
  | s (ns : List Int)
  /-- an object that is handed on -/
  | o (a : Addr)
  /-- a thing of which something is known that stays -/
  | q (P : PQ)
abbrev Rho := List (Option D)
def aO (μ : Mu) (a : Addr) (ds : List PyData) : Mu := fun b => if b = a then some ds else μ b
theorem bD {μ : Mu} {a : Addr} {ds} : aO μ a ds a = some ds := by unfold aO; rw [if_pos rfl]
theorem bG {μ : Mu} {a b : Addr} {ds} (h : b ≠ a) : aO μ a ds b = μ b := by unfold aO; rw [if_neg h]
theorem mJ {μ : Mu} {a : Addr} {ds es} : aO (aO μ a ds) a es = aO μ a es := by
  funext b; unfold aO; split <;> rfl
mutual
inductive Rp (K : PySem.W.Frag) (μ : Mu) (H : Hp) : PyData -> V -> Prop
  | none : Rp K μ H .none .non
  | bool (b : Bool) : Rp K μ H (.bool b) (.bl b)
  | int (i : Int) : Rp K μ H (.int i) (.int i)
  | str (x : Str) : Rp K μ H (.str x) (.str x)
  | list {a : Addr} {xs : List V} {ds : List PyData} : H a = some (.lst xs) -> μ a = Option.none -> RpL K μ H ds xs -> Rp K μ H (.list ds) (.ref a)
  | tuple {a : Addr} {xs : List V} {ds : List PyData} : SqT K H a xs -> RpL K μ H ds xs -> Rp K μ H (.tuple ds) (.ref a)
inductive RpL (K : PySem.W.Frag) (μ : Mu) (H : Hp) : List PyData -> List V -> Prop
  | nil : RpL K μ H [] []
  | cons {d : PyData} {v : V} {ds : List PyData} {vs : List V} : Rp K μ H d v -> RpL K μ H ds vs -> RpL K μ H (d :: ds) (v :: vs)
end
def NT : HO -> Prop
  | .tbl _ => False
  | _ => True
structure Ext (K : PySem.W.Frag) (μ : Mu) (H : Hp) (μ' : Mu) (H' : Hp) : Prop where
  keep : ∀ b o, H b = some o -> μ b = none -> NT o -> H' b = some o
  tb : ∀ b ps, H b = some (.tbl ps) -> μ b = none -> ∃ ps', H' b = some (.tbl ps')
  dom : ∀ b ds, μ b = some ds -> ∃ es, μ' b = some es
  fresh : ∀ b, μ b = none -> (H b ≠ none \/ K.lookup b ≠ none) -> μ' b = none
def RpD (K : PySem.W.Frag) (μ : Mu) (H : Hp) : D -> V -> Prop
  | .v x, u => Rp K μ H x u
  | .m a, u => u = .ref a /\ ∃ ds, μ a = some ds
  | .s ns, u => ∃ a, u = .ref a /\ SqL K H a (ns.map V.int) /\ μ a = none
  | .o a, u => u = .ref a
  | .q P, u => ∀ μ' H', Ext K μ H μ' H' -> P K u μ' H'
def codeAt (c : Addr) (q : Str) (h : Heap) : Prop := ∃ o vs t, h.get? c = some o /\ o.data = .fields vs /\ vs[1]? = some (.str q t)
abbrev bX (q : Str) : Str := (q ++ ".<locals>.") ++ "<lambda>"
def Rk (H : Hp) (P : Addr) (q : Str) : Prop := ∃ ps : Array Value, H P = some (.tbl ps) /\ TriplesOk ps.toList /\ ∀ pos cv, codeAmong pos ps.toList = some cv -> ∃ c, cv = .ref c /\ H c = some (.ext (codeAt c (bX q)))
def zY (K : PySem.W.Frag) (H : Hp) : Prop := ∀ c o P q, K.lookup c = some o -> cb o = some (P, q) -> Rk H P q
structure cw (K : PySem.W.Frag) (μ : Mu) (H : Hp) : Prop where
  lst : ∀ a ds, μ a = some ds -> ∃ xs, H a = some (.lst xs) /\ RpL K μ H ds xs
  tab : zY K H
instance {K : PySem.W.Frag} {μ : Mu} {H : Hp} : CoeFun (cw K μ H) fun _ => ∀ a ds, μ a = some ds -> ∃ xs, H a = some (.lst xs) /\ RpL K μ H ds xs := ⟨cw.lst⟩
theorem zY.of {K : PySem.W.Frag} {H H1 : Hp} (t : zY K H) (s : ∀ b o, H b = some o -> (∀ xs, o ≠ .lst xs) -> H1 b = some o) : zY K H1 := fun c o P q h1 h2 => by
  obtain ⟨ps, a1, a2, a3⟩ := t c o P q h1 h2
  exact ⟨ps, s _ _ a1 (fun _ z => nomatch z), a2, fun pos cv e => let ⟨c, q1, q2⟩ := a3 pos cv e; ⟨c, q1, s _ _ q2 (fun _ z => nomatch z)⟩⟩
def fz (K : PySem.W.Frag) (μ : Mu) (H : Hp) (ρ : Rho) (σ : St) : Prop :=
  ρ.length = σ.length /\ ∀ (i : Nat) (d : D), ρ[i]? = some (some d) -> ∃ u, σ[i]? = some (some u) /\ RpD K μ H d u
structure St0 (K : PySem.W.Frag) (H : Hp) (ρ : Rho) (μ : Mu) (σ : St) : Prop where
  mu : cw K μ H
  rho : fz K μ H ρ σ
section
variable {K : PySem.W.Frag} {μ μ1 μ2 : Mu} {H H1 H2 : Hp}
theorem Ext.refl : Ext K μ H μ H := ⟨fun _ _ h _ _ => h, fun _ ps h _ => ⟨ps, h⟩, fun _ ds h => ⟨ds, h⟩, fun _ h _ => h⟩
theorem Ext.trans (a : Ext K μ H μ1 H1) (b : Ext K μ1 H1 μ2 H2) : Ext K μ H μ2 H2 where
  keep := fun c o h n t => b.keep c o (a.keep c o h n t) (a.fresh c n (.inl (by rw [h]; exact fun z => nomatch z))) t
  tb := fun c ps h n => by
    obtain ⟨ps1, h1⟩ := a.tb c ps h n
    exact b.tb c ps1 h1 (a.fresh c n (.inl (by rw [h]; exact fun z => nomatch z)))
  dom := fun c ds h => let ⟨es, q⟩ := a.dom c ds h; b.dom c es q
  fresh := fun c n h => by
    refine b.fresh c (a.fresh c n h) ?_
    rcases h with h | h
    . cases q : H c with
      | none => exact absurd q h
      | some o =>
        by_cases t : NT o
        . exact .inl (by rw [a.keep c o q n t]; exact fun z => nomatch z)
        . cases o with
          | tbl ps =>
            obtain ⟨ps1, h1⟩ := a.tb c ps q n
            exact .inl (by rw [h1]; exact fun z => nomatch z)
          | _ => exact absurd trivial t
    . exact .inr h
theorem Ext.of_same (s : qo H H1) : Ext K μ H μ H1 := ⟨fun b o h _ _ => s b o h, fun b ps h _ => ⟨ps, s b _ h⟩, fun _ ds h => ⟨ds, h⟩, fun _ h _ => h⟩
theorem cw.not {a : Addr} {o : HO} (ok : cw K μ H) (h : H a = some o) (n : ∀ xs, o ≠ .lst xs) : μ a = none := by
  cases q : μ a with
  | none => rfl
  | some ds =>
    obtain ⟨ys, e, _⟩ := ok a ds q
    rw [h] at e
    exact absurd (Option.some.inj e) (n ys)
theorem cw.free {a : Addr} (ok : cw K μ H) (h : H a = none) : μ a = none := by
  cases q : μ a with
  | none => rfl
  | some ds =>
    obtain ⟨ys, e, _⟩ := ok a ds q
    rw [h] at e; cases e
theorem Bm {a : Addr} {xs : List V} (ok : cw K μ H) (e : Ext K μ H μ1 H1) (h : SqT K H a xs) : SqT K H1 a xs := by
  rcases h with (h | ⟨o, h⟩) | h
  . exact .inl (.inl (e.keep _ _ h (ok.not h fun _ z => nomatch z) trivial))
  . exact .inl (.inr ⟨o, e.keep _ _ h (ok.not h fun _ z => nomatch z) trivial⟩)
  . exact .inr h
theorem Hk {a : Addr} {xs : List V} (e : Ext K μ H μ1 H1) (h : SqL K H a xs) (n : μ a = none) : SqL K H1 a xs /\ μ1 a = none := by
  rcases h with (h | ⟨o, h⟩) | h
  . exact ⟨.inl (.inl (e.keep _ _ h n trivial)), e.fresh _ n (.inl (by rw [h]; exact fun z => nomatch z))⟩
  . exact ⟨.inl (.inr ⟨o, e.keep _ _ h n trivial⟩), e.fresh _ n (.inl (by rw [h]; exact fun z => nomatch z))⟩
  . obtain ⟨o, its, k, hk, r⟩ := id h
    exact ⟨.inr h, e.fresh _ n (.inr (by rw [hk]; exact fun z => nomatch z))⟩
mutual
theorem Rp.ext {d : PyData} {u : V} (ok : cw K μ H) (e : Ext K μ H μ1 H1) : Rp K μ H d u -> Rp K μ1 H1 d u
  | .none => .none
  | .bool b => .bool b
  | .int i => .int i
  | .str x => .str x
  | .list h n r => .list (e.keep _ _ h n trivial) (e.fresh _ n (.inl (by rw [h]; exact fun z => nomatch z))) (RpL.ext ok e r)
  | .tuple h r => .tuple (Bm ok e h) (RpL.ext ok e r)
theorem RpL.ext {ds : List PyData} {us : List V} (ok : cw K μ H) (e : Ext K μ H μ1 H1) : RpL K μ H ds us -> RpL K μ1 H1 ds us
  | .nil => .nil
  | .cons h r => .cons (Rp.ext ok e h) (RpL.ext ok e r)
end
theorem RpD.ext {d : D} {u : V} (ok : cw K μ H) (e : Ext K μ H μ1 H1) (r : RpD K μ H d u) : RpD K μ1 H1 d u := by
  cases d with
  | v x => exact Rp.ext ok e r
  | m a => obtain ⟨h, ds, q⟩ := r; exact ⟨h, e.dom a ds q⟩
  | s ns => obtain ⟨a, h, q, n⟩ := r; exact ⟨a, h, (Hk e q n).1, (Hk e q n).2⟩
  | o a => exact r
  | q P => exact fun μ' H' e' => r μ' H' (e.trans e')
theorem fz.ext {ρ : Rho} {σ : St} (ok : cw K μ H) (e : Ext K μ H μ1 H1) (r : fz K μ H ρ σ) : fz K μ1 H1 ρ σ :=
  ⟨r.1, fun i d h => let ⟨u, h1, h2⟩ := r.2 i d h; ⟨u, h1, h2.ext ok e⟩⟩
theorem RpL.length {ds : List PyData} {us : List V} : RpL K μ H ds us -> ds.length = us.length
  | .nil => rfl
  | .cons _ r => congrArg (· + 1) (RpL.length r)
theorem RpL.get {ds : List PyData} {us : List V} : ∀ {i : Nat} {d : PyData}, RpL K μ H ds us -> ds[i]? = some d -> ∃ u, us[i]? = some u /\ Rp K μ H d u
  | _, _, .nil, h => by simp at h
  | 0, _, .cons r _, h => by simp at h; subst h; exact ⟨_, rfl, r⟩
  | i + 1, d, .cons _ t, h => by
    obtain ⟨u, h1, h2⟩ := RpL.get (i := i) (d := d) t (by simpa using h)
    exact ⟨u, by simpa using h1, h2⟩
theorem RpL.append {ds es : List PyData} {us ws : List V} : RpL K μ H ds us -> RpL K μ H es ws -> RpL K μ H (ds ++ es) (us ++ ws)
  | .nil, s => s
  | .cons r t, s => .cons r (RpL.append t s)
theorem RpL.take {ds : List PyData} {us : List V} : ∀ (n : Nat), RpL K μ H ds us -> RpL K μ H (ds.take n) (us.take n)
  | 0, _ => by simp; exact .nil
  | _ + 1, .nil => by simp; exact .nil
  | n + 1, .cons r t => .cons r (RpL.take n t)
theorem RpL.drop {ds : List PyData} {us : List V} : ∀ (n : Nat), RpL K μ H ds us -> RpL K μ H (ds.drop n) (us.drop n)
  | 0, r => r
  | _ + 1, .nil => by simp; exact .nil
  | n + 1, .cons _ t => RpL.drop n t
theorem RpL.reverse {ds : List PyData} {us : List V} : RpL K μ H ds us -> RpL K μ H ds.reverse us.reverse
  | .nil => .nil
  | .cons r t => by rw [List.reverse_cons, List.reverse_cons]; exact (RpL.reverse t).append (.cons r .nil)
theorem RpL.set {ds : List PyData} {us : List V} {d : PyData} {u : V} (q : Rp K μ H d u) : ∀ (i : Nat), RpL K μ H ds us -> RpL K μ H (ds.set i d) (us.set i u)
  | _, .nil => .nil
  | 0, .cons _ t => .cons q t
  | i + 1, .cons r t => .cons r (RpL.set q i t)
theorem FK {ds : List PyData} {us : List V} {i : Int} {d : PyData} (r : RpL K μ H ds us) (h : atI ds i = some d) : ∃ u, atI us i = some u /\ Rp K μ H d u := by
  unfold atI at h ⊢
  rw [<- r.length]
  cases q : ixN ds.length i with
  | none => rw [q] at h; cases h
  | some j =>
    rw [q] at h
    exact r.get h
abbrev DK := D -> Mu -> Prop
abbrev DTE := Rho -> Mu -> DK -> Prop
abbrev DTT := Rho -> Mu -> (Bool -> Mu -> Prop) -> Prop
abbrev DTA := Rho -> Mu -> (List D -> Mu -> Prop) -> Prop
structure KC where
  nx : Rho -> Mu -> Prop
  rt : DK
  bk : Rho -> Mu -> Prop := fun _ _ => False
  ct : Rho -> Mu -> Prop := fun _ _ => False
abbrev DTS := KC -> Rho -> Mu -> Prop
inductive jT (K : PySem.W.Frag) (μ : Mu) (H : Hp) : List D -> List V -> Prop
  | nil : jT K μ H [] []
  | cons {d : D} {u : V} {ds : List D} {us : List V} : RpD K μ H d u -> jT K μ H ds us -> jT K μ H (d :: ds) (u :: us)
theorem jT.ext {ds : List D} {us : List V} (ok : cw K μ H) (e : Ext K μ H μ1 H1) : jT K μ H ds us -> jT K μ1 H1 ds us
  | .nil => .nil
  | .cons h r => .cons (h.ext ok e) (jT.ext ok e r)
theorem jT.length {ds : List D} {us : List V} : jT K μ H ds us -> ds.length = us.length
  | .nil => rfl
  | .cons _ r => congrArg (· + 1) (jT.length r)
end
def tZ (K : PySem.W.Frag) (t : TE) (td : DTE) : Prop := ∀ (σ : St) (H : Hp) (ρ : Rho) (μ : Mu) (Qd : DK) (Q : VK), St0 K H ρ μ σ -> td ρ μ Qd ->
  (∀ d u μ' H', Ext K μ H μ' H' -> St0 K H' ρ μ' σ -> RpD K μ' H' d u -> Qd d μ' -> Q u H') -> t σ H Q
def LB (K : PySem.W.Frag) (t : TT) (td : DTT) : Prop := ∀ (σ : St) (H : Hp) (ρ : Rho) (μ : Mu) (Qd : Bool -> Mu -> Prop) (Q : Bool -> Hp -> Prop), St0 K H ρ μ σ -> td ρ μ Qd ->
  (∀ b μ' H', Ext K μ H μ' H' -> St0 K H' ρ μ' σ -> Qd b μ' -> Q b H') -> t σ H Q
def Nl (K : PySem.W.Frag) (n : Nat) (t : TA) (td : DTA) : Prop := ∀ (σ : St) (H : Hp) (ρ : Rho) (μ : Mu) (Qd : List D -> Mu -> Prop) (Q : List V -> Hp -> Prop), St0 K H ρ μ σ -> td ρ μ Qd ->
  (∀ ds us μ' H', Ext K μ H μ' H' -> St0 K H' ρ μ' σ -> jT K μ' H' ds us -> ds.length = n -> Qd ds μ' -> Q us H') -> t σ H Q
def Ap (K : PySem.W.Frag) (t : TS) (td : DTS) : Prop := ∀ (σ : St) (H : Hp) (ρ : Rho) (μ : Mu) (Dd : KC) (De : Ends), St0 K H ρ μ σ -> td Dd ρ μ ->
  (∀ σ' ρ' μ' H', Ext K μ H μ' H' -> St0 K H' ρ' μ' σ' -> Dd.nx ρ' μ' -> De.nx σ' H') ->
  (∀ d u μ' H', Ext K μ H μ' H' -> cw K μ' H' -> RpD K μ' H' d u -> Dd.rt d μ' -> De.rt u H') ->
  (∀ σ' ρ' μ' H', Ext K μ H μ' H' -> St0 K H' ρ' μ' σ' -> Dd.bk ρ' μ' -> De.bk σ' H') ->
  (∀ σ' ρ' μ' H', Ext K μ H μ' H' -> St0 K H' ρ' μ' σ' -> Dd.ct ρ' μ' -> De.ct σ' H') -> t De σ H
def DE (X : Cx) (e : Expr) (td : DTE) : Prop := ∃ t, PE X e t /\ tZ X.K t td
def DT (X : Cx) (e : Expr) (td : DTT) : Prop := ∃ t, PT X e t /\ LB X.K t td
def DA (X : Cx) (es : List Expr) (td : DTA) : Prop := ∃ t, PA X es t /\ Nl X.K es.length t td
def DS (X : Cx) (st : Stmt) (td : DTS) : Prop := ∃ t, PS X st t /\ Ap X.K t td
def DSs (X : Cx) (st : List Stmt) (td : DTS) : Prop := ∃ t, PSs X st t /\ Ap X.K t td
section
variable {X : Cx} {a b c : Expr} {ta tb tc : DTE} {pos : Pos}
def ag (i : Nat) : DTE := fun ρ μ Q => match ρ[i]? with
  | some (some d) => Q d μ
  | _ => False
def dC (x : PyData) : DTE := fun _ μ Q => Q (.v x) μ
theorem KS {K : PySem.W.Frag} (i : Nat) : tZ K (Oc i) (ag i) := by
  intro σ H ρ μ Qd Q S h k
  unfold ag at h
  split at h
  . rename_i d e
    obtain ⟨u, h1, h2⟩ := S.rho.2 i d e
    exact ⟨u, h1, k d u μ H .refl S h2 h⟩
  . exact h.elim
theorem dv (i : Nat) {x : Str} {pos : Pos} (hN : X.N[i]? = some x := by rfl) (hv : Vis X.env.scope x := by first | exact Or.inl rfl | exact Or.inr (Or.inl rfl) | exact Or.inr (Or.inr rfl)) (hd : (x == ("__debug__" : Str)) = false := by decide)
    (hcd : (x == ("__classdict__" : Str)) = false := by decide) : DE X (.Name x pos) (ag i) := ⟨_, Fl hN hv hd hcd, KS i⟩
theorem x8 {K : PySem.W.Frag} {x : PyData} {u : V} (h : ∀ μ H, cw K μ H -> Rp K μ H x u) : tZ K (tC u) (dC x) := fun σ H ρ μ Qd Q S q k => k (.v x) u μ H .refl S (h μ H S.mu) q
theorem af {i j pos} : DE X (.Constant (.int i) j pos) (dC (.int i)) := ⟨_, NJ, x8 fun _ _ _ => .int i⟩
theorem hR {i j pos} : DE X (.Constant (.bool i) j pos) (dC (.bool i)) := ⟨_, PY, x8 fun _ _ _ => .bool i⟩
theorem E7 {j pos} : DE X (.Constant .none j pos) (dC .none) := ⟨_, Pd, x8 fun _ _ _ => .none⟩
theorem bz {x j pos} : DE X (.Constant (.str x) j pos) (dC (.str x)) := ⟨_, KP, x8 fun _ _ _ => .str x⟩
theorem L3 {x : Str} {d : PyData} {u : V} {w : Value} {pos : Pos} (hg : Gl X x) (hm : X.mg x = some w) (r : RelV u w) (h : ∀ μ H, cw X.K μ H -> Rp X.K μ H d u) (hd : (x == ("__debug__" : Str)) = false := by decide) : DE X (.Name x pos) (dC d) :=
  ⟨_, G4 hg hm r hd, x8 h⟩
def kW (K : PySem.W.Frag) (rr : R2) (r : D -> D -> Mu -> DK -> Prop) : Prop := ∀ (x y : D) (ux uy : V) (H : Hp) (μ : Mu) (Qd : DK) (Q : VK), cw K μ H -> RpD K μ H x ux -> RpD K μ H y uy -> r x y μ Qd ->
  (∀ d u μ' H', Ext K μ H μ' H' -> cw K μ' H' -> RpD K μ' H' d u -> Qd d μ' -> Q u H') -> rr ux uy H Q
def dOp (r : D -> D -> Mu -> DK -> Prop) (ta tb : DTE) : DTE := fun ρ μ Q => ta ρ μ fun x μ1 => tb ρ μ1 fun y μ2 => r x y μ2 Q
theorem w9 {K : PySem.W.Frag} {rr : R2} {r} {t1 t2 : TE} (lo : kW K rr r) (la : tZ K t1 ta) (lb : tZ K t2 tb) : tZ K (tOp rr t1 t2) (dOp r ta tb) := by
  intro σ H ρ μ Qd Q S h k
  refine la σ H ρ μ _ _ S h fun x ux μ1 H1 e1 S1 rx h1 => ?_
  refine lb σ H1 ρ μ1 _ _ S1 h1 fun y uy μ2 H2 e2 S2 ry h2 => ?_
  exact lo x y ux uy H2 μ2 _ _ S2.mu (rx.ext S1.mu e2) ry h2 fun d u μ' H' e3 ok r q => k d u μ' H' (e1.trans (e2.trans e3)) ⟨ok, S2.rho.ext S2.mu e3⟩ r q
theorem xP {op : Operator} {rr : R2} {r} (ho : OpR X (binaryOp op) rr) (lo : kW X.K rr r) (ha : DE X a ta) (hb : DE X b tb) : DE X (.BinOp a op b pos) (dOp r ta tb) := by
  obtain ⟨t1, p1, l1⟩ := ha
  obtain ⟨t2, p2, l2⟩ := hb
  exact ⟨_, Qa ho p1 p2, w9 lo l1 l2⟩
theorem jt {op : CmpOp} {rr : R2} {r} (ho : OpR X (compareOp op) rr) (lo : kW X.K rr r) (ha : DE X a ta) (hb : DE X b tb) (hm : behindInMarks op b = false) : DE X (.Compare a [op] [b] pos) (dOp r ta tb) := by
  obtain ⟨t1, p1, l1⟩ := ha
  obtain ⟨t2, p2, l2⟩ := hb
  exact ⟨_, MW ho p1 p2 hm, w9 lo l1 l2⟩
def dB (t : DTE) : DTT := fun ρ μ Q => t ρ μ fun d μ1 => match d with
  | .v (.bool k) => Q k μ1
  | _ => False
theorem AA {K : PySem.W.Frag} {t : TE} {td : DTE} (l : tZ K t td) : LB K (Nx t) (dB td) := by
  intro σ H ρ μ Qd Q S h k
  refine l σ H ρ μ _ _ S h fun d u μ1 H1 e1 S1 r q => ?_
  split at q
  . rename_i b
    cases r
    exact ⟨b, rfl, k b μ1 H1 e1 S1 q⟩
  . exact q.elim
theorem bu {op : CmpOp} {rr : R2} {r} (ho : OpR X (compareOp op) rr) (lo : kW X.K rr r) (ha : DE X a ta) (hb : DE X b tb) (hm : behindInMarks op b = false) : DT X (.Compare a [op] [b] pos) (dB (dOp r ta tb)) := by
  obtain ⟨t1, p1, l1⟩ := ha
  obtain ⟨t2, p2, l2⟩ := hb
  exact ⟨_, Mk ho p1 p2 hm, AA (w9 lo l1 l2)⟩
theorem eh {e : Expr} {td : DTE} (h : DE X e td) (he : ∀ whole, isTrue e X.env whole = (do let v <- whole; standAt e.pos; holding [v] (truthy v)) := by intro _; rfl) : DT X e (dB td) := by
  obtain ⟨t, p, l⟩ := h
  exact ⟨_, OM p he, AA l⟩
def rII (C : Int -> Int -> Prop) (g : Int -> Int -> PyData) : D -> D -> Mu -> DK -> Prop := fun x y μ Q => match x, y with
  | .v (.int i), .v (.int j) => C i j /\ Q (.v (g i j)) μ
  | _, _ => False
theorem L6 {K : PySem.W.Frag} {C : Int -> Int -> Prop} {g : Int -> Int -> V} {gd : Int -> Int -> PyData} (hg : ∀ μ H i j, Rp K μ H (gd i j) (g i j)) : kW K (rI C g) (rII C gd) := by
  intro x y ux uy H μ Qd Q ok rx ry h k
  unfold rII at h
  split at h
  . rename_i i j
    cases rx; cases ry
    exact ⟨i, j, rfl, rfl, h.1, k (.v _) _ μ H .refl ok (hg μ H i j) h.2⟩
  . exact h.elim
def zQ (g : Int -> Int -> PyData) : D -> D -> Mu -> DK -> Prop := fun x y μ Q => match x, y with
  | .v (.int i), .v (.int j) => Q (.v (g i j)) μ
  | _, _ => False
theorem G1 {K : PySem.W.Frag} {g : Int -> Int -> V} {gd : Int -> Int -> PyData} (hg : ∀ μ H i j, Rp K μ H (gd i j) (g i j)) : kW K (rI0 g) (zQ gd) := by
  intro x y ux uy H μ Qd Q ok rx ry h k
  unfold zQ at h
  split at h
  . rename_i i j
    cases rx; cases ry
    exact ⟨i, j, rfl, rfl, k (.v _) _ μ H .refl ok (hg μ H i j) h⟩
  . exact h.elim
abbrev mQ (ta tb : DTE) : DTE := dOp (zQ fun i j => .int (i + j)) ta tb
abbrev mv (ta tb : DTE) : DTE := dOp (zQ fun i j => .int (i - j)) ta tb
abbrev MulOk (i j : Int) : Prop := IntMulOk i j
abbrev cT (ta tb : DTE) : DTE := dOp (rII MulOk fun i j => .int (i * j)) ta tb
abbrev wy (ta tb : DTE) : DTE := dOp (rII (fun _ j => j ≠ 0) fun i j => .int (i.fmod j)) ta tb
abbrev v5 (i j : Int) : Prop := j ≠ 0 /\ Builtin.divisionGoesByPylong i j = false
abbrev zd (ta tb : DTE) : DTE := dOp (rII v5 fun i j => .int (i.fdiv j)) ta tb
abbrev L4 (ta tb : DTE) : DTE := dOp (rII OC fun i j => .int (i ^ j.toNat)) ta tb
theorem MB : OpR X (binaryOp .Mult) (rI MulOk fun i j => .int (i * j)) := opI fun _ _ _ _ _ _ _ hc q => mul_int q hc
theorem MD : OpR X (binaryOp .FloorDiv) (rI v5 fun i j => .int (i.fdiv j)) := opI fun _ _ _ _ _ _ _ hc q => floordiv_int hc.1 q (.inl hc.2)
theorem eP (ha : DE X a ta) (hb : DE X b tb) : DE X (.BinOp a .Add b pos) (mQ ta tb) := xP JL (G1 fun _ _ _ _ => .int _) ha hb
theorem ez (ha : DE X a ta) (hb : DE X b tb) : DE X (.BinOp a .Sub b pos) (mv ta tb) := xP N4 (G1 fun _ _ _ _ => .int _) ha hb
theorem bb (ha : DE X a ta) (hb : DE X b tb) : DE X (.BinOp a .Mult b pos) (cT ta tb) := xP MB (L6 fun _ _ _ _ => .int _) ha hb
theorem kY (ha : DE X a ta) (hb : DE X b tb) : DE X (.BinOp a .Mod b pos) (wy ta tb) := xP M0 (L6 fun _ _ _ _ => .int _) ha hb
theorem mm (ha : DE X a ta) (hb : DE X b tb) : DE X (.BinOp a .FloorDiv b pos) (zd ta tb) := xP MD (L6 fun _ _ _ _ => .int _) ha hb
theorem Gh (ha : DE X a ta) (hb : DE X b tb) : DE X (.BinOp a .Pow b pos) (L4 ta tb) := xP N2 (L6 fun _ _ _ _ => .int _) ha hb
abbrev rLt := zQ fun i j => .bool (decide (i < j))
abbrev rLe := zQ fun i j => .bool (decide (i <= j))
abbrev rGt := zQ fun i j => .bool (decide (j < i))
abbrev rGe := zQ fun i j => .bool (decide (j <= i))
theorem gk {K : PySem.W.Frag} {p : Int -> Int -> Bool} : kW K (rI0 fun i j => .bl (p i j)) (zQ fun i j => .bool (p i j)) := G1 fun _ _ _ _ => .bool _
def tJ (ta : DTE) : DTE := fun ρ μ Q => ta ρ μ fun x μ1 => match x with
  | .v (.int i) => Q (.v (.int (-i))) μ1
  | _ => False
theorem ke (ha : DE X a ta) : DE X (.UnaryOp .USub a pos) (tJ ta) := by
  obtain ⟨t1, p1, l1⟩ := ha
  refine ⟨_, QF NC p1, fun σ H ρ μ Qd Q S h k => ?_⟩
  refine l1 σ H ρ μ _ _ S h fun x ux μ1 H1 e1 S1 rx h1 => ?_
  split at h1
  . rename_i i
    cases rx
    exact ⟨i, rfl, k (.v _) _ μ1 H1 e1 S1 (Rp.int _) h1⟩
  . exact h1.elim
def yV (t u : DTT) : DTT := fun ρ μ Q => t ρ μ fun c μ1 => if c = true then u ρ μ1 Q else Q false μ1
def ve (t u : DTT) : DTT := fun ρ μ Q => t ρ μ fun c μ1 => if c = true then Q true μ1 else u ρ μ1 Q
def iU (t : DTT) : DTT := fun ρ μ Q => t ρ μ fun c μ1 => Q (!c) μ1
def DW (X : Cx) (e : Expr) (td : DTT) : Prop := ∃ t, PW X e t /\ LB X.K t td
theorem DW.dt {e : Expr} {td : DTT} (h : DW X e td) : DT X e td := let ⟨t, p, l⟩ := h; ⟨t, p.pt, l⟩
variable {tA tB' : DTT} {rest : List Expr}
theorem uF (ha : DT X a tA) : DW X (.BoolOp .And [a] pos) tA := let ⟨t, p, l⟩ := ha; ⟨t, pw_and1 p, l⟩
theorem oN (ha : DT X a tA) : DW X (.BoolOp .Or [a] pos) tA := let ⟨t, p, l⟩ := ha; ⟨t, pw_or1 p, l⟩
theorem xl (ha : DT X a tA) (hb : DW X (.BoolOp .And (b :: rest) pos) tB') : DW X (.BoolOp .And (a :: b :: rest) pos) (yV tA tB') := by
  obtain ⟨t1, p1, l1⟩ := ha
  obtain ⟨t2, p2, l2⟩ := hb
  refine ⟨_, pw_and p1 p2, fun σ H ρ μ Qd Q S h k => ?_⟩
  refine l1 σ H ρ μ _ _ S h fun c μ1 H1 e1 S1 h1 => ?_
  cases c with
  | true =>
    refine zW (l2 σ H1 ρ μ1 _ _ S1 (by simpa using h1) fun c μ2 H2 e2 S2 h2 => k c μ2 H2 (e1.trans e2) S2 h2)
  | false => exact BD (k false μ1 H1 e1 S1 (by simpa using h1))
theorem pD (ha : DT X a tA) (hb : DW X (.BoolOp .Or (b :: rest) pos) tB') : DW X (.BoolOp .Or (a :: b :: rest) pos) (ve tA tB') := by
  obtain ⟨t1, p1, l1⟩ := ha
  obtain ⟨t2, p2, l2⟩ := hb
  refine ⟨_, pw_or p1 p2, fun σ H ρ μ Qd Q S h k => ?_⟩
  refine l1 σ H ρ μ _ _ S h fun c μ1 H1 e1 S1 h1 => ?_
  cases c with
  | true => exact zW (k true μ1 H1 e1 S1 (by simpa using h1))
  | false =>
    refine BD (l2 σ H1 ρ μ1 _ _ S1 (by simpa using h1) fun c μ2 H2 e2 S2 h2 => k c μ2 H2 (e1.trans e2) S2 h2)
theorem fB (ha : DT X a tA) : DT X (.UnaryOp .Not a pos) (iU tA) := by
  obtain ⟨t1, p1, l1⟩ := ha
  refine ⟨_, NN p1, fun σ H ρ μ Qd Q S h k => ?_⟩
  exact l1 σ H ρ μ _ _ S h fun c μ1 H1 e1 S1 h1 => k _ μ1 H1 e1 S1 h1
def Ed (ta tb : DTE) : DTE := fun ρ μ Q => ta ρ μ fun x μ1 => match x with
  | .v (.bool c) => if c = true then tb ρ μ1 Q else Q (.v (.bool false)) μ1
  | _ => False
def Rn (ta tb : DTE) : DTE := fun ρ μ Q => ta ρ μ fun x μ1 => match x with
  | .v (.bool c) => if c = true then Q (.v (.bool true)) μ1 else tb ρ μ1 Q
  | _ => False
def HN (ta : DTE) : DTE := fun ρ μ Q => ta ρ μ fun x μ1 => match x with
  | .v (.bool c) => Q (.v (.bool (!c))) μ1
  | _ => False
theorem Fn {op} (h : DE X a ta) : DE X (.BoolOp op [a] pos) ta := let ⟨t, p, l⟩ := h; ⟨t, N9 p, l⟩
theorem FT (ha : DE X a ta) (hb : DE X (.BoolOp .And (b :: rest) pos) tb) : DE X (.BoolOp .And (a :: b :: rest) pos) (Ed ta tb) := by
  obtain ⟨t1, p1, l1⟩ := ha
  obtain ⟨t2, p2, l2⟩ := hb
  refine ⟨_, OV p1 p2, fun σ H ρ μ Qd Q S h k => ?_⟩
  refine l1 σ H ρ μ _ _ S h fun x ux μ1 H1 e1 S1 rx h1 => ?_
  split at h1
  . rename_i c
    cases rx
    refine ⟨c, rfl, ?_⟩
    cases c with
    | true => exact zW (l2 σ H1 ρ μ1 _ _ S1 (by simpa using h1) fun d u μ2 H2 e2 S2 r2 h2 => k d u μ2 H2 (e1.trans e2) S2 r2 h2)
    | false => exact BD (k (.v _) _ μ1 H1 e1 S1 (Rp.bool false) (by simpa using h1))
  . exact h1.elim
theorem Jy (ha : DE X a ta) : DE X (.UnaryOp .Not a pos) (HN ta) := by
  obtain ⟨t1, p1, l1⟩ := ha
  refine ⟨_, NW p1, fun σ H ρ μ Qd Q S h k => ?_⟩
  refine l1 σ H ρ μ _ _ S h fun x ux μ1 H1 e1 S1 rx h1 => ?_
  split at h1
  . rename_i c
    cases rx
    exact ⟨c, rfl, k (.v _) _ μ1 H1 e1 S1 (Rp.bool _) h1⟩
  . exact h1.elim
def dIf (t : DTT) (ta tb : DTE) : DTE := fun ρ μ Q => t ρ μ fun c μ1 => if c = true then ta ρ μ1 Q else tb ρ μ1 Q
theorem xV {c : Expr} (hc : DT X c tA) (ha : DE X a ta) (hb : DE X b tb) : DE X (.IfExp c a b pos) (dIf tA ta tb) := by
  obtain ⟨t0, p0, l0⟩ := hc
  obtain ⟨t1, p1, l1⟩ := ha
  obtain ⟨t2, p2, l2⟩ := hb
  refine ⟨_, LO p0 p1 p2, fun σ H ρ μ Qd Q S h k => ?_⟩
  refine l0 σ H ρ μ _ _ S h fun c μ1 H1 e1 S1 h1 => ?_
  cases c with
  | true => exact zW (l1 σ H1 ρ μ1 _ _ S1 (by simpa using h1) fun d u μ2 H2 e2 S2 r2 h2 => k d u μ2 H2 (e1.trans e2) S2 r2 h2)
  | false => exact BD (l2 σ H1 ρ μ1 _ _ S1 (by simpa using h1) fun d u μ2 H2 e2 S2 r2 h2 => k d u μ2 H2 (e1.trans e2) S2 r2 h2)
end
open PySem PySem.Spec PyProof.Rows
section
variable {K : PySem.W.Frag} {μ μ1 : Mu} {H H1 : Hp} {p : Addr}
theorem cY {o : HO} (h : H p = none) : Ext K μ H μ (upd H p o) :=
  ⟨fun b u e _ _ => by rw [bF (aZ e h)]; exact e, fun b ps e _ => ⟨ps, by rw [bF (aZ e h)]; exact e⟩, fun _ ds q => ⟨ds, q⟩, fun _ q _ => q⟩
theorem cw.Kr (ok : cw K μ H) (e : Ext K μ H μ H1) (s : qo H H1) : cw K μ H1 := ⟨fun a ds q => by
  obtain ⟨xs, h1, h2⟩ := ok a ds q
  exact ⟨xs, s _ _ h1, h2.ext ok e⟩, ok.tab.of fun b o h _ => s b o h⟩
theorem KR {o : HO} (h : H p = none) : qo H (upd H p o) := fun b u q => by rw [bF (aZ q h)]; exact q
theorem cw.new {o : HO} (ok : cw K μ H) (h : H p = none) : cw K μ (upd H p o) := ok.Kr (cY h) (KR h)
theorem St0.new {o : HO} {ρ : Rho} {σ : St} (S : St0 K H ρ μ σ) (h : H p = none) : St0 K (upd H p o) ρ μ σ := ⟨S.mu.new h, S.rho.ext S.mu (cY h)⟩
theorem kT {us : List V} {ds : List PyData} (ok : cw K μ H) (r : RpL K μ H ds us) (h : H p = none) : Rp K μ (upd H p (.tup us)) (.tuple ds) (.ref p) :=
  .tuple (SqT.of cL) (r.ext ok (cY h))
theorem jc {us : List V} {ds : List PyData} (ok : cw K μ H) (r : RpL K μ H ds us) (h : H p = none) : Rp K μ (upd H p (.lst us)) (.list ds) (.ref p) :=
  .list cL (ok.free h) (r.ext ok (cY h))
theorem lN {o : HO} {ds : List PyData} (ok : cw K μ H) (h : H p = none) (hk : K.lookup p = none) : Ext K μ H (aO μ p ds) (upd H p o) where
  keep := fun b u e _ _ => by rw [bF (aZ e h)]; exact e
  tb := fun b ps e _ => ⟨ps, by rw [bF (aZ e h)]; exact e⟩
  dom := fun b es q => by
    have : b ≠ p := fun z => by rw [z, ok.free h] at q; cases q
    exact ⟨es, by rw [bG this]; exact q⟩
  fresh := fun b n q => by
    have : b ≠ p := fun z => by
      rcases q with q | q
      . exact q (by rw [z]; exact h)
      . exact q (by rw [z]; exact hk)
    rw [bG this]; exact n
theorem cw.mut {us : List V} {ds : List PyData} (ok : cw K μ H) (r : RpL K μ H ds us) (h : H p = none) (hk : K.lookup p = none) : cw K (aO μ p ds) (upd H p (.lst us)) := ⟨fun a es q => by
  have e := lN (o := .lst us) (ds := ds) ok h hk
  by_cases ha : a = p
  . subst ha
    rw [bD] at q
    cases q
    exact ⟨us, cL, r.ext ok e⟩
  . rw [bG ha] at q
    obtain ⟨xs, h1, h2⟩ := ok a es q
    exact ⟨xs, by rw [bF ha]; exact h1, h2.ext ok e⟩, ok.tab.of fun b o e _ => by rw [bF (aZ e h)]; exact e⟩
theorem qK {o : HO} {ds es : List PyData} (h : μ p = some ds) : Ext K μ H (aO μ p es) (upd H p o) where
  keep := fun b u e n _ => by
    have : b ≠ p := fun z => by rw [z, h] at n; cases n
    rw [bF this]; exact e
  tb := fun b ps e n => by
    have : b ≠ p := fun z => by rw [z, h] at n; cases n
    exact ⟨ps, by rw [bF this]; exact e⟩
  dom := fun b fs q => by
    by_cases hb : b = p
    . subst hb; exact ⟨es, bD⟩
    . exact ⟨fs, by rw [bG hb]; exact q⟩
  fresh := fun b n q => by
    have : b ≠ p := fun z => by rw [z, h] at n; cases n
    rw [bG this]; exact n
theorem cw.set {us : List V} {ds es : List PyData} (ok : cw K μ H) (h : μ p = some ds) (r : RpL K μ H es us) : cw K (aO μ p es) (upd H p (.lst us)) := ⟨fun a fs q => by
  have e : Ext K μ H (aO μ p es) (upd H p (.lst us)) := qK h
  by_cases ha : a = p
  . subst ha
    rw [bD] at q
    cases q
    exact ⟨us, cL, r.ext ok e⟩
  . rw [bG ha] at q
    obtain ⟨xs, h1, h2⟩ := ok a fs q
    exact ⟨xs, by rw [bF ha]; exact h1, h2.ext ok e⟩, by
  obtain ⟨ys, hy, _⟩ := ok p ds h
  exact ok.tab.of fun b o e n => by
    have : b ≠ p := fun z => by rw [z, hy] at e; exact n ys (Option.some.inj e).symm
    rw [bF this]; exact e⟩
end
def d9 : List D -> Option (List PyData)
  | [] => some []
  | .v x :: r => (d9 r).map (x :: ·)
  | _ :: _ => none
theorem jT.data {K : PySem.W.Frag} {μ : Mu} {H : Hp} : ∀ {ds : List D} {us : List V} {xs : List PyData}, jT K μ H ds us -> d9 ds = some xs -> RpL K μ H xs us
  | _, _, _, .nil, e => by cases e; exact .nil
  | .v x :: r, _, xs, .cons h t, e => by
    simp only [d9] at e
    cases q : d9 r with
    | none => rw [q] at e; cases e
    | some ys => rw [q] at e; cases e; exact .cons h (jT.data t q)
  | .m _ :: _, _, _, .cons _ _, e => by simp [d9] at e
  | .s _ :: _, _, _, .cons _ _, e => by simp [d9] at e
  | .o _ :: _, _, _, .cons _ _, e => by simp [d9] at e
section
variable {X : Cx} {e : Expr} {es : List Expr} {te : DTE} {t : DTA} {pos : Pos}
def ar : DTA := fun _ μ Q => Q [] μ
def ae (ta : DTE) (tr : DTA) : DTA := fun ρ μ Q => ta ρ μ fun x μ1 => tr ρ μ1 fun xs μ2 => Q (x :: xs) μ2
theorem ah : DA X [] ar := ⟨_, nV, fun σ H ρ μ Qd Q S h k => k [] [] μ H .refl S .nil rfl h⟩
theorem aa (ha : DE X e te) (hr : DA X es t) (hs : starEach (e :: es) X.env = (false, eval e X.env) :: starEach es X.env := by rfl) : DA X (e :: es) (ae te t) := by
  obtain ⟨t1, p1, l1⟩ := ha
  obtain ⟨t2, p2, l2⟩ := hr
  refine ⟨_, gy p1 p2 hs, fun σ H ρ μ Qd Q S h k => ?_⟩
  refine l1 σ H ρ μ _ _ S h fun x ux μ1 H1 e1 S1 rx h1 => ?_
  refine l2 σ H1 ρ μ1 _ _ S1 h1 fun xs us μ2 H2 e2 S2 rs len h2 => ?_
  exact k (x :: xs) (ux :: us) μ2 H2 (e1.trans e2) S2 (.cons (rx.ext S1.mu e2) rs) (by rw [List.length_cons, List.length_cons, len]) h2
def bC (t : DTA) : DTE := fun ρ μ Q => t ρ μ fun ds μ1 => match d9 ds with
  | some xs => Q (.v (.tuple xs)) μ1
  | none => False
def jj (t : DTA) : DTE := fun ρ μ Q => t ρ μ fun ds μ1 => match d9 ds with
  | some xs => Q (.v (.list xs)) μ1
  | none => False
def Hb (t : DTA) : DTE := fun ρ μ Q => t ρ μ fun ds μ1 => match d9 ds with
  | some xs => ∀ p, μ1 p = none -> Q (.m p) (aO μ1 p xs)
  | none => False
theorem aI {x1} (h : DA X es t) (hl : es.length <= 1000 := by decide) : DE X (.Tuple es x1 pos) (bC t) := by
  obtain ⟨t1, p1, l1⟩ := h
  refine ⟨_, K0 p1, fun σ H ρ μ Qd Q S h k => ?_⟩
  refine l1 σ H ρ μ _ _ S h fun ds us μ1 H1 e1 S1 rs len h1 => ?_
  cases q : d9 ds with
  | none => rw [q] at h1; exact h1.elim
  | some xs =>
    rw [q] at h1
    refine ⟨Nat.le_of_lt (eV (by rw [<- rs.length, len]; exact hl)), fun p hp => ?_⟩
    exact k (.v (.tuple xs)) _ μ1 _ (e1.trans (cY hp)) (S1.new hp) (kT S1.mu (rs.data q) hp) h1
theorem da (h : DA X es t) (hl : es.length <= 1000 := by decide) : DE X (.List es pos) (jj t) := by
  obtain ⟨t1, p1, l1⟩ := h
  refine ⟨_, Lj p1, fun σ H ρ μ Qd Q S h k => ?_⟩
  refine l1 σ H ρ μ _ _ S h fun ds us μ1 H1 e1 S1 rs len h1 => ?_
  cases q : d9 ds with
  | none => rw [q] at h1; exact h1.elim
  | some xs =>
    rw [q] at h1
    refine ⟨Nat.le_of_lt (eV (by rw [<- rs.length, len]; exact hl)), fun p hp => ?_⟩
    exact k (.v (.list xs)) _ μ1 _ (e1.trans (cY hp)) (S1.new hp) (jc S1.mu (rs.data q) hp) h1
def QM (K : PySem.W.Frag) (t : TA) : TE := fun σ H Q => t σ H fun xs H1 => xs.length ≤ sizeLine /\ ∀ p, H1 p = none -> K.lookup p = none -> Q (.ref p) (upd H1 p (.lst xs))
theorem MJ {t : TA} (h : PA X es t) : PE X (.List es pos) (QM X.K t) := by
  intro pins s σ H Q I hq
  refine wpAny_List_spliced (thn (h pos pins s σ H _ I hq) fun us s1 ⟨xs, H1, I1, r, z, q⟩ => ⟨by rw [<- r.length]; exact z, ?_⟩)
  have hf : H1 s1.heap.objs.size = none := I1.hok.fresh (Nat.le_refl _)
  have hk : X.K.lookup s1.heap.objs.size = none := by
    cases c : X.K.lookup s1.heap.objs.size with
    | none => rfl
    | some o => exact absurd (Heap.lt_size (I1.kIn _ _ c)) (Nat.lt_irrefl _)
  refine ⟨.ref s1.heap.objs.size, upd H1 s1.heap.objs.size (.lst xs), I1.laid (t' := s1.toks) (fun b u e => Heap.get?_push_of_some _ e) (Nat.le_refl _) ?_, rfl, q _ hf hk⟩
  exact ⟨z, us, 0, r, Heap.get?_push_size _ rfl⟩
theorem Hu (h : DA X es t) (hl : es.length <= 1000 := by decide) : DE X (.List es pos) (Hb t) := by
  obtain ⟨t1, p1, l1⟩ := h
  refine ⟨_, MJ p1, fun σ H ρ μ Qd Q S h k => ?_⟩
  refine l1 σ H ρ μ _ _ S h fun ds us μ1 H1 e1 S1 rs len h1 => ?_
  cases q : d9 ds with
  | none => rw [q] at h1; exact h1.elim
  | some xs =>
    rw [q] at h1
    refine ⟨Nat.le_of_lt (eV (by rw [<- rs.length, len]; exact hl)), fun p hp hk => ?_⟩
    have ex := lN (o := .lst us) (ds := xs) S1.mu hp hk
    exact k (.m p) _ (aO μ1 p xs) _ (e1.trans ex) ⟨S1.mu.mut (rs.data q) hp hk, S1.rho.ext S1.mu ex⟩ ⟨rfl, xs, bD⟩ (h1 p (S1.mu.free hp))
end
section
variable {X : Cx} {pins : List (Addr × Obj)} {σ : St} {H : Hp} {s : Shared} {μ : Mu}
mutual
theorem iT (I : Inv X pins σ H s) : ∀ {d : PyData} {x : V} {u : Value}, Rp X.K μ H d x -> RelV x u -> ∃ as, Reads s.heap u d as
  | _, _, _, .none, r => by cases r; exact ⟨_, .none⟩
  | _, _, _, .bool b, r => by cases r; exact ⟨_, .bool b⟩
  | _, _, _, .int i, r => by obtain ⟨t, rfl⟩ := r; exact ⟨_, .int i t⟩
  | _, _, _, .str y, r => by obtain ⟨t, rfl⟩ := r; exact ⟨_, .str y t⟩
  | _, _, _, .list h _ q, r => by
    cases r
    obtain ⟨its, rv, ⟨o, n, ho, hc, _, hd⟩, _⟩ := I.list (SqL.of h)
    obtain ⟨as, ra⟩ := qg I q rv
    exact ⟨_, .list ho hc hd (by simpa using ra)⟩
  | _, _, _, .tuple h q, r => by
    cases r
    obtain ⟨its, rv, ⟨o, ho, hc, n, hd⟩, _⟩ := I.tuple h
    obtain ⟨as, ra⟩ := qg I q rv
    exact ⟨_, .tuple ho hc hd (by simpa using ra)⟩
theorem qg (I : Inv X pins σ H s) : ∀ {ds : List PyData} {xs : List V} {us : List Value}, RpL X.K μ H ds xs -> Vals xs us -> ∃ as, ReadsAll s.heap us ds as
  | _, _, _, .nil, .nil => ⟨_, .nil⟩
  | _, _, _, .cons h t, .cons r q => by
    obtain ⟨as, ra⟩ := iT I h r
    obtain ⟨bs, rb⟩ := qg I t q
    exact ⟨_, .cons ra rb⟩
end
end
section
variable {X : Cx}
def OA (K : PySem.W.Frag) (neg : Bool) : R2 := fun x y H Q => ∃ μ a b, Rp K μ H a x /\ Rp K μ H b y /\ SeqAt.shaped a = true /\ SeqAt.shaped b = true /\ Q (.bl (neg ^^ PyData.eqv a b)) H
theorem fD (hu : X.A.units + 64 < cLine) : OpR X (compareOp .Eq) (OA X.K false) := by
  intro pins s σ H x y v u Q I rx ry h
  obtain ⟨μ, a, b, ha, hb, sa, sb, q⟩ := h
  obtain ⟨as, ra⟩ := iT I ha rx
  obtain ⟨bs, rb⟩ := iT I hb ry
  exact eq_dataH ra rb sa sb hu ⟨.bl (PyData.eqv a b), H, I, rfl, by simpa using q⟩
theorem zk (hu : X.A.units + 64 < cLine) : OpR X (compareOp .NotEq) (OA X.K true) := by
  intro pins s σ H x y v u Q I rx ry h
  obtain ⟨μ, a, b, ha, hb, sa, sb, q⟩ := h
  obtain ⟨as, ra⟩ := iT I ha rx
  obtain ⟨bs, rb⟩ := iT I hb ry
  exact ne_dataH ra rb sa sb hu ⟨.bl (!PyData.eqv a b), H, I, rfl, by simpa using q⟩
def eZ (neg : Bool) : D -> D -> Mu -> DK -> Prop := fun x y μ Q => match x, y with
  | .v a, .v b => SeqAt.shaped a = true /\ SeqAt.shaped b = true /\ Q (.v (.bool (neg ^^ PyData.eqv a b))) μ
  | _, _ => False
theorem dP {K : PySem.W.Frag} {neg : Bool} : kW K (OA K neg) (eZ neg) := by
  intro x y ux uy H μ Qd Q ok rx ry h k
  unfold eZ at h
  split at h
  . rename_i a b
    exact ⟨μ, a, b, rx, ry, h.1, h.2.1, k (.v _) _ μ H .refl ok (Rp.bool _) h.2.2⟩
  . exact h.elim
def O6 (K : PySem.W.Frag) (neg : Bool) : R2 := fun x y H Q => ∃ μ a bs, Rp K μ H a x /\ Rp K μ H (.list bs) y /\ PyData.canLayAll0 bs = true /\ a.canLay0 = true /\ PyData.depth a ≤ 60 /\ Q (.bl (neg ^^ bs.any fun b => PyData.eqv b a)) H
theorem Rt (hu : X.A.units + 64 < cLine) : OpR X (compareOp .In) (O6 X.K false) := by
  intro pins s σ H x y v u Q I rx ry h
  obtain ⟨μ, a, b, ha, hb, sb, sa, dp, q⟩ := h
  obtain ⟨as, ra⟩ := iT I ha rx
  obtain ⟨bs, rb⟩ := iT I hb ry
  refine SeqAt.in_list_reads rb ra sb sa (by omega) ⟨.bl (b.any fun z => PyData.eqv z a), H, I, rfl, by simpa using q⟩
theorem Je (hu : X.A.units + 64 < cLine) : OpR X (compareOp .NotIn) (O6 X.K true) := by
  intro pins s σ H x y v u Q I rx ry h
  obtain ⟨μ, a, b, ha, hb, sb, sa, dp, q⟩ := h
  obtain ⟨as, ra⟩ := iT I ha rx
  obtain ⟨bs, rb⟩ := iT I hb ry
  refine SeqAt.notIn_list_reads rb ra sb sa (by omega) ⟨.bl (!b.any fun z => PyData.eqv z a), H, I, rfl, by simpa using q⟩
def MT (neg : Bool) : D -> D -> Mu -> DK -> Prop := fun x y μ Q => match x, y with
  | .v a, .v (.list bs) => PyData.canLayAll0 bs = true /\ a.canLay0 = true /\ PyData.depth a <= 60 /\ Q (.v (.bool (neg ^^ bs.any fun b => PyData.eqv b a))) μ
  | _, _ => False
theorem NO {K : PySem.W.Frag} {neg : Bool} : kW K (O6 K neg) (MT neg) := by
  intro x y ux uy H μ Qd Q ok rx ry h k
  unfold MT at h
  split at h
  . rename_i a b
    exact ⟨μ, a, b, rx, ry, h.1, h.2.1, h.2.2.1, k (.v _) _ μ H .refl ok (Rp.bool _) h.2.2.2⟩
  . exact h.elim
end
open PySem PySem.Spec PyProof.Rows
section
variable {X : Cx} {a b e : Expr} {es : List Expr} {ta tb te : DTE} {t : DTA} {p pos : Pos}
def aJ : D -> D -> Mu -> DK -> Prop := fun x y μ Q => match x, y with
  | .v (.list xs), .v (.int i) => (match atI xs i with | some d => Q (.v d) μ | none => False)
  | .v (.tuple xs), .v (.int i) => (match atI xs i with | some d => Q (.v d) μ | none => False)
  | .m l, .v (.int i) => (match μ l with
    | some xs => (match atI xs i with | some d => Q (.v d) μ | none => False)
    | none => False)
  | .s ns, .v (.int i) => (match atI ns i with | some d => Q (.v (.int d)) μ | none => False)
  | _, _ => False
theorem Q4 {K : PySem.W.Frag} : kW K (rIx K) aJ := by
  intro x y ux uy H μ Qd Q ok rx ry h k
  unfold aJ at h
  split at h
  . rename_i xs i
    cases ry
    cases q : atI xs i with
    | none => rw [q] at h; exact h.elim
    | some d =>
      rw [q] at h
      cases rx with
      | list hs hn r =>
        obtain ⟨u, e1, e2⟩ := FK r q
        exact .inl ⟨_, _, i, u, rfl, rfl, SqL.of hs, e1, k (.v d) u μ H .refl ok e2 h⟩
  . rename_i xs i
    cases ry
    cases q : atI xs i with
    | none => rw [q] at h; exact h.elim
    | some d =>
      rw [q] at h
      cases rx with
      | tuple hs r =>
        obtain ⟨u, e1, e2⟩ := FK r q
        exact .inr (.inl ⟨_, _, i, u, rfl, rfl, hs, e1, k (.v d) u μ H .refl ok e2 h⟩)
  . rename_i l i
    cases ry
    obtain ⟨rfl, ds, hm⟩ := rx
    rw [hm] at h
    simp only at h
    cases q : atI ds i with
    | none => rw [q] at h; exact h.elim
    | some d =>
      rw [q] at h
      obtain ⟨us, hl, r⟩ := ok l ds hm
      obtain ⟨u, e1, e2⟩ := FK r q
      exact .inl ⟨_, _, i, u, rfl, rfl, SqL.of hl, e1, k (.v d) u μ H .refl ok e2 h⟩
  . rename_i ns i
    cases ry
    obtain ⟨a, rfl, hs, hn⟩ := rx
    cases q : atI ns i with
    | none => rw [q] at h; exact h.elim
    | some d =>
      rw [q] at h
      have e1 : atI (ns.map V.int) i = some (.int d) := by
        unfold atI at q ⊢
        rw [List.length_map]
        cases z : ixN ns.length i with
        | none => rw [z] at q; cases q
        | some j =>
          rw [z] at q
          simp only [Option.bind_some, List.getElem?_map] at q ⊢
          rw [q] <;> rfl
      exact .inl ⟨_, _, i, _, rfl, rfl, hs, e1, k (.v (.int d)) _ μ H .refl ok (Rp.int d) h⟩
  . exact h.elim
theorem aE (ha : DE X a ta) (hb : DE X b tb) (hs : Hy b) : DE X (.Subscript a b pos) (dOp aJ ta tb) := by
  obtain ⟨t1, p1, l1⟩ := ha
  obtain ⟨t2, p2, l2⟩ := hb
  exact ⟨_, Q0 OY p1 p2 hs, w9 Q4 l1 l2⟩
theorem Ki {prog : Program} {w : World} {A : Around} {E : Value -> Shared -> Prop} {s : Shared} {t b : Addr} {ws : List Value} {Q : Value -> Shared -> Prop} (ht : IsTup s.heap t #[]) (hb : IsTup s.heap b ws.toArray)
    (h1 : Q (.ref b) s) : wpAny (model prog w) A (binaryOp .Add (.ref t) (.ref b)) Q E s := by
  obtain ⟨⟨cls, dd, data, sl⟩, ho, hc, n, hd⟩ := id ht
  obtain ⟨⟨cls2, dd2, data2, sl2⟩, ho2, hc2, n2, hd2⟩ := id hb
  simp only at hc hd hc2 hd2
  subst hc hd hc2 hd2
  exact concat_meets ⟨_, ho, rfl⟩ ⟨_, ho2, rfl⟩ noFill_tuple_add seq_tuple_add PySem.F.slot_tuple_add PySem.F.entry_tuple_add (PySem.F.args_tuple_add_2 _ _)
    (tuple_addW0 t b #[] ws.toArray n n2 dd dd2 sl sl2 rfl) ⟨ho, ho2, h1⟩
def tU (μ : Mu) : D -> Option (List PyData)
  | .v (.list xs) => some xs
  | .m l => μ l
  | _ => none
theorem EL {K : PySem.W.Frag} {μ : Mu} {H : Hp} {x : D} {u : V} {xs : List PyData} (ok : cw K μ H) (r : RpD K μ H x u) (h : tU μ x = some xs) : ∃ a us, u = .ref a /\ H a = some (.lst us) /\ RpL K μ H xs us := by
  cases x with
  | v d =>
    cases d <;> simp only [tU] at h <;> try cases h
    cases r with
    | list hs _ q => exact ⟨_, _, rfl, hs, q⟩
  | m l =>
    obtain ⟨rfl, ds, hm⟩ := r
    obtain ⟨us, hl, q⟩ := ok l xs h
    exact ⟨l, us, rfl, hl, q⟩
  | s ns => cases h
  | o a => cases h
  | q P => cases h
def Dp : D -> D -> Mu -> DK -> Prop := fun x y μ Q => match tU μ x, tU μ y with
  | some xs, some ys => xs.length + ys.length <= 1000 /\ Q (.v (.list (xs ++ ys))) μ
  | _, _ => False
theorem Hq {n : Nat} (h : n <= 1000) : n <= sizeLine := Nat.le_of_lt (eV h)
theorem Oq {K : PySem.W.Frag} : kW K NL Dp := by
  intro x y ux uy H μ Qd Q ok rx ry h k
  unfold Dp at h
  split at h
  . rename_i xs ys hx hy
    obtain ⟨a, us, rfl, ha, ra⟩ := EL ok rx hx
    obtain ⟨b, ws, rfl, hb, rb⟩ := EL ok ry hy
    refine ⟨a, b, us, ws, rfl, rfl, ha, hb, Hq (by rw [<- ra.length, <- rb.length]; exact h.1), fun p hp => ?_⟩
    exact k (.v _) _ μ _ (cY hp) (ok.new hp) (jc ok (ra.append rb) hp) h.2
  . exact h.elim
def GI (K : PySem.W.Frag) : R2 := fun x y H Q => ∃ a b xs ys, x = .ref a /\ y = .ref b /\ SqT K H a xs /\ SqT K H b ys /\ xs.length + ys.length ≤ sizeLine /\
  (xs = [] -> Q (.ref b) H) /\ (ys = [] -> Q (.ref a) H) /\ (∀ p, H p = none -> Q (.ref p) (upd H p (.tup (xs ++ ys))))
theorem J8 : OpR X (binaryOp .Add) (GI X.K) := by
  intro pins s σ H x y v u Q I rx ry h
  obtain ⟨a, b, xs, ys, rfl, rfl, ha, hb, hz, q0, q1, q2⟩ := h
  by_cases hx : xs = []
  . subst hx
    cases rx
    cases ry
    obtain ⟨its, r1, p1, _⟩ := I.tuple ha
    obtain ⟨its2, r2, p2, _⟩ := I.tuple hb
    cases r1
    exact Ki p1 p2 ⟨.ref b, H, I, rfl, q0 rfl⟩
  . exact MH pins s σ H _ _ v u Q I rx ry ⟨a, b, xs, ys, rfl, rfl, ha, hb, hx, hz, q1, fun _ => q2⟩
def FY : D -> D -> Mu -> DK -> Prop := fun x y μ Q => match x, y with
  | .v (.tuple xs), .v (.tuple ys) => xs.length + ys.length <= 1000 /\ Q (.v (.tuple (xs ++ ys))) μ
  | _, _ => False
theorem M9 {K : PySem.W.Frag} : kW K (GI K) FY := by
  intro x y ux uy H μ Qd Q ok rx ry h k
  unfold FY at h
  split at h
  . rename_i xs ys
    cases id rx with
    | @tuple a us _ ha ra =>
      cases id ry with
      | @tuple b ws _ hb rb =>
        refine ⟨a, b, us, ws, rfl, rfl, ha, hb, Hq (by rw [<- ra.length, <- rb.length]; exact h.1), fun z => ?_, fun z => ?_, fun p hp => ?_⟩
        . subst z
          cases ra
          exact k (.v _) _ μ H .refl ok ry (by simpa using h.2)
        . subst z
          cases rb
          exact k (.v _) _ μ H .refl ok rx (by simpa using h.2)
        . exact k (.v _) _ μ _ (cY hp) (ok.new hp) (kT ok (ra.append rb) hp) h.2
  . exact h.elim
end
end L2.DL
set_option Elab.async false
set_option linter.all false
set_option maxRecDepth 100000
set_option maxHeartbeats 4000000
namespace HT
open PySem PyProof.Rows
section
variable {prog : Program} {w : World} {A : Around} {E : Value -> Shared -> Prop} {s : Shared}
theorem uK {t sl : Addr} {items : Array Value} {vl vu : Value} {lo hi : Option Int} {Q : Value -> Shared -> Prop} (ht : IsTup s.heap t items) (hs : s.heap.IsSliceOf sl vl vu .none) (pl : IsPart vl lo) (pu : IsPart vu hi)
    (hw : sIx items.size 0 lo = 0 /\ sIx items.size items.size hi = items.size) (h : Q (.ref t) s) : wpAny (model prog w) A (getItem (.ref t) (.ref sl)) Q E s := by
  obtain ⟨os, hos, hcs, hds⟩ := id hs
  have hTs : s.TypeIs (.ref sl) "slice" := ⟨os, hos, hcs⟩
  unfold getItem
  try with_reducible refine wpAny_holding ?_
  first | refine wpAny_bind (wpAny_pure ?_) | skip
  refine wpAny_bind (wpAny_sequenceKey ht.typeIs (by decide) ?_)
  refine wpAny_bind (wpAny_callSpecial?_slot (name := Str.ofString "__getitem__") ht.typeIs PyProof.Rows.slot_tuple_getitem
    (wpAny_call_entry PyProof.Rows.slot_tuple_getitem ht.typeIs entry_tuple_getitem ?_ (args_tuple_getitem _ _)))
  show wpAny _ _ (Builtin.Tuple.tupleItemsOf (.ref t) >>= _) _ _ s
  refine wpAny_bind (tupleItemsOf_ ht ?_)
  refine wpAny_bind (wpAny_typeOf hTs ?_)
  rw [if_pos (by decide)]
  refine wpAny_bind (mL hs pl pu ?_)
  have hno : ((((sIx items.size 0 lo : Nat) : Int) == 0 && (1 : Int) == 1 && (sIx items.size items.size hi - sIx items.size 0 lo) == items.size) = true) := by
    rw [hw.1, hw.2]
    simp
  show wpAny _ _ (if (((sIx items.size 0 lo : Nat) : Int) == 0 && (1 : Int) == 1 && (sIx items.size items.size hi - sIx items.size 0 lo) == items.size) = true then _ else _) _ _ s
  rw [if_pos hno]
  refine wpAny_bind ?_
  unfold Builtin.Tuple.tupleIsExact
  refine wpAny_bind (wpAny_typeOf ht.typeIs (wpAny_pure ?_))
  rw [if_pos (by decide)]
  refine wpAny_bind (wpAny_rule ?_)
  exact wpAny_pure ⟨_, rfl, wpAny_pure h⟩
end
end HT
namespace L2.DL
open PySem PySem.Spec PyProof.Rows
section
variable {X : Cx} {a b e : Expr} {lo hi : Option Expr} {ta tb te : DTE} {pos p2 : Pos}
def nY {α : Type} (xs : List α) (lo hi : Option Int) : List α := (xs.drop (HT.sIx xs.length 0 lo)).take (HT.sIx xs.length xs.length hi - HT.sIx xs.length 0 lo)
theorem RpL.cut {K : PySem.W.Frag} {μ : Mu} {H : Hp} {ds : List PyData} {us : List V} {lo hi : Option Int} (r : RpL K μ H ds us) : RpL K μ H (nY ds lo hi) (BM us lo hi) := by
  unfold nY BM
  rw [r.length]
  exact (r.drop _).take _
theorem MR {α : Type} {xs : List α} {lo hi : Option Int} (h : HT.sIx xs.length 0 lo = 0 /\ HT.sIx xs.length xs.length hi = xs.length) : nY xs lo hi = xs := by
  unfold nY
  rw [h.1, h.2]
  simp
def Qj (K : PySem.W.Frag) : V -> Option Int -> Option Int -> Hp -> VK -> Prop := fun x lo hi H Q => ∃ a xs, x = .ref a /\ SqT K H a xs /\
  (HT.sIx xs.length 0 lo = 0 /\ HT.sIx xs.length xs.length hi = xs.length -> Q (.ref a) H) /\ ∀ p, H p = none -> Q (.ref p) (upd H p (.tup (BM xs lo hi)))
theorem Mi : SlR X (Qj X.K) := by
  intro pins s σ H x v vl vu lo hi sl Q I rx hs pl pu h
  obtain ⟨a, xs, rfl, hx, q1, q⟩ := h
  by_cases hw : HT.sIx xs.length 0 lo = 0 /\ HT.sIx xs.length xs.length hi = xs.length
  . cases rx
    obtain ⟨its, r, ht, hz⟩ := I.tuple hx
    have hlen : its.toArray.size = xs.length := by rw [List.size_toArray]; exact r.length.symm
    refine ⟨"tuple", _, PyProof.Rows.slot_tuple_getitem.lookup, ht.typeIs, ?_⟩
    exact HT.uK ht hs pl pu (by rw [hlen]; exact hw) ⟨.ref a, H, I, rfl, q1 hw⟩
  . exact N6 pins s σ H _ v vl vu lo hi sl Q I rx hs pl pu ⟨a, xs, rfl, hx, hw, q⟩
abbrev DTO := Rho -> Mu -> (Option Int -> Mu -> Prop) -> Prop
def Q3 (K : PySem.W.Frag) (t : TO) (td : DTO) : Prop := ∀ (σ : St) (H : Hp) (ρ : Rho) (μ : Mu) (Qd : Option Int -> Mu -> Prop) (Q : Option Int -> Hp -> Prop), St0 K H ρ μ σ -> td ρ μ Qd ->
  (∀ o μ' H', Ext K μ H μ' H' -> St0 K H' ρ μ' σ -> Qd o μ' -> Q o H') -> t σ H Q
def DO (X : Cx) (e : Option Expr) (td : DTO) : Prop := ∃ t, PO X e t /\ Q3 X.K t td
def qO : DTO := fun _ μ Q => Q none μ
def AG (t : DTE) : DTO := fun ρ μ Q => t ρ μ fun x μ1 => match x with
  | .v (.int i) => Q (some i) μ1
  | _ => False
theorem wU : DO X none qO := ⟨_, Mm, fun σ H ρ μ Qd Q S h k => k none μ H .refl S h⟩
theorem w4 (h : DE X e te) : DO X (some e) (AG te) := by
  obtain ⟨t1, p1, l1⟩ := h
  refine ⟨_, MK p1, fun σ H ρ μ Qd Q S h k => ?_⟩
  refine l1 σ H ρ μ _ _ S h fun x ux μ1 H1 e1 S1 rx h1 => ?_
  split at h1
  . cases rx
    exact ⟨_, rfl, k _ μ1 H1 e1 S1 h1⟩
  . exact h1.elim
def Lw (x : D) (lo hi : Option Int) (μ : Mu) (Q : DK) : Prop := match x with
  | .v (.tuple xs) => Q (.v (.tuple (nY xs lo hi))) μ
  | .v (.list xs) => Q (.v (.list (nY xs lo hi))) μ
  | .m l => (match μ l with | some xs => Q (.v (.list (nY xs lo hi))) μ | none => False)
  | _ => False
def dSl (te : DTE) (tl th : DTO) : DTE := fun ρ μ Q => te ρ μ fun x μ1 => tl ρ μ1 fun l μ2 => th ρ μ2 fun u μ3 => Lw x l u μ3 Q
theorem uv {tl th : DTO} (he : DE X e te) (hl : DO X lo tl) (hu : DO X hi th) : DE X (.Subscript e (.Slice lo hi none p2) pos) (dSl te tl th) := by
  obtain ⟨t1, p1, l1⟩ := he
  obtain ⟨t2, p2, l2⟩ := hl
  obtain ⟨t3, p3, l3⟩ := hu
  refine ⟨_, JO (Ms.or Mi) p1 p2 p3, fun σ H ρ μ Qd Q S h k => ?_⟩
  refine l1 σ H ρ μ _ _ S h fun x ux μ1 H1 e1 S1 rx h1 => ?_
  refine l2 σ H1 ρ μ1 _ _ S1 h1 fun l μ2 H2 e2 S2 h2 => ?_
  refine l3 σ H2 ρ μ2 _ _ S2 h2 fun u μ3 H3 e3 S3 h3 => ?_
  have rx3 := (rx.ext S1.mu e2).ext S2.mu e3
  have ee := e1.trans (e2.trans e3)
  unfold Lw at h3
  split at h3
  . rename_i xs
    cases id rx3 with
    | @tuple a us _ ha ra =>
      refine .inr ⟨a, us, rfl, ha, fun hw => ?_, fun p hp => ?_⟩
      . refine k (.v _) _ μ3 H3 ee S3 (show Rp _ _ _ (.tuple (nY xs l u)) _ from ?_) h3
        rw [MR (by rw [ra.length]; exact hw)]
        exact rx3
      . exact k (.v _) _ μ3 _ (ee.trans (cY hp)) (S3.new hp) (kT S3.mu ra.cut hp) h3
  . rename_i xs
    cases id rx3 with
    | @list a us _ ha hn ra => exact .inl ⟨a, us, rfl, SqL.of ha, fun p hp => k (.v _) _ μ3 _ (ee.trans (cY hp)) (S3.new hp) (jc S3.mu ra.cut hp) h3⟩
  . rename_i a
    obtain ⟨rfl, ds, hm⟩ := rx3
    rw [hm] at h3
    obtain ⟨us, ha, ra⟩ := S3.mu a ds hm
    exact .inl ⟨a, us, rfl, SqL.of ha, fun p hp => k (.v _) _ μ3 _ (ee.trans (cY hp)) (S3.new hp) (jc S3.mu ra.cut hp) h3⟩
  . exact h3.elim
def RU (te : DTE) : DTE := fun ρ μ Q => te ρ μ fun x μ1 => match x with
  | .v (.tuple xs) => Q (.v (.tuple xs.reverse)) μ1
  | .v (.list xs) => Q (.v (.list xs.reverse)) μ1
  | .m l => (match μ1 l with | some xs => Q (.v (.list xs.reverse)) μ1 | none => False)
  | _ => False
end
open PySem PySem.Spec PyProof.Rows
section
variable {X : Cx} {a b e : Expr} {es : List Expr} {ta tb te : DTE} {t : DTA} {p pos : Pos} {x : Str} {bid T : String}
def rE (K : PySem.W.Frag) (r : List V -> Hp -> VK -> Prop) (rd : List D -> Mu -> DK -> Prop) : Prop := ∀ (xs : List D) (us : List V) (H : Hp) (μ : Mu) (Qd : DK) (Q : VK), cw K μ H -> jT K μ H xs us -> rd xs μ Qd ->
  (∀ d u μ' H', Ext K μ H μ' H' -> cw K μ' H' -> RpD K μ' H' d u -> Qd d μ' -> Q u H') -> r us H Q
def dCB (rd : List D -> Mu -> DK -> Prop) (t : DTA) : DTE := fun ρ μ Q => t ρ μ fun ds μ1 => rd ds μ1 Q
theorem Ie {K : PySem.W.Frag} {n : Nat} {r : List V -> Hp -> VK -> Prop} {rd : List D -> Mu -> DK -> Prop} {t1 : TA} (lc : rE K r rd) (l1 : Nl K n t1 t) : tZ K (tCB r t1) (dCB rd t) := by
  intro σ H ρ μ Qd Q S h k
  refine l1 σ H ρ μ _ _ S h fun xs us μ1 H1 e1 S1 rs len h1 => ?_
  exact lc xs us H1 μ1 _ _ S1.mu rs h1 fun d u μ' H' e2 ok r q => k d u μ' H' (e1.trans e2) ⟨ok, S1.rho.ext S1.mu e2⟩ r q
theorem pE {r : List V -> Hp -> VK -> Prop} {rd : List D -> Mu -> DK -> Prop} (hc : gZ X (.builtin bid) r) (lc : rE X.K r rd) (hg : Gl X x) (hm : X.mg x = none) (hv : bootBuiltins x = some (.builtin bid)) (ha : DA X (e :: es) t) (hn : x ≠ "__name__" := by decide) (hdb : (x == ("__debug__" : Str)) = false := by decide)
    (he : starEach (e :: es) X.env = (false, eval e X.env) :: starEach es X.env := by rfl) (hpl : (backTo pos (starEach es X.env)).any (·.1) = false := by rfl) : DE X (.Call (.Name x p) (e :: es) [] pos) (dCB rd t) := by
  obtain ⟨t1, p1, l1⟩ := ha
  exact ⟨_, qv hc hg hm hv p1 hn hdb he hpl, Ie lc l1⟩
theorem vE {r : List V -> Hp -> VK -> Prop} {rd : List D -> Mu -> DK -> Prop} (hc : gZ X (.type T) r) (lc : rE X.K r rd) (hg : Gl X x) (hm : X.mg x = none) (hv : bootBuiltins x = some (.type T)) (ha : DA X (e :: es) t) (hn : x ≠ "__name__" := by decide) (hdb : (x == ("__debug__" : Str)) = false := by decide)
    (he : starEach (e :: es) X.env = (false, eval e X.env) :: starEach es X.env := by rfl) (hpl : (backTo pos (starEach es X.env)).any (·.1) = false := by rfl) : DE X (.Call (.Name x p) (e :: es) [] pos) (dCB rd t) := by
  obtain ⟨t1, p1, l1⟩ := ha
  exact ⟨_, Ak hc hg hm hv p1 hn hdb he hpl, Ie lc l1⟩
def iV : List D -> Mu -> DK -> Prop := fun xs μ Q => match xs with
  | [.v (.list ys)] => Q (.v (.int (ys.length : Nat))) μ
  | [.v (.tuple ys)] => Q (.v (.int (ys.length : Nat))) μ
  | [.m l] => (match μ l with | some ys => Q (.v (.int (ys.length : Nat))) μ | none => False)
  | [.s ns] => Q (.v (.int (ns.length : Nat))) μ
  | _ => False
theorem Pg {K : PySem.W.Frag} : rE K (fun xs H Q => ∃ p ys, xs = [.ref p] /\ (SqL K H p ys \/ SqT K H p ys) /\ Q (.int ys.length) H) iV := by
  intro xs us H μ Qd Q ok rs h k
  unfold iV at h
  split at h
  . cases rs with
    | cons r1 r2 =>
      cases r2
      cases r1 with
      | list hs hn r => exact ⟨_, _, rfl, .inl (SqL.of hs), k (.v _) _ μ H .refl ok (by rw [<- r.length]; exact Rp.int _) h⟩
  . cases rs with
    | cons r1 r2 =>
      cases r2
      cases r1 with
      | tuple hs r => exact ⟨_, _, rfl, .inr hs, k (.v _) _ μ H .refl ok (by rw [<- r.length]; exact Rp.int _) h⟩
  . cases rs with
    | cons r1 r2 =>
      cases r2
      obtain ⟨rfl, ds, hm⟩ := r1
      rw [hm] at h
      obtain ⟨us, hl, r⟩ := ok _ ds hm
      exact ⟨_, _, rfl, .inl (SqL.of hl), k (.v _) _ μ H .refl ok (by rw [<- r.length]; exact Rp.int _) h⟩
  . cases rs with
    | cons r1 r2 =>
      cases r2
      obtain ⟨a, rfl, hs, hn⟩ := r1
      exact ⟨_, _, rfl, .inl hs, k (.v _) _ μ H .refl ok (by rw [List.length_map]; exact Rp.int _) h⟩
  . exact h.elim
theorem kh (hg : Gl X "len") (hm : X.mg "len" = none) (ha : DA X (e :: es) t)
    (he : starEach (e :: es) X.env = (false, eval e X.env) :: starEach es X.env := by rfl) (hpl : (backTo pos (starEach es X.env)).any (·.1) = false := by rfl) : DE X (.Call (.Name "len" p) (e :: es) [] pos) (dCB iV t) :=
  pE Cf Pg hg hm PySem.boot_len ha (by decide) (by decide) he hpl
def uN : List D -> Mu -> DK -> Prop := fun xs μ Q => match xs with
  | [.v (.int i)] => Q (.v (.int (i.natAbs : Nat))) μ
  | _ => False
theorem NA {K : PySem.W.Frag} : rE K (fun xs H Q => ∃ i, xs = [.int i] /\ Q (.int (if i < 0 then -i else i)) H) uN := by
  intro xs us H μ Qd Q ok rs h k
  unfold uN at h
  split at h
  . rename_i i
    cases rs with
    | cons r1 r2 =>
      cases r2
      cases r1
      refine ⟨i, rfl, k (.v (.int (i.natAbs : Nat))) _ μ H .refl ok ?_ h⟩
      have : (if i < 0 then -i else i) = ((i.natAbs : Nat) : Int) := by split <;> omega
      rw [this]
      exact Rp.int _
  . exact h.elim
theorem xZ (hg : Gl X "abs") (hm : X.mg "abs" = none) (ha : DA X (e :: es) t)
    (he : starEach (e :: es) X.env = (false, eval e X.env) :: starEach es X.env := by rfl) (hpl : (backTo pos (starEach es X.env)).any (·.1) = false := by rfl) : DE X (.Call (.Name "abs" p) (e :: es) [] pos) (dCB uN t) :=
  pE J3 NA hg hm PyProof.Rows.Boot.«abs» ha (by decide) (by decide) he hpl
def Fh (g : Int -> Int -> Int) : List D -> Mu -> DK -> Prop := fun xs μ Q => match xs with
  | [.v (.int i), .v (.int j)] => Q (.v (.int (g i j))) μ
  | _ => False
theorem Nj {K : PySem.W.Frag} {g g' : Int -> Int -> Int} (hg : ∀ i j, g i j = g' i j) : rE K (fun xs H Q => ∃ i j, xs = [.int i, .int j] /\ Q (.int (g i j)) H) (Fh g') := by
  intro xs us H μ Qd Q ok rs h k
  unfold Fh at h
  split at h
  . rename_i i j
    cases rs with
    | cons r1 r2 =>
      cases r2 with
      | cons r2 r3 =>
        cases r3
        cases r1
        cases r2
        exact ⟨i, j, rfl, k (.v _) _ μ H .refl ok (by rw [hg]; exact Rp.int _) h⟩
  . exact h.elim
theorem ND (hc : X.calm = true) (hg : Gl X "max") (hm : X.mg "max" = none) (ha : DA X (e :: es) t)
    (he : starEach (e :: es) X.env = (false, eval e X.env) :: starEach es X.env := by rfl) (hpl : (backTo pos (starEach es X.env)).any (·.1) = false := by rfl) : DE X (.Call (.Name "max" p) (e :: es) [] pos) (dCB (Fh max) t) :=
  pE (IV hc) (Nj (fun i j => by show (if j > i then j else i) = max i j; simp only [Int.max_def]; split <;> split <;> omega)) hg hm PyProof.Rows.Boot.«max» ha (by decide) (by decide) he hpl
theorem O0 (hc : X.calm = true) (hg : Gl X "min") (hm : X.mg "min" = none) (ha : DA X (e :: es) t)
    (he : starEach (e :: es) X.env = (false, eval e X.env) :: starEach es X.env := by rfl) (hpl : (backTo pos (starEach es X.env)).any (·.1) = false := by rfl) : DE X (.Call (.Name "min" p) (e :: es) [] pos) (dCB (Fh min) t) :=
  pE (Ip hc) (Nj (fun i j => by show (if j < i then j else i) = min i j; simp only [Int.min_def]; split <;> split <;> omega)) hg hm PyProof.Rows.Boot.«min» ha (by decide) (by decide) he hpl
def pI : List D -> Mu -> DK -> Prop := fun xs μ Q => match xs with
  | [.v (.int i)] => Q (.v (.int i)) μ
  | [.v (.bool k)] => Q (.v (.int (if k then 1 else 0))) μ
  | _ => False
theorem OB {K : PySem.W.Frag} : rE K (fun xs H Q => (∃ i, xs = [.int i] /\ Q (.int i) H) \/ ∃ k, xs = [.bl k] /\ Q (.int (if k then 1 else 0)) H) pI := by
  intro xs us H μ Qd Q ok rs h k
  unfold pI at h
  split at h
  . rename_i i
    cases rs with
    | cons r1 r2 => cases r2; cases r1; exact .inl ⟨i, rfl, k (.v _) _ μ H .refl ok (Rp.int _) h⟩
  . rename_i b
    cases rs with
    | cons r1 r2 => cases r2; cases r1; exact .inr ⟨b, rfl, k (.v _) _ μ H .refl ok (Rp.int _) h⟩
  . exact h.elim
theorem mz (hg : Gl X "int") (hm : X.mg "int" = none) (ha : DA X (e :: es) t)
    (he : starEach (e :: es) X.env = (false, eval e X.env) :: starEach es X.env := by rfl) (hpl : (backTo pos (starEach es X.env)).any (·.1) = false := by rfl) : DE X (.Call (.Name "int" p) (e :: es) [] pos) (dCB pI t) :=
  vE IT OB hg hm PyProof.Rows.Boot.«int» ha (by decide) (by decide) he hpl
def qw : List D -> Mu -> DK -> Prop := fun xs μ Q => match xs with
  | [.v (.list ys)] => Q (.v (.list ys)) μ
  | [.v (.tuple ys)] => Q (.v (.list ys)) μ
  | _ => False
theorem Mn {K : PySem.W.Frag} : rE K (fun xs H Q => ∃ p ys, xs = [.ref p] /\ (SqL K H p ys \/ SqT K H p ys) /\ ∀ l, H l = none -> Q (.ref l) (upd H l (.lst ys))) qw := by
  intro xs us H μ Qd Q ok rs h k
  unfold qw at h
  split at h
  . cases rs with
    | cons r1 r2 =>
      cases r2
      cases r1 with
      | list hs hn r => exact ⟨_, _, rfl, .inl (SqL.of hs), fun p hp => k (.v _) _ μ _ (cY hp) (ok.new hp) (jc ok r hp) h⟩
  . cases rs with
    | cons r1 r2 =>
      cases r2
      cases r1 with
      | tuple hs r => exact ⟨_, _, rfl, .inr hs, fun p hp => k (.v _) _ μ _ (cY hp) (ok.new hp) (jc ok r hp) h⟩
  . exact h.elim
theorem Ia (hg : Gl X "list") (hm : X.mg "list" = none) (ha : DA X (e :: es) t)
    (he : starEach (e :: es) X.env = (false, eval e X.env) :: starEach es X.env := by rfl) (hpl : (backTo pos (starEach es X.env)).any (·.1) = false := by rfl) : DE X (.Call (.Name "list" p) (e :: es) [] pos) (dCB qw t) :=
  vE Bt Mn hg hm PyProof.Rows.Boot.«list» ha (by decide) (by decide) he hpl
theorem CO : ∀ {bs : List Bool} {us : List Value}, Vals (bs.map V.bl) us -> us = bs.map Value.bool
  | [], _, .nil => rfl
  | b :: r, _, .cons h t => by cases h; rw [CO t]; rfl
theorem IJ (hc : X.calm = true) : gZ X (.builtin "all") (fun xs H Q => ∃ (p : Addr) (bs : List Bool), xs = [.ref p] /\ H p = some (.lst (bs.map V.bl)) /\ Q (.bl (bs.all id)) H) := by
  intro pins s σ H xs us Q I r h
  obtain ⟨l, bs, rfl, hl, q⟩ := h
  obtain ⟨u, rfl, rx⟩ := vals1 r
  cases rx
  obtain ⟨its, rv, pl, _⟩ := I.list (SqL.of hl)
  have eb := CO rv
  subst eb
  have hL := pl.isList
  have hlt := pl.lt
  refine call_all_walk (wpAny_pyIter_list hL ?_)
  refine ⟨s.heap.objs.size, [s.heap.objs.size, l], [s.heap.objs.size], (bs.map Value.bool).toArray.size, _, _, fun i => (bs[i]?).getD true, rfl, Walks.list (A := X.A.in1) (by exact I.ok.hd hc) _ l (Nat.ne_of_lt hlt) (bs.map Value.bool).toArray,
    ⟨⟨_, Heap.get?_push_size _ rfl, rfl, rfl⟩, hL.push _⟩, fun i v s' Q' E' hP hQ => ?_, fun h' tk hk => ?_⟩
  . have hP' : (bs.map Value.bool)[i]? = some v := by simpa using hP
    rw [List.getElem?_map] at hP'
    cases z : bs[i]? with
    | none => rw [z] at hP'; cases hP'
    | some b =>
      rw [z] at hP'
      cases hP'
      simp only [z, Option.getD_some] at hQ
      exact wpAny_truthy_bool hQ
  . have e : ((List.range (bs.map Value.bool).toArray.size).all fun i => (bs[i]?).getD true) = bs.all id := by
      rw [List.size_toArray, List.length_map]; exact PyProof.Rows.LSm.range_all bs
    rw [e]
    exact ⟨.bl (bs.all id), H, I.kept (PyProof.Rows.LSm.kept_iter hk), rfl, q⟩
def eo : List PyData -> Option (List Bool)
  | [] => some []
  | .bool b :: r => (eo r).map (b :: ·)
  | _ :: _ => none
theorem yo {K : PySem.W.Frag} {μ : Mu} {H : Hp} : ∀ {xs : List PyData} {us : List V} {bs : List Bool}, RpL K μ H xs us -> eo xs = some bs -> us = bs.map V.bl
  | _, _, _, .nil, e => by cases e; rfl
  | .bool b :: r, _, bs, .cons h t, e => by
    simp only [eo] at e
    cases q : eo r with
    | none => rw [q] at e; cases e
    | some cs => rw [q] at e; cases e; cases h; rw [yo t q]; rfl
  | .none :: r, _, bs, .cons h t, e => by simp [eo] at e
  | .int _ :: r, _, bs, .cons h t, e => by simp [eo] at e
  | .str _ :: r, _, bs, .cons h t, e => by simp [eo] at e
  | .list _ :: r, _, bs, .cons h t, e => by simp [eo] at e
  | .tuple _ :: r, _, bs, .cons h t, e => by simp [eo] at e
  | .dict _ :: r, _, bs, .cons h t, e => by simp [eo] at e
def xC : List D -> Mu -> DK -> Prop := fun xs μ Q => match xs with
  | [.v (.list ys)] => (match eo ys with | some bs => Q (.v (.bool (bs.all id))) μ | none => False)
  | _ => False
theorem Pe {K : PySem.W.Frag} : rE K (fun xs H Q => ∃ (p : Addr) (bs : List Bool), xs = [.ref p] /\ H p = some (.lst (bs.map V.bl)) /\ Q (.bl (bs.all id)) H) xC := by
  intro xs us H μ Qd Q ok rs h k
  unfold xC at h
  split at h
  . rename_i ys
    cases q : eo ys with
    | none => rw [q] at h; exact h.elim
    | some bs =>
      rw [q] at h
      cases rs with
      | cons r1 r2 =>
        cases r2
        cases r1 with
        | list hs hn r => exact ⟨_, bs, rfl, by rw [hs, yo r q], k (.v _) _ μ H .refl ok (Rp.bool _) h⟩
  . exact h.elim
theorem FH (hc : X.calm = true) (hg : Gl X "all") (hm : X.mg "all" = none) (ha : DA X (e :: es) t)
    (he : starEach (e :: es) X.env = (false, eval e X.env) :: starEach es X.env := by rfl) (hpl : (backTo pos (starEach es X.env)).any (·.1) = false := by rfl) : DE X (.Call (.Name "all" p) (e :: es) [] pos) (dCB xC t) :=
  pE (IJ hc) Pe hg hm PyProof.Rows.Boot.«all» ha (by decide) (by decide) he hpl
def tyD : PyData -> String
  | .none => "NoneType"
  | .bool _ => "bool"
  | .int _ => "int"
  | .str _ => "str"
  | .list _ => "list"
  | .tuple _ => "tuple"
  | .dict _ => "dict"
def isT (T : String) (d : PyData) : Bool := tyD d == T || (T == "int" && tyD d == "bool")
theorem Iu {pins : List (Addr × Obj)} {σ : St} {H : Hp} {s : Shared} {μ : Mu} {d : PyData} {u : V} {v : Value} {k : Bool} {A : Around} {E : Value -> Shared -> Prop} {Q : Value -> Shared -> Prop} (I : Inv X pins σ H s) (r : Rp X.K μ H d u) (rx : RelV u v)
    (ek : PySem.W.kitOne X.K (.type (tyD d)) (.type T) = some k) (h : ∀ tk, Q (.bool k) { s with toks := tk }) : wpAny (model X.prog X.w) A (call (.builtin "isinstance") [v, .type T]) Q E s := by
  cases r with
  | none => cases rx; exact PySem.W.kia_one PySem.W.kitx_none I.kIn True.intro ek (fun z => nomatch z) h
  | bool b => cases rx; exact PySem.W.kia_one PySem.W.kitx_bool I.kIn True.intro ek (fun z => nomatch z) h
  | int i => obtain ⟨t, rfl⟩ := rx; exact PySem.W.kia_one PySem.W.kitx_int I.kIn True.intro ek (fun z => nomatch z) h
  | str y => obtain ⟨t, rfl⟩ := rx; exact PySem.W.kia_one PySem.W.kitx_str I.kIn True.intro ek (fun z => nomatch z) h
  | list hs hn q =>
    cases rx
    obtain ⟨its, rv, ⟨o, n, h1, h2, _⟩, _⟩ := I.list (SqL.of hs)
    exact PySem.W.kia_one PySem.W.kitx_list I.kIn ⟨o, h1, h2⟩ ek (fun z => nomatch z) h
  | tuple hs q =>
    cases rx
    obtain ⟨its, rv, ⟨o, h1, h2, _⟩, _⟩ := I.tuple hs
    exact PySem.W.kia_one PySem.W.kitx_tuple I.kIn ⟨o, h1, h2⟩ ek (fun z => nomatch z) h
theorem My (K : PySem.W.Frag) (d : PyData) : PySem.W.kitOne K (.type (tyD d)) (.type "int") = some (isT "int" d) := by cases d <;> rfl
theorem Li (K : PySem.W.Frag) (d : PyData) : PySem.W.kitOne K (.type (tyD d)) (.type "bool") = some (isT "bool" d) := by cases d <;> rfl
theorem kit_tuple (K : PySem.W.Frag) (d : PyData) : PySem.W.kitOne K (.type (tyD d)) (.type "tuple") = some (isT "tuple" d) := by cases d <;> rfl
theorem D2 (kt : ∀ d, PySem.W.kitOne X.K (.type (tyD d)) (.type T) = some (isT T d)) : gZ X (.builtin "isinstance") (fun xs H Q => ∃ μ d u, xs = [u, .ty T] /\ Rp X.K μ H d u /\ Q (.bl (isT T d)) H) := by
  intro pins s σ H xs us Q I r h
  obtain ⟨μ, d, u, rfl, rd, q⟩ := h
  obtain ⟨v, w', rfl, r1, r2⟩ := vals2 r
  cases r2
  exact Iu I rd r1 (kt d) fun tk => ⟨.bl (isT T d), H, I.tok _, rfl, q⟩
def EA (T : String) (te : DTE) : DTE := fun ρ μ Q => te ρ μ fun x μ1 => match x with
  | .v d => Q (.v (.bool (isT T d))) μ1
  | _ => False
theorem vC {y : Str} {py : Pos} (kt : ∀ d, PySem.W.kitOne X.K (.type (tyD d)) (.type T) = some (isT T d)) (hg : Gl X "isinstance") (hm : X.mg "isinstance" = none) (hgy : Gl X y) (hmy : X.mg y = none) (hvy : bootBuiltins y = some (.type T)) (ha : DE X e te)
    (hny : y ≠ "__name__" := by decide) (hdy : (y == ("__debug__" : Str)) = false := by decide)
    (he : starEach [e, .Name y py] X.env = (false, eval e X.env) :: starEach [.Name y py] X.env := by rfl) (he2 : starEach [.Name y py] X.env = [(false, eval (.Name y py) X.env)] := by rfl) (hpl : (backTo pos (starEach [.Name y py] X.env)).any (·.1) = false := by rfl) : DE X (.Call (.Name "isinstance" p) [e, .Name y py] [] pos) (EA T te) := by
  obtain ⟨t1, p1, l1⟩ := ha
  refine ⟨_, qv (D2 kt) hg hm PyProof.Rows.Boot.«isinstance» (gy p1 (gy (G5 (v := .ty T) hgy hmy hvy rfl hny hdy) nV he2) he) (by decide) (by decide) he hpl, fun σ H ρ μ Qd Q S h k => ?_⟩
  refine l1 σ H ρ μ _ _ S h fun x ux μ1 H1 e1 S1 rx h1 => ?_
  split at h1
  . exact ⟨μ1, _, ux, rfl, rx, k (.v _) _ μ1 H1 e1 S1 (Rp.bool _) h1⟩
  . exact h1.elim
def isC : PyData -> PyData -> Option Bool
  | .bool a, .bool b => some (a == b)
  | .none, .none => some true
  | _, _ => none
def Qk : R2 := fun x y H Q => (∃ i j, x = .bl i /\ y = .bl j /\ Q (.bl (i == j)) H) \/ (x = .non /\ y = .non /\ Q (.bl true) H)
theorem N8 : OpR X (compareOp .Is) Qk := by
  intro pins s σ H x y v u Q I rx ry h
  rcases h with ⟨i, j, rfl, rfl, q⟩ | ⟨rfl, rfl, q⟩
  . cases rx; cases ry
    exact wpAny_is_plain rfl ⟨.bl (i == j), H, I, by cases i <;> cases j <;> rfl, q⟩
  . cases rx; cases ry
    exact wpAny_is_plain rfl ⟨.bl true, H, I, rfl, q⟩
def FG : D -> D -> Mu -> DK -> Prop := fun x y μ Q => match x, y with
  | .v (.bool i), .v (.bool j) => Q (.v (.bool (i == j))) μ
  | .v .none, .v .none => Q (.v (.bool true)) μ
  | _, _ => False
theorem QW {K : PySem.W.Frag} : kW K Qk FG := by
  intro x y ux uy H μ Qd Q ok rx ry h k
  unfold FG at h
  split at h
  . cases rx; cases ry; exact .inl ⟨_, _, rfl, rfl, k (.v _) _ μ H .refl ok (Rp.bool _) h⟩
  . cases rx; cases ry; exact .inr ⟨rfl, rfl, k (.v _) _ μ H .refl ok (Rp.bool _) h⟩
  . exact h.elim
end
open PySem PySem.Spec PyProof.Rows
section
variable {X : Cx} {a b e : Expr} {es : List Expr} {ta tb te : DTE} {t : DTA} {p pos : Pos} {st : Stmt} {rest sts : List Stmt} {td ud : DTS} {tc : DTT}
def cK : DTS := fun Dd ρ μ => Dd.nx ρ μ
def aV (t u : DTS) : DTS := fun Dd ρ μ => t { Dd with nx := u Dd } ρ μ
def bH (te : DTE) : DTS := fun Dd ρ μ => te ρ μ Dd.rt
def As (te : DTE) : DTS := fun Dd ρ μ => te ρ μ fun _ μ1 => Dd.nx ρ μ1
def eS (c : DTT) (t u : DTS) : DTS := fun Dd ρ μ => c ρ μ fun b μ1 => if b = true then t Dd ρ μ1 else u Dd ρ μ1
theorem bB : DSs X [] cK := ⟨_, M5, fun σ H ρ μ Dd De S h k1 k2 k3 k4 => k1 σ ρ μ H .refl S h⟩
theorem ay (h : DS X st td) : DSs X [st] td := let ⟨t, p, l⟩ := h; ⟨t, MU p, l⟩
theorem lift_seq {K : PySem.W.Frag} {t u : TS} (l1 : Ap K t td) (l2 : Ap K u ud) : Ap K (QC t u) (aV td ud) := by
  intro σ H ρ μ Dd De S h k1 k2 k3 k4
  refine l1 σ H ρ μ _ _ S h (fun σ' ρ' μ' H' e' S' h' => ?_) k2 k3 k4
  exact l2 σ' H' ρ' μ' Dd De S' h' (fun a b c d e2 => k1 a b c d (e'.trans e2)) (fun a b c d e2 => k2 a b c d (e'.trans e2)) (fun a b c d e2 => k3 a b c d (e'.trans e2)) (fun a b c d e2 => k4 a b c d (e'.trans e2))
theorem aq (h1 : DS X st td) (h2 : DSs X rest ud) : DSs X (st :: rest) (aV td ud) := by
  obtain ⟨t1, p1, l1⟩ := h1
  obtain ⟨t2, p2, l2⟩ := h2
  exact ⟨_, yv p1 p2, lift_seq l1 l2⟩
theorem aK (he : DE X e te) : DS X (.Return (some e) pos) (bH te) := by
  obtain ⟨t1, p1, l1⟩ := he
  exact ⟨_, Oe p1, fun σ H ρ μ Dd De S h k1 k2 k3 k4 => l1 σ H ρ μ _ _ S h fun d u μ' H' e' S' r q => k2 d u μ' H' e' S'.mu r q⟩
theorem xf (he : DE X e te) (hs : swapsWith e none pos.line X.env = pure false := by rfl) : DS X (.Expr e pos) (As te) := by
  obtain ⟨t1, p1, l1⟩ := he
  exact ⟨_, Ho p1 hs, fun σ H ρ μ Dd De S h k1 k2 k3 k4 => l1 σ H ρ μ _ _ S h fun d u μ' H' e' S' r q => k1 σ ρ μ' H' e' S' q⟩
theorem cO {c : Expr} {x y : List Stmt} (hc : DT X c tc) (ha : DSs X x td) (hb : DSs X y ud) : DS X (.If c x y pos) (eS tc td ud) := by
  obtain ⟨t0, p0, l0⟩ := hc
  obtain ⟨t1, p1, l1⟩ := ha
  obtain ⟨t2, p2, l2⟩ := hb
  refine ⟨_, Nw p0 p1 p2, fun σ H ρ μ Dd De S h k1 k2 k3 k4 => ?_⟩
  refine l0 σ H ρ μ _ _ S h fun c μ1 H1 e1 S1 h1 => ?_
  cases c with
  | true => exact zW (l1 σ H1 ρ μ1 Dd De S1 (by simpa using h1) (fun a b c d e2 => k1 a b c d (e1.trans e2)) (fun a b c d e2 => k2 a b c d (e1.trans e2)) (fun a b c d e2 => k3 a b c d (e1.trans e2)) (fun a b c d e2 => k4 a b c d (e1.trans e2)))
  | false => exact BD (l2 σ H1 ρ μ1 Dd De S1 (by simpa using h1) (fun a b c d e2 => k1 a b c d (e1.trans e2)) (fun a b c d e2 => k2 a b c d (e1.trans e2)) (fun a b c d e2 => k3 a b c d (e1.trans e2)) (fun a b c d e2 => k4 a b c d (e1.trans e2)))
abbrev DTG := D -> Rho -> Mu -> (Rho -> Mu -> Prop) -> Prop
abbrev zM := List PyData -> Rho -> Mu -> (Rho -> Mu -> Prop) -> Prop
def Ld (K : PySem.W.Frag) (g : TG) (gd : DTG) : Prop := ∀ (σ : St) (H : Hp) (ρ : Rho) (μ : Mu) (d : D) (u : V) (Qd : Rho -> Mu -> Prop) (Q : St -> Hp -> Prop), St0 K H ρ μ σ -> RpD K μ H d u -> gd d ρ μ Qd ->
  (∀ σ' ρ' μ' H', Ext K μ H μ' H' -> St0 K H' ρ' μ' σ' -> Qd ρ' μ' -> Q σ' H') -> g u σ H Q
def Pm (K : PySem.W.Frag) (g : TGs) (gd : zM) : Prop := ∀ (σ : St) (H : Hp) (ρ : Rho) (μ : Mu) (ds : List PyData) (us : List V) (Qd : Rho -> Mu -> Prop) (Q : St -> Hp -> Prop), St0 K H ρ μ σ -> RpL K μ H ds us -> gd ds ρ μ Qd ->
  (∀ σ' ρ' μ' H', Ext K μ H μ' H' -> St0 K H' ρ' μ' σ' -> Qd ρ' μ' -> Q σ' H') -> g us σ H Q
def DG (X : Cx) (tg : Expr) (gd : DTG) : Prop := ∃ g, PG X tg g /\ Ld X.K g gd
def DGs (X : Cx) (tg : List Expr) (gd : zM) : Prop := ∃ g, PGs X tg g /\ Pm X.K g gd
theorem fz.set {K : PySem.W.Frag} {μ : Mu} {H : Hp} {ρ : Rho} {σ : St} {i : Nat} {d : D} {u : V} (r : fz K μ H ρ σ) (h : RpD K μ H d u) : fz K μ H (ρ.set i (some d)) (σ.set i (some u)) := by
  refine ⟨by rw [List.length_set, List.length_set]; exact r.1, fun j d' e => ?_⟩
  by_cases hj : i = j
  . subst hj
    have hl : i < ρ.length := by
      have := (List.getElem?_eq_some_iff.mp e).1
      rw [List.length_set] at this
      exact this
    rw [List.getElem?_set_self hl] at e
    cases e
    exact ⟨u, List.getElem?_set_self (by rw [<- r.1]; exact hl), h⟩
  . rw [List.getElem?_set_ne hj] at e
    obtain ⟨w, e1, e2⟩ := r.2 j d' e
    exact ⟨w, by rw [List.getElem?_set_ne hj]; exact e1, e2⟩
def az (i : Nat) : DTG := fun d ρ μ Q => Q (ρ.set i (some d)) μ
theorem yT {K : PySem.W.Frag} {i : Nat} : Ld K (JA i) (az i) := fun σ H ρ μ d u Qd Q S r h k => k _ _ μ H .refl ⟨S.mu, S.rho.set r⟩ h
theorem bA {i : Nat} {x : Str} (hN : X.N.Nodup) (hi : X.N[i]? = some x) (hx : Loc X.env.scope x) (hf : X.fn x = true \/ X.env.scope.names.lookup x = some .local := by first | exact .inl rfl | exact .inr rfl | assumption) : DG X (.Name x pos) (az i) := ⟨_, ME hN hi hx hf, yT⟩
def qr : zM := fun ds ρ μ Q => match ds with
  | [] => Q ρ μ
  | _ => False
def de (g : DTG) (gs : zM) : zM := fun ds ρ μ Q => match ds with
  | d :: r => g (.v d) ρ μ fun ρ1 μ1 => gs r ρ1 μ1 Q
  | _ => False
theorem lL : DGs X [] qr := ⟨_, HV, fun σ H ρ μ ds us Qd Q S r h k => by
  cases r with
  | nil => exact ⟨rfl, k σ ρ μ H .refl S h⟩
  | cons _ _ => exact h.elim⟩
theorem bY {g : DTG} {gs : zM} (h1 : DG X e g) (h2 : DGs X es gs) (hs : (assignEach (e :: es) X.env).map (·.2) = assign e X.env :: (assignEach es X.env).map (·.2) := by rfl) : DGs X (e :: es) (de g gs) := by
  obtain ⟨t1, p1, l1⟩ := h1
  obtain ⟨t2, p2, l2⟩ := h2
  refine ⟨_, CY p1 p2 hs, fun σ H ρ μ ds us Qd Q S r h k => ?_⟩
  cases r with
  | nil => exact h.elim
  | @cons d u ds us r1 r2 =>
    refine ⟨u, us, rfl, l1 σ H ρ μ (.v d) u _ _ S r1 h fun σ' ρ' μ' H' e1 S' h1 => ?_⟩
    exact l2 σ' H' ρ' μ' ds us _ _ S' (r2.ext S.mu e1) h1 fun a b c d e2 => k a b c d (e1.trans e2)
def oW (n : Nat) (gs : zM) : DTG := fun d ρ μ Q => match d with
  | .v (.tuple xs) => xs.length = n /\ gs xs ρ μ Q
  | _ => False
theorem p6 {k n : Nat} {gs : zM} (hc : X.calm = X.calm) (h : DGs X es gs)
    (hn : (assignEach es X.env).length = n := by rfl) (hst : (assignEach es X.env).findIdx? (·.1) = none := by rfl) : DG X (.Tuple es k pos) (oW n gs) := by
  obtain ⟨t1, p1, l1⟩ := h
  refine ⟨_, Ln hc p1 hn hst, fun σ H ρ μ d u Qd Q S r h k => ?_⟩
  unfold oW at h
  split at h
  . cases r with
    | @tuple a us _ ha ra => exact ⟨a, us, rfl, ha, by rw [<- ra.length]; exact h.1, l1 σ H ρ μ _ us _ _ S ra h.2 k⟩
  . exact h.elim
def HD (to ti : DTE) : DTG := fun d ρ μ Q => to ρ μ fun o μ1 => ti ρ μ1 fun i μ2 => match o, i, d with
  | .m l, .v (.int k), .v x => (match μ2 l with
    | some xs => (match ixN xs.length k with
      | some j => Q ρ (aO μ2 l (xs.set j x))
      | none => False)
    | none => False)
  | _, _, _ => False
theorem Km {o i : Expr} {to ti : DTE} (ho : DE X o to) (hi : DE X i ti)
    (ha : ∀ v, assign (.Subscript o i pos) X.env v = (do
      let ov <- holding [v] (eval o X.env)
      let iv <- holding [v, ov] (eval i X.env)
      standAt pos
      holding [v, ov, iv] (setItem ov iv v)
      release [v, ov, iv] []) := by intro _; rfl) : DG X (.Subscript o i pos) (HD to ti) := by
  obtain ⟨t1, p1, l1⟩ := ho
  obtain ⟨t2, p2, l2⟩ := hi
  refine ⟨_, O7 p1 p2 set_list ha, fun σ H ρ μ d u Qd Q S r h k => ?_⟩
  refine l1 σ H ρ μ _ _ S h fun x ux μ1 H1 e1 S1 rx h1 => ?_
  refine l2 σ H1 ρ μ1 _ _ S1 h1 fun y uy μ2 H2 e2 S2 ry h2 => ?_
  have r2 := (r.ext S.mu e1).ext S1.mu e2
  have rx2 := rx.ext S1.mu e2
  split at h2
  . rename_i l kk xv
    obtain ⟨rfl, ds, hm⟩ := rx2
    cases ry
    rw [hm] at h2
    obtain ⟨us, hl, rl⟩ := S2.mu l ds hm
    simp only at h2
    cases q : ixN ds.length kk with
    | none => rw [q] at h2; exact h2.elim
    | some j =>
      rw [q] at h2
      refine ⟨l, us, kk, j, rfl, rfl, hl, by rw [<- rl.length]; exact q, ?_⟩
      have ex : Ext X.K μ2 H2 (aO μ2 l (ds.set j xv)) (upd H2 l (.lst (us.set j u))) := qK hm
      exact k σ ρ _ _ (e1.trans (e2.trans ex)) ⟨S2.mu.set hm (rl.set r2 j), S2.rho.ext S2.mu ex⟩ h2
  . exact h2.elim
def bE (te : DTE) (g : DTG) : DTS := fun Dd ρ μ => te ρ μ fun d μ1 => g d ρ μ1 Dd.nx
theorem D6 {K : PySem.W.Frag} {t : TE} {g : TG} {gd : DTG} (l1 : tZ K t te) (l2 : Ld K g gd) : Ap K (NH t g) (bE te gd) := by
  intro σ H ρ μ Dd De S h k1 k2 k3 k4
  refine l1 σ H ρ μ _ _ S h fun d u μ1 H1 e1 S1 r h1 => ?_
  exact l2 σ H1 ρ μ1 d u _ _ S1 r h1 fun a b c d e2 => k1 a b c d (e1.trans e2)
theorem qj {tg : Expr} {g : DTG} (he : DE X e te) (hg : DG X tg g) (hs : swapsWithSole [tg] e pos.line X.env = pure false := by rfl) (hw : swappedStores [tg] e X.env = pure none := by rfl)
    (h1 : (assignEach [tg] X.env).map (·.2) = [assign tg X.env] := by rfl) : DS X (.Assign [tg] e pos) (bE te g) := by
  obtain ⟨t1, p1, l1⟩ := he
  obtain ⟨t2, p2, l2⟩ := hg
  exact ⟨_, NQ p1 p2 hs hw h1, D6 l1 l2⟩
theorem aU {i : Nat} {x : Str} {pos' : Pos} (hN : X.N.Nodup) (hi : X.N[i]? = some x) (hx : Loc X.env.scope x) (he : DE X e te) (hs : swapsWith e (some (.Name x pos')) pos.line X.env = pure false := by rfl) (hf : X.fn x = true \/ X.env.scope.names.lookup x = some .local := by first | exact .inl rfl | exact .inr rfl | assumption) :
    DS X (.Assign [.Name x pos'] e pos) (bE te (az i)) := by
  obtain ⟨t1, p1, l1⟩ := he
  exact ⟨_, ON hN hi hx p1 hs hf, D6 l1 yT⟩
def Gn (i j : Nat) (t : DTA) : DTS := fun Dd ρ μ => t ρ μ fun ds μ1 => match ds with
  | [v, w] => Dd.nx ((ρ.set i (some v)).set j (some w)) μ1
  | _ => False
theorem xH {i j : Nat} {x y : Str} {a b : Expr} {t : DTA} {px py pt : Pos} {kt k2 pt2} (hc : X.calm = true) (hN : X.N.Nodup) (hi : X.N[i]? = some x) (hj : X.N[j]? = some y) (hij : i ≠ j)
    (hx : X.env.scope.names.lookup x = some .local) (hy : X.env.scope.names.lookup y = some .local) (ha : DA X [a, b] t)
    (hw : swappedStores [.Tuple [.Name x px, .Name y py] kt pt] (.Tuple [a, b] k2 pt2) X.env = pure (some [x, y]))
    (hs : swapsWithSole [.Tuple [.Name x px, .Name y py] kt pt] (.Tuple [a, b] k2 pt2) pos.line X.env = pure false := by rfl) :
    DS X (.Assign [.Tuple [.Name x px, .Name y py] kt pt] (.Tuple [a, b] k2 pt2) pos) (Gn i j t) := by
  obtain ⟨t1, p1, l1⟩ := ha
  refine ⟨_, Ol hc hN hi hj hij hx hy p1 hw hs, fun σ H ρ μ Dd De S h k1 k2 k3 k4 => ?_⟩
  refine l1 σ H ρ μ _ _ S h fun ds us μ1 H1 e1 S1 rs len h1 => ?_
  split at h1
  . cases rs with
    | cons r1 r2 =>
      cases r2 with
      | cons r2 r3 =>
        cases r3
        exact ⟨_, _, rfl, k1 _ _ μ1 H1 e1 ⟨S1.mu, (S1.rho.set r1).set r2⟩ h1⟩
  . exact h1.elim
def GN (c : DTT) (tb : DTS) : DTS := fun Dd ρ μ => ∃ W : Nat -> Rho -> Mu -> Prop, (∃ m, W m ρ μ) /\ ∀ m ρ μ, W m ρ μ ->
  c ρ μ fun b μ1 => if b = true then tb { Dd with nx := fun ρ' μ' => ∃ m', m' < m /\ W m' ρ' μ', ct := fun ρ' μ' => ∃ m', m' < m /\ W m' ρ' μ', bk := Dd.nx } ρ μ1 else Dd.nx ρ μ1
theorem Ek {c : Expr} {body : List Stmt} (hp : PassesOwn (model X.prog X.w) X.A X.env X.xe) (hc : DT X c tc) (hb : DSs X body td) : DS X (.While c body [] pos) (GN tc td) := by
  obtain ⟨t0, p0, l0⟩ := hc
  obtain ⟨t1, p1, l1⟩ := hb
  refine ⟨_, Ku hp p0 p1, fun σ H ρ μ Dd De S h k1 k2 k3 k4 => ?_⟩
  obtain ⟨W, ⟨m, w0⟩, turn⟩ := h
  refine ⟨fun m σ' H' => ∃ ρ' μ', Ext X.K μ H μ' H' /\ St0 X.K H' ρ' μ' σ' /\ W m ρ' μ', ⟨m, ρ, μ, .refl, S, w0⟩, ?_⟩
  rintro m σ1 H1 ⟨ρ1, μ1, e1, S1, w1⟩
  refine l0 σ1 H1 ρ1 μ1 _ _ S1 (turn m ρ1 μ1 w1) fun b μ2 H2 e2 S2 h2 => ?_
  cases b with
  | true =>
    refine zW ⟨fun σ' H' => ∃ m', m' < m /\ ∃ ρ' μ', Ext X.K μ H μ' H' /\ St0 X.K H' ρ' μ' σ' /\ W m' ρ' μ', fun σ' H' ⟨m', hm, q⟩ => ⟨m', hm, q⟩, ?_⟩
    have nxt : ∀ σ' ρ' μ' H', Ext X.K μ2 H2 μ' H' -> St0 X.K H' ρ' μ' σ' -> (∃ m', m' < m /\ W m' ρ' μ') -> ∃ m', m' < m /\ ∃ ρ' μ', Ext X.K μ H μ' H' /\ St0 X.K H' ρ' μ' σ' /\ W m' ρ' μ' :=
      fun σ' ρ' μ' H' e3 S3 ⟨m', hm, q⟩ => ⟨m', hm, ρ', μ', e1.trans (e2.trans e3), S3, q⟩
    rw [if_pos rfl] at h2
    exact l1 σ1 H2 ρ1 μ2 _ _ S2 h2 nxt (fun a b c d e3 => k2 a b c d (e1.trans (e2.trans e3))) (fun a b c d e3 => k1 a b c d (e1.trans (e2.trans e3))) nxt
  | false => exact BD (k1 σ1 ρ1 μ2 H2 (e1.trans e2) S2 (by simpa using h2))
abbrev DTI := Rho -> Mu -> (List PyData -> Mu -> Prop) -> Prop
def ML (K : PySem.W.Frag) (J : It) (xs : List PyData) (μ1 : Mu) (H1 : Hp) : Prop := ∀ μ2 H2, Ext K μ1 H1 μ2 H2 -> cw K μ2 H2 -> ∀ i, (i < xs.length -> J.go i H2 /\ ∀ x H', J.yld i H2 x H' -> ∃ d, xs[i]? = some d /\ qo H2 H' /\ Rp K μ2 H' d x) /\ (i = xs.length -> J.stop i H2)
def Qr (K : PySem.W.Frag) (wi : TI) (src : DTI) : Prop := ∀ (σ : St) (H : Hp) (ρ : Rho) (μ : Mu) (Qd : List PyData -> Mu -> Prop) (R : It -> Hp -> Prop), St0 K H ρ μ σ -> src ρ μ Qd ->
  (∀ xs μ1 H1 J, Ext K μ H μ1 H1 -> St0 K H1 ρ μ1 σ -> ML K J xs μ1 H1 -> Qd xs μ1 -> R J H1) -> wi σ H R
def DI (X : Cx) (tg iter : Expr) (src : DTI) : Prop := ∃ wi, PI X tg iter wi /\ Qr X.K wi src
variable {tg : Expr}
def vj (te : DTE) : DTI := fun ρ μ Q => te ρ μ fun d μ1 => match d with
  | .v (.list xs) => Q xs μ1
  | _ => False
def vW (te : DTE) : DTI := fun ρ μ Q => te ρ μ fun d μ1 => match d with
  | .v (.tuple xs) => Q xs μ1
  | _ => False
theorem Cz (h : DE X e te) : DI X tg e (vj te) := by
  obtain ⟨t1, p1, l1⟩ := h
  refine ⟨_, Hn p1, fun σ H ρ μ Qd R S h k => ?_⟩
  refine l1 σ H ρ μ _ _ S h fun d u μ1 H1 e1 S1 r h1 => ?_
  split at h1
  . rename_i xs
    cases r with
    | @list a us _ ha hn ra =>
      refine ⟨a, rfl, ⟨us, SqL.of ha⟩, k xs μ1 H1 _ e1 S1 (fun μ2 H2 e2 ok2 i => ⟨fun hi => ?_, fun hi => ?_⟩) h1⟩
      . have ha2 := e2.keep _ _ ha hn trivial
        have hiu : i < us.length := by rw [<- ra.length]; exact hi
        refine ⟨⟨us, us[i], SqL.of ha2, by simp [hiu]⟩, fun x H' ⟨eH, hx⟩ => ?_⟩
        subst eH
        obtain ⟨u', h1', h2'⟩ := ra.get (i := i) (d := xs[i]) (by simp [hi])
        have := hx us (SqL.of ha2)
        rw [h1'] at this
        cases this
        exact ⟨xs[i], by simp [hi], qo.refl _, h2'.ext S1.mu e2⟩
      . exact ⟨us, SqL.of (e2.keep _ _ ha hn trivial), by rw [<- ra.length]; omega⟩
  . exact h1.elim
theorem x9 (h : DE X e te) : DI X tg e (vW te) := by
  obtain ⟨t1, p1, l1⟩ := h
  refine ⟨_, OG p1, fun σ H ρ μ Qd R S h k => ?_⟩
  refine l1 σ H ρ μ _ _ S h fun d u μ1 H1 e1 S1 r h1 => ?_
  split at h1
  . rename_i xs
    cases r with
    | @tuple a us _ ha ra =>
      refine ⟨a, rfl, ⟨us, ha⟩, k xs μ1 H1 _ e1 S1 (fun μ2 H2 e2 ok2 i => ⟨fun hi => ?_, fun hi => ?_⟩) h1⟩
      . have ha2 := Bm S1.mu e2 ha
        have hiu : i < us.length := by rw [<- ra.length]; exact hi
        refine ⟨⟨us, us[i], ha2, by simp [hiu]⟩, fun x H' ⟨eH, hx⟩ => ?_⟩
        subst eH
        obtain ⟨u', h1', h2'⟩ := ra.get (i := i) (d := xs[i]) (by simp [hi])
        have := hx us ha2
        rw [h1'] at this
        cases this
        exact ⟨xs[i], by simp [hi], qo.refl _, h2'.ext S1.mu e2⟩
      . exact ⟨us, Bm S1.mu e2 ha, by rw [<- ra.length]; omega⟩
  . exact h1.elim
def pA (lo : Int) (n : Nat) : List PyData := (List.range n).map fun (i : Nat) => PyData.int (lo + (i : Int))
theorem LV {K : PySem.W.Frag} {lo : Int} {n : Nat} {μ : Mu} {H : Hp} : ML K (Itr lo n) (pA lo n) μ H := fun μ2 H2 e2 ok2 i => by
  have hl : (pA lo n).length = n := by unfold pA; simp
  refine ⟨fun hi => ?_, fun hi => ?_⟩
  . rw [hl] at hi
    refine ⟨hi, fun x H' ⟨eH, hx⟩ => ?_⟩
    subst eH hx
    exact ⟨.int (lo + i), by unfold pA; simp [hi], qo.refl _, .int _⟩
  . show n <= i
    omega
def sR (t : DTA) : DTI := fun ρ μ Q => t ρ μ fun ds μ1 => match ds with
  | [.v (.int j)] => (-(2 ^ 62) <= j /\ j < 2 ^ 62) /\ Q (pA 0 j.toNat) μ1
  | _ => False
def GD (t : DTA) : DTI := fun ρ μ Q => t ρ μ fun ds μ1 => match ds with
  | [.v (.int i), .v (.int j)] => (-(2 ^ 62) <= i /\ i < 2 ^ 62 /\ -(2 ^ 62) <= j /\ j < 2 ^ 62) /\ Q (pA i (j - i).toNat) μ1
  | _ => False
theorem tQ {a : Expr} {t : DTA} {p pos : Pos} (hg : Gl X "range") (hm : X.mg "range" = none) (ha : DA X [a] t) (hs : starEach [a] X.env = [(false, eval a X.env)] := by rfl) (hc : X.calm = true := by rfl) : DI X tg (.Call (.Name "range" p) [a] [] pos) (sR t) := by
  obtain ⟨t1, p1, l1⟩ := ha
  refine ⟨_, Jb hc hg hm p1 hs, fun σ H ρ μ Qd R S h k => ?_⟩
  refine l1 σ H ρ μ _ _ S h fun ds us μ1 H1 e1 S1 rs len h1 => ?_
  split at h1
  . rename_i j
    cases rs with
    | cons r1 r2 => cases r2; cases r1; exact ⟨j, rfl, h1.1.1, h1.1.2, k _ μ1 H1 _ e1 S1 LV h1.2⟩
  . exact h1.elim
theorem L0 {a b : Expr} {t : DTA} {p pos : Pos} (hg : Gl X "range") (hm : X.mg "range" = none) (ha : DA X [a, b] t) (hs : starEach [a, b] X.env = [(false, eval a X.env), (false, eval b X.env)] := by rfl) (hs2 : starEach [b] X.env = [(false, eval b X.env)] := by rfl) (hc : X.calm = true := by rfl) : DI X tg (.Call (.Name "range" p) [a, b] [] pos) (GD t) := by
  obtain ⟨t1, p1, l1⟩ := ha
  refine ⟨_, ID hc hg hm p1 hs hs2, fun σ H ρ μ Qd R S h k => ?_⟩
  refine l1 σ H ρ μ _ _ S h fun ds us μ1 H1 e1 S1 rs len h1 => ?_
  split at h1
  . rename_i i j
    cases rs with
    | cons r1 r2 =>
      cases r2 with
      | cons r2 r3 => cases r3; cases r1; cases r2; exact ⟨i, j, rfl, h1.1, k _ μ1 H1 _ e1 S1 LV h1.2⟩
  . exact h1.elim
def Bw (src : DTI) (g : DTG) (tb : DTS) : DTS := fun Dd ρ μ => src ρ μ fun xs μ1 => ∃ Pv : Nat -> Rho -> Mu -> Prop, Pv 0 ρ μ1 /\
  (∀ i x ρ' μ', xs[i]? = some x -> Pv i ρ' μ' -> g (.v x) ρ' μ' fun ρ2 μ2 => tb { Dd with nx := Pv (i + 1), ct := Pv (i + 1), bk := Dd.nx } ρ2 μ2) /\ (∀ ρ' μ', Pv xs.length ρ' μ' -> Dd.nx ρ' μ')
theorem vD {iter : Expr} {body : List Stmt} {src : DTI} {g : DTG} (hp : PassesOwn (model X.prog X.w) X.A X.env X.xe) (hc : X.calm = true) (hi : DI X tg iter src) (hg : DG X tg g) (hb : DSs X body td)
    (hs : ∀ x, foldedSetIterable iter X.env x = pure x := by intro _; rfl) : DS X (.For tg iter body [] pos) (Bw src g td) := by
  obtain ⟨t0, p0, l0⟩ := hi
  obtain ⟨t1, p1, l1⟩ := hg
  obtain ⟨t2, p2, l2⟩ := hb
  refine ⟨_, Oo hp hc p0 p1 p2 hs, fun σ H ρ μ Dd De S h k1 k2 k3 k4 => ?_⟩
  refine l0 σ H ρ μ _ _ S h fun xs μ1 H1 J e1 S1 it h1 => ?_
  obtain ⟨Pv, pv0, turn, fin⟩ := h1
  refine ⟨fun i m σ' H' => m = xs.length - i /\ i ≤ xs.length /\ ∃ ρ' μ', Ext X.K μ1 H1 μ' H' /\ St0 X.K H' ρ' μ' σ' /\ Pv i ρ' μ', ⟨xs.length, by simp, Nat.zero_le _, ρ, μ1, .refl, S1, pv0⟩, ?_⟩
  rintro i m σ' H' ⟨rfl, hi, ρ', μ', e2, S2, pv⟩
  obtain ⟨go, stop⟩ := it μ' H' e2 S2.mu i
  by_cases hlt : i < xs.length
  . obtain ⟨g1, y1⟩ := go hlt
    refine .inr ⟨g1, fun σ2 H2 => ∃ ρ2 μ2, Ext X.K μ1 H1 μ2 H2 /\ St0 X.K H2 ρ2 μ2 σ2 /\ Pv (i + 1) ρ2 μ2, fun σ2 H2 q => ⟨xs.length - (i + 1), by omega, rfl, hlt, q⟩, fun x H2 yl => ?_⟩
    obtain ⟨d, hd, sm, rd⟩ := y1 x H2 yl
    have e3 : Ext X.K μ' H' μ' H2 := .of_same sm
    have S3 : St0 X.K H2 ρ' μ' σ' := ⟨S2.mu.Kr e3 sm, S2.rho.ext S2.mu e3⟩
    refine l1 σ' H2 ρ' μ' (.v d) x _ _ S3 rd (turn i d ρ' μ' hd pv) fun σ4 ρ4 μ4 H4 e4 S4 h4 => ?_
    have nxt : ∀ a b c dd, Ext X.K μ4 H4 c dd -> St0 X.K dd b c a -> Pv (i + 1) b c -> ∃ ρ2 μ2, Ext X.K μ1 H1 μ2 dd /\ St0 X.K dd ρ2 μ2 a /\ Pv (i + 1) ρ2 μ2 := fun a b c dd e5 S5 q => ⟨b, c, e2.trans (e3.trans (e4.trans e5)), S5, q⟩
    have ee := e1.trans (e2.trans (e3.trans e4))
    exact l2 σ4 H4 ρ4 μ4 _ _ S4 h4 nxt (fun a b c d e5 => k2 a b c d (ee.trans e5)) (fun a b c d e5 => k1 a b c d (ee.trans e5)) nxt
  . have ei : i = xs.length := by omega
    subst ei
    exact .inl ⟨stop rfl, k1 σ' ρ' μ' H' (e1.trans e2) S2 (fin ρ' μ' pv)⟩
end
abbrev DSp := List D -> Mu -> DK -> Prop
def spD (K : PySem.W.Frag) (dsp : DSp) : Sp := fun vs H Q _ => ∃ (ds : List D) (μ : Mu) (Qd : DK), cw K μ H /\ jT K μ H ds vs /\ dsp ds μ Qd /\
  (∀ d u μ' H', Ext K μ H μ' H' -> cw K μ' H' -> RpD K μ' H' d u -> Qd d μ' -> Q u H')
def aS (N : List Str) (ds : List D) : Rho := ds.map some ++ List.replicate (N.length - ds.length) none
theorem jT.get {K : PySem.W.Frag} {μ : Mu} {H : Hp} {ds : List D} {us : List V} : ∀ {i : Nat} {d : D}, jT K μ H ds us -> ds[i]? = some d -> ∃ u, us[i]? = some u /\ RpD K μ H d u
  | _, _, .nil, h => by simp at h
  | 0, _, .cons r _, h => by simp at h; subst h; exact ⟨_, rfl, r⟩
  | i + 1, d, .cons _ t, h => by
    obtain ⟨u, h1, h2⟩ := jT.get (i := i) (d := d) t (by simpa using h)
    exact ⟨u, by simpa using h1, h2⟩
theorem vJ {K : PySem.W.Frag} {μ : Mu} {H : Hp} {N : List Str} {ds : List D} {vs : List V} (r : jT K μ H ds vs) : fz K μ H (aS N ds) (start N vs) := by
  have hl := r.length
  refine ⟨by unfold aS start; simp [hl], fun i d e => ?_⟩
  unfold aS at e
  by_cases hi : i < ds.length
  . rw [List.getElem?_append_left (by simpa using hi), List.getElem?_map] at e
    unfold start
    rw [List.getElem?_append_left (by simpa [hl] using hi), List.getElem?_map]
    cases q : ds[i]? with
    | none => rw [q] at e; cases e
    | some d' =>
      rw [q] at e
      cases e
      obtain ⟨u, h1, h2⟩ := r.get q
      exact ⟨u, by rw [h1]; rfl, h2⟩
  . rw [List.getElem?_append_right (by simpa using hi), List.getElem?_replicate] at e
    split at e <;> cases e
section
variable {P : Program} {w : World} {K : PySem.W.Frag} {mg : Str -> Option Value} {base : Heap}
theorem _root_.L2.Fun.okD {x qual : Str} {st : Stmt} {f : Addr} {fd : FuncData} {N ps : List Str} {k : Nat} {dsp : DSp} (F : Fun K x qual st f fd) (S : aP N ps (aD st)) (len : ∀ ds μ Q, dsp ds μ Q -> ds.length = ps.length)
    (hbody : ∀ (cdv : Value) (A : Around) (outer : List Env) (s : Shared) (H : Hp) (E : XK), ir k (A.deeper (envOfC qual (aD st) s.heap.objs.size f cdv)) ->
      ∃ td, DSs (mn CX0 P w K mg base N qual (aD st) f cdv A outer s H E).nox (gw st) td /\ ∀ ds μ Qd, dsp ds μ Qd -> td { nx := fun _ μ' => Qd (.v .none) μ', rt := Qd } (aS N ds) μ) : bL P w K mg base CX0 (k + 1) f fd ps (spD K dsp) := by
  refine F.ok S (fun vs H Q E h => ?_) (fun cdv A outer s H vs Q E hr h => ?_)
  . obtain ⟨ds, μ, Qd, _, r, h, _⟩ := h
    rw [<- r.length]
    exact len ds μ Qd h
  . obtain ⟨ds, μ, Qd, ok, r, h, fin⟩ := h
    obtain ⟨td, ⟨t, p, l⟩, rd⟩ := hbody cdv A outer s H E hr
    refine ⟨t, p, ?_⟩
    exact l (start N vs) H (aS N ds) μ _ _ ⟨ok, vJ r⟩ (rd ds μ Qd h) (fun σ' ρ' μ' H' e' S' q => fin (.v .none) .non μ' H' e' S'.mu Rp.none q) (fun d u μ' H' e' ok' r' q => fin d u μ' H' e' ok' r' q) (fun _ _ _ _ _ _ q => q) (fun _ _ _ _ _ _ q => q)
end
section
variable {X : Cx} {e : Expr} {es : List Expr} {t : DTA} {p pos : Pos} {x : Str} {k : Nat} {f : Addr} {fd : FuncData} {ps : List Str} {dsp : DSp}
def ax (dsp : DSp) (t : DTA) : DTE := fun ρ μ Q => t ρ μ fun ds μ1 => dsp ds μ1 Q
theorem aj (F : bL X.prog X.w X.K X.mg X.base CX0 k f fd ps (spD X.K dsp)) (hr : ir k X.A) (hg : Gl X x) (hm : X.mg x = some (.ref f)) (hk : PySem.W.keepIn X.K (.ref f) = true) (hb : Binds X.K fd ps [])
    (ha : DA X (e :: es) t) (hdb : (x == ("__debug__" : Str)) = false := by decide) (he : starEach (e :: es) X.env = (false, eval e X.env) :: starEach es X.env := by rfl) (hpl : (backTo pos (starEach es X.env)).any (·.1) = false := by rfl) :
    DE X (.Call (.Name x p) (e :: es) [] pos) (ax dsp t) := by
  obtain ⟨t1, p1, l1⟩ := ha
  refine ⟨_, G9 F hr hg hm hk hb .nil PF p1 hdb he hpl, fun σ H ρ μ Qd Q S h kk => ?_⟩
  refine l1 σ H ρ μ _ _ S h fun ds us μ1 H1 e1 S1 rs len h1 => ?_
  refine ⟨ds, μ1, Qd, S1.mu, by rw [List.append_nil]; exact rs, h1, fun d u μ' H' e2 ok r q => ?_⟩
  exact kk d u μ' H' (e1.trans e2) ⟨ok, S1.rho.ext S1.mu e2⟩ r q
end
section
variable {X : Cx} {o e : Expr} {to te : DTE} {apos cpos : Pos}
def Na (to te : DTE) : DTE := fun ρ μ Q => to ρ μ fun x μ1 => match x with
  | .m l => te ρ μ1 fun y μ2 => (match y, μ2 l with
    | .v d, some xs => xs.length < 1000 /\ Q (.v .none) (aO μ2 l (xs ++ [d]))
    | _, _ => False)
  | _ => False
theorem Js (ho : DE X o to) (ha : DE X e te) (hbase : attributeBase o "append" X.env (eval o X.env) = eval o X.env := by rfl)
    (hfew : ((backTo cpos (starEach [e] X.env)).all (fun x => !x.1) && (backToKw cpos (keywordEach [] X.env)).all (fun x => x.1.isSome)
      && decide ([e].length + ([] : List Keyword).length + (if ([] : List Keyword).isEmpty then 0 else 1) < 30)) = true := by rfl)
    (hline : (apos.endLine == cpos.line) = true := by rfl) (hs : starEach [e] X.env = (false, eval e X.env) :: starEach [] X.env := by rfl) (hplain : (backTo cpos (starEach [] X.env)).any (·.1) = false := by rfl) :
    DE X (.Call (.Attribute o "append" apos) [e] [] cpos) (Na to te) := by
  obtain ⟨t1, p1, l1⟩ := ho
  obtain ⟨t2, p2, l2⟩ := ha
  refine ⟨_, QH PySem.F.plainAttrs_list PySem.F.slot_list_append PySem.F.type_list_append qV p1 (gy p2 nV hs) hbase hfew hline hs hplain, fun σ H ρ μ Qd Q S h k => ?_⟩
  refine l1 σ H ρ μ _ _ S h fun x ux μ1 H1 e1 S1 rx h1 => ?_
  cases x with
  | m l =>
    obtain ⟨rfl, ds, hm⟩ := id rx
    obtain ⟨us, hl, rl⟩ := S1.mu l ds hm
    refine ⟨.inl ⟨rfl, us, SqL.of hl⟩, ?_⟩
    refine l2 σ H1 ρ μ1 _ _ S1 h1 fun y uy μ2 H2 e2 S2 ry h2 => ?_
    obtain ⟨_, ds2, hm2⟩ := rx.ext S1.mu e2
    obtain ⟨us2, hl2, rl2⟩ := S2.mu l ds2 hm2
    rw [hm2] at h2
    cases y with
    | v d =>
      have h3 : ds2.length < 1000 /\ Qd (.v .none) (aO μ2 l (ds2 ++ [d])) := h2
      refine ⟨l, us2, uy, rfl, rfl, hl2, by rw [<- rl2.length]; exact eV (Nat.le_of_lt h3.1), ?_⟩
      have ex : Ext X.K μ2 H2 (aO μ2 l (ds2 ++ [d])) (upd H2 l (.lst (us2 ++ [uy]))) := qK hm2
      exact k (.v .none) .non _ _ (e1.trans (e2.trans ex)) ⟨S2.mu.set hm2 (rl2.append (.cons ry .nil)), S2.rho.ext S2.mu ex⟩ Rp.none h3.2
    | m _ => exact h2.elim
    | s _ => exact h2.elim
    | o _ => exact h2.elim
    | q _ => exact h2.elim
  | v d => exact h1.elim
  | s ns => exact h1.elim
  | o _ => exact h1.elim
  | q _ => exact h1.elim
def Q9 (to te : DTE) : DTE := fun ρ μ Q => to ρ μ fun x μ1 => match x with
  | .m l => te ρ μ1 fun y μ2 => (match y, μ2 l with
    | .v (.list ys), some xs => xs.length + ys.length <= 1000 /\ Q (.v .none) (aO μ2 l (xs ++ ys))
    | _, _ => False)
  | _ => False
def Q7 (to : DTE) : DTE := fun ρ μ Q => to ρ μ fun x μ1 => match x with
  | .v (.int i) => Q (.v (.int (Builtin.Int.intBits i : Nat))) μ1
  | _ => False
end
open PySem PySem.Spec PyProof.Rows
theorem iK {prog : Program} {w : World} {A : Around} {R : Result -> Shared -> Prop} {s : Shared} {elt target iter : Expr} {ifs : List Expr} {scope : Scope} {pos : Pos} {it acc : Value} {env : Env} (I : Nat -> Shared -> Prop)
    (turn : ∀ n s, I n s -> wpAny (model prog w) A (pyNext it) (fun r s₁ => match r with
      | none => R (.ok .next) s₁
      | some v => wpAny (model prog w) A (letOwnedTupleGo target it v) (fun _ s' => wpAny (model prog w) A (assign target env v) (fun _ s₂ =>
          wpAny (model prog w) A (forIn ifs true fun c r => if r = true then do let ok <- isTrue c env (eval c env); pure (ForInStep.yield ok) else pure (ForInStep.yield r)) (fun ok s₃ =>
            if ok = true then wpAny (model prog w) A (eval elt env) (fun x s₄ =>
              wpAny (model prog w) A (call (.builtin "list.append") [acc, x]) (fun _ s₅ => ∃ m, m < n /\ I m s₅) (fun _ _ => False) s₄) (fun _ _ => False) s₃
            else ∃ m, m < n /\ I m s₃) (fun _ _ => False) s₂) (fun _ _ => False) s') (fun _ _ => False) s₁) (fun _ _ => False) s)
    (n : Nat) (h : I n s) :
    codeAny (model prog w) A (.compLoop (.ListComp elt [⟨target, iter, ifs, 0⟩] scope pos) 0 it acc env) R s := by
  refine codeAny_loop rfl I (fun n s hI => ?_) n h
  show wpAny _ A ((compTurn (.ListComp elt [⟨target, iter, ifs, 0⟩] scope pos) 0 it acc env).onRaise (fun x => do noteFrame x env; theTreesLotGoes x)) _ _ s
  refine wpAny_noted ?_
  rw [compTurn_list]
  refine wpAny_bind (wpAny_standAt (wpAny_bind (wpAny_mono (turn n s hI) (fun r s₁ h₁ => ?_) fun _ _ h' => h'.elim)))
  cases r with
  | none => exact wpAny_pure h₁
  | some v =>
    refine wpAny_bind (wpAny_mono h₁ (fun _ s' h' => ?_) fun _ _ h' => h'.elim)
    refine wpAny_bind (wpAny_mono h' (fun _ s₂ h₂ => wpAny_bind (wpAny_mono h₂ (fun ok s₃ h₃ => ?_) fun _ _ h' => h'.elim)) fun _ _ h' => h'.elim)
    cases ok with
    | false => exact wpAny_pure ⟨rfl, h₃⟩
    | true =>
      exact wpAny_bind (wpAny_bind (wpAny_mono h₃ (fun x s₄ h₄ => wpAny_bind (wpAny_mono h₄ (fun _ s₅ h₅ => wpAny_pure (wpAny_pure ⟨rfl, h₅⟩)) fun _ _ h' => h'.elim)) fun _ _ h' => h'.elim))
section
variable {K : PySem.W.Frag} {μ μ' : Mu} {H : Hp}
mutual
theorem Rp.shrink {d : PyData} {u : V} (sub : ∀ a, μ' a = none -> μ a = none) : Rp K μ' H d u -> Rp K μ H d u
  | .none => .none
  | .bool b => .bool b
  | .int i => .int i
  | .str x => .str x
  | .list h n r => .list h (sub _ n) (RpL.shrink sub r)
  | .tuple h r => .tuple h (RpL.shrink sub r)
theorem RpL.shrink {ds : List PyData} {us : List V} (sub : ∀ a, μ' a = none -> μ a = none) : RpL K μ' H ds us -> RpL K μ H ds us
  | .nil => .nil
  | .cons h r => .cons (Rp.shrink sub h) (RpL.shrink sub r)
end
end
theorem DY {X : Cx} {e : Expr} {td : DTE} (h : ∀ (pins : List (Addr × Obj)) (s : Shared) (σ : St) (H : Hp) (ρ : Rho) (μ : Mu) (Qd : DK) (Q : VK), Inv X pins σ H s -> St0 X.K H ρ μ σ -> td ρ μ Qd ->
    (∀ d u μ' H', Ext X.K μ H μ' H' -> St0 X.K H' ρ μ' σ -> RpD X.K μ' H' d u -> Qd d μ' -> Q u H') -> wpAny (model X.prog X.w) X.A (eval e X.env) (EP X pins σ Q) X.xe s) : DE X e td :=
  ⟨fun σ H Q => ∃ ρ μ Qd, St0 X.K H ρ μ σ /\ td ρ μ Qd /\ (∀ d u μ' H', Ext X.K μ H μ' H' -> St0 X.K H' ρ μ' σ -> RpD X.K μ' H' d u -> Qd d μ' -> Q u H'),
    fun pins s σ H Q I ⟨ρ, μ, Qd, S, q, k⟩ => h pins s σ H ρ μ Qd Q I S q k, fun σ H ρ μ Qd Q S q k => ⟨ρ, μ, Qd, S, q, k⟩⟩
def aY (X : Cx) (N' : List Str) (scope : Scope) (cl : List (Str × Addr)) (fp : List Addr) (s₃ : Shared) (H₃ : Hp) : Cx :=
  { X with N := N', s₀ := s₃, H₀ := H₃, env := compEnvC scope cl s₃.heap.objs.size X.env, outer := X.stack, stack := X.stack, ex := fp, fn := fun _ => false, pn := X.pn, xe := fun _ _ => False }
def Le : Rho -> Rho -> Prop
  | [], [] => True
  | none :: r, _ :: r' => Le r r'
  | some d :: r, some d' :: r' => d = d' /\ Le r r'
  | _, _ => False
theorem Le.get : ∀ {ρ ρ' : Rho}, Le ρ ρ' -> ρ.length = ρ'.length /\ ∀ (i : Nat) d, ρ[i]? = some (some d) -> ρ'[i]? = some (some d)
  | [], [], _ => ⟨rfl, fun _ _ h => h⟩
  | none :: r, x :: r', h => by
    obtain ⟨h1, h2⟩ := Le.get (ρ := r) (ρ' := r') h
    refine ⟨congrArg (· + 1) h1, fun i d e => ?_⟩
    cases i with
    | zero => simp at e
    | succ j => exact h2 j d (by simpa using e)
  | some d :: r, some d' :: r', h => by
    obtain ⟨rfl, h⟩ := h
    obtain ⟨h1, h2⟩ := Le.get (ρ := r) (ρ' := r') h
    refine ⟨congrArg (· + 1) h1, fun i d e => ?_⟩
    cases i with
    | zero => simpa using e
    | succ j => exact h2 j d (by simpa using e)
  | some d :: r, none :: r', h => h.elim
  | [], _ :: _, h => h.elim
  | none :: _, [], h => h.elim
  | some _ :: _, [], h => h.elim
def bZ {α : Type} (cap : List (Option Nat)) (ρ : List (Option α)) : List (Option α) := cap.map fun o => o.bind fun j => (ρ[j]?).join
def HC (cap : List (Option Nat)) (src : DTI) (g : DTG) (c : DTT) (elt : DTE) : DTE := fun ρ μ Q => src ρ μ fun xs μ1 => xs.length ≤ 1000 /\ ∃ f : PyData -> Option PyData,
  (∀ x ∈ xs, ∀ μ' : Mu, (∀ a ds, μ1 a = some ds -> μ' a = some ds) -> g (.v x) (bZ cap ρ) μ' fun ρ2 μ2 => Le (bZ cap ρ) ρ2 /\ c ρ2 μ2 fun b μ3 =>
    if b = true then elt ρ2 μ3 fun d μ4 => μ4 = μ' /\ (match d with | .v y => f x = some y | _ => False) else μ3 = μ' /\ f x = none) /\ Q (.v (.list (xs.filterMap f))) μ1
def Jr (X : Cx) (ifs : List Expr) (c : DTT) : Prop := ∀ (pins : List (Addr × Obj)) (s : Shared) (σ : St) (H : Hp) (ρ : Rho) (μ : Mu) (Qd : Bool -> Mu -> Prop) (Q : Bool -> Hp -> Prop), Inv X pins σ H s -> St0 X.K H ρ μ σ -> c ρ μ Qd ->
  (∀ b μ' H', Ext X.K μ H μ' H' -> St0 X.K H' ρ μ' σ -> Qd b μ' -> Q b H') ->
  wpAny (model X.prog X.w) X.A (forIn ifs true fun c r => if r = true then do let ok <- isTrue c X.env (eval c X.env); pure (ForInStep.yield ok) else pure (ForInStep.yield r)) (TP X pins σ Q) X.xe s
def xG : DTT := fun _ μ Q => Q true μ
theorem pW {X : Cx} : Jr X [] xG := fun pins s σ H ρ μ Qd Q I S h k => wpAny_tests_nil ⟨H, I, k true μ H .refl S h⟩
theorem xy {X : Cx} {c : Expr} {tc : DTT} (h : DT X c tc) : Jr X [c] tc := by
  obtain ⟨t, p, l⟩ := h
  exact fun pins s σ H ρ μ Qd Q I S h k => wpAny_tests_one (p pins s σ H _ I (l σ H ρ μ _ _ S h k))
theorem Un.after {fs ex : List Addr} {H H1 : Hp} {h h1 h' : Heap} (u : Un fs ex H H1 h h1) (k : ∀ b o, b < h.objs.size -> h1.get? b = some o -> h'.get? b = some o) : Un fs ex H H1 h h' :=
  ⟨fun b o e n hb hx => k b o (Heap.lt_size e) (u.keep b o e n hb hx), fun b o e n hb hx => let ⟨sl, q⟩ := u.slot b o e n hb hx; ⟨sl, k b _ (Heap.lt_size e) q⟩, u.free, fun b o e hx => let ⟨o', q⟩ := u.there b o e hx; ⟨o', k b _ (Heap.lt_size e) q⟩, u.q9, u.qA, u.pN⟩
theorem qm {α : Type} {cap : List (Option Nat)} {ρ : List (Option α)} {i : Nat} {d : α} (h : (bZ cap ρ)[i]? = some (some d)) : ∃ j, cap[i]? = some (some j) /\ ρ[j]? = some (some d) := by
  unfold bZ at h
  rw [List.getElem?_map] at h
  cases q : cap[i]? with
  | none => rw [q] at h; cases h
  | some o =>
    rw [q] at h
    cases o with
    | none => cases h
    | some j =>
      refine ⟨j, rfl, ?_⟩
      simp only [Option.map_some, Option.bind_some, Option.some.injEq] at h
      cases z : ρ[j]? with
      | none => rw [z] at h; cases h
      | some y => rw [z] at h; simp only [Option.join_some] at h; rw [h]
theorem JC {α : Type} {cap : List (Option Nat)} {ρ : List (Option α)} {i j : Nat} {d : α} (h : cap[i]? = some (some j)) (e : ρ[j]? = some (some d)) : (bZ cap ρ)[i]? = some (some d) := by
  unfold bZ
  rw [List.getElem?_map, h]
  simp [e]
theorem fz.cap {K : PySem.W.Frag} {μ : Mu} {H : Hp} {ρ : Rho} {σ : St} {cap : List (Option Nat)} (r : fz K μ H ρ σ) : fz K μ H (bZ cap ρ) (bZ cap σ) := by
  refine ⟨by unfold bZ; simp, fun i d e => ?_⟩
  obtain ⟨j, h1, h2⟩ := qm e
  obtain ⟨u, h3, h4⟩ := r.2 j d h2
  exact ⟨u, JC h1 h3, h4⟩
theorem fz.le {K : PySem.W.Frag} {μ : Mu} {H : Hp} {ρ ρ' : Rho} {σ : St} (r : fz K μ H ρ' σ) (l : Le ρ ρ') : fz K μ H ρ σ :=
  ⟨l.get.1.trans r.1, fun i d e => r.2 i d (l.get.2 i d e)⟩
theorem wY {xs : List PyData} {f : PyData -> Option PyData} {i : Nat} {d : PyData} (h : xs[i]? = some d) : (xs.take (i + 1)).filterMap f = (xs.take i).filterMap f ++ (f d).toList := by
  obtain ⟨hi, e⟩ := List.getElem?_eq_some_iff.mp h
  rw [List.take_succ_eq_append_getElem hi, List.filterMap_append, e]
  cases q : f d <;> simp [q]
theorem G2 {X : Cx} {N' : List Str} {scope : Scope} {cl : List (Str × Addr)} {elt iter tg : Expr} {ifs : List Expr} {pos : Pos} {cap : List (Option Nat)} {src : DTI} {g : DTG} {c : DTT} {te : DTE} (hc : X.calm = X.calm)
    (hi : DI X tg iter src) (hg : ∀ fp s₃ H₃, DG (aY X N' scope cl fp s₃ H₃) tg g) (hif : ∀ fp s₃ H₃, Jr (aY X N' scope cl fp s₃ H₃) ifs c) (he : ∀ fp s₃ H₃, DE (aY X N' scope cl fp s₃ H₃) elt te)
    (hclos : closureFor scope X.env = pure cl) (hcell : ∀ y ∈ scope.names, y.2 ≠ .cell) (hkind : scope.kind = .function) (hnames : ∀ y ∈ scope.names, y.2 = .local -> scope.names.lookup y.1 = some .local)
    (hcl : ∀ x a, cl.lookup x = some a -> X.env.cells.lookup x = some a) (hhas : ∀ x, (relabel scope X.env).names.lookup x = some .cell \/ (relabel scope X.env).names.lookup x = some .free -> ∃ a, cl.lookup x = some a)
    (hlen : cap.length = N'.length) (hcap : ∀ (i j : Nat) (x : Str), cap[i]? = some (some j) -> N'[i]? = some x -> X.N[j]? = some x /\ Vis X.env.scope x /\ X.env.kindOf x ≠ some .local /\ ((relabel scope X.env).names.lookup x = some .cell \/ (relabel scope X.env).names.lookup x = some .free))
    (hs : ∀ x, foldedSetIterable iter X.env x = pure x := by intro _; rfl) : DE X (.ListComp elt [⟨tg, iter, ifs, 0⟩] scope pos) (HC cap src g c te) := by
  refine DY fun pins s σ H ρ μ Qd Q I S h k => ?_
  obtain ⟨wi, pw, li⟩ := hi
  rw [eval_ListComp]
  refine wpAny_comprehension_free (use := none) rfl hs hclos hkind hnames (thn (pw pins s σ H _ I (li σ H ρ μ _ (fun J H1 => ∃ xs μ1, Ext X.K μ H μ1 H1 /\ St0 X.K H1 ρ μ1 σ /\ ML X.K J xs μ1 H1 /\ xs.length ≤ 1000 /\ ∃ f : PyData -> Option PyData,
      (∀ x ∈ xs, ∀ μ' : Mu, (∀ a ds, μ1 a = some ds -> μ' a = some ds) -> g (.v x) (bZ cap ρ) μ' fun ρ2 μ2 => Le (bZ cap ρ) ρ2 /\ c ρ2 μ2 fun b μ3 =>
        if b = true then te ρ2 μ3 fun d μ4 => μ4 = μ' /\ (match d with | .v y => f x = some y | _ => False) else μ3 = μ' /\ f x = none) /\ Qd (.v (.list (xs.filterMap f))) μ1) S h (fun xs μ1 H1 J e1 S1 it q => ⟨xs, μ1, e1, S1, it, q⟩)))
    fun v s1 h1 => thn h1 fun itv s2 h2 => ?_)
  obtain ⟨it, fp, tn, J, H2, rfl, I2, T, st2, f2, xs, μ1, e1, S1, itok, hxs, f, body, fin⟩ := h2
  refine wpAny_newObj_type (wpAny_newFunctionEnv hcell (by intro y hy; simp at hy) (fun h₁ hns₁ hsb₁ => ?_) hkind)
  dsimp only at hns₁ hsb₁ ⊢
  have hfree2 : H2 s2.heap.objs.size = none := I2.hok.fresh (Nat.le_refl _)
  have hK2 : X.K.lookup s2.heap.objs.size = none := by
    cases z : X.K.lookup s2.heap.objs.size with
    | none => rfl
    | some o => exact absurd (Heap.lt_size (I2.kIn _ _ z)) (Nat.lt_irrefl _)
  have I3 : Inv X pins σ (upd H2 s2.heap.objs.size (.lst [])) { s2 with heap := s2.heap.push { cls := .type "list", dict := none, data := .seq ([] : List Value).toArray } } :=
    I2.laid (t' := s2.toks) (fun b u e => Heap.get?_push_of_some _ e) (Nat.le_refl _) ⟨Nat.zero_le _, [], 0, .nil, Heap.get?_push_size _ rfl⟩
  generalize hH : s2.heap.push { cls := .type "list", dict := none, data := .seq ([] : List Value).toArray } = hp3 at hns₁ hsb₁ I3 ⊢
  have hsz3 : hp3.objs.size = s2.heap.objs.size + 1 := by rw [<- hH, Heap.size_push]
  have kept3 : ∀ b o, hp3.get? b = some o -> h₁.get? b = some o := fun b o e => hsb₁.extBut b o (Nat.ne_of_lt (Heap.lt_size e)) (Heap.get?_push_of_some _ e)
  have old3 : ∀ b o, s2.heap.get? b = some o -> hp3.get? b = some o := fun b o e => by rw [<- hH]; exact Heap.get?_push_of_some _ e
  have fplt : ∀ b ∈ fp, b < s2.heap.objs.size := fun b hb => by obtain ⟨o, e, _⟩ := T.obj 0 _ st2 b hb; exact Heap.lt_size e
  have fpst : ∀ b ∈ fp, b ∉ frs X.stack := fun b hb hz => by
    rcases List.mem_cons.mp (I2.qp b hz) with e | e
    . exact (f2 b hb).2.1 e
    . exact (f2 b hb).2.2.1 e
  obtain ⟨s3, hs3⟩ : ∃ s3 : Shared, s3 = { s2 with heap := hp3 } := ⟨_, rfl⟩
  obtain ⟨H3, hH3⟩ : ∃ H3 : Hp, H3 = upd H2 s2.heap.objs.size (.lst []) := ⟨_, rfl⟩
  have heap3 : s3.heap = hp3 := by rw [hs3]
  rw [<- hH3] at I3
  have I3' : Inv X pins σ H3 s3 := by rw [hs3]; exact I3
  have hloc : H3 hp3.objs.size = none := by have := I3'.hok.fresh (a := hp3.objs.size) (by rw [heap3]; exact Nat.le_refl _); exact this
  have okc : (aY X N' scope cl fp s3 H3).Ok := by
    refine ⟨I3.ok.mod, ?_, I3.ok.glob, I3.ok.blt, Nat.le_refl _, fun x y a h1 h2 => I3.ok.inj x y a (hcl x a h1) (hcl y a h2), fun x hx => hhas x hx, fun x a h => (nomatch h), I3.ok.hd, I3.ok.qt, I3.ok.frames, .inl rfl, fun b hb => ⟨?_, fun x a h => (f2 b hb).2.2.2.2.1 x a (hcl x a h)⟩,
      I3'.bs, Nat.le_trans I3.ok.bsz I3'.sz, fun b o e hb => ?_, fun b hb => fpst b hb, I3'.stack, I3'.tP⟩
    . exact hkind
    . show b ≠ s3.heap.objs.size
      rw [heap3, hsz3]
      exact Nat.ne_of_lt (Nat.lt_succ_of_lt (fplt b hb))
    . rcases (f2 b hb).2.2.2.1 with z | z
      . exact I3.ok.CN b o e z
      . exact absurd (Nat.lt_of_lt_of_le (Heap.lt_size (I3.ok.bs b o e).1) z) (Nat.lt_irrefl _)
  have I4 : Inv (aY X N' scope cl fp s3 H3) [] (bZ cap σ) H3 { s2 with heap := h₁, toks := s2.toks + ([] : List (Str × Value)).length } := by
    refine ⟨okc, by show s2.os = s3.os; rw [hs3], I3.bare, Un.kept (by show ∀ b o, s3.heap.get? b = some o -> _; rw [heap3]; exact kept3), ⟨_, (by show h₁.Ns s3.heap.objs.size _; rw [heap3]; exact hns₁), fun i x v e1 e2 e3 => ?_⟩, fun x a h => ?_, (by show H3 s3.heap.objs.size = none; rw [heap3]; exact hloc), fun x a h => I3.jZ x a (hcl x a h), fun p hp => ?_, I3.hok.kept kept3, ?_⟩
    . obtain ⟨j, h1, h2⟩ := qm e2
      obtain ⟨hN, hv, hnl, hk⟩ := hcap i j x h1 e1
      obtain ⟨m, _, hl⟩ := I3.loc
      obtain ⟨u, r, lk⟩ := hl j x v hN h2 hv
      refine ⟨u, r, .inr ⟨hk, ?_⟩⟩
      obtain ⟨a, ha⟩ := hhas x hk
      rcases lk with ⟨z, _⟩ | ⟨_, a', z1, z2⟩
      . exact absurd z hnl
      . have : a' = a := by have q := hcl x a ha; rw [z1] at q; exact Option.some.inj q
        subst this
        obtain ⟨o, ho, hd⟩ := z2
        exact ⟨a', ha, o, kept3 _ _ ho, hd⟩
    . obtain ⟨v, o, ho, hd⟩ := I3.cell x a (hcl x a h)
      exact ⟨v, o, kept3 _ _ ho, hd⟩
    . have hp' : p ∈ X.pn ++ pins := List.mem_append_left _ (by simpa using (show p ∈ X.pn ++ [] from hp))
      obtain ⟨z1, z2, z3, z4, z5⟩ := I3'.pin p hp'
      refine ⟨kept3 _ _ (by rw [<- heap3]; exact z1), z2, (show p.1 ≠ s3.heap.objs.size from Nat.ne_of_lt (Heap.lt_size z1)), fun z => ?_, z5⟩
      rcases List.mem_cons.mp (I3'.qp p.1 z) with e | e
      . exact z3 e
      . exact z4 e
    . show (bZ cap σ).length = N'.length
      unfold bZ
      rw [List.length_map]
      exact hlen
  have hμ1 : μ1 s2.heap.objs.size = none := S1.mu.free hfree2
  have sub1 : ∀ ys a ds, μ1 a = some ds -> aO μ1 s2.heap.objs.size ys a = some ds := fun ys a ds e => by
    have : a ≠ s2.heap.objs.size := fun z => by rw [z, hμ1] at e; cases e
    rw [bG this]; exact e
  have loop : codeAny (model X.prog X.w) X.A (.compLoop (.ListComp elt [⟨tg, iter, ifs, 0⟩] scope pos) 0 (.ref it) (.ref s2.heap.objs.size) (aY X N' scope cl fp s3 H3).env)
      (compPost (model X.prog X.w) X.A X.xe none (EP X pins σ Q) (.ref s2.heap.objs.size) hp3.objs.size) { s2 with heap := h₁, toks := s2.toks + ([] : List (Str × Value)).length } := by
    refine iK (fun n s' => ∃ (i : Nat) (σc : St) (Hc : Hp), n = xs.length - i /\ i ≤ xs.length /\ Inv (aY X N' scope cl fp s3 H3) [] σc Hc s' /\ tn i s'.heap /\ (∀ b ∈ fp, Hc b = none) /\
      St0 X.K Hc (bZ cap ρ) (aO μ1 s2.heap.objs.size ((xs.take i).filterMap f)) σc /\ Ext X.K μ1 H2 (aO μ1 s2.heap.objs.size ((xs.take i).filterMap f)) Hc) ?_ xs.length
      ⟨0, bZ cap σ, H3, by simp, Nat.zero_le _, I4, T.keep 0 _ _ st2 (fun b hb o e => kept3 b o (old3 b o e)), fun b hb => ?_, ?_, ?_⟩
    . rintro n s' ⟨i, σc, Hc, rfl, hi, Ic, tc, frc, Sc, Ec⟩
      have stat : ∀ {Hd : Hp}, (∀ b ∈ fp, Hd b = none) -> ∀ b ∈ fp, zC (aY X N' scope cl fp s3 H3) [] Hd b := fun hn b hb =>
        ⟨hn b hb, (okc.exf b hb).1, fpst b hb, .inl hb, fun x a h => (okc.exf b hb).2 x a h, fun p hp => (f2 b hb).2.2.2.2.2 p (List.mem_append_left _ (by simpa using (show p ∈ X.pn ++ [] from hp)))⟩
      obtain ⟨go, stop⟩ := itok _ Hc Ec Sc.mu i
      by_cases hlt : i < xs.length
      . obtain ⟨g1, y1⟩ := go hlt
        refine thn (T.item (aY X N' scope cl fp s3 H3) rfl rfl rfl (fun z => z) i [] s' σc Hc (fun _ _ => False) Ic (stat frc) tc g1) fun r s4 ⟨u, hr, h4⟩ => ?_
        subst hr
        refine thn h4 fun _ s5 ⟨x, H5, I5, r5, y5, st5, fr5⟩ => ?_
        obtain ⟨d, hd, sm, rd⟩ := y1 x H5 y5
        have I5' := I5.pinned (stat fr5) (T.obj _ _ st5)
        have e5 : Ext X.K _ Hc _ H5 := .of_same (μ := aO μ1 s2.heap.objs.size ((xs.take i).filterMap f)) sm
        have S5 : St0 X.K H5 (bZ cap ρ) (aO μ1 s2.heap.objs.size ((xs.take i).filterMap f)) σc := ⟨Sc.mu.Kr e5 sm, Sc.rho.ext Sc.mu e5⟩
        obtain ⟨gt, pg, lg⟩ := hg fp s3 H3
        have hmem : d ∈ xs := List.mem_of_getElem? hd
        refine thn (pg _ s5 σc H5 x u (fun σ' H' => ∃ ρ' μ', Ext X.K (aO μ1 s2.heap.objs.size ((xs.take i).filterMap f)) H5 μ' H' /\ St0 X.K H' ρ' μ' σ' /\ Le (bZ cap ρ) ρ' /\ c ρ' μ' fun b μ3 =>
            if b = true then te ρ' μ3 fun d' μ4 => μ4 = aO μ1 s2.heap.objs.size ((xs.take i).filterMap f) /\ (match d' with | .v y => f d = some y | _ => False) else μ3 = aO μ1 s2.heap.objs.size ((xs.take i).filterMap f) /\ f d = none) I5' r5
          (lg σc H5 (bZ cap ρ) _ (.v d) x _ _ S5 rd (body d hmem _ (sub1 _)) fun σ' ρ' μ' H' e' S' q => ⟨ρ', μ', e', S', q⟩)) fun _ s6 ⟨σ6, H6, I6, ρ6, μ6, e6, S6, le6, q6⟩ => ?_
        refine thn (hif fp s3 H3 _ s6 σ6 H6 ρ6 μ6 _ (fun b H' => ∃ μ', Ext X.K μ6 H6 μ' H' /\ St0 X.K H' ρ6 μ' σ6 /\ if b = true then te ρ6 μ' fun d' μ4 => μ4 = aO μ1 s2.heap.objs.size ((xs.take i).filterMap f) /\ (match d' with | .v y => f d = some y | _ => False) else μ' = aO μ1 s2.heap.objs.size ((xs.take i).filterMap f) /\ f d = none)
          I6 S6 q6 fun b μ' H' e' S' q => ⟨μ', e', S', q⟩) fun b s7 ⟨H7, I7, μ7, e7, S7, q7⟩ => ?_
        have again : ∀ {H9 : Hp} {s9 : Shared}, Inv (aY X N' scope cl fp s3 H3) ([] ++ rO fp s5.heap) σ6 H9 s9 -> cw X.K (aO μ1 s2.heap.objs.size ((xs.take (i + 1)).filterMap f)) H9 -> fz X.K (aO μ1 s2.heap.objs.size ((xs.take (i + 1)).filterMap f)) H9 (bZ cap ρ) σ6 ->
            Ext X.K μ1 H2 (aO μ1 s2.heap.objs.size ((xs.take (i + 1)).filterMap f)) H9 -> ∃ m, m < xs.length - i /\ ∃ (i : Nat) (σc : St) (Hc : Hp), m = xs.length - i /\ i ≤ xs.length /\ Inv (aY X N' scope cl fp s3 H3) [] σc Hc s9 /\ tn i s9.heap /\ (∀ b ∈ fp, Hc b = none) /\
              St0 X.K Hc (bZ cap ρ) (aO μ1 s2.heap.objs.size ((xs.take i).filterMap f)) σc /\ Ext X.K μ1 H2 (aO μ1 s2.heap.objs.size ((xs.take i).filterMap f)) Hc := fun {H9 s9} I9 m9 r9 e9 => by
          refine ⟨xs.length - (i + 1), by omega, i + 1, σ6, H9, rfl, hlt, I9.kH, T.keep _ _ _ st5 fun b hb o e => (I9.pin (b, o) (List.mem_append_right _ (List.mem_append_right _ (eO hb e)))).1, fun b hb => ?_, ⟨m9, r9⟩, e9⟩
          obtain ⟨o, e, _⟩ := T.obj _ _ st5 b hb
          exact (I9.pin (b, o) (List.mem_append_right _ (List.mem_append_right _ (eO hb e)))).2.1
        cases b with
        | false =>
          have q8 : μ7 = aO μ1 s2.heap.objs.size ((xs.take i).filterMap f) /\ f d = none := by simpa using q7
          refine BD ?_
          have et : (xs.take (i + 1)).filterMap f = (xs.take i).filterMap f := by rw [wY hd, q8.2]; simp
          have eμ : aO μ1 s2.heap.objs.size ((xs.take (i + 1)).filterMap f) = μ7 := by rw [et, q8.1]
          refine again I7 (by rw [eμ]; exact S7.mu) (by rw [eμ]; exact S7.rho.le le6) ?_
          rw [eμ]
          exact Ec.trans (e5.trans (e6.trans e7))
        | true =>
          refine zW ?_
          obtain ⟨t8, p8, l8⟩ := he fp s3 H3
          refine thn (p8 _ s7 σ6 H7 (fun v H' => ∃ y, Ext X.K μ7 H7 (aO μ1 s2.heap.objs.size ((xs.take i).filterMap f)) H' /\ St0 X.K H' ρ6 (aO μ1 s2.heap.objs.size ((xs.take i).filterMap f)) σ6 /\ Rp X.K (aO μ1 s2.heap.objs.size ((xs.take i).filterMap f)) H' y v /\ f d = some y) I7
            (l8 σ6 H7 ρ6 μ7 _ _ S7 (by simpa using q7) fun d' v μ8 H8 e8 S8 r8 q8 => ?_)) fun v s8 ⟨v8, H8, I8, r8, y, e8, S8, ry, fy⟩ => ?_
          . obtain ⟨rfl, q8⟩ := q8
            cases d' with
            | v y => exact ⟨y, e8, S8, r8, q8⟩
            | m _ => exact q8.elim
            | s _ => exact q8.elim
            | o _ => exact q8.elim
            | q _ => exact q8.elim
          . obtain ⟨us, hacc, rus⟩ := S8.mu s2.heap.objs.size _ bD
            have hle : ((xs.take i).filterMap f).length <= 1000 := Nat.le_trans (List.length_filterMap_le _ _) (Nat.le_trans (by rw [List.length_take]; exact Nat.min_le_right _ _) hxs)
            refine thn (qV (X := aY X N' scope cl fp s3 H3) _ s8 σ6 H8 (.ref s2.heap.objs.size) [v8] (.ref s2.heap.objs.size) [v] (fun _ H' => H' = upd H8 s2.heap.objs.size (.lst (us ++ [v8]))) I8 rfl (.cons r8 .nil) ⟨_, us, v8, rfl, rfl, hacc, by rw [<- rus.length]; exact eV hle, rfl⟩) fun _ s9 ⟨_, H9, I9, _, e9⟩ => ?_
            subst e9
            have et : (xs.take (i + 1)).filterMap f = (xs.take i).filterMap f ++ [y] := by rw [wY hd, fy]; rfl
            have mset : aO (aO μ1 s2.heap.objs.size ((xs.take i).filterMap f)) s2.heap.objs.size ((xs.take (i + 1)).filterMap f) = aO μ1 s2.heap.objs.size ((xs.take (i + 1)).filterMap f) := mJ
            have ex : Ext X.K (aO μ1 s2.heap.objs.size ((xs.take i).filterMap f)) H8 (aO μ1 s2.heap.objs.size ((xs.take (i + 1)).filterMap f)) (upd H8 s2.heap.objs.size (.lst (us ++ [v8]))) := by
              rw [<- mset]
              exact qK bD
            refine again I9 ?_ ((S8.rho.le le6).ext S8.mu ex) (Ec.trans (e5.trans (e6.trans (e7.trans (e8.trans ex)))))
            rw [<- mset]
            refine S8.mu.set bD ?_
            rw [et]
            exact rus.append (.cons ry .nil)
      . have ei : i = xs.length := by omega
        subst ei
        refine thn (T.done (aY X N' scope cl fp s3 H3) rfl rfl rfl (fun z => z) _ [] s' σc Hc (fun _ _ => False) Ic (stat frc) tc (stop rfl)) fun r s4 ⟨hr, I5⟩ => ?_
        subst hr
        rw [List.take_length] at Sc Ec
        obtain ⟨m, hn, _⟩ := I5.loc
        refine ⟨m, (by have z : s4.heap.Ns s3.heap.objs.size m := hn; rw [heap3] at z; exact z), fun h' hs' => ?_⟩
        have kp : ∀ b o, b < s2.heap.objs.size -> s4.heap.get? b = some o -> h'.get? b = some o := fun b o hb e => hs'.extBut b o (by rw [hsz3]; exact Nat.ne_of_lt (Nat.lt_succ_of_lt hb)) e
        have hcC : Hc hp3.objs.size = none := by have z : Hc s3.heap.objs.size = none := I5.free; rw [heap3] at z; exact z
        have hok' : HOk X.prog X.w Hc h' := fun b ob e => by
          refine (I5.hok b ob e).wx (fun cc v hcc q => hs'.extBut cc v ?_ q) (fun _ q => q) fun _ _ q => q
          rintro rfl
          rcases hcc with z | z
          . rw [<- z, hcC] at e; cases e
          . rw [hcC] at z; cases z
        have u1 : Un (frs X.stack) fp H2 H3 s2.heap s3.heap := by rw [heap3, hH3]; exact Un.laid old3 (Nat.le_refl _) hfree2
        have u2 : Un (frs X.stack) fp H3 Hc s3.heap s4.heap := I5.base
        have If : Inv X pins σ Hc { s4 with heap := h' } := I2.Ai (ch := fp) (by show s4.os = s2.os; have z : s4.os = s3.os := I5.os; rw [z, hs3]) (Un.after (u1.trans u2) kp) hok' I5.bare fun b hb => ⟨(f2 b hb).2.2.2.1, (f2 b hb).2.1, (f2 b hb).2.2.2.2.1, (f2 b hb).2.2.2.2.2⟩
        obtain ⟨us, hacc, rus⟩ := Sc.mu s2.heap.objs.size _ bD
        have shr : ∀ a, aO μ1 s2.heap.objs.size (xs.filterMap f) a = none -> μ1 a = none := fun a e => by
          by_cases ha : a = s2.heap.objs.size
          . rw [ha]; exact hμ1
          . rw [bG ha] at e; exact e
        have eF : Ext X.K μ1 H2 μ1 Hc := ⟨Ec.keep, Ec.tb, fun _ ds q => ⟨ds, q⟩, fun _ q _ => q⟩
        have mF : cw X.K μ1 Hc := ⟨fun a ds q => by
          obtain ⟨ys, z1, z2⟩ := Sc.mu a ds (sub1 _ a ds q)
          exact ⟨ys, z1, z2.shrink shr⟩, Sc.mu.tab⟩
        exact ⟨.ref s2.heap.objs.size, Hc, If, rfl, k (.v (.list (xs.filterMap f))) _ μ1 Hc (e1.trans eF) ⟨mF, S1.rho.ext S1.mu eF⟩ (Rp.list hacc hμ1 (rus.shrink shr)) fin⟩
    . have z : b ≠ s2.heap.objs.size := Nat.ne_of_lt (fplt b hb)
      rw [hH3, bF z]
      exact (f2 b hb).1
    . have ex := lN (o := .lst []) (ds := []) S1.mu hfree2 hK2
      rw [hH3]
      exact ⟨S1.mu.mut .nil hfree2 hK2, (S1.rho.ext S1.mu ex).cap⟩
    . rw [hH3]
      exact lN (o := .lst []) (ds := []) S1.mu hfree2 hK2
  have envE : (aY X N' scope cl fp s3 H3).env = compEnvC scope cl hp3.objs.size X.env := by show compEnvC scope cl s3.heap.objs.size X.env = _; rw [heap3]
  rw [envE] at loop
  exact codeAny_compStart_list loop (T.self X.A 0 _ _ _ (T.keep 0 _ _ st2 (fun b hb o e => kept3 b o (old3 b o e))) loop)
open PySem PySem.Spec PyProof.Rows
section
variable {X : Cx} {a b c : Expr} {ta tb tc : DTE} {pos : Pos}
def OO (r r' : D -> D -> Mu -> DK -> Prop) (ta tb tc : DTE) : DTE := fun ρ μ Q => ta ρ μ fun x μ1 => tb ρ μ1 fun y μ2 => r x y μ2 fun z μ3 => match z with
  | .v (.bool k) => if k = true then tc ρ μ3 fun w μ4 => r' y w μ4 Q else Q (.v (.bool false)) μ3
  | _ => False
end
open PySem PySem.Spec PyProof.Rows
theorem xw {α : Type} {x : α} {xs : List α} : atI (x :: xs) 0 = some x := by unfold atI ixN; simp
theorem An {α : Type} {x y : α} {xs : List α} : atI (x :: y :: xs) 1 = some y := by
  have h := uG (xs := x :: y :: xs) (j := 1) (v := y) rfl
  exact h
theorem Dr {α : Type} {x y z : α} {xs : List α} : atI (x :: y :: z :: xs) 2 = some z := by
  have h := uG (xs := x :: y :: z :: xs) (j := 2) (v := z) rfl
  exact h
theorem HX {α : Type} {x y z u : α} {xs : List α} : atI (x :: y :: z :: u :: xs) 3 = some u := by
  have h := uG (xs := x :: y :: z :: u :: xs) (j := 3) (v := u) rfl
  exact h
def jW : D -> D -> Mu -> DK -> Prop := fun x y μ Q => match x, y with
  | .v (.int i), .v (.int j) => Q (.v (.int (i + j))) μ
  | .v (.tuple xs), .v (.tuple ys) => xs.length + ys.length <= 1000 /\ Q (.v (.tuple (xs ++ ys))) μ
  | _, _ => Dp x y μ Q
theorem OpR.or {X : Cx} {f} {r1 r2 : R2} (h1 : OpR X f r1) (h2 : OpR X f r2) : OpR X f (fun x y H Q => r1 x y H Q \/ r2 x y H Q) := by
  intro pins s σ H x y v u Q I rx ry h
  rcases h with h | h
  . exact h1 pins s σ H x y v u Q I rx ry h
  . exact h2 pins s σ H x y v u Q I rx ry h
theorem OI {K : PySem.W.Frag} : kW K (fun x y H Q => (rI0 fun i j => .int (i + j)) x y H Q \/ ((GI K) x y H Q \/ NL x y H Q)) jW := by
  intro x y ux uy H μ Qd Q ok rx ry h k
  unfold jW at h
  split at h
  . exact .inl (G1 (K := K) (gd := fun i j => .int (i + j)) (fun _ _ _ _ => .int _) _ _ ux uy H μ Qd Q ok rx ry h k)
  . exact .inr (.inl (M9 _ _ ux uy H μ Qd Q ok rx ry h k))
  . exact .inr (.inr (Oq _ _ ux uy H μ Qd Q ok rx ry h k))
theorem jN {X : Cx} {a b : Expr} {ta tb : DTE} {pos : Pos} (ha : DE X a ta) (hb : DE X b tb) : DE X (.BinOp a .Add b pos) (dOp jW ta tb) := xP (JL.or (J8.or O9)) OI ha hb
section
variable {ρ : Rho} {μ : Mu} {Q : DK} {QT : Bool -> Mu -> Prop} {QA : List D -> Mu -> Prop} {QG : Rho -> Mu -> Prop} {QI : List PyData -> Mu -> Prop} {QO : Option Int -> Mu -> Prop} {Dd : KC} {ta tb tc : DTE} {t u : DTT} {tA : DTA} {s1 s2 : DTS} {i j : Int} {x y : PyData} {xs ys : List PyData} {d e : D}
def yY : DTS := fun _ _ _ => False
theorem xM {X : Cx} {st : Stmt} : DS X st yY := ⟨fun _ _ _ => False, fun _ _ _ _ _ _ h => h.elim, fun _ _ _ _ _ _ _ h => h.elim⟩
theorem GR {o : Rho} : ag 0 (some d :: o) μ Q = Q d μ := propext Iff.rfl
theorem Gr {a} {o : Rho} : ag 1 (a :: some d :: o) μ Q = Q d μ := propext Iff.rfl
theorem FF {a b} {o : Rho} : ag 2 (a :: b :: some d :: o) μ Q = Q d μ := propext Iff.rfl
theorem xY {a b c} {o : Rho} : ag 3 (a :: b :: c :: some d :: o) μ Q = Q d μ := propext Iff.rfl
theorem Fc {a b c f} {o : Rho} : ag 4 (a :: b :: c :: f :: some d :: o) μ Q = Q d μ := propext Iff.rfl
theorem GG {a b c f g} {o : Rho} : ag 5 (a :: b :: c :: f :: g :: some d :: o) μ Q = Q d μ := propext Iff.rfl
theorem Gm {a b c f g h} {o : Rho} : ag 6 (a :: b :: c :: f :: g :: h :: some d :: o) μ Q = Q d μ := propext Iff.rfl
theorem ET {a b c f g h k} {o : Rho} : ag 7 (a :: b :: c :: f :: g :: h :: k :: some d :: o) μ Q = Q d μ := propext Iff.rfl
theorem GH {a b c f g h k l} {o : Rho} : ag 8 (a :: b :: c :: f :: g :: h :: k :: l :: some d :: o) μ Q = Q d μ := propext Iff.rfl
theorem FC {a b c f g h k l m} {o : Rho} : ag 9 (a :: b :: c :: f :: g :: h :: k :: l :: m :: some d :: o) μ Q = Q d μ := propext Iff.rfl
theorem A9 {a b c f g h k l m n} {o : Rho} : ag 10 (a :: b :: c :: f :: g :: h :: k :: l :: m :: n :: some d :: o) μ Q = Q d μ := propext Iff.rfl
theorem q_c : dC x ρ μ Q = Q (.v x) μ := propext Iff.rfl
theorem KJ {r} : dOp r ta tb ρ μ Q = ta ρ μ fun x μ1 => tb ρ μ1 fun y μ2 => r x y μ2 Q := propext Iff.rfl
theorem q_B : dB ta ρ μ QT = ta ρ μ fun d μ1 => match d with | .v (.bool k) => QT k μ1 | _ => False := propext Iff.rfl
theorem OJ {C : Int -> Int -> Prop} {g : Int -> Int -> PyData} : rII C g (.v (.int i)) (.v (.int j)) μ Q = (C i j /\ Q (.v (g i j)) μ) := propext Iff.rfl
theorem LA {g : Int -> Int -> PyData} : zQ g (.v (.int i)) (.v (.int j)) μ Q = Q (.v (g i j)) μ := propext Iff.rfl
theorem JT : tJ ta ρ μ Q = ta ρ μ fun x μ1 => match x with | .v (.int i) => Q (.v (.int (-i))) μ1 | _ => False := propext Iff.rfl
theorem ym : yV t u ρ μ QT = t ρ μ fun c μ1 => if c = true then u ρ μ1 QT else QT false μ1 := propext Iff.rfl
theorem JU : ve t u ρ μ QT = t ρ μ fun c μ1 => if c = true then QT true μ1 else u ρ μ1 QT := propext Iff.rfl
theorem E8 : iU t ρ μ QT = t ρ μ fun c μ1 => QT (!c) μ1 := propext Iff.rfl
theorem Fw : Ed ta tb ρ μ Q = ta ρ μ fun x μ1 => match x with | .v (.bool c) => if c = true then tb ρ μ1 Q else Q (.v (.bool false)) μ1 | _ => False := propext Iff.rfl
theorem Ko : Rn ta tb ρ μ Q = ta ρ μ fun x μ1 => match x with | .v (.bool c) => if c = true then Q (.v (.bool true)) μ1 else tb ρ μ1 Q | _ => False := propext Iff.rfl
theorem Fe : HN ta ρ μ Q = ta ρ μ fun x μ1 => match x with | .v (.bool c) => Q (.v (.bool (!c))) μ1 | _ => False := propext Iff.rfl
theorem NG : dIf t ta tb ρ μ Q = t ρ μ fun c μ1 => if c = true then ta ρ μ1 Q else tb ρ μ1 Q := propext Iff.rfl
theorem vT : ar ρ μ QA = QA [] μ := propext Iff.rfl
theorem pH : ae ta tA ρ μ QA = ta ρ μ fun x μ1 => tA ρ μ1 fun xs μ2 => QA (x :: xs) μ2 := propext Iff.rfl
theorem CU : bC tA ρ μ Q = tA ρ μ fun ds μ1 => match d9 ds with | some xs => Q (.v (.tuple xs)) μ1 | none => False := propext Iff.rfl
theorem CZ : jj tA ρ μ Q = tA ρ μ fun ds μ1 => match d9 ds with | some xs => Q (.v (.list xs)) μ1 | none => False := propext Iff.rfl
theorem GV : Hb tA ρ μ Q = tA ρ μ fun ds μ1 => match d9 ds with | some xs => ∀ p, μ1 p = none -> Q (.m p) (aO μ1 p xs) | none => False := propext Iff.rfl
theorem C1 : d9 [] = some [] := by rw [d9]
theorem DP {r : List D} : d9 (.v x :: r) = (d9 r).map (x :: ·) := by rw [d9]
theorem Hz {neg : Bool} : eZ neg (.v x) (.v y) μ Q = (SeqAt.shaped x = true /\ SeqAt.shaped y = true /\ Q (.v (.bool (neg ^^ PyData.eqv x y))) μ) := propext Iff.rfl
theorem ED {neg : Bool} : eZ neg (.v (.int i)) (.v (.int j)) μ Q = Q (.v (.bool (neg ^^ decide (i = j)))) μ := by
  have e : PyData.eqv (.int i) (.int j) = decide (i = j) := by simp [PyData.eqv]; rfl
  rw [Hz, e]
  exact propext ⟨fun h => h.2.2, fun h => ⟨rfl, rfl, h⟩⟩
theorem Ke {neg : Bool} : eZ neg (.v (.tuple xs)) (.v (.tuple ys)) μ Q = (SeqAt.shaped (.tuple xs) = true /\ SeqAt.shaped (.tuple ys) = true /\ Q (.v (.bool (neg ^^ PyData.eqv (.tuple xs) (.tuple ys)))) μ) := propext Iff.rfl
theorem K5 {neg : Bool} : eZ neg (.v (.list xs)) (.v (.list ys)) μ Q = (SeqAt.shaped (.list xs) = true /\ SeqAt.shaped (.list ys) = true /\ Q (.v (.bool (neg ^^ PyData.eqv (.list xs) (.list ys)))) μ) := propext Iff.rfl
theorem Kn {neg a b : Bool} : eZ neg (.v (.bool a)) (.v (.bool b)) μ Q = Q (.v (.bool (neg ^^ (a == b)))) μ := by
  have e : PyData.eqv (.bool a) (.bool b) = (a == b) := by cases a <;> cases b <;> simp [PyData.eqv] <;> rfl
  rw [Hz, e]
  exact propext ⟨fun h => h.2.2, fun h => ⟨rfl, rfl, h⟩⟩
theorem Kl {neg : Bool} : MT neg (.v x) (.v (.list ys)) μ Q = (PyData.canLayAll0 ys = true /\ x.canLay0 = true /\ PyData.depth x <= 60 /\ Q (.v (.bool (neg ^^ ys.any fun b => PyData.eqv b x))) μ) := propext Iff.rfl
theorem Ah : aJ (.v (.list xs)) (.v (.int i)) μ Q = (match atI xs i with | some d => Q (.v d) μ | none => False) := propext Iff.rfl
theorem zg : aJ (.v (.tuple xs)) (.v (.int i)) μ Q = (match atI xs i with | some d => Q (.v d) μ | none => False) := propext Iff.rfl
theorem KQ {l : Addr} : aJ (.m l) (.v (.int i)) μ Q = (match μ l with | some xs => (match atI xs i with | some d => Q (.v d) μ | none => False) | none => False) := propext Iff.rfl
theorem K8 {ns : List Int} : aJ (.s ns) (.v (.int i)) μ Q = (match atI ns i with | some d => Q (.v (.int d)) μ | none => False) := propext Iff.rfl
theorem xN : aJ (.v (.list (x :: xs))) (.v (.int 0)) μ Q = Q (.v x) μ := by rw [Ah, xw]
theorem BE : aJ (.v (.tuple (x :: xs))) (.v (.int 0)) μ Q = Q (.v x) μ := by rw [zg, xw]
theorem Fm {z} : aJ (.v (.list (z :: x :: xs))) (.v (.int 1)) μ Q = Q (.v x) μ := by rw [Ah, An]
theorem A4 {z} : aJ (.v (.tuple (z :: x :: xs))) (.v (.int 1)) μ Q = Q (.v x) μ := by rw [zg, An]
theorem Gu {z w} : aJ (.v (.list (z :: w :: x :: xs))) (.v (.int 2)) μ Q = Q (.v x) μ := by rw [Ah, Dr]
theorem B1 {z w} : aJ (.v (.tuple (z :: w :: x :: xs))) (.v (.int 2)) μ Q = Q (.v x) μ := by rw [zg, Dr]
theorem Ga {z w v} : aJ (.v (.tuple (z :: w :: v :: x :: xs))) (.v (.int 3)) μ Q = Q (.v x) μ := by rw [zg, HX]
theorem J9 : Dp d e μ Q = (match tU μ d, tU μ e with | some xs, some ys => xs.length + ys.length <= 1000 /\ Q (.v (.list (xs ++ ys))) μ | _, _ => False) := propext Iff.rfl
theorem FW : FY (.v (.tuple xs)) (.v (.tuple ys)) μ Q = (xs.length + ys.length <= 1000 /\ Q (.v (.tuple (xs ++ ys))) μ) := propext Iff.rfl
theorem EV : jW (.v (.int i)) (.v (.int j)) μ Q = Q (.v (.int (i + j))) μ := propext Iff.rfl
theorem E4 : jW (.v (.tuple xs)) (.v (.tuple ys)) μ Q = (xs.length + ys.length <= 1000 /\ Q (.v (.tuple (xs ++ ys))) μ) := propext Iff.rfl
theorem GL : jW (.v (.list xs)) (.v (.list ys)) μ Q = (xs.length + ys.length <= 1000 /\ Q (.v (.list (xs ++ ys))) μ) := propext Iff.rfl
theorem Fu {a : Addr} : jW (.m a) e μ Q = Dp (.m a) e μ Q := propext Iff.rfl
theorem Px {tl th : DTO} : dSl ta tl th ρ μ Q = ta ρ μ fun x μ1 => tl ρ μ1 fun l μ2 => th ρ μ2 fun u μ3 => Lw x l u μ3 Q := propext Iff.rfl
theorem xE : qO ρ μ QO = QO none μ := propext Iff.rfl
theorem Gy : AG ta ρ μ QO = ta ρ μ fun x μ1 => match x with | .v (.int i) => QO (some i) μ1 | _ => False := propext Iff.rfl
theorem Kv {lo hi : Option Int} : Lw (.v (.tuple xs)) lo hi μ Q = Q (.v (.tuple (nY xs lo hi))) μ := propext Iff.rfl
theorem LS {lo hi : Option Int} : Lw (.v (.list xs)) lo hi μ Q = Q (.v (.list (nY xs lo hi))) μ := propext Iff.rfl
theorem KW : RU ta ρ μ Q = ta ρ μ fun x μ1 => match x with | .v (.tuple xs) => Q (.v (.tuple xs.reverse)) μ1 | .v (.list xs) => Q (.v (.list xs.reverse)) μ1 | .m l => (match μ1 l with | some xs => Q (.v (.list xs.reverse)) μ1 | none => False) | _ => False := propext Iff.rfl
theorem K1 {rd} : dCB rd tA ρ μ Q = tA ρ μ fun ds μ1 => rd ds μ1 Q := propext Iff.rfl
theorem xp : iV [.v (.list ys)] μ Q = Q (.v (.int (ys.length : Nat))) μ := propext Iff.rfl
theorem GB : iV [.v (.tuple ys)] μ Q = Q (.v (.int (ys.length : Nat))) μ := propext Iff.rfl
theorem Fv {ns : List Int} : iV [.s ns] μ Q = Q (.v (.int (ns.length : Nat))) μ := propext Iff.rfl
theorem Fo {l : Addr} : iV [.m l] μ Q = (match μ l with | some ys => Q (.v (.int (ys.length : Nat))) μ | none => False) := propext Iff.rfl
theorem K7 : uN [.v (.int i)] μ Q = Q (.v (.int (i.natAbs : Nat))) μ := propext Iff.rfl
theorem N0 {g : Int -> Int -> Int} : Fh g [.v (.int i), .v (.int j)] μ Q = Q (.v (.int (g i j))) μ := propext Iff.rfl
theorem FL {k : Bool} : pI [.v (.bool k)] μ Q = Q (.v (.int (if k then 1 else 0))) μ := propext Iff.rfl
theorem Fs : pI [.v (.int i)] μ Q = Q (.v (.int i)) μ := propext Iff.rfl
theorem AV : qw [.v (.list ys)] μ Q = Q (.v (.list ys)) μ := propext Iff.rfl
theorem BQ : qw [.v (.tuple ys)] μ Q = Q (.v (.list ys)) μ := propext Iff.rfl
theorem Hv : xC [.v (.list ys)] μ Q = (match eo ys with | some bs => Q (.v (.bool (bs.all id))) μ | none => False) := propext Iff.rfl
theorem Kh {T : String} : EA T ta ρ μ Q = ta ρ μ fun x μ1 => match x with | .v d => Q (.v (.bool (isT T d))) μ1 | _ => False := propext Iff.rfl
theorem Lr {a b : Bool} : FG (.v (.bool a)) (.v (.bool b)) μ Q = Q (.v (.bool (a == b))) μ := propext Iff.rfl
theorem JJ : FG (.v .none) (.v .none) μ Q = Q (.v (.bool true)) μ := propext Iff.rfl
theorem nC {n : Nat} : az n d ρ μ QG = QG (ρ.set n (some d)) μ := propext Iff.rfl
theorem Fp : qr [] ρ μ QG = QG ρ μ := propext Iff.rfl
theorem Ba {g : DTG} {gs : zM} : de g gs (x :: xs) ρ μ QG = g (.v x) ρ μ fun ρ1 μ1 => gs xs ρ1 μ1 QG := propext Iff.rfl
theorem GZ {n : Nat} {gs : zM} : oW n gs (.v (.tuple xs)) ρ μ QG = (xs.length = n /\ gs xs ρ μ QG) := propext Iff.rfl
theorem FO : HD ta tb d ρ μ QG = ta ρ μ fun o μ1 => tb ρ μ1 fun i μ2 => match o, i, d with
  | .m l, .v (.int k), .v x => (match μ2 l with
    | some xs => (match ixN xs.length k with
      | some j => QG ρ (aO μ2 l (xs.set j x))
      | none => False)
    | none => False)
  | _, _, _ => False := propext Iff.rfl
theorem Ef {g : DTG} : bE ta g Dd ρ μ = ta ρ μ fun d μ1 => g d ρ μ1 Dd.nx := propext Iff.rfl
theorem J6 {i j : Nat} : Gn i j tA Dd ρ μ = tA ρ μ fun ds μ1 => match ds with | [v, w] => Dd.nx ((ρ.set i (some v)).set j (some w)) μ1 | _ => False := propext Iff.rfl
theorem FA : cK Dd ρ μ = Dd.nx ρ μ := propext Iff.rfl
theorem uW : aV s1 s2 Dd ρ μ = s1 { Dd with nx := s2 Dd } ρ μ := propext Iff.rfl
theorem D8 : bH ta Dd ρ μ = ta ρ μ Dd.rt := propext Iff.rfl
theorem Gs : As ta Dd ρ μ = ta ρ μ fun _ μ1 => Dd.nx ρ μ1 := propext Iff.rfl
theorem Er : eS t s1 s2 Dd ρ μ = t ρ μ fun b μ1 => if b = true then s1 Dd ρ μ1 else s2 Dd ρ μ1 := propext Iff.rfl
theorem Cs : yY Dd ρ μ = False := propext Iff.rfl
theorem Fz {dsp : DSp} : ax dsp tA ρ μ Q = tA ρ μ fun ds μ1 => dsp ds μ1 Q := propext Iff.rfl
theorem LC : Na ta tb ρ μ Q = ta ρ μ fun x μ1 => match x with
  | .m l => tb ρ μ1 fun y μ2 => (match y, μ2 l with
    | .v d, some xs => xs.length < 1000 /\ Q (.v .none) (aO μ2 l (xs ++ [d]))
    | _, _ => False)
  | _ => False := propext Iff.rfl
theorem Kj : Q9 ta tb ρ μ Q = ta ρ μ fun x μ1 => match x with
  | .m l => tb ρ μ1 fun y μ2 => (match y, μ2 l with
    | .v (.list ys), some xs => xs.length + ys.length <= 1000 /\ Q (.v .none) (aO μ2 l (xs ++ ys))
    | _, _ => False)
  | _ => False := propext Iff.rfl
theorem G0 : Q7 ta ρ μ Q = ta ρ μ fun x μ1 => match x with | .v (.int i) => Q (.v (.int (Builtin.Int.intBits i : Nat))) μ1 | _ => False := propext Iff.rfl
theorem B4 {r r'} : OO r r' ta tb tc ρ μ Q = ta ρ μ fun x μ1 => tb ρ μ1 fun y μ2 => r x y μ2 fun z μ3 => match z with
  | .v (.bool k) => if k = true then tc ρ μ3 fun w μ4 => r' y w μ4 Q else Q (.v (.bool false)) μ3
  | _ => False := propext Iff.rfl
theorem Gp : xG ρ μ QT = QT true μ := propext Iff.rfl
theorem xo : vj ta ρ μ QI = ta ρ μ fun d μ1 => match d with | .v (.list xs) => QI xs μ1 | _ => False := propext Iff.rfl
theorem Cq : vW ta ρ μ QI = ta ρ μ fun d μ1 => match d with | .v (.tuple xs) => QI xs μ1 | _ => False := propext Iff.rfl
theorem zh : sR tA ρ μ QI = tA ρ μ fun ds μ1 => match ds with | [.v (.int j)] => (-(2 ^ 62) <= j /\ j < 2 ^ 62) /\ QI (pA 0 j.toNat) μ1 | _ => False := propext Iff.rfl
theorem yK : GD tA ρ μ QI = tA ρ μ fun ds μ1 => match ds with | [.v (.int i), .v (.int j)] => (-(2 ^ 62) <= i /\ i < 2 ^ 62 /\ -(2 ^ 62) <= j /\ j < 2 ^ 62) /\ QI (pA i (j - i).toNat) μ1 | _ => False := propext Iff.rfl
theorem AF {src : DTI} {g : DTG} : Bw src g s1 Dd ρ μ = src ρ μ fun xs μ1 => ∃ Pv : Nat -> Rho -> Mu -> Prop, Pv 0 ρ μ1 /\
  (∀ i x ρ' μ', xs[i]? = some x -> Pv i ρ' μ' -> g (.v x) ρ' μ' fun ρ2 μ2 => s1 { Dd with nx := Pv (i + 1), ct := Pv (i + 1), bk := Dd.nx } ρ2 μ2) /\ (∀ ρ' μ', Pv xs.length ρ' μ' -> Dd.nx ρ' μ') := propext Iff.rfl
theorem Fi {cap : List (Option Nat)} {src : DTI} {g : DTG} : HC cap src g t ta ρ μ Q = src ρ μ fun xs μ1 => xs.length ≤ 1000 /\ ∃ f : PyData -> Option PyData,
  (∀ x ∈ xs, ∀ μ' : Mu, (∀ a ds, μ1 a = some ds -> μ' a = some ds) -> g (.v x) (bZ cap ρ) μ' fun ρ2 μ2 => Le (bZ cap ρ) ρ2 /\ t ρ2 μ2 fun b μ3 =>
    if b = true then ta ρ2 μ3 fun d μ4 => μ4 = μ' /\ (match d with | .v y => f x = some y | _ => False) else μ3 = μ' /\ f x = none) /\ Q (.v (.list (xs.filterMap f))) μ1 := propext Iff.rfl
theorem GJ {α : Type} {r : List (Option α)} : bZ [] r = [] := rfl
theorem E2 {α : Type} {o : Option Nat} {c : List (Option Nat)} {r : List (Option α)} : bZ (o :: c) r = (o.bind fun j => (r[j]?).join) :: bZ c r := rfl
theorem Lf : Le [] [] = True := propext ⟨fun _ => trivial, fun h => h⟩
theorem J1 {r r' : Rho} {o : Option D} : Le (none :: r) (o :: r') = Le r r' := propext Iff.rfl
theorem Ky {r r' : Rho} {d d' : D} : Le (some d :: r) (some d' :: r') = (d = d' /\ Le r r') := propext Iff.rfl
end
theorem JM {α β : Type} [BEq α] [LawfulBEq α] {x : α} {k : β} : ∀ {l : List (α × β)}, l.lookup x = some k -> (x, k) ∈ l
  | [], h => by cases h
  | (y, j) :: r, h => by
    rw [List.lookup_cons] at h
    cases e : x == y with
    | true =>
      rw [e] at h
      simp only [Option.some.injEq] at h
      have : x = y := eq_of_beq e
      subst this h
      exact List.mem_cons_self
    | false =>
      rw [e] at h
      exact List.mem_cons_of_mem _ (JM h)
def cfK : NameKind -> Bool
  | .cell => true
  | .free => true
  | _ => false
theorem jx {names : List (Str × NameKind)} {cl : List (Str × Addr)} (h : (names.all fun y => !(cfK y.2) || (cl.lookup y.1).isSome) = true) (x : Str) (hx : names.lookup x = some .cell \/ names.lookup x = some .free) : ∃ a, cl.lookup x = some a := by
  rw [List.all_eq_true] at h
  have key : ∀ k, cfK k = true -> names.lookup x = some k -> ∃ a, cl.lookup x = some a := fun k hk e => by
    have q := h _ (JM e)
    simp only [hk, Bool.not_true, Bool.false_or] at q
    exact Option.isSome_iff_exists.mp q
  rcases hx with e | e
  . exact key _ rfl e
  . exact key _ rfl e
def Lh (X : Cx) (sc : Scope) : List (Option Nat) -> List Str -> Prop
  | none :: c, _ :: n => Lh X sc c n
  | some j :: c, x :: n => (X.N[j]? = some x /\ Vis X.env.scope x /\ X.env.kindOf x ≠ some .local /\ ((relabel sc X.env).names.lookup x = some .cell \/ (relabel sc X.env).names.lookup x = some .free)) /\ Lh X sc c n
  | _, _ => True
theorem lj {X : Cx} {sc : Scope} : ∀ {c : List (Option Nat)} {n : List Str}, Lh X sc c n -> ∀ (i j : Nat) (x : Str), c[i]? = some (some j) -> n[i]? = some x ->
    X.N[j]? = some x /\ Vis X.env.scope x /\ X.env.kindOf x ≠ some .local /\ ((relabel sc X.env).names.lookup x = some .cell \/ (relabel sc X.env).names.lookup x = some .free)
  | [], _, _, i, j, x, h, _ => by simp at h
  | _ :: _, [], _, i, j, x, _, h => by simp at h
  | none :: c, y :: n, k, 0, j, x, h, _ => by simp at h
  | none :: c, y :: n, k, i + 1, j, x, h, g => lj (c := c) (n := n) k i j x (by simpa using h) (by simpa using g)
  | some l :: c, y :: n, k, 0, j, x, h, g => by
    simp only [List.getElem?_cons_zero, Option.some.injEq] at h g
    subst h g
    exact k.1
  | some l :: c, y :: n, k, i + 1, j, x, h, g => lj (c := c) (n := n) k.2 i j x (by simpa using h) (by simpa using g)
theorem Iw {X : Cx} {sc : Scope} {j : Nat} {x : Str} (h1 : X.N[j]? = some x := by rfl) (h2 : Vis X.env.scope x := by first | exact Or.inl rfl | exact Or.inr (Or.inl rfl) | exact Or.inr (Or.inr rfl)) (h3 : X.env.kindOf x ≠ some .local := by first | (intro z; cases z) | exact (fun z => nomatch z))
    (h4 : (relabel sc X.env).names.lookup x = some .cell \/ (relabel sc X.env).names.lookup x = some .free := by first | exact Or.inl rfl | exact Or.inr rfl) : X.N[j]? = some x /\ Vis X.env.scope x /\ X.env.kindOf x ≠ some .local /\ ((relabel sc X.env).names.lookup x = some .cell \/ (relabel sc X.env).names.lookup x = some .free) := ⟨h1, h2, h3, h4⟩
open PySem PySem.Spec PyProof.Rows
def hV (μ : Mu) (p : Addr) : Mu := fun b => if b = p then none else μ b
theorem uL {μ : Mu} {p b : Addr} (h : b ≠ p) : hV μ p b = μ b := by unfold hV; rw [if_neg h]
def j6 (cap : List (Option Nat)) (src : DTI) (g : DTG) (c : DTT) (elt : DTE) : DTE := fun ρ μ Q => src ρ μ fun xs μ1 => xs.length ≤ 1000 /\ ∀ p, μ1 p = none -> ∃ Pv : Nat -> List PyData -> Mu -> Prop, Pv 0 [] (aO μ1 p []) /\
  (∀ i x acc μ', xs[i]? = some x -> μ' p = some acc -> Pv i acc μ' -> g (.v x) (bZ cap ρ) μ' fun ρ2 μ2 => Le (bZ cap ρ) ρ2 /\ c ρ2 μ2 fun b μ3 =>
    if b = true then elt ρ2 μ3 fun d μ4 => μ4 p = some acc /\ (match d with | .v y => Pv (i + 1) (acc ++ [y]) (aO μ4 p (acc ++ [y])) | _ => False) else μ3 p = some acc /\ Pv (i + 1) acc μ3) /\
  (∀ acc μ', Pv xs.length acc μ' -> μ' p = some acc -> Q (.v (.list acc)) (hV μ' p))
theorem Am {X : Cx} {pos2 : Pos} {use : Option (Value -> Sem Unit)} {QQ : Value -> Shared -> Prop} {pins : List (Addr × Obj)} {s : Shared} {σ : St} {H : Hp} {ρ : Rho} {μ : Mu} {Qd : DK} {N' : List Str} {scope : Scope} {cl : List (Str × Addr)} {elt iter tg : Expr} {ifs : List Expr} {pos : Pos} {cap : List (Option Nat)} {src : DTI} {g : DTG} {c : DTT} {te : DTE} (hc : X.calm = X.calm)
    (hi : DI X tg iter src) (hg : ∀ fp s₃ H₃, DG (aY X N' scope cl fp s₃ H₃) tg g) (hif : ∀ fp s₃ H₃, Jr (aY X N' scope cl fp s₃ H₃) ifs c) (he : ∀ fp s₃ H₃, DE (aY X N' scope cl fp s₃ H₃) elt te)
    (hclos : closureFor scope X.env = pure cl) (hcell : ∀ y ∈ scope.names, y.2 ≠ .cell) (hkind : scope.kind = .function) (hnames : ∀ y ∈ scope.names, y.2 = .local -> scope.names.lookup y.1 = some .local)
    (hcl : ∀ x a, cl.lookup x = some a -> X.env.cells.lookup x = some a) (hhas : ∀ x, (relabel scope X.env).names.lookup x = some .cell \/ (relabel scope X.env).names.lookup x = some .free -> ∃ a, cl.lookup x = some a)
    (hlen : cap.length = N'.length) (hcap : ∀ (i j : Nat) (x : Str), cap[i]? = some (some j) -> N'[i]? = some x -> X.N[j]? = some x /\ Vis X.env.scope x /\ X.env.kindOf x ≠ some .local /\ ((relabel scope X.env).names.lookup x = some .cell \/ (relabel scope X.env).names.lookup x = some .free))
    (hs : ∀ x, foldedSetIterable iter X.env x = pure x )
    (I : Inv X pins σ H s) (S : St0 X.K H ρ μ σ) (h : j6 cap src g c te ρ μ Qd)
    (hend : ∀ (s4 : Shared) (Hc : Hp) (C pa : Addr) (m : Str -> Option Value) (acc : List PyData) (μF : Mu), s4.heap.Ns C m -> zC X pins Hc C -> (∀ h', Heap.SameBut C s4.heap h' -> Inv X pins σ Hc { s4 with heap := h' }) ->
      Ext X.K μ H μF Hc -> St0 X.K Hc ρ μF σ -> Rp X.K μF Hc (.list acc) (.ref pa) -> Qd (.v (.list acc)) μF -> compPost (model X.prog X.w) X.A X.xe use QQ (.ref pa) C (.ok .next) s4) :
    wpAny (model X.prog X.w) X.A (comprehension (.ListComp elt [⟨tg, iter, ifs, 0⟩] scope pos) scope X.env pos2 (newList []) false (eval iter X.env) use) QQ X.xe s := by
  obtain ⟨wi, pw, li⟩ := hi
  refine wpAny_comprehension_free rfl hs hclos hkind hnames (thn (pw pins s σ H _ I (li σ H ρ μ _ (fun J H1 => ∃ xs μ1, Ext X.K μ H μ1 H1 /\ St0 X.K H1 ρ μ1 σ /\ ML X.K J xs μ1 H1 /\ xs.length ≤ 1000 /\ ∀ p, μ1 p = none -> ∃ Pv : Nat -> List PyData -> Mu -> Prop, Pv 0 [] (aO μ1 p []) /\
      (∀ i x acc μ', xs[i]? = some x -> μ' p = some acc -> Pv i acc μ' -> g (.v x) (bZ cap ρ) μ' fun ρ2 μ2 => Le (bZ cap ρ) ρ2 /\ c ρ2 μ2 fun b μ3 =>
        if b = true then te ρ2 μ3 fun d μ4 => μ4 p = some acc /\ (match d with | .v y => Pv (i + 1) (acc ++ [y]) (aO μ4 p (acc ++ [y])) | _ => False) else μ3 p = some acc /\ Pv (i + 1) acc μ3) /\
      (∀ acc μ', Pv xs.length acc μ' -> μ' p = some acc -> Qd (.v (.list acc)) (hV μ' p))) S h (fun xs μ1 H1 J e1 S1 it q => ⟨xs, μ1, e1, S1, it, q⟩)))
    fun v s1 h1 => thn h1 fun itv s2 h2 => ?_)
  obtain ⟨it, fp, tn, J, H2, rfl, I2, T, st2, f2, xs, μ1, e1, S1, itok, hxs, allp⟩ := h2
  refine wpAny_newObj_type (wpAny_newFunctionEnv hcell (by intro y hy; simp at hy) (fun h₁ hns₁ hsb₁ => ?_) hkind)
  dsimp only at hns₁ hsb₁ ⊢
  have hfree2 : H2 s2.heap.objs.size = none := I2.hok.fresh (Nat.le_refl _)
  have hK2 : X.K.lookup s2.heap.objs.size = none := by
    cases z : X.K.lookup s2.heap.objs.size with
    | none => rfl
    | some o => exact absurd (Heap.lt_size (I2.kIn _ _ z)) (Nat.lt_irrefl _)
  have I3 : Inv X pins σ (upd H2 s2.heap.objs.size (.lst [])) { s2 with heap := s2.heap.push { cls := .type "list", dict := none, data := .seq ([] : List Value).toArray } } :=
    I2.laid (t' := s2.toks) (fun b u e => Heap.get?_push_of_some _ e) (Nat.le_refl _) ⟨Nat.zero_le _, [], 0, .nil, Heap.get?_push_size _ rfl⟩
  generalize hH : s2.heap.push { cls := .type "list", dict := none, data := .seq ([] : List Value).toArray } = hp3 at hns₁ hsb₁ I3 ⊢
  have hsz3 : hp3.objs.size = s2.heap.objs.size + 1 := by rw [<- hH, Heap.size_push]
  have kept3 : ∀ b o, hp3.get? b = some o -> h₁.get? b = some o := fun b o e => hsb₁.extBut b o (Nat.ne_of_lt (Heap.lt_size e)) (Heap.get?_push_of_some _ e)
  have old3 : ∀ b o, s2.heap.get? b = some o -> hp3.get? b = some o := fun b o e => by rw [<- hH]; exact Heap.get?_push_of_some _ e
  have fplt : ∀ b ∈ fp, b < s2.heap.objs.size := fun b hb => by obtain ⟨o, e, _⟩ := T.obj 0 _ st2 b hb; exact Heap.lt_size e
  have fpst : ∀ b ∈ fp, b ∉ frs X.stack := fun b hb hz => by
    rcases List.mem_cons.mp (I2.qp b hz) with e | e
    . exact (f2 b hb).2.1 e
    . exact (f2 b hb).2.2.1 e
  obtain ⟨s3, hs3⟩ : ∃ s3 : Shared, s3 = { s2 with heap := hp3 } := ⟨_, rfl⟩
  obtain ⟨H3, hH3⟩ : ∃ H3 : Hp, H3 = upd H2 s2.heap.objs.size (.lst []) := ⟨_, rfl⟩
  have heap3 : s3.heap = hp3 := by rw [hs3]
  rw [<- hH3] at I3
  have I3' : Inv X pins σ H3 s3 := by rw [hs3]; exact I3
  have hloc : H3 hp3.objs.size = none := by have := I3'.hok.fresh (a := hp3.objs.size) (by rw [heap3]; exact Nat.le_refl _); exact this
  have okc : (aY X N' scope cl fp s3 H3).Ok := by
    refine ⟨I3.ok.mod, ?_, I3.ok.glob, I3.ok.blt, Nat.le_refl _, fun x y a h1 h2 => I3.ok.inj x y a (hcl x a h1) (hcl y a h2), fun x hx => hhas x hx, fun x a h => (nomatch h), I3.ok.hd, I3.ok.qt, I3.ok.frames, .inl rfl, fun b hb => ⟨?_, fun x a h => (f2 b hb).2.2.2.2.1 x a (hcl x a h)⟩,
      I3'.bs, Nat.le_trans I3.ok.bsz I3'.sz, fun b o e hb => ?_, fun b hb => fpst b hb, I3'.stack, I3'.tP⟩
    . exact hkind
    . show b ≠ s3.heap.objs.size
      rw [heap3, hsz3]
      exact Nat.ne_of_lt (Nat.lt_succ_of_lt (fplt b hb))
    . rcases (f2 b hb).2.2.2.1 with z | z
      . exact I3.ok.CN b o e z
      . exact absurd (Nat.lt_of_lt_of_le (Heap.lt_size (I3.ok.bs b o e).1) z) (Nat.lt_irrefl _)
  have I4 : Inv (aY X N' scope cl fp s3 H3) [] (bZ cap σ) H3 { s2 with heap := h₁, toks := s2.toks + ([] : List (Str × Value)).length } := by
    refine ⟨okc, by show s2.os = s3.os; rw [hs3], I3.bare, Un.kept (by show ∀ b o, s3.heap.get? b = some o -> _; rw [heap3]; exact kept3), ⟨_, (by show h₁.Ns s3.heap.objs.size _; rw [heap3]; exact hns₁), fun i x v e1 e2 e3 => ?_⟩, fun x a h => ?_, (by show H3 s3.heap.objs.size = none; rw [heap3]; exact hloc), fun x a h => I3.jZ x a (hcl x a h), fun p hp => ?_, I3.hok.kept kept3, ?_⟩
    . obtain ⟨j, h1, h2⟩ := qm e2
      obtain ⟨hN, hv, hnl, hk⟩ := hcap i j x h1 e1
      obtain ⟨m, _, hl⟩ := I3.loc
      obtain ⟨u, r, lk⟩ := hl j x v hN h2 hv
      refine ⟨u, r, .inr ⟨hk, ?_⟩⟩
      obtain ⟨a, ha⟩ := hhas x hk
      rcases lk with ⟨z, _⟩ | ⟨_, a', z1, z2⟩
      . exact absurd z hnl
      . have : a' = a := by have q := hcl x a ha; rw [z1] at q; exact Option.some.inj q
        subst this
        obtain ⟨o, ho, hd⟩ := z2
        exact ⟨a', ha, o, kept3 _ _ ho, hd⟩
    . obtain ⟨v, o, ho, hd⟩ := I3.cell x a (hcl x a h)
      exact ⟨v, o, kept3 _ _ ho, hd⟩
    . have hp' : p ∈ X.pn ++ pins := List.mem_append_left _ (by simpa using (show p ∈ X.pn ++ [] from hp))
      obtain ⟨z1, z2, z3, z4, z5⟩ := I3'.pin p hp'
      refine ⟨kept3 _ _ (by rw [<- heap3]; exact z1), z2, (show p.1 ≠ s3.heap.objs.size from Nat.ne_of_lt (Heap.lt_size z1)), fun z => ?_, z5⟩
      rcases List.mem_cons.mp (I3'.qp p.1 z) with e | e
      . exact z3 e
      . exact z4 e
    . show (bZ cap σ).length = N'.length
      unfold bZ
      rw [List.length_map]
      exact hlen
  have hμ1 : μ1 s2.heap.objs.size = none := S1.mu.free hfree2
  obtain ⟨Pv, pv0, body, fin⟩ := allp s2.heap.objs.size hμ1
  have loop : codeAny (model X.prog X.w) X.A (.compLoop (.ListComp elt [⟨tg, iter, ifs, 0⟩] scope pos) 0 (.ref it) (.ref s2.heap.objs.size) (aY X N' scope cl fp s3 H3).env)
      (compPost (model X.prog X.w) X.A X.xe use QQ (.ref s2.heap.objs.size) hp3.objs.size) { s2 with heap := h₁, toks := s2.toks + ([] : List (Str × Value)).length } := by
    refine iK (fun n s' => ∃ (i : Nat) (σc : St) (Hc : Hp) (acc : List PyData) (μc : Mu), n = xs.length - i /\ i ≤ xs.length /\ Inv (aY X N' scope cl fp s3 H3) [] σc Hc s' /\ tn i s'.heap /\ (∀ b ∈ fp, Hc b = none) /\
      acc.length <= i /\ μc s2.heap.objs.size = some acc /\ Pv i acc μc /\ St0 X.K Hc (bZ cap ρ) μc σc /\ Ext X.K μ1 H2 μc Hc) ?_ xs.length
      ⟨0, bZ cap σ, H3, [], aO μ1 s2.heap.objs.size [], by simp, Nat.zero_le _, I4, T.keep 0 _ _ st2 (fun b hb o e => kept3 b o (old3 b o e)), fun b hb => ?_, Nat.le_refl _, bD, pv0, ?_, ?_⟩
    . rintro n s' ⟨i, σc, Hc, acc, μc, rfl, hi, Ic, tc, frc, hal, hpa, pvi, Sc, Ec⟩
      have stat : ∀ {Hd : Hp}, (∀ b ∈ fp, Hd b = none) -> ∀ b ∈ fp, zC (aY X N' scope cl fp s3 H3) [] Hd b := fun hn b hb =>
        ⟨hn b hb, (okc.exf b hb).1, fpst b hb, .inl hb, fun x a h => (okc.exf b hb).2 x a h, fun p hp => (f2 b hb).2.2.2.2.2 p (List.mem_append_left _ (by simpa using (show p ∈ X.pn ++ [] from hp)))⟩
      obtain ⟨go, stop⟩ := itok _ Hc Ec Sc.mu i
      by_cases hlt : i < xs.length
      . obtain ⟨g1, y1⟩ := go hlt
        refine thn (T.item (aY X N' scope cl fp s3 H3) rfl rfl rfl (fun z => z) i [] s' σc Hc (fun _ _ => False) Ic (stat frc) tc g1) fun r s4 ⟨u, hr, h4⟩ => ?_
        subst hr
        refine thn h4 fun _ s5 ⟨x, H5, I5, r5, y5, st5, fr5⟩ => ?_
        obtain ⟨d, hd, sm, rd⟩ := y1 x H5 y5
        have I5' := I5.pinned (stat fr5) (T.obj _ _ st5)
        have e5 : Ext X.K _ Hc _ H5 := .of_same (μ := μc) sm
        have S5 : St0 X.K H5 (bZ cap ρ) μc σc := ⟨Sc.mu.Kr e5 sm, Sc.rho.ext Sc.mu e5⟩
        obtain ⟨gt, pg, lg⟩ := hg fp s3 H3
        refine thn (pg _ s5 σc H5 x u (fun σ' H' => ∃ ρ' μ', Ext X.K μc H5 μ' H' /\ St0 X.K H' ρ' μ' σ' /\ Le (bZ cap ρ) ρ' /\ c ρ' μ' fun b μ3 =>
            if b = true then te ρ' μ3 fun d' μ4 => μ4 s2.heap.objs.size = some acc /\ (match d' with | .v y => Pv (i + 1) (acc ++ [y]) (aO μ4 s2.heap.objs.size (acc ++ [y])) | _ => False) else μ3 s2.heap.objs.size = some acc /\ Pv (i + 1) acc μ3) I5' r5
          (lg σc H5 (bZ cap ρ) _ (.v d) x _ _ S5 rd (body i d acc μc hd hpa pvi) fun σ' ρ' μ' H' e' S' q => ⟨ρ', μ', e', S', q⟩)) fun _ s6 ⟨σ6, H6, I6, ρ6, μ6, e6, S6, le6, q6⟩ => ?_
        refine thn (hif fp s3 H3 _ s6 σ6 H6 ρ6 μ6 _ (fun b H' => ∃ μ', Ext X.K μ6 H6 μ' H' /\ St0 X.K H' ρ6 μ' σ6 /\ if b = true then te ρ6 μ' fun d' μ4 => μ4 s2.heap.objs.size = some acc /\ (match d' with | .v y => Pv (i + 1) (acc ++ [y]) (aO μ4 s2.heap.objs.size (acc ++ [y])) | _ => False) else μ' s2.heap.objs.size = some acc /\ Pv (i + 1) acc μ')
          I6 S6 q6 fun b μ' H' e' S' q => ⟨μ', e', S', q⟩) fun b s7 ⟨H7, I7, μ7, e7, S7, q7⟩ => ?_
        have again : ∀ {H9 : Hp} {s9 : Shared} {acc' : List PyData} {μ9 : Mu}, Inv (aY X N' scope cl fp s3 H3) ([] ++ rO fp s5.heap) σ6 H9 s9 -> acc'.length ≤ i + 1 -> μ9 s2.heap.objs.size = some acc' -> Pv (i + 1) acc' μ9 -> cw X.K μ9 H9 -> fz X.K μ9 H9 (bZ cap ρ) σ6 ->
            Ext X.K μ1 H2 μ9 H9 -> ∃ m, m < xs.length - i /\ ∃ (i : Nat) (σc : St) (Hc : Hp) (acc : List PyData) (μc : Mu), m = xs.length - i /\ i ≤ xs.length /\ Inv (aY X N' scope cl fp s3 H3) [] σc Hc s9 /\ tn i s9.heap /\ (∀ b ∈ fp, Hc b = none) /\
              acc.length <= i /\ μc s2.heap.objs.size = some acc /\ Pv i acc μc /\ St0 X.K Hc (bZ cap ρ) μc σc /\ Ext X.K μ1 H2 μc Hc := fun {H9 s9 acc' μ9} I9 l9 p9 v9 m9 r9 e9 => by
          refine ⟨xs.length - (i + 1), by omega, i + 1, σ6, H9, acc', μ9, rfl, hlt, I9.kH, T.keep _ _ _ st5 fun b hb o e => (I9.pin (b, o) (List.mem_append_right _ (List.mem_append_right _ (eO hb e)))).1, fun b hb => ?_, l9, p9, v9, ⟨m9, r9⟩, e9⟩
          obtain ⟨o, e, _⟩ := T.obj _ _ st5 b hb
          exact (I9.pin (b, o) (List.mem_append_right _ (List.mem_append_right _ (eO hb e)))).2.1
        cases b with
        | false =>
          have q8 : μ7 s2.heap.objs.size = some acc /\ Pv (i + 1) acc μ7 := by simpa using q7
          refine BD ?_
          exact again I7 (by omega) q8.1 q8.2 S7.mu (S7.rho.le le6) (Ec.trans (e5.trans (e6.trans e7)))
        | true =>
          refine zW ?_
          obtain ⟨t8, p8, l8⟩ := he fp s3 H3
          refine thn (p8 _ s7 σ6 H7 (fun v H' => ∃ y μ8, Ext X.K μ7 H7 μ8 H' /\ St0 X.K H' ρ6 μ8 σ6 /\ Rp X.K μ8 H' y v /\ μ8 s2.heap.objs.size = some acc /\ Pv (i + 1) (acc ++ [y]) (aO μ8 s2.heap.objs.size (acc ++ [y]))) I7
            (l8 σ6 H7 ρ6 μ7 _ _ S7 (by simpa using q7) fun d' v μ8 H8 e8 S8 r8 q8 => ?_)) fun v s8 ⟨v8, H8, I8, r8, y, μ8, e8, S8, ry, pa8, fy⟩ => ?_
          . obtain ⟨q80, q8⟩ := q8
            cases d' with
            | v y => exact ⟨y, μ8, e8, S8, r8, q80, q8⟩
            | m _ => exact q8.elim
            | s _ => exact q8.elim
            | o _ => exact q8.elim
            | q _ => exact q8.elim
          . obtain ⟨us, hacc, rus⟩ := S8.mu s2.heap.objs.size _ pa8
            have hle : acc.length <= 1000 := by omega
            refine thn (qV (X := aY X N' scope cl fp s3 H3) _ s8 σ6 H8 (.ref s2.heap.objs.size) [v8] (.ref s2.heap.objs.size) [v] (fun _ H' => H' = upd H8 s2.heap.objs.size (.lst (us ++ [v8]))) I8 rfl (.cons r8 .nil) ⟨_, us, v8, rfl, rfl, hacc, by rw [<- rus.length]; exact eV hle, rfl⟩) fun _ s9 ⟨_, H9, I9, _, e9⟩ => ?_
            subst e9
            have ex : Ext X.K μ8 H8 (aO μ8 s2.heap.objs.size (acc ++ [y])) (upd H8 s2.heap.objs.size (.lst (us ++ [v8]))) := qK pa8
            exact again I9 (by rw [List.length_append, List.length_singleton]; omega) bD fy (S8.mu.set pa8 (rus.append (.cons ry .nil))) ((S8.rho.le le6).ext S8.mu ex) (Ec.trans (e5.trans (e6.trans (e7.trans (e8.trans ex)))))
      . have ei : i = xs.length := by omega
        subst ei
        refine thn (T.done (aY X N' scope cl fp s3 H3) rfl rfl rfl (fun z => z) _ [] s' σc Hc (fun _ _ => False) Ic (stat frc) tc (stop rfl)) fun r s4 ⟨hr, I5⟩ => ?_
        subst hr
        obtain ⟨m, hn, _⟩ := I5.loc
        have hcC : Hc hp3.objs.size = none := by have z : Hc s3.heap.objs.size = none := I5.free; rw [heap3] at z; exact z
        obtain ⟨us, hacc, rus⟩ := Sc.mu s2.heap.objs.size _ hpa
        have shr : ∀ a, μc a = none -> hV μc s2.heap.objs.size a = none := fun a e => by
          unfold hV
          split
          . rfl
          . exact e
        have dne : ∀ a ds, hV μc s2.heap.objs.size a = some ds -> μc a = some ds := fun a ds e => by
          unfold hV at e
          split at e
          . cases e
          . exact e
        have eF : Ext X.K μ1 H2 (hV μc s2.heap.objs.size) Hc := by
          refine ⟨Ec.keep, Ec.tb, fun b ds q => ?_, fun b q z => shr b (Ec.fresh b q z)⟩
          obtain ⟨es, q2⟩ := Ec.dom b ds q
          have : b ≠ s2.heap.objs.size := fun z => by rw [z, hμ1] at q; cases q
          exact ⟨es, by unfold hV; rw [if_neg this]; exact q2⟩
        have mF : cw X.K (hV μc s2.heap.objs.size) Hc := ⟨fun a ds q => by
          obtain ⟨ys, z1, z2⟩ := Sc.mu a ds (dne a ds q)
          exact ⟨ys, z1, z2.shrink shr⟩, Sc.mu.tab⟩
        refine hend s4 Hc hp3.objs.size s2.heap.objs.size m acc (hV μc s2.heap.objs.size) (by have z : s4.heap.Ns s3.heap.objs.size m := hn; rw [heap3] at z; exact z) (I2.MN (by rw [hsz3]; exact Nat.le_succ _) hcC) (fun h' hs' => ?_) (e1.trans eF) ⟨mF, S1.rho.ext S1.mu eF⟩ (Rp.list hacc (by unfold hV; rw [if_pos rfl]) (rus.shrink shr)) (fin acc μc pvi hpa)
        have kp : ∀ b o, b < s2.heap.objs.size -> s4.heap.get? b = some o -> h'.get? b = some o := fun b o hb e => hs'.extBut b o (by rw [hsz3]; exact Nat.ne_of_lt (Nat.lt_succ_of_lt hb)) e
        have hok' : HOk X.prog X.w Hc h' := fun b ob e => by
          refine (I5.hok b ob e).wx (fun cc v hcc q => hs'.extBut cc v ?_ q) (fun _ q => q) fun _ _ q => q
          rintro rfl
          rcases hcc with z | z
          . rw [<- z, hcC] at e; cases e
          . rw [hcC] at z; cases z
        have u1 : Un (frs X.stack) fp H2 H3 s2.heap s3.heap := by rw [heap3, hH3]; exact Un.laid old3 (Nat.le_refl _) hfree2
        have u2 : Un (frs X.stack) fp H3 Hc s3.heap s4.heap := I5.base
        exact I2.Ai (ch := fp) (by show s4.os = s2.os; have z : s4.os = s3.os := I5.os; rw [z, hs3]) (Un.after (u1.trans u2) kp) hok' I5.bare fun b hb => ⟨(f2 b hb).2.2.2.1, (f2 b hb).2.1, (f2 b hb).2.2.2.2.1, (f2 b hb).2.2.2.2.2⟩
    . have z : b ≠ s2.heap.objs.size := Nat.ne_of_lt (fplt b hb)
      rw [hH3, bF z]
      exact (f2 b hb).1
    . have ex := lN (o := .lst []) (ds := []) S1.mu hfree2 hK2
      rw [hH3]
      exact ⟨S1.mu.mut .nil hfree2 hK2, (S1.rho.ext S1.mu ex).cap⟩
    . rw [hH3]
      exact lN (o := .lst []) (ds := []) S1.mu hfree2 hK2
  have envE : (aY X N' scope cl fp s3 H3).env = compEnvC scope cl hp3.objs.size X.env := by show compEnvC scope cl s3.heap.objs.size X.env = _; rw [heap3]
  rw [envE] at loop
  exact codeAny_compStart_list loop (T.self X.A 0 _ _ _ (T.keep 0 _ _ st2 (fun b hb o e => kept3 b o (old3 b o e))) loop)
theorem KU {X : Cx} {N' : List Str} {scope : Scope} {cl : List (Str × Addr)} {elt iter tg : Expr} {ifs : List Expr} {pos : Pos} {cap : List (Option Nat)} {src : DTI} {g : DTG} {c : DTT} {te : DTE} (hc : X.calm = X.calm)
    (hi : DI X tg iter src) (hg : ∀ fp s₃ H₃, DG (aY X N' scope cl fp s₃ H₃) tg g) (hif : ∀ fp s₃ H₃, Jr (aY X N' scope cl fp s₃ H₃) ifs c) (he : ∀ fp s₃ H₃, DE (aY X N' scope cl fp s₃ H₃) elt te)
    (hclos : closureFor scope X.env = pure cl) (hcell : ∀ y ∈ scope.names, y.2 ≠ .cell) (hkind : scope.kind = .function) (hnames : ∀ y ∈ scope.names, y.2 = .local -> scope.names.lookup y.1 = some .local)
    (hcl : ∀ x a, cl.lookup x = some a -> X.env.cells.lookup x = some a) (hhas : ∀ x, (relabel scope X.env).names.lookup x = some .cell \/ (relabel scope X.env).names.lookup x = some .free -> ∃ a, cl.lookup x = some a)
    (hlen : cap.length = N'.length) (hcap : ∀ (i j : Nat) (x : Str), cap[i]? = some (some j) -> N'[i]? = some x -> X.N[j]? = some x /\ Vis X.env.scope x /\ X.env.kindOf x ≠ some .local /\ ((relabel scope X.env).names.lookup x = some .cell \/ (relabel scope X.env).names.lookup x = some .free))
    (hs : ∀ x, foldedSetIterable iter X.env x = pure x := by intro _; rfl) : DE X (.ListComp elt [⟨tg, iter, ifs, 0⟩] scope pos) (j6 cap src g c te) := by
  refine DY fun pins s σ H ρ μ Qd Q I S h k => ?_
  rw [eval_ListComp]
  refine Am hc hi hg hif he hclos hcell hkind hnames hcl hhas hlen hcap hs I S h fun s4 Hc C pa m acc μF hn _ hI e1 S1 r q => ?_
  exact ⟨m, hn, fun h' hs' => ⟨.ref pa, Hc, hI h' hs', rfl, k (.v (.list acc)) _ μF Hc e1 S1 r q⟩⟩
theorem ns_obj {h : Heap} {C : Addr} {m : Str -> Option Value} (hn : h.Ns C m) : ∃ o, h.get? C = some o /\ ∀ v, o.data ≠ .cell v := let ⟨o, es, ep, ho, hd, _⟩ := hn; ⟨o, ho, fun v z => by rw [hd] at z; cases z⟩
theorem M3 {h h' : Heap} {C : Addr} {m : Str -> Option Value} (hn : h.Ns C m) (e : h'.get? C = h.get? C) : h'.Ns C m := let ⟨o, es, ep, ho, r⟩ := hn; ⟨o, es, ep, e.trans ho, r⟩
theorem tN {X : Cx} {i : Nat} {x : Str} {pos' spos : Pos} {N' : List Str} {scope : Scope} {cl : List (Str × Addr)} {elt iter tg : Expr} {ifs : List Expr} {pos : Pos} {cap : List (Option Nat)} {src : DTI} {g : DTG} {c : DTT} {te : DTE} (hN : X.N.Nodup) (hix : X.N[i]? = some x) (hx : X.env.scope.names.lookup x = some .local) (hc : X.calm = X.calm)
    (hi : DI X tg iter src) (hg : ∀ fp s₃ H₃, DG (aY X N' scope cl fp s₃ H₃) tg g) (hif : ∀ fp s₃ H₃, Jr (aY X N' scope cl fp s₃ H₃) ifs c) (he : ∀ fp s₃ H₃, DE (aY X N' scope cl fp s₃ H₃) elt te)
    (hclos : closureFor scope X.env = pure cl) (hcell : ∀ y ∈ scope.names, y.2 ≠ .cell) (hkind : scope.kind = .function) (hnames : ∀ y ∈ scope.names, y.2 = .local -> scope.names.lookup y.1 = some .local)
    (hcl : ∀ x a, cl.lookup x = some a -> X.env.cells.lookup x = some a) (hhas : ∀ x, (relabel scope X.env).names.lookup x = some .cell \/ (relabel scope X.env).names.lookup x = some .free -> ∃ a, cl.lookup x = some a)
    (hlen : cap.length = N'.length) (hcap : ∀ (i j : Nat) (x : Str), cap[i]? = some (some j) -> N'[i]? = some x -> X.N[j]? = some x /\ Vis X.env.scope x /\ X.env.kindOf x ≠ some .local /\ ((relabel scope X.env).names.lookup x = some .cell \/ (relabel scope X.env).names.lookup x = some .free))
    (hs : ∀ x, foldedSetIterable iter X.env x = pure x := by intro _; rfl)
    (hsw : swapsWith (.ListComp elt [⟨tg, iter, ifs, 0⟩] scope pos) (some (.Name x pos')) spos.line X.env = pure true := by rfl) : DS X (.Assign [.Name x pos'] (.ListComp elt [⟨tg, iter, ifs, 0⟩] scope pos) spos) (bE (j6 cap src g c te) (az i)) := by
  refine ⟨fun D σ H => ∃ ρ μ Dd, St0 X.K H ρ μ σ /\ bE (j6 cap src g c te) (az i) Dd ρ μ /\ (∀ σ' ρ' μ' H', Ext X.K μ H μ' H' -> St0 X.K H' ρ' μ' σ' -> Dd.nx ρ' μ' -> D.nx σ' H'), ?_, fun σ H ρ μ Dd De S h k1 k2 k3 k4 => ⟨ρ, μ, Dd, S, h, k1⟩⟩
  rintro pins s σ H D I ⟨ρ, μ, Dd, S, h, k1⟩
  rw [exec_Assign_Name_used _ _ _ _ hsw]
  refine wpAny_bind (wpAny_standAt ?_)
  show wpAny _ _ ((comprehension (.ListComp elt [⟨tg, iter, ifs, 0⟩] scope pos) scope X.env (firstIterPos [⟨tg, iter, ifs, 0⟩] pos) (newList []) false (eval iter X.env) (some (assign (.Name x pos') X.env)) >>= fun _ => pure ()) >>= _) _ _ s
  refine wpAny_bind (wpAny_bind (Am (Qd := fun d μ1 => az i d ρ μ1 Dd.nx) hc hi hg hif he hclos hcell hkind hnames hcl hhas hlen hcap hs I S h fun s4 Hc C pa m acc μF hn fC hI e1 S1 r q => ?_))
  have I4 : Inv X pins σ Hc s4 := hI s4.heap (Heap.SameBut.refl _ _)
  obtain ⟨oC, hoC, hdC⟩ : ∃ o, s4.heap.get? C = some o /\ ∀ v, o.data ≠ .cell v := by
    obtain ⟨o, h1, h2⟩ := ns_obj hn
    exact ⟨o, h1, h2⟩
  have I5 := I4.pinned (fp := [C]) (fun b hb => by rw [List.mem_singleton.mp hb]; exact fC) (fun b hb => by rw [List.mem_singleton.mp hb]; exact ⟨oC, hoC, hdC⟩)
  show wpAny _ _ (assign (.Name x pos') X.env (.ref pa)) _ _ s4
  refine wpAny_assign_Name (nu I5 hN hix (Or.inl hx) (show RelV (.ref pa) (.ref pa) from rfl) (fun s' I' => ?_) (.inr hx))
  have keepC : s'.heap.get? C = some oC := (I'.pin (C, oC) (List.mem_append_right _ (List.mem_append_right _ (eO (List.mem_singleton.mpr rfl) hoC)))).1
  have hn' : s'.heap.Ns C m := M3 hn (by rw [keepC, hoC])
  refine ⟨m, hn', fun h' hs' => wpAny_pure (wpAny_pure ?_)⟩
  refine ⟨σ.set i (some (.ref pa)), Hc, ?_, k1 _ _ _ _ e1 ⟨S1.mu, S1.rho.set (d := .v (.list acc)) r⟩ q⟩
  refine I'.kH.Ai (ch := [C]) rfl ⟨fun b o e n hb hx => ?_, fun b o e n hb hx => ?_, fun b o e n hx => n, fun b o e hx => ?_, fun b xs e => e, fun b o u e => e, fun b ps e => ⟨#[], by rw [Array.append_empty]; exact e⟩⟩ ?_ I'.bare fun b hb => ?_
  . exact hs'.extBut b o (fun z => hx (List.mem_singleton.mpr z)) e
  . exact ⟨o.slots, hs'.extBut b o (fun z => hx (List.mem_singleton.mpr z)) e⟩
  . exact ⟨o, hs'.extBut b o (fun z => hx (List.mem_singleton.mpr z)) e⟩
  . exact fun b ob e => by
      refine (I'.hok b ob e).wx (fun cc v hcc q => hs'.extBut cc v ?_ q) (fun _ q => q) fun _ _ q => q
      rintro rfl
      rcases hcc with z | z
      . rw [<- z, fC.1] at e; cases e
      . rw [fC.1] at z; cases z
  . rw [List.mem_singleton.mp hb]
    exact ⟨fC.2.2.2.1, fC.2.1, fC.2.2.2.2.1, fC.2.2.2.2.2⟩
theorem xg {cap : List (Option Nat)} {src : DTI} {g : DTG} {t : DTT} {ta : DTE} {ρ : Rho} {μ : Mu} {Q : DK} : j6 cap src g t ta ρ μ Q = src ρ μ fun xs μ1 => xs.length ≤ 1000 /\ ∀ p, μ1 p = none -> ∃ Pv : Nat -> List PyData -> Mu -> Prop, Pv 0 [] (aO μ1 p []) /\
  (∀ i x acc μ', xs[i]? = some x -> μ' p = some acc -> Pv i acc μ' -> g (.v x) (bZ cap ρ) μ' fun ρ2 μ2 => Le (bZ cap ρ) ρ2 /\ t ρ2 μ2 fun b μ3 =>
    if b = true then ta ρ2 μ3 fun d μ4 => μ4 p = some acc /\ (match d with | .v y => Pv (i + 1) (acc ++ [y]) (aO μ4 p (acc ++ [y])) | _ => False) else μ3 p = some acc /\ Pv (i + 1) acc μ3) /\
  (∀ acc μ', Pv xs.length acc μ' -> μ' p = some acc -> Q (.v (.list acc)) (hV μ' p)) := propext Iff.rfl
theorem vK {μ : Mu} {p : Addr} {ds : List PyData} (h : μ p = none) : hV (aO μ p ds) p = μ := by
  funext b
  unfold hV aO
  by_cases e : b = p
  . rw [if_pos e, e, h]
  . rw [if_neg e, if_neg e]
theorem Oi {xs : List PyData} {f : PyData -> Option PyData} {i : Nat} {d : PyData} (h : xs[i]? = some d) : (xs.take (i + 1)).filterMap f = (xs.take i).filterMap f ++ (f d).toList := wY h
open PySem PySem.Spec PyProof.Rows
section
variable {X : Cx} {es : List Expr} {x1 : Nat} {tpos : Pos}
def Jx : List PyData -> List PyData -> List PyData
  | x :: xs, y :: ys => .tuple [x, y] :: Jx xs ys
  | _, _ => []
def P4 (t : DTA) : DTI := fun ρ μ Q => t ρ μ fun ds μ1 => match ds with
  | [.v (.list xs), .v (.list ys)] => Q (Jx xs ys) μ1
  | _ => False
theorem B6 {t : DTA} {ρ : Rho} {μ : Mu} {Q : List PyData -> Mu -> Prop} : P4 t ρ μ Q = t ρ μ fun ds μ1 => match ds with | [.v (.list xs), .v (.list ys)] => Q (Jx xs ys) μ1 | _ => False := propext Iff.rfl
end
open PySem PySem.Spec PyProof.Rows
section
variable {X : Cx} {a b e : Expr} {es : List Expr} {ta tb te : DTE} {t : DTA} {p pos : Pos}
def kB : List D -> Mu -> DK -> Prop := fun xs μ Q => match xs with
  | [.v (.list ys)] => Q (.v (.tuple ys)) μ
  | [.v (.tuple ys)] => Q (.v (.tuple ys)) μ
  | [.m l] => (match μ l with | some ys => Q (.v (.tuple ys)) μ | none => False)
  | _ => False
theorem KG {K : PySem.W.Frag} : rE K (fun xs H Q => ∃ p ys, xs = [.ref p] /\ ((SqL K H p ys /\ ∀ l, H l = none -> Q (.ref l) (upd H l (.tup ys))) \/ (SqT K H p ys /\ Q (.ref p) H))) kB := by
  intro xs us H μ Qd Q ok rs h k
  unfold kB at h
  split at h
  . cases rs with
    | cons r1 r2 =>
      cases r2
      cases r1 with
      | list hs hn r => exact ⟨_, _, rfl, .inl ⟨SqL.of hs, fun l hl => k (.v _) _ μ _ (cY hl) (ok.new hl) (kT ok r hl) h⟩⟩
  . cases rs with
    | cons r1 r2 =>
      cases r2
      cases id r1 with
      | tuple hs r => exact ⟨_, _, rfl, .inr ⟨hs, k (.v _) _ μ H .refl ok r1 h⟩⟩
  . cases rs with
    | cons r1 r2 =>
      cases r2
      obtain ⟨rfl, ds, hm⟩ := r1
      rw [hm] at h
      obtain ⟨us, hl, r⟩ := ok _ ds hm
      exact ⟨_, _, rfl, .inl ⟨SqL.of hl, fun l hl' => k (.v _) _ μ _ (cY hl') (ok.new hl') (kT ok r hl') h⟩⟩
  . exact h.elim
theorem yy (hg : Gl X "tuple") (hm : X.mg "tuple" = none) (ha : DA X (e :: es) t)
    (he : starEach (e :: es) X.env = (false, eval e X.env) :: starEach es X.env := by rfl) (hpl : (backTo pos (starEach es X.env)).any (·.1) = false := by rfl) : DE X (.Call (.Name "tuple" p) (e :: es) [] pos) (dCB kB t) :=
  vE zo KG hg hm PyProof.Rows.Boot.«tuple» ha (by decide) (by decide) he hpl
theorem xU {ys : List PyData} {μ : Mu} {Q : DK} : kB [.v (.list ys)] μ Q = Q (.v (.tuple ys)) μ := propext Iff.rfl
theorem yq {ys : List PyData} {μ : Mu} {Q : DK} : kB [.v (.tuple ys)] μ Q = Q (.v (.tuple ys)) μ := propext Iff.rfl
theorem yh {l : Addr} {μ : Mu} {Q : DK} : kB [.m l] μ Q = (match μ l with | some ys => Q (.v (.tuple ys)) μ | none => False) := propext Iff.rfl
def Qx : D -> D -> Mu -> DK -> Prop := fun x y μ Q => match x, y with
  | .v (.list xs), .v (.int k) => (0 <= k /\ k <= 1000 /\ xs.length * k.toNat <= 1000) /\ Q (.v (.list (List.replicate k.toNat xs).flatten)) μ
  | _, _ => False
theorem KO {xs : List PyData} {k : Int} {μ : Mu} {Q : DK} : Qx (.v (.list xs)) (.v (.int k)) μ Q = ((0 <= k /\ k <= 1000 /\ xs.length * k.toNat <= 1000) /\ Q (.v (.list (List.replicate k.toNat xs).flatten)) μ) := propext Iff.rfl
end
open PySem PySem.Spec PyProof.Rows
section
variable {prog : Program} {w : World} {A : Around} {E : Value -> Shared -> Prop} {s : Shared}
end
open PySem PySem.Spec PyProof.Rows
section
variable {X : Cx} {es : List Expr} {x1 : Nat} {tpos : Pos}
end
section
variable {X : Cx} {es : List Expr} {pos : Pos}
end
open PySem PySem.Spec PyProof.Rows
section
variable {X : Cx} {e : Expr} {es : List Expr} {t : DTA} {p pos : Pos}
def gn : List PyData -> Option (List Int)
  | [] => some []
  | .int b :: r => (gn r).map (b :: ·)
  | _ :: _ => none
theorem Aw {K : PySem.W.Frag} {μ : Mu} {H : Hp} : ∀ {xs : List PyData} {us : List V} {bs : List Int}, RpL K μ H xs us -> gn xs = some bs -> us = bs.map V.int
  | _, _, _, .nil, e => by cases e; rfl
  | .int b :: r, _, bs, .cons h t, e => by
    simp only [gn] at e
    cases q : gn r with
    | none => rw [q] at e; cases e
    | some cs => rw [q] at e; cases e; cases h; rw [Aw t q]; rfl
  | .none :: r, _, bs, .cons h t, e => by simp [gn] at e
  | .bool _ :: r, _, bs, .cons h t, e => by simp [gn] at e
  | .str _ :: r, _, bs, .cons h t, e => by simp [gn] at e
  | .list _ :: r, _, bs, .cons h t, e => by simp [gn] at e
  | .tuple _ :: r, _, bs, .cons h t, e => by simp [gn] at e
  | .dict _ :: r, _, bs, .cons h t, e => by simp [gn] at e
end
section
variable {X : Cx} {e tg : Expr} {te : DTE} {td : DTS} {pos : Pos}
end
section
variable {X : Cx} {a b c : Expr} {ta tb tc : DTE} {pos : Pos}
end
open PySem PySem.Spec PyProof.Rows
section
variable {X : Cx} {o e : Expr} {to te : DTE} {apos cpos pos : Pos}
theorem RpL.eraseIdx {K : PySem.W.Frag} {μ : Mu} {H : Hp} : ∀ {ds : List PyData} {us : List V} (i : Nat), RpL K μ H ds us -> RpL K μ H (ds.eraseIdx i) (us.eraseIdx i)
  | _, _, _, .nil => .nil
  | _, _, 0, .cons _ t => t
  | _, _, i + 1, .cons h t => .cons h (RpL.eraseIdx i t)
def Ri (to te : DTE) : DTE := fun ρ μ Q => to ρ μ fun x μ1 => match x with
  | .m l => te ρ μ1 fun y μ2 => (match y, μ2 l with
    | .v (.int i), some xs => (0 ≤ i /\ i < 1000) /\ ∃ d, xs[i.toNat]? = some d /\ Q (.v d) (aO μ2 l (xs.eraseIdx i.toNat))
    | _, _ => False)
  | _ => False
def HU : R2 := fun x y H Q => ∃ i j, x = .bl i /\ y = .bl j /\ Q (.bl (!(i == j))) H
theorem Im : OpR X (compareOp .IsNot) HU := by
  intro pins s σ H x y v u Q I rx ry h
  obtain ⟨i, j, rfl, rfl, q⟩ := h
  cases rx; cases ry
  exact wpAny_isNot_plain rfl ⟨.bl (!(i == j)), H, I, by cases i <;> cases j <;> rfl, q⟩
def wW : D -> D -> Mu -> DK -> Prop := fun x y μ Q => match x, y with
  | .v (.bool i), .v (.bool j) => Q (.v (.bool (!(i == j)))) μ
  | _, _ => False
theorem JH {K : PySem.W.Frag} : kW K HU wW := by
  intro x y ux uy H μ Qd Q ok rx ry h k
  unfold wW at h
  split at h
  . cases rx; cases ry; exact ⟨_, _, rfl, rfl, k (.v _) _ μ H .refl ok (Rp.bool _) h⟩
  . exact h.elim
end
section
variable {X : Cx} {e : Expr} {es : List Expr} {t : DTA} {p pos : Pos}
end
section
variable {X : Cx} {a b : Expr} {ta tb : DTE} {pos : Pos}
end
open PySem PySem.Spec PyProof.Rows
def Jz (cells : List (Str × Addr)) : List (Str × Addr) -> Prop
  | [] => True
  | (k, v) :: r => cells.lookup k = some v /\ Jz cells r
theorem dr {cells : List (Str × Addr)} : Jz cells [] := trivial
theorem bf {cells r : List (Str × Addr)} {k : Str} {v : Addr} (h : cells.lookup k = some v) (t : Jz cells r) : Jz cells ((k, v) :: r) := ⟨h, t⟩
theorem bJ {cells : List (Str × Addr)} : ∀ {cl : List (Str × Addr)}, Jz cells cl -> ∀ x a, cl.lookup x = some a -> cells.lookup x = some a
  | [], _, _, _, h => by simp at h
  | (k, v) :: r, c, x, a, h => by
    rw [List.lookup_cons] at h
    cases e : x == k with
    | true =>
      have e' : x = k := by simpa using e
      rw [e] at h
      subst e'
      rw [c.1]; exact h
    | false =>
      rw [e] at h
      exact bJ c.2 x a h
open PySem PySem.Spec PyProof.Rows
def Fly (O : Addr -> Prop) (h : Heap) (e : Addr) (cls fl : Value) : Prop := (∀ b, O b -> b < h.objs.size) /\ ∃ oe vs T oT ts, h.get? e = some oe /\ oe.cls = cls /\ oe.data = .fields vs /\ vs[1]? = some (.ref T) /\ vs[2]? = some .none /\ ¬ O e /\ ¬ O T /\ T ≠ e /\ h.get? T = some oT /\ oT.data = .fields ts /\ ts[3]? = some fl
structure Kp (O : Addr -> Prop) (fs : List Addr) (h h' : Heap) : Prop where
  keep : ∀ b o, h.get? b = some o -> O b -> b ∉ fs -> h'.get? b = some o
  slot : ∀ b o, h.get? b = some o -> (∀ vs, o.data ≠ .fields vs) -> ∃ sl, h'.get? b = some { o with slots := sl }
section
variable {O : Addr -> Prop} {fs : List Addr} {h h1 h2 : Heap}
theorem Kp.refl : Kp O fs h h := ⟨fun _ _ e _ _ => e, fun _ o e _ => ⟨o.slots, e⟩⟩
theorem Kp.trans (a : Kp O fs h h1) (b : Kp O fs h1 h2) : Kp O fs h h2 := ⟨fun c o e l f => b.keep c o (a.keep c o e l f) l f, fun c o e d => let ⟨_, e1⟩ := a.slot c o e d; let ⟨sl, e2⟩ := b.slot c _ e1 d; ⟨sl, e2⟩⟩
theorem Kp.of (k : ∀ b o, h.get? b = some o -> h1.get? b = some o) : Kp O fs h h1 := ⟨fun b o e _ _ => k b o e, fun b o e _ => ⟨o.slots, k b o e⟩⟩
theorem Kp.sub {fs' : List Addr} (a : Kp O fs h h1) (s : ∀ b ∈ fs, b ∈ fs') : Kp O fs' h h1 := ⟨fun b o e l f => a.keep b o e l fun z => f (s b z), a.slot⟩
theorem Kp.frames {base : Heap} {l : List Env} (a : Kp O fs h h1) (k : h.FunFrames base l) : h1.FunFrames base l := k.of_keeps fun b o e d => let ⟨_, e1⟩ := a.slot b o e d; ⟨_, e1, rfl⟩
end
section
variable {M : Model} {A : Around} {E : Value -> Shared -> Prop} {s : Shared} {O : Addr -> Prop} {e L : Addr} {cls fl : Value} {env : Env} {outer : List Env} {base : Heap} {Q : Unit -> Shared -> Prop}
theorem C4 {oe : Obj} {vs : Array Value} {head : Value} {hadNext : Bool} (hfr : A.frames = some (env :: outer)) (hl : s.heap.FunFrames base (env :: outer)) (hf : env.frame = some L)
    (he : s.heap.get? e = some oe) (hc : oe.cls = cls) (hd : oe.data = .fields vs) (hz : 1 < vs.size) (h2 : vs[2]? = some .none) (hO : ∀ b, O b -> b < s.heap.objs.size) (hn : ¬ O e)
    (k : ∀ h', Kp O (frs (env :: outer)) s.heap h' -> Fly O h' e cls (rawInt L) -> Q () { s with heap := h' }) :
    wpAny M A (do let a <- frameOf env; let pl <- entryPlaceOf L hadNext; let b <- EntryCells.newEntry head a .none (rawInt L) .none pl; setField (.ref e) 1 b) Q E s := by
  have ene : e ∉ frs (env :: outer) := fun hm => by
    obtain ⟨_, o, ho, hnf⟩ := hl.mem hm
    rw [he] at ho
    exact hnf vs (by rw [<- Option.some.inj ho]; exact hd)
  refine wpAny_bind (wpAny_frameOf_fun hfr hl hf fun g1 s1 => wpAny_bind (wpAny_entryPlaceOf fun pl hpl => ?_))
  unfold EntryCells.newEntry newFields; refine wpAny_bind (wpAny_newObj_type ?_ (hpl.sizeOk5 _ _ _ _ _))
  generalize hob : ({ cls := .type "traceback", dict := none, data := .fields ([head, .ref L, .none, rawInt L, .none] ++ (if pl.isEmpty then List.replicate 6 Value.none else pl)).toArray } : Obj) = ob
  have e1 : g1.get? e = some oe := (s1.2.1 e ene).trans he
  have e2 : (g1.push ob).get? e = some oe := Heap.get?_push_of_some ob e1
  have neT : g1.objs.size ≠ e := Nat.ne_of_gt (Heap.lt_size e1)
  have d3 := Obj.data_mapFields hd (·.setIfInBounds 1 (Value.ref g1.objs.size))
  have szs : ¬ O g1.objs.size := fun z => absurd (hO _ z) (by rw [s1.1]; exact Nat.lt_irrefl _)
  refine wpAny_setField e2 hd hz (k _ ⟨fun b o q l f => ?_, fun b o q d => ?_⟩ ?_)
  . have bne : e ≠ b := fun z => hn (by rw [z]; exact l)
    rw [Heap.get?_update_other _ _ bne]
    exact Heap.get?_push_of_some _ ((s1.2.1 b f).trans q)
  . have bne : e ≠ b := fun z => by rw [<- z, he] at q; exact d vs (by rw [<- Option.some.inj q]; exact hd)
    obtain ⟨sl, q1⟩ := s1.2.2 b o q
    exact ⟨sl, by rw [Heap.get?_update_other _ _ bne]; exact Heap.get?_push_of_some _ q1⟩
  . refine ⟨fun b z => Nat.lt_of_lt_of_le (hO b z) (by rw [Heap.size_after_update, Heap.size_push, s1.1]; exact Nat.le_succ _), _, _, g1.objs.size, ob, _, Heap.get?_update_self _ e2 (Obj.isFreed_of_fields d3), (Obj.cls_mapFields ..).trans hc, d3, by simp [hz], by rw [Array.getElem?_setIfInBounds_ne (by decide)]; exact h2, hn, szs, neT, ?_, by rw [<- hob], ?_⟩
    . rw [Heap.get?_update_other _ _ (Ne.symm neT)]
      exact Heap.get?_push_size g1 (by rw [<- hob]; rfl)
    . rcases hpl with z | ⟨_, _, _, _, _, _, _, z⟩ <;> (rw [z]; rfl)
theorem Ff {oe : Obj} {vs : Array Value} (hfr : A.frames = some (env :: outer)) (hl : s.heap.FunFrames base (env :: outer)) (hf : env.frame = some L)
    (he : s.heap.get? e = some oe) (hc : oe.cls = cls) (hd : oe.data = .fields vs) (h1 : vs[1]? = some .none) (h2 : vs[2]? = some .none) (hO : ∀ b, O b -> b < s.heap.objs.size) (hn : ¬ O e)
    (k : ∀ h', Kp O (frs (env :: outer)) s.heap h' -> Fly O h' e cls (rawInt L) -> Q () { s with heap := h' }) : wpAny M A (noteFrame (.ref e) env) Q E s := by
  unfold noteFrame; simp only [hf]
  refine wpAny_bind (wpAny_field he hd h1 ?_)
  rw [if_neg (by decide)]
  exact C4 hfr hl hf he hc hd (Array.getElem?_eq_some_iff.mp h1).1 h2 hO hn k
theorem Ax (hfr : A.frames = some (env :: outer)) (hl : s.heap.FunFrames base (env :: outer)) (hf : env.frame = some L) (F : Fly O s.heap e cls .none)
    (k : ∀ h', Kp O (frs (env :: outer)) s.heap h' -> Fly O h' e cls (rawInt L) -> Q () { s with heap := h' }) : wpAny M A (noteFrame (.ref e) env) Q E s := by
  obtain ⟨hO, oe, vs, T, oT, ts, he, hc, hd, h1, h2, hn, hT, nT, gT, dT, h3⟩ := F
  unfold noteFrame; simp only [hf]
  refine wpAny_bind (wpAny_field he hd h1 ?_)
  rw [if_pos (by simp)]
  refine wpAny_bind (wpAny_field gT dT h3 ?_)
  rw [if_neg (by simp [rawInt])]
  have oth : ∀ b, b ≠ T -> (s.heap.update T (Obj.mapFields (·.setIfInBounds 3 Value.none))).get? b = s.heap.get? b := fun b hb => Heap.get?_update_other _ _ (Ne.symm hb)
  have kp : Kp O (frs (env :: outer)) s.heap (s.heap.update T (Obj.mapFields (·.setIfInBounds 3 Value.none))) :=
    ⟨fun b o q l _ => (oth b fun z => hT (by rw [<- z]; exact l)).trans q, fun b o q d => ⟨o.slots, (oth b fun z => by rw [z, gT] at q; exact d ts (by rw [<- Option.some.inj q]; exact dT)).trans q⟩⟩
  refine wpAny_bind (wpAny_setField gT dT (Array.getElem?_eq_some_iff.mp h3).1 ?_)
  exact C4 (s := { s with heap := s.heap.update T (Obj.mapFields (·.setIfInBounds 3 Value.none)) }) hfr (kp.frames hl) hf ((oth e (Ne.symm nT)).trans he) hc hd (Array.getElem?_eq_some_iff.mp h1).1 h2 (fun b z => by rw [Heap.size_after_update]; exact hO b z) hn fun h' a b => k h' (kp.trans a) b
theorem lH {fs : List Addr} (F : Fly O s.heap e cls fl) (k : ∀ h', Kp O fs s.heap h' -> Fly O h' e cls .none -> Q () { s with heap := h' }) : wpAny M A (setFlight (.ref e) none) Q E s := by
  obtain ⟨hO, oe, vs, T, oT, ts, he, hc, hd, h1, h2, hn, hT, nT, gT, dT, h3⟩ := F
  have z3 : 3 < ts.size := (Array.getElem?_eq_some_iff.mp h3).1
  unfold setFlight
  refine wpAny_bind (wpAny_field he hd h1 ?_)
  rw [if_pos (by simp)]
  have oth : ∀ b, b ≠ T -> (s.heap.update T (Obj.mapFields (·.setIfInBounds 3 ((none : Option Addr).elim Value.none fun f => rawInt f)))).get? b = s.heap.get? b := fun b hb => Heap.get?_update_other _ _ (Ne.symm hb)
  refine wpAny_setField gT dT z3 (k _ ⟨fun b o q l _ => (oth b fun z => hT (by rw [<- z]; exact l)).trans q, fun b o q d => ⟨o.slots, (oth b fun z => by rw [z, gT] at q; exact d ts (by rw [<- Option.some.inj q]; exact dT)).trans q⟩⟩ ?_)
  exact ⟨fun b z => by rw [Heap.size_after_update]; exact hO b z, oe, vs, T, _, _, (oth e (Ne.symm nT)).trans he, hc, hd, h1, h2, hn, hT, nT, Heap.get?_update_self _ gT (Obj.isFreed_of_fields (Obj.data_mapFields dT _)), Obj.data_mapFields dT _, by simp [z3]⟩
theorem Eg {oe : Obj} {vs : Array Value} (hfr : A.frames = some (env :: outer)) (hl : s.heap.FunFrames base (env :: outer)) (hf : env.frame = some L)
    (he : s.heap.get? e = some oe) (hc : oe.cls = cls) (hd : oe.data = .fields vs) (h1 : vs[1]? = some .none) (h2 : vs[2]? = some .none) (hO : ∀ b, O b -> b < s.heap.objs.size) (hn : ¬ O e)
    (k : ∀ h', Kp O (frs (env :: outer)) s.heap h' -> Fly O h' e cls .none -> Q () { s with heap := h' }) : wpAny M A (leaving env (.ref e)) Q E s := by
  unfold leaving
  exact wpAny_bind (Ff hfr hl hf he hc hd h1 h2 hO hn fun h' a b => lH (s := { s with heap := h' }) b fun h'' a' b' => k h'' (a.trans a') b')
theorem Ft (hfr : A.frames = some (env :: outer)) (hl : s.heap.FunFrames base (env :: outer)) (hf : env.frame = some L) (F : Fly O s.heap e cls .none)
    (k : ∀ h', Kp O (frs (env :: outer)) s.heap h' -> Fly O h' e cls .none -> Q () { s with heap := h' }) : wpAny M A (leaving env (.ref e)) Q E s := by
  unfold leaving
  exact wpAny_bind (Ax hfr hl hf F fun h' a b => lH (s := { s with heap := h' }) b fun h'' a' b' => k h'' (a.trans a') b')
end
open PySem PySem.Spec PyProof.Rows
def CX1 (P : Program) (w : World) : CXT := fun outer H s E e s' => ∃ (O : Addr -> Prop) (ea : Addr) (cls : Value) (H' : Hp), e = .ref ea /\ s'.os = s.os /\ AllBare s'.gens /\ Un (frs outer) [] H H' s.heap s'.heap /\ HOk P w H' s'.heap /\
  (∀ b o, s.heap.get? b = some o -> O b) /\ (∀ b, H' b ≠ none -> O b) /\ Fly O s'.heap ea cls .none /\ E cls none H'
theorem Un.fly {fs : List Addr} {L : Addr} {H H' : Hp} {h h1 h2 : Heap} {O : Addr -> Prop} (u : Un fs [] H H' h h1) (k : Kp O (L :: fs) h1 h2) (hO : ∀ b o, h.get? b = some o -> O b) (hL : ∀ o, h.get? L ≠ some o) (hd : ∀ b ∈ fs, ∀ o, h1.get? b = some o -> ∀ vs, o.data ≠ .fields vs) : Un fs [] H H' h h2 where
  keep := fun b o e n f x => k.keep b o (u.keep b o e n f x) (hO b o e) fun z => by
    rcases List.mem_cons.mp z with z | z
    . exact hL o (by rw [<- z]; exact e)
    . exact f z
  slot := fun b o e n f x => by
    obtain ⟨sl, e1⟩ := u.slot b o e n f x
    obtain ⟨sl', e2⟩ := k.slot b _ e1 (hd b f _ e1)
    exact ⟨sl', e2⟩
  free := u.free
  there := fun b o e x => by
    obtain ⟨o1, e1⟩ := u.there b o e x
    by_cases f : b ∈ fs
    . obtain ⟨sl, e2⟩ := k.slot b _ e1 (hd b f _ e1)
      exact ⟨_, e2⟩
    . exact ⟨o1, k.keep b o1 e1 (hO b o e) fun z => by
        rcases List.mem_cons.mp z with z | z
        . exact hL o (by rw [<- z]; exact e)
        . exact f z⟩
  q9 := u.q9
  qA := u.qA
  pN := u.pN
theorem HOk.fly {P : Program} {w : World} {H : Hp} {h h1 : Heap} {O : Addr -> Prop} {fs : List Addr} (x : HOk P w H h) (k : Kp O fs h h1) (hO : ∀ b, H b ≠ none -> O b) (hf : ∀ b ∈ fs, H b = none) : HOk P w H h1 := fun a o e => by
  refine (x a o e).wx (fun b u hb q => ?_) (fun _ q => q) fun _ _ q => q
  have hb' : H b ≠ none := by
    rcases hb with rfl | hb
    . rw [e]; exact fun z => nomatch z
    . rw [hb]; exact fun z => nomatch z
  exact k.keep b u q (hO b hb') fun z => hb' (hf b z)
theorem Iz {P : Program} {w : World} {H : Hp} {h : Heap} {a : Addr} {o : HO} (x : kQ P w H h a o) : ∃ u, h.get? a = some u := by
  cases o with
  | lst xs => obtain ⟨_, _, _, _, e⟩ := x; exact ⟨_, e⟩
  | tup xs => obtain ⟨_, _, _, _, e, _⟩ := x; exact ⟨_, e⟩
  | dK kvs => obtain ⟨_, _, _, _, _, _, _, e, _⟩ := x; exact ⟨_, e⟩
  | dT kvs => obtain ⟨_, _, _, _, _, _, _, e, _⟩ := x; exact ⟨_, e⟩
  | set S n => obtain ⟨_, _, _, _, e, _⟩ := x; exact ⟨_, e⟩
  | ins C dx fs => obtain ⟨_, _, _, e, _⟩ := x; exact ⟨_, e⟩
  | own y => exact x
  | xd fs => obtain ⟨_, ⟨_, _, _, e, _⟩, _⟩ := x; exact ⟨_, e⟩
  | rng lo hi => obtain ⟨_, _, _, e⟩ := x; exact ⟨_, e⟩
  | frz ob u => obtain ⟨e, _⟩ := x; exact ⟨_, e⟩
  | tbl ps => exact ⟨_, (show h.get? a = some _ from x)⟩
  | met f y => exact ⟨_, (show h.get? a = some _ from x)⟩
  | ext φ => obtain ⟨_, e, _⟩ := x; exact e
section
variable {X : Cx} {pins : List (Addr × Obj)} {σ : St} {H : Hp} {s : Shared} {O : Addr -> Prop} {ea : Addr} {cls : Value} {E : XK} {base : Heap}
structure Frm (X : Cx) : Prop where
  stk : X.stack = X.env :: X.outer
  fr : X.env.frame = some X.env.locals
  ex : X.ex = []
theorem uR (hF : Frm X) : frs (X.env :: X.outer) = X.env.locals :: X.fs := by
  unfold Cx.fs frs
  rw [List.filterMap_cons, hF.fr]
theorem CF (I : Inv X pins σ H s) : ∀ b ∈ X.fs, ∀ o, s.heap.get? b = some o -> ∀ vs, o.data ≠ .fields vs := fun b hb o e vs => by
  obtain ⟨_, o', e', d⟩ := I.sr.mem hb
  rw [e] at e'
  rw [Option.some.inj e']
  exact d vs
theorem HW (I : Inv X pins σ H s) : ∀ o, X.s₀.heap.get? X.env.locals ≠ some o := fun o e => absurd (Heap.lt_size e) (Nat.not_lt.mpr I.ok.above)
theorem DU (hF : Frm X) (I : Inv X pins σ H s) : ∀ b ∈ frs (X.env :: X.outer), H b = none := fun b hb => by
  rw [uR hF] at hb
  rcases List.mem_cons.mp hb with e | hb
  . rw [e]; exact I.free
  . exact I.tP b (by rw [hF.stk, uR hF]; exact List.mem_cons_of_mem _ hb)
theorem vA (hF : Frm X) (I : Inv X pins σ H s) : s.heap.FunFrames X.base (X.env :: X.outer) := by
  have := I.stack
  rw [hF.stk] at this
  exact this
theorem JN (hF : Frm X) (I : Inv X pins σ H s) (hO : ∀ b o, X.s₀.heap.get? b = some o -> O b) (ht : ∀ b, H b ≠ none -> O b) {h' : Heap} (k : Kp O (frs (X.env :: X.outer)) s.heap h') (F : Fly O h' ea cls .none) (q : E cls none H) :
    CX1 X.prog X.w X.outer X.H₀ X.s₀ E (.ref ea) { s with heap := h' } := by
  refine ⟨O, ea, cls, H, rfl, I.os, I.bare, ?_, HOk.fly I.hok k ht (DU hF I), hO, ht, F, q⟩
  rw [uR hF] at k
  have u := I.base
  rw [hF.ex] at u
  exact Un.fly u k hO (HW I) (CF I)
theorem leave_new {vs : List Value} {h1 : Heap} {Qe : Value -> Shared -> Prop} (hF : Frm X) (I : Inv X pins σ H s) (hx : Heap.MadeExcOf s.heap h1 ea cls vs) (q : E cls none H) :
    wpAny (model X.prog X.w) X.A (leaving X.env (.ref ea)) (fun _ s'' => CX1 X.prog X.w X.outer X.H₀ X.s₀ E (.ref ea) s'') Qe { s with heap := h1 } := by
  obtain ⟨t, he, _, _⟩ := hx.there
  have I1 : Inv X pins σ H { s with heap := h1 } := I.kept (t' := s.toks) hx.keeps
  have fr : X.A.frames = some (X.env :: X.outer) := by rw [<- hF.stk]; exact I.ok.frames
  have kp : Kp (fun b => ∃ o, s.heap.get? b = some o) (frs (X.env :: X.outer)) s.heap h1 := .of hx.keeps
  refine Eg (O := fun b => ∃ o, s.heap.get? b = some o) (s := { s with heap := h1 }) fr (vA hF I1) hF.fr he rfl rfl rfl rfl (fun b ⟨o, e⟩ => Heap.lt_size (hx.keeps b o e)) (fun ⟨o, e⟩ => by rw [hx.new] at e; cases e) fun h' k F => ?_
  have e := JN (s := s) (X := X) hF I (fun b o e => I.base.there b o e (by rw [hF.ex]; exact fun z => nomatch z)) (fun b hb => by
    cases z : H b with
    | none => exact absurd z hb
    | some o => exact Iz (I.hok b o z)) (kp.trans k) F q
  exact e
end
structure XOk (X : Cx) (E : XK) : Prop where
  new : ∀ (pins : List (Addr × Obj)) (σ : St) (H : Hp) (s : Shared) (ea : Addr) (cls : Value) (vs : List Value) (h1 : Heap), Inv X pins σ H s -> Heap.MadeExcOf s.heap h1 ea cls vs -> E cls none H -> X.xe (.ref ea) { s with heap := h1 }
  pas : Passes (CX1 X.prog X.w) X E
theorem Ad {X : Cx} {pins : List (Addr × Obj)} {σ : St} {H : Hp} {s s' : Shared} {E : XK} {e : Value} {Qe : Value -> Shared -> Prop} (hF : Frm X) (I : Inv X pins σ H s) (h : CX1 X.prog X.w X.stack H s E e s') :
    wpAny (model X.prog X.w) X.A (leaving X.env e) (fun _ s'' => CX1 X.prog X.w X.outer X.H₀ X.s₀ E e s'') Qe s' := by
  obtain ⟨O, ea, cls, H', rfl, os, bare, un, hok, hO, ht, F, q⟩ := h
  have I' : Inv X pins σ H' s' := I.Ai (ch := []) os un hok bare (fun b z => nomatch z)
  have fr : X.A.frames = some (X.env :: X.outer) := by rw [<- hF.stk]; exact I.ok.frames
  refine Ft (s := s') fr (vA hF I') hF.fr F fun h' k F' => ?_
  exact JN (s := s') hF I' (fun b o e => by
    obtain ⟨o', e'⟩ := I.base.there b o e (by rw [hF.ex]; exact fun z => nomatch z)
    exact hO b o' e') ht k F' q
theorem w5 {P : Program} {w : World} {K : PySem.W.Frag} {mg : Str -> Option Value} {base : Heap} {N : List Str} {qual : Str} {scope : Scope} {f : Addr} {cd : Value} {A : Around} {outer : List Env} {s : Shared} {H : Hp} {E : XK} :
    XOk (mn (CX1 P w) P w K mg base N qual scope f cd A outer s H E) E where
  new := fun pins σ H1 s1 ea cls vs h1 I hx q => leave_new (X := mn (CX1 P w) P w K mg base N qual scope f cd A outer s H E) ⟨rfl, rfl, rfl⟩ I hx q
  pas := fun pins σ H1 s1 e s' I h => Ad (X := mn (CX1 P w) P w K mg base N qual scope f cd A outer s H E) ⟨rfl, rfl, rfl⟩ I h
abbrev DTX := Rho -> Mu -> (Mu -> Prop) -> Prop
abbrev XSp := List D -> Mu -> (Mu -> Prop) -> Prop
def FI (K : PySem.W.Frag) (E : XK) (C : Value) (μ : Mu) (H : Hp) (Xk : Mu -> Prop) : Prop := ∀ μ' H', Ext K μ H μ' H' -> cw K μ' H' -> Xk μ' -> E C none H'
theorem FI.on {K : PySem.W.Frag} {E : XK} {C : Value} {μ μ1 : Mu} {H H1 : Hp} {Xk : Mu -> Prop} (w : FI K E C μ H Xk) (e : Ext K μ H μ1 H1) : FI K E C μ1 H1 Xk := fun μ' H' e' => w μ' H' (e.trans e')
def XE (X : Cx) (E : XK) (C : Value) (e : Expr) (tx : DTX) : Prop := ∃ t : TE, PE X e t /\ ∀ σ H ρ μ Xk Q, St0 X.K H ρ μ σ -> tx ρ μ Xk -> FI X.K E C μ H Xk -> t σ H Q
def XS (X : Cx) (E : XK) (C : Value) (st : Stmt) (tx : DTX) : Prop := ∃ t : TS, PS X st t /\ ∀ σ H ρ μ Xk D, St0 X.K H ρ μ σ -> tx ρ μ Xk -> FI X.K E C μ H Xk -> t D σ H
def XSs (X : Cx) (E : XK) (C : Value) (st : List Stmt) (tx : DTX) : Prop := ∃ t : TS, PSs X st t /\ ∀ σ H ρ μ Xk D, St0 X.K H ρ μ σ -> tx ρ μ Xk -> FI X.K E C μ H Xk -> t D σ H
def spX (K : PySem.W.Frag) (C : Value) (dsp : XSp) : Sp := fun vs H _ E => ∃ (ds : List D) (μ : Mu) (Xk : Mu -> Prop), cw K μ H /\ jT K μ H ds vs /\ dsp ds μ Xk /\ FI K E C μ H Xk
section
variable {X : Cx} {E : XK} {C : Value} {e : Expr} {es : List Expr} {t : DTA} {te : DTE} {tx ty : DTX} {p pos : Pos} {x : Str} {k : Nat} {f : Addr} {fd : FuncData} {ps : List Str} {dsp : XSp} {st : Stmt} {sts : List Stmt}
def vY (dsp : XSp) (t : DTA) : DTX := fun ρ μ Xk => t ρ μ fun ds μ1 => dsp ds μ1 Xk
theorem qQ (F : bL X.prog X.w X.K X.mg X.base (CX1 X.prog X.w) k f fd ps (spX X.K C dsp)) (hr : ir k X.A) (hg : Gl X x) (hm : X.mg x = some (.ref f)) (hk : PySem.W.keepIn X.K (.ref f) = true) (hb : Binds X.K fd ps []) (hx : XOk X E)
    (ha : DA X (e :: es) t) (hdb : (x == ("__debug__" : Str)) = false := by decide) (he : starEach (e :: es) X.env = (false, eval e X.env) :: starEach es X.env := by rfl) (hpl : (backTo pos (starEach es X.env)).any (·.1) = false := by rfl) :
    XE X E C (.Call (.Name x p) (e :: es) [] pos) (vY dsp t) := by
  obtain ⟨t1, p1, l1⟩ := ha
  refine ⟨_, G9 F hr hg hm hk hb .nil hx.pas p1 hdb he hpl, fun σ H ρ μ Xk Q S h wsh => ?_⟩
  refine l1 σ H ρ μ _ _ S h fun ds us μ1 H1 e1 S1 rs len h1 => ?_
  exact ⟨ds, μ1, Xk, S1.mu, by rw [List.append_nil]; exact rs, h1, wsh.on e1⟩
theorem HJ (h : XE X E C e tx) (hs : swapsWith e none pos.line X.env = pure false := by rfl) : XS X E C (.Expr e pos) tx := by
  obtain ⟨t1, p1, l1⟩ := h
  exact ⟨_, Ho p1 hs, fun σ H ρ μ Xk D S h wsh => l1 σ H ρ μ Xk _ S h wsh⟩
def EZ : DTX := fun _ _ _ => False
theorem Az : XSs X E C sts EZ := ⟨_, AE, fun _ _ _ _ _ _ _ h _ => h.elim⟩
def xIf (tc : DTT) (tx ty : DTX) : DTX := fun ρ μ Xk => tc ρ μ fun b μ1 => if b = true then tx ρ μ1 Xk else ty ρ μ1 Xk
theorem Nq {c : Expr} {a b : List Stmt} {tc : DTT} (hc : DT X c tc) (ha : XSs X E C a tx) (hb : XSs X E C b ty) : XS X E C (.If c a b pos) (xIf tc tx ty) := by
  obtain ⟨t0, p0, l0⟩ := hc
  obtain ⟨t1, p1, l1⟩ := ha
  obtain ⟨t2, p2, l2⟩ := hb
  refine ⟨_, Nw p0 p1 p2, fun σ H ρ μ Xk D S h wsh => ?_⟩
  refine l0 σ H ρ μ _ _ S h fun c μ1 H1 e1 S1 h1 => ?_
  cases c with
  | true => exact zW (l1 σ H1 ρ μ1 Xk D S1 (by simpa using h1) (wsh.on e1))
  | false => exact BD (l2 σ H1 ρ μ1 Xk D S1 (by simpa using h1) (wsh.on e1))
theorem mR (h : XS X E C st tx) : XSs X E C (st :: sts) tx := by
  obtain ⟨t1, p1, l1⟩ := h
  exact ⟨_, yv p1 AE, fun σ H ρ μ Xk D S h wsh => l1 σ H ρ μ Xk _ S h wsh⟩
def OK (td : DTS) (tx : DTX) : DTX := fun ρ μ Xk => td { nx := fun ρ' μ' => tx ρ' μ' Xk, rt := fun _ _ => False } ρ μ
theorem KZ {td : DTS} (h : DS X st td) (hr : XSs X E C sts tx) : XSs X E C (st :: sts) (OK td tx) := by
  obtain ⟨t1, p1, l1⟩ := h
  obtain ⟨t2, p2, l2⟩ := hr
  refine ⟨_, yv p1 p2, fun σ H ρ μ Xk D S h wsh => ?_⟩
  refine l1 σ H ρ μ _ _ S h (fun σ' ρ' μ' H' e' S' q => ?_) (fun d u μ' H' e' ok r q => q.elim) (fun σ' ρ' μ' H' e' S' q => q.elim) (fun σ' ρ' μ' H' e' S' q => q.elim)
  exact l2 σ' H' ρ' μ' Xk D S' q (wsh.on e')
end
theorem _root_.L2.Fun.okX {P : Program} {w : World} {K : PySem.W.Frag} {mg : Str -> Option Value} {base : Heap} {x qual : Str} {st : Stmt} {f : Addr} {fd : FuncData} {N ps : List Str} {k : Nat} {C : Value} {dsp : XSp} (F : Fun K x qual st f fd) (S : aP N ps (aD st)) (len : ∀ ds μ Xk, dsp ds μ Xk -> ds.length = ps.length)
    (hbody : ∀ (cdv : Value) (A : Around) (outer : List Env) (s : Shared) (H : Hp) (E : XK), ir k (A.deeper (envOfC qual (aD st) s.heap.objs.size f cdv)) ->
      ∃ tx, XSs (mn (CX1 P w) P w K mg base N qual (aD st) f cdv A outer s H E) E C (gw st) tx /\ ∀ ds μ Xk, dsp ds μ Xk -> tx (aS N ds) μ Xk) : bL P w K mg base (CX1 P w) (k + 1) f fd ps (spX K C dsp) := by
  obtain ⟨oc, od, kV, doc, pm, an, cdv, ct, osl, rfl, lk, hcd⟩ := F.ex
  refine JZ lk hcd S (fun vs H Q E h => ?_) fun A outer s H vs Q E hr hsp => ?_
  . obtain ⟨ds, μ, Xk, _, r, h, _⟩ := h
    rw [<- r.length]; exact len ds μ Xk h
  . obtain ⟨tx, ⟨t, p, l⟩, q⟩ := hbody cdv A outer s H E hr
    obtain ⟨ds, μ, Xk, ok, r, h, wsh⟩ := hsp
    exact ⟨t, p, l (start N vs) H (aS N ds) μ Xk _ ⟨ok, vJ r⟩ (q ds μ Xk h) wsh⟩
open PySem PySem.Spec PyProof.Rows
theorem MZ {K : PySem.W.Frag} {h : Heap} {C : Addr} {bmB : List Value} {newId : String} (X : K.In h) (q : PySem.W.excIn K C bmB newId = true) :
    ∃ bm N nm q bs hdct sn sub ab col dd k0 k1 k2 k3 k5 mN, h.get? C = some (excClassObj nm q C N bs bm hdct sn sub ab col dd k0 k1 k2 k3 k5 newId) /\ h.Ns N mN /\ mN "__init__" = none /\ OwnTail h bmB bm := by
  unfold PySem.W.excIn at q
  split at q; rotate_left; · cases q
  rename_i dd cd sl ho; split at q; rotate_left; · cases q
  rename_i C' bm k0 k1 k2 k3 n k5 hm hs
  simp only [Bool.and_eq_true, beq_iff_eq, Bool.not_eq_true'] at q; obtain ⟨⟨⟨⟨⟨rfl, rfl⟩, hdel⟩, ht⟩, hok⟩, hni⟩ := q
  obtain ⟨nm, bs, mro, ns, qn, hd, sn, sub, ab, col, del⟩ := cd; dsimp only at hm hdel hok hni; subst hm hdel
  obtain rfl : sl = #[k0, k1, k2, k3, some (.builtin n), k5] := by obtain ⟨l⟩ := sl; exact congrArg Array.mk hs
  exact ⟨bm, ns, nm, qn, bs, hd, sn, sub, ab, col, dd, k0, k1, k2, k3, k5, _, X _ _ ho, .of_isNs (PySem.W.isNs_of_in X hok), PySem.W.nsMap_none_of_in X hok hni, PySem.W.tail_of_in X ht⟩
section
variable {X : Cx} {E : XK} {x : Str} {C : Addr}
theorem Dz {txt : Str} {j} {np kp cpos pos : Pos} (hx : XOk X E) (hg : Gl X x) (hm : X.mg x = some (.ref C)) (hq : PySem.W.excIn X.K C bmV "ValueError.__new__" = true) (hc : X.calm = true := by rfl) (hdb : (x == ("__debug__" : Str)) = false := by decide)
    (hs : starEach [.Constant (.str txt) j kp] X.env = [(false, eval (.Constant (.str txt) j kp) X.env)] := by rfl) :
    XS X E (.ref C) (.Raise (some (.Call (.Name x np) [.Constant (.str txt) j kp] [] cpos)) none pos) (fun _ μ Xk => Xk μ) := by
  refine ⟨fun D σ H => E (.ref C) none H, fun pins s σ H D I h => ?_, fun σ H ρ μ Xk D S h wsh => wsh μ H .refl S.mu h⟩
  obtain ⟨tl, N, nm, q, bs, hdct, sn, sub, ab, col, dd, k0, k1, k2, k3, k5, mN, hC, hN, hni, T⟩ := MZ I.mod.kin hq
  refine wpAny_Raise_call_subT (C := C) (nm := nm) (q := q) (N := N) (bs := bs) (bm := tl) (hdct := hdct) (sn := sn) (sub := sub) (ab := ab) (col := col) (dd := dd) (k0 := k0) (k1 := k1) (k2 := k2) (k3 := k3) (k5 := k5)
    PySem.F.excBase_ValueError (mN := mN) (T.hasType PySem.F.excBase_ValueError.hasBase) (I.ok.hd hc) (by rw [hs]; rfl) hni (tE I hg hm ⟨rfl, ?_⟩ hdb)
  have pa := gy (X := X) (es := []) (KP (x := txt) (j := j) (pos := kp)) nV (by rw [hs]; rfl) cpos pins s σ H (fun vs H1 => vs.length = 1 /\ H1 = H) I ⟨rfl, rfl⟩
  rw [hs] at pa ⊢
  refine Calls.evalArgs_plain (thn pa fun us s2 ⟨vs, H1, I1, r, l, e1⟩ => ?_)
  subst e1
  exact ⟨rfl, by rw [<- r.length, l]; decide, I1.bk _ _ hC, hN.keeps I1.bk, T.keeps I1.bk, fun h' e hm' => hx.new pins σ H1 s2 e _ _ h' I1 hm' h⟩
end
open PySem PySem.Spec PyProof.Rows
structure wJ (K : PySem.W.Frag) (C : Addr) : Prop where
  ga : PySem.W.findIn K (.ref C) "__getattribute__" = some (some (.builtin "BaseException.__getattribute__"))
  gx : PySem.W.findIn K (.ref C) "__getattr__" = some none
  cl : PySem.W.findIn K (.ref C) "__class__" = some (some (.builtin "object.__class__"))
  ob : PySem.W.mroIn K C (.type "object") = some true
  be : PySem.W.mroIn K C (.type "BaseException") = some true
  ci : (PySem.W.clsIn K C).isSome = true
section
variable {prog : Program} {w : World} {A : Around} {E : Value -> Shared -> Prop} {h : Heap} {g : Array GenState} {d : Drawn} {t : Nat} {os : OsState} {a C : Addr} {o : Obj} {K : PySem.W.Frag}
theorem MA {R : Result -> Shared -> Prop} (X : K.In h) (Z : wJ K C) (hx : h.get? a = some o) (hc : o.cls = .ref C) (hq : R (.ok (.ret (.ref C))) ⟨h, g, d, t, os⟩) :
    codeAny (model prog w) A (.call (.builtin "getset_descriptor.__get__") ⟨[.builtin "object.__class__", .ref a, .ref C], []⟩) R ⟨h, g, d, t, os⟩ := by
  have hT5 : (⟨h, g, d, t, os⟩ : Shared).TypeIs (.builtin "object.__class__") "getset_descriptor" := F.typeOf_object_class
  have sub : ∀ {A' : Around} {Q' : Bool -> Shared -> Prop} {E' : Value -> Shared -> Prop} {g' d' t' os'}, Q' true ⟨h, g', d', t', os'⟩ -> wpAny (model prog w) A' (isSubtype (.ref C) (.type (".".intercalate ("object.__class__".cutAt '.').dropLast))) Q' E' ⟨h, g', d', t', os'⟩ := fun q => by
    rw [F.owner_object_class]; exact (PySem.W.looks_mroIn X Z.ob).here q
  refine codeAny_call_builtin F.slot_gs_get.plain F.entry_gs_get (F.slot_gs_get.check _ _ _ _ _ _ _ _ hT5 (F.args_gs_get _ _ _) ?_)
  repeat (any_goals (first | assumption | (with_reducible refine wpAny_loadPart_at hx ?_; rw [hc]) | with_reducible refine sub ?_ | wp_step))
  refine ⟨Code.quiet_builtin _ (by decide +kernel), codeAny_builtin F.entry_object_class ?_⟩
  repeat (any_goals (first | assumption | (with_reducible refine wpAny_loadPart_at hx ?_; rw [hc]) | wp_step))
theorem IH {tk : Tok} {Q : Fin -> Shared -> Prop} (X : K.In h) (Z : wJ K C) (hx : h.get? a = some o) (hc : o.cls = .ref C) (hq : Q (.done (.ret (.ref C))) ⟨h, g, d, t, os⟩) :
    wpAny (model prog w) A (Builtin.«object.__getattribute__» ⟨[.ref a, .str "__class__" tk], []⟩) Q E ⟨h, g, d, t, os⟩ := by
  have hT5 : (⟨h, g, d, t, os⟩ : Shared).TypeIs (.builtin "object.__class__") "getset_descriptor" := F.typeOf_object_class
  have f5 := F.typeOf_object_class; have f6 := F.slot_gs_get.lookup; have f7 := F.slot_gs_set.lookup
  have lk : ∀ {A' : Around} {Q' : Option Value -> Shared -> Prop} {E' : Value -> Shared -> Prop} {g' d' t' os'}, Q' (some (.builtin "object.__class__")) ⟨h, g', d', t', os'⟩ -> wpAny (model prog w) A' (typeLookup (.ref C) "__class__") Q' E' ⟨h, g', d', t', os'⟩ := fun q => (PySem.W.looks_findIn X Z.cl).here q
  repeat (any_goals (first | assumption | (with_reducible refine wpAny_loadPart_at hx ?_; rw [hc]) | with_reducible refine lk ?_ | wp_step))
  refine MA X Z hx hc ?_
  repeat (any_goals (first | assumption | wp_step))
theorem II {nv : Value} {Q : Unit -> Shared -> Prop} (X : K.In h) (Z : wJ K C) (hx : h.get? a = some o) (hc : o.cls = .ref C) (hq : Q () ⟨h, g, d, t, os⟩) : wpAny (model prog w) A (checkBuiltinCall "BaseException.__getattribute__" ⟨[.ref a, nv], []⟩) Q E ⟨h, g, d, t, os⟩ := by
  have hk : builtinKind "BaseException.__getattribute__" = some .slot := by decide +kernel
  have hsp : splitId "BaseException.__getattribute__" = some ("BaseException", "__getattribute__") := by decide +kernel
  have ha := F.args_bexc_ga (.ref a) nv
  have sub : ∀ {A' : Around} {Q' : Bool -> Shared -> Prop} {E' : Value -> Shared -> Prop} {g' d' t' os'}, Q' true ⟨h, g', d', t', os'⟩ -> wpAny (model prog w) A' (isSubtype (.ref C) (.type "BaseException")) Q' E' ⟨h, g', d', t', os'⟩ := fun q => (PySem.W.looks_mroIn X Z.be).here q
  simp only [checkBuiltinCall, hk, hsp]
  refine wpAny_bind ?_
  unfold isInstance
  repeat (first | (with_reducible refine wpAny_loadPart_at hx ?_; rw [hc]) | with_reducible refine sub ?_ | wp_step)
  exact hq
theorem JQ {tk : Tok} {R : Result -> Shared -> Prop} (X : K.In h) (Z : wJ K C) (hx : h.get? a = some o) (hc : o.cls = .ref C) (hq : R (.ok (.ret (.ref C))) ⟨h, g, d, t, os⟩) :
    codeAny (model prog w) A (.call (.builtin "BaseException.__getattribute__") ⟨[.ref a, .str "__class__" tk], []⟩) R ⟨h, g, d, t, os⟩ :=
  codeAny_call_builtin F.attr_ValueError.ga.plain F.entry_bexc_ga (II X Z hx hc (IH X Z hx hc hq))
theorem Ou {tk : Tok} {Q : Value -> Shared -> Prop} (X : K.In h) (Z : wJ K C) (hx : h.get? a = some o) (hc : o.cls = .ref C) (hq : Q (.ref C) ⟨h, g, d, t, os⟩) : wpAny (model prog w) A (getAttrBy (.ref a) (.str "__class__" tk) false) Q E ⟨h, g, d, t, os⟩ := by
  have f3 := F.attr_ValueError.ga.bind (.ref a)
  have hx2 : (Value.builtin "BaseException.__getattribute__" == Value.builtin "object.__getattribute__") = false := by decide +kernel
  have hx1 : (onTheHeap (Value.ref C) && Value.builtin "BaseException.__getattribute__" == Value.builtin "object.__getattribute__") = false := by rw [hx2]; rfl
  have lk : ∀ {A' : Around} {Q' : Option Value -> Shared -> Prop} {E' : Value -> Shared -> Prop} {g' d' t' os'}, Q' (some (.builtin "BaseException.__getattribute__")) ⟨h, g', d', t', os'⟩ -> wpAny (model prog w) A' (typeLookup (.ref C) "__getattribute__") Q' E' ⟨h, g', d', t', os'⟩ := fun q => (PySem.W.looks_findIn X Z.ga).here q
  have lx : ∀ {A' : Around} {Q' : Option Value -> Shared -> Prop} {E' : Value -> Shared -> Prop} {g' d' t' os'}, Q' none ⟨h, g', d', t', os'⟩ -> wpAny (model prog w) A' (typeLookup (.ref C) "__getattr__") Q' E' ⟨h, g', d', t', os'⟩ := fun q => (PySem.W.looks_findIn X Z.gx).here q
  repeat (any_goals (first | assumption | (with_reducible refine wpAny_loadPart_at hx ?_; rw [hc]) | with_reducible refine lk ?_ | with_reducible refine lx ?_ | wp_step))
  refine JQ X Z hx hc ?_
  repeat (any_goals (first | assumption | wp_step))
theorem Lb {Q : Option Value -> Shared -> Prop} (X : K.In h) (Z : wJ K C) (hx : h.get? a = some o) (hc : o.cls = .ref C) (hq : Q (some (.ref C)) ⟨h, g, d, t + 1, os⟩) : wpAny (model prog w) A (getAttr? (.ref a) "__class__") Q E ⟨h, g, d, t, os⟩ := by
  unfold getAttr? getAttrBy?
  repeat (any_goals (first | assumption | with_reducible apply Ou X Z hx hc | wp_step))
theorem LL (Z : wJ K C) : PySem.W.KitX K (.ref a) (.ref C) (fun h => ∃ o, h.get? a = some o /\ o.cls = .ref C) where
  ty := fun M h X ⟨o, e, c⟩ => by
    intro A' Q' E' s' k q
    unfold typeOf
    refine wpAny_bind (wpAny_loadPart (k _ _ e) ?_)
    rw [c]
    exact wpAny_pure q
  it := fun M h X _ => by
    have z := Z.ci
    unfold PySem.W.clsIn at z
    split at z
    . rename_i ho
      intro A' Q' E' s' k q
      unfold isType loadHead
      exact wpAny_bind (wpAny_loadPart (k _ _ (X _ _ ho)) (wpAny_pure q))
    . cases z
  ne := fun h tp dd its n sl X htp => by
    refine Bool.eq_false_iff.mpr fun q => ?_
    obtain rfl : C = tp := Value.ref.inj (beq_iff_eq.mp q)
    have z := Z.ci
    unfold PySem.W.clsIn at z
    split at z
    . rename_i ho; have z' := (X _ _ ho).symm.trans htp; cases z'
    . cases z
  ca := fun {_ _ _ _ _ s} X ⟨o, e, c⟩ k => by obtain ⟨h, g, d, t, os⟩ := s; exact Lb X Z e c k
end
open PySem PySem.Spec PyProof.Rows
theorem Nb {K : PySem.W.Frag} {h : Heap} {c P : Addr} {o : Obj} {q : Str} (X : K.In h) (l : K.lookup c = some o) (e : cb o = some (P, q)) (ne : c ≠ P) : PySem.W.CodeHd h c P := by
  have ho := X _ _ l
  unfold cb at e
  split at e
  . rename_i cn vs hcls hd
    split at e
    . rename_i hcn
      subst hcn
      split at e
      . rename_i q' t' f1 f2 f3 f4 f5 f6 P' f7 f8 e1 e7 e9 e10 e11 e18
        split at e
        . cases e
          refine ⟨o, vs, f7, f8, f2, f3, f4, f5, f6, ho, hcls, hd, e11, ?_, ?_, ?_, ?_, ?_, ne⟩
          . rw [Array.getD_eq_getD_getElem?, e11]; rfl
          . rw [Array.getD_eq_getD_getElem?, e18]; rfl
          . rw [Array.getD_eq_getD_getElem?, e7]; rfl
          . rw [Array.getD_eq_getD_getElem?, e9]; rfl
          . rw [Array.getD_eq_getD_getElem?, e10]; rfl
        . cases e
      . cases e
    . cases e
  . cases e
def OH (K : PySem.W.Frag) (mg : Str -> Option Value) : Prop := ∃ bm ob, mg "__builtins__" = some (.ref bm) /\ bm ≠ builtinsNs /\ K.lookup bm = some ob /\ ob.cls = .type "module" /\ ob.dict = some builtinsNs /\ ob.data = .plain
theorem Ja {pos : Pos} {w : Value} {l3 : List Value} : ∀ {l : List Value}, TriplesOk l -> codeAmong pos l = some w -> codeAmong pos (l ++ l3) = some w := by
  intro l
  fun_induction TriplesOk l with
  | case1 => intro _ e; simp [codeAmong] at e
  | case2 a t b u x rest ih =>
    intro h e
    simp only [List.cons_append, codeAmong] at e ⊢
    split at e
    . rename_i hc; rw [if_pos hc]; exact e
    . rename_i hc; rw [if_neg hc]; exact ih h e
  | case3 l h1 h2 => intro h; exact h.elim
theorem Ju {pos lpos : Pos} {cv : Value} {c : Value} : ∀ {l : List Value}, TriplesOk l -> codeAmong pos l = none -> codeAmong pos (l ++ [rawInt lpos.line, rawInt lpos.col, c]) = some cv -> cv = c := by
  intro l
  fun_induction TriplesOk l with
  | case1 =>
    intro _ _ e
    simp only [List.nil_append, codeAmong, rawInt] at e
    split at e
    . exact (Option.some.inj e).symm
    . cases e
  | case2 a t b u x rest ih =>
    intro h n e
    simp only [List.cons_append, codeAmong] at n e
    split at n
    . cases n
    . rename_i hc; rw [if_neg hc] at e; exact ih h n e
  | case3 l h1 h2 => intro h; exact h.elim
section
variable {X : Cx} {pins : List (Addr × Obj)} {σ : St} {H : Hp} {s : Shared}
theorem Jn {P c' : Addr} {ps : Array Value} {l3 : List Value} {h' : Heap} {tk : Nat} {φ : Heap -> Prop} (I : Inv X pins σ H s) (hP : H P = some (.tbl ps)) (hx : Heap.ExtBut P s.heap h') (ht : h'.get? P = some (PySem.W.tabObj (ps ++ l3.toArray))) (hc : s.heap.objs.size ≤ c') (hφ : φ h') (hc' : ∃ o, h'.get? c' = some o) (hst : ∀ h1 h2 : Heap, φ h1 -> (∀ o, h1.get? c' = some o -> h2.get? c' = some o) -> φ h2) :
    Inv X pins σ (upd (upd H P (.tbl (ps ++ l3.toArray))) c' (.ext φ)) { s with heap := h', toks := tk } := by
  have fc : H c' = none := I.hok.fresh hc
  have nPc : P ≠ c' := aZ hP fc
  have low : ∀ b o, s.heap.get? b = some o -> b ≠ c' := fun b o e z => absurd (Heap.lt_size e) (by rw [z]; exact Nat.not_lt.mpr hc)
  have old : ∀ b, b ≠ P -> b ≠ c' -> upd (upd H P (.tbl (ps ++ l3.toArray))) c' (.ext φ) b = H b := fun b h1 h2 => by rw [bF h2, bF h1]
  have atP : upd (upd H P (.tbl (ps ++ l3.toArray))) c' (.ext φ) P = some (.tbl (ps ++ l3.toArray)) := by rw [bF nPc]; exact cL
  refine I.un (t' := tk) ⟨fun b o e n _ _ => hx b o (fun z => by rw [z, hP] at n; cases n) e, fun b o e n _ _ => ⟨o.slots, hx b o (fun z => by rw [z, hP] at n; cases n) e⟩, fun b o e n _ => ?_, fun b o e _ => ?_, fun b xs e => ?_, fun b o u e => ?_, fun b qs e => ?_⟩ fun b o e => ?_
  . rw [old b (fun z => by rw [z, hP] at n; cases n) (low b o e)]; exact n
  . by_cases z : b = P
    . exact ⟨_, by rw [z]; exact ht⟩
    . exact ⟨o, hx b o z e⟩
  . rw [old b (fun z => by rw [z, hP] at e; cases e) (aZ e fc)]; exact e
  . rw [old b (fun z => by rw [z, hP] at e; cases e) (aZ e fc)]; exact e
  . by_cases z : b = P
    . rw [z] at e; rw [hP] at e; cases e
      exact ⟨l3.toArray, by rw [z]; exact atP⟩
    . exact ⟨#[], by rw [old b z (aZ e fc)]; simpa using e⟩
  . by_cases zc : b = c'
    . subst zc
      rw [cL] at e; cases e
      exact ⟨hφ, hc', hst⟩
    . by_cases z : b = P
      . subst z
        rw [atP] at e; cases e
        exact ht
      . rw [old b z zc] at e
        refine (I.hok b o e).wx (fun d u hd q => hx d u ?_ q) (fun d q => ?_) fun d xs q => ?_
        . rcases hd with rfl | hd
          . exact z
          . exact fun y => by rw [y, hP] at hd; cases hd
        . rw [old d (fun y => by rw [y, hP] at q; cases q) (aZ q fc)]; exact q
        . rw [old d (fun y => by rw [y, hP] at q; cases q) (aZ q fc)]; exact q
theorem KD {K : PySem.W.Frag} {P c' : Addr} {ps : Array Value} {q : Str} {lpos : Pos} (t : zY K H) (hP : H P = some (.tbl ps)) (htr : TriplesOk ps.toList) (hcs : ∀ pos cv, codeAmong pos ps.toList = some cv -> ∃ c, cv = .ref c /\ H c = some (.ext (codeAt c (bX q)))) (hf : codeAmong lpos ps.toList = none) (fc : H c' = none)
    (hu : ∀ c2 o2 q2, K.lookup c2 = some o2 -> cb o2 = some (P, q2) -> q2 = q) :
    zY K (upd (upd H P (.tbl (ps ++ [rawInt lpos.line, rawInt lpos.col, .ref c'].toArray))) c' (.ext (codeAt c' (bX q)))) := fun c2 o2 P2 q2 l2 e2 => by
  have nPc : P ≠ c' := aZ hP fc
  have old : ∀ b, b ≠ P -> b ≠ c' -> upd (upd H P (.tbl (ps ++ [rawInt lpos.line, rawInt lpos.col, .ref c'].toArray))) c' (.ext (codeAt c' (bX q))) b = H b := fun b h1 h2 => by rw [bF h2, bF h1]
  have cold : ∀ c qq, H c = some (.ext (codeAt c qq)) -> upd (upd H P (.tbl (ps ++ [rawInt lpos.line, rawInt lpos.col, .ref c'].toArray))) c' (.ext (codeAt c' (bX q))) c = some (.ext (codeAt c qq)) := fun c qq h => by rw [old c (fun z => by rw [z, hP] at h; cases h) (aZ h fc)]; exact h
  by_cases z : P2 = P
  . subst z
    obtain rfl := hu c2 o2 q2 l2 e2
    refine ⟨_, by rw [bF nPc]; exact cL, by rw [Array.toList_append]; exact TriplesOk_snoc _ _ _ _ htr, fun pos cv e => ?_⟩
    rw [Array.toList_append] at e
    cases hp : codeAmong pos ps.toList with
    | some w =>
      obtain ⟨c, hw, hc⟩ := hcs pos w hp
      have : codeAmong pos (ps.toList ++ [rawInt lpos.line, rawInt lpos.col, .ref c']) = some w := Ja htr hp
      have e' : some w = some cv := this.symm.trans e
      cases e'
      exact ⟨c, hw, cold c _ hc⟩
    | none =>
      have := Ju htr hp (show codeAmong pos (ps.toList ++ [rawInt lpos.line, rawInt lpos.col, .ref c']) = some cv from e)
      exact ⟨c', this, cL⟩
  . obtain ⟨qs, a1, a2, a3⟩ := t c2 o2 P2 q2 l2 e2
    exact ⟨qs, by rw [old P2 z (aZ a1 fc)]; exact a1, a2, fun pos cv e => let ⟨c, w1, w2⟩ := a3 pos cv e; ⟨c, w1, cold c _ w2⟩⟩
end
open PySem PySem.Spec PyProof.Rows
def vg (lsc : Scope) (cl : List (Str × Addr)) (q : Str) (fa c1 L : Addr) : Env := { scope := lsc, locals := L, globals := mainGlobals, cells := cl, qual := q ++ ".<locals>.", func := some fa, code := .ref c1, frame := some L, builtins := builtinsNs }
def rJ (P : Program) (w : World) (K : PySem.W.Frag) (mg : Str -> Option Value) (base : Heap) (N : List Str) (lsc : Scope) (cl : List (Str × Addr)) (q : Str) (fa c1 : Addr) (A : Around) (outer : List Env) (s : Shared) (H : Hp) (E : XK) : Cx where
  prog := P
  w := w
  K := K
  mg := mg
  base := base
  A := A.deeper (vg lsc cl q fa c1 s.heap.objs.size)
  N := N
  s₀ := s
  H₀ := H
  env := vg lsc cl q fa c1 s.heap.objs.size
  outer := outer
  stack := vg lsc cl q fa c1 s.heap.objs.size :: outer
  ex := []
  calm := true
  fn := fun _ => false
  pn := []
  xe := fun e s' => wpAny (model P w) (A.deeper (vg lsc cl q fa c1 s.heap.objs.size)) (leaving (vg lsc cl q fa c1 s.heap.objs.size) e) (fun _ s'' => CX1 P w outer H s E e s'') (fun e' s'' => CX1 P w outer H s E e' s'') s'
section
variable {P : Program} {w : World} {K : PySem.W.Frag} {mg : Str -> Option Value} {base : Heap} {N : List Str} {lsc : Scope} {cl : List (Str × Addr)} {q : Str} {fa c1 : Addr} {A : Around} {outer : List Env} {s : Shared} {H : Hp} {E : XK} {σ : St} {k : Nat} {params : Arguments} {body : Expr} {pm ctv : Value} {t : TE}
theorem wV : XOk (rJ P w K mg base N lsc cl q fa c1 A outer s H E) E where
  new := fun pins σ H1 s1 ea cls vs h1 I hx qq => leave_new (X := rJ P w K mg base N lsc cl q fa c1 A outer s H E) ⟨rfl, rfl, rfl⟩ I hx qq
  pas := fun pins σ H1 s1 e s' I h => Ad (X := rJ P w K mg base N lsc cl q fa c1 A outer s H E) ⟨rfl, rfl, rfl⟩ I h
structure Clo (lsc : Scope) (cl : List (Str × Addr)) (N : List Str) (σ : St) (h : Heap) (H : Hp) : Prop where
  cell : ∀ x c, cl.lookup x = some c -> ∃ v, h.IsCell c v
  free : ∀ x c, cl.lookup x = some c -> H c = none
  inj : ∀ x y c, cl.lookup x = some c -> cl.lookup y = some c -> x = y
  has : ∀ x, lsc.names.lookup x = some .cell \/ lsc.names.lookup x = some .free -> ∃ a, cl.lookup x = some a
  vals : ∀ (i : Nat) (x : Str) (v : V), N[i]? = some x -> σ[i]? = some (some v) -> Vis lsc x -> ∃ u c, RelV v u /\ lsc.names.lookup x = some .free /\ cl.lookup x = some c /\ h.IsCell c (some u)
  len : σ.length = N.length
theorem Lv {Q : VK} (hk : lsc.kind = .function) (hco : lsc.isCoroutine = false) (hgen : lsc.isGenerator = false) (hcell : ∀ y ∈ lsc.names, y.2 ≠ .cell) (hr : ir (k + 1) A) (e0 : C9 P w K mg base A outer s H)
    (ho : s.heap.get? fa = some { cls := .type "function", data := .func (PySem.W.kla_fn "<lambda>" q params body lsc cl pm (.ref c1) ctv) }) (hcd : H c1 = some (.ext (codeAt c1 q))) (hbind : bindArgs (PySem.W.kla_fn "<lambda>" q params body lsc cl pm (.ref c1) ctv) ⟨[], []⟩ = pure [])
    (C : Clo lsc cl N σ s.heap H) (pe : PE (rJ P w K mg base N lsc cl q fa c1 A outer s H E) body t) (ht : t σ H Q) :
    codeAny (model P w) A (.call (.ref fa) ⟨[], []⟩) (CR (CX1 P w) outer P w H s Q E) s := by
  have crec : s.heap.CodeRec (.ref c1) q := by
    obtain ⟨⟨o, vs, t, g, d, v⟩, _, _⟩ := e0.hok c1 _ hcd
    exact ⟨c1, o, vs, t, rfl, g, d, v⟩
  refine PySem.W.kla_callFunE hr.depth ho rfl hco hgen rfl crec ?_
  rw [hbind]
  refine wpAny_pure (wpAny_newFunctionEnv hcell (fun y hy => nomatch hy) (fun h₁ hns hsb => ?_) hk)
  have hk₁ : ∀ b o, s.heap.get? b = some o -> h₁.get? b = some o := fun b o e => hsb.extBut b o (Nat.ne_of_lt (Heap.lt_size e)) (Heap.get?_push_of_some _ e)
  have lim : h₁.NoLimit := e0.mod.nolimit.keeps fun b o e => hk₁ b o (e0.bs b o e).1
  refine ⟨lim, ?_⟩
  have noA : ∀ b : Addr, b ∉ (rJ P w K mg base N lsc cl q fa c1 A outer s H E).ex := fun b z => nomatch z
  have I : Inv (rJ P w K mg base N lsc cl q fa c1 A outer s H E) [] σ H { s with heap := h₁, toks := s.toks + ([] : List (Str × Value)).length } := by
    refine ⟨⟨e0.mod, hk, rfl, rfl, Nat.le_refl _, C.inj, C.has, fun _ _ z => (nomatch z), fun _ => hr.hd, .inl hr.hd, Around.frames_deeper e0.frames, .inr ⟨rfl, rfl⟩, fun b z => absurd z (noA b), e0.bs, e0.bsz, fun b _ _ => noA b, fun b z => absurd z (noA b), e0.sr, e0.frf⟩,
      rfl, e0.bare, Un.kept hk₁, ⟨_, hns, fun i x v h1 h2 h3 => ?_⟩, fun x c h => ?_, e0.hok.fresh (Nat.le_refl _), C.free, fun p hp => (nomatch hp), e0.hok.kept hk₁, C.len⟩
    . obtain ⟨u, c, r, f1, f2, o, f3, f4⟩ := C.vals i x v h1 h2 h3
      exact ⟨u, r, .inr ⟨.inr f1, c, f2, o, hk₁ _ _ f3, f4⟩⟩
    . obtain ⟨v, o, f3, f4⟩ := C.cell x c h
      exact ⟨v, o, hk₁ _ _ f3, f4⟩
  show codeAny _ _ (.expr body (vg lsc cl q fa c1 s.heap.objs.size)) _ _
  refine PySem.W.kla_codeExpr (wpAny_mono (pe [] _ σ H Q I ht) (fun v s' hv => ?_) fun e s' hs => hs)
  obtain ⟨x, H', J, r, qq⟩ := hv
  exact ⟨x, H', J.os, J.bare, J.base, J.hok, r, qq⟩
end
open PySem PySem.Spec PyProof.Rows
def cxH (X : Cx) (ea : Addr) (oe : Obj) : Cx := { X with A := X.A.mark (some (.ref ea)), calm := false, pn := (ea, oe) :: X.pn, xe := fun _ _ => False }
section
variable {X : Cx} {pins : List (Addr × Obj)} {σ : St} {H : Hp} {s : Shared} {O : Addr -> Prop} {ea : Addr} {oe : Obj} {vs : Array Value}
theorem Cy {h' : Heap} (hF : Frm X) (I : Inv X pins σ H s) (k : Kp O (frs (X.env :: X.outer)) s.heap h') (hO : ∀ b o, X.s₀.heap.get? b = some o -> O b) (ht : ∀ b, H b ≠ none -> O b) (hp : ∀ p ∈ X.pn ++ pins, O p.1) : Inv X pins σ H { s with heap := h' } := by
  have cellK : ∀ c v, s.heap.IsCell c v -> h'.IsCell c v := fun c v ⟨o, e, d⟩ => by
    obtain ⟨sl, e'⟩ := k.slot c o e fun vs z => by rw [d] at z; cases z
    exact ⟨_, e', d⟩
  refine ⟨I.ok, I.os, I.bare, ?_, ?_, fun x c e => let ⟨v, q⟩ := I.cell x c e; ⟨v, cellK c v q⟩, I.free, I.jZ, fun p hp' => ?_, HOk.fly I.hok k ht (DU hF I), I.len⟩
  . have k' := k
    rw [uR hF] at k'
    have u := I.base
    rw [hF.ex] at u ⊢
    exact Un.fly u k' hO (HW I) (CF I)
  . obtain ⟨m, ⟨o, es, ep, e, d, r⟩, hl⟩ := I.loc
    obtain ⟨sl, e'⟩ := k.slot _ o e fun vs z => by rw [d] at z; cases z
    refine ⟨m, ⟨_, es, ep, e', d, r⟩, fun i x v h1 h2 h3 => ?_⟩
    obtain ⟨u, ru, lk⟩ := hl i x v h1 h2 h3
    refine ⟨u, ru, ?_⟩
    rcases lk with z | ⟨z, c, z1, z2⟩
    . exact .inl z
    . exact .inr ⟨z, c, z1, cellK _ _ z2⟩
  . obtain ⟨a1, a2, a3, a4, a5⟩ := I.pin p hp'
    exact ⟨k.keep _ _ a1 (hp p hp') fun z => by
      rw [uR hF] at z
      rcases List.mem_cons.mp z with z | z
      . exact a3 z
      . exact a4 z, a2, a3, a4, a5⟩
theorem QX (I : Inv X pins σ H s) (he : s.heap.get? ea = some oe) (hH : H ea = none) (hL : ea ≠ X.env.locals) (hfs : ea ∉ X.fs) (hd : oe.data = .fields vs) (h2 : vs[2]? = some .none) : Inv (cxH X ea oe) pins σ H s :=
  ⟨⟨I.ok.mod, I.ok.kind, I.ok.glob, I.ok.blt, I.ok.above, I.ok.inj, I.ok.has, I.ok.cab, fun z => (nomatch z), .inr ⟨ea, oe, vs, rfl, List.mem_cons_self, hd, h2⟩, I.ok.frames, I.ok.stk, I.ok.exf, I.ok.bs, I.ok.bsz, I.ok.CN, I.ok.Lz, I.ok.sr, I.ok.frf⟩,
    I.os, I.bare, I.base, I.loc, I.cell, I.free, I.jZ, fun p hp => by
      rcases List.mem_cons.mp (show p ∈ (ea, oe) :: (X.pn ++ pins) from hp) with z | z
      . rw [z]; exact ⟨he, hH, hL, hfs, fun v y => by rw [hd] at y; cases y⟩
      . exact I.pin p z, I.hok, I.len⟩
theorem LM {h' : Heap} {m' : Str -> Option Value} {tk : Nat} (ok : X.Ok) (I : Inv (cxH X ea oe) pins σ H s) (hn : h'.Ns X.env.locals m') (hs : Heap.SameBut X.env.locals s.heap h') (hx : X.ex = []) : Inv X pins (List.replicate X.N.length none) H { s with heap := h', toks := tk } := by
  have kp : ∀ b o, b ≠ X.env.locals -> s.heap.get? b = some o -> h'.get? b = some o := fun b o hb e => (hs.2 b hb).trans e
  have low : ∀ b o, X.s₀.heap.get? b = some o -> b ≠ X.env.locals := fun b o e => Nat.ne_of_lt (Nat.lt_of_lt_of_le (Heap.lt_size e) ok.above)
  have cne : ∀ x c, X.env.cells.lookup x = some c -> c ≠ X.env.locals := I.cne
  have u : Un X.fs X.ex X.H₀ H X.s₀.heap s.heap := I.base
  have hneL : ∀ b ∈ X.fs, b ≠ X.env.locals := fun b hb z => by
    obtain ⟨_, o, e, _⟩ := ok.sr.mem hb
    exact low b o e z
  refine ⟨ok, I.os, I.bare, ⟨fun b o e n f x => kp b o (low b o e) (u.keep b o e n f x), fun b o e n f x => ?_, u.free, fun b o e x => ?_, u.q9, u.qA, u.pN⟩, ⟨m', hn, fun i x v h1 h2 h3 => ?_⟩, fun x c e => ?_, I.free, I.jZ, fun p hp => ?_, fun b o e => ?_, by simp⟩
  . obtain ⟨sl, e1⟩ := u.slot b o e n f x
    exact ⟨sl, kp b _ (low b o e) e1⟩
  . obtain ⟨o1, e1⟩ := u.there b o e x
    exact ⟨o1, kp b o1 (low b o e) e1⟩
  . rw [List.getElem?_replicate] at h2
    split at h2 <;> cases h2
  . obtain ⟨v, o, e1, d⟩ := I.cell x c e
    exact ⟨v, o, kp c o (cne x c e) e1, d⟩
  . obtain ⟨a1, a2, a3, a4, a5⟩ := I.pin p (List.mem_cons_of_mem _ hp)
    exact ⟨kp _ _ a3 a1, a2, a3, a4, a5⟩
  . refine (I.hok b o e).wx (fun d v hd q => kp d v ?_ q) (fun _ q => q) fun _ _ q => q
    have fr : H X.env.locals = none := I.free
    rintro rfl
    rcases hd with z | z
    . rw [<- z, fr] at e; cases e
    . rw [fr] at z; cases z
def R4 (X : Cx) (di ni : Nat) (C : Value) (tS : Addr -> Obj -> TS) : TS := fun D σ H => ∃ (fa : Addr) (Good : Hp -> Prop), σ[di]? = some (some (.ref fa)) /\
  (∀ s1, Inv X [] σ H s1 -> PySem.W.FnAt fa s1.heap /\ codeAny (model X.prog X.w) X.A (.call (.ref fa) ⟨[], []⟩) (CR (CX1 X.prog X.w) X.stack X.prog X.w H s1 (fun _ _ => False) (fun cls _ H' => cls = C /\ Good H')) s1) /\
  ∀ H' ea oe, Good H' -> oe.cls = C -> H' ea = none -> tS ea oe { nx := fun _ _ => False, rt := D.rt } (σ.set ni (some (.ref ea))) H'
theorem Og {dn x n : Str} {dp cp ep np hp pos : Pos} {di ni : Nat} {b₀ : Stmt} {suite : List Stmt} {C FE : Addr} {tS : Addr -> Obj -> TS} (hF : Frm X) (hpn : X.pn = []) (hNd : X.N.Nodup) (hd : X.N[di]? = some dn) (hv : Vis X.env.scope dn) (hn : X.N[ni]? = some n) (hl : X.env.kindOf n = some .local) (hg : Gl X x) (hm : X.mg x = some (.ref FE))
    (hex : PySem.W.exmOne X.K (.ref C) (.ref FE) = some true) (hs : ∀ ea oe, PSs (cxH X ea oe) (b₀ :: suite) (tS ea oe)) (hdb : (dn == ("__debug__" : Str)) = false := by decide) (hdc : (dn == ("__classdict__" : Str)) = false := by decide) (hxb : (x == ("__debug__" : Str)) = false := by decide)
    (hsw : swapsWith (.Call (.Name dn dp) [] [] cp) none ep.line X.env = pure false := by rfl) (pins0 : List (Addr × Obj)) (s : Shared) (σ : St) (H : Hp) (D : Ends) (hp0 : pins0 = []) (I0 : Inv X pins0 σ H s) (h : R4 X di ni (.ref C) tS D σ H) :
    wpAny (model X.prog X.w) X.A (exec (.Try [.Expr (.Call (.Name dn dp) [] [] cp) ep] [.ExceptHandler (some (.Name x np)) (some n) (b₀ :: suite) hp] [] [] pos) X.env) (SP X pins0 D) X.xe s := by
  subst hp0
  obtain ⟨fa, Good, hσ, deed, good⟩ := h
  refine wpAny_Try_except (wpAny_execs_cons (wpAny_Expr_any (wpAny_Call_Name_kw (wpAny_mono (Fl (X := X.nox) hd hv hdb hdc [] s σ H (fun v H1 => v = .ref fa /\ H1 = H) (I0.yX _) ⟨.ref fa, hσ, rfl, rfl⟩) (fun v s1 hv1 => ?_) fun _ _ z => z.elim)) I0.quiet hsw))
  obtain ⟨y, H1, I1, r, e1, e2⟩ := hv1
  subst e1 e2
  cases r
  have I1 := I1.nQ
  obtain ⟨fn, code⟩ := deed s1 I1
  refine PySem.W.callWith_F0 fn (wpAny_call (codeAny_mono code fun r s' hr => ?_))
  cases r with
  | ok fl =>
    cases fl with
    | ret u => obtain ⟨_, _, _, _, _, _, _, z⟩ := hr; exact z.elim
    | next => exact hr.elim
    | brk => exact hr.elim
    | cont => exact hr.elim
  | error e =>
    obtain ⟨O, ea, cls, H', rfl, os, bare, un, hok, hO, ht, F, rfl, gd⟩ := hr
    have I' : Inv X [] σ H' s' := I1.Ai (ch := []) os un hok bare (fun b z => nomatch z)
    have fr : X.A.frames = some (X.env :: X.outer) := by rw [<- hF.stk]; exact I0.ok.frames
    have hO0 : ∀ b o, X.s₀.heap.get? b = some o -> O b := fun b o e => by
      obtain ⟨o', e'⟩ := I1.base.there b o e (by rw [hF.ex]; exact fun z => nomatch z)
      exact hO b o' e'
    have hpp : ∀ p ∈ X.pn ++ ([] : List (Addr × Obj)), O p.1 := fun p hp => by rw [hpn] at hp; exact nomatch hp
    have hLO : O X.env.locals := by
      obtain ⟨m, ⟨o, es, ep, e, _⟩, _⟩ := I1.loc
      exact hO _ o e
    refine Ax (s := s') fr (vA hF I') hF.fr F fun h2 k2 F2 => ?_
    have I2 := Cy hF I' k2 hO0 ht hpp
    refine lH (s := { s' with heap := h2 }) (fs := frs (X.env :: X.outer)) F2 fun h3 k3 F3 => ?_
    have I3 := Cy hF I2 k3 hO0 ht hpp
    have keyE : ∀ {h : Heap} {fl : Value}, Fly O h ea (.ref C) fl -> ∀ {s4 : Shared}, s4.heap = h -> Inv X [] σ H' s4 -> ∃ oe, oe.cls = .ref C /\ s4.heap.get? ea = some oe /\ H' ea = none /\ Inv (cxH X ea oe) [] σ H' s4 := fun {h fl} G {s4} e4 I4 => by
      obtain ⟨_, oe, vs, T, oT, ts, g1, g2, g3, g4, g5, g6, _⟩ := G
      have hH : H' ea = none := by
        cases z : H' ea with
        | none => rfl
        | some o => exact absurd (ht ea (by rw [z]; exact fun y => nomatch y)) g6
      refine ⟨oe, g2, by rw [e4]; exact g1, hH, QX I4 (by rw [e4]; exact g1) hH (fun z => g6 (by rw [z]; exact hLO)) (fun z => ?_) g3 g5⟩
      exact CF I4 ea z oe (by rw [e4]; exact g1) vs g3
    obtain ⟨oe3, c3, g3, n3, H3⟩ := keyE F3 rfl I3
    refine wpAny_handleBy_cons (codeAny_handlers_test (tE (X := cxH X ea oe3) H3 hg hm ?_ hxb)) (by intro z; cases z)
    refine (PySem.W.exm_one (M := model X.prog X.w) (K := X.K) (h := h3) I3.kIn (fun A' Q' E' s4 kk q => ?_) hex).here ?_
    . have e3 := kk _ _ g3
      unfold typeOf
      refine wpAny_bind (wpAny_loadPart e3 ?_)
      rw [c3]
      exact wpAny_pure q
    . refine codeAny_handlers_suite_as (lH (s := { s' with heap := h3 }) (fs := frs (X.env :: X.outer)) F3 fun h4 k4 F4 => ?_)
      have I4 := Cy hF I3 k4 hO0 ht hpp
      obtain ⟨oe, c4, g4, n4, H4⟩ := keyE F4 rfl I4
      refine nu (X := cxH X ea oe) (v := .ref ea) H4 hNd hn (Or.inl hl) rfl (fun s5 I5 => ?_) (Or.inr hl)
      refine wpAny_mono (hs ea oe [] s5 _ H' { nx := fun _ _ => False, rt := D.rt } I5 (good H' ea oe gd c4 n4)) (fun f s6 h6 => ?_) fun e s6 z => z.elim
      cases f with
      | next => obtain ⟨_, _, _, z⟩ := h6; exact z.elim
      | brk => obtain ⟨_, _, _, z⟩ := h6; exact z.elim
      | cont => obtain ⟨_, _, _, z⟩ := h6; exact z.elim
      | ret u =>
        obtain ⟨v, σ', H6, I6, r6, q6⟩ := h6
        obtain ⟨m6, hn6, _⟩ := I6.loc
        refine wpAny_nameGoes (env := X.env) hl hn6 (by rw [I0.ok.kind]; rfl) fun h7 m7 hn7 hs7 => ?_
        exact ⟨v, _, H6, LM I0.ok I6 hn7 hs7 hF.ex, r6, q6⟩
end
open PySem PySem.Spec PyProof.Rows
theorem PU {CX : CXT} {P : Program} {w : World} {K : PySem.W.Frag} {mg : Str -> Option Value} {base : Heap} {k : Nat} {f : Addr} {name qual : Str} {params : Arguments} {body : List Stmt} {scope : Scope} {dV kV doc pm cdv ct oc : Value} {an od : Option Addr} {osl : Array (Option Value)} {N ps : List Str}
    {A : Around} {outer : List Env} {s : Shared} {H : Hp} {args : Args} {us : List Value} {vs : List V} {Q : VK} {E : XK} (lk : K.lookup f = some ⟨oc, od, .func (PySem.W.fnOf name qual params body scope dV kV doc pm an cdv ct), osl⟩) (hcd : PySem.W.codeIn K cdv qual = true) (S : aP N ps scope)
    (hl : vs.length = ps.length) (hr : ir (k + 1) A) (e0 : C9 P w K mg base A outer s H) (hb : BindsTo s (PySem.W.fnOf name qual params body scope dV kV doc pm an cdv ct) args (ps.zip us)) (r : Vals vs us)
    (hq : ∀ s1, Inv (mn CX P w K mg base N qual scope f cdv A outer s H E) [] (start N vs) H s1 -> wpAny (model P w) (A.deeper (envOfC qual scope s.heap.objs.size f cdv)) (execs body (envOfC qual scope s.heap.objs.size f cdv)) (SP (mn CX P w K mg base N qual scope f cdv A outer s H E) [] { nx := fun _ H' => Q .non H', rt := Q }) (mn CX P w K mg base N qual scope f cdv A outer s H E).xe s1) :
    codeAny (model P w) A (.call (.ref f) args) (CR CX outer P w H s Q E) s := by
  have KX : K.In s.heap := e0.mod.kin.keeps fun b o e => (e0.bs b o e).1
  have lim : s.heap.NoLimit := e0.mod.nolimit.keeps fun b o e => (e0.bs b o e).1
  have hkind : ∀ y ∈ ps.zip us, scope.names.lookup y.1 = some .local \/ (scope.names.lookup y.1 = some .cell /\ ((cellsFrom (s.heap.objs.size + 1) scope.names []).lookup y.1).isSome = true) := fun ⟨n, v⟩ hy => by
    rcases S.par n (List.of_mem_zip hy).1 with q | q
    . exact .inl q
    . exact .inr ⟨q, PySem.W.cellsFrom_some _ _ _ (.inl q)⟩
  refine codeAny_call_function hr.depth (KX _ _ lk) rfl S.co S.gen rfl (PySem.W.codeRec_of KX hcd) (hb _ _ _ _ ?_)
  refine wpAny_newFunctionEnv_cells S.kind hkind fun env he s1 x => ?_
  subst he
  refine ⟨lim.keeps x.toInCall.keep, codeAny_func ?_⟩
  have I : Inv (mn CX P w K mg base N qual scope f cdv A outer s H E) [] (start N vs) H s1 := Ar S hr.hd e0 hl r x
  refine wpAny_mono (hq s1 I) (fun fl s' hs => ?_) fun e s' hs => hs
  have fin : ∀ {σ' : St} {H' : Hp} {v : V} {u : Value}, Inv (mn CX P w K mg base N qual scope f cdv A outer s H E) [] σ' H' s' -> RelV v u -> Q v H' -> CE outer P w H s Q u s' :=
    fun {σ' H' v u} J rv q => ⟨v, H', J.os, J.bare, J.base, J.hok, rv, q⟩
  cases fl with
  | ret u => obtain ⟨v, σ', H', J, rv, q⟩ := hs; exact fin J rv q
  | next => obtain ⟨σ', H', J, q⟩ := hs; exact fin (v := V.non) (u := Value.none) J rfl q
  | brk => obtain ⟨_, _, _, q⟩ := hs; exact False.elim q
  | cont => obtain ⟨_, _, _, q⟩ := hs; exact False.elim q
structure Dc (P : Program) (w : World) (K : PySem.W.Frag) (mg : Str -> Option Value) (base : Heap) (k : Nat) (f : Addr) (fd : FuncData) (dn : Str) (C : Value) (nm : Str) : Prop where
  run : ∀ (A : Around) (outer : List Env) (s : Shared) (H : Hp) (fa : Addr) (Good : Hp -> Prop) (Q : VK), ir (k + 1) A -> C9 P w K mg base A outer s H -> BindsTo s fd ⟨[.ref fa], []⟩ ([dn].zip [.ref fa]) ->
    (∀ (A' : Around) (outer' : List Env) (s' : Shared), ir k A' -> C9 P w K mg base A' outer' s' H -> Un (frs outer) [] H H s.heap s'.heap -> PySem.W.FnAt fa s'.heap /\ codeAny (model P w) A' (.call (.ref fa) ⟨[], []⟩) (CR (CX1 P w) outer' P w H s' (fun _ _ => False) (fun cls _ H' => cls = C /\ Good H')) s') ->
    (∀ H', Good H' -> ∃ μ, cw K μ H' /\ ∀ H'', Ext K μ H' μ H'' -> cw K μ H'' -> Q (.str nm) H'') ->
    codeAny (model P w) A (.call (.ref f) ⟨[.ref fa], []⟩) (CR CX0 outer P w H s Q E0) s
theorem LH {P : Program} {w : World} {K : PySem.W.Frag} {mg : Str -> Option Value} {base : Heap} {k : Nat} {f : Addr} {fd : FuncData} {fx qual : Str} {st : Stmt} {dn n y1 y2 x : Str} {dp cp ep np hp pos : Pos} {b₀ : Stmt} {suite rest : List Stmt} {C FE : Addr} {nm : Str} {td : Addr -> DTS}
    (F : Fun K fx qual st f fd) (S : aP [dn, n, y1, y2] [dn] (aD st))
    (hbody : gw st = .Try [.Expr (.Call (.Name dn dp) [] [] cp) ep] [.ExceptHandler (some (.Name x np)) (some n) (b₀ :: suite) hp] [] [] pos :: rest)
    (hv : (aD st).names.lookup dn = some .local) (hl : (aD st).names.lookup n = some .local) (hg : (aD st).names.lookup x = some .globalImplicit) (hm : mg x = some (.ref FE)) (hex : PySem.W.exmOne K (.ref C) (.ref FE) = some true)
    (hdb : (dn == ("__debug__" : Str)) = false) (hdc : (dn == ("__classdict__" : Str)) = false) (hxb : (x == ("__debug__" : Str)) = false)
    (hsw : ∀ env : Env, swapsWith (.Call (.Name dn dp) [] [] cp) none ep.line env = pure false)
    (hs : ∀ (cdv : Value) (A : Around) (outer : List Env) (s : Shared) (H : Hp) (ea : Addr) (oe : Obj), oe.cls = .ref C -> ir k (mn CX0 P w K mg base [dn, n, y1, y2] qual (aD st) f cdv A outer s H E0).A -> DSs (cxH (mn CX0 P w K mg base [dn, n, y1, y2] qual (aD st) f cdv A outer s H E0) ea oe) (b₀ :: suite) (td ea))
    (hrd : ∀ (ea fa : Addr) (μ : Mu) (Qd : DK), Qd (.v (.str nm)) μ -> td ea { nx := fun _ _ => False, rt := Qd } [some (.o fa), some (.o ea), none, none] μ) : Dc P w K mg base (k + 1) f fd dn (.ref C) nm where
  run := fun A outer s H fa Good Q hr e0 hb deed fin => by
    obtain ⟨oc, od, kV, doc, pm, an, cdv, ct, osl, rfl, lk, hcd⟩ := F.ex
    refine PU (k := k + 1) (vs := [.ref fa]) (us := [.ref fa]) lk hcd S rfl hr e0 hb (.cons rfl .nil) fun s1 I => ?_
    show wpAny _ _ (execs (gw st) _) _ _ _
    rw [hbody]
    have hX : ∀ ea oe, PSs (cxH (mn CX0 P w K mg base [dn, n, y1, y2] qual (aD st) f cdv A outer s H E0) ea oe) (b₀ :: suite) (fun D σ' H' => oe.cls = .ref C /\ H' ea = none /\ σ' = (start [dn, n, y1, y2] [V.ref fa]).set 1 (some (.ref ea)) /\ ∃ μ, cw K μ H' /\ ∀ H'', Ext K μ H' μ H'' -> cw K μ H'' -> D.rt (.str nm) H'') := fun ea oe pins' s' σ' H' D I' h => by
      obtain ⟨hc, hH, rfl, μ, ok, q⟩ := h
      obtain ⟨t, p, l⟩ := hs cdv A outer s H ea oe hc ((hr.deeper _).mono (Nat.le_succ _))
      refine p pins' s' _ H' D I' (l _ H' [some (.o fa), some (.o ea), none, none] μ { nx := fun _ _ => False, rt := fun d μ' => d = .v (.str nm) /\ μ' = μ } D ⟨ok, rfl, fun i d e => ?_⟩ (hrd ea fa μ _ ⟨rfl, rfl⟩) (fun _ _ _ _ _ _ z => z.elim) (fun d u μ' H'' e' ok' r ⟨z1, z2⟩ => ?_) (fun _ _ _ _ _ _ z => z.elim) (fun _ _ _ _ _ _ z => z.elim))
      . match i, e with
        | 0, e => cases e; exact ⟨.ref fa, rfl, rfl⟩
        | 1, e => cases e; exact ⟨.ref ea, rfl, rfl⟩
        | 2, e => cases e
        | 3, e => cases e
      . subst z1 z2
        cases r
        exact q H'' e' ok'
    refine wpAny_execs_cons (wpAny_mono (Og (X := mn CX0 P w K mg base [dn, n, y1, y2] qual (aD st) f cdv A outer s H E0) (C := C) (FE := FE) (di := 0) (ni := 1) ⟨rfl, rfl, rfl⟩ rfl S.nd rfl (Or.inl hv) rfl hl hg hm hex hX hdb hdc hxb (hsw _) [] s1 _ H { nx := fun _ _ => False, rt := Q } rfl I
      ⟨fa, Good, rfl, fun s2 I2 => deed _ _ s2 (hr.deeper _) I2.O1 I2.base, fun H' ea oe gd c hn => ⟨c, hn, rfl, fin H' gd⟩⟩) (fun fl s' hs' => ?_) fun _ _ z => z)
    cases fl with
    | ret u => exact hs'
    | next => obtain ⟨_, _, _, z⟩ := hs'; exact z.elim
    | brk => obtain ⟨_, _, _, z⟩ := hs'; exact z.elim
    | cont => obtain ⟨_, _, _, z⟩ := hs'; exact z.elim
open PySem PySem.Spec PyProof.Rows
section
variable {X : Cx} {e : Expr} {te : DTE} {p py pos : Pos} {y : Str} {C : Addr} {b : Bool} {ea : Addr} {oe : Obj}
def gp (ea : Addr) (b : Bool) (te : DTE) : DTE := fun ρ μ Q => te ρ μ fun x μ1 => match x with
  | .o a => a = ea /\ Q (.v (.bool b)) μ1
  | _ => False
theorem C7 {cv : V} {w : Value} (Z : wJ X.K C) (hp : (ea, oe) ∈ X.pn) (hc : oe.cls = .ref C) (r : RelV cv w) (hw : ∀ u, RelV cv u -> u = w) (ek : PySem.W.kitOne X.K (.ref C) w = some b) : gZ X (.builtin "isinstance") (fun xs H Q => xs = [.ref ea, cv] /\ Q (.bl b) H) := by
  intro pins s σ H xs us Q I rr h
  obtain ⟨rfl, q⟩ := h
  obtain ⟨v, w', rfl, r1, r2⟩ := vals2 rr
  cases r1
  obtain rfl := hw w' r2
  exact PySem.W.kia_one (LL Z) I.kIn ⟨oe, (I.pin (ea, oe) (List.mem_append_left _ hp)).1, hc⟩ ek (fun z => nomatch z) fun tk => ⟨.bl b, H, I.tok _, rfl, q⟩
theorem cR {C' : Addr} (Z : wJ X.K C) (hp : (ea, oe) ∈ X.pn) (hc : oe.cls = .ref C) (ek : PySem.W.kitOne X.K (.ref C) (.ref C') = some b) (hg : Gl X "isinstance") (hm : X.mg "isinstance" = none) (hgy : Gl X y) (hmy : X.mg y = some (.ref C')) (ha : DE X e te) (hdy : (y == ("__debug__" : Str)) = false := by decide)
    (he : starEach [e, .Name y py] X.env = (false, eval e X.env) :: starEach [.Name y py] X.env := by rfl) (he2 : starEach [.Name y py] X.env = [(false, eval (.Name y py) X.env)] := by rfl) (hpl : (backTo pos (starEach [.Name y py] X.env)).any (·.1) = false := by rfl) : DE X (.Call (.Name "isinstance" p) [e, .Name y py] [] pos) (gp ea b te) := by
  obtain ⟨t1, p1, l1⟩ := ha
  refine ⟨_, qv (C7 (cv := .ref C') Z hp hc rfl (fun u h => h) ek) hg hm PyProof.Rows.Boot.«isinstance» (gy p1 (gy (G4 (v := .ref C') hgy hmy rfl hdy) nV he2) he) (by decide) (by decide) he hpl, fun σ H ρ μ Qd Q S h k => ?_⟩
  refine l1 σ H ρ μ _ _ S h fun x ux μ1 H1 e1 S1 rx h1 => ?_
  split at h1
  . obtain ⟨rfl, h1⟩ := h1
    obtain rfl : ux = .ref _ := rx
    exact ⟨rfl, k (.v _) _ μ1 H1 e1 S1 (Rp.bool _) h1⟩
  . exact h1.elim
theorem Hg {T : String} (Z : wJ X.K C) (hp : (ea, oe) ∈ X.pn) (hc : oe.cls = .ref C) (ek : PySem.W.kitOne X.K (.ref C) (.type T) = some b) (hg : Gl X "isinstance") (hm : X.mg "isinstance" = none) (hgy : Gl X y) (hmy : X.mg y = none) (hvy : bootBuiltins y = some (.type T)) (ha : DE X e te) (hny : y ≠ "__name__" := by decide) (hdy : (y == ("__debug__" : Str)) = false := by decide)
    (he : starEach [e, .Name y py] X.env = (false, eval e X.env) :: starEach [.Name y py] X.env := by rfl) (he2 : starEach [.Name y py] X.env = [(false, eval (.Name y py) X.env)] := by rfl) (hpl : (backTo pos (starEach [.Name y py] X.env)).any (·.1) = false := by rfl) : DE X (.Call (.Name "isinstance" p) [e, .Name y py] [] pos) (gp ea b te) := by
  obtain ⟨t1, p1, l1⟩ := ha
  refine ⟨_, qv (C7 (cv := .ty T) Z hp hc rfl (fun u h => h) ek) hg hm PyProof.Rows.Boot.«isinstance» (gy p1 (gy (G5 (v := .ty T) hgy hmy hvy rfl hny hdy) nV he2) he) (by decide) (by decide) he hpl, fun σ H ρ μ Qd Q S h k => ?_⟩
  refine l1 σ H ρ μ _ _ S h fun x ux μ1 H1 e1 S1 rx h1 => ?_
  split at h1
  . obtain ⟨rfl, h1⟩ := h1
    obtain rfl : ux = .ref _ := rx
    exact ⟨rfl, k (.v _) _ μ1 H1 e1 S1 (Rp.bool _) h1⟩
  . exact h1.elim
end
structure Qy (K : PySem.W.Frag) (mg : Str -> Option Value) (c P : Addr) (q : Str) : Prop where
  obj : ∃ o, K.lookup c = some o /\ cb o = some (P, q)
  one : ∀ c2 o2 q2, K.lookup c2 = some o2 -> cb o2 = some (P, q2) -> q2 = q
  blt : OH K mg
end L2.DL
set_option Elab.async false
set_option linter.all false
set_option maxRecDepth 100000
set_option maxHeartbeats 4000000
namespace L2
open PySem PySem.Spec PyProof.Rows DL
def P7 (tabs : List Addr) (H : Hp) : Prop := ∀ b, H b = none \/ (∃ o xs, H b = some (.frz o (.lst xs))) \/ (b ∈ tabs /\ H b = some (.tbl #[]))
theorem IP {P : Program} {w : World} {K : PySem.W.Frag} {mg mb : Str -> Option Value} {CX : CXT} {k : Nat} {fa a : Addr} {fd : FuncData} {x : Str} {sp : Sp} {s₁ : Shared} {vs : List Value} {ns : List Int} (tabs : List Addr)
    (hT : ∀ p ∈ tabs, s₁.heap.get? p = some (PySem.W.tabObj #[]) /\ K.lookup p = none) (hA2 : ∀ c o p q, K.lookup c = some o -> cb o = some (p, q) -> p ∈ tabs) (hC : ∀ p ∈ tabs, isCodeTable s₁.heap p)
    (KX : K.In s₁.heap) (hns : s₁.heap.Ns mainGlobals mg) (hb : s₁.heap.Ns builtinsNs mb) (hbb : ∀ x : Str, x ≠ "__name__" -> mb x = bootBuiltins x) (hlim : s₁.heap.NoLimit) (hg : s₁.gens = #[])
    (ha : s₁.heap.get? a = some { cls := .type "list", data := .seq vs.toArray }) (hi : IntsAre vs ns) (hl : ns.length <= sizeLine) (hr : ir k callerA)
    (F : ∀ base : Heap, K.In base -> base.Ns mainGlobals mg -> bL P w K mg base CX k fa fd [x] sp) (hbind : ∀ (s : Shared) (u : Value), BindsTo s fd ⟨[u], []⟩ [(x, u)])
    (hsp : ∀ H : Hp, zY K H -> SqL K H a (ns.map V.int) -> sp [.ref a] H (fun v _ => v = .bl true) fun _ _ _ => False)
    (hCX : ∀ H e s', CX [] H s₁ (fun _ _ _ => False) e s' -> False) :
    codeAny (model P w) callerA (.call (.ref fa) ⟨[.ref a], []⟩) (fun r s' => r = .ok (.ret (.bool true)) /\ OldK s₁.heap s'.heap /\ s'.os = s₁.os /\ AllBare s'.gens) s₁ := by
  have rv := Ao hi
  have lenV := hi.length
  have ant : a ∉ tabs := fun z => by have := (hT a z).1; rw [ha] at this; cases this
  have core : ∀ H : Hp, P7 tabs H -> SqL K H a (ns.map V.int) -> HOk P w H s₁.heap -> (∀ b, H b ≠ none -> b = a \/ b ∈ tabs) -> (H a ≠ none -> K.lookup a = none) -> (∀ p ∈ tabs, H p = some (.tbl #[])) ->
      codeAny (model P w) callerA (.call (.ref fa) ⟨[.ref a], []⟩) (fun r s' => r = .ok (.ret (.bool true)) /\ OldK s₁.heap s'.heap /\ s'.os = s₁.os /\ AllBare s'.gens) s₁ := by
    intro H hO hS hok hA hK hP
    have base_of : ∀ {b : Addr} {o : Obj}, s₁.heap.get? b = some o -> H b = none -> (BC s₁.heap H).get? b = some o := fun e n => JV e n
    have noA : ∀ {b : Addr} {o : Obj} {es : Array DictEntry} {ep : Nat}, s₁.heap.get? b = some o -> o.data = .dict es ep -> H b = none := fun {b o es ep} e d => by
      cases q : H b with
      | none => rfl
      | some u =>
        rcases hA b (by rw [q]; simp) with e' | e'
        . subst e'
          rw [ha] at e; cases e
          have d' : Data.seq vs.toArray _ = Data.dict es ep := d
          cases d'
        . rw [(hT b e').1] at e; cases e
          have d' : Data.fields #[] = Data.dict es ep := d
          cases d'
    have nsK : ∀ {b : Addr} {m : Str -> Option Value}, s₁.heap.Ns b m -> (BC s₁.heap H).Ns b m := fun {b m} ⟨o, es, ep, e, d, r⟩ => ⟨o, es, ep, base_of e (noA e d), d, r⟩
    have hKb : K.In (BC s₁.heap H) := fun b o e => base_of (KX b o e) (by
      cases q : H b with
      | none => rfl
      | some u =>
        rcases hA b (by rw [q]; simp) with e' | e'
        . subst e'
          rw [hK (by rw [q]; simp)] at e; cases e
        . have e2 := e; rw [show K.lookup b = none from (hT b e').2] at e2; cases e2)
    have hM : Mod K mg (BC s₁.heap H) := ⟨hKb, nsK hns, ⟨mb, nsK hb, hbb⟩, let ⟨mc, h1, h2⟩ := hlim; ⟨mc, nsK h1, h2⟩⟩
    have e0 : C9 P w K mg (BC s₁.heap H) callerA [] s₁ H := ⟨rfl, hM, fun b o e => Nc e, Nat.le_of_eq (IQ _ _), trivial, fun b hb => absurd (show b ∈ ([] : List Addr) from hb) (by simp), hok, .of_eq hg⟩
    have tb : zY K H := fun c o p q h1 h2 => ⟨#[], hP p (hA2 c o p q h1 h2), trivial, fun pos cv e => by simp [codeAmong] at e⟩
    refine codeAny_mono ((F _ hKb (nsK hns)).run callerA [] s₁ H ⟨[.ref a], []⟩ [.ref a] [.ref a] _ _ hr e0 (hbind s₁ (.ref a)) (.cons rfl .nil) (hsp H tb hS)) fun r s' h => ?_
    cases r with
    | error e => exact (hCX H e s' h).elim
    | ok fl =>
      cases fl with
      | next => exact False.elim h
      | brk => exact False.elim h
      | cont => exact False.elim h
      | ret u =>
        obtain ⟨v, H', os, bare, un, hok', r', q⟩ := h
        have q' : v = .bl true := q
        subst q'
        obtain rfl : u = Value.bool true := r'
        refine ⟨rfl, ⟨fun b o e => ?_, fun b o e => un.there b o e (by simp)⟩, os, bare⟩
        cases q : H b with
        | none => exact .inl (un.keep b o e q (by intro z; exact absurd (show b ∈ ([] : List Addr) from z) (by simp)) (by simp))
        | some u =>
          rcases hO b with z | ⟨ob, xs, z⟩ | ⟨zt, z⟩
          . rw [q] at z; cases z
          . have z2 := un.qA b ob _ z
            obtain ⟨e1, _⟩ := hok b _ z
            obtain ⟨e2, _⟩ := hok' b _ z2
            rw [e] at e1; cases e1
            exact .inl e2
          . obtain ⟨more, z2⟩ := un.pN b _ z
            have e2 : s'.heap.get? b = some { cls := .none, data := .fields (#[] ++ more) } := hok' b _ z2
            have e1 := (hT b zt).1
            rw [e] at e1; cases e1
            exact .inr (.inl ⟨hC b zt, rfl, #[], more, rfl, e2⟩)
  have okT : ∀ p ∈ tabs, s₁.heap.get? p = some { cls := .none, data := .fields #[] } := fun p hp => (hT p hp).1
  cases hk : K.lookup a with
  | some o =>
    have e := KX a o hk
    rw [ha] at e
    cases e
    refine core (fun b => if b ∈ tabs then some (.tbl #[]) else none) (fun b => ?_) (.inr ⟨_, vs.toArray, _, hk, rfl, rfl, rfl, by rw [List.size_toArray, lenV]; exact hl, by simpa using rv⟩) (fun b u z => ?_) (fun b z => ?_) (fun z => absurd (if_neg ant) z) (fun p hp => if_pos hp)
    . by_cases hb : b ∈ tabs
      . exact .inr (.inr ⟨hb, if_pos hb⟩)
      . exact .inl (if_neg hb)
    . by_cases hb : b ∈ tabs
      . have z' := (if_pos hb).symm.trans z; cases z'; exact okT b hb
      . have z' := (if_neg hb).symm.trans z; cases z'
    . by_cases hb : b ∈ tabs
      . exact .inr hb
      . exact absurd (if_neg hb) z
  | none =>
    refine core (fun b => if b = a then some (.frz { cls := .type "list", data := .seq vs.toArray } (.lst (ns.map V.int))) else if b ∈ tabs then some (.tbl #[]) else none) (fun b => ?_) (.inl (.inr ⟨{ cls := .type "list", data := .seq vs.toArray }, if_pos rfl⟩)) (fun b u z => ?_) (fun b z => ?_) (fun _ => hk) (fun p hp => by
      have : p ≠ a := fun y => ant (by rw [<- y]; exact hp)
      exact (if_neg this).trans (if_pos hp))
    . by_cases hb : b = a
      . exact .inr (.inl ⟨_, _, if_pos hb⟩)
      . by_cases hb2 : b ∈ tabs
        . exact .inr (.inr ⟨hb2, (if_neg hb).trans (if_pos hb2)⟩)
        . exact .inl ((if_neg hb).trans (if_neg hb2))
    . by_cases hb : b = a
      . have z' := (if_pos hb).symm.trans z
        cases z'
        subst hb
        exact ⟨ha, by rw [List.length_map]; exact hl, vs, _, rv, ha⟩
      . by_cases hb2 : b ∈ tabs
        . have z' := ((if_neg hb).trans (if_pos hb2)).symm.trans z; cases z'; exact okT b hb2
        . have z' := ((if_neg hb).trans (if_neg hb2)).symm.trans z; cases z'
    . by_cases hb : b = a
      . exact .inl hb
      . by_cases hb2 : b ∈ tabs
        . exact .inr hb2
        . exact absurd ((if_neg hb).trans (if_neg hb2)) z
theorem KA {l : PySem.W.OpenLaw} {n k : Nat} {q : Program} {loose : List Str} {XP : (Str -> Option Value) -> Heap -> Prop} {YP : World -> Heap -> Prop} {d : DefRec} {K : Params -> PySem.W.Frag} {CX : World -> CXT} {sp : World -> Sp} {x : Str} (tabs : List Addr)
    (hn : l.most = some n) (hn2 : n <= sizeLine) (hdf : d.params.defaults = []) (hr : ir k callerA)
    (hY : ∀ (w : World) (h : Heap), YP w h -> (K w.params).In h /\ (∀ p ∈ tabs, h.get? p = some (PySem.W.tabObj #[]) /\ (K w.params).lookup p = none) /\ (∀ p ∈ tabs, isCodeTable h p))
    (hA2 : ∀ (w : World) c o p q, (K w.params).lookup c = some o -> cb o = some (p, q) -> p ∈ tabs)
    (F : ∀ (w : World) (mg : Str -> Option Value) (fa : Addr) (h : Heap), (K w.params).In h -> h.Ns mainGlobals mg -> mg d.name = some (.ref fa) ->
      ∃ fd : FuncData, (∀ (s : Shared) (u : Value), BindsTo s fd ⟨[u], []⟩ [(x, u)]) /\
        ∀ base : Heap, (K w.params).In base -> base.Ns mainGlobals mg -> bL l.prog w (K w.params) mg base (CX w) k fa fd [x] (sp w))
    (hsp : ∀ (w : World) (H : Hp) (a : Addr) (ns : List Int), ns.length ≤ n -> zY (K w.params) H -> SqL (K w.params) H a (ns.map V.int) -> sp w [.ref a] H (fun v _ => v = .bl true) fun _ _ _ => False)
    (hCX : ∀ (w : World) (H : Hp) (s : Shared) (e : Value) (s' : Shared), CX w [] H s (fun _ _ _ => False) e s' -> False) :
    PySem.W.WalkO q loose XP YP l.row.toRowW d [] (fun f vs => PySem.call f vs) := by
  refine Att.DC hn hdf fun w s₀ s₁ mg mb fa o pm cd doc a vs ns G Y ho hd hcd hmg hobj hints hlen hg => ?_
  obtain ⟨KX, hT, hC⟩ := hY w _ Y
  obtain ⟨fd, hb, hF⟩ := F w mg fa _ KX G.T.g hmg
  exact IP tabs hT (hA2 w) hC KX G.T.g G.T.b G.T.builtins G.T.nolimit hg hobj hints (Nat.le_trans hlen hn2) hr hF hb (fun H hO hS => hsp w H a ns hlen hO hS) fun H e s' => hCX w H s₁ e s'
end L2
namespace L2.DL
open PySem PySem.Spec PyProof.Rows
theorem _root_.L2.Fun.RL {P : Program} {w : World} {K : PySem.W.Frag} {mg : Str -> Option Value} {base : Heap} {x qual : Str} {st : Stmt} {f : Addr} {fd : FuncData} {N ps : List Str} {k : Nat} {dsp : DSp} (F : Fun K x qual st f fd) (S : aP N ps (aD st)) (len : ∀ ds μ Q, dsp ds μ Q -> ds.length = ps.length)
    (hbody : ∀ (cdv : Value), fd.code = cdv -> ∀ (A : Around) (outer : List Env) (s : Shared) (H : Hp) (E : XK), ir k (A.deeper (envOfC qual (aD st) s.heap.objs.size f cdv)) ->
      ∃ td, DSs (mn CX0 P w K mg base N qual (aD st) f cdv A outer s H E).nox (gw st) td /\ ∀ ds μ Qd, dsp ds μ Qd -> td { nx := fun _ μ' => Qd (.v .none) μ', rt := Qd } (aS N ds) μ) : bL P w K mg base CX0 (k + 1) f fd ps (spD K dsp) := by
  obtain ⟨oc, od, kV, doc, pm, an, cdv, ct, osl, rfl, lk, hcd⟩ := F.ex
  refine JZ lk hcd S (fun vs H Q E h => ?_) fun A outer s H vs Q E hr h => ?_
  . obtain ⟨ds, μ, Qd, _, r, h, _⟩ := h
    rw [<- r.length]; exact len ds μ Qd h
  . obtain ⟨ds, μ, Qd, ok, r, h, fin⟩ := h
    obtain ⟨td, ⟨t, p, l⟩, rd⟩ := hbody cdv rfl A outer s H E hr
    exact ⟨t, p.nox, l (start N vs) H (aS N ds) μ _ _ ⟨ok, vJ r⟩ (rd ds μ Qd h) (fun σ' ρ' μ' H' e' S' q => fin (.v .none) .non μ' H' e' S'.mu Rp.none q) (fun d u μ' H' e' ok' r' q => fin d u μ' H' e' ok' r' q) (fun _ _ _ _ _ _ q => q) (fun _ _ _ _ _ _ q => q)⟩
def Nh (X : Cx) (lsc : Scope) : Option Nat -> Str -> Prop
  | some j, x => X.N[j]? = some x /\ Vis X.env.scope x /\ X.env.kindOf x ≠ some .local /\ lsc.names.lookup x = some .free
  | none, _ => True
def PL (X : Cx) (lsc : Scope) : List (Option Nat) -> List Str -> Prop
  | c :: r, x :: r' => Nh X lsc c x /\ PL X lsc r r'
  | _, _ => True
theorem tm {X : Cx} {lsc : Scope} : ∀ {cap : List (Option Nat)} {N' : List Str}, PL X lsc cap N' -> ∀ (i j : Nat) (x : Str), cap[i]? = some (some j) -> N'[i]? = some x -> X.N[j]? = some x /\ Vis X.env.scope x /\ X.env.kindOf x ≠ some .local /\ lsc.names.lookup x = some .free
  | [], _, _, i, j, x, h, _ => by simp at h
  | _ :: _, [], _, i, j, x, _, h => by simp at h
  | c :: r, y :: r', h, 0, j, x, h1, h2 => by
    simp at h1 h2; subst h1 h2; exact h.1
  | c :: r, y :: r', h, i + 1, j, x, h1, h2 => tm h.2 i j x (by simpa using h1) (by simpa using h2)
theorem kP {X : Cx} {lsc : Scope} {j : Nat} {x : Str} (h1 : X.N[j]? = some x := by rfl) (h2 : X.env.kindOf x = some .cell := by rfl) (h3 : lsc.names.lookup x = some .free := by rfl) : Nh X lsc (some j) x :=
  ⟨h1, .inr (.inl h2), (by rw [h2]; decide), h3⟩
theorem Ik {K : PySem.W.Frag} {l : List (Addr × Str)} (h : (K.filterMap fun p => cb p.2) = l) {c : Addr} {o : Obj} {P : Addr} {q : Str} (e : K.lookup c = some o) (e2 : cb o = some (P, q)) : (P, q) ∈ l := by
  rw [<- h]
  have mem : ∀ (L : List (Addr × Obj)), List.lookup c L = some o -> (c, o) ∈ L := fun L => by
    induction L with
    | nil => intro z; cases z
    | cons a r ih =>
      intro z
      rw [List.lookup_cons] at z
      by_cases y : c = a.1
      . rw [y] at z ⊢; simp at z; rw [<- z]; exact List.mem_cons_self
      . rw [show (c == a.1) = false from by simpa using y] at z
        exact List.mem_cons_of_mem _ (ih z)
  exact List.mem_filterMap.mpr ⟨(c, o), mem K e, e2⟩
theorem AB {K : PySem.W.Frag} {h : Heap} {c P : Addr} {o : Obj} {q : Str} (X : K.In h) (l : K.lookup c = some o) (e : cb o = some (P, q)) : isCodeTable h P := by
  have ho := X _ _ l
  unfold cb at e
  split at e
  . rename_i cn vs hcls hd
    split at e
    . rename_i hcn
      subst hcn
      split at e
      . rename_i e11 e18
        split at e
        . cases e
          exact ⟨c, o, vs, ho, hcls, hd, by assumption⟩
        . cases e
      . cases e
    . cases e
  . cases e
theorem Bx {K : PySem.W.Frag} {c P : Addr} {q : Str} (h : (K.lookup c).bind cb = some (P, q)) : ∃ o, K.lookup c = some o /\ cb o = some (P, q) := Option.bind_eq_some_iff.mp h
theorem Cu {K T : PySem.W.Frag} {h : Heap} (X : PySem.W.Frag.In (K ++ T) h) : K.In h := fun b o e => X b o (by
  show List.lookup b (K ++ T) = some o
  rw [List.lookup_append, show List.lookup b K = some o from e]; rfl)
theorem OS {K : PySem.W.Frag} {mg : Str -> Option Value} {bm : Addr} {sl : Array (Option Value)} (h1 : mg "__builtins__" = some (.ref bm)) (h2 : bm ≠ builtinsNs) (h3 : K.lookup bm = some ⟨.type "module", some builtinsNs, .plain, sl⟩) : OH K mg := ⟨bm, _, h1, h2, h3, rfl, rfl, rfl⟩
theorem HL {dsp : XSp} {t : DTA} {ρ : Rho} {μ : Mu} {Xk : Mu -> Prop} : vY dsp t ρ μ Xk = t ρ μ (fun ds μ1 => dsp ds μ1 Xk) := propext Iff.rfl
theorem Nu {tc : DTT} {tx ty : DTX} {ρ : Rho} {μ : Mu} {Xk : Mu -> Prop} : xIf tc tx ty ρ μ Xk = tc ρ μ (fun b μ1 => if b = true then tx ρ μ1 Xk else ty ρ μ1 Xk) := propext Iff.rfl
theorem Pq {td : DTS} {tx : DTX} {ρ : Rho} {μ : Mu} {Xk : Mu -> Prop} : OK td tx ρ μ Xk = td { nx := fun ρ' μ' => tx ρ' μ' Xk, rt := fun _ _ => False } ρ μ := propext Iff.rfl
theorem QJ {ea : Addr} {b : Bool} {i : Nat} {ρ : Rho} {μ : Mu} {Q : DK} (h : ρ[i]? = some (some (.o ea))) : gp ea b (ag i) ρ μ Q = Q (.v (.bool b)) μ := by
  unfold gp ag
  rw [h]
  exact propext ⟨fun z => z.2, fun z => ⟨rfl, z⟩⟩
theorem A3 {ea : Addr} {b : Bool} {x : Option D} {r : Rho} {μ : Mu} {Q : DK} : gp ea b (ag 1) (x :: some (.o ea) :: r) μ Q = Q (.v (.bool b)) μ := QJ rfl
def Jt : PyData -> Option PyData
  | .tuple [.str n, .bool b] => if b = true then some (.str n) else none
  | _ => none
theorem Eu {r : Rho} {μ : Mu} {Q : DK} {ns : List (Str × Bool)} {i : Nat} (hi : r[i]? = some (some (.v (.list (ns.map fun n => .tuple [.str n.1, .bool n.2]))))) (hl : ns.length <= 1000) (q : Q (.v (.list ((ns.map fun n => (.tuple [.str n.1, .bool n.2] : PyData)).filterMap Jt))) μ) :
    j6 [none, none] (vj (ag i)) (oW 2 (de (az 0) (de (az 1) qr))) (dB (ag 1)) (ag 0) r μ Q := by
  rw [xg]
  show (match r[i]? with | some (some d) => _ | _ => False)
  rw [hi]
  refine ⟨by rw [List.length_map]; exact hl, fun p hp => ⟨fun i acc μ' => acc = ((ns.map fun n => (.tuple [.str n.1, .bool n.2] : PyData)).take i).filterMap Jt /\ μ' = aO μ p acc, ⟨rfl, rfl⟩, ?_, ?_⟩⟩
  . rintro i x acc μ' hx hpa ⟨e0, e1⟩
    obtain ⟨n, hn, rfl⟩ := List.mem_map.mp (List.mem_of_getElem? hx)
    have st := wY (f := Jt) hx
    obtain ⟨n, b⟩ := n
    refine ⟨rfl, ⟨trivial, ?_⟩⟩
    show if b = true then _ else _
    cases b with
    | true =>
      rw [if_pos rfl]
      refine ⟨hpa, ?_, ?_⟩
      . rw [st, <- e0]; rfl
      . rw [e1, mJ]
    | false =>
      rw [if_neg (by decide)]
      refine ⟨hpa, ?_, e1⟩
      rw [st, <- e0]; simp [Jt]
  . rintro acc μ' ⟨e0, e1⟩ hpa
    rw [List.take_length] at e0
    rw [e1, e0, vK hp]
    exact q
open PySem PySem.Spec PyProof.Rows
section
end
open PySem PySem.Spec PyProof.Rows
section
variable {X : Cx} {a b e : Expr} {es : List Expr} {ta tb te : DTE} {t : DTA} {p pos : Pos} {x : Str} {bid T : String}
end
open PySem PySem.Spec PyProof.Rows
section
variable {X : Cx} {es : List Expr} {x1 : Nat} {tpos : Pos}
end
open PySem PySem.Spec PyProof.Rows
def wm (ns : List Int) : Nat := (PyProof.Rows.firstMet (fun i => ns.getD i 0) ns.length).length
def setAt (p : Addr) (n : Nat) (h : Heap) : Prop := ∃ o es ep t, h.get? p = some o /\ o.ExactSet /\ o.data = .set es ep t /\ t.fits es.size = true /\ (es.size : Int) < 2 ^ 63 /\ es.size = n
theorem Ay : ∀ {ns : List Int} {vs : List Value}, Vals (ns.map V.int) vs -> IntsAre vs ns
  | [], _, .nil => .nil
  | n :: ns, _, .cons h t => by
    obtain ⟨tk, rfl⟩ := h
    exact .cons n tk (Ay t)
section
variable {X : Cx} {e : Expr} {te : DTE} {p p2 pos pos2 : Pos}
theorem Jm (hc : X.calm = true) : gZ X (.type "set") (fun xs H Q => ∃ (l : Addr) (ns : List Int), xs = [.ref l] /\ H l = some (.lst (ns.map V.int)) /\ ns.length ≤ 1000 /\ ∀ q, H q = none -> Q (.ref q) (upd H q (.ext (setAt q (wm ns))))) := by
  intro pins s σ H xs us Q I r h
  obtain ⟨l, ns, rfl, hl, hn, q⟩ := h
  obtain ⟨u, rfl, rx⟩ := vals1 r
  cases rx
  obtain ⟨its, rv, pl, _⟩ := I.list (SqL.of hl)
  have hi := Ay rv
  have hlen : its.length = ns.length := IntsAre.length hi
  refine PySem.call_set_list (items := its.toArray) (ns := ns) (I.ok.hd hc) pl.isList (by simpa using hi) (by unfold scanBound; simp; omega) fun h' tk hS hk => ?_
  obtain ⟨o, es, ep, t, ho, hex, hd, _, _, hb, hf, hn'⟩ := hS
  have hsz : its.toArray.size = ns.length := by simpa using hlen
  rw [hsz] at hn'
  have h63 : (es.size : Int) < 2 ^ 63 := by
    have : (es.size : Int) < 4096 := by unfold scanBound at hb; omega
    exact Int.lt_of_lt_of_le this (by decide)
  refine ⟨.ref s.heap.objs.size, _, I.laid (t' := tk) (fun b o' e' => hk b o' (Heap.lt_size e') e') (Nat.le_refl _) (o := .ext (setAt s.heap.objs.size (wm ns))) ⟨⟨o, es, ep, t, ho, hex, hd, hf, h63, hn'⟩, ⟨o, ho⟩, ?_⟩, rfl, q _ (I.hok.fresh (Nat.le_refl _))⟩
  rintro h1 h2 ⟨o, es, ep, t, ho, hex, hd, hf, h63, hn'⟩ k
  exact ⟨o, es, ep, t, k o ho, hex, hd, hf, h63, hn'⟩
theorem IF : gZ X (.builtin "len") (fun xs H Q => ∃ (q : Addr) (n : Nat), xs = [.ref q] /\ H q = some (.ext (setAt q n)) /\ Q (.int n) H) := by
  intro pins s σ H xs us Q I r h
  obtain ⟨q, n, rfl, hq, hQ⟩ := h
  obtain ⟨u, rfl, rx⟩ := vals1 r
  cases rx
  obtain ⟨⟨o, es, ep, t, ho, hex, hd, hf, h63, rfl⟩, _, _⟩ := I.hok q _ hq
  refine PySem.call_len_set ho hex hd hf h63 ?_
  exact ⟨.int es.size, H, I.kept (h' := s.heap) (t' := s.toks + 1 + 1) (fun _ _ e => e), ⟨_, rfl⟩, hQ⟩
def Cv (te : DTE) : DTE := fun ρ μ Q => te ρ μ fun d μ1 => match d with
  | .v (.list ys) => (match gn ys with | some ns => ns.length <= 1000 /\ Q (.v (.int (wm ns))) μ1 | none => False)
  | _ => False
theorem Lq {ρ : Rho} {μ : Mu} {Q : DK} : Cv te ρ μ Q = te ρ μ fun d μ1 => match d with
  | .v (.list ys) => (match gn ys with | some ns => ns.length <= 1000 /\ Q (.v (.int (wm ns))) μ1 | none => False)
  | _ => False := propext Iff.rfl
theorem Jo (hc : X.calm = true) (hg : Gl X "len") (hm : X.mg "len" = none) (hg2 : Gl X "set") (hm2 : X.mg "set" = none) (h : DE X e te)
    (he : starEach [Expr.Call (.Name "set" p2) [e] [] pos2] X.env = (false, eval (Expr.Call (.Name "set" p2) [e] [] pos2) X.env) :: starEach [] X.env := by rfl)
    (he2 : starEach [e] X.env = (false, eval e X.env) :: starEach [] X.env := by rfl) : DE X (.Call (.Name "len" p) [.Call (.Name "set" p2) [e] [] pos2] [] pos) (Cv te) := by
  obtain ⟨t1, p1, l1⟩ := h
  refine ⟨_, qv IF hg hm PyProof.Rows.Boot.«len» (gy (Ak (Jm hc) hg2 hm2 PyProof.Rows.Boot.«set» (gy p1 nV he2) (by decide) (by decide) he2 rfl) nV he) (by decide) (by decide) he rfl, fun σ H ρ μ Qd Q S q k => ?_⟩
  refine l1 σ H ρ μ _ _ S q fun d u μ1 H1 e1 S1 r h1 => ?_
  split at h1
  . rename_i ys
    cases z : gn ys with
    | none => rw [z] at h1; exact h1.elim
    | some ns =>
      rw [z] at h1
      cases r with
      | @list a us _ ha hn ra =>
        have eu := Aw ra z
        subst eu
        refine ⟨a, ns, rfl, ha, h1.1, fun q hq => ⟨q, wm ns, rfl, cL, ?_⟩⟩
        have ex : Ext X.K μ1 H1 μ1 (upd H1 q (.ext (setAt q (wm ns)))) := cY hq
        exact k (.v (.int (wm ns))) _ μ1 _ (e1.trans ex) ⟨S1.mu.new hq, S1.rho.ext S1.mu ex⟩ (Rp.int _) h1.2
  . exact h1.elim
end
open PySem PySem.Spec PyProof.Rows
def Em (fa c1 : Addr) (q : Str) (params : Arguments) (body : Expr) (lsc : Scope) (cl : List (Str × Addr)) (h : Heap) : Prop := ∃ pm ctv, h.get? fa = some { cls := .type "function", data := .func (PySem.W.kla_fn "<lambda>" (bX q) params body lsc cl pm (.ref c1) ctv) }
def Mt (q : Str) (params : Arguments) (body : Expr) (lsc : Scope) (cl : List (Str × Addr)) : PQ := fun _ u μ H => ∃ fa c1, u = .ref fa /\ H fa = some (.ext (Em fa c1 q params body lsc cl)) /\ H c1 = some (.ext (codeAt c1 (bX q))) /\ μ fa = none /\ μ c1 = none
def QL (ds : List D) : PQ := fun K u μ H => ∃ a us, u = .ref a /\ H a = some (.lst us) /\ μ a = none /\ jT K μ H ds us
def QT (ds : List D) : PQ := fun K u μ H => ∃ a us, u = .ref a /\ H a = some (.tup us) /\ jT K μ H ds us
section
variable {X : Cx} {pins : List (Addr × Obj)} {σ : St} {H : Hp} {s : Shared}
theorem Mv {μ : Mu} {params : Arguments} {body : Expr} {lsc : Scope} {lpos : Pos} {cl : List (Str × Addr)} {c P : Addr} {o : Obj} {q : Str} {Qd : Value -> Shared -> Prop} (I : Inv X pins σ H s) (ok : cw X.K μ H) (hcode : X.env.code = .ref c) (hl : X.K.lookup c = some o)
    (hlc : cb o = some (P, q)) (hu : ∀ c2 o2 q2, X.K.lookup c2 = some o2 -> cb o2 = some (P, q2) -> q2 = q) (hq : X.env.qual = q ++ ".<locals>.") (hB : OH X.K X.mg) (hcl : closureFor lsc X.env = pure cl) (hdef : defaultsOf params X.env = ([], []))
    (k : ∀ (fa c1 : Addr) (H1 : Hp) (s1 : Shared), Inv X pins σ H1 s1 -> Ext X.K μ H μ H1 -> cw X.K μ H1 -> H1 fa = some (.ext (Em fa c1 q params body lsc cl)) -> H1 c1 = some (.ext (codeAt c1 (bX q))) -> Qd (.ref fa) s1) :
    wpAny (model X.prog X.w) X.A (eval (.Lambda params body lsc lpos) X.env) Qd X.xe s := by
  refine PySem.W.kla_eval hdef ?_
  rw [hq]
  obtain ⟨ps, hP, htr, hcs⟩ := ok.tab c o P q hl hlc
  have getP : s.heap.get? P = some (PySem.W.tabObj ps) := I.hok P _ hP
  have nK : ∀ b ob, X.K.lookup b = some ob -> b ≠ P := fun b ob e z => by
    have := (I.bs b ob (I.mod.kin b ob e)).2
    rw [z, hP] at this; cases this
  have C := Nb I.kIn hl hlc (nK c o hl)
  have hg : s.heap.Ns mainGlobals X.mg := I.mod.glob.keeps I.bk
  have hgP : mainGlobals ≠ P := fun z => by
    obtain ⟨og, es, ep, e, d, _⟩ := hg
    rw [z, getP] at e; cases e; cases d
  have hb : s.heap.BuiltinsAt X.mg P := by
    obtain ⟨bm, ob, b1, b2, b3, b4, b5, b6⟩ := hB
    refine ⟨bm, ob, b1, b2, fun z => ?_, nK bm ob b3, I.kIn _ _ b3, b4, b5, b6⟩
    obtain ⟨og, es, ep, e, d, _⟩ := hg
    rw [<- z, I.kIn _ _ b3] at e; cases e; rw [b6] at d; cases d
  have stk : ∀ b, s.heap.objs.size ≤ b -> b ∉ frs X.stack := fun b hb hm => by
    obtain ⟨_, ob, e, _⟩ := I.stack.mem hm
    exact absurd (Heap.lt_size e) (Nat.not_lt.mpr hb)
  cases hf : codeAmong lpos ps.toList with
  | some cv =>
    obtain ⟨c1, rfl, hc1⟩ := hcs lpos cv hf
    refine PySem.W.kla_makeFunctionHit hcl I.ok.glob hg hcode C getP htr hf hb fun ctv h' tk hk hsz => ?_
    have fr := I.hok.fresh hsz
    have I2 := I.laid (t' := tk) (h' := h'.push { cls := .type "function", data := .func (PySem.W.kla_fn "<lambda>" (bX q) params body lsc cl ((X.mg "__name__").getD .none) (.ref c1) ctv) }) (a := h'.objs.size) (o := .ext (Em h'.objs.size c1 q params body lsc cl)) (fun b u e => Heap.get?_push_of_some _ (hk b u e)) hsz ⟨⟨_, _, Heap.get?_push_size _ rfl⟩, ⟨_, Heap.get?_push_size _ rfl⟩, fun h1 h2 ⟨pm, ct, e⟩ kk => ⟨pm, ct, kk _ e⟩⟩
    exact k h'.objs.size c1 _ _ I2 (cY fr) (ok.new fr) cL (by rw [bF (aZ hc1 fr)]; exact hc1)
  | none =>
    refine PySem.W.kla_makeFunction hcl I.ok.glob hg hcode C getP htr hf hgP hb fun c' ctv h' tk hx hge hlt hrec htb => ?_
    have hca : codeAt c' (bX q) h' := by
      obtain ⟨c2, oc, vs, t, e2, g2, d2, v2⟩ := hrec
      cases e2
      exact ⟨oc, vs, t, g2, d2, v2⟩
    have fc : H c' = none := I.hok.fresh hge
    have I1 : Inv X pins σ (upd (upd H P (.tbl (ps ++ [rawInt lpos.line, rawInt lpos.col, .ref c'].toArray))) c' (.ext (codeAt c' (bX q)))) { s with heap := h', toks := tk } := Jn (φ := codeAt c' (bX q)) I hP hx htb hge hca (let ⟨oc, _, _, g2, _⟩ := hca; ⟨oc, g2⟩) (fun h1 h2 ⟨oc, vs, t, g2, d2, v2⟩ kk => ⟨oc, vs, t, kk _ g2, d2, v2⟩)
    have old : ∀ b, b ≠ P -> b ≠ c' -> upd (upd H P (.tbl (ps ++ [rawInt lpos.line, rawInt lpos.col, .ref c'].toArray))) c' (.ext (codeAt c' (bX q))) b = H b := fun b h1 h2 => by rw [bF h2, bF h1]
    have nPc : P ≠ c' := aZ hP fc
    have ex : Ext X.K μ H μ (upd (upd H P (.tbl (ps ++ [rawInt lpos.line, rawInt lpos.col, .ref c'].toArray))) c' (.ext (codeAt c' (bX q)))) := ⟨fun b u e n nt => by rw [old b (fun z => by rw [z, hP] at e; cases e; exact nt) (aZ e fc)]; exact e, fun b qs e n => by
      by_cases z : b = P
      . exact ⟨_, by rw [z, bF nPc]; exact cL⟩
      . exact ⟨qs, by rw [old b z (aZ e fc)]; exact e⟩, fun _ ds e => ⟨ds, e⟩, fun _ e _ => e⟩
    have mu : cw X.K μ (upd (upd H P (.tbl (ps ++ [rawInt lpos.line, rawInt lpos.col, .ref c'].toArray))) c' (.ext (codeAt c' (bX q)))) := ⟨fun a ds e => by
      obtain ⟨xs, h1, h2⟩ := ok a ds e
      exact ⟨xs, by rw [old a (fun z => by rw [z, hP] at h1; cases h1) (aZ h1 fc)]; exact h1, h2.ext ok ex⟩, KD ok.tab hP htr hcs hf fc hu⟩
    have hfr : s.heap.objs.size <= h'.objs.size := Nat.le_trans hge (Nat.le_of_lt hlt)
    have frn : (upd (upd H P (.tbl (ps ++ [rawInt lpos.line, rawInt lpos.col, .ref c'].toArray))) c' (.ext (codeAt c' (bX q)))) h'.objs.size = none := by
      have : h'.objs.size ≠ c' := Nat.ne_of_gt hlt
      by_cases z : h'.objs.size = P
      . exact absurd (Heap.lt_size getP) (by rw [<- z]; exact Nat.not_lt.mpr hfr)
      . rw [old _ z this]; exact I.hok.fresh hfr
    have I2 := I1.laid (t' := tk) (h' := h'.push { cls := .type "function", data := .func (PySem.W.kla_fn "<lambda>" (bX q) params body lsc cl ((X.mg "__name__").getD .none) (.ref c') ctv) }) (a := h'.objs.size) (o := .ext (Em h'.objs.size c' q params body lsc cl)) (fun b u e => Heap.get?_push_of_some _ e) (Nat.le_refl _) ⟨⟨_, _, Heap.get?_push_size _ rfl⟩, ⟨_, Heap.get?_push_size _ rfl⟩, fun h1 h2 ⟨pm, ct, e⟩ kk => ⟨pm, ct, kk _ e⟩⟩
    have hc1 : (upd (upd H P (.tbl (ps ++ [rawInt lpos.line, rawInt lpos.col, .ref c'].toArray))) c' (.ext (codeAt c' (bX q)))) c' = some (.ext (codeAt c' (bX q))) := cL
    exact k h'.objs.size c' _ _ I2 (ex.trans (cY frn)) (mu.new frn) cL (by rw [bF (aZ hc1 frn)]; exact hc1)
end
section
variable {K : PySem.W.Frag} {μ : Mu} {H : Hp} {a : Addr} {us : List V} {ds : List D}
theorem Qz (ok : cw K μ H) (ha : H a = some (.lst us)) (hn : μ a = none) (r : jT K μ H ds us) : RpD K μ H (.q (QL ds)) (.ref a) := fun μ' H' e => ⟨a, us, rfl, e.keep _ _ ha hn trivial, e.fresh _ hn (.inl (by rw [ha]; exact fun z => nomatch z)), r.ext ok e⟩
theorem PR (ok : cw K μ H) (ha : H a = some (.tup us)) (r : jT K μ H ds us) : RpD K μ H (.q (QT ds)) (.ref a) := fun μ' H' e => ⟨a, us, rfl, e.keep _ _ ha (ok.not ha fun _ z => nomatch z) trivial, r.ext ok e⟩
theorem Oz {fa c1 : Addr} {q : Str} {params : Arguments} {body : Expr} {lsc : Scope} {cl : List (Str × Addr)} (ok : cw K μ H) (h1 : H fa = some (.ext (Em fa c1 q params body lsc cl))) (h2 : H c1 = some (.ext (codeAt c1 (bX q)))) : RpD K μ H (.q (Mt q params body lsc cl)) (.ref fa) := fun μ' H' e => by
  have n1 := ok.not h1 fun _ z => nomatch z
  have n2 := ok.not h2 fun _ z => nomatch z
  exact ⟨fa, c1, rfl, e.keep _ _ h1 n1 trivial, e.keep _ _ h2 n2 trivial, e.fresh _ n1 (.inl (by rw [h1]; exact fun z => nomatch z)), e.fresh _ n2 (.inl (by rw [h2]; exact fun z => nomatch z))⟩
end
section
variable {X : Cx} {es : List Expr} {t : DTA} {pos : Pos}
def dKq (P : PQ) : DTE := fun _ μ Q => Q (.q P) μ
theorem AZ {c P : Addr} {q : Str} {params : Arguments} {body : Expr} {lsc : Scope} {lpos : Pos} {cl : List (Str × Addr)} (L : Qy X.K X.mg c P q) (hcode : X.env.code = .ref c) (hq : X.env.qual = q ++ ".<locals>.") (hdef : defaultsOf params X.env = ([], [])) (hclos : closureFor lsc X.env = pure cl) :
    DE X (.Lambda params body lsc lpos) (dKq (Mt q params body lsc cl)) := by
  refine DY fun pins s σ H ρ μ Qd Q I S h kk => ?_
  obtain ⟨o, hl, hlc⟩ := L.obj
  refine Mv I S.mu hcode hl hlc L.one hq L.blt hclos hdef fun fa c1 H1 s1 I1 ex mu h1 h2 => ?_
  exact ⟨.ref fa, H1, I1, rfl, kk (.q _) (.ref fa) μ H1 ex ⟨mu, S.rho.ext S.mu ex⟩ (Oz mu h1 h2) h⟩
def Ly (t : DTA) : DTE := fun ρ μ Q => t ρ μ fun ds μ1 => Q (.q (QL ds)) μ1
theorem L7 (h : DA X es t) (hl : es.length <= 1000 := by decide) : DE X (.List es pos) (Ly t) := by
  obtain ⟨t1, p1, l1⟩ := h
  refine ⟨_, Lj p1, fun σ H ρ μ Qd Q S h k => ?_⟩
  refine l1 σ H ρ μ _ _ S h fun ds us μ1 H1 e1 S1 rs len h1 => ?_
  refine ⟨Nat.le_of_lt (eV (by rw [<- rs.length, len]; exact hl)), fun p hp => ?_⟩
  have e2 := cY (K := X.K) (μ := μ1) (o := .lst us) hp
  have S2 := S1.new (o := .lst us) hp
  exact k (.q (QL ds)) _ μ1 _ (e1.trans e2) S2 (Qz S2.mu cL (S1.mu.free hp) (rs.ext S1.mu e2)) h1
def Aj (t : DTA) : DTE := fun ρ μ Q => t ρ μ fun ds μ1 => Q (.q (QT ds)) μ1
theorem w6 {x1} (h : DA X es t) (hl : es.length <= 1000 := by decide) : DE X (.Tuple es x1 pos) (Aj t) := by
  obtain ⟨t1, p1, l1⟩ := h
  refine ⟨_, K0 p1, fun σ H ρ μ Qd Q S h k => ?_⟩
  refine l1 σ H ρ μ _ _ S h fun ds us μ1 H1 e1 S1 rs len h1 => ?_
  refine ⟨Nat.le_of_lt (eV (by rw [<- rs.length, len]; exact hl)), fun p hp => ?_⟩
  have e2 := cY (K := X.K) (μ := μ1) (o := .tup us) hp
  have S2 := S1.new (o := .tup us) hp
  exact k (.q (QT ds)) _ μ1 _ (e1.trans e2) S2 (PR S2.mu cL (rs.ext S1.mu e2)) h1
end
open PySem PySem.Spec PyProof.Rows
def Nz (K : PySem.W.Frag) (J : It) (xs : List D) (μ1 : Mu) (H1 : Hp) : Prop := ∀ μ2 H2, Ext K μ1 H1 μ2 H2 -> cw K μ2 H2 -> ∀ i, (i < xs.length -> J.go i H2 /\ ∀ x H', J.yld i H2 x H' -> ∃ d, xs[i]? = some d /\ qo H2 H' /\ RpD K μ2 H' d x) /\ (i = xs.length -> J.stop i H2)
abbrev Q6 := Rho -> Mu -> (List D -> Mu -> Prop) -> Prop
def OE (K : PySem.W.Frag) (wi : TI) (src : Q6) : Prop := ∀ (σ : St) (H : Hp) (ρ : Rho) (μ : Mu) (Qd : List D -> Mu -> Prop) (R : It -> Hp -> Prop), St0 K H ρ μ σ -> src ρ μ Qd ->
  (∀ xs μ1 H1 J, Ext K μ H μ1 H1 -> St0 K H1 ρ μ1 σ -> Nz K J xs μ1 H1 -> Qd xs μ1 -> R J H1) -> wi σ H R
def diQ (te : DTE) : Q6 := fun ρ μ Q => te ρ μ fun d μ1 => ∃ ds, d = .q (QL ds) /\ Q ds μ1
theorem Ru {X : Cx} {e tg : Expr} {te : DTE} (h : DE X e te) : ∃ wi, PI X tg e wi /\ OE X.K wi (diQ te) := by
  obtain ⟨t1, p1, l1⟩ := h
  refine ⟨_, Hn p1, fun σ H ρ μ Qd R S h k => ?_⟩
  refine l1 σ H ρ μ _ _ S h fun d u μ1 H1 e1 S1 r h1 => ?_
  obtain ⟨ds, rfl, h1⟩ := h1
  obtain ⟨a, us, rfl, ha, hn, ra⟩ := r μ1 H1 .refl
  refine ⟨a, rfl, ⟨us, SqL.of ha⟩, k ds μ1 H1 _ e1 S1 (fun μ2 H2 e2 ok2 i => ⟨fun hi => ?_, fun hi => ?_⟩) h1⟩
  . have ha2 := e2.keep _ _ ha hn trivial
    have hiu : i < us.length := by rw [<- ra.length]; exact hi
    refine ⟨⟨us, us[i], SqL.of ha2, by simp [hiu]⟩, fun x H' ⟨eH, hx⟩ => ?_⟩
    subst eH
    obtain ⟨u', h1', h2'⟩ := (ra.ext S1.mu e2).get (i := i) (d := ds[i]) (by simp [hi])
    have := hx us (SqL.of ha2)
    rw [this] at h1'
    cases h1'
    exact ⟨ds[i], by simp [hi], qo.refl _, h2'⟩
  . have ha2 := e2.keep _ _ ha hn trivial
    exact ⟨us, SqL.of ha2, by rw [<- ra.length]; omega⟩
theorem MM {K : PySem.W.Frag} {μ : Mu} {H : Hp} {ρ : Rho} {σ : St} {d : D} {u : V} (r : fz K μ H ρ σ) (h : RpD K μ H d u) : fz K μ H (ρ ++ [some d]) (σ ++ [some u]) := by
  refine ⟨by simp [r.1], fun i x e => ?_⟩
  rcases Nat.lt_or_ge i ρ.length with z | z
  . rw [List.getElem?_append_left z] at e
    obtain ⟨v, h1, h2⟩ := r.2 i x e
    exact ⟨v, by rw [List.getElem?_append_left (by rw [<- r.1]; exact z)]; exact h1, h2⟩
  . rw [List.getElem?_append_right z] at e
    have zi : i - ρ.length = 0 := by
      rcases Nat.eq_zero_or_pos (i - ρ.length) with q | q
      . exact q
      . rw [List.getElem?_eq_none (by simp; omega)] at e; cases e
    rw [zi] at e
    cases e
    exact ⟨u, by rw [List.getElem?_append_right (by rw [<- r.1]; exact z), <- r.1, zi]; rfl, h⟩
def Bu (cap : List (Option Nat)) (src : DTE) (g : DTG) (te : Rho -> PQ -> DTE) : DTE := fun ρ μ Q => diQ src ρ μ fun xs μ1 => xs.length ≤ 1000 /\ ∃ f : Nat -> PyData, (∀ (G : PQ) (i : Nat) (x : D), xs[i]? = some x -> ∀ μ' : Mu, (∀ a ds, μ1 a = some ds -> μ' a = some ds) -> g x (bZ cap ρ ++ [some (D.q G)]) μ' fun ρ2 μ2 => Le (bZ cap ρ ++ [some (D.q G)]) ρ2 /\ te ρ G ρ2 μ2 fun d μ4 => μ4 = μ' /\ d = .v (f i)) /\ Q (.v (.list ((List.range xs.length).map f))) μ1
theorem LK {X : Cx} {N' : List Str} {gx : Str} {scope : Scope} {cl : List (Str × Addr)} {elt iter tg : Expr} {pos : Pos} {cap : List (Option Nat)} {src : DTE} {g : DTG} {te : Rho -> PQ -> DTE} (hc : X.calm = X.calm)
    (hi0 : DE X iter src) (hg : ∀ fp s₃ H₃, DG (aY X (N' ++ [gx]) scope cl fp s₃ H₃) tg g)
    (he : ∀ fp s₃ H₃ pins σ ρ μ₁ (G : PQ), Inv X pins σ H₃ s₃ -> St0 X.K H₃ ρ μ₁ σ -> (∀ b ∈ fp, ∀ x a, X.env.cells.lookup x = some a -> a ≠ b) -> (∀ u μ H, G X.K u μ H -> fz X.K μ H ρ σ) -> DE (aY X (N' ++ [gx]) scope cl fp s₃ H₃) elt (te ρ G))
    (hclos : closureFor scope X.env = pure cl) (hcell : ∀ y ∈ scope.names, y.2 ≠ .cell) (hkind : scope.kind = .function) (hnames : ∀ y ∈ scope.names, y.2 = .local -> scope.names.lookup y.1 = some .local)
    (hcl : ∀ x a, cl.lookup x = some a -> X.env.cells.lookup x = some a) (hhas : ∀ x, (relabel scope X.env).names.lookup x = some .cell \/ (relabel scope X.env).names.lookup x = some .free -> ∃ a, cl.lookup x = some a)
    (hlen : cap.length = N'.length) (hcap : ∀ (i j : Nat) (x : Str), cap[i]? = some (some j) -> N'[i]? = some x -> X.N[j]? = some x /\ Vis X.env.scope x /\ X.env.kindOf x ≠ some .local /\ ((relabel scope X.env).names.lookup x = some .cell \/ (relabel scope X.env).names.lookup x = some .free))
    (hgx : (relabel scope X.env).names.lookup gx = none) (hs : ∀ x, foldedSetIterable iter X.env x = pure x := by intro _; rfl) : DE X (.ListComp elt [⟨tg, iter, [], 0⟩] scope pos) (Bu cap src g te) := by
  refine DY fun pins s σ H ρ μ Qd Q I S h k => ?_
  obtain ⟨wi, pw, li⟩ := Ru (tg := tg) hi0
  rw [eval_ListComp]
  refine wpAny_comprehension_free (use := none) rfl hs hclos hkind hnames (thn (pw pins s σ H _ I (li σ H ρ μ _ (fun J H1 => ∃ xs μ1, Ext X.K μ H μ1 H1 /\ St0 X.K H1 ρ μ1 σ /\ Nz X.K J xs μ1 H1 /\ xs.length ≤ 1000 /\ ∃ f : Nat -> PyData, (∀ (G : PQ) (i : Nat) (x : D), xs[i]? = some x -> ∀ μ' : Mu, (∀ a ds, μ1 a = some ds -> μ' a = some ds) -> g x (bZ cap ρ ++ [some (D.q G)]) μ' fun ρ2 μ2 => Le (bZ cap ρ ++ [some (D.q G)]) ρ2 /\ te ρ G ρ2 μ2 fun d μ4 => μ4 = μ' /\ d = .v (f i)) /\ Qd (.v (.list ((List.range xs.length).map f))) μ1) S h (fun xs μ1 H1 J e1 S1 it q => ⟨xs, μ1, e1, S1, it, q⟩)))
    fun v s1 h1 => thn h1 fun itv s2 h2 => ?_)
  obtain ⟨it, fp, tn, J, H2, rfl, I2, T, st2, f2, xs, μ1, e1, S1, itok, hxs, f, body, fin⟩ := h2
  refine wpAny_newObj_type (wpAny_newFunctionEnv hcell (by intro y hy; simp at hy) (fun h₁ hns₁ hsb₁ => ?_) hkind)
  dsimp only at hns₁ hsb₁ ⊢
  have hfree2 : H2 s2.heap.objs.size = none := I2.hok.fresh (Nat.le_refl _)
  have hK2 : X.K.lookup s2.heap.objs.size = none := by
    cases z : X.K.lookup s2.heap.objs.size with
    | none => rfl
    | some o => exact absurd (Heap.lt_size (I2.kIn _ _ z)) (Nat.lt_irrefl _)
  have I3 : Inv X pins σ (upd H2 s2.heap.objs.size (.lst [])) { s2 with heap := s2.heap.push { cls := .type "list", dict := none, data := .seq ([] : List Value).toArray } } :=
    I2.laid (t' := s2.toks) (fun b u e => Heap.get?_push_of_some _ e) (Nat.le_refl _) ⟨Nat.zero_le _, [], 0, .nil, Heap.get?_push_size _ rfl⟩
  generalize hH : s2.heap.push { cls := .type "list", dict := none, data := .seq ([] : List Value).toArray } = hp3 at hns₁ hsb₁ I3 ⊢
  have hsz3 : hp3.objs.size = s2.heap.objs.size + 1 := by rw [<- hH, Heap.size_push]
  have kept3 : ∀ b o, hp3.get? b = some o -> h₁.get? b = some o := fun b o e => hsb₁.extBut b o (Nat.ne_of_lt (Heap.lt_size e)) (Heap.get?_push_of_some _ e)
  have old3 : ∀ b o, s2.heap.get? b = some o -> hp3.get? b = some o := fun b o e => by rw [<- hH]; exact Heap.get?_push_of_some _ e
  have fplt : ∀ b ∈ fp, b < s2.heap.objs.size := fun b hb => by obtain ⟨o, e, _⟩ := T.obj 0 _ st2 b hb; exact Heap.lt_size e
  have fpst : ∀ b ∈ fp, b ∉ frs X.stack := fun b hb hz => by
    rcases List.mem_cons.mp (I2.qp b hz) with e | e
    . exact (f2 b hb).2.1 e
    . exact (f2 b hb).2.2.1 e
  obtain ⟨s3, hs3⟩ : ∃ s3 : Shared, s3 = { s2 with heap := hp3 } := ⟨_, rfl⟩
  obtain ⟨H3, hH3⟩ : ∃ H3 : Hp, H3 = upd H2 s2.heap.objs.size (.lst []) := ⟨_, rfl⟩
  have heap3 : s3.heap = hp3 := by rw [hs3]
  rw [<- hH3] at I3
  have I3' : Inv X pins σ H3 s3 := by rw [hs3]; exact I3
  have hloc : H3 hp3.objs.size = none := by have := I3'.hok.fresh (a := hp3.objs.size) (by rw [heap3]; exact Nat.le_refl _); exact this
  have okc : (aY X (N' ++ [gx]) scope cl fp s3 H3).Ok := by
    refine ⟨I3.ok.mod, ?_, I3.ok.glob, I3.ok.blt, Nat.le_refl _, fun x y a h1 h2 => I3.ok.inj x y a (hcl x a h1) (hcl y a h2), fun x hx => hhas x hx, fun x a h => (nomatch h), I3.ok.hd, I3.ok.qt, I3.ok.frames, .inl rfl, fun b hb => ⟨?_, fun x a h => (f2 b hb).2.2.2.2.1 x a (hcl x a h)⟩,
      I3'.bs, Nat.le_trans I3.ok.bsz I3'.sz, fun b o e hb => ?_, fun b hb => fpst b hb, I3'.stack, I3'.tP⟩
    . exact hkind
    . show b ≠ s3.heap.objs.size
      rw [heap3, hsz3]
      exact Nat.ne_of_lt (Nat.lt_succ_of_lt (fplt b hb))
    . rcases (f2 b hb).2.2.2.1 with z | z
      . exact I3.ok.CN b o e z
      . exact absurd (Nat.lt_of_lt_of_le (Heap.lt_size (I3.ok.bs b o e).1) z) (Nat.lt_irrefl _)
  have I4 : Inv (aY X (N' ++ [gx]) scope cl fp s3 H3) [] (bZ cap σ ++ [some .non]) H3 { s2 with heap := h₁, toks := s2.toks + ([] : List (Str × Value)).length } := by
    refine ⟨okc, by show s2.os = s3.os; rw [hs3], I3.bare, Un.kept (by show ∀ b o, s3.heap.get? b = some o -> _; rw [heap3]; exact kept3), ⟨_, (by show h₁.Ns s3.heap.objs.size _; rw [heap3]; exact hns₁), fun i x v e1 e2 e3 => ?_⟩, fun x a h => ?_, (by show H3 s3.heap.objs.size = none; rw [heap3]; exact hloc), fun x a h => I3.jZ x a (hcl x a h), fun p hp => ?_, I3.hok.kept kept3, ?_⟩
    . have lenS : (bZ cap σ).length = N'.length := by unfold bZ; rw [List.length_map]; exact hlen
      have hlt : i < N'.length := by
        rcases Nat.lt_trichotomy i N'.length with z | z | z
        . exact z
        . exfalso
          have e1' : (N' ++ [gx])[i]? = some x := e1
          rw [z, List.getElem?_append_right (Nat.le_refl _), Nat.sub_self] at e1'
          have : gx = x := by simpa using e1'
          subst this
          have e3' : Vis (relabel scope X.env) gx := e3
          rcases e3' with q | q | q <;> rw [hgx] at q <;> cases q
        . exfalso
          have e1' : (N' ++ [gx])[i]? = some x := e1
          rw [List.getElem?_eq_none (by simp; omega)] at e1'
          cases e1'
      have e1 : N'[i]? = some x := by have q : (N' ++ [gx])[i]? = some x := e1; rwa [List.getElem?_append_left hlt] at q
      have e2 : (bZ cap σ)[i]? = some (some v) := by rwa [List.getElem?_append_left (by rw [lenS]; exact hlt)] at e2
      obtain ⟨j, h1, h2⟩ := qm e2
      obtain ⟨hN, hv, hnl, hk⟩ := hcap i j x h1 e1
      obtain ⟨m, _, hl⟩ := I3.loc
      obtain ⟨u, r, lk⟩ := hl j x v hN h2 hv
      refine ⟨u, r, .inr ⟨hk, ?_⟩⟩
      obtain ⟨a, ha⟩ := hhas x hk
      rcases lk with ⟨z, _⟩ | ⟨_, a', z1, z2⟩
      . exact absurd z hnl
      . have : a' = a := by have q := hcl x a ha; rw [z1] at q; exact Option.some.inj q
        subst this
        obtain ⟨o, ho, hd⟩ := z2
        exact ⟨a', ha, o, kept3 _ _ ho, hd⟩
    . obtain ⟨v, o, ho, hd⟩ := I3.cell x a (hcl x a h)
      exact ⟨v, o, kept3 _ _ ho, hd⟩
    . have hp' : p ∈ X.pn ++ pins := List.mem_append_left _ (by simpa using (show p ∈ X.pn ++ [] from hp))
      obtain ⟨z1, z2, z3, z4, z5⟩ := I3'.pin p hp'
      refine ⟨kept3 _ _ (by rw [<- heap3]; exact z1), z2, (show p.1 ≠ s3.heap.objs.size from Nat.ne_of_lt (Heap.lt_size z1)), fun z => ?_, z5⟩
      rcases List.mem_cons.mp (I3'.qp p.1 z) with e | e
      . exact z3 e
      . exact z4 e
    . show (bZ cap σ ++ [some V.non]).length = (N' ++ [gx]).length
      unfold bZ
      rw [List.length_append, List.length_append, List.length_map, hlen]
      rfl
  have hμ1 : μ1 s2.heap.objs.size = none := S1.mu.free hfree2
  have sub1 : ∀ ys a ds, μ1 a = some ds -> aO μ1 s2.heap.objs.size ys a = some ds := fun ys a ds e => by
    have : a ≠ s2.heap.objs.size := fun z => by rw [z, hμ1] at e; cases e
    rw [bG this]; exact e
  obtain ⟨G, hG⟩ : ∃ G : PQ, G = fun K _ μ H => fz K μ H ρ σ := ⟨_, rfl⟩
  have hGr : ∀ u μ H, G X.K u μ H -> fz X.K μ H ρ σ := fun u μ H h => by rw [hG] at h; exact h
  have S3r : St0 X.K H3 ρ μ1 σ := by rw [hH3]; exact S1.new hfree2
  have loop : codeAny (model X.prog X.w) X.A (.compLoop (.ListComp elt [⟨tg, iter, [], 0⟩] scope pos) 0 (.ref it) (.ref s2.heap.objs.size) (aY X (N' ++ [gx]) scope cl fp s3 H3).env)
      (compPost (model X.prog X.w) X.A X.xe none (EP X pins σ Q) (.ref s2.heap.objs.size) hp3.objs.size) { s2 with heap := h₁, toks := s2.toks + ([] : List (Str × Value)).length } := by
    refine iK (fun n s' => ∃ (i : Nat) (σc : St) (Hc : Hp), n = xs.length - i /\ i ≤ xs.length /\ Inv (aY X (N' ++ [gx]) scope cl fp s3 H3) [] σc Hc s' /\ tn i s'.heap /\ (∀ b ∈ fp, Hc b = none) /\
      St0 X.K Hc (bZ cap ρ ++ [some (D.q G)]) (aO μ1 s2.heap.objs.size ((List.range i).map f)) σc /\ Ext X.K μ1 H2 (aO μ1 s2.heap.objs.size ((List.range i).map f)) Hc) ?_ xs.length
      ⟨0, bZ cap σ ++ [some .non], H3, by simp, Nat.zero_le _, I4, T.keep 0 _ _ st2 (fun b hb o e => kept3 b o (old3 b o e)), fun b hb => ?_, ?_, ?_⟩
    . rintro n s' ⟨i, σc, Hc, rfl, hi, Ic, tc, frc, Sc, Ec⟩
      have stat : ∀ {Hd : Hp}, (∀ b ∈ fp, Hd b = none) -> ∀ b ∈ fp, zC (aY X (N' ++ [gx]) scope cl fp s3 H3) [] Hd b := fun hn b hb =>
        ⟨hn b hb, (okc.exf b hb).1, fpst b hb, .inl hb, fun x a h => (okc.exf b hb).2 x a h, fun p hp => (f2 b hb).2.2.2.2.2 p (List.mem_append_left _ (by simpa using (show p ∈ X.pn ++ [] from hp)))⟩
      obtain ⟨go, stop⟩ := itok _ Hc Ec Sc.mu i
      by_cases hlt : i < xs.length
      . obtain ⟨g1, y1⟩ := go hlt
        refine thn (T.item (aY X (N' ++ [gx]) scope cl fp s3 H3) rfl rfl rfl (fun z => z) i [] s' σc Hc (fun _ _ => False) Ic (stat frc) tc g1) fun r s4 ⟨u, hr, h4⟩ => ?_
        subst hr
        refine thn h4 fun _ s5 ⟨x, H5, I5, r5, y5, st5, fr5⟩ => ?_
        obtain ⟨d, hd, sm, rd⟩ := y1 x H5 y5
        have I5' := I5.pinned (stat fr5) (T.obj _ _ st5)
        have e5 : Ext X.K _ Hc _ H5 := .of_same (μ := aO μ1 s2.heap.objs.size ((List.range i).map f)) sm
        have S5 : St0 X.K H5 (bZ cap ρ ++ [some (D.q G)]) (aO μ1 s2.heap.objs.size ((List.range i).map f)) σc := ⟨Sc.mu.Kr e5 sm, Sc.rho.ext Sc.mu e5⟩
        obtain ⟨gt, pg, lg⟩ := hg fp s3 H3
        have hmem : d ∈ xs := List.mem_of_getElem? hd
        refine thn (pg _ s5 σc H5 x u (fun σ' H' => ∃ ρ' μ', Ext X.K (aO μ1 s2.heap.objs.size ((List.range i).map f)) H5 μ' H' /\ St0 X.K H' ρ' μ' σ' /\ Le (bZ cap ρ ++ [some (D.q G)]) ρ' /\ te ρ G ρ' μ' fun d' μ4 => μ4 = aO μ1 s2.heap.objs.size ((List.range i).map f) /\ d' = .v (f i)) I5' r5
          (lg σc H5 (bZ cap ρ ++ [some (D.q G)]) _ d x _ _ S5 rd (body G i d hd _ (sub1 _)) fun σ' ρ' μ' H' e' S' q => ⟨ρ', μ', e', S', q⟩)) fun _ s6 ⟨σ6, H6, I6, ρ6, μ6, e6, S6, le6, q6⟩ => ?_
        have again : ∀ {H9 : Hp} {s9 : Shared}, Inv (aY X (N' ++ [gx]) scope cl fp s3 H3) ([] ++ rO fp s5.heap) σ6 H9 s9 -> cw X.K (aO μ1 s2.heap.objs.size ((List.range (i + 1)).map f)) H9 -> fz X.K (aO μ1 s2.heap.objs.size ((List.range (i + 1)).map f)) H9 (bZ cap ρ ++ [some (D.q G)]) σ6 ->
            Ext X.K μ1 H2 (aO μ1 s2.heap.objs.size ((List.range (i + 1)).map f)) H9 -> ∃ m, m < xs.length - i /\ ∃ (i : Nat) (σc : St) (Hc : Hp), m = xs.length - i /\ i ≤ xs.length /\ Inv (aY X (N' ++ [gx]) scope cl fp s3 H3) [] σc Hc s9 /\ tn i s9.heap /\ (∀ b ∈ fp, Hc b = none) /\
              St0 X.K Hc (bZ cap ρ ++ [some (D.q G)]) (aO μ1 s2.heap.objs.size ((List.range i).map f)) σc /\ Ext X.K μ1 H2 (aO μ1 s2.heap.objs.size ((List.range i).map f)) Hc := fun {H9 s9} I9 m9 r9 e9 => by
          refine ⟨xs.length - (i + 1), by omega, i + 1, σ6, H9, rfl, hlt, I9.kH, T.keep _ _ _ st5 fun b hb o e => (I9.pin (b, o) (List.mem_append_right _ (List.mem_append_right _ (eO hb e)))).1, fun b hb => ?_, ⟨m9, r9⟩, e9⟩
          obtain ⟨o, e, _⟩ := T.obj _ _ st5 b hb
          exact (I9.pin (b, o) (List.mem_append_right _ (List.mem_append_right _ (eO hb e)))).2.1
        refine wpAny_tests_nil (zW ?_)
        . skip
          obtain ⟨t8, p8, l8⟩ := he fp s3 H3 pins σ ρ μ1 G I3' S3r (fun b hb x a h => (f2 b hb).2.2.2.2.1 x a h) hGr
          refine thn (p8 _ s6 σ6 H6 (fun v H' => ∃ y, Ext X.K μ6 H6 (aO μ1 s2.heap.objs.size ((List.range i).map f)) H' /\ St0 X.K H' ρ6 (aO μ1 s2.heap.objs.size ((List.range i).map f)) σ6 /\ Rp X.K (aO μ1 s2.heap.objs.size ((List.range i).map f)) H' y v /\ f i = y) I6
            (l8 σ6 H6 ρ6 μ6 _ _ S6 q6 fun d' v μ8 H8 e8 S8 r8 q8 => ?_)) fun v s8 ⟨v8, H8, I8, r8, y, e8, S8, ry, fy⟩ => ?_
          . obtain ⟨rfl, rfl⟩ := q8
            exact ⟨_, e8, S8, r8, rfl⟩
          . obtain ⟨us, hacc, rus⟩ := S8.mu s2.heap.objs.size _ bD
            have hle : ((List.range i).map f).length <= 1000 := by rw [List.length_map, List.length_range]; omega
            refine thn (qV (X := aY X (N' ++ [gx]) scope cl fp s3 H3) _ s8 σ6 H8 (.ref s2.heap.objs.size) [v8] (.ref s2.heap.objs.size) [v] (fun _ H' => H' = upd H8 s2.heap.objs.size (.lst (us ++ [v8]))) I8 rfl (.cons r8 .nil) ⟨_, us, v8, rfl, rfl, hacc, by rw [<- rus.length]; exact eV hle, rfl⟩) fun _ s9 ⟨_, H9, I9, _, e9⟩ => ?_
            subst e9
            have et : (List.range (i + 1)).map f = (List.range i).map f ++ [y] := by rw [List.range_succ, List.map_append, <- fy]; rfl
            have mset : aO (aO μ1 s2.heap.objs.size ((List.range i).map f)) s2.heap.objs.size ((List.range (i + 1)).map f) = aO μ1 s2.heap.objs.size ((List.range (i + 1)).map f) := mJ
            have ex : Ext X.K (aO μ1 s2.heap.objs.size ((List.range i).map f)) H8 (aO μ1 s2.heap.objs.size ((List.range (i + 1)).map f)) (upd H8 s2.heap.objs.size (.lst (us ++ [v8]))) := by
              rw [<- mset]
              exact qK bD
            refine again I9 ?_ ((S8.rho.le le6).ext S8.mu ex) (Ec.trans (e5.trans (e6.trans (e8.trans ex))))
            rw [<- mset]
            refine S8.mu.set bD ?_
            rw [et]
            exact rus.append (.cons ry .nil)
      . have ei : i = xs.length := by omega
        subst ei
        refine thn (T.done (aY X (N' ++ [gx]) scope cl fp s3 H3) rfl rfl rfl (fun z => z) _ [] s' σc Hc (fun _ _ => False) Ic (stat frc) tc (stop rfl)) fun r s4 ⟨hr, I5⟩ => ?_
        subst hr
        obtain ⟨m, hn, _⟩ := I5.loc
        refine ⟨m, (by have z : s4.heap.Ns s3.heap.objs.size m := hn; rw [heap3] at z; exact z), fun h' hs' => ?_⟩
        have kp : ∀ b o, b < s2.heap.objs.size -> s4.heap.get? b = some o -> h'.get? b = some o := fun b o hb e => hs'.extBut b o (by rw [hsz3]; exact Nat.ne_of_lt (Nat.lt_succ_of_lt hb)) e
        have hcC : Hc hp3.objs.size = none := by have z : Hc s3.heap.objs.size = none := I5.free; rw [heap3] at z; exact z
        have hok' : HOk X.prog X.w Hc h' := fun b ob e => by
          refine (I5.hok b ob e).wx (fun cc v hcc q => hs'.extBut cc v ?_ q) (fun _ q => q) fun _ _ q => q
          rintro rfl
          rcases hcc with z | z
          . rw [<- z, hcC] at e; cases e
          . rw [hcC] at z; cases z
        have u1 : Un (frs X.stack) fp H2 H3 s2.heap s3.heap := by rw [heap3, hH3]; exact Un.laid old3 (Nat.le_refl _) hfree2
        have u2 : Un (frs X.stack) fp H3 Hc s3.heap s4.heap := I5.base
        have If : Inv X pins σ Hc { s4 with heap := h' } := I2.Ai (ch := fp) (by show s4.os = s2.os; have z : s4.os = s3.os := I5.os; rw [z, hs3]) (Un.after (u1.trans u2) kp) hok' I5.bare fun b hb => ⟨(f2 b hb).2.2.2.1, (f2 b hb).2.1, (f2 b hb).2.2.2.2.1, (f2 b hb).2.2.2.2.2⟩
        obtain ⟨us, hacc, rus⟩ := Sc.mu s2.heap.objs.size _ bD
        have shr : ∀ a, aO μ1 s2.heap.objs.size ((List.range xs.length).map f) a = none -> μ1 a = none := fun a e => by
          by_cases ha : a = s2.heap.objs.size
          . rw [ha]; exact hμ1
          . rw [bG ha] at e; exact e
        have eF : Ext X.K μ1 H2 μ1 Hc := ⟨Ec.keep, Ec.tb, fun _ ds q => ⟨ds, q⟩, fun _ q _ => q⟩
        have mF : cw X.K μ1 Hc := ⟨fun a ds q => by
          obtain ⟨ys, z1, z2⟩ := Sc.mu a ds (sub1 _ a ds q)
          exact ⟨ys, z1, z2.shrink shr⟩, Sc.mu.tab⟩
        exact ⟨.ref s2.heap.objs.size, Hc, If, rfl, k (.v (.list ((List.range xs.length).map f))) _ μ1 Hc (e1.trans eF) ⟨mF, S1.rho.ext S1.mu eF⟩ (Rp.list hacc hμ1 (rus.shrink shr)) fin⟩
    . have z : b ≠ s2.heap.objs.size := Nat.ne_of_lt (fplt b hb)
      rw [hH3, bF z]
      exact (f2 b hb).1
    . have ex := lN (o := .lst []) (ds := []) S1.mu hfree2 hK2
      rw [hH3]
      exact ⟨S1.mu.mut .nil hfree2 hK2, MM (S1.rho.ext S1.mu ex).cap (fun μ' H' e' => by rw [hG]; exact (S1.rho.ext S1.mu ex).ext (S1.mu.mut .nil hfree2 hK2) e')⟩
    . rw [hH3]
      exact lN (o := .lst []) (ds := []) S1.mu hfree2 hK2
  have envE : (aY X (N' ++ [gx]) scope cl fp s3 H3).env = compEnvC scope cl hp3.objs.size X.env := by show compEnvC scope cl s3.heap.objs.size X.env = _; rw [heap3]
  rw [envE] at loop
  exact codeAny_compStart_list loop (T.self X.A 0 _ _ _ (T.keep 0 _ _ st2 (fun b hb o e => kept3 b o (old3 b o e))) loop)
open PySem PySem.Spec PyProof.Rows
structure GA where
  P : PQ
  cap : List (Option Nat)
  tx : DTX
  nm : PyData
def LQ (ρo : Rho) (G : PQ) (gi vi : Nat) (tb : List GA) : DTE := fun ρ μ Q => ρ[gi]? = some (some (.q G)) /\ ∃ e ∈ tb, ρ[vi]? = some (some (.q e.P)) /\ e.tx (bZ e.cap ρo) μ fun μ' => Q (.v e.nm) μ'
def E9 (X : Cx) (k : Nat) (f : Addr) (fd : FuncData) (dn : Str) (e : GA) : Prop :=
  ∃ (C : Value) (q : Str) (params : Arguments) (body : Expr) (lsc : Scope) (cl : List (Str × Addr)) (N' : List Str) (nm : Str), e.nm = .str nm /\ e.P = Mt q params body lsc cl /\ Dc X.prog X.w X.K X.mg X.base k f fd dn C nm /\
    (∀ (A' : Around) (outer' : List Env) (s' : Shared) (H' : Hp) (fa c1 : Addr) (E : XK), ir (k - 1) (rJ X.prog X.w X.K X.mg X.base N' lsc cl (bX q) fa c1 A' outer' s' H' E).A -> XE (rJ X.prog X.w X.K X.mg X.base N' lsc cl (bX q) fa c1 A' outer' s' H' E) E C body e.tx) /\
    (∀ (pm ctv : Value) (c1 : Addr), bindArgs (PySem.W.kla_fn "<lambda>" (bX q) params body lsc cl pm (.ref c1) ctv) ⟨[], []⟩ = pure []) /\ lsc.kind = .function /\ lsc.isCoroutine = false /\ lsc.isGenerator = false /\ (∀ y ∈ lsc.names, y.2 ≠ .cell) /\
    (∀ x a, cl.lookup x = some a -> X.env.cells.lookup x = some a) /\ (∀ x, lsc.names.lookup x = some .cell \/ lsc.names.lookup x = some .free -> ∃ a, cl.lookup x = some a) /\ e.cap.length = N'.length /\
    (∀ (i j : Nat) (x : Str), e.cap[i]? = some (some j) -> N'[i]? = some x -> X.N[j]? = some x /\ Vis X.env.scope x /\ X.env.kindOf x ≠ some .local /\ lsc.names.lookup x = some .free)
theorem Ig {X : Cx} {k : Nat} {f : Addr} {fd : FuncData} {dn q nm : Str} {C : Value} {params : Arguments} {body : Expr} {lsc : Scope} {cl : List (Str × Addr)} {N' : List Str} {cap : List (Option Nat)} {tx : DTX}
    (R : Dc X.prog X.w X.K X.mg X.base k f fd dn C nm) (he : ∀ (A' : Around) (outer' : List Env) (s' : Shared) (H' : Hp) (fa c1 : Addr) (E : XK), ir (k - 1) (rJ X.prog X.w X.K X.mg X.base N' lsc cl (bX q) fa c1 A' outer' s' H' E).A -> XE (rJ X.prog X.w X.K X.mg X.base N' lsc cl (bX q) fa c1 A' outer' s' H' E) E C body tx)
    (hbind : ∀ (pm ctv : Value) (c1 : Addr), bindArgs (PySem.W.kla_fn "<lambda>" (bX q) params body lsc cl pm (.ref c1) ctv) ⟨[], []⟩ = pure [])
    (hkind : lsc.kind = .function) (hco : lsc.isCoroutine = false) (hgen : lsc.isGenerator = false) (hcell : ∀ y ∈ lsc.names, y.2 ≠ .cell) (hcl : ∀ x a, cl.lookup x = some a -> X.env.cells.lookup x = some a) (hhas : ∀ x, lsc.names.lookup x = some .cell \/ lsc.names.lookup x = some .free -> ∃ a, cl.lookup x = some a)
    (hlen : cap.length = N'.length) (hcap : ∀ (i j : Nat) (x : Str), cap[i]? = some (some j) -> N'[i]? = some x -> X.N[j]? = some x /\ Vis X.env.scope x /\ X.env.kindOf x ≠ some .local /\ lsc.names.lookup x = some .free) :
    E9 X k f fd dn ⟨Mt q params body lsc cl, cap, tx, .str nm⟩ := ⟨C, q, params, body, lsc, cl, N', nm, rfl, rfl, R, he, hbind, hkind, hco, hgen, hcell, hcl, hhas, hlen, hcap⟩
def Bs (X : Cx) (k : Nat) (f : Addr) (fd : FuncData) (dn : Str) (tb : List GA) : Prop := ∀ e ∈ tb, E9 X k f fd dn e
theorem JG {X : Cx} {k : Nat} {f : Addr} {fd : FuncData} {dn : Str} : Bs X k f fd dn [] := fun _ h => nomatch h
theorem qL {X : Cx} {k : Nat} {f : Addr} {fd : FuncData} {dn : Str} {e : GA} {tb : List GA} (h : E9 X k f fd dn e) (t : Bs X k f fd dn tb) : Bs X k f fd dn (e :: tb) := fun x hx => by
  rcases List.mem_cons.mp hx with rfl | hx
  . exact h
  . exact t x hx
theorem EY {X : Cx} {k : Nat} {f : Addr} {fd : FuncData} {dn rn vn : Str} {N₁ : List Str} {scope : Scope} {cl₀ : List (Str × Addr)} {fp : List Addr} {s₃ : Shared} {H₃ : Hp} {pins : List (Addr × Obj)} {σ : St} {ρo : Rho} {G : PQ} {gi vi : Nat} {tb : List GA} {p pv pos : Pos}
    (I3 : Inv X pins σ H₃ s₃) (hfp : ∀ b ∈ fp, ∀ x a, X.env.cells.lookup x = some a -> a ≠ b) (hG : ∀ u μ H, G X.K u μ H -> fz X.K μ H ρo σ) (T : Bs X k f fd dn tb)
    (hr : ir (k + 1) X.A) (hk0 : 0 < k) (hg : Gl (aY X N₁ scope cl₀ fp s₃ H₃) rn) (hm : X.mg rn = some (.ref f)) (hk : PySem.W.keepIn X.K (.ref f) = true) (hb : Binds X.K fd [dn] [])
    (hN : N₁[vi]? = some vn) (hv : Vis (aY X N₁ scope cl₀ fp s₃ H₃).env.scope vn)
    (hdb : (rn == ("__debug__" : Str)) = false := by decide) (hd : (vn == ("__debug__" : Str)) = false := by decide) (hcd : (vn == ("__classdict__" : Str)) = false := by decide)
    (hst : starEach [.Name vn pv] (aY X N₁ scope cl₀ fp s₃ H₃).env = [(false, eval (.Name vn pv) (aY X N₁ scope cl₀ fp s₃ H₃).env)] := by rfl) :
    DE (aY X N₁ scope cl₀ fp s₃ H₃) (.Call (.Name rn p) [.Name vn pv] [] pos) (LQ ρo G gi vi tb) := by
  refine DY fun pins' s' σ' H' ρ' μ' Qd Q I S h kk => ?_
  obtain ⟨hgi, e, he, hvi, htx⟩ := h
  obtain ⟨C, q, params, body, lsc, cl, N', nm, hnm, hP, R, hbody, hbind, hkind, hco, hgen, hcell, hcl, hhas, hlen, hcap⟩ := T e he
  obtain ⟨ug, hug, rg⟩ := S.rho.2 gi _ hgi
  have rr : fz X.K μ' H' ρo σ := hG ug μ' H' (rg μ' H' .refl)
  obtain ⟨ul, hul, rl⟩ := S.rho.2 vi _ hvi
  rw [hP] at rl
  rw [hnm] at htx
  obtain ⟨fa, c1, rfl, hfa, hc1, n1, n2⟩ := rl μ' H' .refl
  refine wpAny_Call_Name_kw (tE I hg hm ?_ hdb)
  have pa : PA (aY X N₁ scope cl₀ fp s₃ H₃) [.Name vn pv] (Nd (Oc vi) PV) := gy (Fl hN hv hd hcd) nV (by rw [hst]; rfl)
  refine PySem.W.callWith_K (h₀ := X.base) I.ok.mod.kin hk (thn (pa pos pins' s' σ' H' (fun xs H1 => xs = [.ref fa] /\ H1 = H') I ⟨.ref fa, hul, rfl, rfl⟩) fun us s1 ⟨vs, H1, I1, r, z1, z2⟩ => ⟨I1.kIn, ?_⟩) (by rw [hst]; rfl) rfl
  subst z1 z2
  obtain rfl : us = [.ref fa] := by
    cases r with
    | cons r1 r2 => cases r2; cases r1; rfl
  refine wpAny_call (codeAny_mono (R.run X.A X.stack s1 H1 fa (fun H' => ∃ μ'', Ext X.K μ' H1 μ'' H' /\ cw X.K μ'' H' /\ Qd (.v (.str nm)) μ'') Q hr I1.O1 (hb s1 [.ref fa] I1.kIn rfl) (fun A' outer' s' hr' e0' un => ?_) fun H' ⟨μ'', e', ok', q'⟩ => ?_) fun r s' hq' => ?_)
  . obtain ⟨⟨pm, ctv, ho'⟩, _, _⟩ := e0'.hok fa _ hfa
    refine ⟨⟨_, _, _, _, ho'⟩, ?_⟩
    obtain ⟨k', rfl⟩ : ∃ k', k = k' + 1 := ⟨k - 1, by omega⟩
    obtain ⟨t, pe, l⟩ := hbody A' outer' s' H1 fa c1 (fun cls _ H' => cls = C /\ ∃ μ'', Ext X.K μ' H1 μ'' H' /\ cw X.K μ'' H' /\ Qd (.v (.str nm)) μ'') (hr'.deeper _)
    have base : Un (aY X N₁ scope cl₀ fp s₃ H₃).fs fp H₃ H1 s₃.heap s1.heap := I1.base
    have nfp : ∀ x cc, X.env.cells.lookup x = some cc -> cc ∉ fp := fun x cc hx z => hfp cc z x cc hx rfl
    have frC : ∀ x cc, X.env.cells.lookup x = some cc -> H1 cc = none := fun x cc hx => by
      obtain ⟨v, oc, ec, dc⟩ := I3.cell x cc hx
      exact base.free cc oc ec (I3.jZ x cc hx) (nfp x cc hx)
    have cellK : ∀ x cc v, X.env.cells.lookup x = some cc -> s₃.heap.IsCell cc v -> s'.heap.IsCell cc v := fun x cc v hx ⟨oc, ec, dc⟩ => by
      obtain ⟨sl, e2⟩ := base.any ec (I3.jZ x cc hx) (nfp x cc hx)
      obtain ⟨sl', e3⟩ := un.any e2 (frC x cc hx) (fun z => nomatch z)
      exact ⟨_, e3, dc⟩
    refine Lv (σ := bZ e.cap σ) (N := N') hkind hco hgen hcell hr' e0' ho' hc1 (hbind pm ctv c1) ⟨fun x cc hx => ?_, fun x cc hx => frC x cc (hcl x cc hx), fun x y cc h1 h2 => I3.ok.inj x y cc (hcl x cc h1) (hcl y cc h2), hhas, fun i x v h1 h2 h3 => ?_, ?_⟩ pe (l _ H1 (bZ e.cap ρo) μ' (fun μ'' => Qd (.v (.str nm)) μ'') _ ⟨S.mu, rr.cap⟩ htx fun μ'' H' e' ok' q' => ⟨rfl, μ'', e', ok', q'⟩)
    . obtain ⟨v, hv⟩ := I3.cell x cc (hcl x cc hx)
      exact ⟨v, cellK x cc v (hcl x cc hx) hv⟩
    . obtain ⟨j, j1, j2⟩ := qm h2
      obtain ⟨hN, hv, hnl, hfree⟩ := hcap i j x j1 h1
      obtain ⟨m, _, hll⟩ := I3.loc
      obtain ⟨u, ru, lk⟩ := hll j x v hN j2 hv
      obtain ⟨a, ha⟩ := hhas x (.inr hfree)
      rcases lk with ⟨z, _⟩ | ⟨_, a', z1, z2⟩
      . exact absurd z hnl
      . obtain rfl : a' = a := by have qq := hcl x a ha; rw [z1] at qq; exact Option.some.inj qq
        exact ⟨u, a', ru, hfree, ha, cellK x a' _ z1 z2⟩
    . unfold bZ; rw [List.length_map]; exact hlen
  . exact ⟨μ'', ok', fun H'' e'' ok'' => kk (.v (.str nm)) (.str nm) μ'' H'' (e'.trans e'') ⟨ok'', S.rho.ext S.mu (e'.trans e'')⟩ (Rp.str nm) q'⟩
  . cases r with
    | error e => exact hq'.elim
    | ok fl =>
      cases fl with
      | ret u => exact I1.after hq'
      | next => exact hq'.elim
      | brk => exact hq'.elim
      | cont => exact hq'.elim
abbrev Dm := List D -> Rho -> Mu -> (Rho -> Mu -> Prop) -> Prop
def Py (K : PySem.W.Frag) (g : TGs) (gd : Dm) : Prop := ∀ (σ : St) (H : Hp) (ρ : Rho) (μ : Mu) (ds : List D) (us : List V) (Qd : Rho -> Mu -> Prop) (Q : St -> Hp -> Prop), St0 K H ρ μ σ -> jT K μ H ds us -> gd ds ρ μ Qd ->
  (∀ σ' ρ' μ' H', Ext K μ H μ' H' -> St0 K H' ρ' μ' σ' -> Qd ρ' μ' -> Q σ' H') -> g us σ H Q
def DGq (X : Cx) (tg : List Expr) (gd : Dm) : Prop := ∃ g, PGs X tg g /\ Py X.K g gd
def Kb : Dm := fun ds ρ μ Q => match ds with
  | [] => Q ρ μ
  | _ => False
def yD (g : DTG) (gs : Dm) : Dm := fun ds ρ μ Q => match ds with
  | d :: r => g d ρ μ fun ρ1 μ1 => gs r ρ1 μ1 Q
  | _ => False
theorem Mw {X : Cx} : DGq X [] Kb := ⟨_, HV, fun σ H ρ μ ds us Qd Q S r h k => by
  cases r with
  | nil => exact ⟨rfl, k σ ρ μ H .refl S h⟩
  | cons _ _ => exact h.elim⟩
theorem El {X : Cx} {e : Expr} {es : List Expr} {g : DTG} {gs : Dm} (h1 : DG X e g) (h2 : DGq X es gs) (hs : (assignEach (e :: es) X.env).map (·.2) = assign e X.env :: (assignEach es X.env).map (·.2) := by rfl) : DGq X (e :: es) (yD g gs) := by
  obtain ⟨t1, p1, l1⟩ := h1
  obtain ⟨t2, p2, l2⟩ := h2
  refine ⟨_, CY p1 p2 hs, fun σ H ρ μ ds us Qd Q S r h k => ?_⟩
  cases r with
  | nil => exact h.elim
  | @cons d u ds us r1 r2 =>
    refine ⟨u, us, rfl, l1 σ H ρ μ d u _ _ S r1 h fun σ' ρ' μ' H' e1 S' h1 => ?_⟩
    exact l2 σ' H' ρ' μ' ds us _ _ S' (r2.ext S.mu e1) h1 fun a b c d e2 => k a b c d (e1.trans e2)
def JF (n : Nat) (gs : Dm) : DTG := fun d ρ μ Q => ∃ ds, d = .q (QT ds) /\ ds.length = n /\ gs ds ρ μ Q
theorem Mr {X : Cx} {es : List Expr} {pos : Pos} {k n : Nat} {gs : Dm} (hc : X.calm = X.calm) (h : DGq X es gs)
    (hn : (assignEach es X.env).length = n := by rfl) (hst : (assignEach es X.env).findIdx? (·.1) = none := by rfl) : DG X (.Tuple es k pos) (JF n gs) := by
  obtain ⟨t1, p1, l1⟩ := h
  refine ⟨_, Ln hc p1 hn hst, fun σ H ρ μ d u Qd Q S r h k => ?_⟩
  obtain ⟨ds, rfl, hl, h⟩ := h
  obtain ⟨a, us, rfl, ha, ra⟩ := r μ H .refl
  exact ⟨a, us, rfl, .inl (.inl ha), by rw [<- ra.length]; exact hl, l1 σ H ρ μ _ us _ _ S ra h k⟩
theorem Gb {ρ : Rho} {μ : Mu} {Q : DK} {i : Nat} {tb : List GA} (hi : ρ[i]? = some (some (.q (QL (tb.map fun e => .q (QT [.v e.nm, .q e.P])))))) (hl : tb.length ≤ 1000) (hs : ∀ e ∈ tb, SeqAt.shaped e.nm = true)
    (htx : ∀ e ∈ tb, ∀ μ' : Mu, (∀ a es, μ a = some es -> μ' a = some es) -> ∀ Xk : Mu -> Prop, Xk μ' -> e.tx (bZ e.cap ρ) μ' Xk) (q : Q (.v (.list ((List.range tb.length).map fun _ => .bool true))) μ) :
    Bu [none, none] (ag i) (JF 2 (yD (az 0) (yD (az 1) Kb))) (fun ρo G => dOp (eZ false) (LQ ρo G 2 1 tb) (ag 0)) ρ μ Q := by
  unfold Bu diQ ag
  rw [hi]
  refine ⟨_, rfl, by rw [List.length_map]; exact hl, fun _ => .bool true, fun G j x hx μ' sub => ?_, by rw [List.length_map]; exact q⟩
  rw [List.getElem?_map] at hx
  cases he : tb[j]? with
  | none => rw [he] at hx; cases hx
  | some e =>
    rw [he] at hx
    cases hx
    have hm := List.mem_of_getElem? he
    have hs := hs e hm
    refine ⟨_, rfl, rfl, ⟨rfl, trivial⟩, rfl, e, hm, rfl, htx e hm μ' sub _ ?_⟩
    exact ⟨hs, hs, rfl, by rw [SeqAt.eqv_refl _ (SeqAt.canLay_of_shaped hs)]; rfl⟩
theorem RS {P : PQ} {ρ : Rho} {μ : Mu} {Q : DK} : dKq P ρ μ Q = Q (.q P) μ := propext Iff.rfl
theorem OP {t : DTA} {ρ : Rho} {μ : Mu} {Q : DK} : Ly t ρ μ Q = t ρ μ fun ds μ1 => Q (.q (QL ds)) μ1 := propext Iff.rfl
theorem Pu {t : DTA} {ρ : Rho} {μ : Mu} {Q : DK} : Aj t ρ μ Q = t ρ μ fun ds μ1 => Q (.q (QT ds)) μ1 := propext Iff.rfl
open PySem PySem.Spec PyProof.Rows
def Lc (k : Int) : List Int -> Option Nat
  | [] => none
  | x :: r => if x = k then some 0 else (Lc k r).map (· + 1)
section
variable {X : Cx} {o e : Expr} {to te : DTE} {apos cpos : Pos}
end
section
variable {X : Cx} {E : XK} {C : Value} {a b : Expr} {tx : DTX} {pos : Pos}
end
section
variable {X : Cx}
end
open PySem PySem.Spec PyProof.Rows
section
variable {X : Cx}
end
end L2.DL
set_option linter.all false
set_option maxRecDepth 100000
set_option maxHeartbeats 1000000
namespace NM
section
variable {d : Int} {x y z k s o : N3} {A B C A' B' C' P Q R E F G : Int}
theorem Rep.conv (h : Rep x A B C) (hc : C' ≠ 0) (e1 : A * C' = A' * C) (e2 : B * C' = B' * C) : Rep x A' B' C' := by
  obtain ⟨h0, h1, h2⟩ := h
  refine ⟨hc, Int.eq_of_mul_eq_mul_right h0 ?_, Int.eq_of_mul_eq_mul_right h0 ?_⟩
  . have : x.a * C' * C = (x.a * C) * C' := by grind
    rw [this, h1]
    have : A * x.c * C' = (A * C') * x.c := by grind
    rw [this, e1]
    grind
  . have : x.b * C' * C = (x.b * C) * C' := by grind
    rw [this, h2]
    have : B * x.c * C' = (B * C') * x.c := by grind
    rw [this, e2]
    grind
theorem AW (h : Rep x A B C) (ox : Ok x) : x.b = 0 ↔ B = 0 := by
  have e := h.b
  constructor
  . intro z
    rw [z, Int.zero_mul] at e
    exact (Int.mul_eq_zero.mp e.symm).resolve_right ox.cn
  . intro z
    rw [z, Int.zero_mul] at e
    exact (Int.mul_eq_zero.mp e).resolve_right h.c
theorem rD {u v : Int} (hv : v ≠ 0) : 0 <= u * (v * v) ↔ 0 <= u := by
  have h := sq_pos hv
  constructor
  . intro z
    rcases Int.lt_or_le u 0 with w | w
    . have := Int.mul_neg_of_neg_of_pos w h; omega
    . exact w
  . intro z; exact Int.mul_nonneg z (Int.le_of_lt h)
theorem ix {u v : Int} (hv : 0 < v) : 0 <= u * v ↔ 0 <= u := by
  constructor
  . intro z
    rcases Int.lt_or_le u 0 with w | w
    . have := Int.mul_neg_of_neg_of_pos w hv; omega
    . exact w
  . intro z; exact Int.mul_nonneg z (Int.le_of_lt hv)
theorem MP {u v : Int} (hv : v < 0) : 0 <= u * v ↔ u <= 0 := by
  have := ix (u := -u) (v := -v) (by omega)
  rw [Int.neg_mul_neg] at this
  omega
def eK (d : Int) (x : N3) : Bool := decide (x.b = 0) && decide (0 <= sg d x.a x.b)
theorem sg0 {n : Int} : 0 <= sg d n 0 ↔ 0 <= n := by
  rw [gM]
  split
  . omega
  . split <;> omega
theorem vM (ox : Ok x) (h : Rep x A 0 C) : eK d x = true ↔ 0 <= A * C := by
  have hb := (AW h ox).mpr rfl
  unfold eK
  rw [hb]
  simp only [decide_true, Bool.true_and, decide_eq_true_eq, sg0]
  have e := h.a
  rw [<- ix ox.c, <- rD (u := x.a * x.c) h.c]
  have e2 : x.a * x.c * (C * C) = (A * C) * (x.c * x.c) := by
    have : x.a * x.c * (C * C) = (x.a * C) * (x.c * C) := by grind
    rw [this, e]; grind
  rw [e2, rD ox.cn]
def shA (d : Int) (k s : N3) : N3 := times d s (ao d k)
def prt (d : Int) (k : N3) : N3 := times d (ao d k) (ao d k)
def shV (d : Int) (k s : N3) : N3 := low ((shA d k s).b * (prt d k).c) 0 ((shA d k s).c * (prt d k).b)
def shU (d : Int) (k s : N3) : N3 := less (shA d k s) (times d (shV d k s) (prt d k))
def xA (d : Int) (k s : N3) : N3 := if (times d k k).b = 0 then shA d k s else shU d k s
def xn (d : Int) (k s : N3) : N3 := if (times d k k).b = 0 then aB else shV d k s
def nA (d : Int) (k s : N3) : Bool := eK d (xA d k s) && eK d (xn d k s)
theorem Ql {a b c : Int} (hc : c ≠ 0) : (low a b c).b = 0 ↔ b = 0 := AW (iY hc) (iP _ _ hc)
theorem j4 (ok : Ok k) : (times d k k).b = 0 ↔ k.a * k.b = 0 := by
  unfold times
  rw [Ql (wH ok ok)]
  have : k.a * k.b + k.b * k.a = 2 * (k.a * k.b) := by grind
  omega
theorem BA (hn : norm d k ≠ 0) : Rep (ao d k) (k.c * k.a) (-k.c * k.b) (norm d k) := iY hn
theorem HG (ok : Ok k) (hn : norm d k ≠ 0) (rk : Rep k P Q R) : P * P - d * Q * Q ≠ 0 := fun z => by
  have h := rk.norm (d := d)
  rw [z, Int.zero_mul] at h
  rcases Int.mul_eq_zero.mp h with w | w
  . exact hn w
  . rcases Int.mul_eq_zero.mp w with w | w <;> exact rk.c w
theorem fJ (os : Ok s) (hn : norm d k ≠ 0) : Ok (shA d k s) := au os (aC hn)
theorem AK (hn : norm d k ≠ 0) : Ok (prt d k) := au (aC hn) (aC hn)
theorem pY (ok : Ok k) (os : Ok s) (hn : norm d k ≠ 0) (rk : Rep k P Q R) (rs : Rep s E F G) : Rep (shA d k s) (R * (E * P - d * F * Q)) (R * (F * P - E * Q)) (G * (P * P - d * Q * Q)) :=
  (Rep.times os (aC hn) rs (rk.ao ok hn)).congr (by grind) (by grind) rfl
theorem JX (ok : Ok k) (hn : norm d k ≠ 0) (rk : Rep k P Q R) : Rep (prt d k) (R * R * (P * P + d * Q * Q)) (-(2 * (R * R * (P * Q)))) ((P * P - d * Q * Q) * (P * P - d * Q * Q)) :=
  (Rep.times (aC hn) (aC hn) (rk.ao ok hn) (rk.ao ok hn)).congr (by grind) (by grind) rfl
theorem Nf (ok : Ok k) (hn : norm d k ≠ 0) (rk : Rep k P Q R) (hab : P * Q ≠ 0) : (prt d k).b ≠ 0 := fun z => by
  have := (AW (JX ok hn rk) (AK hn)).mp z
  have h2 : R * R * (P * Q) = 0 := by omega
  exact (Int.mul_ne_zero (Int.mul_ne_zero rk.c rk.c) hab) h2
theorem KH (ok : Ok k) (rk : Rep k P Q R) : P * Q = 0 ↔ k.a * k.b = 0 := by
  have e : (k.a * k.b) * (R * R) = (P * Q) * (k.c * k.c) := by
    have h1 := rk.a
    have h2 := rk.b
    have : (k.a * k.b) * (R * R) = (k.a * R) * (k.b * R) := by grind
    rw [this, h1, h2]; grind
  constructor
  . intro z
    rw [z, Int.zero_mul] at e
    exact (Int.mul_eq_zero.mp e).resolve_right (Int.mul_ne_zero rk.c rk.c)
  . intro z
    rw [z, Int.zero_mul] at e
    exact (Int.mul_eq_zero.mp e.symm).resolve_right (Int.mul_ne_zero ok.cn ok.cn)
theorem vv {wb wc pb pc r D g M N : Int} (e1 : wb * (g * N) = r * D * wc) (e2 : pb * (N * N) = -(2 * (r * r * M)) * pc) (hK : g * N * (N * N) ≠ 0) : wb * pc * (2 * (g * r * M)) = N * -D * (wc * pb) := by
  apply Int.eq_of_mul_eq_mul_right hK
  have a1 : wb * pc * (2 * (g * r * M)) * (g * N * (N * N)) = (wb * (g * N)) * (pc * (2 * (g * r * M)) * (N * N)) := by grind
  have a2 : N * -D * (wc * pb) * (g * N * (N * N)) = (N * -D * wc * (g * N)) * (pb * (N * N)) := by grind
  rw [a1, a2, e1, e2]
  grind
theorem Aq (ok : Ok k) (os : Ok s) (hn : norm d k ≠ 0) (rk : Rep k P Q R) (rs : Rep s E F G) (hab : P * Q ≠ 0) : Rep (shV d k s) ((P * P - d * Q * Q) * (E * Q - F * P)) 0 (2 * (G * R * (P * Q))) := by
  have ra := pY ok os hn rk rs
  have rp := JX ok hn rk
  have hN := HG ok hn rk
  have h1 := ra.b
  have h2 := rp.b
  have hc : (shA d k s).c * (prt d k).b ≠ 0 := Int.mul_ne_zero (fJ os hn).cn (Nf ok hn rk hab)
  have h0 := iY (a := (shA d k s).b * (prt d k).c) (b := 0) hc
  have hC : 2 * (G * R * (P * Q)) ≠ 0 := Int.mul_ne_zero (by decide) (Int.mul_ne_zero (Int.mul_ne_zero rs.c rk.c) hab)
  refine Rep.conv h0 hC ?_ (by simp)
  have := vv h1 h2 (Int.mul_ne_zero (Int.mul_ne_zero rs.c hN) (Int.mul_ne_zero hN hN))
  rw [this]
  grind
theorem yE (ok : Ok k) (os : Ok s) (hn : norm d k ≠ 0) (hab : k.a * k.b ≠ 0) : Ok (shV d k s) := iP _ _ (Int.mul_ne_zero (fJ os hn).cn (Nf ok hn (ai ok) hab))
theorem uu {e f g p q r d N : Int} (hN : N = p * p - d * q * q) : (r * (e * p - d * f * q) * (2 * (g * (p * q) * N)) - r * (e * q - f * p) * (p * p + d * q * q) * (g * N)) * (2 * (g * (p * q))) = r * (e * q + f * p) * (g * N * (2 * (g * (p * q) * N))) := by
  have key : (e * p - d * f * q) * (2 * (p * q)) - (e * q - f * p) * (p * p + d * q * q) = (e * q + f * p) * N := by subst hN; grind
  have : (r * (e * p - d * f * q) * (2 * (g * (p * q) * N)) - r * (e * q - f * p) * (p * p + d * q * q) * (g * N)) = r * g * N * ((e * p - d * f * q) * (2 * (p * q)) - (e * q - f * p) * (p * p + d * q * q)) := by grind
  rw [this, key]
  grind
theorem Dw (ok : Ok k) (os : Ok s) (hn : norm d k ≠ 0) (rk : Rep k P Q R) (rs : Rep s E F G) (hab : P * Q ≠ 0) : Rep (shU d k s) (R * (E * Q + F * P)) 0 (2 * (G * (P * Q))) := by
  have ra := pY ok os hn rk rs
  have rp := JX ok hn rk
  have rv := Aq ok os hn rk rs hab
  have hN := HG ok hn rk
  have hab' : k.a * k.b ≠ 0 := fun z => hab ((KH ok rk).mpr z)
  have oa := fJ (s := s) os hn
  have op := AK (k := k) hn
  have ov := yE ok os hn hab'
  have rt := Rep.times (d := d) ov op rv rp
  generalize hM : P * P - d * Q * Q = N at *
  have hC2 : 2 * (G * (P * Q) * N) ≠ 0 := Int.mul_ne_zero (by decide) (Int.mul_ne_zero (Int.mul_ne_zero rs.c hab) hN)
  have rt2 : Rep (times d (shV d k s) (prt d k)) (R * (E * Q - F * P) * (P * P + d * Q * Q)) (-(2 * (R * (E * Q - F * P) * (P * Q)))) (2 * (G * (P * Q) * N)) := by
    refine rt.conv hC2 ?_ ?_
    . generalize E * Q - F * P = T
      generalize P * P + d * Q * Q = S
      generalize P * Q = M
      grind
    . generalize E * Q - F * P = T
      generalize P * P + d * Q * Q = S
      generalize P * Q = M
      grind
  have rl := Rep.less oa (au ov op) ra rt2
  have hC : 2 * (G * (P * Q)) ≠ 0 := Int.mul_ne_zero (by decide) (Int.mul_ne_zero rs.c hab)
  refine rl.conv hC ?_ ?_
  . exact uu hM.symm
  . rw [Int.zero_mul]
    have : R * (F * P - E * Q) * (2 * (G * (P * Q) * N)) - -(2 * (R * (E * Q - F * P) * (P * Q))) * (G * N) = 0 := by grind
    rw [this, Int.zero_mul]
end
end NM
set_option linter.all false
set_option maxRecDepth 100000
set_option maxHeartbeats 4000000
namespace NM
section
variable {d : Int} {x y z : N3}
theorem ry1 (d a b a' b' p q : Int) (h1 : a' * p = a * q) (h2 : b' * p = b * q \/ b' * p = -b * q) : (a' * a' - d * b' * b') * (p * p) = (a * a - d * b * b) * (q * q) := by
  have e1 : a' * a' * (p * p) = a * a * (q * q) := by
    have : (a' * p) * (a' * p) = (a * q) * (a * q) := by rw [h1]
    grind
  have e2 : b' * b' * (p * p) = b * b * (q * q) := by
    have : (b' * p) * (b' * p) = (b * q) * (b * q) := by
      rcases h2 with h | h <;> rw [h] <;> grind
    grind
  have : (a' * a' - d * b' * b') * (p * p) = a' * a' * (p * p) - d * (b' * b' * (p * p)) := by grind
  rw [this, e1, e2]
  grind
theorem PJ (ox : Ok x) (hn : norm d x ≠ 0) : (ao d x).a * norm d x = x.a * (x.c * (ao d x).c) := by
  have := ((ai ox).ao ox hn).a
  have e : x.a * x.a - d * x.b * x.b = norm d x := rfl
  rw [e] at this
  rw [this]; grind
theorem Qn (ox : Ok x) (hn : norm d x ≠ 0) : (ao d x).b * norm d x = -x.b * (x.c * (ao d x).c) := by
  have := ((ai ox).ao ox hn).b
  have e : x.a * x.a - d * x.b * x.b = norm d x := rfl
  rw [e] at this
  rw [this]; grind
section
variable {f : N3}
end
end
end NM
set_option linter.all false
set_option maxRecDepth 100000
set_option maxHeartbeats 4000000
namespace NM
def Ht (d : Int) (n : Nat) (x : N3) : Prop := ∃ a b e f : Int, Sz n a /\ Sz n b /\ Sz n e /\ Sz n f /\ e * e - d * f * f ≠ 0 /\ x.a * e + d * x.b * f = a * x.c /\ x.a * f + x.b * e = b * x.c
section
variable {d : Int} {n m : Nat} {x y : N3}
theorem Ht.mono (h : Ht d n x) (l : n <= m) : Ht d m x := by
  obtain ⟨a, b, e, f, h1, h2, h3, h4, r⟩ := h
  exact ⟨a, b, e, f, h1.mono l, h2.mono l, h3.mono l, h4.mono l, r⟩
theorem sz0 : Sz n 0 := Sz.of (by simp; exact Nat.pos_of_ne_zero (by simp))
end
end NM
set_option linter.all false
set_option maxRecDepth 100000
set_option maxHeartbeats 4000000
namespace NM
section
variable {d : Int} {x y z : N3}
def gtL (d : Int) (k o : N3) : Prop := ((d6 d o).a.natAbs : Int) * (d6 d k).c < ((d6 d k).a.natAbs : Int) * (d6 d o).c
instance : Decidable (gtL d x y) := by unfold gtL; infer_instance
theorem lt3 {a b c p q r : Int} (hp : 0 < p) (hq : 0 < q) (hr : 0 < r) (h1 : a * q <= b * p) (h2 : b * r < c * q) : a * r < c * p := by
  refine Int.lt_of_mul_lt_mul_right (a := q) ?_ (Int.le_of_lt hq)
  have e1 : a * q * r <= b * p * r := Int.mul_le_mul_of_nonneg_right h1 (Int.le_of_lt hr)
  have e2 : b * r * p < c * q * p := Int.mul_lt_mul_of_pos_right h2 hp
  have f1 : a * r * q = a * q * r := by grind
  have f2 : c * p * q = c * q * p := by grind
  have f3 : b * p * r = b * r * p := by grind
  omega
theorem gt_trans (cx : 0 < (d6 d x).c) (cy : 0 < (d6 d y).c) (cz : 0 < (d6 d z).c) (h1 : ¬ gtL d y z) (h2 : gtL d x z) : gtL d x y := by
  unfold gtL at *
  exact lt3 cy cz cx (Int.not_lt.mp h1) h2
theorem K9 : ¬ gtL d x x := by unfold gtL; omega
def l7 (d : Int) (ks : List N3) : Nat -> Nat
  | 0 => 0
  | n + 1 => if gtL d (ks.getD (n + 1) aB) (ks.getD (l7 d ks n) aB) then n + 1 else l7 d ks n
theorem vN {ks : List N3} (hc : ∀ i, i < ks.length -> 0 < (d6 d (ks.getD i aB)).c) : ∀ n, n < ks.length -> l7 d ks n ≤ n /\ (∀ j, j ≤ n -> ¬ gtL d (ks.getD j aB) (ks.getD (l7 d ks n) aB)) /\ (∀ j, j < l7 d ks n -> gtL d (ks.getD (l7 d ks n) aB) (ks.getD j aB))
  | 0, h => ⟨Nat.le_refl _, fun j hj => by cases Nat.le_zero.mp hj; exact K9, fun j hj => absurd hj (by unfold l7; omega)⟩
  | n + 1, h => by
    obtain ⟨h1, h2, h3⟩ := vN hc n (by omega)
    unfold l7
    by_cases g : gtL d (ks.getD (n + 1) aB) (ks.getD (l7 d ks n) aB)
    . rw [if_pos g]
      have all : ∀ j, j ≤ n -> gtL d (ks.getD (n + 1) aB) (ks.getD j aB) := fun j hj => gt_trans (hc _ h) (hc _ (by omega)) (hc _ (by omega)) (h2 j hj) g
      refine ⟨Nat.le_refl _, fun j hj => ?_, fun j hj => all j (by omega)⟩
      by_cases e : j = n + 1
      . subst e; exact K9
      . have := all j (by omega)
        unfold gtL at this ⊢
        omega
    . rw [if_neg g]
      refine ⟨by omega, fun j hj => ?_, h3⟩
      by_cases e : j = n + 1
      . subst e; exact g
      . exact h2 j (by omega)
end
end NM
set_option linter.all false
set_option maxRecDepth 100000
set_option maxHeartbeats 400000
namespace NM
section
variable {d : Int} {x y z k s o f : N3}
def Lay (d : Int) (k s : N3) : Prop := (0 < norm d k /\ 0 < norm d s /\ s.b * s.b * (k.a * k.a) <= s.a * s.a * (k.b * k.b)) \/ (norm d k < 0 /\ norm d s < 0 /\ s.a * s.a * (k.b * k.b) <= s.b * s.b * (k.a * k.a))
theorem Kw {u v : Int} (hv : 0 <= v) (h : u * u <= v * v) : 0 <= v + u /\ 0 <= v - u := by
  rcases Int.lt_or_le u 0 with w | w
  . have := Hx (u := -u) (v := v) (by omega) (by rw [Int.neg_mul_neg]; exact h) hv
    omega
  . have := Hx w h hv
    omega
theorem ly1 {d P Q E F : Int} (hd : 0 < d) (hQ : Q ≠ 0) (hP : P ≠ 0) (hN : d * Q * Q < P * P) (h1 : 0 <= (E * Q + F * P) * (P * Q)) (h2 : 0 <= (E * Q - F * P) * (P * Q)) : F * F * (P * P) <= E * E * (Q * Q) /\ d * F * F <= E * E := by
  have h := Int.mul_nonneg h1 h2
  have e : (E * Q + F * P) * (P * Q) * ((E * Q - F * P) * (P * Q)) = (E * E * (Q * Q) - F * F * (P * P)) * ((P * Q) * (P * Q)) := by grind
  rw [e, rD (Int.mul_ne_zero hP hQ)] at h
  refine ⟨by omega, ?_⟩
  have h3 : 0 <= (P * P - d * Q * Q) * (F * F) := Int.mul_nonneg (by omega) (sq_nonneg F)
  have e2 : (P * P - d * Q * Q) * (F * F) = F * F * (P * P) - d * F * F * (Q * Q) := by grind
  have h4 : 0 <= (E * E - d * F * F) * (Q * Q) := by
    have : (E * E - d * F * F) * (Q * Q) = E * E * (Q * Q) - d * F * F * (Q * Q) := by grind
    rw [this]; omega
  rw [rD hQ] at h4
  omega
theorem ly2 {P Q E F : Int} (hP : 0 < P) (hE : 0 <= E) (h : F * F * (P * P) <= E * E * (Q * Q)) : 0 <= (E * Q + F * P) * (P * Q) /\ 0 <= (E * Q - F * P) * (P * Q) := by
  have hX : 0 <= E * P * (Q * Q) := Int.mul_nonneg (Int.mul_nonneg hE (by omega)) (sq_nonneg Q)
  have hs : (F * (P * P) * Q) * (F * (P * P) * Q) <= (E * P * (Q * Q)) * (E * P * (Q * Q)) := by
    have h1 := Int.mul_nonneg (show 0 <= E * E * (Q * Q) - F * F * (P * P) by omega) (sq_nonneg (P * Q))
    have e1 : (E * E * (Q * Q) - F * F * (P * P)) * (P * Q * (P * Q)) = (E * P * (Q * Q)) * (E * P * (Q * Q)) - (F * (P * P) * Q) * (F * (P * P) * Q) := by grind
    omega
  obtain ⟨a1, a2⟩ := Kw hX hs
  have e1 : (E * Q + F * P) * (P * Q) = E * P * (Q * Q) + F * (P * P) * Q := by grind
  have e2 : (E * Q - F * P) * (P * Q) = E * P * (Q * Q) - F * (P * P) * Q := by grind
  rw [e1, e2]
  exact ⟨a1, a2⟩
theorem ly3 {d P Q E F : Int} (hd : 0 < d) (hQ : Q ≠ 0) (hP : P ≠ 0) (hN : P * P < d * Q * Q) (h1 : 0 <= (E * Q + F * P) * (P * Q)) (h2 : (E * Q - F * P) * (P * Q) <= 0) : E * E * (Q * Q) <= F * F * (P * P) /\ E * E <= d * F * F := by
  have h := Int.mul_nonneg h1 (show 0 <= -((E * Q - F * P) * (P * Q)) by omega)
  have e : (E * Q + F * P) * (P * Q) * -((E * Q - F * P) * (P * Q)) = (F * F * (P * P) - E * E * (Q * Q)) * ((P * Q) * (P * Q)) := by grind
  rw [e, rD (Int.mul_ne_zero hP hQ)] at h
  refine ⟨by omega, ?_⟩
  have h3 : 0 <= (d * Q * Q - P * P) * (F * F) := Int.mul_nonneg (by omega) (sq_nonneg F)
  have e2 : (d * Q * Q - P * P) * (F * F) = d * F * F * (Q * Q) - F * F * (P * P) := by grind
  have h4 : 0 <= (d * F * F - E * E) * (Q * Q) := by
    have : (d * F * F - E * E) * (Q * Q) = d * F * F * (Q * Q) - E * E * (Q * Q) := by grind
    rw [this]; omega
  rw [rD hQ] at h4
  omega
theorem ly4 {P Q E F : Int} (hQ : 0 < Q) (hF : 0 <= F) (h : E * E * (Q * Q) <= F * F * (P * P)) : 0 <= (E * Q + F * P) * (P * Q) /\ (E * Q - F * P) * (P * Q) <= 0 := by
  have hY : 0 <= F * (P * P) * Q := Int.mul_nonneg (Int.mul_nonneg hF (sq_nonneg P)) (by omega)
  have hs : (E * P * (Q * Q)) * (E * P * (Q * Q)) <= (F * (P * P) * Q) * (F * (P * P) * Q) := by
    have h1 := Int.mul_nonneg (show 0 <= F * F * (P * P) - E * E * (Q * Q) by omega) (sq_nonneg (P * Q))
    have e1 : (F * F * (P * P) - E * E * (Q * Q)) * (P * Q * (P * Q)) = (F * (P * P) * Q) * (F * (P * P) * Q) - (E * P * (Q * Q)) * (E * P * (Q * Q)) := by grind
    omega
  obtain ⟨a1, a2⟩ := Kw hY hs
  have e1 : (E * Q + F * P) * (P * Q) = F * (P * P) * Q + E * P * (Q * Q) := by grind
  have e2 : (E * Q - F * P) * (P * Q) = -(F * (P * P) * Q - E * P * (Q * Q)) := by grind
  rw [e1, e2]
  exact ⟨a1, by omega⟩
theorem Hi (hd : aw d) (hs : sg d s.a s.b = 1) (hn : 0 < norm d s) : 0 < s.a := by
  have h : d * s.b * s.b < s.a * s.a := by have : norm d s = s.a * s.a - d * s.b * s.b := rfl; omega
  exact (lI hd h).mp ((iL hd).mp hs)
theorem HE (hd : aw d) (hs : sg d s.a s.b = 1) (hn : norm d s < 0) : 0 < s.b := by
  have h : s.a * s.a < d * s.b * s.b := by have : norm d s = s.a * s.a - d * s.b * s.b := rfl; omega
  exact (jY hd h).mp ((iL hd).mp hs)
theorem Bj : eK d aB = true := by
  unfold eK
  rw [show aB.b = 0 from rfl, show aB.a = 0 from rfl, show sg d 0 0 = 0 from cX.mpr ⟨rfl, rfl⟩]
  rfl
theorem sgA (hd : aw d) (ok : Ok k) (os : Ok s) (hk : sg d k.a k.b = 1) (hs : sg d s.a s.b = 1) : sg d (shA d k s).a (shA d k s).b = 1 := by
  have hn := aR hd ok hk
  unfold shA
  rw [fW hd os (aC hn), hs, dw hd ok hk]
  rfl
theorem Lu (hd : aw d) (ok : Ok k) (os : Ok s) (hk : sg d k.a k.b = 1) (hs : sg d s.a s.b = 1) (hl : k.a * k.b = 0) : nA d k s = true ↔ s.b * k.a = s.a * k.b := by
  have hn := aR hd ok hk
  unfold nA xA xn
  rw [if_pos ((j4 ok).mpr hl), if_pos ((j4 ok).mpr hl), Bj, Bool.and_true]
  unfold eK
  rw [sgA hd ok os hk hs]
  simp only [show decide ((0 : Int) ≤ 1) = true from rfl, Bool.and_true, decide_eq_true_eq]
  rw [AW (pY ok os hn (ai ok) (ai os)) (fJ os hn)]
  constructor
  . intro h
    have := (Int.mul_eq_zero.mp h).resolve_left ok.cn
    omega
  . intro h
    rw [show s.b * k.a - s.a * k.b = 0 by omega, Int.mul_zero]
theorem LW (hd : aw d) (ok : Ok k) (os : Ok s) (hk : sg d k.a k.b = 1) (hl : k.a * k.b ≠ 0) : nA d k s = true ↔ 0 <= (s.a * k.b + s.b * k.a) * (k.a * k.b) /\ 0 <= norm d k * ((s.a * k.b - s.b * k.a) * (k.a * k.b)) := by
  have hn := aR hd ok hk
  have hl' : ¬ (times d k k).b = 0 := fun z => hl ((j4 ok).mp z)
  unfold nA xA xn
  rw [if_neg hl', if_neg hl', Bool.and_eq_true]
  have ru := Dw ok os hn (ai ok) (ai os) hl
  have rv := Aq ok os hn (ai ok) (ai os) hl
  have ou : Ok (shU d k s) := wO (fJ os hn) (au (yE ok os hn hl) (AK hn))
  rw [vM ou ru, vM (yE ok os hn hl) rv]
  have hc := ok.c
  have hg := os.c
  have e1 : k.c * (s.a * k.b + s.b * k.a) * (2 * (s.c * (k.a * k.b))) = (s.a * k.b + s.b * k.a) * (k.a * k.b) * (2 * (k.c * s.c)) := by grind
  have e2 : (k.a * k.a - d * k.b * k.b) * (s.a * k.b - s.b * k.a) * (2 * (s.c * k.c * (k.a * k.b))) = norm d k * ((s.a * k.b - s.b * k.a) * (k.a * k.b)) * (2 * (k.c * s.c)) := by
    show norm d k * _ * _ = _
    grind
  have hp : 0 < 2 * (k.c * s.c) := Int.mul_pos (by decide) (Int.mul_pos hc hg)
  rw [e1, e2, ix hp, ix hp]
theorem Mj (hd : aw d) (ok : Ok k) (os : Ok s) (hk : sg d k.a k.b = 1) (hs : sg d s.a s.b = 1) : nA d k s = true ↔ Lay d k s := by
  have hn := aR hd ok hk
  have hm := aR hd os hs
  have d0 : 0 < d := by have := hd.1; omega
  have nk : norm d k = k.a * k.a - d * k.b * k.b := rfl
  have ns : norm d s = s.a * s.a - d * s.b * s.b := rfl
  by_cases hl : k.a * k.b = 0
  . rw [Lu hd ok os hk hs hl]
    rcases Int.mul_eq_zero.mp hl with h0 | h0
    . have kb : k.b ≠ 0 := fun z => by rw [h0, z] at nk; simp at nk; exact hn nk
      have n1 : norm d k < 0 := by
        have := Int.mul_pos d0 (sq_pos kb)
        rw [nk, h0, Int.mul_assoc]; simp; omega
      rw [h0, Int.mul_zero]
      constructor
      . intro h
        have hE : s.a = 0 := (Int.mul_eq_zero.mp h.symm).resolve_right kb
        have sb : s.b ≠ 0 := fun z => by rw [hE, z] at ns; simp at ns; exact hm ns
        refine .inr ⟨n1, ?_, ?_⟩
        . have := Int.mul_pos d0 (sq_pos sb)
          rw [ns, hE, Int.mul_assoc]; simp; omega
        . rw [hE]; simp [h0]
      . rintro (⟨z, _⟩ | ⟨_, _, h⟩)
        . omega
        . rw [h0] at h
          simp only [Int.mul_zero] at h
          have h2 := Int.mul_nonneg (sq_nonneg s.a) (sq_nonneg k.b)
          have h3 : s.a * s.a * (k.b * k.b) = 0 := by omega
          have h4 := (Int.mul_eq_zero.mp h3).resolve_right (Int.mul_ne_zero kb kb)
          have h5 : s.a = 0 := by rcases Int.mul_eq_zero.mp h4 with w | w <;> exact w
          rw [h5]; simp
    . have ka : k.a ≠ 0 := fun z => by rw [h0, z] at nk; simp at nk; exact hn nk
      have n1 : 0 < norm d k := by
        have := sq_pos ka
        rw [nk, h0]; simp; omega
      rw [h0, Int.mul_zero]
      constructor
      . intro h
        have hF : s.b = 0 := (Int.mul_eq_zero.mp h).resolve_right ka
        have sa : s.a ≠ 0 := fun z => by rw [hF, z] at ns; simp at ns; exact hm ns
        refine .inl ⟨n1, ?_, ?_⟩
        . have := sq_pos sa
          rw [ns, hF]; simp; omega
        . rw [hF]; simp [h0]
      . rintro (⟨_, _, h⟩ | ⟨z, _⟩)
        . rw [h0] at h
          simp only [Int.mul_zero] at h
          have h2 := Int.mul_nonneg (sq_nonneg s.b) (sq_nonneg k.a)
          have h3 : s.b * s.b * (k.a * k.a) = 0 := by omega
          have h4 := (Int.mul_eq_zero.mp h3).resolve_right (Int.mul_ne_zero ka ka)
          have h5 : s.b = 0 := by rcases Int.mul_eq_zero.mp h4 with w | w <;> exact w
          rw [h5]; simp
        . omega
  . rw [LW hd ok os hk hl]
    have ka : k.a ≠ 0 := fun z => hl (by rw [z, Int.zero_mul])
    have kb : k.b ≠ 0 := fun z => hl (by rw [z, Int.mul_zero])
    rcases Int.lt_or_le 0 (norm d k) with n1 | n1
    . have hk' := Hi hd hk n1
      rw [show (0 <= norm d k * ((s.a * k.b - s.b * k.a) * (k.a * k.b))) ↔ 0 <= (s.a * k.b - s.b * k.a) * (k.a * k.b) from by rw [Int.mul_comm]; exact ix n1]
      constructor
      . rintro ⟨h1, h2⟩
        obtain ⟨a1, a2⟩ := ly1 d0 kb ka (by omega) h1 h2
        exact .inl ⟨n1, by omega, a1⟩
      . rintro (⟨_, n2, h⟩ | ⟨z, _⟩)
        . have := Hi hd hs n2
          exact ly2 hk' (by omega) h
        . omega
    . have n1 : norm d k < 0 := by omega
      have hk' := HE hd hk n1
      rw [show (0 <= norm d k * ((s.a * k.b - s.b * k.a) * (k.a * k.b))) ↔ (s.a * k.b - s.b * k.a) * (k.a * k.b) <= 0 from by rw [Int.mul_comm]; exact MP n1]
      constructor
      . rintro ⟨h1, h2⟩
        obtain ⟨a1, a2⟩ := ly3 d0 kb ka (by omega) h1 h2
        exact .inr ⟨n1, by omega, a1⟩
      . rintro (⟨z, _⟩ | ⟨_, n2, h⟩)
        . omega
        . have := HE hd hs n2
          exact ly4 hk' (by omega) h
end
end NM
set_option linter.all false
set_option maxRecDepth 100000
set_option maxHeartbeats 400000
namespace NM
section
variable {d : Int} {x y z k s o f : N3}
structure Ray (d : Int) (s t : N3) : Prop where
  ex : ∃ p q : Int, p ≠ 0 /\ q ≠ 0 /\ t.a * p = s.a * q /\ (t.b * p = s.b * q \/ t.b * p = -s.b * q)
theorem kL {t : N3} (h : Ray d s t) : (0 < norm d t ↔ 0 < norm d s) /\ (norm d t < 0 ↔ norm d s < 0) := by
  obtain ⟨p, q, hp, hq, h1, h2⟩ := h.ex
  have e := ry1 d _ _ _ _ p q h1 h2
  change norm d t * (p * p) = norm d s * (q * q) at e
  have a1 := rD (u := norm d t) hp
  have a2 := rD (u := norm d s) hq
  have b1 := rD (u := -norm d t) hp
  have b2 := rD (u := -norm d s) hq
  rw [Int.neg_mul] at b1 b2
  rw [e] at a1 b1
  omega
theorem JE {t : N3} (h : Ray d s t) : ∃ p q : Int, 0 < p /\ 0 < q /\ t.a * t.a * p = s.a * s.a * q /\ t.b * t.b * p = s.b * s.b * q := by
  obtain ⟨p, q, hp, hq, h1, h2⟩ := h.ex
  refine ⟨p * p, q * q, sq_pos hp, sq_pos hq, ?_, ?_⟩
  . have : (t.a * p) * (t.a * p) = (s.a * q) * (s.a * q) := by rw [h1]
    grind
  . have : (t.b * p) * (t.b * p) = (s.b * q) * (s.b * q) := by
      rcases h2 with h | h <;> rw [h] <;> grind
    grind
theorem Bp {A B A' B' p q X Y : Int} (hp : 0 < p) (hq : 0 < q) (h1 : A' * p = A * q) (h2 : B' * p = B * q) : (A' * X <= B' * Y) ↔ (A * X <= B * Y) := by
  have a := ix (u := B' * Y - A' * X) hp
  have b := ix (u := B * Y - A * X) hq
  have e : (B' * Y - A' * X) * p = (B * Y - A * X) * q := by
    have : (B' * Y - A' * X) * p = B' * p * Y - A' * p * X := by grind
    rw [this, h1, h2]; grind
  rw [e] at a
  omega
theorem Ii {t : N3} (h : Ray d s t) : Lay d k t ↔ Lay d k s := by
  obtain ⟨n1, n2⟩ := kL h
  obtain ⟨p, q, hp, hq, e1, e2⟩ := JE h
  unfold Lay
  rw [n1, n2, Bp hp hq e2 e1, Bp hp hq e1 e2]
theorem C0 {t : N3} (h : Ray d k t) : Lay d t s ↔ Lay d k s := by
  obtain ⟨n1, n2⟩ := kL h
  obtain ⟨p, q, hp, hq, e1, e2⟩ := JE h
  unfold Lay
  rw [n1, n2]
  have c1 : ∀ A B : Int, (A * (t.a * t.a) ≤ B * (t.b * t.b)) ↔ (A * (k.a * k.a) ≤ B * (k.b * k.b)) := fun A B => by
    rw [Int.mul_comm A, Int.mul_comm B, Int.mul_comm A, Int.mul_comm B]; exact Bp hp hq e1 e2
  have c2 : ∀ A B : Int, (A * (t.b * t.b) ≤ B * (t.a * t.a)) ↔ (A * (k.b * k.b) ≤ B * (k.a * k.a)) := fun A B => by
    rw [Int.mul_comm A, Int.mul_comm B, Int.mul_comm A, Int.mul_comm B]; exact Bp hp hq e2 e1
  rw [c1, c2]
theorem uw (ox : Ok s) (hn : norm d s ≠ 0) : Ray d s (ao d s) :=
  ⟨_, _, hn, Int.mul_ne_zero ox.cn (aC hn).cn, PJ ox hn, .inr (Qn ox hn)⟩
theorem LU (os : Ok s) (of : Ok f) (fb : f.b = 0) (fa : 0 < f.a) : Ray d s (times d s f) := by
  have r := Rep.times (d := d) os of (ai os) (ai of)
  refine ⟨_, _, r.c, Int.mul_ne_zero (show f.a ≠ 0 by omega) (au (d := d) os of).cn, ?_, .inl ?_⟩
  . rw [r.a, fb]; grind
  . rw [r.b, fb]; grind
theorem E1 (ok : Ok k) (os : Ok s) (hn : norm d k ≠ 0) : Ok (xA d k s) := by
  unfold xA
  split
  . exact fJ os hn
  . rename_i h
    exact wO (fJ os hn) (au (yE ok os hn (fun z => h ((j4 ok).mpr z))) (AK hn))
theorem FN (ok : Ok k) (os : Ok s) (hn : norm d k ≠ 0) : Ok (xn d k s) := by
  unfold xn
  split
  . exact cM
  . rename_i h
    exact yE ok os hn (fun z => h ((j4 ok).mpr z))
theorem AH (hl : (times d k k).b = 0) : xA d k s = shA d k s := if_pos hl
theorem A6 (hl : (times d k k).b = 0) : xn d k s = aB := if_pos hl
theorem HQ (hl : ¬ (times d k k).b = 0) : xA d k s = shU d k s := if_neg hl
theorem Hj (hl : ¬ (times d k k).b = 0) : xn d k s = shV d k s := if_neg hl
theorem OF (ok : Ok k) (os : Ok s) (oo : Ok o) (hn : norm d k ≠ 0) : xA d k (plus s o) = plus (xA d k s) (xA d k o) := by
  by_cases hl : (times d k k).b = 0
  . rw [AH hl, AH hl, AH hl]
    have r1 := pY ok (aT os oo) hn (ai ok) (Rep.plus os oo (ai os) (ai oo))
    have r2 := Rep.plus (fJ os hn) (fJ oo hn) (pY ok os hn (ai ok) (ai os)) (pY ok oo hn (ai ok) (ai oo))
    exact Rep.eq (fJ (aT os oo) hn) (aT (fJ os hn) (fJ oo hn)) r1 r2 (by grind) (by grind)
  . have h' : k.a * k.b ≠ 0 := fun z => hl ((j4 ok).mpr z)
    have o1 := E1 (d := d) ok (aT os oo) hn
    have o2 := E1 (d := d) ok os hn
    have o3 := E1 (d := d) ok oo hn
    rw [HQ hl] at o1 o2 o3 ⊢
    rw [HQ hl, HQ hl]
    have r1 := Dw ok (aT os oo) hn (ai ok) (Rep.plus os oo (ai os) (ai oo)) h'
    have r2 := Rep.plus o2 o3 (Dw ok os hn (ai ok) (ai os) h') (Dw ok oo hn (ai ok) (ai oo) h')
    exact Rep.eq o1 (aT o2 o3) r1 r2 (by grind) (by grind)
theorem NY (ok : Ok k) (os : Ok s) (oo : Ok o) (hn : norm d k ≠ 0) : xn d k (plus s o) = plus (xn d k s) (xn d k o) := by
  by_cases hl : (times d k k).b = 0
  . rw [A6 hl, A6 hl, A6 hl]
    exact (by decide : aB = plus aB aB)
  . have h' : k.a * k.b ≠ 0 := fun z => hl ((j4 ok).mpr z)
    have o1 := FN (d := d) ok (aT os oo) hn
    have o2 := FN (d := d) ok os hn
    have o3 := FN (d := d) ok oo hn
    rw [Hj hl] at o1 o2 o3 ⊢
    rw [Hj hl, Hj hl]
    have r1 := Aq ok (aT os oo) hn (ai ok) (Rep.plus os oo (ai os) (ai oo)) h'
    have r2 := Rep.plus o2 o3 (Aq ok os hn (ai ok) (ai os) h') (Aq ok oo hn (ai ok) (ai oo) h')
    exact Rep.eq o1 (aT o2 o3) r1 r2 (by grind) (by grind)
theorem xh (h : eK d x = true) : x.b = 0 := by
  unfold eK at h
  simp only [Bool.and_eq_true, decide_eq_true_eq] at h
  exact h.1
theorem BG (h : eK d x = true) : 0 <= x.a := by
  have hb := xh h
  unfold eK at h
  simp only [Bool.and_eq_true, decide_eq_true_eq] at h
  rw [hb] at h
  exact sg0.mp h.2
theorem yQ (ox : Ok x) (oy : Ok y) (hx : eK d x = true) (hy : eK d y = true) : eK d (plus x y) = true := by
  have r := Rep.plus ox oy (ai ox) (ai oy)
  rw [xh hx, xh hy] at r
  simp only [Int.zero_mul, Int.add_zero] at r
  rw [vM (aT ox oy) r]
  have a := BG hx
  have b := BG hy
  have c := ox.c
  have c2 := oy.c
  exact Int.mul_nonneg (Int.add_nonneg (Int.mul_nonneg a (by omega)) (Int.mul_nonneg b (by omega))) (Int.mul_nonneg (by omega) (by omega))
theorem LD (ok : Ok k) (os : Ok s) (oo : Ok o) (hn : norm d k ≠ 0) (h1 : nA d k s = true) (h2 : nA d k o = true) : nA d k (plus s o) = true := by
  unfold nA at *
  rw [Bool.and_eq_true] at *
  rw [OF ok os oo hn, NY ok os oo hn]
  exact ⟨yQ (E1 ok os hn) (E1 ok oo hn) h1.1 h2.1, yQ (FN ok os hn) (FN ok oo hn) h1.2 h2.2⟩
theorem DN (ok : Ok k) (hn : norm d k ≠ 0) : norm d (ao d k) ≠ 0 := by
  have o := aC hn
  intro z
  have t := k6 ok hn
  have e := congrArg (norm d) t
  have n1 : norm d one = 1 := by unfold norm one; simp
  have r := (Rep.times (d := d) ok o (ai ok) (ai o)).norm (d := d)
  rw [e, n1] at r
  have e2 : (k.a * (ao d k).a + d * k.b * (ao d k).b) * (k.a * (ao d k).a + d * k.b * (ao d k).b) - d * (k.a * (ao d k).b + k.b * (ao d k).a) * (k.a * (ao d k).b + k.b * (ao d k).a) = norm d k * norm d (ao d k) := by
    unfold norm; grind
  rw [e2, z, Int.mul_zero, Int.zero_mul, Int.one_mul] at r
  have h1 := Int.mul_ne_zero ok.cn o.cn
  exact Int.mul_ne_zero h1 h1 r
theorem Mp (ok : Ok k) (hn : norm d k ≠ 0) : ao d (ao d k) = k := by
  have r := (BA hn).ao (aC hn) (DN ok hn)
  have e : k.c * k.a * (k.c * k.a) - d * (-k.c * k.b) * (-k.c * k.b) = k.c * k.c * norm d k := by unfold norm; grind
  rw [e] at r
  refine Rep.eq (aC (DN ok hn)) ok r (ai ok) ?_ ?_ <;> grind
theorem Mc (ok : Ok k) (os : Ok s) (hn : norm d k ≠ 0) : plus (times d (xA d k s) k) (times d (xn d k s) (ao d k)) = s := by
  have oc := aC hn
  by_cases hl : (times d k k).b = 0
  . rw [AH hl, A6 hl]
    have oa := fJ os hn
    have r := Rep.plus (au (d := d) oa ok) (au (d := d) cM oc) (Rep.times (d := d) oa ok (pY ok os hn (ai ok) (ai os)) (ai ok)) (Rep.times (d := d) cM oc (ai cM) (BA hn))
    refine Rep.eq (aT (au oa ok) (au cM oc)) os r (ai os) ?_ ?_
    . show ((_ + _) * (1 * _) + (0 * _ + d * 0 * _) * _) * _ = _
      show _ = s.a * (s.c * norm d k * k.c * (1 * norm d k))
      have : norm d k = k.a * k.a - d * k.b * k.b := rfl
      generalize norm d k = N at *
      subst this
      grind
    . show ((_ + _) * (1 * _) + (0 * _ + 0 * _) * _) * _ = _
      show _ = s.b * (s.c * norm d k * k.c * (1 * norm d k))
      have : norm d k = k.a * k.a - d * k.b * k.b := rfl
      generalize norm d k = N at *
      subst this
      grind
  . have h' : k.a * k.b ≠ 0 := fun z => hl ((j4 ok).mpr z)
    have ou := E1 (d := d) ok os hn
    have ov := FN (d := d) ok os hn
    rw [HQ hl] at ou ⊢
    rw [Hj hl] at ov ⊢
    have r := Rep.plus (au (d := d) ou ok) (au (d := d) ov oc) (Rep.times (d := d) ou ok (Dw ok os hn (ai ok) (ai os) h') (ai ok)) (Rep.times (d := d) ov oc (Aq ok os hn (ai ok) (ai os) h') (BA hn))
    refine Rep.eq (aT (au ou ok) (au ov oc)) os r (ai os) ?_ ?_
    . have : k.a * k.a - d * k.b * k.b = norm d k := rfl
      rw [this]
      generalize norm d k = N at *
      grind
    . have : k.a * k.a - d * k.b * k.b = norm d k := rfl
      rw [this]
      generalize norm d k = N at *
      grind
end
end NM
set_option Elab.async false
set_option linter.all false
set_option maxHeartbeats 4000000
namespace NM
section
variable {d : Int} {x y z u p q s t w h p' q' s' t' w' h' : N3}
theorem R9 (ox : Ok x) (oy : Ok y) : bR (plus x y) = plus (bR x) (bR y) :=
  ((ai ox).plus ox oy (ai oy)).bR.eq (aX (aT ox oy)) (aT (aX ox) (aX oy)) ((ai ox).bR.plus (aX ox) (aX oy) (ai oy).bR) (by grind) (by grind)
theorem Sb (ox : Ok x) (oy : Ok y) : bR (times d x y) = times d (bR x) (bR y) :=
  ((ai ox).times ox oy (ai oy)).bR.eq (aX (au ox oy)) (au (aX ox) (aX oy)) ((ai ox).bR.times (aX ox) (aX oy) (ai oy).bR) (by grind) (by grind)
theorem i9 : Ok aB := ⟨by decide, by decide⟩
theorem JW : Ok one := ⟨by decide, by decide⟩
theorem O8 (ox : Ok x) : plus x aB = x :=
  ((ai ox).plus ox i9 (ai i9)).eq (aT ox i9) ox (ai ox) (by simp only [aB]; grind) (by simp only [aB]; grind)
theorem Ka (ox : Ok x) : plus aB x = x :=
  ((ai i9).plus i9 ox (ai ox)).eq (aT i9 ox) ox (ai ox) (by simp only [aB]; grind) (by simp only [aB]; grind)
theorem LX (ox : Ok x) : times d one x = x :=
  ((ai JW).times JW ox (ai ox)).eq (au JW ox) ox (ai ox) (by simp only [one]; grind) (by simp only [one]; grind)
theorem BN (ox : Ok x) : times d aB x = aB :=
  ((ai i9).times i9 ox (ai ox)).eq (au i9 ox) i9 (ai i9) (by simp only [aB]; grind) (by simp only [aB]; grind)
def hf (d : Int) (p q h : N3) : N3 := plus (times d p h) (times d q (bR h))
end
end NM
set_option linter.all false
set_option maxRecDepth 100000
set_option maxHeartbeats 400000
namespace NM
section
variable {d : Int} {x y z k s o f u v : N3}
theorem lY (ox : Ok x) (oy : Ok y) : times d x y = times d y x :=
  Rep.eq (au ox oy) (au oy ox) (Rep.times ox oy (ai ox) (ai oy)) (Rep.times oy ox (ai oy) (ai ox)) (by grind) (by grind)
theorem MO (ox : Ok x) (oy : Ok y) (oz : Ok z) : times d (times d x y) z = times d x (times d y z) :=
  Rep.eq (au (au ox oy) oz) (au ox (au oy oz)) (Rep.times (au ox oy) oz (Rep.times ox oy (ai ox) (ai oy)) (ai oz)) (Rep.times ox (au oy oz) (ai ox) (Rep.times oy oz (ai oy) (ai oz))) (by grind) (by grind)
theorem Lo (ox : Ok x) : times d x one = x := by rw [lY ox jr, LX ox]
end
end NM
set_option Elab.async false
set_option linter.all false
set_option maxRecDepth 100000
set_option maxHeartbeats 4000000
namespace L2.DL
open PySem PySem.Spec PyProof.Rows NM
theorem jS {n m : Nat} {i j : Int} (h : Sz n i) (g : Sz m j) (l : n + m <= 100000) : IntMulOk i j := by
  have b1 : ∀ {k : Nat} {z : Int}, Sz k z -> Builtin.Int.intBits z ≤ k := fun {k z} hz => by
    unfold Builtin.Int.intBits
    split
    . exact Nat.zero_le _
    . rename_i q
      have hz' : z.natAbs ≠ 0 := by simp at q; omega
      have := (Nat.log2_lt hz').mpr hz.lt
      omega
  have e1 := b1 h
  have e2 := b1 g
  unfold IntMulOk
  intro z
  simp only [Bool.and_eq_true] at z
  have z3 := z.2
  unfold Builtin.Int.intTooBig at z3
  simp only [decide_eq_true_eq] at z3
  have : (100000 : Int) <= bitsLine := by decide
  omega
theorem Hr {n : Nat} {i j : Int} (h0 : j ≠ 0) (h : Sz n j) (l : n <= 8900) : v5 i j := by
  refine ⟨h0, PyProof.noPylong_of_log2 ?_⟩
  have hz' : j.natAbs ≠ 0 := by omega
  have := (Nat.log2_lt hz').mpr h.lt
  omega
theorem divC {i j : Int} (h0 : j ≠ 0) (h1 : j.natAbs < 1073741824) : v5 i j := ⟨h0, PyProof.noPylong_small h1⟩
theorem mulL {i j : Int} (h : i.natAbs < 2 ^ 64) : IntMulOk i j := Mg.ok (.inl (by omega))
theorem mulR {i j : Int} (h : j.natAbs < 2 ^ 64) : IntMulOk i j := Mg.ok (.inr (by omega))
def dN (x : N3) : PyData := .tuple [.int x.a, .int x.b, .int x.c]
def isWhole (d : PyData) : Bool := isT "int" d && !isT "bool" d
def isNum : PyData -> Bool
  | .tuple [.int a, .int b, .int c] => decide (1 <= c) && (g3 a b c == 1)
  | _ => false
def qF : DSp := fun ds μ Q => ∃ d, ds = [.v d] /\ Q (.v (.bool (isWhole d))) μ
def uM : DSp := fun ds μ Q => ∃ a b : Int, ds = [.v (.int a), .v (.int b)] /\ Q (.v (.int (Int.gcd a b : Nat))) μ
def yj : DSp := fun ds μ Q => ∃ a b c : Int, ds = [.v (.int a), .v (.int b), .v (.int c)] /\ Q (.v (.int (g3 a b c : Nat))) μ
def Few : PyData -> Prop
  | .tuple xs => xs.length <= 1000
  | _ => True
def xO : DSp := fun ds μ Q => ∃ d, ds = [.v d] /\ Few d /\ Q (.v (.bool (isNum d))) μ
def dM : DSp := fun ds μ Q => ∃ a b c : Int, ds = [.v (.int a), .v (.int b), .v (.int c)] /\ c ≠ 0 /\ Sz 8800 c /\ Q (.v (dN (low a b c))) μ
def iE : DSp := fun ds μ Q => ∃ x : N3, ds = [.v (dN x)] /\ Q (.v (dN (bR x))) μ
def uJ : DSp := fun ds μ Q => ∃ x : N3, ds = [.v (dN x)] /\ Q (.v (dN (minus x))) μ
def sp2 (f : N3 -> N3 -> N3) : DSp := fun ds μ Q => ∃ x y : N3, ds = [.v (dN x), .v (dN y)] /\ Ok x /\ Ok y /\ Bd 4300 x /\ Bd 4300 y /\ Q (.v (dN (f x y))) μ
abbrev jJ : DSp := sp2 plus
def bM : DSp := fun ds μ Q => ∃ (d : Int) (x y : N3), ds = [.v (.int d), .v (dN x), .v (dN y)] /\ Sz 5 d /\ Ok x /\ Ok y /\ Bd 4300 x /\ Bd 4300 y /\ Q (.v (dN (times d x y))) μ
def bK : DSp := fun ds μ Q => ∃ (d : Int) (x : N3), ds = [.v (.int d), .v (dN x)] /\ Sz 5 d /\ norm d x ≠ 0 /\ Bd 4300 x /\ Q (.v (dN (ao d x))) μ
def uA : DSp := fun ds μ Q => ∃ d a b : Int, ds = [.v (.int d), .v (.int a), .v (.int b)] /\ Sz 5 d /\ Sz 9900 a /\ Sz 9900 b /\ Q (.v (.int (sg d a b))) μ
def kN : DSp := fun ds μ Q => ∃ (d : Int) (x : N3), ds = [.v (.int d), .v (dN x)] /\ aw d /\ Bd 8900 x /\ Q (.v (.int (sg d x.a x.b))) μ
def dif (d : Int) (x y : N3) : Int := sg d (x.a * y.c - y.a * x.c) (x.b * y.c - y.b * x.c)
def wR : DSp := fun ds μ Q => ∃ (d : Int) (x y : N3), ds = [.v (.int d), .v (dN x), .v (dN y)] /\ aw d /\ Bd 4400 x /\ Bd 4400 y /\ Q (.v (.bool (decide (dif d x y = 1)))) μ
def Bag (μ : Mu) (a : Addr) : Prop := ∃ g m : Int, μ a = some [.int g, .int m] /\ 0 ≤ g /\ 0 ≤ m /\ m < 2147483648
def Step (a : Addr) (μ μ' : Mu) : Prop := Bag μ' a /\ ∀ b, b ≠ a -> μ' b = μ b
def HY : DSp := fun ds μ Q => ∃ (ns : List Int) (k : Int), ds = [.s ns, .v (.int k)] /\ 0 ≤ k /\ k ≤ 1000 /\ ∀ p μ', μ p = none -> Step p μ μ' -> Q (.m p) μ'
def bS : DSp := fun ds μ Q => ∃ (a : Addr) (n : Int), ds = [.m a, .v (.int n)] /\ 1 ≤ n /\ n ≤ 1000000000 /\ Bag μ a /\ ∀ r μ', 0 ≤ r -> r < n -> Step a μ μ' -> Q (.v (.int r)) μ'
def qG : DSp := fun ds μ Q => ∃ a : Addr, ds = [.m a] /\ Bag μ a /\ ∀ x μ', Ok x -> Bd 20 x -> Step a μ μ' -> Q (.v (dN x)) μ'
def w8 : DSp := fun ds μ Q => ∃ a : Addr, ds = [.m a] /\ Bag μ a /\ ∀ d μ', aw d -> Step a μ μ' -> Q (.v (.int d)) μ'
theorem Step.trans {a : Addr} {μ μ1 μ2 : Mu} (h : Step a μ μ1) (g : Step a μ1 μ2) : Step a μ μ2 := ⟨g.1, fun b n => (g.2 b n).trans (h.2 b n)⟩
theorem Step.set {a : Addr} {μ : Mu} {g m : Int} (h1 : 0 <= g) (h2 : 0 <= m) (h3 : m < 2147483648) : Step a μ (aO μ a [.int g, .int m]) := ⟨⟨g, m, bD, h1, h2, h3⟩, fun b n => bG n⟩
local macro_rules | `(tactic| walk_at "rd") => `(tactic| simp only [↓GR, ↓Gr, ↓FF, ↓xY, ↓Fc, ↓GG, ↓Gm, ↓ET, ↓GH, ↓FC, ↓A9, ↓q_c, ↓KJ, ↓q_B, ↓OJ, ↓LA, ↓JT, ↓ym, ↓JU, ↓E8, ↓Fw, ↓Ko, ↓Fe, ↓NG, ↓vT, ↓pH, ↓CU, ↓CZ, ↓GV, ↓C1, ↓DP, ↓ED, ↓Ke, ↓K5, ↓Kn, ↓Kl, ↓xN, ↓Fm, ↓Gu, ↓BE, ↓A4, ↓B1, ↓Ga, ↓Ah, ↓zg, ↓KQ, ↓K8, ↓J9, ↓FW, ↓EV, ↓E4, ↓GL, ↓Fu, ↓Px, ↓xE, ↓Gy, ↓Kv, ↓LS, ↓KW, ↓K1, ↓xp, ↓GB, ↓Fv, ↓Fo, ↓K7, ↓N0, ↓FL, ↓Fs, ↓AV, ↓BQ, ↓Hv, ↓Kh, ↓Lr, ↓JJ, ↓nC, ↓Fp, ↓Ba, ↓GZ, ↓FO, ↓Ef, ↓J6, ↓FA, ↓uW, ↓D8, ↓Gs, ↓Er, ↓Cs, ↓Fz, ↓LC, ↓Kj, ↓G0, ↓B4, ↓Gp, ↓xo, ↓Cq, ↓zh, ↓yK, ↓B6, ↓xU, ↓yq, ↓yh, ↓KO, Jx, ↓Fi, ↓xg, GJ, E2, Lf, J1, Ky, Option.bind_none, Option.bind_some, Option.join_some, List.getElem?_cons_zero, List.getElem?_cons_succ, aS, dN, tU, xw, An, Dr, HX, List.map, List.append, List.replicate, List.length_cons, List.length_nil, Nat.reduceAdd, Nat.reduceSub, List.nil_append, List.cons_append, List.set_cons_zero, List.set_cons_succ, Option.map_some, ↓reduceIte, Bool.not_true, Bool.not_false, Bool.false_eq_true, Bool.true_eq_false, Bool.xor_false, Bool.false_xor])
def pT : DTS :=
  (bH (Ed (EA "int" (ag 0)) (HN (EA "bool" (ag 0)))))
def iM : DTS :=
  (aV (GN (dB (dOp (eZ true) (ag 1) (dC (.int 0)))) (Gn 0 1 (ae (ag 1) (ae (wy (ag 0) (ag 1)) ar))))
  (bH (dCB uN (ae (ag 0) ar))))
def iA : DTS :=
  (bH (ax uM (ae (ax uM (ae (ag 2) (ae (ag 0) ar))) (ae (ag 1) ar))))
def lp : DTS :=
  (aV (Gn 0 1 (ae (dCB uN (ae (ag 0) ar)) (ae (dCB uN (ae (ag 1) ar)) ar)))
  (aV (GN (dB (dOp rGt (ag 1) (dC (.int 0)))) (Gn 0 1 (ae (ag 1) (ae (wy (ag 0) (ag 1)) ar))))
  (bH (ag 0))))
section
theorem G8 (x : Int) {y : Int} (h : y ≠ 0) : (x.fmod y).natAbs < y.natAbs := by
  have e := Int.mul_fdiv_add_fmod x y
  have := Int.fmod_def x y
  rcases Int.lt_or_gt_of_ne h with h | h
  . have k := Int.neg_fmod_neg (a := x) (b := y)
    have h1 := Int.fmod_nonneg_of_pos (-x) (show 0 < -y by omega)
    have h2 := Int.fmod_lt_of_pos (-x) (show 0 < -y by omega)
    omega
  . have h1 := Int.fmod_nonneg_of_pos x h
    have h2 := Int.fmod_lt_of_pos x h
    omega
theorem Ep (x y : Int) : Int.gcd y (x.fmod y) = Int.gcd x y := by
  have e := Int.mul_fdiv_add_fmod x y
  have e' : x.fmod y = x + y * (-(x.fdiv y)) := by rw [Int.mul_neg]; omega
  rw [e', Int.gcd_add_mul_left_right, Int.gcd_comm]
theorem EB {μ Qd ds} (h : qF ds μ Qd) : pT { nx := fun _ μ' => Qd (.v .none) μ', rt := Qd } (aS ["thing"] ds) μ := by
  obtain ⟨d, rfl, q⟩ := h
  unfold pT
  walk_at "rd"
  unfold isWhole at q
  cases hb : isT "int" d <;> simp_all
theorem tD {μ Qd ds} (h : uM ds μ Qd) : iM { nx := fun _ μ' => Qd (.v .none) μ', rt := Qd } (aS ["a", "b"] ds) μ := by
  obtain ⟨a, b, rfl, q⟩ := h
  unfold iM
  walk_at "rd"
  refine ⟨fun m ρ μ' => ∃ x y : Int, ρ = [some (.v (.int x)), some (.v (.int y))] /\ m = y.natAbs /\ Int.gcd x y = Int.gcd a b /\ μ' = μ, ⟨_, a, b, rfl, rfl, rfl, rfl⟩, ?_⟩
  rintro m ρ μ' ⟨x, y, rfl, rfl, hg, rfl⟩
  walk_at "rd"
  by_cases hy : y = 0
  . subst hy
    have e : Int.gcd x 0 = x.natAbs := Int.gcd_zero_right x
    rw [<- hg, e] at q
    simpa using q
  . have z : (true ^^ decide (y = 0)) = true := by simp [hy]
    rw [if_pos z]
    exact ⟨hy, _, G8 x hy, y, x.fmod y, rfl, rfl, (Ep x y).trans hg, trivial⟩
theorem yZ {μ Qd ds} (h : uM ds μ Qd) : lp { nx := fun _ μ' => Qd (.v .none) μ', rt := Qd } (aS ["_law_one", "_law_other"] ds) μ := by
  obtain ⟨a, b, rfl, q⟩ := h
  unfold lp
  walk_at "rd"
  refine ⟨fun m ρ μ' => ∃ x y : Int, ρ = [some (.v (.int x)), some (.v (.int y))] /\ m = y.natAbs /\ 0 ≤ x /\ 0 ≤ y /\ Int.gcd x y = Int.gcd a b /\ μ' = μ, ⟨_, _, _, rfl, rfl, by omega, by omega, by simp [Int.gcd], rfl⟩, ?_⟩
  rintro m ρ μ' ⟨x, y, rfl, rfl, hx, hy, hg, rfl⟩
  walk_at "rd"
  by_cases h0 : 0 < y
  . rw [if_pos (by simpa using h0)]
    have hy' : y ≠ 0 := by omega
    exact ⟨hy', _, G8 x hy', y, x.fmod y, rfl, rfl, by omega, Int.fmod_nonneg_of_pos x h0, (Ep x y).trans hg, trivial⟩
  . rw [if_neg (by simpa using h0)]
    have e : y = 0 := by omega
    subst e
    rw [Int.gcd_zero_right] at hg
    have : x = ((Int.gcd a b : Nat) : Int) := by omega
    rw [this]
    exact q
theorem uq {μ Qd ds} (h : yj ds μ Qd) : iA { nx := fun _ μ' => Qd (.v .none) μ', rt := Qd } (aS ["a", "b", "c"] ds) μ := by
  obtain ⟨a, b, c, rfl, q⟩ := h
  unfold iA
  walk_at "rd"
  rw [<- Mb] at q
  exact ⟨c, a, rfl, _, b, rfl, q⟩
end
open PySem PySem.Spec PyProof.Rows NM
def vF : DTS :=
  (aV (eS (dB (dOp (eZ false) (ag 2) (dC (.int 0)))) yY cK)
  (aV (bE (ax yj (ae (ag 0) (ae (ag 1) (ae (ag 2) ar)))) (az 3))
  (aV (eS (dB (dOp rLt (ag 2) (dC (.int 0)))) (bE (tJ (ag 3)) (az 3)) cK)
  (bH (bC (ae (zd (ag 0) (ag 3)) (ae (zd (ag 1) (ag 3)) (ae (zd (ag 2) (ag 3)) ar))))))))
def qa : DTS :=
  (aV (bE (cT (ax uM (ae (ax uM (ae (ag 0) (ae (ag 1) ar))) (ae (ag 2) ar))) (dOp aJ (jj (ae (dC (.int 1)) (ae (tJ (dC (.int 1))) ar))) (dCB pI (ae (dOp rLt (ag 2) (dC (.int 0))) ar)))) (az 3))
  (bH (bC (ae (zd (ag 0) (ag 3)) (ae (zd (ag 1) (ag 3)) (ae (zd (ag 2) (ag 3)) ar))))))
def oH : DTS :=
  (bH (bC (ae (dOp aJ (ag 0) (dC (.int 0))) (ae (mv (dC (.int 0)) (dOp aJ (ag 0) (dC (.int 1)))) (ae (dOp aJ (ag 0) (dC (.int 2))) ar)))))
def lW : DTS :=
  (bH (bC (ae (mv (dC (.int 0)) (dOp aJ (ag 0) (dC (.int 0)))) (ae (mv (dC (.int 0)) (dOp aJ (ag 0) (dC (.int 1)))) (ae (dOp aJ (ag 0) (dC (.int 2))) ar)))))
def Co : DTS :=
  (bH (ax dM (ae (mQ (cT (dOp aJ (ag 0) (dC (.int 0))) (dOp aJ (ag 1) (dC (.int 2)))) (cT (dOp aJ (ag 1) (dC (.int 0))) (dOp aJ (ag 0) (dC (.int 2))))) (ae (mQ (cT (dOp aJ (ag 0) (dC (.int 1))) (dOp aJ (ag 1) (dC (.int 2)))) (cT (dOp aJ (ag 1) (dC (.int 1))) (dOp aJ (ag 0) (dC (.int 2))))) (ae (cT (dOp aJ (ag 0) (dC (.int 2))) (dOp aJ (ag 1) (dC (.int 2)))) ar)))))
def uo : DTS :=
  (bH (ax dM (ae (mQ (cT (dOp aJ (ag 0) (dC (.int 0))) (dOp aJ (ag 1) (dC (.int 2)))) (cT (dOp aJ (ag 1) (dC (.int 0))) (dOp aJ (ag 0) (dC (.int 2))))) (ae (mQ (cT (dOp aJ (ag 0) (dC (.int 1))) (dOp aJ (ag 1) (dC (.int 2)))) (cT (dOp aJ (ag 1) (dC (.int 1))) (dOp aJ (ag 0) (dC (.int 2))))) (ae (cT (dOp aJ (ag 0) (dC (.int 2))) (dOp aJ (ag 1) (dC (.int 2)))) ar)))))
def yW : DTS :=
  (bH (ax dM (ae (mQ (cT (dOp aJ (ag 1) (dC (.int 0))) (dOp aJ (ag 2) (dC (.int 0)))) (cT (cT (ag 0) (dOp aJ (ag 1) (dC (.int 1)))) (dOp aJ (ag 2) (dC (.int 1))))) (ae (mQ (cT (dOp aJ (ag 1) (dC (.int 0))) (dOp aJ (ag 2) (dC (.int 1)))) (cT (dOp aJ (ag 1) (dC (.int 1))) (dOp aJ (ag 2) (dC (.int 0))))) (ae (cT (dOp aJ (ag 1) (dC (.int 2))) (dOp aJ (ag 2) (dC (.int 2)))) ar)))))
def rL : DTS :=
  (bH (ax dM (ae (mQ (cT (dOp aJ (ag 1) (dC (.int 0))) (dOp aJ (ag 2) (dC (.int 0)))) (cT (cT (ag 0) (dOp aJ (ag 1) (dC (.int 1)))) (dOp aJ (ag 2) (dC (.int 1))))) (ae (mQ (cT (dOp aJ (ag 1) (dC (.int 0))) (dOp aJ (ag 2) (dC (.int 1)))) (cT (dOp aJ (ag 1) (dC (.int 1))) (dOp aJ (ag 2) (dC (.int 0))))) (ae (cT (dOp aJ (ag 1) (dC (.int 2))) (dOp aJ (ag 2) (dC (.int 2)))) ar)))))
def pR : DTS :=
  (aV (bE (mv (cT (dOp aJ (ag 1) (dC (.int 0))) (dOp aJ (ag 1) (dC (.int 0)))) (cT (cT (ag 0) (dOp aJ (ag 1) (dC (.int 1)))) (dOp aJ (ag 1) (dC (.int 1))))) (az 2))
  (bH (ax dM (ae (cT (dOp aJ (ag 1) (dC (.int 2))) (dOp aJ (ag 1) (dC (.int 0)))) (ae (cT (tJ (dOp aJ (ag 1) (dC (.int 2)))) (dOp aJ (ag 1) (dC (.int 1)))) (ae (ag 2) ar))))))
def jy : DTS :=
  (bH (ax dM (ae (cT (dOp aJ (ag 1) (dC (.int 0))) (dOp aJ (ag 1) (dC (.int 2)))) (ae (mv (dC (.int 0)) (cT (dOp aJ (ag 1) (dC (.int 1))) (dOp aJ (ag 1) (dC (.int 2))))) (ae (mv (cT (dOp aJ (ag 1) (dC (.int 0))) (dOp aJ (ag 1) (dC (.int 0)))) (cT (cT (ag 0) (dOp aJ (ag 1) (dC (.int 1)))) (dOp aJ (ag 1) (dC (.int 1))))) ar)))))
def BZ : DTS :=
  (bH (bC (ae (dOp aJ (ag 0) (dC (.int 0))) (ae (tJ (dOp aJ (ag 0) (dC (.int 1)))) (ae (dOp aJ (ag 0) (dC (.int 2))) ar)))))
section
variable {μ : Mu} {Qd : DK} {ds : List D}
theorem R5 (i j : Int) : PyData.eqv (.int i) (.int j) = decide (i = j) := by simp [PyData.eqv]; rfl
theorem gdv {a b c : Int} (h : Sz 8800 c) (hc : c ≠ 0) : Sz 8800 ((g3 a b c : Nat) : Int) := by
  have h1 := (LG a b c).2.2
  have h2 := Int.natAbs_dvd_natAbs.mpr h1
  exact h.le (Nat.le_of_dvd (by omega) h2)
theorem Jh (h : dM ds μ Qd) : vF { nx := fun _ μ' => Qd (.v .none) μ', rt := Qd } (aS ["a", "b", "c", "divisor"] ds) μ := by
  obtain ⟨a, b, c, rfl, hc, hz, q⟩ := h
  unfold vF
  walk_at "rd"
  rw [decide_eq_false hc]
  simp only [Bool.xor_false, Bool.false_eq_true, ↓reduceIte]
  refine ⟨a, b, c, rfl, ?_⟩
  walk_at "rd"
  have hp := BV (a := a) (b := b) hc
  have hg := gdv (a := a) (b := b) hz hc
  unfold low NM.dv dN at q
  simp only at q
  by_cases hn : c < 0
  . rw [if_pos (by simpa using hn)]
    rw [if_pos hn] at q
    have o : ∀ i : Int, v5 i (-((g3 a b c : Nat) : Int)) := fun i => Hr (by omega) hg.neg (by decide)
    exact ⟨o _, o _, o _, q⟩
  . rw [if_neg (by simpa using hn)]
    rw [if_neg hn] at q
    have o : ∀ i : Int, v5 i ((g3 a b c : Nat) : Int) := fun i => Hr (by omega) hg (by decide)
    exact ⟨o _, o _, o _, q⟩
theorem Ea (h : dM ds μ Qd) : qa { nx := fun _ μ' => Qd (.v .none) μ', rt := Qd } (aS ["_law_a", "_law_b", "_law_c", "_law_common"] ds) μ := by
  obtain ⟨a, b, c, rfl, hc, hz, q⟩ := h
  unfold qa
  walk_at "rd"
  refine ⟨a, b, rfl, _, c, rfl, ?_⟩
  walk_at "rd"
  have hp := BV (a := a) (b := b) hc
  have hg := gdv (a := a) (b := b) hz hc
  unfold low NM.dv dN at q
  simp only at q
  by_cases hn : c < 0
  . simp only [hn, decide_true, ↓reduceIte, An]
    rw [if_pos hn] at q
    have e : ((Int.gcd (Int.gcd a b : Nat) c : Nat) : Int) * -1 = -((g3 a b c : Nat) : Int) := by unfold g3; omega
    walk_at "rd"
    rw [e]
    have o : ∀ i : Int, v5 i (-((g3 a b c : Nat) : Int)) := fun i => Hr (by omega) hg.neg (by decide)
    exact ⟨mulR (by decide), o _, o _, o _, q⟩
  . simp only [hn, decide_false, Bool.false_eq_true, ↓reduceIte, xw]
    rw [if_neg hn] at q
    have e : ((Int.gcd (Int.gcd a b : Nat) c : Nat) : Int) * 1 = ((g3 a b c : Nat) : Int) := by unfold g3; omega
    walk_at "rd"
    rw [e]
    have o : ∀ i : Int, v5 i ((g3 a b c : Nat) : Int) := fun i => Hr (by omega) hg (by decide)
    exact ⟨mulR (by decide), o _, o _, o _, q⟩
theorem MF (h : iE ds μ Qd) : BZ { nx := fun _ μ' => Qd (.v .none) μ', rt := Qd } (aS ["x"] ds) μ := by
  obtain ⟨x, rfl, q⟩ := h
  unfold BZ
  walk_at "rd"
  exact q
theorem A5 (h : iE ds μ Qd) : oH { nx := fun _ μ' => Qd (.v .none) μ', rt := Qd } (aS ["_law_x"] ds) μ := by
  obtain ⟨x, rfl, q⟩ := h
  unfold oH
  walk_at "rd"
  simp only [Int.zero_sub]
  exact q
theorem zD (h : uJ ds μ Qd) : lW { nx := fun _ μ' => Qd (.v .none) μ', rt := Qd } (aS ["_law_x"] ds) μ := by
  obtain ⟨x, rfl, q⟩ := h
  unfold lW
  walk_at "rd"
  simp only [Int.zero_sub]
  exact q
theorem Ha (h : jJ ds μ Qd) : Co { nx := fun _ μ' => Qd (.v .none) μ', rt := Qd } (aS ["x", "y"] ds) μ := by
  obtain ⟨x, y, rfl, ox, oy, bx, by', q⟩ := h
  unfold Co
  walk_at "rd"
  have m : ∀ {i j : Int}, Sz 4300 i -> Sz 4300 j -> IntMulOk i j := fun h g => jS h g (by decide)
  exact ⟨m bx.a by'.c, m by'.a bx.c, m bx.b by'.c, m by'.b bx.c, m bx.c by'.c, _, _, _, rfl, wH ox oy, (bx.c.mul by'.c).mono (by decide), q⟩
theorem CA (h : jJ ds μ Qd) : uo { nx := fun _ μ' => Qd (.v .none) μ', rt := Qd } (aS ["_law_x", "_law_y"] ds) μ := Ha h
theorem EF (h : bM ds μ Qd) : yW { nx := fun _ μ' => Qd (.v .none) μ', rt := Qd } (aS ["d", "x", "y"] ds) μ := by
  obtain ⟨d, x, y, rfl, hd, ox, oy, bx, by', q⟩ := h
  unfold yW
  walk_at "rd"
  have m : ∀ {i j : Int}, Sz 4300 i -> Sz 4300 j -> IntMulOk i j := fun h g => jS h g (by decide)
  exact ⟨m bx.a by'.a, jS hd bx.b (by decide), jS (hd.mul bx.b) by'.b (by decide), m bx.a by'.b, m bx.b by'.a, m bx.c by'.c, _, _, _, rfl, wH ox oy, (bx.c.mul by'.c).mono (by decide), q⟩
theorem zS (h : bM ds μ Qd) : rL { nx := fun _ μ' => Qd (.v .none) μ', rt := Qd } (aS ["_law_d", "_law_x", "_law_y"] ds) μ := EF h
theorem Dy (h : bK ds μ Qd) : pR { nx := fun _ μ' => Qd (.v .none) μ', rt := Qd } (aS ["d", "x", "norm"] ds) μ := by
  obtain ⟨d, x, rfl, hd, hn, bx, q⟩ := h
  unfold pR
  walk_at "rd"
  have m : ∀ {i j : Int}, Sz 4300 i -> Sz 4300 j -> IntMulOk i j := fun h g => jS h g (by decide)
  exact ⟨m bx.a bx.a, jS hd bx.b (by decide), jS (hd.mul bx.b) bx.b (by decide), m bx.c bx.a, m bx.c.neg bx.b, _, _, _, rfl, hn, (BU hd bx).mono (by decide), q⟩
theorem uX (h : bK ds μ Qd) : jy { nx := fun _ μ' => Qd (.v .none) μ', rt := Qd } (aS ["_law_d", "_law_x"] ds) μ := by
  obtain ⟨d, x, rfl, hd, hn, bx, q⟩ := h
  unfold jy
  walk_at "rd"
  have m : ∀ {i j : Int}, Sz 4300 i -> Sz 4300 j -> IntMulOk i j := fun h g => jS h g (by decide)
  refine ⟨m bx.a bx.c, m bx.b bx.c, m bx.a bx.a, jS hd bx.b (by decide), jS (hd.mul bx.b) bx.b (by decide), _, _, _, rfl, hn, (BU hd bx).mono (by decide), ?_⟩
  have e1 : x.a * x.c = x.c * x.a := Int.mul_comm ..
  have e2 : 0 - x.b * x.c = -x.c * x.b := by grind
  rw [e1, e2]
  exact q
theorem Rl (a b c a' b' c' : Int) : PyData.eqv (.tuple [.int a, .int b, .int c]) (.tuple [.int a', .int b', .int c']) = decide (a = a' /\ b = b' /\ c = c') := by
  simp [PyData.eqv, PyData.eqvAll]
  rfl
end
open PySem PySem.Spec PyProof.Rows NM
def jv : DTS :=
  (aV (eS (yV (dB (dOp (eZ false) (ag 1) (dC (.int 0)))) (dB (dOp (eZ false) (ag 2) (dC (.int 0))))) (bH (dC (.int 0))) cK)
  (aV (eS (yV (dB (dOp rGe (ag 1) (dC (.int 0)))) (dB (dOp rGe (ag 2) (dC (.int 0))))) (bH (dC (.int 1))) cK)
  (aV (eS (yV (dB (dOp rLe (ag 1) (dC (.int 0)))) (dB (dOp rLe (ag 2) (dC (.int 0))))) (bH (tJ (dC (.int 1)))) cK)
  (aV (bE (dIf (dB (dOp rGt (cT (ag 1) (ag 1)) (cT (cT (ag 0) (ag 2)) (ag 2)))) (ag 1) (ag 2)) (az 3))
  (bH (dIf (dB (dOp rGt (ag 3) (dC (.int 0)))) (dC (.int 1)) (tJ (dC (.int 1)))))))))
def sA : DTS :=
  (bH (ax uA (ae (ag 0) (ae (dOp aJ (ag 1) (dC (.int 0))) (ae (dOp aJ (ag 1) (dC (.int 1))) ar)))))
def qh : DTS :=
  (aV (bE (mv (cT (dOp aJ (ag 1) (dC (.int 0))) (dOp aJ (ag 2) (dC (.int 2)))) (cT (dOp aJ (ag 2) (dC (.int 0))) (dOp aJ (ag 1) (dC (.int 2))))) (az 3))
  (aV (bE (mv (cT (dOp aJ (ag 1) (dC (.int 1))) (dOp aJ (ag 2) (dC (.int 2)))) (cT (dOp aJ (ag 2) (dC (.int 1))) (dOp aJ (ag 1) (dC (.int 2))))) (az 4))
  (bH (dOp (eZ false) (ax uA (ae (ag 0) (ae (ag 3) (ae (ag 4) ar)))) (dC (.int 1))))))
def oA : DTS :=
  (aV (Gn 2 3 (ae (cT (dOp aJ (ag 1) (dC (.int 0))) (dOp aJ (ag 1) (dC (.int 0)))) (ae (cT (cT (ag 0) (dOp aJ (ag 1) (dC (.int 1)))) (dOp aJ (ag 1) (dC (.int 1)))) ar)))
  (aV (bE (jj (ae (mv (dCB pI (ae (dOp rGt (dOp aJ (ag 1) (dC (.int 0))) (dC (.int 0))) ar)) (dCB pI (ae (dOp rLt (dOp aJ (ag 1) (dC (.int 0))) (dC (.int 0))) ar))) (ae (mv (dCB pI (ae (dOp rGt (dOp aJ (ag 1) (dC (.int 1))) (dC (.int 0))) ar)) (dCB pI (ae (dOp rLt (dOp aJ (ag 1) (dC (.int 1))) (dC (.int 0))) ar))) ar))) (az 4))
  (aV (eS (dB (dOp rGe (cT (dOp aJ (ag 4) (dC (.int 0))) (dOp aJ (ag 4) (dC (.int 1)))) (dC (.int 0)))) (bH (dIf (dB (dOp (eZ true) (dOp aJ (ag 4) (dC (.int 0))) (dC (.int 0)))) (dOp aJ (ag 4) (dC (.int 0))) (dOp aJ (ag 4) (dC (.int 1))))) cK)
  (bH (dIf (dB (dOp rGt (ag 2) (ag 3))) (dOp aJ (ag 4) (dC (.int 0))) (dOp aJ (ag 4) (dC (.int 1))))))))
section
variable {μ : Mu} {Qd : DK} {ds : List D}
theorem vx (h : uA ds μ Qd) : jv { nx := fun _ μ' => Qd (.v .none) μ', rt := Qd } (aS ["d", "a", "b", "prevailing"] ds) μ := by
  obtain ⟨d, a, b, rfl, hd, ha, hb, q⟩ := h
  unfold jv
  walk_at "rd"
  have m1 : MulOk a a := jS ha ha (by decide)
  have m2 : MulOk d b := jS hd hb (by decide)
  have m3 : MulOk (d * b) b := jS (hd.mul hb) hb (by decide)
  unfold sg at q
  by_cases h1 : a = 0
  . by_cases h2 : b = 0
    . subst h1 h2; simpa using q
    . subst h1
      rcases Int.lt_or_gt_of_ne h2 with h3 | h3
      . have e : ¬ (0 <= b) := by omega
        have e' : b <= 0 := by omega
        simp only [h2, e, e', and_false, true_and, if_true, if_false, decide_true, decide_false, Int.le_refl, ↓reduceIte, Bool.false_eq_true] at q ⊢
        exact q
      . have e : (0 <= b) := by omega
        simp only [h2, e, and_false, true_and, if_true, if_false, decide_true, decide_false, Int.le_refl, ↓reduceIte, Bool.false_eq_true] at q ⊢
        exact q
  . by_cases h3 : 0 <= a <;> by_cases h4 : 0 <= b <;> by_cases h5 : a <= 0 <;> by_cases h6 : b <= 0 <;> by_cases h7 : d * b * b < a * a <;> (try (exfalso; omega)) <;>
      simp only [h1, h3, h4, h5, h6, h7, and_false, false_and, and_true, true_and, if_true, if_false, decide_true, decide_false, ↓reduceIte, Bool.false_eq_true, and_self, m1, m2, m3, gt_iff_lt] at q ⊢ <;> (try exact q)
    all_goals
      first
      | (by_cases h8 : 0 < a <;> simp only [h8, if_true, if_false, decide_true, decide_false, ↓reduceIte, Bool.false_eq_true] at q ⊢ <;> exact q)
      | (by_cases h8 : 0 < b <;> simp only [h8, if_true, if_false, decide_true, decide_false, ↓reduceIte, Bool.false_eq_true] at q ⊢ <;> exact q)
theorem E6 (h : kN ds μ Qd) : sA { nx := fun _ μ' => Qd (.v .none) μ', rt := Qd } (aS ["d", "x"] ds) μ := by
  obtain ⟨d, x, rfl, hd, bx, q⟩ := h
  unfold sA
  walk_at "rd"
  exact ⟨d, x.a, x.b, rfl, mU hd.1 hd.2.1, bx.a.mono (by decide), bx.b.mono (by decide), q⟩
theorem D7 (h : wR ds μ Qd) : qh { nx := fun _ μ' => Qd (.v .none) μ', rt := Qd } (aS ["d", "x", "y", "a", "b"] ds) μ := by
  obtain ⟨d, x, y, rfl, hd, bx, by', q⟩ := h
  unfold qh
  walk_at "rd"
  have m : ∀ {i j : Int}, Sz 4400 i -> Sz 4400 j -> IntMulOk i j := fun h g => jS h g (by decide)
  refine ⟨m bx.a by'.c, m by'.a bx.c, m bx.b by'.c, m by'.b bx.c, d, _, _, rfl, mU hd.1 hd.2.1, ((bx.a.mul by'.c).sub (by'.a.mul bx.c)).mono (by decide), ((bx.b.mul by'.c).sub (by'.b.mul bx.c)).mono (by decide), ?_⟩
  walk_at "rd"
  exact q
theorem OR {d a b sa sb : Int} (ha : (a < 0 /\ sa = -1) \/ (a = 0 /\ sa = 0) \/ (0 < a /\ sa = 1)) (hb : (b < 0 /\ sb = -1) \/ (b = 0 /\ sb = 0) \/ (0 < b /\ sb = 1)) :
    sg d a b = if 0 <= sa * sb then (if sa ≠ 0 then sa else sb) else if d * b * b < a * a then sa else sb := by
  unfold sg
  by_cases h7 : d * b * b < a * a <;> rcases ha with ⟨h1, rfl⟩ | ⟨h1, rfl⟩ | ⟨h1, rfl⟩ <;> rcases hb with ⟨h2, rfl⟩ | ⟨h2, rfl⟩ | ⟨h2, rfl⟩ <;> simp only [h7, ↓reduceIte] <;> (repeat' split) <;> omega
theorem B3 (h : kN ds μ Qd) : oA { nx := fun _ μ' => Qd (.v .none) μ', rt := Qd } (aS ["_law_d", "_law_x", "_law_first", "_law_second", "_law_sides"] ds) μ := by
  obtain ⟨d, x, rfl, hd, bx, q⟩ := h
  unfold oA
  walk_at "rd"
  have s5 := mU hd.1 hd.2.1
  refine ⟨jS bx.a bx.a (by decide), jS s5 bx.b (by decide), jS (s5.mul bx.b) bx.b (by decide), ?_⟩
  have sd : ∀ u : Int, (u < 0 /\ ((if decide (0 < u) = true then 1 else 0) - if decide (u < 0) = true then 1 else 0 : Int) = -1) \/ (u = 0 /\ ((if decide (0 < u) = true then 1 else 0) - if decide (u < 0) = true then 1 else 0 : Int) = 0) \/ (0 < u /\ ((if decide (0 < u) = true then 1 else 0) - if decide (u < 0) = true then 1 else 0 : Int) = 1) := fun u => by
    simp only [decide_eq_true_eq]
    split <;> split <;> omega
  have ha := sd x.a
  have hb := sd x.b
  generalize ((if decide (0 < x.a) = true then 1 else 0) - if decide (x.a < 0) = true then 1 else 0 : Int) = sa at ha ⊢
  generalize ((if decide (0 < x.b) = true then 1 else 0) - if decide (x.b < 0) = true then 1 else 0 : Int) = sb at hb ⊢
  rw [OR ha hb] at q
  refine ⟨mulL (by omega), ?_⟩
  by_cases c1 : 0 ≤ sa * sb <;> by_cases c2 : sa = 0 <;> by_cases c3 : d * x.b * x.b < x.a * x.a <;> simp only [c1, c2, c3, decide_true, decide_false, ↓reduceIte, Bool.false_eq_true, Bool.xor_false, Bool.xor_true, Bool.not_true, ne_eq, not_true_eq_false, not_false_eq_true, Int.zero_mul, Int.le_refl] at q ⊢ <;> exact q
end
open PySem PySem.Spec PyProof.Rows NM
def pL : DTS :=
  (aV (bE (dC (.int 0)) (az 2))
  (aV (eS (dB (dOp rLt (ag 1) (dCB iV (ae (ag 0) ar)))) (bE (dOp aJ (ag 0) (ag 1)) (az 2)) cK)
  (aV (bE (dC (.int 0)) (az 3))
  (aV (eS (dB (dOp rGe (dCB uN (ae (ag 2) ar)) (L4 (dC (.int 10)) (dC (.int 18))))) (bE (dCB uN (ae (ag 2) ar)) (az 3)) cK)
  (aV (bE (jj (ae (dC (.int 2147483647)) (ae (dC (.int 2147483629)) (ae (dC (.int 2147483587)) (ae (dC (.int 2147483579)) (ae (dC (.int 2147483563)) (ae (dC (.int 2147483549)) (ae (dC (.int 2147483543)) (ae (dC (.int 2147483497)) ar))))))))) (az 4))
  (aV (bE (mQ (mQ (mQ (cT (wy (ag 2) (dC (.int 2147483647))) (dC (.int 69623))) (cT (cT (dC (.int 104729)) (ag 1)) (ag 1))) (cT (dC (.int 7919)) (ag 1))) (dC (.int 12345))) (az 5))
  (bH (Hb (ae (ag 3) (ae (wy (ag 5) (dOp aJ (ag 4) (wy (ag 1) (dC (.int 8))))) ar))))))))))
def n6 : DTS :=
  (aV (eS (dB (dOp rGt (dOp aJ (ag 0) (dC (.int 0))) (dC (.int 0)))) (aV (bE (wy (dOp aJ (ag 0) (dC (.int 0))) (ag 1)) (az 2))
  (aV (bE (zd (dOp aJ (ag 0) (dC (.int 0))) (ag 1)) (HD (ag 0) (dC (.int 0))))
  (bH (ag 2)))) cK)
  (aV (bE (wy (mQ (cT (dOp aJ (ag 0) (dC (.int 1))) (dC (.int 48271))) (dC (.int 2531011))) (dC (.int 2147483647))) (HD (ag 0) (dC (.int 1))))
  (bH (wy (zd (wy (L4 (dOp aJ (ag 0) (dC (.int 1))) (dC (.int 3))) (dC (.int 2147483629))) (dC (.int 64))) (ag 1)))))
section
variable {μ : Mu} {Qd : DK} {ds : List D}
theorem tL {α : Type} {xs : List α} {i : Int} (h0 : 0 ≤ i) (h : i < (xs.length : Nat)) : ∃ d, atI xs i = some d /\ d ∈ xs := by
  have hj : i.toNat < xs.length := by omega
  have e := uG (xs := xs) (j := i.toNat) (v := xs[i.toNat]) (by simp [hj])
  rw [show ((i.toNat : Nat) : Int) = i by omega] at e
  exact ⟨_, e, List.getElem_mem _⟩
theorem kU (x : Int) {y : Int} (h : 0 < y) : 0 <= x.fmod y /\ x.fmod y < y := ⟨Int.fmod_nonneg_of_pos x h, Int.fmod_lt_of_pos x h⟩
theorem L1 {x y : Int} (hx : 0 <= x) (hy : 0 < y) : 0 <= x.fdiv y := by rw [Int.fdiv_eq_ediv_of_nonneg _ (by omega)]; exact Int.ediv_nonneg hx (by omega)
def qJ : List PyData := [.int 2147483647, .int 2147483629, .int 2147483587, .int 2147483579, .int 2147483563, .int 2147483549, .int 2147483543, .int 2147483497]
theorem Di (h : HY ds μ Qd) : pL { nx := fun _ μ' => Qd (.v .none) μ', rt := Qd } (aS ["_law_script", "_law_at", "_law_cell", "_law_great", "_law_primes", "_law_mixed"] ds) μ := by
  obtain ⟨ns, k, rfl, h0, h1, q⟩ := h
  unfold pL
  have hp : ∃ pr : Int, atI qJ (k.fmod 8) = some (.int pr) /\ 0 < pr /\ pr < 2147483648 := by
    obtain ⟨h2, h3⟩ := kU k (show (0 : Int) < 8 by decide)
    obtain ⟨p, e, hm⟩ := tL (xs := qJ) h2 (by exact h3)
    simp only [qJ, List.mem_cons, List.not_mem_nil, or_false] at hm
    rcases hm with rfl | rfl | rfl | rfl | rfl | rfl | rfl | rfl <;> exact ⟨_, e, by decide, by decide⟩
  obtain ⟨pr, hpe, hp0, hp1⟩ := hp
  unfold qJ at hpe
  walk_at "rd"
  rw [hpe]
  walk_at "rd"
  have c1 : OC 10 18 := ⟨by decide, by decide, by decide⟩
  have z1 : (2147483647 : Int) ≠ 0 := by decide
  have z2 : (8 : Int) ≠ 0 := by decide
  have m1 : ∀ i : Int, MulOk i 69623 := fun i => mulR (by decide)
  have m2 : MulOk 104729 k := mulL (by decide)
  have m3 : MulOk (104729 * k) k := mulR (by omega)
  have m4 : MulOk 7919 k := mulL (by decide)
  have z3 : pr ≠ 0 := by omega
  have fin : ∀ G x : Int, 0 ≤ G -> ∀ p, μ p = none -> Qd (.m p) (aO μ p [.int G, .int (x.fmod pr)]) := fun G x hG p hp => by
    obtain ⟨h2, h3⟩ := kU x hp0
    exact q p _ hp (Step.set hG h2 (by omega))
  by_cases hk : k < (ns.length : Nat)
  . rw [if_pos (by simpa using hk)]
    obtain ⟨c, hc, _⟩ := tL h0 hk
    rw [hc]
    walk_at "rd"
    refine ⟨c1, ?_⟩
    split
    . exact ⟨z1, m1 _, m2, m3, m4, z2, z3, fin _ _ (by omega)⟩
    . exact ⟨z1, m1 _, m2, m3, m4, z2, z3, fin _ _ (by omega)⟩
  . rw [if_neg (by simpa using hk)]
    refine ⟨c1, ?_⟩
    split
    . exact ⟨z1, m1 _, m2, m3, m4, z2, z3, fin _ _ (by omega)⟩
    . exact ⟨z1, m1 _, m2, m3, m4, z2, z3, fin _ _ (by omega)⟩
theorem BX (h : bS ds μ Qd) : n6 { nx := fun _ μ' => Qd (.v .none) μ', rt := Qd } (aS ["_law_bag_here", "_law_many", "_law_digit"] ds) μ := by
  obtain ⟨a, n, rfl, h0, h1, ⟨g, m, hb, hg, hm, hm'⟩, q⟩ := h
  unfold n6
  walk_at "rd"
  rw [hb]
  walk_at "rd"
  rw [hb]
  walk_at "rd"
  have n0 : n ≠ 0 := by omega
  have i0 : ixN 2 0 = some 0 := by rfl
  have i1 : ixN 2 1 = some 1 := by rfl
  by_cases hg0 : 0 < g
  . rw [if_pos (by simpa using hg0)]
    simp only [hb]
    walk_at "rd"
    obtain ⟨r0, r1⟩ := kU g (show 0 < n by omega)
    refine ⟨n0, ?_⟩
    simp only [hb]
    walk_at "rd"
    refine ⟨divC n0 (by omega), ?_⟩
    simp only [hb, List.length_cons, List.length_nil, Nat.reduceAdd, i0, List.set_cons_zero]
    exact q _ _ r0 r1 (Step.set (L1 hg (by omega)) hm hm')
  . rw [if_neg (by simpa using hg0)]
    simp only [hb, i1, bD]
    walk_at "rd"
    obtain ⟨s0, s1⟩ := kU (m * 48271 + 2531011) (show (0 : Int) < 2147483647 by decide)
    generalize (m * 48271 + 2531011).fmod 2147483647 = w at s0 s1 ⊢
    obtain ⟨r0, r1⟩ := kU ((((w ^ Int.toNat 3).fmod 2147483629).fdiv 64)) (show 0 < n by omega)
    refine ⟨mulL (by omega), by decide, ?_⟩
    refine ⟨⟨by decide, by decide, by omega⟩, (by show (2147483629 : Int) ≠ 0; decide), divC (by decide) (by decide), n0, ?_⟩
    exact q _ _ r0 r1 (Step.set hg s0 (by omega))
end
open PySem PySem.Spec PyProof.Rows NM
section
variable {μ : Mu} {Qd : DK} {ds : List D}
end
open PySem PySem.Spec PyProof.Rows NM
def n9 : DTS :=
  (aV (eS (ve (iU (dB (EA "tuple" (ag 0)))) (dB (dOp (eZ true) (dCB iV (ae (ag 0) ar)) (dC (.int 3))))) (bH (dC (.bool false))) cK)
  (aV (bE (ag 0) (oW 3 (de (az 1) (de (az 2) (de (az 3) qr)))))
  (aV (eS (ve (iU (dB (ax qF (ae (ag 1) ar)))) (ve (iU (dB (ax qF (ae (ag 2) ar)))) (iU (dB (ax qF (ae (ag 3) ar)))))) (bH (dC (.bool false))) cK)
  (bH (Ed (dOp rGe (ag 3) (dC (.int 1))) (dOp (eZ false) (ax yj (ae (ag 1) (ae (ag 2) (ae (ag 3) ar)))) (dC (.int 1))))))))
section
variable {μ : Mu} {Qd : DK} {ds : List D}
def HS (i : Int) : Bool := decide (2 <= i) && decide (i <= 30) && !(decide (i = 4) || decide (i = 9) || decide (i = 16) || decide (i = 25))
theorem mw (d : PyData) : (∃ i, d = .int i /\ isWhole d = true) \/ ((∀ i, d ≠ .int i) /\ isWhole d = false) := by
  cases d <;> first | exact .inl ⟨_, rfl, rfl⟩ | exact .inr ⟨fun _ z => (by cases z), rfl⟩
theorem Hh (d : PyData) : (∃ xs, d = .tuple xs /\ isT "tuple" d = true) \/ ((∀ xs, d ≠ .tuple xs) /\ isT "tuple" d = false) := by
  cases d <;> first | exact .inl ⟨_, rfl, rfl⟩ | exact .inr ⟨fun _ z => (by cases z), rfl⟩
theorem IG {d : PyData} (h : ∀ xs, d ≠ .tuple xs) : isNum d = false := by cases d <;> first | rfl | exact absurd rfl (h _)
theorem Jp {xs : List PyData} (h : xs.length ≠ 3) : isNum (.tuple xs) = false := by
  unfold isNum
  split
  . rename_i e; cases e; exact absurd rfl h
  . rfl
theorem three {α : Type} {xs : List α} (h : xs.length = 3) : ∃ a b c, xs = [a, b, c] := by
  match xs, h with
  | [a, b, c], _ => exact ⟨a, b, c, rfl⟩
theorem BB (h : xO ds μ Qd) : n9 { nx := fun _ μ' => Qd (.v .none) μ', rt := Qd } (aS ["thing", "a", "b", "c"] ds) μ := by
  obtain ⟨d, rfl, _, q⟩ := h
  unfold n9
  walk_at "rd"
  rcases Hh d with ⟨xs, rfl, e⟩ | ⟨hn, e⟩
  . rw [e]
    walk_at "rd"
    by_cases hl : xs.length = 3
    . obtain ⟨a, b, c, rfl⟩ := three hl
      have e3 : decide ((([a, b, c].length : Nat) : Int) = 3) = true := rfl
      have e3' : [a, b, c].length = 3 := rfl
      simp only [e3, Bool.xor_self, Bool.false_eq_true, ↓reduceIte]
      refine ⟨rfl, ?_⟩
      walk_at "rd"
      refine ⟨a, rfl, ?_⟩
      rcases mw a with ⟨i, rfl, e⟩ | ⟨hn, e⟩
      . rw [e]
        walk_at "rd"
        refine ⟨b, rfl, ?_⟩
        rcases mw b with ⟨j, rfl, e⟩ | ⟨hn, e⟩
        . rw [e]
          walk_at "rd"
          refine ⟨c, rfl, ?_⟩
          rcases mw c with ⟨k, rfl, e⟩ | ⟨hn, e⟩
          . rw [e]
            walk_at "rd"
            have q' : Qd (.v (.bool (decide (1 <= k) && (g3 i j k == 1)))) μ := q
            by_cases hk : 1 <= k
            . rw [if_pos (by simpa using hk)]
              refine ⟨i, j, k, rfl, ?_⟩
              walk_at "rd"
              have ee : decide (((g3 i j k : Nat) : Int) = 1) = (decide (1 <= k) && (g3 i j k == 1)) := by
                rw [decide_eq_true hk, Bool.true_and, Bool.eq_iff_iff]; simp; omega
              rw [ee]
              exact q'
            . rw [if_neg (by simpa using hk)]
              rw [decide_eq_false hk] at q'
              exact q'
          . rw [e]
            walk_at "rd"
            have : isNum (.tuple [.int i, .int j, c]) = false := by cases c <;> first | rfl | exact absurd rfl (hn _)
            rw [this] at q
            exact q
        . rw [e]
          walk_at "rd"
          have : isNum (.tuple [.int i, b, c]) = false := by cases b <;> first | rfl | exact absurd rfl (hn _)
          rw [this] at q
          exact q
      . rw [e]
        walk_at "rd"
        have : isNum (.tuple [a, b, c]) = false := by cases a <;> first | rfl | exact absurd rfl (hn _)
        rw [this] at q
        exact q
    . rw [Jp hl] at q
      have : decide (((xs.length : Nat) : Int) = 3) = false := by simp; omega
      rw [this]
      simp only [Bool.xor_false, ↓reduceIte]
      exact q
  . rw [e]
    rw [IG hn] at q
    walk_at "rd"
    exact q
end
open PySem PySem.Spec PyProof.Rows NM
def ll : DTS :=
  (aV (bE (dOp aJ (jj (ae (dC (.int 4)) (ae (dC (.int 10)) (ae (dC (.int 100)) (ae (dC (.int 1000000)) ar))))) (ax bS (ae (ag 0) (ae (dC (.int 4)) ar)))) (az 1))
  (aV (Gn 2 3 (ae (mv (ax bS (ae (ag 0) (ae (ag 1) ar))) (zd (ag 1) (dC (.int 2)))) (ae (mv (ax bS (ae (ag 0) (ae (ag 1) ar))) (zd (ag 1) (dC (.int 2)))) ar)))
  (aV (bE (mQ (dC (.int 1)) (ax bS (ae (ag 0) (ae (mv (ag 1) (dC (.int 1))) ar)))) (az 4))
  (aV (bE (ax bS (ae (ag 0) (ae (dC (.int 8)) ar))) (az 5))
  (bH (ax dM (ae (dOp aJ (jj (ae (ag 2) (ae (ag 2) (ae (ag 2) (ae (ag 2) (ae (ag 2) (ae (ag 2) (ae (ag 2) (ae (dC (.int 0)) ar))))))))) (ag 5)) (ae (dOp aJ (jj (ae (ag 3) (ae (ag 3) (ae (ag 3) (ae (ag 3) (ae (ag 3) (ae (dC (.int 0)) (ae (dC (.int 0)) (ae (ag 3) ar))))))))) (ag 5)) (ae (dOp aJ (jj (ae (ag 4) (ae (ag 4) (ae (dC (.int 1)) (ae (ag 4) (ae (dC (.int 1)) (ae (ag 4) (ae (dC (.int 1)) (ae (ag 4) ar))))))))) (ag 5)) ar)))))))))
section
variable {μ : Mu} {Qd : DK} {ds : List D}
theorem pick {P : PyData -> Prop} {xs : List PyData} {i : Int} (h0 : 0 ≤ i) (h1 : i < (xs.length : Nat)) (h : ∀ x ∈ xs, P x) : ∃ d, atI xs i = some d /\ P d := let ⟨d, e, m⟩ := tL h0 h1; ⟨d, e, h d m⟩
theorem Step.refl {a : Addr} (h : Bag μ a) : Step a μ μ := ⟨h, fun _ _ => rfl⟩
theorem C2 {i : Int} (h1 : -1048576 < i) (h2 : i < 1048576) : Sz 20 i := Sz.of (by show i.natAbs < 1048576; omega)
theorem yJ (h : qG ds μ Qd) : ll { nx := fun _ μ' => Qd (.v .none) μ', rt := Qd } (aS ["_law_bag_here", "_law_wide", "_law_a", "_law_b", "_law_c", "_law_way"] ds) μ := by
  obtain ⟨a, rfl, hb, q⟩ := h
  unfold ll
  walk_at "rd"
  refine ⟨a, 4, rfl, by decide, by decide, hb, fun r0 μ1 h0 h1 s1 => ?_⟩
  walk_at "rd"
  obtain ⟨w, e, i, rfl, w0, w1⟩ := pick (P := fun d => ∃ i : Int, d = .int i /\ 4 ≤ i /\ i ≤ 1000000) (xs := [PyData.int 4, PyData.int 10, PyData.int 100, PyData.int 1000000]) h0 (by exact h1) (by
    intro x hx
    simp only [List.mem_cons, List.not_mem_nil, or_false] at hx
    rcases hx with rfl | rfl | rfl | rfl <;> exact ⟨_, rfl, by decide, by decide⟩)
  rw [e]
  walk_at "rd"
  refine ⟨a, i, rfl, by omega, by omega, s1.1, fun r1 μ2 h2 h3 s2 => ?_⟩
  walk_at "rd"
  refine ⟨divC (by decide) (by decide), a, i, rfl, by omega, by omega, s2.1, fun r2 μ3 h4 h5 s3 => ?_⟩
  walk_at "rd"
  refine ⟨divC (by decide) (by decide), a, i - 1, rfl, by omega, by omega, s3.1, fun r3 μ4 h6 h7 s4 => ?_⟩
  walk_at "rd"
  refine ⟨a, 8, rfl, by decide, by decide, s4.1, fun r4 μ5 h8 h9 s5 => ?_⟩
  walk_at "rd"
  have ef : i.fdiv 2 = i / 2 := Int.fdiv_eq_ediv_of_nonneg _ (by omega)
  rw [ef]
  have za : Sz 20 (r1 - i / 2) := C2 (by omega) (by omega)
  have zb : Sz 20 (r2 - i / 2) := C2 (by omega) (by omega)
  have zc : Sz 20 (1 + r3) := C2 (by omega) (by omega)
  have z0 : Sz 20 0 := C2 (by omega) (by omega)
  have z1 : Sz 20 1 := C2 (by omega) (by omega)
  obtain ⟨d1, e1, i1, rfl, b1⟩ := pick (P := fun d => ∃ i : Int, d = .int i /\ Sz 20 i) (xs := [PyData.int (r1 - i / 2), PyData.int (r1 - i / 2), PyData.int (r1 - i / 2), PyData.int (r1 - i / 2), PyData.int (r1 - i / 2), PyData.int (r1 - i / 2), PyData.int (r1 - i / 2), PyData.int 0]) h8 (by exact h9) (by
    intro x hx
    simp only [List.mem_cons, List.not_mem_nil, or_false] at hx
    rcases hx with rfl | rfl | rfl | rfl | rfl | rfl | rfl | rfl <;> exact ⟨_, rfl, by assumption⟩)
  rw [e1]
  walk_at "rd"
  obtain ⟨d2, e2, i2, rfl, b2⟩ := pick (P := fun d => ∃ i : Int, d = .int i /\ Sz 20 i) (xs := [PyData.int (r2 - i / 2), PyData.int (r2 - i / 2), PyData.int (r2 - i / 2), PyData.int (r2 - i / 2), PyData.int (r2 - i / 2), PyData.int 0, PyData.int 0, PyData.int (r2 - i / 2)]) h8 (by exact h9) (by
    intro x hx
    simp only [List.mem_cons, List.not_mem_nil, or_false] at hx
    rcases hx with rfl | rfl | rfl | rfl | rfl | rfl | rfl | rfl <;> exact ⟨_, rfl, by assumption⟩)
  rw [e2]
  walk_at "rd"
  obtain ⟨d3, e3, i3, rfl, b3, p3⟩ := pick (P := fun d => ∃ i : Int, d = .int i /\ Sz 20 i /\ 0 < i) (xs := [PyData.int (1 + r3), PyData.int (1 + r3), PyData.int 1, PyData.int (1 + r3), PyData.int 1, PyData.int (1 + r3), PyData.int 1, PyData.int (1 + r3)]) h8 (by exact h9) (by
    intro x hx
    simp only [List.mem_cons, List.not_mem_nil, or_false] at hx
    rcases hx with rfl | rfl | rfl | rfl | rfl | rfl | rfl | rfl <;> exact ⟨_, rfl, by assumption, by omega⟩)
  rw [e3]
  walk_at "rd"
  have n3 : i3 ≠ 0 := by omega
  exact ⟨i1, i2, i3, rfl, n3, b3.mono (by decide), q _ _ (iP _ _ n3) (qe n3 b1 b2 b3) (s1.trans (s2.trans (s3.trans (s4.trans s5))))⟩
end
open PySem PySem.Spec PyProof.Rows NM
def oP : DTS :=
  (aV (eS (dB (dOp (eZ false) (ax bS (ae (ag 0) (ae (dC (.int 2)) ar))) (dC (.int 0)))) (bH (dOp aJ (jj (ae (dC (.int 2)) (ae (dC (.int 3)) (ae (dC (.int 5)) ar)))) (ax bS (ae (ag 0) (ae (dC (.int 3)) ar))))) cK)
  (aV (bE (j6 [none] (GD (ae (dC (.int 2)) (ae (dC (.int 31)) ar))) (az 0) (dB (dOp (MT true) (ag 0) (jj (ae (dC (.int 4)) (ae (dC (.int 9)) (ae (dC (.int 16)) (ae (dC (.int 25)) ar))))))) (ag 0)) (az 1))
  (bH (dOp aJ (ag 1) (ax bS (ae (ag 0) (ae (dC (.int 25)) ar)))))))
def qb : DTS :=
  (aV (bE (jj (ae (dC .none) (ae (dC (.bool true)) (ae (dC (.bool false)) (ae (dC (.str "1")) (ae (dC (.str "")) (ae (tJ (dC (.int 1))) (ae (dC (.int 0)) (ae (dC (.int 1)) (ae (L4 (dC (.int 10)) (dC (.int 59))) (ae (bC ar) (ae (jj ar) (ae (jj (ae (dC (.int 0)) ar)) (ae (bC (ae (dC (.int 0)) (ae (dC (.int 0)) ar))) (ae (bC (ae (dC (.int 1)) (ae (dC (.int 0)) (ae (dC (.int 0)) ar)))) (ae (bC (ae (dC (.int 2)) (ae (dC (.int 0)) (ae (dC (.int 2)) ar)))) (ae (bC (ae (dC (.int 1)) (ae (dC (.bool true)) (ae (dC (.int 1)) ar)))) (ae (bC (ae (dC (.int 1)) (ae (dC (.int 1)) (ae (tJ (dC (.int 1))) ar)))) (ae (jj (ae (dC (.int 1)) (ae (dC (.int 0)) (ae (dC (.int 1)) ar)))) (ae (bC (ae (dC (.int 1)) (ae (dC (.int 0)) ar))) (ae (dC (.str "a")) ar))))))))))))))))))))) (az 1))
  (bH (dOp aJ (ag 1) (ax bS (ae (ag 0) (ae (dC (.int 20)) ar))))))
def md : DTS :=
  (aV (bE (ax qG (ae (ag 0) ar)) (az 2))
  (aV (bE (ax kN (ae (ag 1) (ae (ag 2) ar))) (az 3))
  (aV (eS (dB (dOp (eZ false) (ag 3) (dC (.int 0)))) (bH (bC (ae (mQ (dC (.int 1)) (ax bS (ae (ag 0) (ae (dC (.int 5)) ar)))) (ae (dC (.int 0)) (ae (dC (.int 1)) ar))))) cK)
  (bH (dIf (dB (dOp rGt (ag 3) (dC (.int 0)))) (ag 2) (ax uJ (ae (ag 2) ar)))))))
section
variable {μ : Mu} {Qd : DK} {ds : List D}
theorem Me {lo : Int} {n : Nat} {x : PyData} (h : x ∈ pA lo n) : ∃ i : Int, x = .int i /\ lo ≤ i /\ i < lo + n := by
  unfold pA at h
  obtain ⟨k, hk, rfl⟩ := List.mem_map.mp h
  have := List.mem_range.mp hk
  exact ⟨_, rfl, by omega, by omega⟩
def DM : PyData -> Option PyData
  | .int i => if HS i then some (.int i) else none
  | _ => none
def AM : List PyData := [2, 3, 5, 6, 7, 8, 10, 11, 12, 13, 14, 15, 17, 18, 19, 20, 21, 22, 23, 24, 26, 27, 28, 29, 30].map PyData.int
theorem in4 (i : Int) : (List.any [PyData.int 4, PyData.int 9, PyData.int 16, PyData.int 25] fun b => PyData.eqv b (.int i)) = (decide (i = 4) || decide (i = 9) || decide (i = 16) || decide (i = 25)) := by
  have ev : ∀ j : Int, PyData.eqv (.int j) (.int i) = decide (i = j) := fun j => by rw [R5]; simp [eq_comm]
  simp only [List.any_cons, List.any_nil, ev, Bool.or_false, Bool.or_assoc]
theorem B2 (h : w8 ds μ Qd) : oP { nx := fun _ μ' => Qd (.v .none) μ', rt := Qd } (aS ["_law_bag_here", "_law_some"] ds) μ := by
  obtain ⟨a, rfl, hb, q⟩ := h
  unfold oP
  walk_at "rd"
  refine ⟨a, 2, rfl, by decide, by decide, hb, fun r0 μ1 h0 h1 s1 => ?_⟩
  walk_at "rd"
  by_cases hr : r0 = 0
  . rw [if_pos (by simpa using hr)]
    refine ⟨a, 3, rfl, by decide, by decide, s1.1, fun r1 μ2 h2 h3 s2 => ?_⟩
    walk_at "rd"
    obtain ⟨w, e, i, rfl, w0⟩ := pick (P := fun d => ∃ i : Int, d = .int i /\ aw i) (xs := [PyData.int 2, PyData.int 3, PyData.int 5]) h2 (by exact h3) (by
      intro x hx
      simp only [List.mem_cons, List.not_mem_nil, or_false] at hx
      rcases hx with rfl | rfl | rfl <;> exact ⟨_, rfl, by unfold aw; omega⟩)
    rw [e]
    exact q _ _ w0 (s1.trans s2)
  . rw [if_neg (by simpa using hr)]
    refine ⟨⟨by decide, by decide, by decide, by decide⟩, by decide, fun p hp => ⟨fun i acc μ' => acc = ((pA 2 29).take i).filterMap DM /\ μ' = aO μ1 p acc, ⟨rfl, rfl⟩, ?_, ?_⟩⟩
    . rintro i x acc μ' hx hpa ⟨e0, e1⟩
      obtain ⟨k, rfl, i0, i1⟩ := Me (List.mem_of_getElem? hx)
      refine ⟨trivial, rfl, rfl, by show 0 <= 60; decide, ?_⟩
      rw [in4]
      have i1' : k < 31 := by simpa using i1
      have e : DM (.int k) = if HS k then some (.int k) else none := rfl
      have e2 : HS k = !(decide (k = 4) || decide (k = 9) || decide (k = 16) || decide (k = 25)) := by
        unfold HS
        rw [decide_eq_true i0, decide_eq_true (show k <= 30 by omega)]
        rfl
      have ft : ((pA 2 29).take (i + 1)).filterMap DM = ((pA 2 29).take i).filterMap DM ++ (DM (.int k)).toList := Oi hx
      rw [e, e2] at ft
      cases hh : (decide (k = 4) || decide (k = 9) || decide (k = 16) || decide (k = 25))
      . rw [hh] at ft
        simp only [Bool.true_xor, Bool.not_false, ↓reduceIte] at ft ⊢
        refine ⟨hpa, ?_, ?_⟩
        . rw [ft, e0]; rfl
        . rw [e1, mJ]
      . rw [hh] at ft
        simp only [Bool.true_xor, Bool.not_true, ↓reduceIte, Bool.false_eq_true] at ft ⊢
        refine ⟨hpa, ?_, e1⟩
        rw [ft, e0]; simp
    rintro acc μ' ⟨e0, e1⟩ _
    have ed : hV μ' p = μ1 := by rw [e1]; exact vK hp
    rw [ed]
    have e0' : acc = AM := by rw [e0]; rfl
    rw [e0']
    refine ⟨a, 25, rfl, by decide, by decide, s1.1, fun r1 μ2 h2 h3 s2 => ?_⟩
    walk_at "rd"
    obtain ⟨w, e, i, rfl, w0⟩ := pick (P := fun d => ∃ i : Int, d = .int i /\ aw i) (xs := AM) h2 (by exact h3) (by
      intro x hx
      unfold AM at hx
      obtain ⟨k, hk, rfl⟩ := List.mem_map.mp hx
      refine ⟨_, rfl, ?_⟩
      simp only [List.mem_cons, List.not_mem_nil, or_false] at hk
      unfold aw
      omega)
    rw [e]
    exact q _ _ w0 (s1.trans s2)
def tX : List PyData := [.none, .bool true, .bool false, .str "1", .str "", .int (-1), .int 0, .int 1, .int (10 ^ Int.toNat 59), .tuple [], .list [], .list [.int 0], .tuple [.int 0, .int 0], .tuple [.int 1, .int 0, .int 0], .tuple [.int 2, .int 0, .int 2], .tuple [.int 1, .bool true, .int 1], .tuple [.int 1, .int 1, .int (-1)], .list [.int 1, .int 0, .int 1], .tuple [.int 1, .int 0], .str "a"]
def G6 : DSp := fun ds μ Q => ∃ a : Addr, ds = [.m a] /\ Bag μ a /\ ∀ d μ', d ∈ tX -> Step a μ μ' -> Q (.v d) μ'
theorem Eb (h : G6 ds μ Qd) : qb { nx := fun _ μ' => Qd (.v .none) μ', rt := Qd } (aS ["_law_bag_here", "_law_some"] ds) μ := by
  obtain ⟨a, rfl, hb, q⟩ := h
  unfold qb
  walk_at "rd"
  refine ⟨⟨by decide, by decide, by decide⟩, a, 20, rfl, by decide, by decide, hb, fun r0 μ1 h0 h1 s1 => ?_⟩
  walk_at "rd"
  obtain ⟨d, e, m⟩ := tL (xs := tX) h0 (by exact h1)
  unfold tX at e
  rw [e]
  exact q d _ m s1
def kZ : DSp := fun ds μ Q => ∃ (a : Addr) (d : Int), ds = [.m a, .v (.int d)] /\ aw d /\ Bag μ a /\ ∀ x μ', Ok x -> Bd 20 x -> sg d x.a x.b = 1 -> Step a μ μ' -> Q (.v (dN x)) μ'
theorem zV (h : kZ ds μ Qd) : md { nx := fun _ μ' => Qd (.v .none) μ', rt := Qd } (aS ["_law_bag_here", "_law_d", "_law_x", "_law_sign_here"] ds) μ := by
  obtain ⟨a, d, rfl, hd, hb, q⟩ := h
  unfold md
  walk_at "rd"
  refine ⟨a, rfl, hb, fun x μ1 ox bx s1 => ?_⟩
  walk_at "rd"
  refine ⟨d, x, rfl, hd, bx.mono (by decide), ?_⟩
  walk_at "rd"
  have t := sQ d x.a x.b
  by_cases h0 : sg d x.a x.b = 0
  . rw [if_pos (by simpa using h0)]
    refine ⟨a, 5, rfl, by decide, by decide, s1.1, fun r μ2 r0 r1 s2 => ?_⟩
    walk_at "rd"
    have ok : Ok ⟨1 + r, 0, 1⟩ := ⟨by show (0 : Int) < 1; decide, by unfold g3; simp⟩
    refine q ⟨1 + r, 0, 1⟩ μ2 ok ⟨C2 (by show -1048576 < 1 + r; omega) (by show 1 + r < 1048576; omega), C2 (by show -1048576 < (0 : Int); decide) (by show (0 : Int) < 1048576; decide), C2 (by show -1048576 < (1 : Int); decide) (by show (1 : Int) < 1048576; decide)⟩ ?_ (s1.trans s2)
    show sg d (1 + r) 0 = 1
    unfold sg
    rw [if_neg (by omega), if_pos (by omega)]
  . rw [if_neg (by simpa using h0)]
    by_cases h1 : 0 < sg d x.a x.b
    . rw [if_pos (by simpa using h1)]
      exact q x μ1 ox bx (by omega) s1
    . rw [if_neg (by simpa using h1)]
      refine ⟨x, rfl, ?_⟩
      refine q (minus x) μ1 (k8 ox) (CH bx) ?_ s1
      show sg d (-x.a) (-x.b) = 1
      rw [yn hd]
      omega
end
open PySem PySem.Spec PyProof.Rows NM
section
variable {μ : Mu} {Q : DK} {ds : List D}
def zf : DSp := fun ds μ Q => ∃ ns : List Int, ds = [.s ns] /\ ns.length ≤ 63 /\ ∀ μ', Q (.v (.bool true)) μ'
theorem DJ (h : qF ds μ Q) : ds.length = 1 := by obtain ⟨_, rfl, _⟩ := h; rfl
theorem Aa (h : uM ds μ Q) : ds.length = 2 := by obtain ⟨_, _, rfl, _⟩ := h; rfl
theorem Gd (h : yj ds μ Q) : ds.length = 3 := by obtain ⟨_, _, _, rfl, _⟩ := h; rfl
theorem GF (h : xO ds μ Q) : ds.length = 1 := by obtain ⟨_, rfl, _⟩ := h; rfl
theorem uz (h : dM ds μ Q) : ds.length = 3 := by obtain ⟨_, _, _, rfl, _⟩ := h; rfl
theorem yr (h : iE ds μ Q) : ds.length = 1 := by obtain ⟨_, rfl, _⟩ := h; rfl
theorem CQ (h : uJ ds μ Q) : ds.length = 1 := by obtain ⟨_, rfl, _⟩ := h; rfl
theorem ye (h : jJ ds μ Q) : ds.length = 2 := by obtain ⟨_, _, rfl, _⟩ := h; rfl
theorem vZ (h : bM ds μ Q) : ds.length = 3 := by obtain ⟨_, _, _, rfl, _⟩ := h; rfl
theorem pB (h : bK ds μ Q) : ds.length = 2 := by obtain ⟨_, _, rfl, _⟩ := h; rfl
theorem Dk (h : uA ds μ Q) : ds.length = 3 := by obtain ⟨_, _, _, rfl, _⟩ := h; rfl
theorem yk (h : kN ds μ Q) : ds.length = 2 := by obtain ⟨_, _, rfl, _⟩ := h; rfl
theorem CK (h : wR ds μ Q) : ds.length = 3 := by obtain ⟨_, _, _, rfl, _⟩ := h; rfl
theorem IW (h : HY ds μ Q) : ds.length = 2 := by obtain ⟨_, _, rfl, _⟩ := h; rfl
theorem Fj (h : bS ds μ Q) : ds.length = 2 := by obtain ⟨_, _, rfl, _⟩ := h; rfl
theorem zl (h : qG ds μ Q) : ds.length = 1 := by obtain ⟨_, rfl, _⟩ := h; rfl
theorem Es (h : w8 ds μ Q) : ds.length = 1 := by obtain ⟨_, rfl, _⟩ := h; rfl
theorem Jc (h : G6 ds μ Q) : ds.length = 1 := by obtain ⟨_, rfl, _⟩ := h; rfl
theorem BK (h : kZ ds μ Q) : ds.length = 2 := by obtain ⟨_, _, rfl, _⟩ := h; rfl
theorem Jf (h : zf ds μ Q) : ds.length = 1 := by obtain ⟨_, rfl, _⟩ := h; rfl
end
theorem IU {K : PySem.W.Frag} {H : Hp} {a : Addr} {ns : List Int} (hl : ns.length <= 63) (hT : zY K H) (hS : SqL K H a (ns.map V.int)) : spD K zf [.ref a] H (fun v _ => v = .bl true) fun _ _ _ => False := by
  refine ⟨[.s ns], fun _ => none, fun d _ => d = .v (.bool true), ⟨fun a ds h => (by cases h), hT⟩, .cons ⟨a, rfl, hS, rfl⟩ .nil, ⟨ns, rfl, hl, fun _ => rfl⟩, fun d u μ' H' _ _ r q => ?_⟩
  subst q
  cases r
  rfl
open PySem PySem.Spec PyProof.Rows NM
section
variable {μ : Mu} {Q : DK} {ds : List D} {x y : N3}
theorem Ng (a b c : Int) : PyData.tuple [.int a, .int b, .int c] = dN ⟨a, b, c⟩ := rfl
theorem Lx : aJ (.v (dN x)) (.v (.int 0)) μ Q = Q (.v (.int x.a)) μ := by unfold dN; rw [BE]
theorem JD : aJ (.v (dN x)) (.v (.int 1)) μ Q = Q (.v (.int x.b)) μ := by unfold dN; rw [A4]
theorem Kt : aJ (.v (dN x)) (.v (.int 2)) μ Q = Q (.v (.int x.c)) μ := by unfold dN; rw [B1]
theorem eqN : PyData.eqv (dN x) (dN y) = decide (x = y) := by
  unfold dN
  rw [Rl, Bool.eq_iff_iff]
  simp only [decide_eq_true_eq]
  exact ⟨fun h => N3.ext' h.1 h.2.1 h.2.2, fun h => by subst h; exact ⟨rfl, rfl, rfl⟩⟩
theorem Ni {neg : Bool} : eZ neg (.v (dN x)) (.v (dN y)) μ Q = Q (.v (.bool (neg ^^ decide (x = y)))) μ := by
  rw [Hz, eqN]
  exact propext ⟨fun h => h.2.2, fun h => ⟨rfl, rfl, h⟩⟩
theorem qi (h : Ok x) : isNum (dN x) = true := by
  have := h.c
  show (decide (1 <= x.c) && (g3 x.a x.b x.c == 1)) = true
  rw [h.g]
  simp; omega
theorem Au : Few (dN x) := by simp [dN, Few]
def Num (n : Nat) (d : PyData) : Prop := ∃ x, d = dN x /\ Ok x /\ Bd n x
theorem LN {d a b c : Int} (h : aw d) (hc : 0 < c) : sg d (low a b c).a (low a b c).b = sg d a b := by
  obtain ⟨k, hk, hs, p1, p2, p3, _⟩ := kM a b (show c ≠ 0 by omega)
  have e := ql (a := (low a b c).a) (b := (low a b c).b) h (hs.mpr hc)
  rw [<- p1, <- p2] at e
  exact e.symm
theorem JR {d : Int} (h : aw d) (ox : Ok x) (oy : Ok y) : sg d (times d x y).a (times d x y).b = sg d x.a x.b * sg d y.a y.b := by
  unfold times
  rw [LN h (Int.mul_pos ox.c oy.c), AS h]
theorem Mh {d : Int} (h : aw d) (ox : Ok x) (oy : Ok y) : sg d (plus x y).a (plus x y).b = sg d (x.a * y.c + y.a * x.c) (x.b * y.c + y.b * x.c) := by
  unfold plus
  rw [LN h (Int.mul_pos ox.c oy.c)]
theorem KN {d : Int} : dif d x x = 0 := by unfold dif; rw [Int.sub_self, Int.sub_self]; exact cX.mpr ⟨rfl, rfl⟩
theorem Lg {lo : Int} {n i : Nat} {x : PyData} (h : (pA lo n)[i]? = some x) : x = .int (lo + i) /\ i < n := by
  unfold pA at h
  rw [List.getElem?_map] at h
  by_cases hi : i < n
  . rw [List.getElem?_range hi] at h
    cases h
    exact ⟨rfl, hi⟩
  . rw [List.getElem?_eq_none (by simpa using hi)] at h
    cases h
theorem yH {lo : Int} {n : Nat} : (pA lo n).length = n := by unfold pA; simp
theorem dk (a : Int) : Ok ⟨a, 0, 1⟩ := ⟨by show (0 : Int) < 1; decide, by unfold g3; simp⟩
end
open PySem PySem.Spec PyProof.Rows NM
local macro_rules | `(tactic| walk_at "rn") => `(tactic| simp only [↓GR, ↓Gr, ↓FF, ↓xY, ↓Fc, ↓GG, ↓Gm, ↓ET, ↓GH, ↓FC, ↓A9, ↓q_c, ↓KJ, ↓q_B, ↓OJ, ↓LA, ↓JT, ↓ym, ↓JU, ↓E8, ↓Fw, ↓Ko, ↓Fe, ↓NG, ↓vT, ↓pH, ↓CU, ↓CZ, ↓GV, ↓C1, ↓DP, ↓ED, ↓Ke, ↓K5, ↓Kn, ↓Kl, ↓xN, ↓Fm, ↓Gu, ↓BE, ↓A4, ↓B1, ↓Ga, ↓Ah, ↓zg, ↓KQ, ↓K8, ↓J9, ↓FW, ↓EV, ↓E4, ↓GL, ↓Fu, ↓Px, ↓xE, ↓Gy, ↓Kv, ↓LS, ↓KW, ↓K1, ↓xp, ↓GB, ↓Fv, ↓Fo, ↓K7, ↓N0, ↓FL, ↓Fs, ↓AV, ↓BQ, ↓Hv, ↓Kh, ↓Lr, ↓JJ, ↓nC, ↓Fp, ↓Ba, ↓GZ, ↓FO, ↓Ef, ↓J6, ↓FA, ↓uW, ↓D8, ↓Gs, ↓Er, ↓Cs, ↓Fz, ↓LC, ↓Kj, ↓G0, ↓B4, ↓Gp, ↓xo, ↓Cq, ↓zh, ↓yK, ↓B6, ↓xU, ↓yq, ↓yh, ↓KO, Jx, ↓Fi, ↓xg, GJ, E2, Lf, J1, Ky, Option.bind_none, Option.bind_some, Option.join_some, List.getElem?_cons_zero, List.getElem?_cons_succ, aS, Ng, Lx, JD, Kt, Ni, tU, xw, An, Dr, HX, List.map, List.append, List.replicate, List.length_cons, List.length_nil, Nat.reduceAdd, Nat.reduceSub, List.nil_append, List.cons_append, List.set_cons_zero, List.set_cons_succ, Option.map_some, ↓reduceIte, Bool.not_true, Bool.not_false, Bool.false_eq_true, Bool.true_eq_false, Bool.xor_false, Bool.false_xor])
def fZ (d : Int) : PyData -> Bool
  | .tuple [.int a, .int b, .int c] => isNum (.tuple [.int a, .int b, .int c]) && decide (sg d a b = 1)
  | _ => false
def kS : DSp := fun ds μ Q => ∃ (d : Int) (t : PyData), ds = [.v (.int d), .v t] /\ aw d /\ Few t /\ (∀ x, t = dN x -> Bd 8900 x) /\ Q (.v (.bool (fZ d t))) μ
theorem Ca {μ : Mu} {Q : DK} {ds : List D} (h : kS ds μ Q) : ds.length = 2 := by obtain ⟨_, _, rfl, _⟩ := h; rfl
def lV : DSp := fun ds μ Q => ∃ (d : Int) (x : N3), ds = [.v (.int d), .v (dN x)] /\ aw d /\ Ok x /\ Bd 8900 x /\ sg d x.a x.b = 1 /\ Q (.v .none) μ
theorem wu {μ : Mu} {Q : DK} {ds : List D} (h : lV ds μ Q) : ds.length = 2 := by obtain ⟨_, _, rfl, _⟩ := h; rfl
def tw : DSp := fun ds μ Q => ∃ (d : Int) (x : N3), ds = [.v (.int d), .v (dN x)] /\ aw d /\ Ok x /\ norm d x ≠ 0 /\ Bd 480 x /\ Q (.v (dN (d6 d x))) μ
theorem Bk {μ : Mu} {Q : DK} {ds : List D} (h : tw ds μ Q) : ds.length = 2 := by obtain ⟨_, _, rfl, _⟩ := h; rfl
def qD : XSp := fun ds μ Xk => ∃ (d : Int) (t : PyData), ds = [.v (.int d), .v t] /\ aw d /\ Few t /\ (∀ x, t = dN x -> Bd 8900 x) /\ fZ d t = false /\ Xk μ
theorem yf {ds : List D} {μ : Mu} {Xk : Mu -> Prop} (h : qD ds μ Xk) : ds.length = 2 := by obtain ⟨_, _, rfl, _⟩ := h; rfl
def lh : DSp := fun ds μ Q => ∃ (a : Addr) (d : Int), ds = [.m a, .v (.int d)] /\ aw d /\ Bag μ a /\ ∀ t μ', Few t -> (∀ x, t = dN x -> Bd 8900 x) -> fZ d t = false -> Step a μ μ' -> Q (.v t) μ'
theorem xX {ds : List D} {μ : Mu} {Q : DK} (h : lh ds μ Q) : ds.length = 2 := by obtain ⟨_, _, rfl, _⟩ := h; rfl
def uH (a : Addr) (μ μ' : Mu) : Prop := Bag μ' a /\ ∀ b, b ≠ a -> ∀ ds, μ b = some ds -> μ' b = some ds
structure KindsOk (d : Int) (ks : List N3) : Prop where
  l1 : 1 <= ks.length
  l3 : ks.length <= 3
  ok : ∀ k ∈ ks, Ok k /\ Bd 60 k /\ sg d k.a k.b = 1
def tG : DSp := fun ds μ Q => ∃ (a : Addr) (d : Int), ds = [.m a, .v (.int d)] /\ aw d /\ Bag μ a /\ ∀ ks μ', KindsOk d ks -> uH a μ μ' -> Q (.v (.tuple (ks.map dN))) μ'
theorem By {μ : Mu} {Q : DK} {ds : List D} (h : tG ds μ Q) : ds.length = 2 := by obtain ⟨_, _, rfl, _⟩ := h; rfl
structure Fr0 (x : N3) : Prop where
  ok : Ok x
  b : x.b = 0
  a0 : 0 <= x.a
  a1 : x.a < 16384
  c1 : x.c < 16384
def gG : DTS :=
  (bH (Ed (ax xO (ae (ag 1) ar)) (dOp (eZ false) (ax kN (ae (ag 0) (ae (ag 1) ar))) (dC (.int 1)))))
def eD : DTS :=
  (eS (iU (dB (ax kS (ae (ag 0) (ae (ag 1) ar))))) yY cK)
def fe : DTS :=
  (aV (bE (ax jJ (ae (ag 1) (ae (ax iE (ae (ag 1) ar)) ar))) (az 2))
  (bH (ax bM (ae (ag 0) (ae (ax bM (ae (ag 0) (ae (ag 2) (ae (ag 2) ar)))) (ae (ax bK (ae (ag 0) (ae (ax bM (ae (ag 0) (ae (ag 1) (ae (ax iE (ae (ag 1) ar)) ar)))) ar))) ar))))))
def mx : DTS :=
  (aV (bE (Hb (ae (ax kZ (ae (ag 0) (ae (ag 1) ar))) ar)) (az 2))
  (aV (Bw (sR (ae (ax bS (ae (ag 0) (ae (dC (.int 3)) ar))) ar)) (az 3) (aV (bE (ax bS (ae (ag 0) (ae (dC (.int 6)) ar))) (az 4))
  (aV (bE (bC (ae (mQ (dC (.int 1)) (ax bS (ae (ag 0) (ae (dC (.int 9)) ar)))) (ae (dC (.int 0)) (ae (mQ (dC (.int 1)) (ax bS (ae (ag 0) (ae (dC (.int 9)) ar)))) ar)))) (az 5))
  (aV (bE (dOp aJ (jj (ae (dOp aJ (ag 2) (dC (.int 0))) (ae (ax bK (ae (ag 1) (ae (dOp aJ (ag 2) (dC (.int 0))) ar))) ar))) (wy (ag 4) (dC (.int 2)))) (az 6))
  (aV (eS (dB (dOp rGt (ag 4) (dC (.int 3)))) (bE (ax kZ (ae (ag 0) (ae (ag 1) ar))) (az 6)) (eS (dB (dOp rGt (ag 4) (dC (.int 1)))) (bE (ax bM (ae (ag 1) (ae (ag 6) (ae (ax dM (ae (dOp aJ (ag 5) (dC (.int 0))) (ae (dOp aJ (ag 5) (dC (.int 1))) (ae (dOp aJ (ag 5) (dC (.int 2))) ar)))) ar)))) (az 6)) cK))
  (As (Na (ag 2) (ag 6))))))))
  (bH (dCB kB (ae (ag 2) ar)))))
def cu : DTX :=
  (xIf (iU (dB (ax kS (ae (ag 0) (ae (ag 1) ar))))) (fun _ μ Xk => Xk μ) EZ)
def gq (ea : Addr) : DTS :=
  (aV (bE (jj (ae (bC (ae (dC (.str "NoRoot")) (ae (gp ea false (ag 1)) ar))) (ae (bC (ae (dC (.str "NoNumber")) (ae (gp ea true (ag 1)) ar))) (ae (bC (ae (dC (.str "NoLaying")) (ae (gp ea false (ag 1)) ar))) (ae (bC (ae (dC (.str "NoTile")) (ae (gp ea false (ag 1)) ar))) (ae (bC (ae (dC (.str "NoFit")) (ae (gp ea false (ag 1)) ar))) (ae (bC (ae (dC (.str "NoKinds")) (ae (gp ea false (ag 1)) ar))) (ae (bC (ae (dC (.str "NoPlan")) (ae (gp ea false (ag 1)) ar))) (ae (bC (ae (dC (.str "NoSpot")) (ae (gp ea false (ag 1)) ar))) (ae (bC (ae (dC (.str "NoNet")) (ae (gp ea false (ag 1)) ar))) (ae (bC (ae (dC (.str "NoText")) (ae (gp ea false (ag 1)) ar))) (ae (bC (ae (dC (.str "NoSaying")) (ae (gp ea false (ag 1)) ar))) (ae (bC (ae (dC (.str "NoName")) (ae (gp ea false (ag 1)) ar))) (ae (bC (ae (dC (.str "TooMany")) (ae (gp ea false (ag 1)) ar))) ar)))))))))))))) (az 2))
  (aV (bE (j6 [none, none] (vj (ag 2)) (oW 2 (de (az 0) (de (az 1) qr))) (dB (ag 1)) (ag 0)) (az 3))
  (aV (eS (yV (dB (dOp (eZ false) (dCB iV (ae (ag 3) ar)) (dC (.int 1)))) (dB (gp ea true (ag 1)))) (bH (dOp aJ (ag 3) (dC (.int 0)))) cK)
  (bH (dC (.str "several"))))))
def iW : DTS :=
  (aV (bE (ax kZ (ae (ag 0) (ae (ag 1) ar))) (az 2))
  (aV (bE (jj (ae (ax G6 (ae (ag 0) ar)) (ae (ax uJ (ae (ag 2) ar)) (ae (bC (ae (dC (.int 0)) (ae (dC (.int 0)) (ae (dC (.int 1)) ar)))) (ae (bC (ae (cT (dOp aJ (ag 2) (dC (.int 0))) (dC (.int 2))) (ae (cT (dOp aJ (ag 2) (dC (.int 1))) (dC (.int 2))) (ae (cT (dOp aJ (ag 2) (dC (.int 2))) (dC (.int 2))) ar)))) (ae (bC (ae (dOp aJ (ag 2) (dC (.int 0))) (ae (dOp aJ (ag 2) (dC (.int 1))) (ae (mv (dC (.int 0)) (dOp aJ (ag 2) (dC (.int 2)))) ar)))) (ae (dCB qw (ae (ag 2) ar)) (ae (dSl (ag 2) qO (AG (dC (.int 2)))) (ae (dOp jW (ag 2) (bC (ae (dC (.int 1)) ar))) (ae (bC (ae (dOp aJ (ag 2) (dC (.int 0))) (ae (dC .none) (ae (dOp aJ (ag 2) (dC (.int 2))) ar)))) (ae (bC (ae (dC (.bool true)) (ae (dC (.int 0)) (ae (dC (.int 1)) ar)))) (ae (bC (ae (dC (.int 1)) (ae (dC (.int 0)) (ae (dC (.bool true)) ar)))) (ae (bC (ae (ag 2) ar)) ar))))))))))))) (az 3))
  (bH (dOp aJ (ag 3) (ax bS (ae (ag 0) (ae (dC (.int 12)) ar)))))))
section
variable {μ : Mu} {Qd : DK} {ds : List D}
theorem mS {d : Int} {x : N3} (ox : Ok x) : fZ d (dN x) = decide (sg d x.a x.b = 1) := by
  show (isNum (dN x) && decide (sg d x.a x.b = 1)) = _
  rw [qi ox, Bool.true_and]
theorem kI {d : Int} {t : PyData} (h : isNum t = false) : fZ d t = false := by
  unfold fZ
  split
  . rw [h, Bool.false_and]
  . rfl
theorem Gi {t : PyData} (h : isNum t = true) : ∃ x : N3, t = dN x /\ Ok x := by
  unfold isNum at h
  split at h
  . rename_i a b c
    simp only [Bool.and_eq_true, decide_eq_true_eq, beq_iff_eq] at h
    exact ⟨⟨a, b, c⟩, rfl, by show 0 < c; omega, h.2⟩
  . cases h
theorem sO (h : kS ds μ Qd) : gG { nx := fun _ μ' => Qd (.v .none) μ', rt := Qd } (aS ["d", "thing"] ds) μ := by
  obtain ⟨d, t, rfl, hd, ft, bt, q⟩ := h
  unfold gG
  walk_at "rn"
  refine ⟨t, rfl, ft, ?_⟩
  walk_at "rn"
  cases e : isNum t with
  | true =>
    walk_at "rn"
    obtain ⟨x, rfl, ox⟩ := Gi e
    refine ⟨d, x, rfl, hd, bt x rfl, ?_⟩
    walk_at "rn"
    rw [mS ox] at q
    exact q
  | false =>
    walk_at "rn"
    rw [kI e] at q
    exact q
theorem mY (h : lV ds μ Qd) : eD { nx := fun _ μ' => Qd (.v .none) μ', rt := Qd } (aS ["d", "thing"] ds) μ := by
  obtain ⟨d, x, rfl, hd, ox, bx, hx, q⟩ := h
  unfold eD
  walk_at "rn"
  refine ⟨d, dN x, rfl, hd, Au, fun y e => ?_, ?_⟩
  . have : y = x := by
      simp only [dN, PyData.tuple.injEq, List.cons.injEq, PyData.int.injEq, and_true] at e
      exact N3.ext' e.1.symm e.2.1.symm e.2.2.symm
    rw [this]; exact bx
  . walk_at "rn"
    rw [mS ox, hx]
    simp only [decide_true, Bool.not_true, Bool.false_eq_true, ↓reduceIte]
    exact q
theorem iu {Xk : Mu -> Prop} (h : qD ds μ Xk) : cu (aS ["d", "thing"] ds) μ Xk := by
  obtain ⟨d, t, rfl, hd, ft, bt, ht, q⟩ := h
  unfold cu
  rw [Nu]
  walk_at "rn"
  refine ⟨d, t, rfl, hd, ft, bt, ?_⟩
  rw [ht]
  exact q
theorem ma {ea fa : Addr} (q : Qd (.v (.str "NoNumber")) μ) : gq ea { nx := fun _ _ => False, rt := Qd } [some (.o fa), some (.o ea), none, none] μ := by
  unfold gq
  simp only [↓uW, ↓Ef, ↓CZ, ↓CU, ↓pH, ↓vT, ↓q_c, ↓A3, ↓C1, ↓DP, ↓nC, Option.map_some, List.set_cons_zero, List.set_cons_succ]
  refine Eu (ns := [("NoRoot", false), ("NoNumber", true), ("NoLaying", false), ("NoTile", false), ("NoFit", false), ("NoKinds", false), ("NoPlan", false), ("NoSpot", false), ("NoNet", false), ("NoText", false), ("NoSaying", false), ("NoName", false), ("TooMany", false)]) rfl (by decide) ?_
  simp only [↓nC, ↓uW, List.set_cons_zero, List.set_cons_succ, List.map_cons, List.map_nil, List.filterMap_cons, List.filterMap_nil, Jt, Bool.false_eq_true, ↓reduceIte]
  simp only [↓Er, ↓ym, ↓q_B, ↓KJ, ↓K1, ↓pH, ↓vT, ↓xY, ↓xp, ↓q_c, ↓ED, ↓A3, ↓D8, ↓xN, List.getElem?_cons_zero, List.getElem?_cons_succ, List.length_cons, List.length_nil]
  exact q
theorem BF {x y : N3} (e : dN x = dN y) : x = y := by
  simp only [dN, PyData.tuple.injEq, List.cons.injEq, PyData.int.injEq, and_true] at e
  exact N3.ext' e.1 e.2.1 e.2.2
def LF (d : Int) (t : PyData) : Prop := Few t /\ (∀ x, t = dN x -> Bd 8900 x) /\ fZ d t = false
theorem Mo {d : Int} {t : PyData} (h : t ∈ tX) : LF d t := by
  unfold tX at h
  simp only [List.mem_cons, List.not_mem_nil, or_false] at h
  rcases h with rfl | rfl | rfl | rfl | rfl | rfl | rfl | rfl | rfl | rfl | rfl | rfl | rfl | rfl | rfl | rfl | rfl | rfl | rfl | rfl
  all_goals
    refine ⟨by simp [Few], ?_, by first | rfl | exact kI (by decide +kernel)⟩
    (intro x e
     simp only [dN, PyData.tuple.injEq, List.cons.injEq, PyData.int.injEq, and_true, reduceCtorEq, false_and, and_false, List.nil_eq] at e
     try (obtain ⟨e1, e2, e3⟩ := e
          exact ⟨Sz.of (by rw [<- e1]; decide +kernel), Sz.of (by rw [<- e2]; decide +kernel), Sz.of (by rw [<- e3]; decide +kernel)⟩))
theorem Ih {d : Int} {x : N3} (b : Bd 8900 x) (h : fZ d (dN x) = false) : LF d (dN x) := ⟨Au, fun y e => by rw [<- BF e]; exact b, h⟩
theorem nD {d : Int} {t : PyData} (f : Few t) (h : ∀ x, t ≠ dN x) (n : isNum t = false) : LF d t := ⟨f, fun x e => absurd e (h x), kI n⟩
theorem uE (h : lh ds μ Qd) : iW { nx := fun _ μ' => Qd (.v .none) μ', rt := Qd } (aS ["_law_bag_here", "_law_d", "_law_x", "_law_some"] ds) μ := by
  obtain ⟨a, d, rfl, hd, hb, q⟩ := h
  unfold iW
  walk_at "rn"
  refine ⟨a, d, rfl, hd, hb, fun x μ1 ox bx hx s1 => ?_⟩
  walk_at "rn"
  refine ⟨a, rfl, s1.1, fun o μ2 ho s2 => ?_⟩
  have m2 : ∀ z : Int, MulOk z 2 := fun z => mulR (by decide)
  refine ⟨x, rfl, m2 _, m2 _, m2 _, ?_⟩
  simp only [qw, dN]
  walk_at "rn"
  refine ⟨by decide, a, 12, rfl, by decide, by decide, s2.1, fun r μ3 r0 r1 s3 => ?_⟩
  walk_at "rn"
  have om := k8 ox
  have b2 : Bd 30 ⟨x.a * 2, x.b * 2, x.c * 2⟩ := ⟨(bx.a.mul (Sz.of (n := 2) (by decide))).mono (by decide), (bx.b.mul (Sz.of (n := 2) (by decide))).mono (by decide), (bx.c.mul (Sz.of (n := 2) (by decide))).mono (by decide)⟩
  have bn : Bd 30 ⟨x.a, x.b, 0 - x.c⟩ := ⟨bx.a.mono (by decide), bx.b.mono (by decide), by rw [show 0 - x.c = -x.c by omega]; exact bx.c.neg.mono (by decide)⟩
  obtain ⟨t, e, f1, f2, f3⟩ := pick (P := LF d) (xs := [o, dN { a := (minus x).a, b := (minus x).b, c := (minus x).c }, dN { a := 0, b := 0, c := 1 },
              dN { a := x.a * 2, b := x.b * 2, c := x.c * 2 }, dN { a := x.a, b := x.b, c := 0 - x.c },
              PyData.list [PyData.int x.a, PyData.int x.b, PyData.int x.c],
              PyData.tuple (nY [PyData.int x.a, PyData.int x.b, PyData.int x.c] none (some 2)),
              PyData.tuple [PyData.int x.a, PyData.int x.b, PyData.int x.c, PyData.int 1],
              PyData.tuple [PyData.int x.a, PyData.none, PyData.int x.c],
              PyData.tuple [PyData.bool true, PyData.int 0, PyData.int 1],
              PyData.tuple [PyData.int 1, PyData.int 0, PyData.bool true],
              PyData.tuple [dN { a := x.a, b := x.b, c := x.c }]]) r0 (by exact r1) (by
    intro u hu
    simp only [List.mem_cons, List.not_mem_nil, or_false] at hu
    rcases hu with rfl | rfl | rfl | rfl | rfl | rfl | rfl | rfl | rfl | rfl | rfl | rfl
    . exact Mo ho
    . refine Ih ((CH bx).mono (by decide)) ?_
      have es : sg d (minus x).a (minus x).b = -1 := by show sg d (-x.a) (-x.b) = -1; rw [yn hd, hx]
      rw [show ({ a := (minus x).a, b := (minus x).b, c := (minus x).c } : N3) = minus x from rfl, mS om, es]
      decide
    . refine Ih ⟨Sz.of (by decide +kernel), Sz.of (by decide +kernel), Sz.of (by decide +kernel)⟩ ?_
      rw [show dN ⟨0, 0, 1⟩ = dN aB from rfl, mS cM, show sg d aB.a aB.b = 0 from cX.mpr ⟨rfl, rfl⟩]
      decide
    . refine Ih (b2.mono (by decide)) (kI ?_)
      have g := FD x.a x.b x.c 2
      rw [ox.g] at g
      simp [dN, isNum, g]
    . refine Ih (bn.mono (by decide)) (kI ?_)
      have := ox.c
      have h : ¬ (1 <= 0 - x.c) := by omega
      simp only [dN, isNum, decide_eq_false h, Bool.false_and]
    . exact nD trivial (fun y e => by cases e) rfl
    . exact nD (by show 2 ≤ 1000; decide) (fun y e => by have e2 : PyData.tuple [PyData.int x.a, PyData.int x.b] = dN y := e; simp [dN] at e2) rfl
    . exact nD (by show 4 ≤ 1000; decide) (fun y e => by simp [dN] at e) rfl
    . exact nD (by show 3 ≤ 1000; decide) (fun y e => by simp [dN] at e) rfl
    . exact nD (by show 3 ≤ 1000; decide) (fun y e => by simp [dN] at e) rfl
    . exact nD (by show 3 ≤ 1000; decide) (fun y e => by simp [dN] at e) rfl
    . exact nD (by show 1 ≤ 1000; decide) (fun y e => by simp [dN] at e) rfl)
  rw [e]
  exact q t _ f1 f2 f3 (s1.trans (s2.trans s3))
theorem uH.trans {a : Addr} {μ μ1 μ2 : Mu} (h : uH a μ μ1) (g : uH a μ1 μ2) : uH a μ μ2 := ⟨g.1, fun b n ds e => g.2 b n ds (h.2 b n ds e)⟩
theorem Step.w {a : Addr} {μ μ' : Mu} (h : Step a μ μ') : uH a μ μ' := ⟨h.1, fun b n ds e => by rw [h.2 b n]; exact e⟩
theorem ph (h : tw ds μ Qd) : fe { nx := fun _ μ' => Qd (.v .none) μ', rt := Qd } (aS ["_law_d", "_law_shape_here", "_law_both"] ds) μ := by
  obtain ⟨d, x, rfl, hd, ox, nx, bx, q⟩ := h
  have s5 := mU hd.1 hd.2.1
  have omx := aX ox
  have bmx := i6 bx
  have op := aT ox omx
  have bp := ku ox omx bx bmx
  have ot := au (d := d) ox omx
  have bt := br s5 ox omx bx bmx
  have np := qM hd ox nx
  unfold fe
  walk_at "rn"
  refine ⟨x, rfl, x, bR x, rfl, ox, omx, bx.mono (by decide), bmx.mono (by decide), ?_⟩
  walk_at "rn"
  refine ⟨d, _, _, rfl, s5, op, op, bp.mono (by decide), bp.mono (by decide), ?_⟩
  walk_at "rn"
  exact ⟨x, rfl, d, x, bR x, rfl, s5, ox, omx, bx.mono (by decide), bmx.mono (by decide), d, _, rfl, s5, np, bt.mono (by decide), d, _, _, rfl, s5, au op op, aC np, (br s5 op op bp bp).mono (by decide), (cJ s5 np bt).mono (by decide), q⟩
def CW (a p : Addr) (d : Int) (x : N3) (μ : Mu) (i : Nat) (ρ : Rho) (μ' : Mu) : Prop := ∃ (ks : List N3) (r3 r4 r5 r6 : Option D), ρ = [some (.m a), some (.v (.int d)), some (.m p), r3, r4, r5, r6] /\ Bag μ' a /\ (∀ b, b ≠ a -> ∀ ds, μ b = some ds -> μ' b = some ds) /\ μ' p = some ((x :: ks).map dN) /\ ks.length = i /\ (∀ k ∈ x :: ks, Ok k /\ Bd 60 k /\ sg d k.a k.b = 1)
theorem zZ (h : tG ds μ Qd) : mx { nx := fun _ μ' => Qd (.v .none) μ', rt := Qd } (aS ["_law_bag_here", "_law_d", "_law_found", "_law_turn", "_law_way", "_law_part", "_law_kind"] ds) μ := by
  obtain ⟨a, d, rfl, hd, hb, q⟩ := h
  have s5 := mU hd.1 hd.2.1
  unfold mx
  walk_at "rn"
  refine ⟨a, d, rfl, hd, hb, fun x μ1 ox bx sx s1 => ?_⟩
  walk_at "rn"
  intro p hp
  have hap : a ≠ p := fun z => by obtain ⟨g, m, e, _⟩ := s1.1; rw [z, hp] at e; cases e
  have sb : Bag (aO μ1 p [dN x]) a := by obtain ⟨g, m, e, z⟩ := s1.1; exact ⟨g, m, by rw [bG hap]; exact e, z⟩
  rw [AF]
  walk_at "rn"
  refine ⟨a, 3, rfl, by decide, by decide, sb, fun n μ2 n0 n1 s2 => ?_⟩
  walk_at "rn"
  have keep2 : ∀ b, b ≠ a -> ∀ ds, μ b = some ds -> μ2 b = some ds := fun b hb' ds e => by
    have e1 := (s1.2 b hb').trans e
    have : b ≠ p := fun z => by rw [z, hp] at e1; cases e1
    rw [s2.2 b hb', bG this]; exact e1
  have hp2 : μ2 p = some ([x].map dN) := by rw [s2.2 p (fun z => hap z.symm)]; exact bD
  refine ⟨⟨by omega, by omega⟩, CW a p d x μ, ⟨[], _, _, _, _, rfl, s2.1, keep2, hp2, rfl, fun k hk => by rw [List.mem_singleton.mp hk]; exact ⟨ox, bx.mono (by decide), sx⟩⟩, ?_, ?_⟩
  . rintro i v ρ μ3 hv ⟨ks, r3, r4, r5, r6, rfl, hb3, kp, hpk, hl, hok⟩
    obtain ⟨rfl, hi⟩ := Lg hv
    have hi2 : i < 2 := by omega
    walk_at "rn"
    refine ⟨a, 6, rfl, by decide, by decide, hb3, fun way μ4 w0 w1 s4 => ?_⟩
    walk_at "rn"
    refine ⟨a, 9, rfl, by decide, by decide, s4.1, fun t μ5 t0 t1 s5' => ?_⟩
    walk_at "rn"
    refine ⟨a, 9, rfl, by decide, by decide, s5'.1, fun u μ6 u0 u1 s6 => ?_⟩
    walk_at "rn"
    have s46 := s4.trans (s5'.trans s6)
    have hp6 : μ6 p = some (dN x :: ks.map dN) := by rw [s46.2 p (fun z => hap z.symm)]; exact hpk
    simp only [hp6]
    walk_at "rn"
    have nx := aR hd ox sx
    have ocx := aC nx
    have bcx := cJ s5 nx bx
    refine ⟨d, x, rfl, s5, nx, bx.mono (by decide), ?_⟩
    walk_at "rn"
    obtain ⟨m0, m1⟩ := kU way (show (0 : Int) < 2 by decide)
    obtain ⟨_, e1, k1, rfl, ok1, bk1, sk1⟩ := pick (P := fun v => ∃ k, v = dN k /\ Ok k /\ Bd 46 k /\ sg d k.a k.b = 1) (xs := [dN x, dN (ao d x)]) m0 (by exact m1) (by
      intro v hv
      simp only [List.mem_cons, List.not_mem_nil, or_false] at hv
      rcases hv with rfl | rfl
      . exact ⟨_, rfl, ox, bx.mono (by decide), sx⟩
      . exact ⟨_, rfl, ocx, bcx.mono (by decide), dw hd ox sx⟩)
    rw [e1]
    refine ⟨by decide, ?_⟩
    walk_at "rn"
    have fin : ∀ (μ7 : Mu) (k : N3) (r3 r4 r5 : Option D), Step a μ6 μ7 -> Ok k -> Bd 60 k -> sg d k.a k.b = 1 -> Na (ag 2) (ag 6) [some (.m a), some (.v (.int d)), some (.m p), r3, r4, r5, some (.v (dN k))] μ7 (fun _ μ' => CW a p d x μ (i + 1) [some (.m a), some (.v (.int d)), some (.m p), r3, r4, r5, some (.v (dN k))] μ') := fun μ7 k r3 r4 r5 s7 ok bk sk => by
      have s47 := s46.trans s7
      have hp7 : μ7 p = some (dN x :: ks.map dN) := by rw [s47.2 p (fun z => hap z.symm)]; exact hpk
      walk_at "rn"
      simp only [hp7]
      refine ⟨by simp; omega, ks ++ [k], _, _, _, _, rfl, ?_, fun b hb' ds e => ?_, ?_, by simp [hl], fun z hz => ?_⟩
      . obtain ⟨g, m, e, z⟩ := s47.1; exact ⟨g, m, by rw [bG hap]; exact e, z⟩
      . have h3 := kp b hb' ds e
        by_cases hbp : b = p
        . subst hbp
          exfalso
          have e1 := (s1.2 b hb').trans e
          rw [hp] at e1; cases e1
        . rw [bG hbp, s47.2 b hb']; exact h3
      . rw [bD]; simp
      . rcases List.mem_cons.mp hz with z' | z'
        . exact hok z (by rw [z']; exact List.mem_cons_self)
        . rcases List.mem_append.mp z' with z'' | z''
          . exact hok z (List.mem_cons_of_mem _ z'')
          . rw [List.mem_singleton.mp z'']; exact ⟨ok, bk, sk⟩
    by_cases c1 : 3 < way
    . rw [if_pos (by simpa using c1)]
      refine ⟨a, d, rfl, hd, s6.1, fun k μ7 ok bk sk s7 => ?_⟩
      have := fin μ7 k (some (.v (.int (0 + (i : Int))))) (some (.v (.int way))) (some (.v (dN ⟨1 + t, 0, 1 + u⟩))) s7 ok (bk.mono (by decide)) sk
      walk_at "rn"
      exact this
    . rw [if_neg (by simpa using c1)]
      by_cases c2 : 1 < way
      . rw [if_pos (by simpa using c2)]
        have un : 1 + u ≠ 0 := by omega
        have z4 : ∀ v : Int, 0 ≤ v -> v < 9 -> Sz 4 (1 + v) := fun v h1 h2 => Sz.of (by show (1 + v).natAbs < 16; omega)
        have op := iP (1 + t) 0 un
        have bp : Bd 4 (low (1 + t) 0 (1 + u)) := qe un (z4 t t0 t1) (Sz.of (by show (0 : Int).natAbs < 16; decide)) (z4 u u0 u1)
        have hp' : sg d (low (1 + t) 0 (1 + u)).a (low (1 + t) 0 (1 + u)).b = 1 := by
          rw [A2 hd (by omega)]
          unfold sg
          rw [if_neg (by omega), if_pos (by omega)]
        refine ⟨_, _, _, rfl, un, (z4 u u0 u1).mono (by decide), d, k1, _, rfl, s5, ok1, op, bk1.mono (by decide), bp.mono (by decide), ?_⟩
        exact fin μ6 _ _ _ _ (Step.refl s6.1) (au ok1 op) ((br s5 ok1 op bk1 bp).mono (by decide)) (by rw [JR hd ok1 op, sk1, hp']; rfl)
      . rw [if_neg (by simpa using c2)]
        exact fin μ6 k1 _ _ _ (Step.refl s6.1) ok1 (bk1.mono (by decide)) sk1
  . rintro ρ μ3 ⟨ks, r3, r4, r5, r6, rfl, hb3, kp, hpk, hl, hok⟩
    rw [yH] at hl
    walk_at "rn"
    simp only [hpk]
    exact q (x :: ks) μ3 ⟨by simp, by simp; omega, hok⟩ ⟨hb3, kp⟩
theorem Fr0.bd {x : N3} (h : Fr0 x) : Bd 14 x := by
  have hc := h.ok.c
  have a0 := h.a0
  have a1 := h.a1
  have c1 := h.c1
  exact ⟨Sz.of (by show x.a.natAbs < 16384; omega), by rw [h.b]; exact Sz.of (by show (0 : Int).natAbs < 16384; decide), Sz.of (by show x.c.natAbs < 16384; omega)⟩
theorem JK {d : Int} {x y : N3} (hd : aw d) (ox : Ok x) (oy : Ok y) (hx : sg d x.a x.b = 1) (hy : sg d y.a y.b = 1) : sg d (plus x y).a (plus x y).b = 1 := M4.pos hd (aT ox oy) (IM ox oy) hx hy
end
open PySem PySem.Spec PyProof.Rows NM
def J0 (d : Int) (f g s : N3) : N3 := low ((shA d f s).b * (shA d f g).c) 0 ((shA d f s).c * (shA d f g).b)
def N1 (d : Int) (f g s : N3) : N3 := less (shA d f s) (times d (J0 d f g s) (shA d f g))
def Dg (x : N3) (w : Int) : N3 := if 0 < w then less x (bR x) else plus x (bR x)
def Ll (d : Int) (s : N3) (w : Int) : Int := sg d (Dg s w).a (Dg s w).b
def bLast (d : Int) (s : N3) (w : Int) : N3 := times d (times d ⟨Ll d s w, 0, 2⟩ (Dg s w)) (ao d (bR s))
def Nr (d : Int) (k : N3) (w : Int) : N3 := times d (times d (Dg k w) (Dg k w)) (ao d (times d ⟨4, 0, 1⟩ (times d k (bR k))))
def df (d : Int) (k : N3) : Int := sg d (bR k).a (bR k).b
structure BdM (d : Int) (k s : N3) : Prop where
  big : Bd 1300 s
  low : nA d k s = false -> Bd 1000 s
theorem BdM.of {d : Int} {k s : N3} {n : Nat} (h : Bd n s) (l : n <= 1000) : BdM d k s := ⟨h.mono (by omega), fun _ => h.mono l⟩
section
variable {μ : Mu} {Qd : DK} {ds : List D}
theorem vO {d : Int} {x : N3} (h : sg d x.a x.b = 1) : x ≠ aB := fun e => by subst e; have : sg d aB.a aB.b = 0 := cX.mpr ⟨rfl, rfl⟩; omega
theorem qU {x : N3} {w : Int} (ox : Ok x) : Ok (Dg x w) := by
  unfold Dg
  split
  . exact wO ox (aX ox)
  . exact aT ox (aX ox)
theorem _root_.NM.Rep.bd {x : N3} {A B C : Int} {n : Nat} (ox : Ok x) (r : Rep x A B C) (ha : Sz n A) (hb : Sz n B) (hc : Sz n C) : Bd n x := by
  have e : x = NM.low A B C := ox.Pf r.c r.a r.b
  rw [e]
  exact qe r.c ha hb hc
theorem NZ {d : Int} {k : N3} (hd : aw d) (ok : Ok k) (hk : sg d k.a k.b = 1) : df d k = sg d (norm d k) 0 := HI hd ok hk
theorem vt {d : Int} {k : N3} (hd : aw d) (ok : Ok k) (hk : sg d k.a k.b = 1) : (df d k = 1 /\ 0 < norm d k) \/ (df d k = -1 /\ norm d k < 0) := by
  have hn := aR hd ok hk
  rw [NZ hd ok hk, gM, if_neg hn]
  by_cases h : 0 < norm d k
  . rw [if_pos h]; exact .inl ⟨rfl, h⟩
  . rw [if_neg h]; exact .inr ⟨rfl, by omega⟩
theorem K6 {d : Int} {x : N3} (ox : Ok x) (h : x ≠ aB) : sg d x.a x.b = 1 \/ sg d x.a x.b = -1 := by
  rcases sQ d x.a x.b with z | z | z
  . exfalso
    obtain ⟨h1, h2⟩ := cX.mp z
    have g := ox.g
    rw [h1, h2] at g
    have hc := ox.c
    refine h (N3.ext' h1 h2 ?_)
    show x.c = 1
    simp [g3] at g
    omega
  . exact .inl z
  . exact .inr z
theorem tH {d : Int} {x y : N3} (hd : aw d) (ox : Ok x) (oy : Ok y) (hx : x ≠ aB) (hy : y ≠ aB) : times d x y ≠ aB := fun e => by
  have h := fW hd ox oy
  rw [e] at h
  have z : sg d aB.a aB.b = 0 := cX.mpr ⟨rfl, rfl⟩
  rw [z] at h
  rcases K6 (d := d) ox hx with a | a <;> rcases K6 (d := d) oy hy with b | b <;> rw [a, b] at h <;> exact absurd h (by decide)
theorem N7 {d : Int} {x : N3} (hd : aw d) (ox : Ok x) (hx : x ≠ aB) : ao d x ≠ aB := fun e => by
  have hn := hd.norm ox hx
  have t := k6 ox hn
  rw [e] at t
  have h := fW hd ox cM
  rw [t, show sg d aB.a aB.b = 0 from cX.mpr ⟨rfl, rfl⟩, B7] at h
  simp at h
theorem HB {x : N3} (hx : x ≠ aB) : bR x ≠ aB := fun e => hx (by
  have h1 : x.a = 0 := congrArg N3.a e
  have h2 : -x.b = 0 := congrArg N3.b e
  have h3 : x.c = 1 := congrArg N3.c e
  exact N3.ext' h1 (show x.b = 0 by omega) h3)
theorem Ce {t : Int} (h : t = 1 \/ t = -1) : Ok ⟨t, 0, 2⟩ := by
  rcases h with rfl | rfl
  . exact ⟨by decide, by decide⟩
  . exact ⟨by decide, by decide⟩
theorem Mx {t : Int} (h : t = 1 \/ t = -1) : (⟨t, 0, 2⟩ : N3) ≠ aB := fun e => by
  have : (2 : Int) = 1 := congrArg N3.c e
  exact absurd this (by decide)
end
open PySem PySem.Spec PyProof.Rows NM
structure eA (d : Int) (ks : List N3) : Prop where
  l1 : 1 <= ks.length
  l3 : ks.length <= 3
  ok : ∀ k ∈ ks, Ok k /\ Bd 140 k /\ sg d k.a k.b = 1
theorem KindsOk.wide {d : Int} {ks : List N3} (h : KindsOk d ks) : eA d ks := ⟨h.l1, h.l3, fun k hk => ⟨(h.ok k hk).1, (h.ok k hk).2.1.mono (by decide), (h.ok k hk).2.2⟩⟩
def jV : DSp := fun ds μ Q => ∃ (d : Int) (ks : List N3), ds = [.v (.int d), .v (.tuple (ks.map dN))] /\ aw d /\ 1 ≤ ks.length /\ ks.length ≤ 3 /\ (∀ k ∈ ks, Ok k /\ Bd 140 k /\ sg d k.a k.b = 1) /\ Q (.v .none) μ
theorem wz {μ : Mu} {Q : DK} {ds : List D} (h : jV ds μ Q) : ds.length = 2 := by obtain ⟨_, _, rfl, _⟩ := h; rfl
def Np (d : Int) (t : PyData) : Prop := Few t /\ ∀ x, t = dN x -> Bd 8900 x
def KT (d : Int) : PyData -> Prop
  | .tuple xs => xs.length ≤ 1000 /\ (xs.length ≤ 3 -> ∀ x ∈ xs, Np d x)
  | _ => True
def rW (d : Int) : PyData -> Bool
  | .tuple xs => decide (1 <= xs.length) && (decide (xs.length <= 3) && xs.all (fZ d))
  | _ => false
def pV : DSp := fun ds μ Q => ∃ (d : Int) (t : PyData), ds = [.v (.int d), .v t] /\ aw d /\ KT d t /\ Q (.v (.bool (rW d t))) μ
theorem BH {μ : Mu} {Q : DK} {ds : List D} (h : pV ds μ Q) : ds.length = 2 := by obtain ⟨_, _, rfl, _⟩ := h; rfl
def uP : XSp := fun ds μ Xk => ∃ (d : Int) (t : PyData), ds = [.v (.int d), .v t] /\ aw d /\ KT d t /\ rW d t = false /\ Xk μ
theorem zA {ds : List D} {μ : Mu} {Xk : Mu -> Prop} (h : uP ds μ Xk) : ds.length = 2 := by obtain ⟨_, _, rfl, _⟩ := h; rfl
def sgN (d : Int) (k : N3) : Int := sg d (norm d k) 0
def gN (d : Int) (ks : List N3) : Bool := ks.any (fun k => decide (sgN d k = 1)) && ks.any (fun k => decide (sgN d k = -1))
def oj : DSp := fun ds μ Q => ∃ (a : Addr) (d : Int) (ks : List N3), ds = [.m a, .v (.int d), .v (.tuple (ks.map dN))] /\ aw d /\ KindsOk d ks /\ Bag μ a /\ ∀ t μ', KT d t -> rW d t = false -> Step a μ μ' -> Q (.v t) μ'
theorem yS {μ : Mu} {Q : DK} {ds : List D} (h : oj ds μ Q) : ds.length = 3 := by obtain ⟨_, _, _, rfl, _⟩ := h; rfl
def qx : DTS :=
  (aV (eS (ve (iU (dB (EA "tuple" (ag 1)))) (ve (dB (dOp rLt (dCB iV (ae (ag 1) ar)) (dC (.int 1)))) (dB (dOp rGt (dCB iV (ae (ag 1) ar)) (dC (.int 3)))))) (bH (dC (.bool false))) cK)
  (bH (dCB xC (ae (HC [none, some 0] (vW (ag 1)) (az 0) xG (ax kS (ae (ag 1) (ae (ag 0) ar)))) ar))))
def jB : DTS :=
  (eS (iU (dB (ax pV (ae (ag 0) (ae (ag 1) ar))))) yY cK)
def dR : DTX :=
  (xIf (iU (dB (ax pV (ae (ag 0) (ae (ag 1) ar))))) (fun _ μ Xk => Xk μ) EZ)
def ij (ea : Addr) : DTS :=
  (aV (bE (jj (ae (bC (ae (dC (.str "NoRoot")) (ae (gp ea false (ag 1)) ar))) (ae (bC (ae (dC (.str "NoNumber")) (ae (gp ea false (ag 1)) ar))) (ae (bC (ae (dC (.str "NoLaying")) (ae (gp ea false (ag 1)) ar))) (ae (bC (ae (dC (.str "NoTile")) (ae (gp ea false (ag 1)) ar))) (ae (bC (ae (dC (.str "NoFit")) (ae (gp ea false (ag 1)) ar))) (ae (bC (ae (dC (.str "NoKinds")) (ae (gp ea true (ag 1)) ar))) (ae (bC (ae (dC (.str "NoPlan")) (ae (gp ea false (ag 1)) ar))) (ae (bC (ae (dC (.str "NoSpot")) (ae (gp ea false (ag 1)) ar))) (ae (bC (ae (dC (.str "NoNet")) (ae (gp ea false (ag 1)) ar))) (ae (bC (ae (dC (.str "NoText")) (ae (gp ea false (ag 1)) ar))) (ae (bC (ae (dC (.str "NoSaying")) (ae (gp ea false (ag 1)) ar))) (ae (bC (ae (dC (.str "NoName")) (ae (gp ea false (ag 1)) ar))) (ae (bC (ae (dC (.str "TooMany")) (ae (gp ea false (ag 1)) ar))) ar)))))))))))))) (az 2))
  (aV (bE (j6 [none, none] (vj (ag 2)) (oW 2 (de (az 0) (de (az 1) qr))) (dB (ag 1)) (ag 0)) (az 3))
  (aV (eS (yV (dB (dOp (eZ false) (dCB iV (ae (ag 3) ar)) (dC (.int 1)))) (dB (gp ea true (ag 1)))) (bH (dOp aJ (ag 3) (dC (.int 0)))) cK)
  (bH (dC (.str "several"))))))
def iO : DTS :=
  (aV (bE (ax bS (ae (ag 0) (ae (dCB iV (ae (ag 2) ar)) ar))) (az 3))
  (aV (bE (ax bS (ae (ag 0) (ae (dC (.int 8)) ar))) (az 4))
  (aV (eS (dB (dOp rLt (ag 4) (dC (.int 5)))) (bH (dOp jW (dOp jW (dSl (ag 2) qO (AG (ag 3))) (bC (ae (ax lh (ae (ag 0) (ae (ag 1) ar))) ar))) (dSl (ag 2) (AG (dOp jW (ag 3) (dC (.int 1)))) qO))) cK)
  (bH (dOp aJ (jj (ae (bC ar) (ae (dSl (dOp jW (dOp jW (dOp jW (ag 2) (ag 2)) (ag 2)) (ag 2)) qO (AG (dOp jW (dC (.int 4)) (ag 3)))) (ae (dCB qw (ae (ag 2) ar)) ar)))) (mv (ag 4) (dC (.int 5))))))))
section
variable {μ : Mu} {Qd : DK} {ds : List D}
theorem mT {μ : Mu} {Qd : DK} {ea fa : Addr} (q : Qd (.v (.str "NoKinds")) μ) : ij ea { nx := fun _ _ => False, rt := Qd } [some (.o fa), some (.o ea), none, none] μ := by
  unfold ij
  simp only [↓uW, ↓Ef, ↓CZ, ↓CU, ↓pH, ↓vT, ↓q_c, ↓A3, ↓C1, ↓DP, ↓nC, Option.map_some, List.set_cons_zero, List.set_cons_succ]
  refine Eu (ns := [("NoRoot", false), ("NoNumber", false), ("NoLaying", false), ("NoTile", false), ("NoFit", false), ("NoKinds", true), ("NoPlan", false), ("NoSpot", false), ("NoNet", false), ("NoText", false), ("NoSaying", false), ("NoName", false), ("TooMany", false)]) rfl (by decide) ?_
  simp only [↓nC, ↓uW, List.set_cons_zero, List.set_cons_succ, List.map_cons, List.map_nil, List.filterMap_cons, List.filterMap_nil, Jt, Bool.false_eq_true, ↓reduceIte]
  simp only [↓Er, ↓ym, ↓q_B, ↓KJ, ↓K1, ↓pH, ↓vT, ↓xY, ↓xp, ↓q_c, ↓ED, ↓A3, ↓D8, ↓xN, List.getElem?_cons_zero, List.getElem?_cons_succ, List.length_cons, List.length_nil]
  exact q
theorem OU {xs : List PyData} (g : PyData -> Bool) : eo (xs.filterMap fun x => some (.bool (g x))) = some (xs.map g) := by
  induction xs with
  | nil => rfl
  | cons x xs ih =>
    rw [List.filterMap_cons]
    show eo (PyData.bool (g x) :: _) = _
    unfold eo
    rw [ih]
    rfl
theorem Ew (h : pV ds μ Qd) : qx { nx := fun _ μ' => Qd (.v .none) μ', rt := Qd } (aS ["d", "thing"] ds) μ := by
  obtain ⟨d, t, rfl, hd, kt, q⟩ := h
  unfold qx
  walk_at "rn"
  rcases Hh t with ⟨xs, rfl, e⟩ | ⟨hn, e⟩
  . rw [e]
    walk_at "rn"
    have q' : Qd (.v (.bool (decide (1 <= xs.length) && (decide (xs.length <= 3) && xs.all (fZ d))))) μ := q
    by_cases h1 : ((xs.length : Nat) : Int) < 1
    . rw [if_pos (by simpa using h1)]
      rw [decide_eq_false (show ¬ 1 <= xs.length by omega), Bool.false_and] at q'
      exact q'
    . rw [if_neg (by simpa using h1)]
      by_cases h3 : (3 : Int) < ((xs.length : Nat) : Int)
      . rw [if_pos (by simpa using h3)]
        rw [decide_eq_false (show ¬ xs.length <= 3 by omega), Bool.false_and, Bool.and_false] at q'
        exact q'
      . rw [if_neg (by simpa using h3)]
        rw [decide_eq_true (show 1 <= xs.length by omega), decide_eq_true (show xs.length <= 3 by omega), Bool.true_and, Bool.true_and] at q'
        refine ⟨by omega, fun x => some (.bool (fZ d x)), fun x hx μ' hs => ⟨⟨trivial, trivial⟩, ?_⟩, ?_⟩
        . have p := kt.2 (by omega) x hx
          exact ⟨d, x, rfl, hd, p.1, p.2, rfl, rfl⟩
        . rw [OU]
          dsimp only
          rw [List.all_map]
          exact q'
  . rw [e]
    walk_at "rn"
    have : rW d t = false := by cases t <;> first | rfl | exact absurd rfl (hn _)
    rw [this] at q
    exact q
theorem Jg {d : Int} {ks : List N3} (h : eA d ks) : rW d (.tuple (ks.map dN)) = true := by
  show (decide (1 <= (ks.map dN).length) && (decide ((ks.map dN).length <= 3) && (ks.map dN).all (fZ d))) = true
  rw [List.length_map, decide_eq_true h.l1, decide_eq_true h.l3, Bool.true_and, Bool.true_and, List.all_map, List.all_eq_true]
  intro k hk
  obtain ⟨ok, _, sk⟩ := h.ok k hk
  show fZ d (dN k) = true
  rw [mS ok, sk]
  rfl
theorem Qh {d : Int} {ks : List N3} (h : eA d ks) : KT d (.tuple (ks.map dN)) := by
  refine ⟨by rw [List.length_map]; have := h.l3; omega, fun _ x hx => ?_⟩
  obtain ⟨k, hk, rfl⟩ := List.mem_map.mp hx
  exact ⟨Au, fun y e => by rw [<- BF e]; exact (h.ok k hk).2.1.mono (by decide)⟩
theorem u9 (h : jV ds μ Qd) : jB { nx := fun _ μ' => Qd (.v .none) μ', rt := Qd } (aS ["d", "thing"] ds) μ := by
  obtain ⟨d, ks, rfl, hd, l1, l3, hk, q⟩ := h
  have ho : eA d ks := ⟨l1, l3, hk⟩
  unfold jB
  walk_at "rn"
  refine ⟨d, _, rfl, hd, Qh ho, ?_⟩
  rw [Jg ho]
  exact q
theorem lq {Xk : Mu -> Prop} (h : uP ds μ Xk) : dR (aS ["d", "thing"] ds) μ Xk := by
  obtain ⟨d, t, rfl, hd, kt, hf, q⟩ := h
  unfold dR
  rw [Nu]
  walk_at "rn"
  refine ⟨d, t, rfl, hd, kt, ?_⟩
  rw [hf]
  exact q
theorem gr {ks : List N3} {i : Nat} (h : i < ks.length) : (ks.map dN)[i]? = some (dN (ks.getD i aB)) /\ ks.getD i aB ∈ ks := by
  have e : ks[i]? = some (ks.getD i aB) := by
    rw [List.getD_eq_getElem?_getD, List.getElem?_eq_getElem h]; rfl
  exact ⟨by rw [List.getElem?_map, e]; rfl, List.mem_of_getElem? e⟩
theorem HM {α : Type} (xs : List α) (lo hi : Option Int) : (nY xs lo hi).length <= xs.length := by
  unfold nY
  rw [List.length_take, List.length_drop]
  omega
theorem Hw {xs : List PyData} {lo hi : Option Int} {x : PyData} (h : x ∈ nY xs lo hi) : x ∈ xs := by
  unfold nY at h
  exact List.mem_of_mem_drop (List.mem_of_mem_take h)
theorem HA {d : Int} {ks : List N3} (ho : KindsOk d ks) {x : PyData} (h : x ∈ ks.map dN) : Np d x := by
  obtain ⟨k, hk, rfl⟩ := List.mem_map.mp h
  exact ⟨Au, fun y e => by rw [<- BF e]; exact (ho.ok k hk).2.1.mono (by decide)⟩
theorem Lm {d : Int} {xs : List PyData} (h : 3 < xs.length) (h2 : xs.length <= 1000) : KT d (.tuple xs) /\ rW d (.tuple xs) = false := by
  refine ⟨⟨h2, fun z => absurd z (by omega)⟩, ?_⟩
  show (decide (1 <= xs.length) && (decide (xs.length <= 3) && xs.all (fZ d))) = false
  rw [decide_eq_false (show ¬ xs.length <= 3 by omega), Bool.false_and, Bool.and_false]
theorem RC {ks : List PyData} {r : Int} (l1 : 1 <= ks.length) (l3 : ks.length <= 3) (r0 : 0 <= r) (r1 : r < (ks.length : Nat)) : 3 < (nY (ks ++ ks ++ ks ++ ks) none (some (4 + r))).length := by
  have hr : r = 0 \/ r = 1 \/ r = 2 := by omega
  match ks, l1, l3 with
  | [a], _, _ => rcases hr with rfl | rfl | rfl <;> first | (simp at r1; done) | exact (by decide : 3 < 4)
  | [a, b], _, _ => rcases hr with rfl | rfl | rfl <;> first | (simp at r1; done) | exact (by decide : 3 < 4) | exact (by decide : 3 < 5)
  | [a, b, c], _, _ => rcases hr with rfl | rfl | rfl <;> first | exact (by decide : 3 < 4) | exact (by decide : 3 < 5) | exact (by decide : 3 < 6)
theorem tO (h : oj ds μ Qd) : iO { nx := fun _ μ' => Qd (.v .none) μ', rt := Qd } (aS ["_law_bag_here", "_law_d", "_law_kinds_here", "_law_at", "_law_way"] ds) μ := by
  obtain ⟨a, d, ks, rfl, hd, ho, hb, q⟩ := h
  have l1 := ho.l1
  have l3 := ho.l3
  unfold iO
  walk_at "rn"
  rw [List.length_map]
  refine ⟨a, _, rfl, by omega, by omega, hb, fun r μ1 r0 r1 s1 => ?_⟩
  walk_at "rn"
  refine ⟨a, 8, rfl, by decide, by decide, s1.1, fun w μ2 w0 w1 s2 => ?_⟩
  walk_at "rn"
  by_cases hw : w < 5
  . rw [if_pos (by simpa using hw)]
    refine ⟨a, d, rfl, hd, s2.1, fun t μ3 t1 t2 t3 s3 => ?_⟩
    walk_at "rn"
    have L : ∀ lo hi : Option Int, (nY (List.map dN ks) lo hi).length ≤ 3 := fun lo hi => Nat.le_trans (HM _ lo hi) (by rw [List.length_map]; exact l3)
    have c1 := L none (some r)
    have c2 := L (some (r + 1)) none
    refine ⟨by omega, by simp; omega, ?_⟩
    refine q _ _ ⟨by simp; omega, fun _ x hx => ?_⟩ ?_ (s1.trans (s2.trans s3))
    . rcases List.mem_append.mp hx with hx | hx
      . rcases List.mem_append.mp hx with hx | hx
        . exact HA ho (Hw hx)
        . cases List.mem_singleton.mp hx
          exact ⟨t1, t2⟩
      . exact HA ho (Hw hx)
    . have e : (nY (List.map dN ks) none (some r) ++ [t] ++ nY (List.map dN ks) (some (r + 1)) none).all (fZ d) = false := by
        rw [List.all_append, List.all_append]
        show ((_ && (fZ d t && true)) && _) = false
        rw [t3, Bool.false_and, Bool.and_false, Bool.false_and]
      show (_ && (_ && _)) = false
      rw [e, Bool.and_false, Bool.and_false]
  . rw [if_neg (by simpa using hw)]
    have e4 : (List.map dN ks ++ List.map dN ks ++ List.map dN ks ++ List.map dN ks).length ≤ 12 := by simp; omega
    have b4 := Lm (d := d) (RC (ks := List.map dN ks) (r := r) (by rw [List.length_map]; exact l1) (by rw [List.length_map]; exact l3) r0 (by rw [List.length_map]; exact r1)) (Nat.le_trans (HM _ none (some (4 + r))) (by omega))
    refine ⟨by omega, by simp; omega, by simp; omega, ?_⟩
    have hw3 : w = 5 \/ w = 6 \/ w = 7 := by omega
    rcases hw3 with rfl | rfl | rfl
    . exact q _ _ ⟨by decide, fun _ x hx => nomatch hx⟩ rfl (s1.trans s2)
    . exact q _ _ b4.1 b4.2 (s1.trans s2)
    . exact q _ _ trivial rfl (s1.trans s2)
end
open PySem PySem.Spec PyProof.Rows NM
def grB (x : N3) : Bool := decide (x.a * x.b < 0)
def grN (d : Int) (k : N3) : N3 := if grB (ao d k) = true then ao d k else k
def iOf (d : Int) (ks : List N3) (v : Int) : Nat := (Lc v (ks.map (sgN d))).getD 0
def JY (d : Int) (ks : List N3) : Nat := l7 d ks (ks.length - 1)
def G3 (d : Int) (ks : List N3) : N3 := ks.getD (JY d ks) aB
def kK (d : Int) (ks : List N3) (s : N3) : Bool := gN d ks || nA d (G3 d ks) s
structure SB (d : Int) (ks : List N3) (s : N3) : Prop where
  big : Bd 1300 s
  con : Bd 1420 (ao d s)
  low : kK d ks s = false -> Bd 1000 s
theorem SB.of {d : Int} {ks : List N3} {s : N3} (hd : aw d) (os : Ok s) (hs : sg d s.a s.b = 1) (h : Bd 700 s) : SB d ks s := ⟨h.mono (by decide), (cJ (mU hd.1 hd.2.1) (aR hd os hs) h).mono (by decide), fun _ => h.mono (by decide)⟩
section
variable {μ : Mu} {Qd : DK} {ds : List D}
theorem D4 {v : Int} : ∀ {l : List Int}, v ∈ l -> ∃ j, Lc v l = some j /\ j < l.length /\ l[j]? = some v
  | [], h => nomatch h
  | x :: r, h => by
    unfold Lc
    by_cases e : x = v
    . rw [if_pos e]
      exact ⟨0, rfl, Nat.succ_pos _, by rw [e]; rfl⟩
    . rw [if_neg e]
      have h' : v ∈ r := (List.mem_cons.mp h).resolve_left (fun z => e z.symm)
      obtain ⟨j, h1, h2, h3⟩ := D4 h'
      exact ⟨j + 1, by rw [h1]; rfl, Nat.succ_lt_succ h2, h3⟩
theorem Eh {d : Int} {ks : List N3} {v : Int} (h : ks.any (fun k => decide (sgN d k = v)) = true) : Lc v (ks.map (sgN d)) = some (iOf d ks v) /\ iOf d ks v < ks.length /\ sgN d (ks.getD (iOf d ks v) aB) = v := by
  obtain ⟨k, hk, hv⟩ := List.any_eq_true.mp h
  have hv' : sgN d k = v := by simpa using hv
  obtain ⟨j, h1, h2, h3⟩ := D4 (l := ks.map (sgN d)) (v := v) (by rw [<- hv']; exact List.mem_map_of_mem hk)
  have e : iOf d ks v = j := by unfold iOf; rw [h1]; rfl
  rw [List.length_map] at h2
  refine ⟨by rw [e]; exact h1, by rw [e]; exact h2, ?_⟩
  rw [e]
  rw [List.getElem?_map] at h3
  obtain ⟨g1, g2⟩ := gr h2
  have g3 : ks[j]? = some (ks.getD j aB) := by rw [List.getD_eq_getElem?_getD, List.getElem?_eq_getElem h2]; rfl
  rw [g3] at h3
  exact Option.some.inj h3
theorem uh {d : Int} {k : N3} (ok : Ok k) (nk : norm d k ≠ 0) : (0 < norm d (ao d k) ↔ 0 < norm d k) /\ (norm d (ao d k) < 0 ↔ norm d k < 0) := kL (uw ok nk)
structure R7 (d : Int) (k : N3) : Prop where
  ok : Ok (grN d k)
  bd : Bd 286 (grN d k)
  sg : NM.sg d (grN d k).a (grN d k).b = 1
  pos : 0 < norm d (grN d k) ↔ 0 < norm d k
  neg : norm d (grN d k) < 0 ↔ norm d k < 0
theorem Nn {d : Int} {k : N3} (hd : aw d) (ok : Ok k) (bk : Bd 140 k) (sk : sg d k.a k.b = 1) : R7 d k := by
  have s5 := mU hd.1 hd.2.1
  have nk := aR hd ok sk
  have n := uh ok nk
  by_cases e : grB (ao d k) = true
  . have eg : grN d k = ao d k := if_pos e
    exact ⟨by rw [eg]; exact aC nk, by rw [eg]; exact cJ s5 nk bk, by rw [eg]; exact dw hd ok sk, by rw [eg]; exact n.1, by rw [eg]; exact n.2⟩
  . have eg : grN d k = k := if_neg e
    exact ⟨by rw [eg]; exact ok, by rw [eg]; exact bk.mono (by decide), by rw [eg]; exact sk, by rw [eg], by rw [eg]⟩
theorem M7 {d : Int} {k : N3} (h : sgN d k = 1) : 0 < norm d k := by
  unfold sgN at h
  rw [gM] at h
  split at h
  . cases h
  . split at h
    . assumption
    . cases h
theorem Ma {d : Int} {k : N3} (h : sgN d k = -1) : norm d k < 0 := by
  unfold sgN at h
  rw [gM] at h
  split at h
  . cases h
  . split at h
    . cases h
    . omega
theorem Kq {d : Int} {ks : List N3} (hd : aw d) (ho : eA d ks) : JY d ks < ks.length := by
  have l1 := ho.l1
  have hc : ∀ i, i < ks.length -> 0 < (d6 d (ks.getD i aB)).c := fun i hi => by
    obtain ⟨ok, _, sk⟩ := ho.ok _ (gr hi).2
    exact (mZ hd (aR hd ok sk) ok).c
  have := (vN hc (ks.length - 1) (by omega)).1
  unfold JY
  omega
end
open PySem PySem.Spec PyProof.Rows NM
def weigh (d : Int) (p q s t w h : N3) : N3 := plus (times d w (plus (times d p h) (times d q (bR h)))) (times d (bR w) (plus (times d s h) (times d t (bR h))))
def eY (d : Int) (p q s t k : N3) : Bool :=
  if sg d (times d p k).a (times d p k).b < 0 then false else if sg d (times d t (bR k)).a (times d t (bR k)).b < 0 then false
  else !decide (dif d (times d (plus (times d q (bR k)) (times d s k)) (plus (times d q (bR k)) (times d s k))) (times d ⟨4, 0, 1⟩ (times d (times d p k) (times d t (bR k)))) = 1)
def W4 (p q s t : N3) : PyData := .tuple [dN p, dN q, dN s, dN t]
structure OkW (n n' : Nat) (p q s t : N3) : Prop where
  op : Ok p
  oq : Ok q
  os : Ok s
  ot : Ok t
  bp : Bd n p
  bq : Bd n' q
  bs : Bd n' s
  bt : Bd n t
def ur : DSp := fun ds μ Q => ∃ (d : Int) (p q s t k : N3) (n n' m : Nat), ds = [.v (.int d), .v (W4 p q s t), .v (dN k)] /\ aw d /\ OkW n n' p q s t /\ Ok k /\ Bd m k /\ 2 * (n + m) + 40 ≤ 4300 /\ 4 * (n' + m) + 40 ≤ 4300 /\ Q (.v (.bool (eY d p q s t k))) μ
theorem DF {μ : Mu} {Q : DK} {ds : List D} (h : ur ds μ Q) : ds.length = 3 := by obtain ⟨_, _, _, _, _, _, _, _, _, rfl, _⟩ := h; rfl
def qH : DSp := fun ds μ Q => ∃ (d : Int) (p q s t w h : N3) (n n' m l : Nat), ds = [.v (.int d), .v (W4 p q s t), .v (dN w), .v (dN h)] /\ aw d /\ OkW n n' p q s t /\ Ok w /\ Bd m w /\ Ok h /\ Bd l h /\ n + n' + 2 * l + m + 30 ≤ 4300 /\ Q (.v (dN (weigh d p q s t w h))) μ
theorem zm {μ : Mu} {Q : DK} {ds : List D} (h : qH ds μ Q) : ds.length = 4 := by obtain ⟨_, _, _, _, _, _, _, _, _, _, _, rfl, _⟩ := h; rfl
def nU : DSp := fun ds μ Q => ∃ p q s t : N3, ds = [.v (W4 p q s t)] /\ Ok p /\ Ok q /\ Ok s /\ Ok t /\ Q (.v (.bool true)) μ
theorem yL {μ : Mu} {Q : DK} {ds : List D} (h : nU ds μ Q) : ds.length = 1 := by obtain ⟨_, _, _, _, rfl, _⟩ := h; rfl
def rC (d : Int) (ks : List N3) (shape w p q s t : N3) : Bool := ks.all (fun k => eY d p q s t k && eY d p q s t (ao d k)) && decide (sg d (weigh d p q s t w (times d shape w)).a (weigh d p q s t w (times d shape w)).b < 0)
def kO : DTS :=
  (aV (bE (ag 1) (oW 4 (de (az 3) (de (az 4) (de (az 5) (de (az 6) qr))))))
  (aV (bE (ax bM (ae (ag 0) (ae (ag 3) (ae (ag 2) ar)))) (az 7))
  (aV (bE (ax bM (ae (ag 0) (ae (ag 6) (ae (ax iE (ae (ag 2) ar)) ar)))) (az 8))
  (aV (eS (ve (dB (dOp rLt (ax kN (ae (ag 0) (ae (ag 7) ar))) (dC (.int 0)))) (dB (dOp rLt (ax kN (ae (ag 0) (ae (ag 8) ar))) (dC (.int 0))))) (bH (dC (.bool false))) cK)
  (aV (bE (ax jJ (ae (ax bM (ae (ag 0) (ae (ag 4) (ae (ax iE (ae (ag 2) ar)) ar)))) (ae (ax bM (ae (ag 0) (ae (ag 5) (ae (ag 2) ar)))) ar))) (az 9))
  (aV (bE (ax bM (ae (ag 0) (ae (bC (ae (dC (.int 4)) (ae (dC (.int 0)) (ae (dC (.int 1)) ar)))) (ae (ax bM (ae (ag 0) (ae (ag 7) (ae (ag 8) ar)))) ar)))) (az 10))
  (bH (HN (ax wR (ae (ag 0) (ae (ax bM (ae (ag 0) (ae (ag 9) (ae (ag 9) ar)))) (ae (ag 10) ar))))))))))))
def rT : DTS :=
  (aV (bE (ag 1) (oW 4 (de (az 4) (de (az 5) (de (az 6) (de (az 7) qr))))))
  (aV (bE (ax jJ (ae (ax bM (ae (ag 0) (ae (ag 4) (ae (ag 3) ar)))) (ae (ax bM (ae (ag 0) (ae (ag 5) (ae (ax iE (ae (ag 3) ar)) ar)))) ar))) (az 8))
  (aV (bE (ax jJ (ae (ax bM (ae (ag 0) (ae (ag 6) (ae (ag 3) ar)))) (ae (ax bM (ae (ag 0) (ae (ag 7) (ae (ax iE (ae (ag 3) ar)) ar)))) ar))) (az 9))
  (bH (ax jJ (ae (ax bM (ae (ag 0) (ae (ag 2) (ae (ag 8) ar)))) (ae (ax bM (ae (ag 0) (ae (ax iE (ae (ag 2) ar)) (ae (ag 9) ar)))) ar)))))))
def lZ : DTS :=
  (aV (eS (ve (iU (dB (EA "tuple" (ag 0)))) (dB (dOp (eZ true) (dCB iV (ae (ag 0) ar)) (dC (.int 4))))) (bH (dC (.bool false))) cK)
  (bH (dCB xC (ae (HC [none] (vW (ag 0)) (az 0) xG (ax xO (ae (ag 0) ar))) ar))))
section
variable {μ : Mu} {Qd : DK} {ds : List D}
theorem yd (h : ur ds μ Qd) : kO { nx := fun _ μ' => Qd (.v .none) μ', rt := Qd } (aS ["d", "weights", "kind", "p", "q", "s", "t", "first", "last", "middle", "most"] ds) μ := by
  obtain ⟨d, p, q', s, t, k, n, n', m, rfl, hd, o4, ok, bk, l1, l2, q⟩ := h
  obtain ⟨op, oq, os, ot, bp, bq, bs, bt⟩ := o4
  have s5 := mU hd.1 hd.2.1
  have omk := aX ok
  have bmk := i6 bk
  have o1 := au (d := d) op ok
  have o2 := au (d := d) ot omk
  have b1 := br s5 op ok bp bk
  have b2' := br s5 ot omk bt bmk
  have oq' := au (d := d) oq omk
  have os' := au (d := d) os ok
  have bq' := br s5 oq omk bq bmk
  have bs' := br s5 os ok bs bk
  have om := aT oq' os'
  have bm := ku oq' os' bq' bs'
  have o12 := au (d := d) o1 o2
  have b12 := br s5 o1 o2 b1 b2'
  have o4' : Ok ⟨4, 0, 1⟩ := dk 4
  have b4' : Bd 4 ⟨4, 0, 1⟩ := ⟨Sz.of (by decide), Sz.of (by decide), Sz.of (by decide)⟩
  unfold eY at q
  unfold kO
  simp only [W4]
  walk_at "rn"
  refine ⟨trivial, d, p, k, rfl, s5, op, ok, bp.mono (by omega), bk.mono (by omega), ?_⟩
  walk_at "rn"
  refine ⟨k, rfl, d, t, bR k, rfl, s5, ot, omk, bt.mono (by omega), bmk.mono (by omega), ?_⟩
  walk_at "rn"
  refine ⟨d, _, rfl, hd, b1.mono (by omega), ?_⟩
  walk_at "rn"
  by_cases c1 : sg d (times d p k).a (times d p k).b < 0
  . rw [if_pos (by simpa using c1)]
    rw [if_pos c1] at q
    exact q
  . rw [if_neg (by simpa using c1)]
    rw [if_neg c1] at q
    refine ⟨d, _, rfl, hd, b2'.mono (by omega), ?_⟩
    walk_at "rn"
    by_cases c2 : sg d (times d t (bR k)).a (times d t (bR k)).b < 0
    . rw [if_pos (by simpa using c2)]
      rw [if_pos c2] at q
      exact q
    . rw [if_neg (by simpa using c2)]
      rw [if_neg c2] at q
      refine ⟨k, rfl, d, q', bR k, rfl, s5, oq, omk, bq.mono (by omega), bmk.mono (by omega), ?_⟩
      walk_at "rn"
      refine ⟨d, s, k, rfl, s5, os, ok, bs.mono (by omega), bk.mono (by omega), _, _, rfl, oq', os', bq'.mono (by omega), bs'.mono (by omega), ?_⟩
      walk_at "rn"
      refine ⟨d, _, _, rfl, s5, o1, o2, b1.mono (by omega), b2'.mono (by omega), d, _, _, rfl, s5, o4', o12, b4'.mono (by decide), b12.mono (by omega), ?_⟩
      walk_at "rn"
      refine ⟨d, _, _, rfl, s5, om, om, bm.mono (by omega), bm.mono (by omega), ?_⟩
      walk_at "rn"
      refine ⟨d, _, _, rfl, hd, (br s5 om om bm bm).mono (by omega), (br s5 o4' o12 b4' b12).mono (by omega), ?_⟩
      walk_at "rn"
      exact q
theorem ER (h : qH ds μ Qd) : rT { nx := fun _ μ' => Qd (.v .none) μ', rt := Qd } (aS ["d", "weights", "width", "height", "p", "q", "s", "t", "by_width", "by_its_mate"] ds) μ := by
  obtain ⟨d, p, q', s, t, w, h, n, n', m, l, rfl, hd, o4, ow, bw, oh, bh, lt, q⟩ := h
  obtain ⟨op, oq, os, ot, bp, bq, bs, bt⟩ := o4
  have s5 := mU hd.1 hd.2.1
  have omh := aX oh
  have bmh := i6 bh
  have tp := br s5 op oh bp bh
  have tq := br s5 oq omh bq bmh
  have ts := br s5 os oh bs bh
  have tt := br s5 ot omh bt bmh
  have o1 := au (d := d) op oh
  have o2 := au (d := d) oq omh
  have o3 := au (d := d) os oh
  have o4 := au (d := d) ot omh
  have b12 := ku o1 o2 tp tq
  have b34 := ku o3 o4 ts tt
  have o12 := aT o1 o2
  have o34 := aT o3 o4
  have ow1 := au (d := d) ow o12
  have ow2 := au (d := d) (aX ow) o34
  have bw1 := br s5 ow o12 bw b12
  have bw2 := br s5 (aX ow) o34 (i6 bw) b34
  unfold rT
  simp only [W4]
  walk_at "rn"
  refine ⟨trivial, d, p, h, rfl, s5, op, oh, bp.mono (by omega), bh.mono (by omega), ?_⟩
  walk_at "rn"
  refine ⟨h, rfl, d, q', bR h, rfl, s5, oq, omh, bq.mono (by omega), bmh.mono (by omega), _, _, rfl, o1, o2, tp.mono (by omega), tq.mono (by omega), ?_⟩
  walk_at "rn"
  refine ⟨d, s, h, rfl, s5, os, oh, bs.mono (by omega), bh.mono (by omega), ?_⟩
  walk_at "rn"
  refine ⟨h, rfl, d, t, bR h, rfl, s5, ot, omh, bt.mono (by omega), bmh.mono (by omega), _, _, rfl, o3, o4, ts.mono (by omega), tt.mono (by omega), ?_⟩
  walk_at "rn"
  refine ⟨d, w, _, rfl, s5, ow, o12, bw.mono (by omega), b12.mono (by omega), ?_⟩
  walk_at "rn"
  exact ⟨w, rfl, d, bR w, _, rfl, s5, aX ow, o34, (i6 bw).mono (by omega), b34.mono (by omega), _, _, rfl, ow1, ow2, bw1.mono (by omega), bw2.mono (by omega), q⟩
theorem K3 {d : Int} {p q s t w h : N3} {n n' m l : Nat} (hd : aw d) (o4 : OkW n n' p q s t) (ow : Ok w) (bw : Bd m w) (oh : Ok h) (bh : Bd l h) : Bd (2 * (n + n' + 2 * l + m + 30)) (weigh d p q s t w h) := by
  obtain ⟨op, oq, os, ot, bp, bq, bs, bt⟩ := o4
  have s5 := mU hd.1 hd.2.1
  have omh := aX oh
  have bmh := i6 bh
  have o1 := au (d := d) op oh
  have o2 := au (d := d) oq omh
  have o3 := au (d := d) os oh
  have o4 := au (d := d) ot omh
  have b12 := ku o1 o2 (br s5 op oh bp bh) (br s5 oq omh bq bmh)
  have b34 := ku o3 o4 (br s5 os oh bs bh) (br s5 ot omh bt bmh)
  have o12 := aT o1 o2
  have o34 := aT o3 o4
  exact (ku (au ow o12) (au (aX ow) o34) (br s5 ow o12 bw b12) (br s5 (aX ow) o34 (i6 bw) b34)).mono (by omega)
theorem zE (h : nU ds μ Qd) : lZ { nx := fun _ μ' => Qd (.v .none) μ', rt := Qd } (aS ["thing"] ds) μ := by
  obtain ⟨p, q', s, t, rfl, op, oq, os, ot, q⟩ := h
  unfold lZ
  walk_at "rn"
  have e : isT "tuple" (W4 p q' s t) = true := rfl
  rw [e]
  simp only [W4]
  walk_at "rn"
  refine ⟨by simp, fun x => some (.bool (isNum x)), fun x hx μ' hs => ⟨trivial, x, rfl, ?_, rfl, rfl⟩, ?_⟩
  . simp only [List.mem_cons, List.not_mem_nil, or_false] at hx
    rcases hx with rfl | rfl | rfl | rfl <;> exact Au
  . have e1 : List.filterMap (fun x => some (PyData.bool (isNum x))) [dN p, dN q', dN s, dN t] = [.bool true, .bool true, .bool true, .bool true] := by
      show [PyData.bool (isNum (dN p)), PyData.bool (isNum (dN q')), PyData.bool (isNum (dN s)), PyData.bool (isNum (dN t))] = _
      rw [qi op, qi oq, qi os, qi ot]
    rw [e1]
    exact q
theorem K2 {ks : List N3} {i : Nat} {x : PyData} (h : (ks.map dN)[i]? = some x) : ∃ k, ks[i]? = some k /\ x = dN k := by
  rw [List.getElem?_map] at h
  cases e : ks[i]? with
  | none => rw [e] at h; cases h
  | some k => rw [e] at h; cases h; exact ⟨k, rfl, rfl⟩
theorem xr {ks : List N3} {f : N3 -> Bool} {k : N3} (hk : k ∈ ks) (h : f k = false) : ks.all f = false := by
  cases e : ks.all f with
  | false => rfl
  | true => have := List.all_eq_true.mp e k hk; rw [h] at this; cases this
theorem Ge {α : Type} {P : α -> Prop} {ks : List α} {i : Nat} {k : α} (h : ks[i]? = some k) (h1 : ∀ x ∈ ks.take i, P x) (h2 : P k) : ∀ x ∈ ks.take (i + 1), P x := fun x hx => by
  obtain ⟨hi, e⟩ := List.getElem?_eq_some_iff.mp h
  rw [List.take_succ_eq_append_getElem hi, e] at hx
  rcases List.mem_append.mp hx with hx | hx
  . exact h1 x hx
  . rw [List.mem_singleton.mp hx]; exact h2
end
open PySem PySem.Spec PyProof.Rows NM
section
variable {d : Int} {k s k2 : N3} {w : Int}
theorem tt1 {t : Int} (h : t = 1 \/ t = -1) : t * t = 1 := by rcases h with rfl | rfl <;> rfl
structure wM (d : Int) (k s : N3) (w : Int) : Prop where
  hd : aw d
  ok : Ok k
  hk : sg d k.a k.b = 1
  os : Ok s
  hs : sg d s.a s.b = 1
  ne : Dg s w ≠ aB
theorem wM.ht (h : wM d k s w) : Ll d s w = 1 \/ Ll d s w = -1 := K6 (qU h.os) h.ne
theorem wM.nm (h : wM d k s w) : norm d (bR s) ≠ 0 := by rw [Io]; exact aR h.hd h.os h.hs
theorem wM.ol (h : wM d k s w) : Ok (bLast d s w) := au (au (Ce h.ht) (qU h.os)) (aC h.nm)
theorem wM.nl (h : wM d k s w) : bLast d s w ≠ aB := tH h.hd (au (Ce h.ht) (qU h.os)) (aC h.nm) (tH h.hd (Ce h.ht) (qU h.os) (Mx h.ht) h.ne) (N7 h.hd (aX h.os) (HB (vO h.hs)))
theorem wM.nn (h : wM d k s w) : norm d (bLast d s w) ≠ 0 := h.hd.norm h.ol h.nl
theorem A7 : Ok ⟨4, 0, 1⟩ := dk 4
theorem NV (hd : aw d) (ok : Ok k) (hk : sg d k.a k.b = 1) : norm d (times d ⟨4, 0, 1⟩ (times d k (bR k))) ≠ 0 := hd.norm (au A7 (au ok (aX ok))) (tH hd A7 (au ok (aX ok)) (fun e => absurd (congrArg N3.a e) (by decide)) (tH hd ok (aX ok) (vO hk) (HB (vO hk))))
theorem LY (hd : aw d) (ok : Ok k) (hk : sg d k.a k.b = 1) : Ok (Nr d k w) := au (au (qU ok) (qU ok)) (aC (NV hd ok hk))
def bP (d : Int) (k s : N3) (w : Int) : N3 := times d (Nr d k w) (ao d (bLast d s w))
theorem wM.op (h : wM d k s w) : Ok (bP d k s w) := au (LY h.hd h.ok h.hk) (aC h.nn)
end
open PySem PySem.Spec PyProof.Rows NM
section
variable {d : Int} {k s k2 : N3} {w : Int}
theorem Kf (hd : aw d) {t : Int} (h : t = 1 \/ t = -1) : sg d (⟨t, 0, 1⟩ : N3).a (⟨t, 0, 1⟩ : N3).b = t := by
  show sg d t 0 = t
  rw [gM]
  rcases h with rfl | rfl <;> rfl
theorem sE (hd : aw d) (ok : Ok k) (hk : sg d k.a k.b = 1) (h : 0 < norm d k) : df d k = 1 := by
  rcases vt hd ok hk with ⟨a, b⟩ | ⟨a, b⟩
  . exact a
  . omega
theorem sL (hd : aw d) (ok : Ok k) (hk : sg d k.a k.b = 1) (h : norm d k < 0) : df d k = -1 := by
  rcases vt hd ok hk with ⟨a, b⟩ | ⟨a, b⟩
  . omega
  . exact a
theorem Al (t : Int) : Ok ⟨t, 0, 1⟩ := dk t
end
open PySem PySem.Spec PyProof.Rows NM
section
variable {d : Int} {k s k2 : N3} {w : Int}
theorem NB (hd : aw d) {p q r t : N3} (op : Ok p) (oq : Ok q) (or' : Ok r) (ot : Ok t) (os : Ok s) : weigh d p q r t one (times d s one) = plus (plus (times d p s) (times d q (bR s))) (plus (times d r s) (times d t (bR s))) := by
  have om := aX os
  unfold weigh
  rw [Lo os, show bR one = one from rfl, LX (aT (au op os) (au oq om)), LX (aT (au or' os) (au ot om))]
theorem yz {w : Int} (hd : aw d) (ok2 : Ok k2) (hk2 : sg d k2.a k2.b = 1) (hw : df d k2 = w) : eY d aB aB aB ⟨w, 0, 1⟩ k2 = true := by
  have hpm : w = 1 \/ w = -1 := by rw [<- hw]; rcases vt hd ok2 hk2 with ⟨a, _⟩ | ⟨a, _⟩ <;> omega
  have om := aX ok2
  have z : sg d aB.a aB.b = 0 := cX.mpr ⟨rfl, rfl⟩
  unfold eY
  rw [BN ok2, BN om, O8 i9, BN i9, BN (au (Al w) om), lY A7 i9, BN A7, KN, z]
  rw [if_neg (by decide), fW hd (Al w) om, Kf hd hpm]
  have e : sg d (bR k2).a (bR k2).b = w := hw
  rw [e, tt1 hpm, if_neg (by decide)]
  rfl
theorem EX {w : Int} (hd : aw d) (os : Ok s) (hs : sg d s.a s.b = 1) (hw : w = 1 \/ w = -1) (hn : df d s ≠ w) : sg d (weigh d aB aB aB ⟨w, 0, 1⟩ one (times d s one)).a (weigh d aB aB aB ⟨w, 0, 1⟩ one (times d s one)).b < 0 := by
  have om := aX os
  rw [NB hd i9 i9 i9 (Al w) os, BN os, BN om, O8 i9, Ka (au (Al w) om), Ka (au (Al w) om), fW hd (Al w) om, Kf hd hw]
  show w * df d s < 0
  rcases vt hd os hs with ⟨a, _⟩ | ⟨a, _⟩ <;> rw [a] at hn ⊢ <;> rcases hw with rfl | rfl <;> first | exact absurd rfl hn | decide
end
open PySem PySem.Spec PyProof.Rows NM
section
variable {d : Int} {k s m : N3}
theorem Kx (h : norm d k ≠ 0) : Lay d k k := by
  rcases Int.lt_or_gt_of_ne h with z | z
  . exact .inr ⟨z, z, by rw [Int.mul_comm]; exact Int.le_refl _⟩
  . exact .inl ⟨z, z, by rw [Int.mul_comm]; exact Int.le_refl _⟩
theorem tr1 {x y u v p q : Int} (hu : 0 < u) (hx : 0 <= x) (hq : 0 <= q) (h1 : v * y <= u * x) (h2 : p * u <= q * v) (hy : 0 <= y) : p * y <= q * x := by
  have a := Int.mul_le_mul_of_nonneg_right h2 hy
  have b := Int.mul_le_mul_of_nonneg_left h1 hq
  have c : u * (q * x - p * y) = (q * (u * x) - q * (v * y)) + (q * v * y - p * u * y) := by grind
  have e : 0 <= (q * x - p * y) * u := by rw [Int.mul_comm, c]; omega
  rw [ix hu] at e
  omega
theorem Ir (hd : aw d) (h1 : Lay d k m) (h2 : Lay d m s) : Lay d k s := by
  have d0 : 0 < d := by have := hd.1; omega
  rcases h1 with ⟨a, b, c⟩ | ⟨a, b, c⟩ <;> rcases h2 with ⟨a', b', c'⟩ | ⟨a', b', c'⟩
  . have hm : 0 < m.a * m.a := by have := dsq (d := d) (b := m.b) d0; have e : norm d m = m.a * m.a - d * m.b * m.b := rfl; omega
    exact .inl ⟨a, b', tr1 hm (sq_nonneg _) (sq_nonneg _) c c' (sq_nonneg _)⟩
  . omega
  . omega
  . have hm : 0 < m.b * m.b := by
      rcases Classical.em (m.b = 0) with z | z
      . have e : norm d m = m.a * m.a - d * m.b * m.b := rfl
        rw [z] at e
        have := sq_nonneg m.a
        omega
      . exact sq_pos z
    exact .inr ⟨a, b', tr1 hm (sq_nonneg _) (sq_nonneg _) c c' (sq_nonneg _)⟩
theorem CJ (hd : aw d) (ok : Ok k) (nk : norm d k ≠ 0) : ((d6 d k).a.natAbs : Int) * ((norm d k).natAbs : Int) = 4 * (k.a * k.a) * (d6 d k).c := by
  have r := Jv hd ok nk
  have e := congrArg Int.natAbs r.a
  rw [Int.natAbs_mul] at e
  have hc := (mZ hd nk ok).c
  have h0 : 0 <= 4 * (k.a * k.a) * (d6 d k).c := Int.mul_nonneg (Int.mul_nonneg (by decide) (sq_nonneg _)) (by omega)
  have e2 : ((4 * (k.a * k.a) * (d6 d k).c).natAbs : Int) = 4 * (k.a * k.a) * (d6 d k).c := Int.natAbs_of_nonneg h0
  rw [<- e2, <- e]
  rfl
theorem Iq (hd : aw d) (ok : Ok k) (om : Ok m) (hs : (0 < norm d k /\ 0 < norm d m) \/ (norm d k < 0 /\ norm d m < 0)) (h : ¬ gtL d m k) : Lay d k m := by
  have nk : norm d k ≠ 0 := by omega
  have nm : norm d m ≠ 0 := by omega
  have d0 : 0 < d := by have := hd.1; omega
  have ak := CJ hd ok nk
  have am := CJ hd om nm
  have ck := (mZ hd nk ok).c
  have cm := (mZ hd nm om).c
  unfold gtL at h
  have h1 : ((d6 d m).a.natAbs : Int) * (d6 d k).c <= ((d6 d k).a.natAbs : Int) * (d6 d m).c := by omega
  have pk : (0 : Int) < ((norm d k).natAbs : Int) := by omega
  have pm : (0 : Int) < ((norm d m).natAbs : Int) := by omega
  generalize ((d6 d m).a.natAbs : Int) = A at *
  generalize ((d6 d k).a.natAbs : Int) = B at *
  generalize (d6 d k).c = C at *
  generalize (d6 d m).c = E at *
  have key : 0 <= (k.a * k.a * ((norm d m).natAbs : Int) - m.a * m.a * ((norm d k).natAbs : Int)) * (4 * (C * E)) := by
    have h2 : 0 <= (B * E - A * C) * (((norm d k).natAbs : Int) * ((norm d m).natAbs : Int)) := Int.mul_nonneg (by omega) (Int.mul_nonneg (by omega) (by omega))
    have e : (B * E - A * C) * (((norm d k).natAbs : Int) * ((norm d m).natAbs : Int)) = (B * ((norm d k).natAbs : Int)) * (E * ((norm d m).natAbs : Int)) - (A * ((norm d m).natAbs : Int)) * (C * ((norm d k).natAbs : Int)) := by grind
    rw [e, ak, am] at h2
    have e2 : 4 * (k.a * k.a) * C * (E * ((norm d m).natAbs : Int)) - 4 * (m.a * m.a) * E * (C * ((norm d k).natAbs : Int)) = (k.a * k.a * ((norm d m).natAbs : Int) - m.a * m.a * ((norm d k).natAbs : Int)) * (4 * (C * E)) := by grind
    rw [e2] at h2
    exact h2
  rw [ix (Int.mul_pos (by decide) (Int.mul_pos ck cm))] at key
  rcases hs with ⟨a, b⟩ | ⟨a, b⟩
  . refine .inl ⟨a, b, ?_⟩
    rw [Int.natAbs_of_nonneg (Int.le_of_lt a), Int.natAbs_of_nonneg (Int.le_of_lt b)] at key
    have e : k.a * k.a * norm d m - m.a * m.a * norm d k = (m.a * m.a * (k.b * k.b) - m.b * m.b * (k.a * k.a)) * d := by unfold norm; grind
    rw [e, ix d0] at key
    omega
  . refine .inr ⟨a, b, ?_⟩
    have ea : ((norm d k).natAbs : Int) = -norm d k := by omega
    have eb : ((norm d m).natAbs : Int) = -norm d m := by omega
    rw [ea, eb] at key
    have e : k.a * k.a * -norm d m - m.a * m.a * -norm d k = (m.b * m.b * (k.a * k.a) - m.a * m.a * (k.b * k.b)) * d := by unfold norm; grind
    rw [e, ix d0] at key
    omega
theorem xI {ks : List N3} (hd : aw d) (ho : eA d ks) (hm : gN d ks = false) {x y : N3} (hx : x ∈ ks) (hy : y ∈ ks) : (0 < norm d x /\ 0 < norm d y) \/ (norm d x < 0 /\ norm d y < 0) := by
  obtain ⟨ox, _, sx⟩ := ho.ok x hx
  obtain ⟨oy, _, sy⟩ := ho.ok y hy
  have nx := aR hd ox sx
  have ny := aR hd oy sy
  have sp : ∀ z : N3, norm d z ≠ 0 -> (0 < norm d z -> sgN d z = 1) /\ (norm d z < 0 -> sgN d z = -1) := fun z hz => by
    unfold sgN
    rw [gM, if_neg hz]
    exact ⟨fun h => by rw [if_pos h], fun h => by rw [if_neg (by omega)]⟩
  have no : ∀ {p n : N3}, p ∈ ks -> n ∈ ks -> sgN d p = 1 -> sgN d n = -1 -> False := fun {p n} hp hn e1 e2 => by
    have a : ks.any (fun k => decide (sgN d k = 1)) = true := List.any_eq_true.mpr ⟨p, hp, by simp [e1]⟩
    have b : ks.any (fun k => decide (sgN d k = -1)) = true := List.any_eq_true.mpr ⟨n, hn, by simp [e2]⟩
    unfold gN at hm
    rw [a, b] at hm
    cases hm
  rcases Int.lt_or_gt_of_ne nx with a | a <;> rcases Int.lt_or_gt_of_ne ny with b | b
  . exact .inr ⟨a, b⟩
  . exact (no hy hx ((sp y ny).1 b) ((sp x nx).2 a)).elim
  . exact (no hx hy ((sp x nx).1 a) ((sp y ny).2 b)).elim
  . exact .inl ⟨a, b⟩
theorem qR {ks : List N3} (hd : aw d) (ho : eA d ks) : G3 d ks ∈ ks := (gr (Kq hd ho)).2
theorem Kz {ks : List N3} (hd : aw d) (ho : eA d ks) (hm : gN d ks = false) {x : N3} (hx : x ∈ ks) : Lay d (G3 d ks) x := by
  have hM := qR hd ho
  obtain ⟨oM, _, sM⟩ := ho.ok _ hM
  obtain ⟨ox, _, sx⟩ := ho.ok x hx
  have l1 := ho.l1
  have hc : ∀ i, i < ks.length -> 0 < (d6 d (ks.getD i aB)).c := fun i hi => by
    obtain ⟨ok, _, sk⟩ := ho.ok _ (gr hi).2
    exact (mZ hd (aR hd ok sk) ok).c
  obtain ⟨j, hj, e⟩ := List.mem_iff_getElem.mp hx
  have e2 : ks.getD j aB = x := by rw [List.getD_eq_getElem?_getD, List.getElem?_eq_getElem hj, e]; rfl
  have := (vN hc (ks.length - 1) (by omega)).2.1 j (by omega)
  rw [e2] at this
  exact Iq hd oM ox (xI hd ho hm hM hx) this
theorem yN {ks : List N3} (hd : aw d) (ho : eA d ks) (os : Ok s) (hs : sg d s.a s.b = 1) : kK d ks s = true ↔ gN d ks = true \/ ∃ k ∈ ks, Lay d k s := by
  have hM := qR hd ho
  obtain ⟨oM, _, sM⟩ := ho.ok _ hM
  unfold kK
  rw [Bool.or_eq_true]
  cases hm : gN d ks with
  | true => simp
  | false =>
    rw [Mj hd oM os sM hs]
    constructor
    . rintro (h | h)
      . cases h
      . exact .inr ⟨_, hM, h⟩
    . rintro (h | ⟨k, hk, h⟩)
      . cases h
      . exact .inr (Ir hd (Kz hd ho hm hk) h)
theorem Ac {ks : List N3} (hd : aw d) (ho : eA d ks) : gN d ks = true ↔ (∃ k ∈ ks, 0 < norm d k) /\ ∃ k ∈ ks, norm d k < 0 := by
  have sp : ∀ z ∈ ks, (sgN d z = 1 ↔ 0 < norm d z) /\ (sgN d z = -1 ↔ norm d z < 0) := fun z hz => by
    obtain ⟨oz, _, sz⟩ := ho.ok z hz
    have nz := aR hd oz sz
    unfold sgN
    rw [gM, if_neg nz]
    split <;> omega
  unfold gN
  rw [Bool.and_eq_true, List.any_eq_true, List.any_eq_true]
  constructor
  . rintro ⟨⟨x, hx, a⟩, ⟨y, hy, b⟩⟩
    exact ⟨⟨x, hx, (sp x hx).1.mp (by simpa using a)⟩, ⟨y, hy, (sp y hy).2.mp (by simpa using b)⟩⟩
  . rintro ⟨⟨x, hx, a⟩, ⟨y, hy, b⟩⟩
    exact ⟨⟨x, hx, by simpa using (sp x hx).1.mpr a⟩, ⟨y, hy, by simpa using (sp y hy).2.mpr b⟩⟩
theorem OL {a b : Bool} (h : a = true ↔ b = true) : a = b := by cases a <;> cases b <;> simp_all
theorem C8 {ks ls : List N3} (hd : aw d) (ho : eA d ks) (hl : eA d ls) (os : Ok s) (hs : sg d s.a s.b = 1) {t : N3} (ot : Ok t) (ht : sg d t.a t.b = 1) (hr : Ray d s t) (h1 : ∀ k ∈ ks, ∃ l ∈ ls, Ray d k l) (h2 : ∀ l ∈ ls, ∃ k ∈ ks, Ray d k l) : kK d ls t = kK d ks s := by
  refine OL ?_
  rw [yN hd ho os hs, yN hd hl ot ht, Ac hd ho, Ac hd hl]
  constructor
  . rintro (⟨⟨x, hx, a⟩, ⟨y, hy, b⟩⟩ | ⟨l, hl, h⟩)
    . obtain ⟨x', hx', rx⟩ := h2 x hx
      obtain ⟨y', hy', ry⟩ := h2 y hy
      exact .inl ⟨⟨x', hx', (kL rx).1.mp a⟩, ⟨y', hy', (kL ry).2.mp b⟩⟩
    . obtain ⟨k, hk, rk⟩ := h2 l hl
      exact .inr ⟨k, hk, (C0 rk).mp ((Ii hr).mp h)⟩
  . rintro (⟨⟨x, hx, a⟩, ⟨y, hy, b⟩⟩ | ⟨k, hk, h⟩)
    . obtain ⟨x', hx', rx⟩ := h1 x hx
      obtain ⟨y', hy', ry⟩ := h1 y hy
      exact .inl ⟨⟨x', hx', (kL rx).1.mpr a⟩, ⟨y', hy', (kL ry).2.mpr b⟩⟩
    . obtain ⟨l, hl, rl⟩ := h1 k hk
      exact .inr ⟨l, hl, (Ii hr).mpr ((C0 rl).mpr h)⟩
theorem tR : Ray d s s := ⟨1, 1, by decide, by decide, rfl, .inl rfl⟩
theorem IY {ks : List N3} {o : N3} (hd : aw d) (ho : eA d ks) (os : Ok s) (oo : Ok o) (h1 : kK d ks s = true) (h2 : kK d ks o = true) : kK d ks (plus s o) = true := by
  obtain ⟨oM, _, sM⟩ := ho.ok _ (qR hd ho)
  unfold kK at *
  cases hm : gN d ks with
  | true => rfl
  | false =>
    rw [hm, Bool.false_or] at h1 h2
    rw [Bool.false_or]
    exact LD oM os oo (aR hd oM sM) h1 h2
theorem IX {ks : List N3} (hd : aw d) (ho : eA d ks) {x : N3} (hx : x ∈ ks) : kK d ks x = true := by
  obtain ⟨ox, _, sx⟩ := ho.ok x hx
  rw [yN hd ho ox sx]
  exact .inr ⟨x, hx, Kx (aR hd ox sx)⟩
end
open PySem PySem.Spec PyProof.Rows NM
section
variable {d : Int} {k s m u v : N3}
end
open PySem PySem.Spec PyProof.Rows NM
inductive Pn where
  | kind (i : Nat)
  | turn (p : Pn)
  | vB (u v : Int) (p : Pn)
  | two (b : Bool) (p q : Pn)
  | three (b : Bool) (p q r : Pn)
def wdS (b : Bool) : Str := if b = true then "upon" else "beside"
def Pn.data : Pn -> PyData
  | .kind i => .tuple [.str "kind", .int i]
  | .turn p => .tuple [.str "turn", p.data]
  | .vB u v p => .tuple [.str "grid", .int u, .int v, p.data]
  | .two b p q => .tuple [.str (wdS b), .tuple [p.data, q.data]]
  | .three b p q r => .tuple [.str (wdS b), .tuple [p.data, q.data, r.data]]
def Pn.depth : Pn -> Nat
  | .kind _ => 1
  | .turn p => p.depth + 1
  | .vB _ _ p => p.depth + 1
  | .two _ p q => max p.depth q.depth + 1
  | .three _ p q r => max p.depth (max q.depth r.depth) + 1
def Pn.good (m : Nat) : Pn -> Prop
  | .kind i => i < m
  | .turn p => p.good m
  | .vB u v p => (0 < u /\ u <= 1000 /\ 0 < v /\ v <= 1000) /\ p.good m
  | .two _ p q => p.good m /\ q.good m
  | .three _ p q r => p.good m /\ q.good m /\ r.good m
def cS (d : Int) (b : Bool) (x : N3) : N3 := if b = true then x else ao d x
def Pn.shape (d : Int) (ks : List N3) : Pn -> N3
  | .kind i => ks.getD i aB
  | .turn p => ao d (p.shape d ks)
  | .vB u v p => times d (low v 0 u) (p.shape d ks)
  | .two b p q => cS d b (plus (plus aB (cS d b (p.shape d ks))) (cS d b (q.shape d ks)))
  | .three b p q r => cS d b (plus (plus (plus aB (cS d b (p.shape d ks))) (cS d b (q.shape d ks))) (cS d b (r.shape d ks)))
theorem Pn.qT (p : Pn) : 1 ≤ p.depth := by cases p <;> simp only [Pn.depth] <;> omega
section
variable {d : Int} {x y : N3} {n m : Nat}
theorem Rep.mul {A B C k : Int} (hk : k ≠ 0) (h : Rep x A B C) : Rep x (k * A) (k * B) (k * C) := ⟨Int.mul_ne_zero hk h.c, by have := h.a; grind, by have := h.b; grind⟩
structure Rq (d : Int) (n : Nat) (x : N3) : Prop where
  ex : ∃ A B C E : Int, Sz n A /\ Sz n B /\ Sz n C /\ Sz n E /\ Rep x (A * C - d * B * E) (B * C - A * E) (C * C - d * E * E)
theorem Rq.mono (h : Rq d n x) (l : n <= m) : Rq d m x := by
  obtain ⟨A, B, C, E, a, b, c, e, r⟩ := h.ex
  exact ⟨A, B, C, E, a.mono l, b.mono l, c.mono l, e.mono l, r⟩
theorem Rq.self (ox : Ok x) (bx : Bd n x) : Rq d n x := by
  refine ⟨x.a, x.b, x.c, 0, bx.a, bx.b, bx.c, sz0, ?_⟩
  have := Rep.mul ox.cn (ai ox)
  exact Rep.congr this (by grind) (by grind) (by grind)
theorem Rq.bd (s5 : Sz 5 d) (ox : Ok x) (h : Rq d n x) : Bd (2 * n + 6) x := by
  obtain ⟨A, B, C, E, a, b, c, e, r⟩ := h.ex
  have l1 : Sz (2 * n + 5) (A * C) := (a.mul c).mono (by omega)
  have l2 : Sz (2 * n + 5) (d * B * E) := ((s5.mul b).mul e).mono (by omega)
  have l3 : Sz (2 * n + 5) (B * C) := (b.mul c).mono (by omega)
  have l4 : Sz (2 * n + 5) (A * E) := (a.mul e).mono (by omega)
  have l5 : Sz (2 * n + 5) (C * C) := (c.mul c).mono (by omega)
  have l6 : Sz (2 * n + 5) (d * E * E) := ((s5.mul e).mul e).mono (by omega)
  exact r.bd ox (l1.sub l2) (l3.sub l4) (l5.sub l6)
theorem Rq.ao (ox : Ok x) (hn : norm d x ≠ 0) (h : Rq d n x) : Rq d n (ao d x) := by
  obtain ⟨A, B, C, E, a, b, c, e, r⟩ := h.ex
  refine ⟨C, E, A, B, c, e, a, b, ?_⟩
  have r2 := Rep.ao ox hn r
  have hN := r.c
  have hk : (C * C - d * E * E) ≠ 0 := hN
  refine Rep.div hk (Rep.congr r2 (by grind) (by grind) (by grind))
theorem Rq.RH {u v : Int} (ox : Ok x) (u0 : 0 < u) (u1 : u <= 1000) (v0 : 0 < v) (v1 : v <= 1000) (h : Rq d n x) : Rq d (n + 10) (times d (low v 0 u) x) := by
  obtain ⟨A, B, C, E, a, b, c, e, r⟩ := h.ex
  have un : u ≠ 0 := by omega
  have zu : Sz 10 u := Sz.of (by show u.natAbs < 1024; omega)
  have zv : Sz 10 v := Sz.of (by show v.natAbs < 1024; omega)
  refine ⟨v * A, v * B, u * C, u * E, (zv.mul a).mono (by omega), (zv.mul b).mono (by omega), (zu.mul c).mono (by omega), (zu.mul e).mono (by omega), ?_⟩
  have r2 := Rep.mul un (Rep.times (d := d) (iP v 0 un) ox (iY (a := v) (b := 0) un) r)
  exact Rep.congr r2 (by grind) (by grind) (by grind)
theorem Rq.plus (s5 : Sz 5 d) (ox : Ok x) (oy : Ok y) (h : Rq d n x) (g : Rq d m y) : Rq d (n + m + 7) (plus x y) := by
  obtain ⟨A, B, C, E, a, b, c, e, r⟩ := h.ex
  obtain ⟨A', B', C', E', a', b', c', e', r'⟩ := g.ex
  have k1 : ∀ {i j : Int}, Sz n i -> Sz m j -> Sz (n + m + 5) (i * j) := fun p q => (p.mul q).mono (by omega)
  have k2 : ∀ {i j : Int}, Sz n i -> Sz m j -> Sz (n + m + 5) (d * i * j) := fun p q => ((s5.mul p).mul q).mono (by omega)
  refine ⟨(A * C' + d * B * E') + (A' * C + d * B' * E), (A * E' + B * C') + (A' * E + B' * C), C * C' + d * E * E', C * E' + E * C', ?_, ?_, ?_, ?_, ?_⟩
  . exact (((k1 a c').add (k2 b e')).add (by rw [Int.mul_comm A' C, show d * B' * E = d * E * B' from by grind]; exact (k1 c a').add (k2 e b'))).mono (by omega)
  . exact (((k1 a e').add (k1 b c')).add (by rw [Int.mul_comm A' E, Int.mul_comm B' C]; exact (k1 e a').add (k1 c b'))).mono (by omega)
  . exact ((k1 c c').add (k2 e e')).mono (by omega)
  . exact ((k1 c e').add (k1 e c')).mono (by omega)
  . exact Rep.congr (Rep.plus ox oy r r') (by grind) (by grind) (by grind)
end
open PySem PySem.Spec PyProof.Rows NM
section
variable {μ : Mu} {Qd : DK} {ds : List D}
structure WSh (a p : Addr) (d : Int) (μ : Mu) (n : Nat) (μ' : Mu) : Prop where
  bag : Bag μ' a
  kp : ∀ b, b ≠ a -> ∀ ds, μ b = some ds -> μ' b = some ds
  ls : ∃ L, μ' p = some L /\ L.length ≤ n /\ (∀ x ∈ L, ∃ t, x = dN t /\ Ok t /\ Bd 480 t /\ sg d t.a t.b = 1)
theorem WSh.add {a p : Addr} {d : Int} {n : Nat} {μ' : Mu} {t : N3} {L : List PyData} (hap : a ≠ p) (hp : μ p = none) (h : WSh a p d μ n μ') (hL : μ' p = some L) (ot : Ok t) (bt : Bd 480 t) (st : sg d t.a t.b = 1) : WSh a p d μ (n + 1) (aO μ' p (L ++ [dN t])) := by
  obtain ⟨L', e, l, hh⟩ := h.ls
  rw [hL] at e
  cases e
  refine ⟨?_, fun b hb ds e => ?_, _, bD, by simp; omega, fun x hx => ?_⟩
  . obtain ⟨g, m, e, z⟩ := h.bag; exact ⟨g, m, by rw [bG hap]; exact e, z⟩
  . have : b ≠ p := fun z => by rw [z, hp] at e; cases e
    rw [bG this]; exact h.kp b hb ds e
  . rcases List.mem_append.mp hx with z | z
    . exact hh x z
    . rw [List.mem_singleton.mp z]; exact ⟨t, rfl, ot, bt, st⟩
theorem WSh.mono {a p : Addr} {d : Int} {n m : Nat} {μ' : Mu} (h : WSh a p d μ n μ') (l : n <= m) : WSh a p d μ m μ' := by
  obtain ⟨x, y, L, e, g, z⟩ := h
  exact ⟨x, y, L, e, by omega, z⟩
end
open PySem PySem.Spec PyProof.Rows NM
section
variable {d : Int} {ks : List N3}
def rbD : Nat -> Nat
  | 0 => 0
  | 1 => 60
  | n + 2 => 3 * rbD (n + 1) + 14
theorem CI (n : Nat) : rbD n <= rbD (n + 1) := by
  match n with
  | 0 => decide
  | k + 1 => show rbD (k + 1) <= 3 * rbD (k + 1) + 14; omega
theorem gu {n m : Nat} (h : n <= m) : rbD n <= rbD m := by
  induction m with
  | zero => have : n = 0 := by omega
            subst this; exact Nat.le_refl _
  | succ m ih =>
    by_cases e : n = m + 1
    . subst e; exact Nat.le_refl _
    . exact Nat.le_trans (ih (by omega)) (CI m)
structure js (d : Int) (ks : List N3) (n : Nat) (x : N3) : Prop where
  ok : Ok x
  pos : sg d x.a x.b = 1
  rq : Rq d n x
  ld : kK d ks x = true
theorem js.mono {n m : Nat} {x : N3} (h : js d ks n x) (l : n <= m) : js d ks m x := ⟨h.ok, h.pos, h.rq.mono l, h.ld⟩
theorem js.ao {n : Nat} {x : N3} (hd : aw d) (ho : KindsOk d ks) (h : js d ks n x) : js d ks n (ao d x) := by
  have nx := aR hd h.ok h.pos
  refine ⟨aC nx, dw hd h.ok h.pos, h.rq.ao h.ok nx, ?_⟩
  rw [C8 hd ho.wide ho.wide h.ok h.pos (aC nx) (dw hd h.ok h.pos) (uw h.ok nx) (fun k hk => ⟨k, hk, tR⟩) (fun k hk => ⟨k, hk, tR⟩)]
  exact h.ld
theorem js.cS {n : Nat} {x : N3} (hd : aw d) (ho : KindsOk d ks) (b : Bool) (h : js d ks n x) : js d ks n (cS d b x) := by
  unfold DL.cS
  split
  . exact h
  . exact h.ao hd ho
theorem js.plus {n m : Nat} {x y : N3} (hd : aw d) (ho : KindsOk d ks) (h : js d ks n x) (g : js d ks m y) : js d ks (n + m + 7) (plus x y) :=
  ⟨aT h.ok g.ok, JK hd h.ok g.ok h.pos g.pos, h.rq.plus (mU hd.1 hd.2.1) h.ok g.ok g.rq, IY hd ho.wide h.ok g.ok h.ld g.ld⟩
theorem js.vB {n : Nat} {x : N3} {u v : Int} (hd : aw d) (ho : KindsOk d ks) (h : js d ks n x) (u0 : 0 < u) (u1 : u <= 1000) (v0 : 0 < v) (v1 : v <= 1000) : js d ks (n + 10) (times d (low v 0 u) x) := by
  have un : u ≠ 0 := by omega
  have ol := iP v 0 un
  have hb : (low v 0 u).b = 0 := by
    have r := (iY (a := v) (b := 0) un).b
    rw [Int.zero_mul] at r
    exact (Int.mul_eq_zero.mp r).resolve_right un
  have sl : sg d (low v 0 u).a (low v 0 u).b = 1 := by rw [A2 hd u0, gM, if_neg (by omega), if_pos v0]
  have ha : 0 < (low v 0 u).a := by
    rw [hb, gM] at sl
    split at sl
    . exact absurd sl (by decide)
    . split at sl
      . assumption
      . exact absurd sl (by decide)
  have st : sg d (times d (low v 0 u) x).a (times d (low v 0 u) x).b = 1 := by rw [fW hd ol h.ok, sl, h.pos]; rfl
  have hr : Ray d x (times d (low v 0 u) x) := by rw [lY ol h.ok]; exact LU h.ok ol hb ha
  refine ⟨au ol h.ok, st, h.rq.RH h.ok u0 u1 v0 v1, ?_⟩
  rw [C8 hd ho.wide ho.wide h.ok h.pos (au ol h.ok) st hr (fun k hk => ⟨k, hk, tR⟩) (fun k hk => ⟨k, hk, tR⟩)]
  exact h.ld
theorem js.bd {n : Nat} {x : N3} (hd : aw d) (h : js d ks n x) : Bd (2 * n + 6) x := h.rq.bd (mU hd.1 hd.2.1) h.ok
theorem gv (hd : aw d) (ho : KindsOk d ks) : ∀ p : Pn, p.good ks.length -> js d ks (rbD p.depth) (p.shape d ks)
  | .kind i, hg => by
    obtain ⟨g1, g2⟩ := gr (ks := ks) (i := i) hg
    obtain ⟨o, b, s⟩ := ho.ok _ g2
    exact ⟨o, s, Rq.self o b, IX hd ho.wide g2⟩
  | .turn p, hg => ((gv hd ho p hg).ao hd ho).mono (CI _)
  | .vB u v p, hg => by
    obtain ⟨⟨u0, u1, v0, v1⟩, hg'⟩ := hg
    refine ((gv hd ho p hg').vB hd ho u0 u1 v0 v1).mono ?_
    obtain ⟨k, hk⟩ : ∃ k, p.depth = k + 1 := ⟨p.depth - 1, by have := p.qT; omega⟩
    show rbD p.depth + 10 <= rbD (p.depth + 1)
    rw [hk]
    show rbD (k + 1) + 10 <= 3 * rbD (k + 1) + 14
    omega
  | .two b p q, hg => by
    have h1 := (gv hd ho p hg.1).cS hd ho b
    have h2 := (gv hd ho q hg.2).cS hd ho b
    obtain ⟨k, hk⟩ : ∃ k, max p.depth q.depth = k + 1 := ⟨max p.depth q.depth - 1, by have := p.qT; omega⟩
    have h1' := h1.mono (gu (show p.depth <= k + 1 by omega))
    have h2' := h2.mono (gu (show q.depth <= k + 1 by omega))
    show js d ks (rbD (max p.depth q.depth + 1)) (DL.cS d b (plus (plus aB (DL.cS d b (p.shape d ks))) (DL.cS d b (q.shape d ks))))
    rw [Ka h1.ok, hk]
    refine ((h1'.plus hd ho h2').cS hd ho b).mono ?_
    show _ <= 3 * rbD (k + 1) + 14
    omega
  | .three b p q r, hg => by
    have h1 := (gv hd ho p hg.1).cS hd ho b
    have h2 := (gv hd ho q hg.2.1).cS hd ho b
    have h3 := (gv hd ho r hg.2.2).cS hd ho b
    obtain ⟨k, hk⟩ : ∃ k, max p.depth (max q.depth r.depth) = k + 1 := ⟨max p.depth (max q.depth r.depth) - 1, by have := p.qT; omega⟩
    have h1' := h1.mono (gu (show p.depth <= k + 1 by omega))
    have h2' := h2.mono (gu (show q.depth <= k + 1 by omega))
    have h3' := h3.mono (gu (show r.depth <= k + 1 by omega))
    show js d ks (rbD (max p.depth (max q.depth r.depth) + 1)) (DL.cS d b (plus (plus (plus aB (DL.cS d b (p.shape d ks))) (DL.cS d b (q.shape d ks))) (DL.cS d b (r.shape d ks))))
    rw [Ka h1.ok, hk]
    refine (((h1'.plus hd ho h2').plus hd ho h3').cS hd ho b).mono ?_
    show _ <= 3 * rbD (k + 1) + 14
    omega
end
open PySem PySem.Spec PyProof.Rows NM
def gz (n : Nat) : DSp := fun ds μ Q => ∃ (a : Addr) (m : Nat) (k : Nat), ds = [.m a, .v (.int m), .v (.int k)] /\ 1 ≤ m /\ m ≤ 3 /\ 1 ≤ k /\ k ≤ n /\ n ≤ 3 /\ Bag μ a /\ ∀ (p : Pn) μ', p.good m -> p.depth ≤ k -> uH a μ μ' -> Q (.v p.data) μ'
theorem Ey {n : Nat} {μ : Mu} {Q : DK} {ds : List D} (h : gz n ds μ Q) : ds.length = 3 := by obtain ⟨_, _, _, rfl, _⟩ := h; rfl
theorem EC {μ : Mu} {Q : DK} {ds : List D} (h : gz 0 ds μ Q) : False := by obtain ⟨_, _, _, _, _, _, h1, h2, _⟩ := h; omega
def eB (n : Nat) : DSp := fun ds μ Q => ∃ (d : Int) (ks : List N3) (p : Pn), ds = [.v (.int d), .v (.tuple (ks.map dN)), .v p.data] /\ aw d /\ KindsOk d ks /\ p.good ks.length /\ p.depth ≤ n /\ n ≤ 3 /\ Q (.v (dN (p.shape d ks))) μ
theorem AU {n : Nat} {μ : Mu} {Q : DK} {ds : List D} (h : eB n ds μ Q) : ds.length = 3 := by obtain ⟨_, _, _, rfl, _⟩ := h; rfl
theorem Ab {μ : Mu} {Q : DK} {ds : List D} (h : eB 0 ds μ Q) : False := by obtain ⟨_, _, p, _, _, _, _, h, _⟩ := h; have := p.qT; omega
theorem LJ {a b : Str} {neg : Bool} {μ : Mu} {Q : DK} (ha : SeqAt.shaped (.str a) = true) (hb : SeqAt.shaped (.str b) = true) : eZ neg (.v (.str a)) (.v (.str b)) μ Q = Q (.v (.bool (neg ^^ decide (a = b)))) μ := by
  rw [Hz]
  have e : PyData.eqv (.str a) (.str b) = decide (a = b) := by simp [PyData.eqv]; rfl
  rw [e]
  exact propext ⟨fun h => h.2.2, fun h => ⟨ha, hb, h⟩⟩
theorem R0 : SeqAt.shaped (.str "kind") = true := by decide +kernel
theorem R6 : SeqAt.shaped (.str "turn") = true := by decide +kernel
theorem Rj : SeqAt.shaped (.str "grid") = true := by decide +kernel
theorem MS : SeqAt.shaped (.str "upon") = true := by decide +kernel
theorem QY : SeqAt.shaped (.str "beside") = true := by decide +kernel
theorem RX : decide (("kind" : Str) = "kind") = true := by decide
theorem RE : decide (("kind" : Str) = "turn") = false := by decide
theorem RF : decide (("kind" : Str) = "grid") = false := by decide
theorem Se : decide (("kind" : Str) = "upon") = false := by decide
theorem RQ : decide (("turn" : Str) = "kind") = false := by decide
theorem RM : decide (("turn" : Str) = "turn") = true := by decide
theorem RB : decide (("turn" : Str) = "grid") = false := by decide
theorem Rm : decide (("turn" : Str) = "upon") = false := by decide
theorem RO : decide (("grid" : Str) = "kind") = false := by decide
theorem Rx : decide (("grid" : Str) = "turn") = false := by decide
theorem Rc : decide (("grid" : Str) = "grid") = true := by decide
theorem RW : decide (("grid" : Str) = "upon") = false := by decide
theorem Rg : decide (("upon" : Str) = "kind") = false := by decide
theorem Rf : decide (("upon" : Str) = "turn") = false := by decide
theorem R3 : decide (("upon" : Str) = "grid") = false := by decide
theorem Q8 : decide (("upon" : Str) = "upon") = true := by decide
theorem Ra : decide (("beside" : Str) = "kind") = false := by decide
theorem RV : decide (("beside" : Str) = "turn") = false := by decide
theorem RD : decide (("beside" : Str) = "grid") = false := by decide
theorem Qb : decide (("beside" : Str) = "upon") = false := by decide
local macro_rules | `(tactic| walk_at "rp") => `(tactic| simp only [↓LJ, R0, R6, Rj, MS, QY, RX, RE, RF, Se, RQ, RM, RB, Rm, RO, Rx, Rc, RW, Rg, Rf, R3, Q8, Ra, RV, RD, Qb, ↓GR, ↓Gr, ↓FF, ↓xY, ↓Fc, ↓GG, ↓Gm, ↓ET, ↓GH, ↓FC, ↓A9, ↓q_c, ↓KJ, ↓q_B, ↓OJ, ↓LA, ↓JT, ↓ym, ↓JU, ↓E8, ↓Fw, ↓Ko, ↓Fe, ↓NG, ↓vT, ↓pH, ↓CU, ↓CZ, ↓GV, ↓C1, ↓DP, ↓ED, ↓Ke, ↓K5, ↓Kn, ↓Kl, ↓xN, ↓Fm, ↓Gu, ↓BE, ↓A4, ↓B1, ↓Ga, ↓Ah, ↓zg, ↓KQ, ↓K8, ↓J9, ↓FW, ↓EV, ↓E4, ↓GL, ↓Fu, ↓Px, ↓xE, ↓Gy, ↓Kv, ↓LS, ↓KW, ↓K1, ↓xp, ↓GB, ↓Fv, ↓Fo, ↓K7, ↓N0, ↓FL, ↓Fs, ↓AV, ↓BQ, ↓Hv, ↓Kh, ↓Lr, ↓JJ, ↓nC, ↓Fp, ↓Ba, ↓GZ, ↓FO, ↓Ef, ↓J6, ↓FA, ↓uW, ↓D8, ↓Gs, ↓Er, ↓Cs, ↓Fz, ↓LC, ↓Kj, ↓G0, ↓B4, ↓Gp, ↓xo, ↓Cq, ↓zh, ↓yK, ↓B6, ↓xU, ↓yq, ↓yh, ↓KO, Jx, ↓Fi, ↓xg, GJ, E2, Lf, J1, Ky, Option.bind_none, Option.bind_some, Option.join_some, List.getElem?_cons_zero, List.getElem?_cons_succ, aS, Ng, Lx, JD, Kt, Ni, tU, xw, An, Dr, HX, List.map, List.append, List.replicate, List.length_cons, List.length_nil, Nat.reduceAdd, Nat.reduceSub, List.nil_append, List.cons_append, List.set_cons_zero, List.set_cons_succ, Option.map_some, ↓reduceIte, Bool.not_true, Bool.not_false, Bool.false_eq_true, Bool.true_eq_false, Bool.xor_false, Bool.false_xor])
def oS (n : Nat) : DTS :=
  (aV (bE (ax bS (ae (ag 0) (ae (dC (.int 8)) ar))) (az 3))
  (aV (eS (ve (dB (dOp rLt (ag 2) (dC (.int 2)))) (dB (dOp rLt (ag 3) (dC (.int 2))))) (bH (bC (ae (dC (.str "kind")) (ae (ax bS (ae (ag 0) (ae (ag 1) ar))) ar)))) cK)
  (aV (eS (dB (dOp (eZ false) (ag 3) (dC (.int 2)))) (bH (bC (ae (dC (.str "turn")) (ae (ax (gz n) (ae (ag 0) (ae (ag 1) (ae (mv (ag 2) (dC (.int 1))) ar)))) ar)))) cK)
  (aV (eS (dB (dOp rLt (ag 3) (dC (.int 5)))) (aV (bE (dOp aJ (jj (ae (dC (.int 3)) (ae (dC (.int 3)) (ae (dC (.int 12)) (ae (dC (.int 1000)) ar))))) (ax bS (ae (ag 0) (ae (dC (.int 4)) ar)))) (az 4))
  (bH (bC (ae (dC (.str "grid")) (ae (mQ (dC (.int 1)) (ax bS (ae (ag 0) (ae (ag 4) ar)))) (ae (mQ (dC (.int 1)) (ax bS (ae (ag 0) (ae (ag 4) ar)))) (ae (ax (gz n) (ae (ag 0) (ae (ag 1) (ae (mv (ag 2) (dC (.int 1))) ar)))) ar))))))) cK)
  (aV (bE (j6 [none, some 0, some 1, some 2] (sR (ae (mQ (dC (.int 2)) (ax bS (ae (ag 0) (ae (dC (.int 2)) ar)))) ar)) (az 0) xG (ax (gz n) (ae (ag 1) (ae (ag 2) (ae (mv (ag 3) (dC (.int 1))) ar))))) (az 5))
  (bH (bC (ae (dOp aJ (jj (ae (dC (.str "upon")) (ae (dC (.str "beside")) ar))) (wy (ag 3) (dC (.int 2)))) (ae (dCB kB (ae (ag 5) ar)) ar)))))))))
def gU (n : Nat) : DTS :=
  (aV (eS (dB (dOp (eZ false) (dOp aJ (ag 2) (dC (.int 0))) (dC (.str "kind")))) (bH (dOp aJ (ag 1) (dOp aJ (ag 2) (dC (.int 1))))) cK)
  (aV (eS (dB (dOp (eZ false) (dOp aJ (ag 2) (dC (.int 0))) (dC (.str "turn")))) (bH (ax bK (ae (ag 0) (ae (ax (eB n) (ae (ag 0) (ae (ag 1) (ae (dOp aJ (ag 2) (dC (.int 1))) ar)))) ar)))) cK)
  (aV (eS (dB (dOp (eZ false) (dOp aJ (ag 2) (dC (.int 0))) (dC (.str "grid")))) (bH (ax bM (ae (ag 0) (ae (ax dM (ae (dOp aJ (ag 2) (dC (.int 2))) (ae (dC (.int 0)) (ae (dOp aJ (ag 2) (dC (.int 1))) ar)))) (ae (ax (eB n) (ae (ag 0) (ae (ag 1) (ae (dOp aJ (ag 2) (dC (.int 3))) ar)))) ar))))) cK)
  (aV (bE (bC (ae (dC (.int 0)) (ae (dC (.int 0)) (ae (dC (.int 1)) ar)))) (az 3))
  (aV (Bw (vW (dOp aJ (ag 2) (dC (.int 1)))) (az 4) (aV (bE (ax (eB n) (ae (ag 0) (ae (ag 1) (ae (ag 4) ar)))) (az 5))
  (bE (ax jJ (ae (ag 3) (ae (dIf (dB (dOp (eZ false) (dOp aJ (ag 2) (dC (.int 0))) (dC (.str "upon")))) (ag 5) (ax bK (ae (ag 0) (ae (ag 5) ar)))) ar))) (az 3))))
  (bH (dIf (dB (dOp (eZ false) (dOp aJ (ag 2) (dC (.int 0))) (dC (.str "upon")))) (ag 3) (ax bK (ae (ag 0) (ae (ag 3) ar))))))))))
section
variable {μ : Mu} {Qd : DK} {ds : List D}
theorem Step.wide {a : Addr} {μ μ' : Mu} (h : Step a μ μ') : uH a μ μ' := ⟨h.1, fun b hb ds e => by rw [h.2 b hb]; exact e⟩
theorem Ct (n : Nat) (h : gz (n + 1) ds μ Qd) : oS n { nx := fun _ μ' => Qd (.v .none) μ', rt := Qd } (aS ["_law_bag_here", "_law_many", "_law_deep", "_law_way", "_law_wide_here", "_law_parts"] ds) μ := by
  obtain ⟨a, m, k, rfl, m1, m3, k1, kn, n3, hb, q⟩ := h
  unfold oS
  walk_at "rn"
  refine ⟨a, 8, rfl, by decide, by decide, hb, fun way μ1 w0 w1 s1 => ?_⟩
  walk_at "rn"
  by_cases c1 : k < 2
  . rw [if_pos (by simp; omega)]
    refine ⟨a, m, rfl, by omega, by omega, s1.1, fun r μ3 r0 r1 s3 => ?_⟩
    obtain ⟨i, rfl⟩ : ∃ i : Nat, r = (i : Int) := ⟨r.toNat, by omega⟩
    exact q (.kind i) μ3 (by show i < m; omega) k1 (s1.trans s3).wide
  rw [if_neg (by simp; omega)]
  have ek : (k : Int) - 1 = ((k - 1 : Nat) : Int) := by omega
  by_cases c2 : way < 2
  . rw [if_pos (by simpa using c2)]
    refine ⟨a, m, rfl, by omega, by omega, s1.1, fun r μ3 r0 r1 s3 => ?_⟩
    obtain ⟨i, rfl⟩ : ∃ i : Nat, r = (i : Int) := ⟨r.toNat, by omega⟩
    exact q (.kind i) μ3 (by show i < m; omega) k1 (s1.trans s3).wide
  rw [if_neg (by simpa using c2)]
  rw [ek]
  by_cases c3 : way = 2
  . rw [if_pos (by simpa using c3)]
    refine ⟨a, m, k - 1, rfl, m1, m3, by omega, by omega, by omega, s1.1, fun p μ2 hg hp s2 => ?_⟩
    exact q (.turn p) μ2 hg (by show p.depth + 1 <= k; omega) (s1.wide.trans s2)
  rw [if_neg (by simpa using c3)]
  by_cases c4 : way < 5
  . rw [if_pos (by simpa using c4)]
    refine ⟨a, 4, rfl, by decide, by decide, s1.1, fun r μ2 r0 r1 s2 => ?_⟩
    walk_at "rn"
    obtain ⟨_, e1, w, rfl, w0', w1'⟩ := pick (P := fun v => ∃ w : Int, v = .int w /\ 3 ≤ w /\ w ≤ 1000) (xs := [.int 3, .int 3, .int 12, .int 1000]) r0 (by exact r1) (by
      intro v hv
      simp only [List.mem_cons, List.not_mem_nil, or_false] at hv
      rcases hv with rfl | rfl | rfl | rfl <;> exact ⟨_, rfl, by decide, by decide⟩)
    rw [e1]
    walk_at "rn"
    refine ⟨a, w, rfl, by omega, by omega, s2.1, fun t μ3 t0 t1 s3 => ?_⟩
    walk_at "rn"
    refine ⟨a, w, rfl, by omega, by omega, s3.1, fun u μ4 u0 u1 s4 => ?_⟩
    walk_at "rn"
    refine ⟨a, m, k - 1, rfl, m1, m3, by omega, by omega, by omega, s4.1, fun p μ5 hg hp s5 => ?_⟩
    exact q (.vB (1 + t) (1 + u) p) μ5 ⟨⟨by omega, by omega, by omega, by omega⟩, hg⟩ (by show p.depth + 1 <= k; omega) ((s1.trans (s2.trans (s3.trans s4))).wide.trans s5)
  rw [if_neg (by simpa using c4)]
  refine ⟨a, 2, rfl, by decide, by decide, s1.1, fun r μ2 r0 r1 s2 => ?_⟩
  walk_at "rn"
  have hr : (2 + r).toNat = 2 \/ (2 + r).toNat = 3 := by omega
  refine ⟨⟨by omega, by omega⟩, by rw [yH]; omega, fun p hp => ?_⟩
  have hb2 := s2.1
  have hap : a ≠ p := fun z => by obtain ⟨g, m, e, _⟩ := hb2; rw [z, hp] at e; cases e
  have s12 := s1.trans s2
  refine ⟨fun i acc μ' => Bag μ' a /\ (∀ b, b ≠ a -> b ≠ p -> ∀ ds, μ2 b = some ds -> μ' b = some ds) /\ ∃ ps : List Pn, acc = ps.map Pn.data /\ ps.length = i /\ ∀ x ∈ ps, x.good m /\ x.depth ≤ k - 1, ⟨?_, fun b h1 h2 ds e => by rw [bG h2]; exact e, [], rfl, rfl, fun x hx => by cases hx⟩, ?_, ?_⟩
  . obtain ⟨g, m, e, z⟩ := hb2; exact ⟨g, m, by rw [bG hap]; exact e, z⟩
  . rintro i y acc μ' hy hacc ⟨hb', kp, ps, rfl, hl, hok⟩
    refine ⟨⟨trivial, trivial, trivial, trivial⟩, a, m, k - 1, rfl, m1, m3, by omega, by omega, by omega, hb', fun x μ5 hg hx s5 => ?_⟩
    have hp5 := s5.2 p (fun z => hap z.symm) _ hacc
    refine ⟨hp5, ?_, fun b h1 h2 ds e => by rw [bG h2]; exact s5.2 b h1 ds (kp b h1 h2 ds e), ps ++ [x], by simp, by simp [hl], fun z hz => ?_⟩
    . obtain ⟨g, m, e, z⟩ := s5.1; exact ⟨g, m, by rw [bG hap]; exact e, z⟩
    . rcases List.mem_append.mp hz with z' | z'
      . exact hok z z'
      . rw [List.mem_singleton.mp z']; exact ⟨hg, hx⟩
  . rintro acc μ' ⟨hb', kp, ps, rfl, hl, hok⟩ hacc
    rw [yH] at hl
    refine ⟨by decide, ?_⟩
    have hs : uH a μ (hV μ' p) := by
      refine ⟨?_, fun b hb0 ds e => ?_⟩
      . obtain ⟨g, m, e, z⟩ := hb'; exact ⟨g, m, by rw [uL hap]; exact e, z⟩
      . have e2 : μ2 b = some ds := by rw [s12.2 b hb0]; exact e
        have hbp : b ≠ p := fun z => by rw [z, hp] at e2; cases e2
        rw [uL hbp]
        exact kp b hb0 hbp ds e2
    obtain ⟨m0, m1'⟩ := kU way (show (0 : Int) < 2 by decide)
    obtain ⟨_, e1, b, rfl⟩ := pick (P := fun v => ∃ b : Bool, v = .str (wdS b)) (xs := [.str "upon", .str "beside"]) m0 (by exact m1') (by
      intro v hv
      simp only [List.mem_cons, List.not_mem_nil, or_false] at hv
      rcases hv with rfl | rfl
      . exact ⟨true, rfl⟩
      . exact ⟨false, rfl⟩)
    rw [e1]
    rcases hr with hr | hr
    . rw [hr] at hl
      match ps, hl with
      | [x, y], _ =>
        obtain ⟨g1, d1⟩ := hok x (by simp)
        obtain ⟨g2, d2⟩ := hok y (by simp)
        exact q (.two b x y) _ ⟨g1, g2⟩ (by show max x.depth y.depth + 1 <= k; omega) hs
    . rw [hr] at hl
      match ps, hl with
      | [x, y, z], _ =>
        obtain ⟨g1, d1⟩ := hok x (by simp)
        obtain ⟨g2, d2⟩ := hok y (by simp)
        obtain ⟨g3, d3⟩ := hok z (by simp)
        exact q (.three b x y z) _ ⟨g1, g2, g3⟩ (by show max x.depth (max y.depth z.depth) + 1 <= k; omega) hs
theorem L9 {ks : List N3} {i : Nat} (h : i < ks.length) : atI (ks.map dN) (i : Int) = some (dN (ks.getD i aB)) := uG (gr h).1
theorem MC : Bd 1 aB := ⟨Sz.of (by decide), Sz.of (by decide), Sz.of (by decide)⟩
def He (d : Int) (ks : List N3) (b : Bool) (ps : List Pn) : N3 := ps.foldl (fun acc p => plus acc (cS d b (p.shape d ks))) aB
def Dx (n : Nat) : DTS := (aV (Bw (vW (dOp aJ (ag 2) (dC (.int 1)))) (az 4) (aV (bE (ax (eB n) (ae (ag 0) (ae (ag 1) (ae (ag 4) ar)))) (az 5))   (bE (ax jJ (ae (ag 3) (ae (dIf (dB (dOp (eZ false) (dOp aJ (ag 2) (dC (.int 0))) (dC (.str "upon")))) (ag 5) (ax bK (ae (ag 0) (ae (ag 5) ar)))) ar))) (az 3))))   (bH (dIf (dB (dOp (eZ false) (dOp aJ (ag 2) (dC (.int 0))) (dC (.str "upon")))) (ag 3) (ax bK (ae (ag 0) (ae (ag 3) ar))))))
theorem Ny {b : Bool} {Q : DK} : eZ false (.v (.str (wdS b))) (.v (.str "upon")) μ Q = Q (.v (.bool b)) μ := by
  cases b
  . show eZ false (.v (.str "beside")) (.v (.str "upon")) μ Q = _
    rw [LJ QY MS, Qb]; rfl
  . show eZ false (.v (.str "upon")) (.v (.str "upon")) μ Q = _
    rw [LJ MS MS, Q8]; rfl
theorem EN {n : Nat} {d : Int} {ks : List N3} (b : Bool) (ps : List Pn) {nx : Rho -> Mu -> Prop} (hd : aw d) (ho : KindsOk d ks) (n2 : n ≤ 2) (l1 : 1 ≤ ps.length) (l3 : ps.length ≤ 3) (hg : ∀ p ∈ ps, p.good ks.length /\ p.depth ≤ n) (q : Qd (.v (dN (cS d b (He d ks b ps)))) μ) : Dx n { nx := nx, rt := Qd } [some (.v (.int d)), some (.v (.tuple (ks.map dN))), some (.v (.tuple [.str (wdS b), .tuple (ps.map Pn.data)])), some (.v (dN aB)), none, none] μ := by
  have s5 := mU hd.1 hd.2.1
  have rbn : rbD n <= 200 := Nat.le_trans (gu n2) (by decide)
  unfold Dx
  rw [uW, AF]
  walk_at "rp"
  refine ⟨fun j ρ μ' => ∃ (acc : N3) (r4 r5 : Option D), ρ = [some (.v (.int d)), some (.v (.tuple (ks.map dN))), some (.v (.tuple [.str (wdS b), .tuple (ps.map Pn.data)])), some (.v (dN acc)), r4, r5] /\ μ' = μ /\ acc = He d ks b (ps.take j) /\ (acc = aB \/ js d ks (207 * j) acc) /\ (1 ≤ j -> js d ks (207 * j) acc), ⟨aB, _, _, rfl, rfl, rfl, .inl rfl, fun z => absurd z (by decide)⟩, ?_, ?_⟩
  . rintro j x ρ μ' hx ⟨acc, r4, r5, rfl, rfl, ea, ha, _⟩
    rw [List.getElem?_map] at hx
    obtain ⟨p, hp, rfl⟩ : ∃ p, ps[j]? = some p /\ p.data = x := by
      cases z : ps[j]? with
      | none => rw [z] at hx; cases hx
      | some e => rw [z] at hx; exact ⟨e, rfl, by simpa using hx⟩
    have hj : j < ps.length := (List.getElem?_eq_some_iff.mp hp).1
    obtain ⟨g1, g2⟩ := hg p (List.mem_of_getElem? hp)
    have S := (gv hd ho p g1).mono (Nat.le_trans (gu g2) rbn)
    have C := S.cS hd ho b
    have oa : Ok acc := by rcases ha with rfl | h; exact cM; exact h.ok
    have ba : Bd 4300 acc := by
      rcases ha with rfl | h
      . exact MC.mono (by decide)
      . exact (h.bd hd).mono (by omega)
    have next : js d ks (207 * (j + 1)) (plus acc (DL.cS d b (p.shape d ks))) := by
      rcases ha with rfl | h
      . rw [Ka C.ok]; exact C.mono (by omega)
      . exact (h.plus hd ho C).mono (by omega)
    have ef : plus acc (DL.cS d b (p.shape d ks)) = He d ks b (ps.take (j + 1)) := by
      rw [List.take_succ, hp, ea]
      unfold He
      rw [List.foldl_append]
      rfl
    walk_at "rp"
    refine ⟨d, ks, p, rfl, hd, ho, g1, g2, by omega, ?_⟩
    walk_at "rp"
    rw [Ny]
    cases b with
    | true =>
      simp only [↓reduceIte]
      exact ⟨_, _, rfl, oa, C.ok, ba, (C.bd hd).mono (by decide), _, _, _, rfl, rfl, ef, .inr next, fun _ => next⟩
    | false =>
      simp only [Bool.false_eq_true, ↓reduceIte]
      exact ⟨d, _, rfl, s5, aR hd S.ok S.pos, (S.bd hd).mono (by decide), _, _, rfl, oa, C.ok, ba, (C.bd hd).mono (by decide), _, _, _, rfl, rfl, ef, .inr next, fun _ => next⟩
  . rintro ρ μ' ⟨acc, r4, r5, rfl, rfl, ea, _, h1⟩
    rw [List.length_map] at ea h1
    rw [List.take_length] at ea
    have S := h1 l1
    walk_at "rp"
    rw [Ny]
    rw [<- ea] at q
    cases b with
    | true =>
      simp only [↓reduceIte]
      exact q
    | false =>
      simp only [Bool.false_eq_true, ↓reduceIte]
      exact ⟨d, _, rfl, s5, aR hd S.ok S.pos, (S.bd hd).mono (by omega), q⟩
theorem su (n : Nat) (h : eB (n + 1) ds μ Qd) : gU n { nx := fun _ μ' => Qd (.v .none) μ', rt := Qd } (aS ["_law_d", "_law_kinds_here", "_law_plan_here", "_law_found", "_law_part", "_law_shape_here"] ds) μ := by
  obtain ⟨d, ks, p, rfl, hd, ho, hg, hdp, n3, q⟩ := h
  have s5 := mU hd.1 hd.2.1
  have hn : n <= 2 := by omega
  have rbn : rbD n <= 200 := Nat.le_trans (gu hn) (by decide)
  have low : ∀ {p : Pn}, p.good ks.length -> p.depth ≤ n -> js d ks 200 (p.shape d ks) := fun {p} h1 h2 => (gv hd ho p h1).mono (Nat.le_trans (gu h2) rbn)
  unfold gU
  cases p with
  | kind i =>
    simp only [Pn.data]
    walk_at "rp"
    have hi : i < ks.length := hg
    rw [show atI (ks.map dN) (i : Int) = some (dN (ks.getD i aB)) from L9 hi]
    exact q
  | turn p =>
    simp only [Pn.data]
    walk_at "rp"
    have hd' : p.depth + 1 <= n + 1 := hdp
    have S := low (p := p) hg (by omega)
    refine ⟨d, ks, p, rfl, hd, ho, hg, by omega, by omega, ?_⟩
    exact ⟨d, _, rfl, s5, aR hd S.ok S.pos, (S.bd hd).mono (by decide), q⟩
  | vB u v p =>
    simp only [Pn.data]
    walk_at "rp"
    obtain ⟨⟨u0, u1, v0, v1⟩, hg'⟩ := hg
    have hd' : p.depth + 1 <= n + 1 := hdp
    have S := low (p := p) hg' (by omega)
    have un : u ≠ 0 := by omega
    have zz : ∀ {t : Int}, 0 < t -> t ≤ 1000 -> Sz 10 t := fun h1 h2 => Sz.of (by show _ < 1024; omega)
    refine ⟨v, 0, u, rfl, un, (zz u0 u1).mono (by decide), ?_⟩
    walk_at "rp"
    refine ⟨d, ks, p, rfl, hd, ho, hg', by omega, by omega, ?_⟩
    exact ⟨d, _, _, rfl, s5, iP _ _ un, S.ok, (qe un (zz v0 v1) sz0 (zz u0 u1)).mono (by decide), (S.bd hd).mono (by decide), q⟩
  | two b p r =>
    have hd' : max p.depth r.depth + 1 <= n + 1 := hdp
    have key := EN (μ := μ) (Qd := Qd) (nx := fun _ μ' => Qd (.v .none) μ') b [p, r] hd ho hn (by simp) (by simp) (fun x hx => by
      simp only [List.mem_cons, List.not_mem_nil, or_false] at hx
      rcases hx with rfl | rfl
      . exact ⟨hg.1, by omega⟩
      . exact ⟨hg.2, by omega⟩) q
    simp only [Pn.data]
    cases b
    . simp only [wdS, Bool.false_eq_true, ↓reduceIte]
      walk_at "rp"
      exact key
    . simp only [wdS, ↓reduceIte]
      walk_at "rp"
      exact key
  | three b p r t =>
    have hd' : max p.depth (max r.depth t.depth) + 1 <= n + 1 := hdp
    have key := EN (μ := μ) (Qd := Qd) (nx := fun _ μ' => Qd (.v .none) μ') b [p, r, t] hd ho hn (by simp) (by simp) (fun x hx => by
      simp only [List.mem_cons, List.not_mem_nil, or_false] at hx
      rcases hx with rfl | rfl | rfl
      . exact ⟨hg.1, by omega⟩
      . exact ⟨hg.2.1, by omega⟩
      . exact ⟨hg.2.2, by omega⟩) q
    simp only [Pn.data]
    cases b
    . simp only [wdS, Bool.false_eq_true, ↓reduceIte]
      walk_at "rp"
      exact key
    . simp only [wdS, ↓reduceIte]
      walk_at "rp"
      exact key
end
open PySem PySem.Spec PyProof.Rows NM
section
variable {d : Int} {k s k2 : N3} {w : Int}
end
open PySem PySem.Spec PyProof.Rows NM
section
variable {μ : Mu} {Qd : DK} {ds : List D} {ρ : Rho}
theorem Pr : ∀ ns : List Int, 1 ≤ ns.length -> ns.length ≤ 3 -> (∀ n ∈ ns, n = 1 \/ n = -1) -> (decide ((1 : Int) < (wm ns : Nat)) = (ns.any (fun n => decide (n = 1)) && ns.any (fun n => decide (n = -1)))) := by
  intro ns h1 h3 hn
  match ns, h1, h3, hn with
  | [a], _, _, hn => rcases hn a (by simp) with rfl | rfl <;> decide +kernel
  | [a, b], _, _, hn => rcases hn a (by simp) with rfl | rfl <;> rcases hn b (by simp) with rfl | rfl <;> decide +kernel
  | [a, b, c], _, _, hn => rcases hn a (by simp) with rfl | rfl <;> rcases hn b (by simp) with rfl | rfl <;> rcases hn c (by simp) with rfl | rfl <;> decide +kernel
theorem LP (l : List Int) : gn (l.map PyData.int) = some l := by
  induction l with
  | nil => rfl
  | cons k l ih =>
    rw [List.map_cons]
    show gn (PyData.int k :: _) = _
    unfold gn
    rw [ih]
    rfl
theorem QN {d : Int} {k : N3} (hd : aw d) (ok : Ok k) (sk : sg d k.a k.b = 1) : df d k = sgN d k := HI hd ok sk
theorem J5 {d : Int} {ks : List N3} (hd : aw d) (ho : eA d ks) (hm : gN d ks = false) {x y : N3} (hx : x ∈ ks) (hy : y ∈ ks) : df d x = df d y := by
  obtain ⟨ox, _, sx⟩ := ho.ok x hx
  obtain ⟨oy, _, sy⟩ := ho.ok y hy
  rcases xI hd ho hm hx hy with ⟨a, b⟩ | ⟨a, b⟩
  . rw [sE hd ox sx a, sE hd oy sy b]
  . rw [sL hd ox sx a, sL hd oy sy b]
end
open PySem PySem.Spec PyProof.Rows NM
inductive Pt where
  | kind (i : Nat)
  | turn (p : Pt)
  | vB (u v : Int) (p : Pt)
  | upon (p q : Pt)
def Pt.data : Pt -> PyData
  | .kind i => .tuple [.str "kind", .int i]
  | .turn p => .tuple [.str "turn", p.data]
  | .vB u v p => .tuple [.str "grid", .int u, .int v, p.data]
  | .upon p q => .tuple [.str "upon", .tuple [p.data, q.data]]
def Pt.depth : Pt -> Nat
  | .kind _ => 1
  | .turn p => p.depth + 1
  | .vB _ _ p => p.depth + 1
  | .upon p q => max p.depth q.depth + 1
section
variable {d : Int} {ks : List N3}
structure Frn (n : Nat) (x : N3) : Prop where
  ok : Ok x
  b : x.b = 0
  a0 : 0 <= x.a
  bd : Bd n x
theorem Frn.pos {n : Nat} {x : N3} (h : Frn n x) (hn : x ≠ aB) : 0 < x.a := by
  have := h.a0
  rcases Int.lt_or_eq_of_le this with z | z
  . exact z
  . exfalso
    apply hn
    have hg := h.ok.g
    rw [h.b, <- z] at hg
    have hc := h.ok.c
    have : x.c = 1 := by unfold g3 at hg; simp [Int.gcd] at hg; omega
    exact N3.ext' z.symm h.b this
theorem LX {x : N3} (ox : Ok x) : times d one x = x := by
  refine Rep.eq (au jr ox) ox (Rep.times jr ox (ai jr) (ai ox)) (ai ox) ?_ ?_
  . show (1 * x.a + d * 0 * x.b) * x.c = x.a * (1 * x.c); grind
  . show (1 * x.b + 0 * x.a) * x.c = x.b * (1 * x.c); grind
end
open PySem PySem.Spec PyProof.Rows NM
section
variable {d : Int} {ks : List N3} {x f g s k : N3}
theorem Qg (i : Int) : 0 <= i * i := by
  rcases Int.le_total 0 i with h | h
  . exact Int.mul_nonneg h h
  . exact Int.mul_nonneg_of_nonpos_of_nonpos h h
theorem Hi (hd : aw d) (hs : sg d x.a x.b = 1) (hn : 0 < norm d x) : 0 < x.a := (lI hd (by unfold norm at hn; omega)).mp ((iL hd).mp hs)
theorem HE (hd : aw d) (hs : sg d x.a x.b = 1) (hn : norm d x < 0) : 0 < x.b := (jY hd (by unfold norm at hn; omega)).mp ((iL hd).mp hs)
theorem Dv (ox : Ok x) (nx : norm d x ≠ 0) : ∃ p q : Int, 0 < p /\ 0 < q /\ (ao d x).a * (ao d x).b * p = -(x.a * x.b) * q := by
  have r := Rep.ao ox nx (ai ox)
  have oc := aC nx
  have hN := r.c
  have h1 := r.a
  have h2 := r.b
  have hx := ox.c
  have hc := oc.c
  refine ⟨(x.a * x.a - d * x.b * x.b) * (x.a * x.a - d * x.b * x.b), x.c * x.c * ((ao d x).c * (ao d x).c), ?_, ?_, ?_⟩
  . have := Qg (x.a * x.a - d * x.b * x.b)
    rcases Int.lt_or_eq_of_le this with z | z
    . exact z
    . rcases Int.mul_eq_zero.mp z.symm with h | h <;> exact absurd h hN
  . exact Int.mul_pos (Int.mul_pos hx hx) (Int.mul_pos hc hc)
  . generalize (ao d x).a = A at *
    generalize (ao d x).b = B at *
    generalize (ao d x).c = C at *
    generalize x.a * x.a - d * x.b * x.b = N at *
    have e : A * B * (N * N) = (A * N) * (B * N) := by grind
    rw [e, h1, h2]
    grind
theorem Ib (ok : Ok k) (nk : norm d k ≠ 0) : (grN d k).a * (grN d k).b <= 0 := by
  unfold grN
  split
  . rename_i h
    unfold grB at h
    have := of_decide_eq_true h
    omega
  . rename_i h
    unfold grB at h
    have h' : ¬ (ao d k).a * (ao d k).b < 0 := by simpa using h
    obtain ⟨p, q, hp, hq, e⟩ := Dv ok nk
    rcases Int.lt_or_le 0 (k.a * k.b) with z | z
    . exfalso
      have h1 : 0 <= (ao d k).a * (ao d k).b * p := Int.mul_nonneg (by omega) (Int.le_of_lt hp)
      have h2 : 0 < (k.a * k.b) * q := Int.mul_pos z hq
      rw [e, Int.neg_mul] at h1
      omega
    . exact z
def flat (d : Int) (s : N3) : N3 := if grB s = true then ao d s else s
theorem Ji (os : Ok s) (ns : norm d s ≠ 0) : 0 <= (flat d s).a * (flat d s).b := by
  unfold flat
  split
  . rename_i h
    unfold grB at h
    have h' := of_decide_eq_true h
    obtain ⟨p, q, hp, hq, e⟩ := Dv os ns
    rcases Int.lt_or_le ((ao d s).a * (ao d s).b) 0 with z | z
    . exfalso
      have h1 : (ao d s).a * (ao d s).b * p < 0 := Int.mul_neg_of_neg_of_pos z hp
      have h2 : 0 < -(s.a * s.b) * q := Int.mul_pos (by omega) hq
      omega
    . exact z
  . rename_i h
    unfold grB at h
    have : ¬ s.a * s.b < 0 := by simpa using h
    omega
theorem MV (hd : aw d) (os : Ok s) (hs : sg d s.a s.b = 1) : Ok (flat d s) /\ sg d (flat d s).a (flat d s).b = 1 := by
  have ns := aR hd os hs
  unfold flat
  split
  . exact ⟨aC ns, dw hd os hs⟩
  . exact ⟨os, hs⟩
theorem M1 (hd : aw d) (hs : sg d x.a x.b = 1) (hp : 0 <= x.a * x.b) : 0 <= x.a /\ 0 <= x.b := by
  unfold sg at hs
  split at hs
  . cases hs
  . split at hs
    . assumption
    . split at hs
      . cases hs
      . rename_i h0 h1 h2
        exfalso
        rcases Int.lt_or_le x.a 0 with z | z
        . have : 0 < x.b := by omega
          have := Int.mul_neg_of_neg_of_pos z this
          omega
        . rcases Int.lt_or_le x.b 0 with y | y
          . have : 0 < x.a := by omega
            have := Int.mul_neg_of_pos_of_neg this y
            omega
          . omega
structure Dn (d : Int) (f g s : N3) : Prop where
  D : 0 < g.b * f.a - g.a * f.b
  u : 0 <= s.a * g.b - s.b * g.a
  v : 0 <= s.b * f.a - s.a * f.b
theorem NP (hd : aw d) (hf : sg d f.a f.b = 1) (nf : 0 < norm d f) (pf : f.a * f.b <= 0) (hg : sg d g.a g.b = 1) (ng : norm d g < 0) (pg : g.a * g.b <= 0) (sa : 0 <= s.a) (sb : 0 <= s.b) : Dn d f g s := by
  have fa := Hi hd hf nf
  have gb := HE hd hg ng
  have fb : f.b <= 0 := by
    rcases Int.lt_or_le 0 f.b with z | z
    . have := Int.mul_pos fa z; omega
    . exact z
  have ga : g.a <= 0 := by
    rcases Int.lt_or_le 0 g.a with z | z
    . have := Int.mul_pos z gb; omega
    . exact z
  refine ⟨?_, ?_, ?_⟩
  . have h1 : 0 < f.a * f.a - d * f.b * f.b := nf
    have h2 : g.a * g.a - d * g.b * g.b < 0 := ng
    have d0 : 0 < d := by have := hd.1; omega
    rcases Int.lt_or_le 0 (g.b * f.a - g.a * f.b) with z | z
    . exact z
    . exfalso
      have q1 : g.b * f.a <= g.a * f.b := by omega
      have p1 : 0 < g.b * f.a := Int.mul_pos gb fa
      have sq : (g.b * f.a) * (g.b * f.a) <= (g.a * f.b) * (g.a * f.b) := Int.mul_le_mul q1 q1 (by omega) (by omega)
      have k1 : g.a * g.a * (f.b * f.b) <= d * g.b * g.b * (f.b * f.b) := Int.mul_le_mul_of_nonneg_right (by omega) (Qg _)
      have k2 : g.b * g.b * (d * f.b * f.b) < g.b * g.b * (f.a * f.a) := Int.mul_lt_mul_of_pos_left (by omega) (Int.mul_pos gb gb)
      have e1 : (g.b * f.a) * (g.b * f.a) = g.b * g.b * (f.a * f.a) := by grind
      have e2 : (g.a * f.b) * (g.a * f.b) = g.a * g.a * (f.b * f.b) := by grind
      have e3 : d * g.b * g.b * (f.b * f.b) = g.b * g.b * (d * f.b * f.b) := by grind
      omega
  . have a1 := Int.mul_nonneg sa (Int.le_of_lt gb)
    have a2 := Int.mul_nonneg sb (show 0 <= -g.a by omega)
    rw [Int.mul_neg] at a2
    omega
  . have a1 := Int.mul_nonneg sb (Int.le_of_lt fa)
    have a2 := Int.mul_nonneg sa (show 0 <= -f.b by omega)
    rw [Int.mul_neg] at a2
    omega
theorem Rep.H0 {A B C A' B' C' : Int} (h : Rep x A B C) (hc : C' ≠ 0) (e1 : A * C' = A' * C) (e2 : B * C' = B' * C) : Rep x A' B' C' := by
  have hC := h.c
  have h1 := h.a
  have h2 := h.b
  refine ⟨hc, ?_, ?_⟩
  . apply Int.eq_of_mul_eq_mul_right hC
    have : x.a * C' * C = (x.a * C) * C' := by grind
    rw [this, h1]
    have : A * x.c * C' = (A * C') * x.c := by grind
    rw [this, e1]
    grind
  . apply Int.eq_of_mul_eq_mul_right hC
    have : x.b * C' * C = (x.b * C) * C' := by grind
    rw [this, h2]
    have : B * x.c * C' = (B * C') * x.c := by grind
    rw [this, e2]
    grind
theorem B9 (of : Ok f) (og : Ok g) (os : Ok s) (nf : norm d f ≠ 0) (T : Dn d f g s) : Rep (J0 d f g s) (g.c * (s.b * f.a - s.a * f.b)) 0 (s.c * (g.b * f.a - g.a * f.b)) /\ Ok (J0 d f g s) := by
  have rX := pY of os nf (ai of) (ai os)
  have rY := pY of og nf (ai of) (ai og)
  have oX : Ok (shA d f s) := fJ os nf
  have oY : Ok (shA d f g) := fJ og nf
  have hN : f.a * f.a - d * f.b * f.b ≠ 0 := nf
  have hD := T.D
  have fc := of.c
  have gc := og.c
  have sc := os.c
  have xa := rX.b
  have ya := rY.b
  have yc := oY.c
  have xc := oX.c
  unfold J0
  generalize shA d f s = X at *
  generalize shA d f g = Y at *
  have yb : Y.b ≠ 0 := fun z => by
    rw [z, Int.zero_mul] at ya
    have h1 := Int.mul_pos (Int.mul_pos fc hD) yc
    omega
  have hc : X.c * Y.b ≠ 0 := Int.mul_ne_zero (by omega) yb
  refine ⟨Rep.H0 (iY (a := X.b * Y.c) (b := 0) hc) (Int.mul_ne_zero (by omega) (by omega)) ?_ (by grind), iP _ _ hc⟩
  generalize f.a * f.a - d * f.b * f.b = N at *
  generalize s.b * f.a - s.a * f.b = V at *
  generalize g.b * f.a - g.a * f.b = DD at *
  apply Int.eq_of_mul_eq_mul_right hN
  have e1 : X.b * Y.c * (s.c * DD) * N = (X.b * (s.c * N)) * (Y.c * DD) := by grind
  have e2 : g.c * V * (X.c * Y.b) * N = (Y.b * (g.c * N)) * (V * X.c) := by grind
  rw [e1, e2, xa, ya]
  grind
theorem HZ (of : Ok f) (og : Ok g) (os : Ok s) (nf : norm d f ≠ 0) (T : Dn d f g s) : Rep (N1 d f g s) (f.c * (s.a * g.b - s.b * g.a)) 0 (s.c * (g.b * f.a - g.a * f.b)) /\ Ok (N1 d f g s) := by
  obtain ⟨rv, ov⟩ := B9 of og os nf T
  have rX := pY of os nf (ai of) (ai os)
  have rY := pY of og nf (ai of) (ai og)
  have oX : Ok (shA d f s) := fJ os nf
  have oY : Ok (shA d f g) := fJ og nf
  have hD := T.D
  have sc := os.c
  have ot := au (d := d) ov oY
  have r := Rep.less oX ot rX (Rep.times (d := d) ov oY rv rY)
  refine ⟨Rep.H0 r (Int.mul_ne_zero (by omega) (by omega)) ?_ ?_, wO oX ot⟩
  . clear r rX rY rv oX oY ot ov hD T nf
    generalize f.a = fa; generalize f.b = fb; generalize f.c = fc; generalize g.a = ga; generalize g.b = gb; generalize g.c = gc; generalize s.a = sa; generalize s.b = sb; generalize s.c = sC
    grind
  . clear r rX rY rv oX oY ot ov hD T nf
    generalize f.a = fa; generalize f.b = fb; generalize f.c = fc; generalize g.a = ga; generalize g.b = gb; generalize g.c = gc; generalize s.a = sa; generalize s.b = sb; generalize s.c = sC
    grind
theorem Pj (of : Ok f) (og : Ok g) (os : Ok s) (nf : norm d f ≠ 0) (T : Dn d f g s) : plus (times d (N1 d f g s) f) (times d (J0 d f g s) g) = s := by
  obtain ⟨rv, ov⟩ := B9 of og os nf T
  obtain ⟨ru, ou⟩ := HZ of og os nf T
  have o1 := au (d := d) ou of
  have o2 := au (d := d) ov og
  refine Rep.eq (aT o1 o2) os (Rep.plus o1 o2 (Rep.times ou of ru (ai of)) (Rep.times ov og rv (ai og))) (ai os) ?_ ?_
  . clear o1 o2 rv ov ru ou T nf
    generalize f.a = fa; generalize f.b = fb; generalize f.c = fc; generalize g.a = ga; generalize g.b = gb; generalize g.c = gc; generalize s.a = sa; generalize s.b = sb; generalize s.c = sC
    grind
  . clear o1 o2 rv ov ru ou T nf
    generalize f.a = fa; generalize f.b = fb; generalize f.c = fc; generalize g.a = ga; generalize g.b = gb; generalize g.c = gc; generalize s.a = sa; generalize s.b = sb; generalize s.c = sC
    grind
end
open PySem PySem.Spec PyProof.Rows NM
section
variable {d : Int} {ks : List N3} {s : N3}
end
open PySem PySem.Spec PyProof.Rows NM
section
variable {d : Int} {x y z : N3}
theorem M6 (ox : Ok x) (oy : Ok y) : plus x y = plus y x := by
  refine Rep.eq (aT ox oy) (aT oy ox) (Rep.plus ox oy (ai ox) (ai oy)) (Rep.plus oy ox (ai oy) (ai ox)) ?_ ?_ <;> grind
theorem Lp (ox : Ok x) (oy : Ok y) (oz : Ok z) : plus (plus x y) z = plus x (plus y z) := by
  refine Rep.eq (aT (aT ox oy) oz) (aT ox (aT oy oz)) (Rep.plus (aT ox oy) oz (Rep.plus ox oy (ai ox) (ai oy)) (ai oz)) (Rep.plus ox (aT oy oz) (ai ox) (Rep.plus oy oz (ai oy) (ai oz))) ?_ ?_ <;> grind
theorem JB (ox : Ok x) (oy : Ok y) (oz : Ok z) : times d x (plus y z) = plus (times d x y) (times d x z) := by
  refine Rep.eq (au ox (aT oy oz)) (aT (au ox oy) (au ox oz)) (Rep.times ox (aT oy oz) (ai ox) (Rep.plus oy oz (ai oy) (ai oz))) (Rep.plus (au ox oy) (au ox oz) (Rep.times ox oy (ai ox) (ai oy)) (Rep.times ox oz (ai ox) (ai oz))) ?_ ?_ <;> grind
theorem Q1 (ox : Ok x) : plus (minus x) x = aB := by
  refine Rep.eq (aT (k8 ox) ox) cM (Rep.plus (k8 ox) ox (Rep.minus (ai ox)) (ai ox)) (ai cM) ?_ ?_
  . show (-x.a * x.c + x.a * x.c) * 1 = 0 * (x.c * x.c); grind
  . show (-x.b * x.c + x.b * x.c) * 1 = 0 * (x.c * x.c); grind
end
structure RN (d : Int) where
  v : N3
  ok : Ok v
theorem RN.ext {d : Int} {x y : RN d} (h : x.v = y.v) : x = y := by cases x; cases y; cases h; rfl
section
variable {d : Int}
instance : Add (RN d) := ⟨fun x y => ⟨plus x.v y.v, aT x.ok y.ok⟩⟩
instance : Mul (RN d) := ⟨fun x y => ⟨times d x.v y.v, au x.ok y.ok⟩⟩
instance : Neg (RN d) := ⟨fun x => ⟨minus x.v, k8 x.ok⟩⟩
instance : Sub (RN d) := ⟨fun x y => x + -y⟩
def RN.nat (n : Nat) : RN d := ⟨⟨n, 0, 1⟩, dk n⟩
def RN.int (n : Int) : RN d := ⟨⟨n, 0, 1⟩, dk n⟩
instance : NatCast (RN d) := ⟨RN.nat⟩
instance : IntCast (RN d) := ⟨RN.int⟩
instance (n : Nat) : OfNat (RN d) n := ⟨RN.nat n⟩
instance : SMul Nat (RN d) := ⟨fun n x => RN.nat n * x⟩
instance : SMul Int (RN d) := ⟨fun n x => RN.int n * x⟩
def RN.pow (x : RN d) : Nat -> RN d
  | 0 => RN.nat 1
  | n + 1 => RN.pow x n * x
instance : HPow (RN d) Nat (RN d) := ⟨RN.pow⟩
theorem RN.MQ (m n : Nat) : (RN.nat m : RN d) + RN.nat n = RN.nat (m + n) := RN.ext (by
  show plus ⟨m, 0, 1⟩ ⟨n, 0, 1⟩ = ⟨((m + n : Nat) : Int), 0, 1⟩
  refine Rep.eq (aT (dk _) (dk _)) (dk _) (Rep.plus (dk _) (dk _) (ai (dk _)) (ai (dk _))) (ai (dk _)) ?_ ?_
  . show ((m : Int) * 1 + (n : Int) * 1) * 1 = ((m + n : Nat) : Int) * (1 * 1); omega
  . show ((0 : Int) * 1 + 0 * 1) * 1 = 0 * (1 * 1); decide)
instance : Lean.Grind.CommRing (RN d) where
  add_zero x := RN.ext (O8 x.ok)
  add_comm x y := RN.ext (M6 x.ok y.ok)
  add_assoc x y z := RN.ext (Lp x.ok y.ok z.ok)
  mul_assoc x y z := RN.ext (MO x.ok y.ok z.ok)
  mul_one x := RN.ext (Lo x.ok)
  one_mul x := RN.ext (by show times d one x.v = x.v; rw [lY jr x.ok]; exact Lo x.ok)
  left_distrib x y z := RN.ext (JB x.ok y.ok z.ok)
  right_distrib x y z := RN.ext (by
    show times d (plus x.v y.v) z.v = plus (times d x.v z.v) (times d y.v z.v)
    rw [lY (aT x.ok y.ok) z.ok, JB z.ok x.ok y.ok, lY z.ok x.ok, lY z.ok y.ok])
  zero_mul x := RN.ext (BN x.ok)
  mul_zero x := RN.ext (by show times d x.v aB = aB; rw [lY x.ok cM]; exact BN x.ok)
  pow_zero x := rfl
  pow_succ x n := rfl
  ofNat_succ n := (RN.MQ n 1).symm
  mul_comm x y := RN.ext (lY x.ok y.ok)
  neg_add_cancel x := RN.ext (Q1 x.ok)
  sub_eq_add_neg x y := rfl
  neg_zsmul i x := RN.ext (by
    show times d ⟨-i, 0, 1⟩ x.v = minus (times d ⟨i, 0, 1⟩ x.v)
    have o1 := dk (-i)
    have o2 := dk i
    refine Rep.eq (au o1 x.ok) (k8 (au o2 x.ok)) (Rep.times o1 x.ok (ai o1) (ai x.ok)) (Rep.minus (Rep.times o2 x.ok (ai o2) (ai x.ok))) ?_ ?_ <;> grind)
  zsmul_natCast_eq_nsmul n x := rfl
  intCast_neg i := rfl
end
namespace RN
variable {d : Int}
def sgn (x : RN d) : Int := NM.sg d x.v.a x.v.b
def mt (x : RN d) : RN d := ⟨bR x.v, aX x.ok⟩
theorem JS (x y : RN d) : (x + y).mt = x.mt + y.mt := RN.ext (R9 x.ok y.ok)
theorem yx (x y : RN d) : (x * y).mt = x.mt * y.mt := RN.ext (Sb x.ok y.ok)
theorem sgn_mul (hd : aw d) (x y : RN d) : (x * y).sgn = x.sgn * y.sgn := fW hd x.ok y.ok
theorem uC (x : RN d) : x.sgn = 0 \/ x.sgn = 1 \/ x.sgn = -1 := sQ _ _ _
theorem HP {x : RN d} (h : x.sgn = 0) : x = 0 := RN.ext (by
  obtain ⟨a, b⟩ := cX.mp h
  have hg := x.ok.g
  have hc := x.ok.c
  rw [a, b] at hg
  have : x.v.c = 1 := by unfold g3 at hg; simp [Int.gcd] at hg; omega
  exact N3.ext' a b this)
theorem Cp (hd : aw d) {x y : RN d} (hx : 0 <= x.sgn) (hy : 0 <= y.sgn) : 0 <= (x + y).sgn := by
  rcases x.uC with a | a | a
  . rw [HP a]
    have : (0 : RN d) + y = y := by grind
    rw [this]; exact hy
  . rcases y.uC with b | b | b
    . rw [HP b]
      have : x + (0 : RN d) = x := by grind
      rw [this]; exact hx
    . have : (x + y).sgn = 1 := JK hd x.ok y.ok a b
      omega
    . omega
  . omega
theorem Cc (hd : aw d) (x : RN d) : 0 <= (x * x).sgn := by
  rw [sgn_mul hd]
  rcases x.uC with a | a | a <;> rw [a] <;> decide
theorem Hf (hd : aw d) (x : RN d) : (-x).sgn = - x.sgn := by
  show NM.sg d (-x.v.a) (-x.v.b) = _
  rw [yn hd]
  rfl
theorem RG (hd : aw d) {A B C : RN d} (hA : 0 <= A.sgn) (hC : 0 <= C.sgn) (hD : 0 <= (4 * A * C - B * B).sgn) (x y : RN d) : 0 <= (A * x * x + B * x * y + C * y * y).sgn := by
  have nn : ∀ {u v : RN d}, 0 ≤ u.sgn -> 0 ≤ v.sgn -> 0 ≤ (u * v).sgn := fun hu hv => by rw [sgn_mul hd]; exact Int.mul_nonneg hu hv
  rcases A.uC with a | a | a
  . have a0 := HP a
    subst a0
    have e : (4 * 0 * C - B * B : RN d) = -(B * B) := by grind
    rw [e, Hf hd] at hD
    have hB := Cc hd B
    have b0 : (B * B).sgn = 0 := by omega
    rw [sgn_mul hd] at b0
    have b1 : B.sgn = 0 := by rcases Int.mul_eq_zero.mp b0 with h | h <;> exact h
    have b2 := HP b1
    subst b2
    have e2 : (0 * x * x + 0 * x * y + C * y * y : RN d) = C * (y * y) := by grind
    rw [e2]
    exact nn hC (Cc hd y)
  . have e : 4 * A * (A * x * x + B * x * y + C * y * y) = (2 * A * x + B * y) * (2 * A * x + B * y) + (4 * A * C - B * B) * (y * y) := by grind
    have h : 0 <= (4 * A * (A * x * x + B * x * y + C * y * y)).sgn := by
      rw [e]
      exact Cp hd (Cc hd _) (nn hD (Cc hd y))
    rw [sgn_mul hd, sgn_mul hd, a] at h
    have h4 : (4 : RN d).sgn = 1 := by
      show NM.sg d 4 0 = 1
      rw [gM]; decide
    rw [h4] at h
    omega
  . omega
def W (p q s t w h : RN d) : RN d := w * (p * h + q * h.mt) + w.mt * (s * h + t * h.mt)
theorem xi {u : RN d} (h : u.v.b = 0) : u.mt = u := RN.ext (by
  show (⟨u.v.a, -u.v.b, u.v.c⟩ : N3) = u.v
  rw [h]
  exact N3.ext' rfl h.symm rfl)
theorem PH (p q s t w h g u v : RN d) (hu : u.v.b = 0) (hv : v.v.b = 0) : W p q s t w (u * h + v * g) = u * W p q s t w h + v * W p q s t w g := by
  unfold W
  rw [JS, yx, yx, xi hu, xi hv]
  grind
theorem Pc (p q s t w g h u v : RN d) (hu : u.v.b = 0) (hv : v.v.b = 0) : W p q s t (u * w + v * g) h = u * W p q s t w h + v * W p q s t g h := by
  unfold W
  rw [JS, yx, yx, xi hu, xi hv]
  grind
def Nv (p q s t k : RN d) : Prop := 0 <= (p * k).sgn /\ 0 <= (t * k.mt).sgn /\ 0 <= (4 * (p * k) * (t * k.mt) - (q * k.mt + s * k) * (q * k.mt + s * k)).sgn
theorem Nv.nn (hd : aw d) {p q s t k : RN d} (h : Nv p q s t k) (w : RN d) : 0 <= (W p q s t w (k * w)).sgn := by
  have e : W p q s t w (k * w) = (p * k) * w * w + (q * k.mt + s * k) * w * w.mt + (t * k.mt) * w.mt * w.mt := by
    unfold W
    rw [yx]
    grind
  rw [e]
  exact RG hd h.1 h.2.1 h.2.2 w w.mt
end RN
open PySem PySem.Spec PyProof.Rows NM
section
variable {d : Int} {ks : List N3} {p q s t k w σ : N3}
theorem Ml (hd : aw d) (x y : RN d) : dif d x.v y.v = (x - y).sgn := by
  show _ = NM.sg d (plus x.v (minus y.v)).a (plus x.v (minus y.v)).b
  rw [Mh hd x.ok (k8 y.ok)]
  show sg d (x.v.a * y.v.c - y.v.a * x.v.c) (x.v.b * y.v.c - y.v.b * x.v.c) = sg d (x.v.a * y.v.c + -y.v.a * x.v.c) (x.v.b * y.v.c + -y.v.b * x.v.c)
  rw [Int.neg_mul, Int.neg_mul]
  rfl
theorem Ds (hd : aw d) (op : Ok p) (oq : Ok q) (os : Ok s) (ot : Ok t) (ok : Ok k) (h : eY d p q s t k = true) : RN.Nv (d := d) ⟨p, op⟩ ⟨q, oq⟩ ⟨s, os⟩ ⟨t, ot⟩ ⟨k, ok⟩ := by
  unfold eY at h
  split at h
  . cases h
  . rename_i h1
    split at h
    . cases h
    . rename_i h2
      refine ⟨Int.not_lt.mp h1, Int.not_lt.mp h2, ?_⟩
      let P : RN d := ⟨p, op⟩
      let Q : RN d := ⟨q, oq⟩
      let S : RN d := ⟨s, os⟩
      let T : RN d := ⟨t, ot⟩
      let K : RN d := ⟨k, ok⟩
      have h0 : ¬ dif d (times d (plus (times d q (bR k)) (times d s k)) (plus (times d q (bR k)) (times d s k))) (times d ⟨4, 0, 1⟩ (times d (times d p k) (times d t (bR k)))) = 1 := by simpa using h
      have h3 : ¬ dif d ((Q * K.mt + S * K) * (Q * K.mt + S * K)).v (4 * ((P * K) * (T * K.mt))).v = 1 := h0
      rw [Ml hd] at h3
      have e : (4 * (P * K) * (T * K.mt) - (Q * K.mt + S * K) * (Q * K.mt + S * K)) = -((Q * K.mt + S * K) * (Q * K.mt + S * K) - 4 * ((P * K) * (T * K.mt))) := by grind
      show 0 <= (4 * (P * K) * (T * K.mt) - (Q * K.mt + S * K) * (Q * K.mt + S * K)).sgn
      rw [e, RN.Hf hd]
      rcases RN.uC ((Q * K.mt + S * K) * (Q * K.mt + S * K) - 4 * ((P * K) * (T * K.mt))) with z | z | z <;> omega
theorem wX (ox : Ok k) (nk : norm d k ≠ 0) : (⟨k, ox⟩ : RN d) * ⟨ao d k, aC nk⟩ = 1 := RN.ext (by
  show times d k (ao d k) = one
  have r := Rep.times (d := d) ox (aC nk) (ai ox) (Rep.ao ox nk (ai ox))
  have hN : k.a * k.a - d * k.b * k.b ≠ 0 := nk
  refine Rep.eq (au ox (aC nk)) jr r (ai jr) ?_ ?_
  . show (k.a * (k.c * k.a) + d * k.b * (-k.c * k.b)) * 1 = 1 * (k.c * (k.a * k.a - d * k.b * k.b)); grind
  . show (k.a * (-k.c * k.b) + k.b * (k.c * k.a)) * 1 = 0 * _; grind)
theorem Oj (hd : aw d) {P Q S T U V F G w : RN d} (ub : U.v.b = 0) (vb : V.v.b = 0) (u0 : 0 <= U.sgn) (v0 : 0 <= V.sgn) (nF : RN.Nv P Q S T F) (nG : RN.Nv P Q S T G) : 0 <= (RN.W P Q S T w ((U * F + V * G) * w)).sgn := by
  have e : (U * F + V * G) * w = U * (F * w) + V * (G * w) := by grind
  rw [e, RN.PH _ _ _ _ _ _ _ _ _ ub vb]
  refine RN.Cp hd ?_ ?_
  . rw [RN.sgn_mul hd]; exact Int.mul_nonneg u0 (nF.nn hd w)
  . rw [RN.sgn_mul hd]; exact Int.mul_nonneg v0 (nG.nn hd w)
theorem Rr {n : Nat} {u : N3} (h : Frn n u) : 0 <= sg d u.a u.b := by
  rw [h.b, gM]
  have := h.a0
  split
  . decide
  . rw [if_pos (by omega)]; decide
theorem C5 {A C : Int} {x : N3} (ox : Ok x) (r : Rep x A 0 C) (hA : 0 <= A) (hC : 0 < C) : x.b = 0 /\ 0 <= sg d x.a x.b := by
  have hb := r.b
  rw [Int.zero_mul] at hb
  have ha := r.a
  have hc := ox.c
  have b0 : x.b = 0 := (Int.mul_eq_zero.mp hb).resolve_right (by omega)
  refine ⟨b0, ?_⟩
  have a0 : 0 <= x.a := by
    rcases Int.lt_or_le x.a 0 with z | z
    . have h1 := Int.mul_neg_of_neg_of_pos z hC
      have h2 := Int.mul_nonneg hA (Int.le_of_lt hc)
      omega
    . exact z
  rw [b0, gM]
  split
  . decide
  . rw [if_pos (by omega)]; decide
theorem DV {u : N3} (h : eK d u = true) : u.b = 0 /\ 0 <= sg d u.a u.b := by
  have b0 := xh h
  have a0 := BG h
  refine ⟨b0, ?_⟩
  rw [b0, gM]
  split
  . decide
  . rw [if_pos (by omega)]; decide
def Of (d : Int) (ks : List N3) (F : N3) : Prop := ∃ k ∈ ks, F = k \/ F = ao d k
structure Split (d : Int) (ks : List N3) (X : N3) : Prop where
  ex : ∃ u v F G : N3, Ok u /\ Ok v /\ Ok F /\ Ok G /\ Of d ks F /\ Of d ks G /\ (u.b = 0 /\ 0 ≤ sg d u.a u.b) /\ (v.b = 0 /\ 0 ≤ sg d v.a v.b) /\ plus (times d u F) (times d v G) = X
theorem Kd (h : k ∈ ks) : Of d ks (grN d k) := by
  unfold grN
  split
  . exact ⟨k, h, .inr rfl⟩
  . exact ⟨k, h, .inl rfl⟩
theorem GY (hd : aw d) (ho : eA d ks) (os : Ok σ) (hs : sg d σ.a σ.b = 1) (hl : kK d ks σ = true) : Split d ks σ \/ Split d ks (ao d σ) := by
  have ns := aR hd os hs
  by_cases hm : gN d ks = true
  . have hm' := hm
    unfold gN at hm'
    rw [Bool.and_eq_true] at hm'
    obtain ⟨i1, i2, i3⟩ := Eh hm'.1
    obtain ⟨j1, j2, j3⟩ := Eh hm'.2
    obtain ⟨ok1, bk1, sk1⟩ := ho.ok _ (gr i2).2
    obtain ⟨ok2, bk2, sk2⟩ := ho.ok _ (gr j2).2
    have g1 := Nn hd ok1 bk1 sk1
    have g2 := Nn hd ok2 bk2 sk2
    obtain ⟨fo, fs⟩ := MV hd os hs
    obtain ⟨fa0, fb0⟩ := M1 hd fs (Ji os ns)
    have n1 := g1.pos.mpr (M7 i3)
    have n2 := g2.neg.mpr (Ma j3)
    have T : Dn d (grN d (ks.getD (iOf d ks 1) aB)) (grN d (ks.getD (iOf d ks (-1)) aB)) (flat d σ) := NP hd g1.sg n1 (Ib ok1 (aR hd ok1 sk1)) g2.sg n2 (Ib ok2 (aR hd ok2 sk2)) fa0 fb0
    have nf : norm d (grN d (ks.getD (iOf d ks 1) aB)) ≠ 0 := by omega
    obtain ⟨rv, ov⟩ := B9 g1.ok g2.ok fo nf T
    obtain ⟨ru, ou⟩ := HZ g1.ok g2.ok fo nf T
    have cD := Int.mul_pos fo.c T.D
    have S : Split d ks (flat d σ) := ⟨_, _, _, _, ou, ov, g1.ok, g2.ok, Kd (gr i2).2, Kd (gr j2).2, C5 ou ru (Int.mul_nonneg (Int.le_of_lt g1.ok.c) T.u) cD, C5 ov rv (Int.mul_nonneg (Int.le_of_lt g2.ok.c) T.v) cD, Pj g1.ok g2.ok fo nf T⟩
    by_cases h : grB σ = true
    . rw [show flat d σ = ao d σ from if_pos h] at S; exact .inr S
    . rw [show flat d σ = σ from if_neg h] at S; exact .inl S
  . have hx : nA d (G3 d ks) σ = true := by unfold kK at hl; rw [Bool.eq_false_iff.mpr hm, Bool.false_or] at hl; exact hl
    have hmem := qR hd ho
    obtain ⟨ok, bk, sk⟩ := ho.ok _ hmem
    have nk := aR hd ok sk
    unfold nA at hx
    rw [Bool.and_eq_true] at hx
    exact .inl ⟨_, _, _, _, E1 ok os nk, FN ok os nk, ok, aC nk, ⟨_, hmem, .inl rfl⟩, ⟨_, hmem, .inr rfl⟩, DV hx.1, DV hx.2, Mc ok os nk⟩
theorem Gk (hd : aw d) (ho : eA d ks) (oσ : Ok σ) (hs : sg d σ.a σ.b = 1) (hl : kK d ks σ = true) (op : Ok p) (oq : Ok q) (os : Ok s) (ot : Ok t) (hn : ∀ k ∈ ks, eY d p q s t k = true /\ eY d p q s t (ao d k) = true) (ow : Ok w) : 0 ≤ sg d (weigh d p q s t w (times d σ w)).a (weigh d p q s t w (times d σ w)).b := by
  have nσ := aR hd oσ hs
  have nv : ∀ {F : N3} (oF : Ok F), Of d ks F -> RN.Nv (d := d) ⟨p, op⟩ ⟨q, oq⟩ ⟨s, os⟩ ⟨t, ot⟩ ⟨F, oF⟩ := fun {F} oF h => by
    obtain ⟨k, hk, rfl | rfl⟩ := h
    . exact Ds hd op oq os ot oF (hn _ hk).1
    . exact Ds hd op oq os ot oF (hn _ hk).2
  have con : ∀ {F : N3}, Of d ks F -> norm d F ≠ 0 /\ Of d ks (ao d F) := fun {F} h => by
    obtain ⟨k, hk, rfl | rfl⟩ := h
    . obtain ⟨ok, _, sk⟩ := ho.ok _ hk
      exact ⟨aR hd ok sk, _, hk, .inr rfl⟩
    . obtain ⟨ok, _, sk⟩ := ho.ok _ hk
      have nk := aR hd ok sk
      exact ⟨aR hd (aC nk) (dw hd ok sk), k, hk, .inl (Mp ok nk)⟩
  rcases GY hd ho oσ hs hl with ⟨u, v, F, G, ou, ov, oF, oG, hF, hG, ⟨ub, u0⟩, ⟨vb, v0⟩, e⟩ | ⟨u, v, F, G, ou, ov, oF, oG, hF, hG, ⟨ub, u0⟩, ⟨vb, v0⟩, e⟩
  . have h := Oj hd (w := ⟨w, ow⟩) (U := ⟨u, ou⟩) (V := ⟨v, ov⟩) ub vb u0 v0 (nv oF hF) (nv oG hG)
    have h' : 0 <= sg d (weigh d p q s t w (times d (plus (times d u F) (times d v G)) w)).a (weigh d p q s t w (times d (plus (times d u F) (times d v G)) w)).b := h
    rw [e] at h'
    exact h'
  . obtain ⟨nF, cF⟩ := con hF
    obtain ⟨nG, cG⟩ := con hG
    let P : RN d := ⟨p, op⟩
    let Q : RN d := ⟨q, oq⟩
    let S : RN d := ⟨s, os⟩
    let T : RN d := ⟨t, ot⟩
    let U : RN d := ⟨u, ou⟩
    let V : RN d := ⟨v, ov⟩
    let f : RN d := ⟨F, oF⟩
    let g : RN d := ⟨G, oG⟩
    let cf : RN d := ⟨ao d F, aC nF⟩
    let cg : RN d := ⟨ao d G, aC nG⟩
    let w' : RN d := ⟨w, ow⟩
    let z : RN d := ⟨σ, oσ⟩
    have e1 : U * f + V * g = ⟨ao d σ, aC nσ⟩ := RN.ext e
    have e2 : z * (U * f + V * g) = 1 := by rw [e1]; exact wX oσ nσ
    have e3 : f * cf = 1 := wX oF nF
    have e4 : g * cg = 1 := wX oG nG
    have h1 := (nv (aC nF) cF).nn hd (f * (z * w'))
    have h2 := (nv (aC nG) cG).nn hd (g * (z * w'))
    have c1 : cf * (f * (z * w')) = z * w' := by grind
    have c2 : cg * (g * (z * w')) = z * w' := by grind
    have key : RN.W P Q S T w' (z * w') = U * RN.W P Q S T (f * (z * w')) (z * w') + V * RN.W P Q S T (g * (z * w')) (z * w') := by
      rw [<- RN.Pc _ _ _ _ _ _ _ _ _ ub vb]
      have : U * (f * (z * w')) + V * (g * (z * w')) = w' := by grind
      rw [this]
    show 0 <= (RN.W P Q S T w' (z * w')).sgn
    rw [key]
    have h1' : 0 <= (RN.W P Q S T (f * (z * w')) (z * w')).sgn := by
      have hh : 0 <= (RN.W P Q S T (f * (z * w')) (cf * (f * (z * w')))).sgn := h1
      rw [c1] at hh
      exact hh
    have h2' : 0 <= (RN.W P Q S T (g * (z * w')) (z * w')).sgn := by
      have hh : 0 <= (RN.W P Q S T (g * (z * w')) (cg * (g * (z * w')))).sgn := h2
      rw [c2] at hh
      exact hh
    refine RN.Cp hd ?_ ?_
    . rw [RN.sgn_mul hd]; exact Int.mul_nonneg u0 h1'
    . rw [RN.sgn_mul hd]; exact Int.mul_nonneg v0 h2'
theorem Pz (hd : aw d) (ho : eA d ks) (oσ : Ok σ) (hs : sg d σ.a σ.b = 1) (hl : kK d ks σ = true) (op : Ok p) (oq : Ok q) (os : Ok s) (ot : Ok t) (ow : Ok w) : rC d ks σ w p q s t = false := by
  unfold rC
  cases h : ks.all (fun k => eY d p q s t k && eY d p q s t (ao d k)) with
  | false => rfl
  | true =>
    rw [Bool.true_and, decide_eq_false_iff_not, Int.not_lt]
    refine Gk hd ho oσ hs hl op oq os ot (fun k hk => ?_) ow
    have := List.all_eq_true.mp h k hk
    rwa [Bool.and_eq_true] at this
end
open PySem PySem.Spec PyProof.Rows NM
def wZ : DSp := fun ds μ Q => ∃ (d : Int) (x : N3), ds = [.v (.int d), .v (dN x)] /\ aw d /\ Ok x /\ norm d x ≠ 0 /\ Bd 130 x /\ Q (.v (dN (lean d x))) μ
theorem Dh {μ : Mu} {Q : DK} {ds : List D} (h : wZ ds μ Q) : ds.length = 2 := by obtain ⟨_, _, rfl, _⟩ := h; rfl
def L5 : DSp := fun ds μ Q => ∃ (a : Addr) (d : Int) (ks : List N3) (shape : N3), ds = [.m a, .v (.int d), .v (.tuple (ks.map dN)), .v (dN shape)] /\ aw d /\ KindsOk d ks /\ Bag μ a /\ ∀ p q s t μ', OkW 810 810 p q s t -> Step a μ μ' -> Q (.v (W4 p q s t)) μ'
theorem Kg {μ : Mu} {Q : DK} {ds : List D} (h : L5 ds μ Q) : ds.length = 4 := by obtain ⟨_, _, _, _, rfl, _⟩ := h; rfl
def Wdt (d : Int) (shape w : N3) : Prop := w = one \/ w = ao d shape \/ (Ok w /\ Bd 20 w /\ sg d w.a w.b = 1)
structure Shb (d : Int) (x : N3) : Prop where
  ok : Ok x
  pos : sg d x.a x.b = 1
  bd : Bd 1250 x
  cbd : Bd 1250 (ao d x)
def wN : DSp := fun ds μ Q => ∃ (a : Addr) (d : Int) (ks : List N3) (shape : N3), ds = [.m a, .v (.int d), .v (.tuple (ks.map dN)), .v (dN shape)] /\ aw d /\ KindsOk d ks /\ Shb d shape /\ Bag μ a /\ ∀ w p q s t μ', Wdt d shape w -> OkW 810 810 p q s t -> Step a μ μ' -> Q (.v (.tuple [dN w, W4 p q s t])) μ'
theorem EI {μ : Mu} {Q : DK} {ds : List D} (h : wN ds μ Q) : ds.length = 4 := by obtain ⟨_, _, _, _, rfl, _⟩ := h; rfl
def xq : DSp := fun ds μ Q => ∃ (d : Int) (ks : List N3) (shape w p q s t : N3), ds = [.v (.int d), .v (.tuple (ks.map dN)), .v (dN shape), .v (.tuple [dN w, W4 p q s t])] /\ aw d /\ KindsOk d ks /\ Shb d shape /\ Wdt d shape w /\ OkW 810 810 p q s t /\ Q (.v (.bool (rC d ks shape w p q s t))) μ
theorem FU {μ : Mu} {Q : DK} {ds : List D} (h : xq ds μ Q) : ds.length = 4 := by obtain ⟨_, _, _, _, _, _, _, _, rfl, _⟩ := h; rfl
def nW : XSp := fun ds μ Xk => ∃ (d : Int) (t u v : PyData), ds = [.v (.int d), .v t, .v u, .v v] /\ aw d /\ KT d t /\ rW d t = false /\ Xk μ
theorem CB {ds : List D} {μ : Mu} {Xk : Mu -> Prop} (h : nW ds μ Xk) : ds.length = 4 := by obtain ⟨_, _, _, _, rfl, _⟩ := h; rfl
def oK : XSp := fun ds μ Xk => ∃ (d : Int) (ks : List N3) (u v : PyData), ds = [.v (.int d), .v (.tuple (ks.map dN)), .v u, .v v] /\ aw d /\ eA d ks /\ LF d u /\ Xk μ
theorem AI {ds : List D} {μ : Mu} {Xk : Mu -> Prop} (h : oK ds μ Xk) : ds.length = 4 := by obtain ⟨_, _, _, _, rfl, _⟩ := h; rfl
def tj : DSp := fun ds μ Q => ∃ (a : Addr) (d : Int) (ks : List N3) (s : N3) (v : PyData), ds = [.m a, .v (.int d), .v (.tuple (ks.map dN)), .v (dN s), .v v] /\ aw d /\ KindsOk d ks /\ Bag μ a /\ ∀ μ', Step a μ μ' -> Q (.v (.bool true)) μ'
theorem BO {μ : Mu} {Q : DK} {ds : List D} (h : tj ds μ Q) : ds.length = 5 := by obtain ⟨_, _, _, _, _, rfl, _⟩ := h; rfl
def tT : DSp := fun ds μ Q => ∃ (d : Int) (ks : List N3), ds = [.v (.int d), .v (.tuple (ks.map dN))] /\ aw d /\ KindsOk d ks /\ Q (.v (.bool true)) μ
theorem BR {μ : Mu} {Q : DK} {ds : List D} (h : tT ds μ Q) : ds.length = 2 := by obtain ⟨_, _, rfl, _⟩ := h; rfl
def n8 : DTS :=
  (bH (ax bM (ae (ag 0) (ae (ax iE (ae (ag 1) ar)) (ae (ax bK (ae (ag 0) (ae (ag 1) ar))) ar)))))
def j7 : DTS :=
  (aV (bE (dOp aJ (ag 2) (ax bS (ae (ag 0) (ae (dCB iV (ae (ag 2) ar)) ar)))) (az 4))
  (aV (bE (ax bK (ae (ag 1) (ae (ax wZ (ae (ag 1) (ae (dOp aJ (jj (ae (ag 4) (ae (ax bK (ae (ag 1) (ae (ag 4) ar))) ar))) (ax bS (ae (ag 0) (ae (dC (.int 2)) ar)))) ar))) ar))) (az 5))
  (aV (bE (ax bM (ae (ag 1) (ae (bC (ae (tJ (dC (.int 2))) (ae (dC (.int 0)) (ae (dC (.int 1)) ar)))) (ae (ag 5) ar)))) (az 6))
  (aV (bE (ax bM (ae (ag 1) (ae (bC (ae (dC (.int 1)) (ae (dC (.int 0)) (ae (dC (.int 4)) ar)))) (ae (ax jJ (ae (ax tw (ae (ag 1) (ae (ag 4) ar))) (ae (bC (ae (tJ (dC (.int 4))) (ae (dC (.int 0)) (ae (dC (.int 1)) ar)))) ar))) ar)))) (az 7))
  (aV (bE (bC (ae (bC (ae (dC (.int 0)) (ae (dC (.int 0)) (ae (dC (.int 1)) ar)))) (ae (bC (ae (dC (.int 1)) (ae (dC (.int 0)) (ae (dC (.int 1)) ar)))) ar))) (oW 2 (de (az 8) (de (az 9) qr))))
  (aV (bE (dCB kB (ae (j6 [none, some 0] (sR (ae (dC (.int 4)) ar)) (az 0) xG (bC (ae (mv (ax bS (ae (ag 1) (ae (dC (.int 9)) ar))) (dC (.int 4))) (ae (mv (ax bS (ae (ag 1) (ae (dC (.int 3)) ar))) (dC (.int 1))) (ae (dC (.int 1)) ar))))) ar)) (az 10))
  (aV (bE (jj (ae (bC (ae (ag 9) (ae (ag 6) (ae (ag 8) (ae (ag 5) ar))))) (ae (bC (ae (ag 9) (ae (ag 8) (ae (ag 6) (ae (ag 5) ar))))) (ae (bC (ae (ag 8) (ae (ag 8) (ae (ag 8) (ae (ag 9) ar))))) (ae (bC (ae (ag 8) (ae (ag 8) (ae (ag 8) (ae (bC (ae (tJ (dC (.int 1))) (ae (dC (.int 0)) (ae (dC (.int 1)) ar)))) ar))))) (ae (bC (ae (ag 9) (ae (ag 9) (ae (bC (ae (tJ (dC (.int 1))) (ae (dC (.int 0)) (ae (dC (.int 1)) ar)))) (ae (ag 7) ar))))) (ae (bC (ae (ag 9) (ae (ag 8) (ae (ag 8) (ae (ag 9) ar))))) (ae (ag 10) (ae (bC (ae (ag 8) (ae (ag 9) (ae (ag 8) (ae (ag 8) ar))))) ar))))))))) (az 11))
  (bH (dOp aJ (ag 11) (ax bS (ae (ag 0) (ae (dC (.int 8)) ar))))))))))))
def jo : DTS :=
  (aV (bE (dOp aJ (jj (ae (bC (ae (dC (.int 1)) (ae (dC (.int 0)) (ae (dC (.int 1)) ar)))) (ae (ax bK (ae (ag 1) (ae (ag 3) ar))) (ae (ax kZ (ae (ag 0) (ae (ag 1) ar))) ar)))) (ax bS (ae (ag 0) (ae (dC (.int 3)) ar)))) (az 4))
  (bH (bC (ae (ag 4) (ae (ax L5 (ae (ag 0) (ae (ag 1) (ae (ag 2) (ae (ag 3) ar))))) ar)))))
section
variable {μ : Mu} {Qd : DK} {ds : List D}
theorem Bi (h : wZ ds μ Qd) : n8 { nx := fun _ μ' => Qd (.v .none) μ', rt := Qd } (aS ["_law_d", "_law_shape"] ds) μ := by
  obtain ⟨d, x, rfl, hd, ox, nx, bx, q⟩ := h
  have s5 := mU hd.1 hd.2.1
  unfold n8
  walk_at "rn"
  refine ⟨x, rfl, ?_⟩
  walk_at "rn"
  exact ⟨d, x, rfl, s5, nx, bx.mono (by decide), d, _, _, rfl, s5, aX ox, aC nx, (i6 bx).mono (by decide), (cJ s5 nx bx).mono (by decide), q⟩
theorem bd3 {n : Nat} {a b c : Int} (h : 8 <= n) (h1 : a.natAbs < 256) (h2 : b.natAbs < 256) (h3 : c.natAbs < 256) : Bd n ⟨a, b, c⟩ := Bd.mono (n := 8) ⟨Sz.of h1, Sz.of h2, Sz.of h3⟩ h
theorem four {α : Type} {xs : List α} (h : xs.length = 4) : ∃ a b c e, xs = [a, b, c, e] := by
  match xs, h with
  | [a, b, c, e], _ => exact ⟨a, b, c, e, rfl⟩
theorem Rh {ks : List N3} {i : Int} (h0 : 0 ≤ i) (h1 : i < (ks.length : Nat)) : ∃ k ∈ ks, atI (ks.map dN) i = some (dN k) := by
  obtain ⟨v, e, hm⟩ := tL (xs := ks.map dN) h0 (by rw [List.length_map]; exact h1)
  obtain ⟨k, hk, rfl⟩ := List.mem_map.mp hm
  exact ⟨k, hk, e⟩
theorem wF (h : L5 ds μ Qd) : j7 { nx := fun _ μ' => Qd (.v .none) μ', rt := Qd } (aS ["_law_bag_here", "_law_d", "_law_kinds_here", "_law_shape", "_law_kind", "_law_part", "_law_twice", "_law_last", "_law_nought", "_law_one", "_law_few", "_law_some"] ds) μ := by
  obtain ⟨a, d, ks, shape, rfl, hd, kk, hb, q⟩ := h
  have s5 := mU hd.1 hd.2.1
  unfold j7
  walk_at "rn"
  have hlen : (((ks.map dN).length : Nat) : Int) = (ks.length : Nat) := by rw [List.length_map]
  have kl1 := kk.l1
  have kl3 := kk.l3
  refine ⟨a, _, rfl, by rw [hlen]; omega, by rw [hlen]; omega, hb, fun i μ1 i0 i1 s1 => ?_⟩
  walk_at "rn"
  obtain ⟨k, hk, e1⟩ := Rh (ks := ks) i0 (by rw [<- hlen]; exact i1)
  obtain ⟨ok, bk, sk⟩ := kk.ok k hk
  rw [e1]
  walk_at "rn"
  have nk := aR hd ok sk
  have ock := aC nk
  have bck := cJ s5 nk bk
  have sck := dw hd ok sk
  refine ⟨d, k, rfl, s5, nk, bk.mono (by decide), ?_⟩
  walk_at "rn"
  refine ⟨a, 2, rfl, by decide, by decide, s1.1, fun j μ2 j0 j1 s2 => ?_⟩
  walk_at "rn"
  obtain ⟨_, e2, k2, rfl, ok2, bk2, sk2⟩ := pick (P := fun v => ∃ k, v = dN k /\ Ok k /\ Bd 126 k /\ sg d k.a k.b = 1) (xs := [dN k, dN (ao d k)]) j0 (by exact j1) (by
    intro v hv
    simp only [List.mem_cons, List.not_mem_nil, or_false] at hv
    rcases hv with rfl | rfl
    . exact ⟨_, rfl, ok, bk.mono (by decide), sk⟩
    . exact ⟨_, rfl, ock, bck.mono (by decide), sck⟩)
  rw [e2]
  walk_at "rn"
  have nk2 := aR hd ok2 sk2
  have ol := Bf nk2 ok2
  have bl : Bd 390 (lean d k2) := (br s5 (aX ok2) (aC nk2) (i6 bk2) (cJ s5 nk2 bk2)).mono (by decide)
  have nl : norm d (lean d k2) ≠ 0 := hd.norm ol (fun e => by
    have h1 := Mf hd ok2 sk2
    rw [e] at h1
    have h2 : sg d aB.a aB.b = 0 := cX.mpr ⟨rfl, rfl⟩
    rw [h2] at h1
    obtain ⟨z1, z2⟩ := cX.mp h1.symm
    apply nk2
    unfold norm
    have : k2.b = 0 := by omega
    rw [z1, this]; simp)
  refine ⟨d, k2, rfl, hd, ok2, nk2, bk2.mono (by decide), d, _, rfl, s5, nl, bl.mono (by decide), ?_⟩
  have opt := aC nl
  have bpt : Bd 786 (ao d (lean d k2)) := (cJ s5 nl bl).mono (by decide)
  generalize ao d (lean d k2) = part at opt bpt ⊢
  walk_at "rn"
  have om2 : Ok ⟨-2, 0, 1⟩ := dk _
  refine ⟨d, _, part, rfl, s5, om2, opt, bd3 (by decide) (by decide) (by decide) (by decide), bpt.mono (by decide), ?_⟩
  have otw := au (d := d) om2 opt
  have btw' : Bd 810 (times d ⟨-2, 0, 1⟩ part) := (br s5 om2 opt (n := 8) (bd3 (by decide) (by decide) (by decide) (by decide)) bpt).mono (by decide)
  generalize times d ⟨-2, 0, 1⟩ part = twice at otw btw' ⊢
  walk_at "rn"
  have omk := aX ok
  have bmk := i6 bk
  have opk := aT ok omk
  have bpk := ku ok omk bk bmk
  have npk := qM hd ok nk
  have ofk := mZ hd nk ok
  have bfk : Bd 530 (d6 d k) := (br s5 (au opk opk) (aC npk) (br s5 opk opk bpk bpk) (cJ s5 npk (br s5 ok omk bk bmk))).mono (by decide)
  have om4 : Ok ⟨-4, 0, 1⟩ := dk _
  have o14 : Ok ⟨1, 0, 4⟩ := ⟨by decide, by decide⟩
  refine ⟨d, k, rfl, hd, ok, nk, bk.mono (by decide), ?_⟩
  walk_at "rn"
  have opl := aT ofk om4
  have bpl := ku ofk om4 bfk (m := 8) (bd3 (by decide) (by decide) (by decide) (by decide))
  refine ⟨_, _, rfl, ofk, om4, bfk.mono (by decide), bd3 (by decide) (by decide) (by decide) (by decide), d, _, _, rfl, s5, o14, opl, bd3 (by decide) (by decide) (by decide) (by decide), bpl.mono (by decide), ?_⟩
  have ola := au (d := d) o14 opl
  have bla : Bd 810 (times d ⟨1, 0, 4⟩ (plus (d6 d k) ⟨-4, 0, 1⟩)) := (br s5 o14 opl (n := 8) (bd3 (by decide) (by decide) (by decide) (by decide)) bpl).mono (by decide)
  generalize times d ⟨1, 0, 4⟩ (plus (d6 d k) ⟨-4, 0, 1⟩) = last at ola bla ⊢
  walk_at "rn"
  refine ⟨trivial, ?_⟩
  refine ⟨⟨by decide, by decide⟩, by decide, fun pa hpa => ?_⟩
  have hapa : a ≠ pa := fun z => by obtain ⟨g, m, e, _⟩ := s2.1; rw [z, hpa] at e; cases e
  refine ⟨fun i acc μ' => Bag μ' a /\ (∀ b, b ≠ a -> b ≠ pa -> μ' b = μ2 b) /\ acc.length = i /\ ∀ v ∈ acc, Num 810 v, ⟨?_, fun b _ h2 => bG h2, rfl, fun _ h => by cases h⟩, ?_, ?_⟩
  . obtain ⟨g, m, e, z⟩ := s2.1; exact ⟨g, m, by rw [bG hapa]; exact e, z⟩
  . rintro i v acc μ' hv hacc ⟨hb', hk', hl, hn⟩
    refine ⟨⟨trivial, trivial⟩, ?_⟩
    refine ⟨a, 9, rfl, by decide, by decide, hb', fun t μ3 t0 t1 s3 => ?_⟩
    walk_at "rn"
    refine ⟨a, 3, rfl, by decide, by decide, s3.1, fun u μ4 u0 u1 s4 => ?_⟩
    walk_at "rn"
    have s34 := s3.trans s4
    have h4 : μ4 pa = some acc := by rw [s34.2 pa (fun z => hapa z.symm)]; exact hacc
    refine ⟨h4, ?_, fun b h1 h2 => by rw [bG h2, s34.2 b h1]; exact hk' b h1 h2, by simp [hl], fun w hw => ?_⟩
    . obtain ⟨g, m, e, z⟩ := s34.1; exact ⟨g, m, by rw [bG hapa]; exact e, z⟩
    . rcases List.mem_append.mp hw with z | z
      . exact hn w z
      . rw [List.mem_singleton.mp z]
        exact ⟨⟨t - 4, u - 1, 1⟩, rfl, ⟨by show (0 : Int) < 1; decide, by unfold g3; simp⟩, bd3 (by decide) (by omega) (by omega) (by decide)⟩
  . rintro acc μ' ⟨hb', hk', hl, hn⟩ hacc
    rw [yH] at hl
    have hl4 : acc.length = 4 := hl
    obtain ⟨v1, v2, v3, v4, rfl⟩ := four hl4
    obtain ⟨n1, rfl, on1, bn1⟩ := hn v1 (by simp)
    obtain ⟨n2, rfl, on2, bn2⟩ := hn v2 (by simp)
    obtain ⟨n3, rfl, on3, bn3⟩ := hn v3 (by simp)
    obtain ⟨n4, rfl, on4, bn4⟩ := hn v4 (by simp)
    have s3 : Step a μ2 (hV μ' pa) := by
      refine ⟨?_, fun b h1 => ?_⟩
      . obtain ⟨g, m, e, z⟩ := hb'; exact ⟨g, m, by rw [uL hapa]; exact e, z⟩
      . by_cases hbp : b = pa
        . subst hbp; rw [hpa]; unfold hV; rw [if_pos rfl]
        . rw [uL hbp]; exact hk' b h1 hbp
    refine ⟨a, 8, rfl, by decide, by decide, s3.1, fun w μ5 w0 w1 s4 => ?_⟩
    walk_at "rn"
    have on : Ok ⟨0, 0, 1⟩ := cM
    have oo : Ok ⟨1, 0, 1⟩ := jr
    have om1 : Ok ⟨-1, 0, 1⟩ := dk _
    have bn : Bd 810 ⟨0, 0, 1⟩ := bd3 (by decide) (by decide) (by decide) (by decide)
    have bo : Bd 810 ⟨1, 0, 1⟩ := bd3 (by decide) (by decide) (by decide) (by decide)
    have bm1 : Bd 810 ⟨-1, 0, 1⟩ := bd3 (by decide) (by decide) (by decide) (by decide)
    have bpt' : Bd 810 part := bpt.mono (by decide)
    obtain ⟨_, e3, p1, p2, p3, p4, rfl, o4⟩ := pick (P := fun v => ∃ p q s t, v = W4 p q s t /\ OkW 810 810 p q s t) (xs := [PyData.tuple [dN ⟨1, 0, 1⟩, dN twice, dN ⟨0, 0, 1⟩, dN part], PyData.tuple [dN ⟨1, 0, 1⟩, dN ⟨0, 0, 1⟩, dN twice, dN part], PyData.tuple [dN ⟨0, 0, 1⟩, dN ⟨0, 0, 1⟩, dN ⟨0, 0, 1⟩, dN ⟨1, 0, 1⟩], PyData.tuple [dN ⟨0, 0, 1⟩, dN ⟨0, 0, 1⟩, dN ⟨0, 0, 1⟩, dN ⟨-1, 0, 1⟩],
        PyData.tuple [dN ⟨1, 0, 1⟩, dN ⟨1, 0, 1⟩, dN ⟨-1, 0, 1⟩, dN last], PyData.tuple [dN ⟨1, 0, 1⟩, dN ⟨0, 0, 1⟩, dN ⟨0, 0, 1⟩, dN ⟨1, 0, 1⟩], PyData.tuple [dN n1, dN n2, dN n3, dN n4], PyData.tuple [dN ⟨0, 0, 1⟩, dN ⟨1, 0, 1⟩, dN ⟨0, 0, 1⟩, dN ⟨0, 0, 1⟩]]) w0 (by exact w1) (by
      intro v hv
      simp only [List.mem_cons, List.not_mem_nil, or_false] at hv
      rcases hv with rfl | rfl | rfl | rfl | rfl | rfl | rfl | rfl <;> exact ⟨_, _, _, _, rfl, by assumption, by assumption, by assumption, by assumption, by assumption, by assumption, by assumption, by assumption⟩)
    rw [e3]
    exact q p1 p2 p3 p4 μ5 o4 (s1.trans (s2.trans (s3.trans s4)))
theorem Wdt.ok {d : Int} {shape w : N3} (hd : aw d) (h : Wdt d shape w) (S : Shb d shape) : Ok w /\ sg d w.a w.b = 1 /\ Bd 1250 w := by
  have ns := aR hd S.ok S.pos
  rcases h with rfl | rfl | ⟨a, b, c⟩
  . exact ⟨jr, B7, ⟨Sz.of (by decide +kernel), Sz.of (by decide +kernel), Sz.of (by decide +kernel)⟩⟩
  . exact ⟨aC ns, dw hd S.ok S.pos, S.cbd⟩
  . exact ⟨a, c, b.mono (by decide)⟩
theorem vd (h : wN ds μ Qd) : jo { nx := fun _ μ' => Qd (.v .none) μ', rt := Qd } (aS ["_law_bag_here", "_law_d", "_law_kinds_here", "_law_shape", "_law_width"] ds) μ := by
  obtain ⟨a, d, ks, shape, rfl, hd, ho, S, hb, q⟩ := h
  have s5 := mU hd.1 hd.2.1
  have ns := aR hd S.ok S.pos
  unfold jo
  walk_at "rn"
  refine ⟨d, shape, rfl, s5, ns, S.bd.mono (by decide), ?_⟩
  walk_at "rn"
  refine ⟨a, d, rfl, hd, hb, fun x μ1 ox bx sx s1 => ?_⟩
  refine ⟨a, 3, rfl, by decide, by decide, s1.1, fun r μ2 r0 r1 s2 => ?_⟩
  obtain ⟨_, e1, w, rfl, hw⟩ := pick (P := fun v => ∃ w, v = dN w /\ Wdt d shape w) (xs := [dN ⟨1, 0, 1⟩, dN (ao d shape), dN x]) r0 (by exact r1) (by
    intro v hv
    simp only [List.mem_cons, List.not_mem_nil, or_false] at hv
    rcases hv with rfl | rfl | rfl
    . exact ⟨_, rfl, .inl rfl⟩
    . exact ⟨_, rfl, .inr (.inl rfl)⟩
    . exact ⟨_, rfl, .inr (.inr ⟨ox, bx, sx⟩)⟩)
  walk_at "rn"
  rw [e1]
  dsimp only
  refine ⟨a, d, ks, shape, rfl, hd, ho, s2.1, fun p q' s t μ3 o4 s3 => ?_⟩
  exact q w p q' s t μ3 hw o4 (s1.trans (s2.trans s3))
end
open PySem PySem.Spec PyProof.Rows NM
def vf : DTS :=
  (aV (As (ax jV (ae (ag 0) (ae (ag 1) ar))))
  (aV (As (ax lV (ae (ag 0) (ae (ag 2) ar))))
  (aV (eS (ve (iU (dB (EA "tuple" (ag 3)))) (dB (dOp (eZ true) (dCB iV (ae (ag 3) ar)) (dC (.int 2))))) (bH (dC (.bool false))) cK)
  (aV (bE (ag 3) (oW 2 (de (az 4) (de (az 5) qr))))
  (aV (eS (ve (iU (dB (ax kS (ae (ag 0) (ae (ag 4) ar))))) (iU (dB (ax nU (ae (ag 5) ar))))) (bH (dC (.bool false))) cK)
  (aV (Bw (vW (ag 1)) (az 6) (eS (ve (iU (dB (ax ur (ae (ag 0) (ae (ag 5) (ae (ag 6) ar)))))) (iU (dB (ax ur (ae (ag 0) (ae (ag 5) (ae (ax bK (ae (ag 0) (ae (ag 6) ar))) ar))))))) (bH (dC (.bool false))) cK))
  (bH (dOp rLt (ax kN (ae (ag 0) (ae (ax qH (ae (ag 0) (ae (ag 5) (ae (ag 4) (ae (ax bM (ae (ag 0) (ae (ag 2) (ae (ag 4) ar)))) ar))))) ar))) (dC (.int 0))))))))))
def gP : DTX :=
  (vY uP (ae (ag 0) (ae (ag 1) ar)))
def gm : DTX :=
  (OK (As (ax jV (ae (ag 0) (ae (ag 1) ar))))
  (vY qD (ae (ag 0) (ae (ag 2) ar))))
section
variable {μ : Mu} {Qd : DK} {ds : List D}
theorem Jd (h : xq ds μ Qd) : vf { nx := fun _ μ' => Qd (.v .none) μ', rt := Qd } (aS ["d", "kinds", "shape", "thing", "width", "weights", "kind"] ds) μ := by
  obtain ⟨d, ks, shape, w, p, q1, s, u, rfl, hd, ho, S, hw, o4, q⟩ := h
  have osh := S.ok
  have ssh := S.pos
  have bsh := S.bd
  obtain ⟨ow, sw, bw⟩ := hw.ok hd S
  have s5 := mU hd.1 hd.2.1
  unfold vf
  walk_at "rn"
  refine ⟨d, ks, rfl, hd, ho.l1, ho.l3, ho.wide.ok, d, shape, rfl, hd, osh, bsh.mono (by decide), ssh, ?_⟩
  have e : isT "tuple" (.tuple [dN w, W4 p q1 s u]) = true := rfl
  rw [e]
  walk_at "rn"
  refine ⟨trivial, d, _, rfl, hd, Au, fun x ex => by rw [<- BF ex]; exact bw.mono (by decide), ?_⟩
  rw [mS ow, sw]
  walk_at "rn"
  refine ⟨p, q1, s, u, rfl, o4.op, o4.oq, o4.os, o4.ot, ?_⟩
  walk_at "rn"
  unfold rC at q
  rw [AF]
  walk_at "rn"
  refine ⟨fun i ρ μ' => ∃ r6, ρ = [some (.v (.int d)), some (.v (.tuple (ks.map dN))), some (.v (dN shape)), some (.v (.tuple [dN w, W4 p q1 s u])), some (.v (dN w)), some (.v (W4 p q1 s u)), r6] /\ μ' = μ /\ ∀ k ∈ ks.take i, (eY d p q1 s u k && eY d p q1 s u (ao d k)) = true, ⟨_, rfl, rfl, fun k h => by simp at h⟩, ?_, ?_⟩
  . rintro i y ρ μ' hy ⟨r6, rfl, rfl, hi⟩
    obtain ⟨k, hki, rfl⟩ := K2 hy
    have hm := List.mem_of_getElem? hki
    obtain ⟨ok, bk, sk⟩ := ho.ok k hm
    have nk := aR hd ok sk
    walk_at "rn"
    refine ⟨d, p, q1, s, u, k, 810, 810, 60, rfl, hd, o4, ok, bk, by decide, by decide, ?_⟩
    cases n1 : eY d p q1 s u k with
    | false =>
      walk_at "rn"
      rw [xr hm (by rw [n1]; rfl), Bool.false_and] at q
      exact q
    | true =>
      walk_at "rn"
      refine ⟨d, k, rfl, s5, nk, bk.mono (by decide), d, p, q1, s, u, _, 810, 810, 2 * 60 + 6, rfl, hd, o4, aC nk, cJ s5 nk bk, by decide, by decide, ?_⟩
      cases n2 : eY d p q1 s u (ao d k) with
      | false =>
        walk_at "rn"
        rw [xr hm (by rw [n1, n2]; rfl), Bool.false_and] at q
        exact q
      | true =>
        walk_at "rn"
        exact ⟨_, rfl, trivial, Ge hki hi (by rw [n1, n2]; rfl)⟩
  . rintro ρ μ' ⟨r6, rfl, rfl, hi⟩
    rw [List.length_map, List.take_length] at hi
    have ha : ks.all (fun k => eY d p q1 s u k && eY d p q1 s u (ao d k)) = true := by rw [List.all_eq_true]; exact hi
    rw [ha, Bool.true_and] at q
    have ns := aR hd osh ssh
    have ot := au (d := d) osh ow
    obtain ⟨m, l, bm, bl, hml⟩ : ∃ m l : Nat, Bd m w /\ Bd l (times d shape w) /\ 810 + 810 + 2 * l + m + 30 ≤ 4300 := by
      have b1 : Bd 1 one := ⟨Sz.of (by decide), Sz.of (by decide), Sz.of (by decide)⟩
      rcases hw with rfl | rfl | ⟨_, b, _⟩
      . exact ⟨1, 1250 + 1 + 6, b1, br s5 osh jr bsh b1, by decide⟩
      . refine ⟨1250, 1, S.cbd, ?_, by decide⟩
        have e : times d shape (ao d shape) = one := congrArg RN.v (wX (d := d) osh ns)
        rw [e]
        exact b1
      . exact ⟨20, 1250 + 20 + 6, b, br s5 osh ow bsh b, by decide⟩
    refine ⟨d, shape, w, rfl, s5, osh, ow, bsh.mono (by decide), bw.mono (by decide), d, p, q1, s, u, w, _, 810, 810, m, l, rfl, hd, o4, ow, bm, ot, bl, hml, d, _, rfl, hd, (K3 hd o4 ow bm ot bl).mono (by omega), ?_⟩
    walk_at "rn"
    exact q
theorem sJ {Xk : Mu -> Prop} (h : nW ds μ Xk) : gP (aS ["d", "kinds", "shape", "thing", "width", "weights", "kind"] ds) μ Xk := by
  obtain ⟨d, t, u, v, rfl, z⟩ := h
  unfold gP
  rw [HL]
  walk_at "rn"
  exact ⟨d, t, rfl, z⟩
theorem rj {Xk : Mu -> Prop} (h : oK ds μ Xk) : gm (aS ["d", "kinds", "shape", "thing", "width", "weights", "kind"] ds) μ Xk := by
  obtain ⟨d, ks, u, v, rfl, hd, ho, ⟨b1, b2, b3⟩, q⟩ := h
  unfold gm
  rw [Pq]
  walk_at "rn"
  refine ⟨d, ks, rfl, hd, ho.l1, ho.l3, ho.ok, ?_⟩
  dsimp only
  rw [HL]
  walk_at "rn"
  exact ⟨d, u, rfl, hd, b1, b2, b3, q⟩
end
open PySem PySem.Spec PyProof.Rows NM
def gf (P0 : PQ) (P1 : PQ) (P2 : PQ) (P3 : PQ) : DTS :=
  (aV (bE (bC (ae (ax oj (ae (ag 0) (ae (ag 1) (ae (ag 2) ar)))) (ae (ax lh (ae (ag 0) (ae (ag 1) ar))) ar))) (oW 2 (de (az 5) (de (az 6) qr))))
  (aV (bE (Ly (ae (Aj (ae (dC (.str "NoKinds")) (ae (dKq P0) ar))) (ae (Aj (ae (dC (.str "NoKinds")) (ae (dKq P1) ar))) (ae (Aj (ae (dC (.str "NoNumber")) (ae (dKq P2) ar))) (ae (Aj (ae (dC (.str "NoNumber")) (ae (dKq P3) ar))) ar))))) (az 7))
  (bH (dCB xC (ae (Bu [none, none] (ag 7) (JF 2 (yD (az 0) (yD (az 1) Kb))) (fun ρo G => (dOp (eZ false) (LQ ρo G 2 1 [⟨P0, [some 1, some 5, some 3, some 4], (vY nW (ae (ag 0) (ae (ag 1) (ae (ag 2) (ae (ag 3) ar))))), .str "NoKinds"⟩, ⟨P1, [some 1, some 5, some 6, some 4], (vY nW (ae (ag 0) (ae (ag 1) (ae (ag 2) (ae (ag 3) ar))))), .str "NoKinds"⟩, ⟨P2, [some 1, some 2, some 6, some 4], (vY oK (ae (ag 0) (ae (ag 1) (ae (ag 2) (ae (ag 3) ar))))), .str "NoNumber"⟩, ⟨P3, [some 1, some 2, some 6], (vY oK (ae (ag 0) (ae (ag 1) (ae (ag 2) (ae (dC .none) ar))))), .str "NoNumber"⟩]) (ag 0)))) ar)))))
def dQ : DTS :=
  (aV (bE (j6 [none, some 0] (vW (ag 1)) (az 0) xG (ax kN (ae (ag 1) (ae (ax iE (ae (ag 0) ar)) ar)))) (az 2))
  (aV (eS (dB (dOp rGt (Cv (ag 2)) (dC (.int 1)))) (bH (dC (.bool true))) cK)
  (aV (bE (dOp aJ (jj (ae (bC (ae (dC (.int 0)) (ae (dC (.int 1)) (ae (dC (.int 1)) ar)))) (ae (bC (ae (dC (.int 1)) (ae (dC (.int 0)) (ae (dC (.int 1)) ar)))) ar))) (dCB pI (ae (dOp rLt (dOp aJ (ag 2) (dC (.int 0))) (dC (.int 0))) ar))) (az 3))
  (aV (bE (bC (ae (dC (.int 0)) (ae (dC (.int 0)) (ae (dC (.int 1)) ar)))) (az 4))
  (bH (dOp FG (ax xq (ae (ag 0) (ae (ag 1) (ae (ag 3) (ae (bC (ae (bC (ae (dC (.int 1)) (ae (dC (.int 0)) (ae (dC (.int 1)) ar)))) (ae (bC (ae (ag 4) (ae (ag 4) (ae (ag 4) (ae (bC (ae (dOp aJ (ag 2) (dC (.int 0))) (ae (dC (.int 0)) (ae (dC (.int 1)) ar)))) ar))))) ar))) ar))))) (dC (.bool true))))))))
section
variable {μ : Mu} {Qd : DK} {ds : List D} {ρ : Rho}
theorem s_num : SeqAt.shaped (.str "NoNumber") = true := by decide +kernel
theorem Nt : SeqAt.shaped (.str "NoKinds") = true := by decide +kernel
theorem q5 (P0 P1 P2 P3 : PQ) (h : tj ds μ Qd) : gf P0 P1 P2 P3 { nx := fun _ μ' => Qd (.v .none) μ', rt := Qd } (aS ["_law_bag_here", "_law_d", "_law_kinds_here", "_law_shape", "_law_bar", "_law_bad", "_law_wrong", "_law_deeds"] ds) μ := by
  obtain ⟨a, d, ks, s, v, rfl, hd, ho, hb, q⟩ := h
  unfold gf
  walk_at "rn"
  refine ⟨a, d, ks, rfl, hd, ho, hb, fun t μ1 k1 k2 s1 => ?_⟩
  refine ⟨a, d, rfl, hd, s1.1, fun u μ2 f1 f2 f3 s2 => ?_⟩
  walk_at "rn"
  refine ⟨trivial, ?_⟩
  simp only [↓OP, ↓Pu, ↓pH, ↓vT, ↓RS, ↓q_c]
  refine Gb rfl (by show 4 <= 1000; decide) (fun e he => ?_) (fun e he μ' sub Xk hx => ?_) ?_
  . simp only [List.mem_cons, List.not_mem_nil, or_false] at he
    rcases he with rfl | rfl | rfl | rfl
    . exact Nt
    . exact Nt
    . exact s_num
    . exact s_num
  . simp only [List.mem_cons, List.not_mem_nil, or_false] at he
    rcases he with rfl | rfl | rfl | rfl
    . exact (show nW [.v (.int d), .v t, .v (dN s), .v v] μ' Xk from ⟨d, t, dN s, v, rfl, hd, k1, k2, hx⟩)
    . exact (show nW [.v (.int d), .v t, .v u, .v v] μ' Xk from ⟨d, t, u, v, rfl, hd, k1, k2, hx⟩)
    . exact (show oK [.v (.int d), .v (.tuple (ks.map dN)), .v u, .v v] μ' Xk from ⟨d, ks, u, v, rfl, hd, ho.wide, ⟨f1, f2, f3⟩, hx⟩)
    . exact (show oK [.v (.int d), .v (.tuple (ks.map dN)), .v u, .v .none] μ' Xk from ⟨d, ks, u, .none, rfl, hd, ho.wide, ⟨f1, f2, f3⟩, hx⟩)
  . rw [Hv]
    exact q _ (s1.trans s2)
theorem EG {d : Int} {ks : List N3} {s : N3} {w : Int} (hd : aw d) (ho : eA d ks) (os : Ok s) (hs : sg d s.a s.b = 1) (hw : ∀ k ∈ ks, df d k = w) (hpm : w = 1 \/ w = -1) (hn : df d s ≠ w) : rC d ks s one aB aB aB ⟨w, 0, 1⟩ = true := by
  unfold rC
  rw [decide_eq_true (EX hd os hs hpm hn), Bool.and_true, List.all_eq_true]
  intro k hk
  obtain ⟨ok, _, sk⟩ := ho.ok k hk
  have nk := aR hd ok sk
  have oc := aC nk
  have sc := dw hd ok sk
  have hc : df d (ao d k) = w := by
    have n := uh ok nk
    rw [<- hw k hk]
    rcases vt hd ok sk with ⟨a, b⟩ | ⟨a, b⟩
    . rw [a, sE hd oc sc (n.1.mpr b)]
    . rw [a, sL hd oc sc (n.2.mpr b)]
  rw [yz hd ok sk (hw k hk), yz hd oc sc hc]
  rfl
theorem lr (h : tT ds μ Qd) : dQ { nx := fun _ μ' => Qd (.v .none) μ', rt := Qd } (aS ["_law_d", "_law_kinds_here", "_law_signs", "_law_shape", "_law_nought"] ds) μ := by
  obtain ⟨d, ks, rfl, hd, ho', q⟩ := h
  have ho := ho'.wide
  have l1 := ho.l1
  have l3 := ho.l3
  unfold dQ
  walk_at "rn"
  refine ⟨by rw [List.length_map]; omega, fun p hp => ⟨fun i acc μ' => acc = ((ks.take i).map (df d)).map .int /\ μ' = aO μ p acc, ⟨by simp, rfl⟩, ?_, ?_⟩⟩
  . rintro i x acc μ' hx hacc ⟨rfl, rfl⟩
    rw [List.getElem?_map] at hx
    obtain ⟨k, he, rfl⟩ : ∃ k, ks[i]? = some k /\ dN k = x := by
      cases z : ks[i]? with
      | none => rw [z] at hx; cases hx
      | some e => rw [z] at hx; exact ⟨e, rfl, by simpa using hx⟩
    obtain ⟨ok, bk, sk⟩ := ho.ok k (List.mem_of_getElem? he)
    refine ⟨⟨trivial, trivial⟩, k, rfl, d, bR k, rfl, hd, (i6 bk).mono (by decide), bD, ?_, ?_⟩
    . rw [List.take_succ, he]; simp; rfl
    . rw [mJ]
  . rintro acc μ' ⟨rfl, rfl⟩ hacc
    rw [vK hp, List.length_map, List.take_length, Lq]
    walk_at "rn"
    rw [LP]
    refine ⟨by rw [List.length_map]; omega, ?_⟩
    have pm : ∀ n ∈ ks.map (df d), n = 1 \/ n = -1 := fun n hn => by
      obtain ⟨k, hk, rfl⟩ := List.mem_map.mp hn
      obtain ⟨ok, _, sk⟩ := ho.ok k hk
      rcases vt hd ok sk with ⟨a, _⟩ | ⟨a, _⟩
      . exact .inl a
      . exact .inr a
    have dm := Pr (ks.map (df d)) (by rw [List.length_map]; exact l1) (by rw [List.length_map]; exact l3) pm
    have em : ((ks.map (df d)).any (fun n => decide (n = 1)) && (ks.map (df d)).any (fun n => decide (n = -1))) = gN d ks := by
      unfold gN
      have e : ks.map (df d) = ks.map (sgN d) := List.map_congr_left fun k hk => by
        obtain ⟨ok, _, sk⟩ := ho.ok k hk
        exact QN hd ok sk
      rw [e, List.any_map, List.any_map]
      rfl
    rw [em] at dm
    rw [dm]
    cases hm : gN d ks with
    | true =>
      simp only [↓reduceIte]
      exact q
    | false =>
      simp only [Bool.false_eq_true, ↓reduceIte]
      obtain ⟨k0, h0, e0⟩ : ∃ k ∈ ks, atI ((ks.map (df d)).map PyData.int) 0 = some (.int (df d k)) := by
        match ks, l1 with
        | k :: t, _ => exact ⟨k, by simp, xw⟩
      have hw : ∀ k ∈ ks, df d k = df d k0 := fun k hk => J5 hd ho hm hk h0
      rw [e0]
      walk_at "rn"
      have hpm : df d k0 = 1 \/ df d k0 = -1 := pm _ (List.mem_map_of_mem h0)
      have b1 : ∀ {a b c : Int}, a.natAbs < 2 -> b.natAbs < 2 -> c.natAbs < 2 -> Bd 1 ⟨a, b, c⟩ := fun h1 h2 h3 => ⟨Sz.of h1, Sz.of h2, Sz.of h3⟩
      have oR : Ok ⟨0, 1, 1⟩ := ⟨by decide, by decide⟩
      have oI : Ok ⟨1, 0, 1⟩ := jr
      have gR : sg d 0 1 = 1 := by rw [HH]; decide
      have gI : sg d 1 0 = 1 := by rw [gM]; decide
      have s5 := mU hd.1 hd.2.1
      have SR : Shb d ⟨0, 1, 1⟩ := ⟨oR, gR, (b1 (by decide) (by decide) (by decide)).mono (by decide), (cJ s5 (aR hd oR gR) (b1 (by decide) (by decide) (by decide))).mono (by decide)⟩
      have SI : Shb d ⟨1, 0, 1⟩ := ⟨oI, gI, (b1 (by decide) (by decide) (by decide)).mono (by decide), (cJ s5 (aR hd oI gI) (b1 (by decide) (by decide) (by decide))).mono (by decide)⟩
      have B0 : Bd 810 ⟨0, 0, 1⟩ := (b1 (by decide) (by decide) (by decide)).mono (by decide)
      have BW : Bd 810 ⟨df d k0, 0, 1⟩ := (b1 (a := df d k0) (b := 0) (c := 1) (by rcases hpm with z | z <;> rw [z] <;> decide) (by decide) (by decide)).mono (by decide)
      have o4 : OkW 810 810 ⟨0, 0, 1⟩ ⟨0, 0, 1⟩ ⟨0, 0, 1⟩ ⟨df d k0, 0, 1⟩ := ⟨cM, cM, cM, dk _, B0, B0, B0, BW⟩
      rcases hpm with z | z
      . rw [if_neg (by rw [z]; decide), show atI [dN (⟨0, 1, 1⟩ : N3), dN ⟨1, 0, 1⟩] 0 = some (dN ⟨0, 1, 1⟩) from rfl]
        refine ⟨d, ks, ⟨0, 1, 1⟩, one, _, _, _, _, rfl, hd, ho', SR, .inl rfl, o4, ?_⟩
        have hb : rC d ks ⟨0, 1, 1⟩ one aB aB aB ⟨df d k0, 0, 1⟩ = true := EG hd ho oR gR hw (.inl z) (by rw [z]; show sg d 0 (-1) ≠ 1; rw [HH]; decide)
        show FG (.v (.bool (rC d ks ⟨0, 1, 1⟩ one aB aB aB ⟨df d k0, 0, 1⟩))) (.v (.bool true)) μ Qd
        rw [hb]
        exact q
      . rw [if_pos (by rw [z]; decide), show atI [dN (⟨0, 1, 1⟩ : N3), dN ⟨1, 0, 1⟩] 1 = some (dN ⟨1, 0, 1⟩) from rfl]
        refine ⟨d, ks, ⟨1, 0, 1⟩, one, _, _, _, _, rfl, hd, ho', SI, .inl rfl, o4, ?_⟩
        have hb : rC d ks ⟨1, 0, 1⟩ one aB aB aB ⟨df d k0, 0, 1⟩ = true := EG hd ho oI gI hw (.inr z) (by rw [z]; show sg d 1 (-0) ≠ -1; rw [Int.neg_zero, gM]; decide)
        show FG (.v (.bool (rC d ks ⟨1, 0, 1⟩ one aB aB aB ⟨df d k0, 0, 1⟩))) (.v (.bool true)) μ Qd
        rw [hb]
        exact q
theorem NX {d : Int} {ks : List N3} {n : Nat} {x : N3} (hd : aw d) (ho : KindsOk d ks) (h : js d ks n x) (l : 2 * n + 6 <= 1250) : Shb d x := ⟨h.ok, h.pos, (h.bd hd).mono l, ((h.ao hd ho).bd hd).mono l⟩
end
open PySem PySem.Spec PyProof.Rows NM
def GW : DTS :=
  (aV (Bw (sR (ae (dCB (Fh max) (ae (dC (.int 2)) (ae (dCB (Fh min) (ae (dC (.int 4)) (ae (dCB iV (ae (ag 0) ar)) ar))) ar))) ar)) (az 1) (aV (bE (ax HY (ae (ag 0) (ae (ag 1) ar))) (az 2))
  (aV (bE (ax w8 (ae (ag 2) ar)) (az 3))
  (aV (bE (ax tG (ae (ag 2) (ae (ag 3) ar))) (az 4))
  (aV (bE (ax (eB 3) (ae (ag 3) (ae (ag 4) (ae (ax (gz 3) (ae (ag 2) (ae (dCB iV (ae (ag 4) ar)) (ae (dC (.int 3)) ar)))) ar)))) (az 5))
  (aV (bE (ax dM (ae (dOp jW (dC (.int 1)) (ax bS (ae (ag 2) (ae (dC (.int 99)) ar)))) (ae (dC (.int 0)) (ae (dOp jW (dC (.int 1)) (ax bS (ae (ag 2) (ae (dC (.int 99)) ar)))) ar)))) (az 6))
  (aV (Bw (vj (jj (ae (ag 5) (ae (ax bK (ae (ag 3) (ae (ag 5) ar))) (ae (ax bM (ae (ag 3) (ae (ag 5) (ae (ag 6) ar)))) ar))))) (az 7) (aV (Bw (sR (ae (dC (.int 4)) ar)) (az 8) (aV (bE (ax wN (ae (ag 2) (ae (ag 3) (ae (ag 4) (ae (ag 7) ar))))) (az 9))
  (eS (dB (dOp wW (ax xq (ae (ag 3) (ae (ag 4) (ae (ag 7) (ae (ag 9) ar))))) (dC (.bool false)))) (bH (dC (.bool false))) cK)))
  (eS (iU (dB (ax tj (ae (ag 2) (ae (ag 3) (ae (ag 4) (ae (ag 7) (ae (ag 9) ar)))))))) (bH (dC (.bool false))) cK)))
  (eS (iU (dB (ax tT (ae (ag 3) (ae (ag 4) ar))))) (bH (dC (.bool false))) cK))))))))
  (bH (dC (.bool true))))
section
variable {μ : Mu} {Qd : DK} {ds : List D} {ρ : Rho}
theorem NK (h : zf ds μ Qd) : GW { nx := fun _ μ' => Qd (.v .none) μ', rt := Qd } (aS ["_law_script", "_law_k", "_law_bag_here", "_law_d", "_law_kinds_here", "_law_shape", "_law_part", "_law_laid", "_law_turn", "_law_bar"] ds) μ := by
  obtain ⟨ns, rfl, h63, q⟩ := h
  unfold GW
  rw [uW, AF]
  walk_at "rn"
  have hm : (-(2 ^ 62) <= max 2 (min 4 ((ns.length : Nat) : Int)) /\ max 2 (min 4 ((ns.length : Nat) : Int)) < 2 ^ 62) := by omega
  refine ⟨hm, fun i ρ μ' => ∃ r1 r2 r3 r4 r5 r6 r7 r8 r9, ρ = [some (.s ns), r1, r2, r3, r4, r5, r6, r7, r8, r9], ⟨_, _, _, _, _, _, _, _, _, rfl⟩, ?_, ?_⟩
  . rintro i x ρ μ0 hx ⟨r1, r2, r3, r4, r5, r6, r7, r8, r9, rfl⟩
    obtain ⟨rfl, hi⟩ := Lg hx
    walk_at "rn"
    refine ⟨ns, _, rfl, by omega, by omega, fun a μ1 ha s1 => ?_⟩
    walk_at "rn"
    refine ⟨a, rfl, s1.1, fun d μ2 hd s2 => ?_⟩
    walk_at "rn"
    refine ⟨a, d, rfl, hd, s2.1, fun ks μ3 ho s3 => ?_⟩
    have s5 := mU hd.1 hd.2.1
    have l1 := ho.l1
    have l3 := ho.l3
    walk_at "rn"
    refine ⟨a, ks.length, 3, by rw [List.length_map]; rfl, l1, l3, by decide, by decide, by decide, s3.1, fun p μ4 hg hdp s4 => ?_⟩
    have S := (gv hd ho p hg).mono (gu hdp)
    refine ⟨d, ks, p, rfl, hd, ho, hg, hdp, by decide, ?_⟩
    generalize p.shape d ks = σ at S
    refine ⟨a, 99, rfl, by decide, by decide, s4.1, fun t μ5 t0 t1 s5' => ?_⟩
    walk_at "rn"
    refine ⟨a, 99, rfl, by decide, by decide, s5'.1, fun u μ6 u0 u1 s6 => ?_⟩
    walk_at "rn"
    have un : 1 + u ≠ 0 := by omega
    have zz : ∀ {t : Int}, 0 ≤ t -> t < 99 -> Sz 10 (1 + t) := fun h1 h2 => Sz.of (by show _ < 1024; omega)
    refine ⟨_, _, _, rfl, un, (zz u0 u1).mono (by decide), ?_⟩
    have op := iP (1 + t) 0 un
    have bp : Bd 10 (low (1 + t) 0 (1 + u)) := qe un (zz t0 t1) sz0 (zz u0 u1)
    have S1 := S.ao hd ho
    have S2 := S.vB hd ho (u := 1 + u) (v := 1 + t) (by omega) (by omega) (by omega) (by omega)
    rw [lY op S.ok] at S2
    generalize low (1 + t) 0 (1 + u) = part at op bp S2
    walk_at "rn"
    rw [AF]
    walk_at "rn"
    have nσ := aR hd S.ok S.pos
    refine ⟨d, σ, rfl, s5, nσ, (S.bd hd).mono (by decide), ?_⟩
    walk_at "rn"
    refine ⟨d, σ, part, rfl, s5, S.ok, op, (S.bd hd).mono (by decide), bp.mono (by decide), ?_⟩
    walk_at "rn"
    refine ⟨fun j ρ μ' => ∃ r7 r8 r9, ρ = [some (.s ns), some (.v (.int (0 + (i : Int)))), some (.m a), some (.v (.int d)), some (.v (.tuple (ks.map dN))), some (.v (dN σ)), some (.v (dN part)), r7, r8, r9] /\ Bag μ' a, ⟨_, _, _, rfl, s6.1⟩, ?_, ?_⟩
    . rintro j y ρ μ7 hy ⟨r7, r8, r9, rfl, hb7⟩
      obtain ⟨z, rfl, Z⟩ : ∃ z, y = dN z /\ js d ks (rbD 3 + 10) z := by
        have hmem := List.mem_of_getElem? hy
        simp only [List.mem_cons, List.not_mem_nil, or_false] at hmem
        rcases hmem with rfl | rfl | rfl
        . exact ⟨_, rfl, S.mono (by omega)⟩
        . exact ⟨_, rfl, S1.mono (by omega)⟩
        . exact ⟨_, rfl, S2⟩
      have hZ := NX hd ho Z (by decide)
      walk_at "rn"
      rw [AF]
      walk_at "rn"
      refine ⟨⟨by decide, by decide⟩, fun j ρ μ' => ∃ r8 r9, ρ = [some (.s ns), some (.v (.int (0 + (i : Int)))), some (.m a), some (.v (.int d)), some (.v (.tuple (ks.map dN))), some (.v (dN σ)), some (.v (dN part)), some (.v (dN z)), r8, r9] /\ Bag μ' a /\ (1 ≤ j -> ∃ v, r9 = some (.v v)), ⟨_, _, rfl, hb7, fun h => absurd h (by decide)⟩, ?_, ?_⟩
      . rintro j' y' ρ' μ8 hy' ⟨r8, r9, rfl, hb8, _⟩
        obtain ⟨rfl, hj'⟩ := Lg hy'
        walk_at "rn"
        refine ⟨a, d, ks, z, rfl, hd, ho, hZ, hb8, fun w p q' s' t' μ9 hw o4 s9 => ?_⟩
        walk_at "rn"
        refine ⟨d, ks, z, w, p, q', s', t', rfl, hd, ho, hZ, hw, o4, ?_⟩
        rw [Pz hd ho.wide Z.ok Z.pos Z.ld o4.op o4.oq o4.os o4.ot (hw.ok hd hZ).1]
        unfold wW
        simp only [beq_self_eq_true, Bool.not_true, Bool.false_eq_true, ↓reduceIte]
        exact ⟨_, _, rfl, s9.1, fun _ => ⟨_, rfl⟩⟩
      . rintro ρ' μ8 ⟨r8, r9, rfl, hb8, h9⟩
        obtain ⟨v, rfl⟩ := h9 (by rw [yH]; decide)
        walk_at "rn"
        refine ⟨a, d, ks, z, v, rfl, hd, ho, hb8, fun μ9 s9 => ?_⟩
        simp only [Bool.not_true, Bool.false_eq_true, ↓reduceIte]
        exact ⟨_, _, _, rfl, s9.1⟩
    . rintro ρ μ7 ⟨r7, r8, r9, rfl, hb7⟩
      walk_at "rn"
      refine ⟨d, ks, rfl, hd, ho, ?_⟩
      simp only [Bool.not_true, Bool.false_eq_true, ↓reduceIte]
      exact ⟨_, _, _, _, _, _, _, _, _, rfl⟩
  . rintro ρ μ0 ⟨r1, r2, r3, r4, r5, r6, r7, r8, r9, rfl⟩
    exact q _
end
end L2.DL
set_option Elab.async false
set_option linter.all false
set_option maxRecDepth 100000
set_option maxHeartbeats 4000000
namespace K18
open PySem L2 L2.DL
structure Adr where
  nM : Addr
  sF : FuncData
  fL : Addr
  jF : FuncData
  lB : Addr
  pU : FuncData
  fM : Addr
  jq : FuncData
  tF : Addr
  xR : FuncData
  B8 : Addr
  Gw : FuncData
  Bn : Addr
  FV : FuncData
  xb : Addr
  BL : FuncData
  oE : Addr
  se : FuncData
  qE : Addr
  u7 : FuncData
  gB : Addr
  kj : FuncData
  nZ : Addr
  sj : FuncData
  fm : Addr
  i4 : FuncData
  cH : Addr
  dq : FuncData
  oO : Addr
  rZ : FuncData
  eR : Addr
  gD : FuncData
  kr : Addr
  oJ : FuncData
  qI : Addr
  vy : FuncData
  jP : Addr
  mr : FuncData
  mI : Addr
  pJ : FuncData
  oD : Addr
  sh : FuncData
  lF : Addr
  pS : FuncData
  jM : Addr
  lX : FuncData
  nI : Addr
  sY : FuncData
  lU : Addr
  qd : FuncData
  kx : Addr
  oB : FuncData
  lE : Addr
  pM : FuncData
  kD : Addr
  nS : FuncData
  gC : Addr
  j9 : FuncData
  lC : Addr
  qB : FuncData
  lD : Addr
  p5 : FuncData
  jK : Addr
  mi : FuncData
  kA : Addr
  nP : FuncData
  nO : Addr
  sZ : FuncData
  fG : Addr
  iz : FuncData
  kz : Addr
  nR : FuncData
  fU : Addr
  jk : FuncData
  fO : Addr
  jH : FuncData
  bW : Addr
  cE : FuncData
  lP : Addr
  qC : FuncData
  d5 : Addr
  fK : FuncData
  eG : Addr
  fF : FuncData
  iy : Addr
  k9 : FuncData
  gE : Addr
  kf : FuncData
  eL : Addr
  eQ : FuncData
  cQ : Addr
  d8 : FuncData
  HF : Addr
  KI : FuncData
  zR : Tok
  du : Addr
  hW : Addr
  aA : Addr
  eI : Addr
  ic : Addr
  jU : Addr
  aF : Addr
  hU : Addr
  g8 : Addr
  jX : Addr
  g7 : Addr
  eE : Addr
  g0 : Addr
  fA : Addr
  cI : Addr
  dJ : Addr
structure Txt (K : PySem.W.Frag) (mg : Str -> Option Value) (t : Adr) : Prop where
  Gf : Fun K "is_whole" "is_whole" jI t.nM t.sF
  rV : mg "is_whole" = some (.ref t.nM)
  sV : PySem.W.keepIn K (.ref t.nM) = true
  sN : Binds K t.sF ["thing"] []
  uY : Fun K "common_divisor" "common_divisor" dA t.fL t.jF
  mM : mg "common_divisor" = some (.ref t.fL)
  my : PySem.W.keepIn K (.ref t.fL) = true
  mX : Binds K t.jF ["a", "b"] []
  C3 : Fun K "is_number" "is_number" il t.lB t.pU
  wq : mg "is_number" = some (.ref t.lB)
  vV : PySem.W.keepIn K (.ref t.lB) = true
  wa : Binds K t.pU ["thing"] []
  u5 : Fun K "divisor_of_all" "divisor_of_all" dD t.fM t.jq
  mV : mg "divisor_of_all" = some (.ref t.fM)
  nj : PySem.W.keepIn K (.ref t.fM) = true
  mG : Binds K t.jq ["a", "b", "c"] []
  JI : Fun K "number" "number" mC t.tF t.xR
  yu : mg "number" = some (.ref t.tF)
  xF : PySem.W.keepIn K (.ref t.tF) = true
  x5 : Binds K t.xR ["a", "b", "c"] []
  OT : Fun K "mate" "mate" vI t.B8 t.Gw
  yA : mg "mate" = some (.ref t.B8)
  yi : PySem.W.keepIn K (.ref t.B8) = true
  yO : Binds K t.Gw ["x"] []
  OD : Fun K "plus" "plus" vw t.Bn t.FV
  B5 : mg "plus" = some (.ref t.Bn)
  Be : PySem.W.keepIn K (.ref t.Bn) = true
  BS : Binds K t.FV ["x", "y"] []
  L8 : Fun K "times" "times" qW t.xb t.BL
  fh : mg "times" = some (.ref t.xb)
  ff : PySem.W.keepIn K (.ref t.xb) = true
  fu : Binds K t.BL ["d", "x", "y"] []
  E5 : Fun K "contrary" "contrary" jE t.oE t.se
  FX : mg "contrary" = some (.ref t.oE)
  GO : PySem.W.keepIn K (.ref t.oE) = true
  Fd : Binds K t.se ["d", "x"] []
  Jl : Fun K "sign_of" "sign_of" kF t.qE t.u7
  qP : mg "sign_of" = some (.ref t.qE)
  qX : PySem.W.keepIn K (.ref t.qE) = true
  qS : Binds K t.u7 ["d", "x"] []
  wA : Fun K "sign_of_parts" "sign_of_parts" dY t.gB t.kj
  oZ : mg "sign_of_parts" = some (.ref t.gB)
  o6 : PySem.W.keepIn K (.ref t.gB) = true
  o5 : Binds K t.kj ["d", "a", "b"] []
  GU : Fun K "is_above" "is_above" jG t.nZ t.sj
  E3 : mg "is_above" = some (.ref t.nZ)
  Gv : PySem.W.keepIn K (.ref t.nZ) = true
  GS : Binds K t.sj ["d", "x", "y"] []
  uk : Fun K "is_above_nought" "is_above_nought" cW t.fm t.i4
  fk : mg "is_above_nought" = some (.ref t.fm)
  fg : PySem.W.keepIn K (.ref t.fm) = true
  fj : Binds K t.i4 ["d", "thing"] []
  iI : Fun K "must_be_above_nought" "must_be_above_nought" bV t.cH t.dq
  i7 : mg "must_be_above_nought" = some (.ref t.cH)
  iH : PySem.W.keepIn K (.ref t.cH) = true
  iN : Binds K t.dq ["d", "thing"] []
  Gj : Fun K "is_kinds" "is_kinds" jh t.oO t.rZ
  yF : mg "is_kinds" = some (.ref t.oO)
  zj : PySem.W.keepIn K (.ref t.oO) = true
  xW : Binds K t.rZ ["d", "thing"] []
  o7 : Fun K "must_be_kinds" "must_be_kinds" dW t.eR t.gD
  kg : mg "must_be_kinds" = some (.ref t.eR)
  ki : PySem.W.keepIn K (.ref t.eR) = true
  j8 : Binds K t.gD ["d", "thing"] []
  AY : Fun K "is_weights" "is_weights" fS t.kr t.oJ
  Cw : mg "is_weights" = some (.ref t.kr)
  A1 : PySem.W.keepIn K (.ref t.kr) = true
  AX : Binds K t.oJ ["thing"] []
  Jq : Fun K "weighed" "weighed" kG t.qI t.vy
  Iy : mg "weighed" = some (.ref t.qI)
  IK : PySem.W.keepIn K (.ref t.qI) = true
  IZ : Binds K t.vy ["d", "weights", "width", "height"] []
  zx : Fun K "never_below" "never_below" eT t.jP t.mr
  rM : mg "never_below" = some (.ref t.jP)
  rG : PySem.W.keepIn K (.ref t.jP) = true
  rH : Binds K t.mr ["d", "weights", "kind"] []
  yG : Fun K "is_bar" "is_bar" mP t.mI t.pJ
  mB : mg "is_bar" = some (.ref t.mI)
  nB : PySem.W.keepIn K (.ref t.mI) = true
  mK : Binds K t.pJ ["d", "kinds", "shape", "thing"] []
  GX : Fun K "_law_bag" "_law_bag" jC t.oD t.sh
  Fy : mg "_law_bag" = some (.ref t.oD)
  ES : PySem.W.keepIn K (.ref t.oD) = true
  EU : Binds K t.sh ["_law_script", "_law_at"] []
  DZ : Fun K "_law_take" "_law_take" hJ t.lF t.pS
  aN : mg "_law_take" = some (.ref t.lF)
  aM : PySem.W.keepIn K (.ref t.lF) = true
  aL : Binds K t.pS ["_law_bag_here", "_law_many"] []
  zp : Fun K "_law_shared" "_law_shared" eX t.jM t.lX
  rF : mg "_law_shared" = some (.ref t.jM)
  rz : PySem.W.keepIn K (.ref t.jM) = true
  rN : Binds K t.lX ["_law_one", "_law_other"] []
  FJ : Fun K "_law_low" "_law_low" ju t.nI t.sY
  gL : mg "_law_low" = some (.ref t.nI)
  gQ : PySem.W.keepIn K (.ref t.nI) = true
  gK : Binds K t.sY ["_law_a", "_law_b", "_law_c"] []
  DX : Fun K "_law_plus" "_law_plus" ib t.lU t.qd
  qk : mg "_law_plus" = some (.ref t.lU)
  p7 : PySem.W.keepIn K (.ref t.lU) = true
  pj : Binds K t.qd ["_law_x", "_law_y"] []
  A0 : Fun K "_law_minus" "_law_minus" fP t.kx t.oB
  ua : mg "_law_minus" = some (.ref t.kx)
  tY : PySem.W.keepIn K (.ref t.kx) = true
  uB : Binds K t.oB ["_law_x"] []
  D9 : Fun K "_law_mate" "_law_mate" ia t.lE t.pM
  lO : mg "_law_mate" = some (.ref t.lE)
  lT : PySem.W.keepIn K (.ref t.lE) = true
  lQ : Binds K t.pM ["_law_x"] []
  Bv : Fun K "_law_times" "_law_times" fV t.kD t.nS
  dg : mg "_law_times" = some (.ref t.kD)
  dh : PySem.W.keepIn K (.ref t.kD) = true
  dj : Binds K t.nS ["_law_d", "_law_x", "_law_y"] []
  wK : Fun K "_law_contrary" "_law_contrary" dZ t.gC t.j9
  bQ : mg "_law_contrary" = some (.ref t.gC)
  bN : PySem.W.keepIn K (.ref t.gC) = true
  bO : Binds K t.j9 ["_law_d", "_law_x"] []
  Dq : Fun K "_law_sign" "_law_sign" g9 t.lC t.qB
  vU : mg "_law_sign" = some (.ref t.lC)
  v7 : PySem.W.keepIn K (.ref t.lC) = true
  wk : Binds K t.qB ["_law_d", "_law_x"] []
  DR : Fun K "_law_root" "_law_root" ig t.lD t.p5
  Ee : mg "_law_root" = some (.ref t.lD)
  D0 : PySem.W.keepIn K (.ref t.lD) = true
  Ei : Binds K t.p5 ["_law_bag_here"] []
  zU : Fun K "_law_number" "_law_number" eW t.jK t.mi
  zw : mg "_law_number" = some (.ref t.jK)
  zG : PySem.W.keepIn K (.ref t.jK) = true
  zL : Binds K t.mi ["_law_bag_here"] []
  Cg : Fun K "_law_above" "_law_above" fN t.kA t.nP
  ky : mg "_law_above" = some (.ref t.kA)
  kv : PySem.W.keepIn K (.ref t.kA) = true
  kE : Binds K t.nP ["_law_bag_here", "_law_d"] []
  FP : Fun K "_law_odd" "_law_odd" jf t.nO t.sZ
  Gq : mg "_law_odd" = some (.ref t.nO)
  GP : PySem.W.keepIn K (.ref t.nO) = true
  EW : Binds K t.sZ ["_law_bag_here"] []
  pq : Fun K "_law_refusal" "_law_refusal" eC t.fG t.iz
  ze : mg "_law_refusal" = some (.ref t.fG)
  x6 : PySem.W.keepIn K (.ref t.fG) = true
  xt : Binds K t.iz ["_law_deed"] []
  Cm : Fun K "_law_kinds" "_law_kinds" fT t.kz t.nR
  Bc : mg "_law_kinds" = some (.ref t.kz)
  AO : PySem.W.keepIn K (.ref t.kz) = true
  Ck : Binds K t.nR ["_law_bag_here", "_law_d"] []
  va : Fun K "_law_bad_above" "_law_bad_above" dE t.fU t.jk
  nc : mg "_law_bad_above" = some (.ref t.fU)
  mW : PySem.W.keepIn K (.ref t.fU) = true
  mE : Binds K t.jk ["_law_bag_here", "_law_d"] []
  vL : Fun K "_law_bad_kinds" "_law_bad_kinds" dH t.fO t.jH
  vo : mg "_law_bad_kinds" = some (.ref t.fO)
  vm : PySem.W.keepIn K (.ref t.fO) = true
  uZ : Binds K t.jH ["_law_bag_here", "_law_d", "_law_kinds_here"] []
  tV : Fun K "_law_plan_shape" "_law_plan_shape" cZ t.bW t.cE
  fv : mg "_law_plan_shape" = some (.ref t.bW)
  fi : PySem.W.keepIn K (.ref t.bW) = true
  fq : Binds K t.cE ["_law_d", "_law_kinds_here", "_law_plan_here"] []
  D5 : Fun K "_law_lean" "_law_lean" iq t.lP t.qC
  CL : mg "_law_lean" = some (.ref t.lP)
  Ez : PySem.W.keepIn K (.ref t.lP) = true
  EJ : Binds K t.qC ["_law_d", "_law_shape"] []
  qf : Fun K "_law_lean_fraction" "_law_lean_fraction" cq t.d5 t.fK
  pQ : mg "_law_lean_fraction" = some (.ref t.d5)
  pK : PySem.W.keepIn K (.ref t.d5) = true
  pP : Binds K t.fK ["_law_d", "_law_shape"] []
  D1 : Fun K "_law_plan" "_law_plan" gY t.eG t.fF
  lA : mg "_law_plan" = some (.ref t.eG)
  lJ : PySem.W.keepIn K (.ref t.eG) = true
  lR : Binds K t.fF ["_law_bag_here", "_law_many", "_law_deep"] []
  xm : Fun K "_law_weights" "_law_weights" ey t.iy t.k9
  xJ : mg "_law_weights" = some (.ref t.iy)
  yR : PySem.W.keepIn K (.ref t.iy) = true
  xu : Binds K t.k9 ["_law_bag_here", "_law_d", "_law_kinds_here", "_law_shape"] []
  wG : Fun K "_law_bar_like" "_law_bar_like" dU t.gE t.kf
  wB : mg "_law_bar_like" = some (.ref t.gE)
  wL : PySem.W.keepIn K (.ref t.gE) = true
  wC : Binds K t.kf ["_law_bag_here", "_law_d", "_law_kinds_here", "_law_shape"] []
  rQ : Fun K "_law_are_refused" "_law_are_refused" cN t.eL t.eQ
  sD : mg "_law_are_refused" = some (.ref t.eL)
  sX : PySem.W.keepIn K (.ref t.eL) = true
  sI : Binds K t.eQ ["_law_bag_here", "_law_d", "_law_kinds_here", "_law_shape", "_law_bar"] []
  mh : Fun K "_law_is_barred_by_sign" "_law_is_barred_by_sign" bI t.cQ t.d8
  ml : mg "_law_is_barred_by_sign" = some (.ref t.cQ)
  me : PySem.W.keepIn K (.ref t.cQ) = true
  mf : Binds K t.d8 ["_law_d", "_law_kinds_here"] []
  P8 : Fun K "law" "law" rA t.HF t.KI
  Si : mg "law" = some (.ref t.HF)
  Sh : PySem.W.keepIn K (.ref t.HF) = true
  Sg : Binds K t.KI ["_law_script"] []
  aH : mg "isinstance" = none
  xS : mg "int" = none
  Ob : mg "bool" = none
  C6 : mg "abs" = none
  nX : mg "tuple" = none
  nh : mg "len" = none
  Ls : mg "all" = none
  qN : mg "range" = none
  uI : mg "ValueError" = none
  Ks : mg "list" = none
  QV : mg "set" = none
  Q5 : mg "max" = none
  QR : mg "min" = none
  Ci : mg "MOST_KINDS" = some (.int 3 t.zR)
  uD : mg "FloorError" = some (.ref t.du)
  Ej : mg "NoRoot" = some (.ref t.hW)
  sf : mg "NoNumber" = some (.ref t.aA)
  xQ : mg "NoLaying" = some (.ref t.eI)
  CM : mg "NoTile" = some (.ref t.ic)
  Ij : mg "NoFit" = some (.ref t.jU)
  u6 : mg "NoKinds" = some (.ref t.aF)
  EK : mg "NoPlan" = some (.ref t.hU)
  D3 : mg "NoSpot" = some (.ref t.g8)
  Hl : mg "NoNet" = some (.ref t.jX)
  EH : mg "NoText" = some (.ref t.g7)
  yg : mg "NoSaying" = some (.ref t.eE)
  EE : mg "NoName" = some (.ref t.g0)
  Av : mg "TooMany" = some (.ref t.fA)
  sS : PySem.W.excIn K (t.aA) bmV "ValueError.__new__" = true
  rR : PySem.W.exmOne K (.ref t.aA) (.ref t.du) = some true
  iS : PySem.W.kitOne K (.ref t.aA) (.ref t.hW) = some false
  gj : PySem.W.kitOne K (.ref t.aA) (.ref t.aA) = some true
  gh : PySem.W.kitOne K (.ref t.aA) (.ref t.eI) = some false
  iG : PySem.W.kitOne K (.ref t.aA) (.ref t.ic) = some false
  jm : PySem.W.kitOne K (.ref t.aA) (.ref t.jU) = some false
  gF : PySem.W.kitOne K (.ref t.aA) (.ref t.aF) = some false
  iR : PySem.W.kitOne K (.ref t.aA) (.ref t.hU) = some false
  iQ : PySem.W.kitOne K (.ref t.aA) (.ref t.g8) = some false
  ji : PySem.W.kitOne K (.ref t.aA) (.ref t.jX) = some false
  iF : PySem.W.kitOne K (.ref t.aA) (.ref t.g7) = some false
  gg : PySem.W.kitOne K (.ref t.aA) (.ref t.eE) = some false
  i5 : PySem.W.kitOne K (.ref t.aA) (.ref t.g0) = some false
  gW : PySem.W.kitOne K (.ref t.aA) (.ref t.fA) = some false
  oQ : PySem.W.kitOne K (.ref t.aA) (.type "ValueError") = some true
  u4 : PySem.W.excIn K (t.aF) bmV "ValueError.__new__" = true
  vh : PySem.W.exmOne K (.ref t.aF) (.ref t.du) = some true
  jn : PySem.W.kitOne K (.ref t.aF) (.ref t.hW) = some false
  gO : PySem.W.kitOne K (.ref t.aF) (.ref t.aA) = some false
  gH : PySem.W.kitOne K (.ref t.aF) (.ref t.eI) = some false
  jd : PySem.W.kitOne K (.ref t.aF) (.ref t.ic) = some false
  km : PySem.W.kitOne K (.ref t.aF) (.ref t.jU) = some false
  iZ : PySem.W.kitOne K (.ref t.aF) (.ref t.aF) = some true
  jA : PySem.W.kitOne K (.ref t.aF) (.ref t.hU) = some false
  jb : PySem.W.kitOne K (.ref t.aF) (.ref t.g8) = some false
  kc : PySem.W.kitOne K (.ref t.aF) (.ref t.jX) = some false
  jw : PySem.W.kitOne K (.ref t.aF) (.ref t.g7) = some false
  gS : PySem.W.kitOne K (.ref t.aF) (.ref t.eE) = some false
  jg : PySem.W.kitOne K (.ref t.aF) (.ref t.g0) = some false
  iD : PySem.W.kitOne K (.ref t.aF) (.ref t.fA) = some false
  pO : PySem.W.kitOne K (.ref t.aF) (.type "ValueError") = some true
  cB : wJ K t.aA
  cU : wJ K t.aF
  eN : Qy K mg t.cI t.dJ "_law_are_refused"
  en : t.eQ.code = .ref t.cI
structure EQ where
  P : Program
  w : World
  K : PySem.W.Frag
  mg : Str -> Option Value
  base : Heap
  t : Adr
abbrev TX (e : EQ) : Prop := Txt e.K e.mg e.t
abbrev vS (e : EQ) : Prop := bL e.P e.w e.K e.mg e.base CX0 1 e.t.nM e.t.sF ["thing"] (spD e.K qF)
abbrev lM (e : EQ) : Prop := bL e.P e.w e.K e.mg e.base CX0 1 e.t.fL e.t.jF ["a", "b"] (spD e.K uM)
abbrev n5 (e : EQ) : Prop := bL e.P e.w e.K e.mg e.base CX0 3 e.t.lB e.t.pU ["thing"] (spD e.K xO)
abbrev iB (e : EQ) : Prop := bL e.P e.w e.K e.mg e.base CX0 2 e.t.fM e.t.jq ["a", "b", "c"] (spD e.K yj)
abbrev qY (e : EQ) : Prop := bL e.P e.w e.K e.mg e.base CX0 3 e.t.tF e.t.xR ["a", "b", "c"] (spD e.K dM)
abbrev CC (e : EQ) : Prop := bL e.P e.w e.K e.mg e.base CX0 1 e.t.B8 e.t.Gw ["x"] (spD e.K iE)
abbrev BP (e : EQ) : Prop := bL e.P e.w e.K e.mg e.base CX0 4 e.t.Bn e.t.FV ["x", "y"] (spD e.K jJ)
abbrev uT (e : EQ) : Prop := bL e.P e.w e.K e.mg e.base CX0 4 e.t.xb e.t.BL ["d", "x", "y"] (spD e.K bM)
abbrev wg (e : EQ) : Prop := bL e.P e.w e.K e.mg e.base CX0 4 e.t.oE e.t.se ["d", "x"] (spD e.K bK)
abbrev nL (e : EQ) : Prop := bL e.P e.w e.K e.mg e.base CX0 2 e.t.qE e.t.u7 ["d", "x"] (spD e.K kN)
abbrev jl (e : EQ) : Prop := bL e.P e.w e.K e.mg e.base CX0 1 e.t.gB e.t.kj ["d", "a", "b"] (spD e.K uA)
abbrev wd (e : EQ) : Prop := bL e.P e.w e.K e.mg e.base CX0 2 e.t.nZ e.t.sj ["d", "x", "y"] (spD e.K wR)
abbrev dI (e : EQ) : Prop := bL e.P e.w e.K e.mg e.base CX0 4 e.t.fm e.t.i4 ["d", "thing"] (spD e.K kS)
abbrev ip (e : EQ) : Prop := bL e.P e.w e.K e.mg e.base CX0 5 e.t.cH e.t.dq ["d", "thing"] (spD e.K lV)
abbrev qy (e : EQ) : Prop := bL e.P e.w e.K e.mg e.base CX0 5 e.t.oO e.t.rZ ["d", "thing"] (spD e.K pV)
abbrev je (e : EQ) : Prop := bL e.P e.w e.K e.mg e.base CX0 6 e.t.eR e.t.gD ["d", "thing"] (spD e.K jV)
abbrev rK (e : EQ) : Prop := bL e.P e.w e.K e.mg e.base CX0 4 e.t.kr e.t.oJ ["thing"] (spD e.K nU)
abbrev yP (e : EQ) : Prop := bL e.P e.w e.K e.mg e.base CX0 5 e.t.qI e.t.vy ["d", "weights", "width", "height"] (spD e.K qH)
abbrev pG (e : EQ) : Prop := bL e.P e.w e.K e.mg e.base CX0 5 e.t.jP e.t.mr ["d", "weights", "kind"] (spD e.K ur)
abbrev vz (e : EQ) : Prop := bL e.P e.w e.K e.mg e.base CX0 7 e.t.mI e.t.pJ ["d", "kinds", "shape", "thing"] (spD e.K xq)
abbrev wj (e : EQ) : Prop := bL e.P e.w e.K e.mg e.base CX0 1 e.t.oD e.t.sh ["_law_script", "_law_at"] (spD e.K HY)
abbrev bT (e : EQ) : Prop := bL e.P e.w e.K e.mg e.base CX0 1 e.t.lF e.t.pS ["_law_bag_here", "_law_many"] (spD e.K bS)
abbrev pX (e : EQ) : Prop := bL e.P e.w e.K e.mg e.base CX0 1 e.t.jM e.t.lX ["_law_one", "_law_other"] (spD e.K uM)
abbrev d4 (e : EQ) : Prop := bL e.P e.w e.K e.mg e.base CX0 2 e.t.nI e.t.sY ["_law_a", "_law_b", "_law_c"] (spD e.K dM)
abbrev iJ (e : EQ) : Prop := bL e.P e.w e.K e.mg e.base CX0 3 e.t.lU e.t.qd ["_law_x", "_law_y"] (spD e.K jJ)
abbrev mj (e : EQ) : Prop := bL e.P e.w e.K e.mg e.base CX0 1 e.t.kx e.t.oB ["_law_x"] (spD e.K uJ)
abbrev kC (e : EQ) : Prop := bL e.P e.w e.K e.mg e.base CX0 1 e.t.lE e.t.pM ["_law_x"] (spD e.K iE)
abbrev dy (e : EQ) : Prop := bL e.P e.w e.K e.mg e.base CX0 3 e.t.kD e.t.nS ["_law_d", "_law_x", "_law_y"] (spD e.K bM)
abbrev bU (e : EQ) : Prop := bL e.P e.w e.K e.mg e.base CX0 3 e.t.gC e.t.j9 ["_law_d", "_law_x"] (spD e.K bK)
abbrev nJ (e : EQ) : Prop := bL e.P e.w e.K e.mg e.base CX0 1 e.t.lC e.t.qB ["_law_d", "_law_x"] (spD e.K kN)
abbrev uj (e : EQ) : Prop := bL e.P e.w e.K e.mg e.base CX0 2 e.t.lD e.t.p5 ["_law_bag_here"] (spD e.K w8)
abbrev pF (e : EQ) : Prop := bL e.P e.w e.K e.mg e.base CX0 3 e.t.jK e.t.mi ["_law_bag_here"] (spD e.K qG)
abbrev jR (e : EQ) : Prop := bL e.P e.w e.K e.mg e.base CX0 4 e.t.kA e.t.nP ["_law_bag_here", "_law_d"] (spD e.K kZ)
abbrev vX (e : EQ) : Prop := bL e.P e.w e.K e.mg e.base CX0 2 e.t.nO e.t.sZ ["_law_bag_here"] (spD e.K G6)
abbrev rB (e : EQ) : Prop := bL e.P e.w e.K e.mg e.base CX0 5 e.t.kz e.t.nR ["_law_bag_here", "_law_d"] (spD e.K tG)
abbrev iX (e : EQ) : Prop := bL e.P e.w e.K e.mg e.base CX0 5 e.t.fU e.t.jk ["_law_bag_here", "_law_d"] (spD e.K lh)
abbrev lG (e : EQ) : Prop := bL e.P e.w e.K e.mg e.base CX0 6 e.t.fO e.t.jH ["_law_bag_here", "_law_d", "_law_kinds_here"] (spD e.K oj)
abbrev sU (e : EQ) : Prop := bL e.P e.w e.K e.mg e.base CX0 7 e.t.bW e.t.cE ["_law_d", "_law_kinds_here", "_law_plan_here"] (spD e.K (eB 3))
abbrev uV (e : EQ) : Prop := bL e.P e.w e.K e.mg e.base CX0 4 e.t.lP e.t.qC ["_law_d", "_law_shape"] (spD e.K wZ)
abbrev i8 (e : EQ) : Prop := bL e.P e.w e.K e.mg e.base CX0 4 e.t.d5 e.t.fK ["_law_d", "_law_shape"] (spD e.K tw)
abbrev A8 (e : EQ) : Prop := bL e.P e.w e.K e.mg e.base CX0 5 e.t.eG e.t.fF ["_law_bag_here", "_law_many", "_law_deep"] (spD e.K (gz 3))
abbrev oV (e : EQ) : Prop := bL e.P e.w e.K e.mg e.base CX0 5 e.t.iy e.t.k9 ["_law_bag_here", "_law_d", "_law_kinds_here", "_law_shape"] (spD e.K L5)
abbrev nq (e : EQ) : Prop := bL e.P e.w e.K e.mg e.base CX0 6 e.t.gE e.t.kf ["_law_bag_here", "_law_d", "_law_kinds_here", "_law_shape"] (spD e.K wN)
abbrev ko (e : EQ) : Prop := bL e.P e.w e.K e.mg e.base CX0 10 e.t.eL e.t.eQ ["_law_bag_here", "_law_d", "_law_kinds_here", "_law_shape", "_law_bar"] (spD e.K tj)
abbrev fX (e : EQ) : Prop := bL e.P e.w e.K e.mg e.base CX0 8 e.t.cQ e.t.d8 ["_law_d", "_law_kinds_here"] (spD e.K tT)
abbrev Kk (e : EQ) : Prop := bL e.P e.w e.K e.mg e.base CX0 11 e.t.HF e.t.KI ["_law_script"] (spD e.K zf)
abbrev dO (e : EQ) : Prop := bL e.P e.w e.K e.mg e.base (CX1 e.P e.w) 5 e.t.cH e.t.dq ["d", "thing"] (spX e.K (.ref e.t.aA) qD)
abbrev fY (e : EQ) : Prop := bL e.P e.w e.K e.mg e.base (CX1 e.P e.w) 6 e.t.eR e.t.gD ["d", "thing"] (spX e.K (.ref e.t.aF) uP)
abbrev kJ (e : EQ) : Prop := bL e.P e.w e.K e.mg e.base (CX1 e.P e.w) 7 e.t.mI e.t.pJ ["d", "kinds", "shape", "thing"] (spX e.K (.ref e.t.aF) nW)
abbrev kq (e : EQ) : Prop := bL e.P e.w e.K e.mg e.base (CX1 e.P e.w) 7 e.t.mI e.t.pJ ["d", "kinds", "shape", "thing"] (spX e.K (.ref e.t.aA) oK)
abbrev ue (e : EQ) : Prop := Dc e.P e.w e.K e.mg e.base 8 e.t.fG e.t.iz "_law_deed" (.ref e.t.aA) "NoNumber"
abbrev we (e : EQ) : Prop := Dc e.P e.w e.K e.mg e.base 8 e.t.fG e.t.iz "_law_deed" (.ref e.t.aF) "NoKinds"
section
variable {e : EQ}
theorem Dj : aP ["thing"] ["thing"] (aD jI) := ⟨rfl, rfl, rfl, by decide +kernel, rfl, by decide +kernel, by decide +kernel⟩
theorem En (T : TX e)  : vS e := by
  have S := Dj
  exact T.Gf.okD S (fun ds μ Q h => DJ h) (fun cdv A outer s H E hr => ⟨pT, (ay (aK (FT (vC (My _) rfl T.aH rfl T.xS PyProof.Rows.Boot.«int» (dv 0)) (Fn (Jy (vC (Li _) rfl T.aH rfl T.Ob PyProof.Rows.Boot.«bool» (dv 0))))))), fun ds μ Qd h => EB h⟩)
theorem uf : aP ["a", "b"] ["a", "b"] (aD dA) := ⟨rfl, rfl, rfl, by decide +kernel, rfl, by decide +kernel, by decide +kernel⟩
theorem tM (T : TX e)  : lM e := by
  have S := uf
  exact T.uY.okD S (fun ds μ Q h => Aa h) (fun cdv A outer s H E hr => ⟨iM, (aq (Ek PassesOwn.never (bu (zk hr.units) dP (dv 1) af (aW _)) (ay (xH (i := 0) (j := 1) rfl S.nd rfl rfl (by decide) rfl rfl (aa (dv 1) (aa (kY (dv 0) (dv 1)) ah)) rfl)))
    (ay (aK (xZ rfl T.C6 (aa (dv 0) ah))))), fun ds μ Qd h => tD h⟩)
theorem Md : aP ["x"] ["x"] (aD vI) := ⟨rfl, rfl, rfl, by decide +kernel, rfl, by decide +kernel, by decide +kernel⟩
theorem aX (T : TX e)  : CC e := by
  have S := Md
  exact T.OT.okD S (fun ds μ Q h => yr h) (fun cdv A outer s H E hr => ⟨BZ, (ay (aK (aI (aa (aE (dv 0) af (fun _ _ => rfl)) (aa (ke (aE (dv 0) af (fun _ _ => rfl))) (aa (aE (dv 0) af (fun _ _ => rfl)) ah)))))), fun ds μ Qd h => MF h⟩)
theorem vG : aP ["d", "a", "b", "prevailing"] ["d", "a", "b"] (aD dY) := ⟨rfl, rfl, rfl, by decide +kernel, rfl, by decide +kernel, by decide +kernel⟩
theorem vk (T : TX e)  : jl e := by
  have S := vG
  exact T.wA.okD S (fun ds μ Q h => Dk h) (fun cdv A outer s H E hr => ⟨jv, (aq (cO (DW.dt (xl (bu (fD hr.units) dP (dv 1) af (aW _)) (uF (bu (fD hr.units) dP (dv 2) af (aW _))))) (ay (aK af)) bB)
    (aq (cO (DW.dt (xl (bu CT gk (dv 1) af (aW _)) (uF (bu CT gk (dv 2) af (aW _))))) (ay (aK af)) bB)
    (aq (cO (DW.dt (xl (bu Nm gk (dv 1) af (aW _)) (uF (bu Nm gk (dv 2) af (aW _))))) (ay (aK (ke af))) bB)
    (aq (aU (i := 3) S.nd rfl (Or.inl rfl) (xV (bu oU gk (bb (dv 1) (dv 1)) (bb (bb (dv 0) (dv 2)) (dv 2)) (aW _)) (dv 1) (dv 2)))
    (ay (aK (xV (bu oU gk (dv 3) af (aW _)) af (ke af)))))))), fun ds μ Qd h => vx h⟩)
theorem Du : aP ["_law_script", "_law_at", "_law_cell", "_law_great", "_law_primes", "_law_mixed"] ["_law_script", "_law_at"] (aD jC) := ⟨rfl, rfl, rfl, by decide +kernel, rfl, by decide +kernel, by decide +kernel⟩
theorem CS (T : TX e)  : wj e := by
  have S := Du
  exact T.GX.okD S (fun ds μ Q h => IW h) (fun cdv A outer s H E hr => ⟨pL, (aq (aU (i := 2) S.nd rfl (Or.inl rfl) af)
    (aq (cO (bu lS gk (dv 1) (kh rfl T.nh (aa (dv 0) ah)) (aW _)) (ay (aU (i := 2) S.nd rfl (Or.inl rfl) (aE (dv 0) (dv 1) (fun _ _ => rfl)))) bB)
    (aq (aU (i := 3) S.nd rfl (Or.inl rfl) af)
    (aq (cO (bu CT gk (xZ rfl T.C6 (aa (dv 2) ah)) (Gh af af) (aW _)) (ay (aU (i := 3) S.nd rfl (Or.inl rfl) (xZ rfl T.C6 (aa (dv 2) ah)))) bB)
    (aq (aU (i := 4) S.nd rfl (Or.inl rfl) (da (aa af (aa af (aa af (aa af (aa af (aa af (aa af (aa af ah))))))))))
    (aq (aU (i := 5) S.nd rfl (Or.inl rfl) (eP (eP (eP (bb (kY (dv 2) af) af) (bb (bb af (dv 1)) (dv 1))) (bb af (dv 1))) af))
    (ay (aK (Hu (aa (dv 3) (aa (kY (dv 5) (aE (dv 4) (kY (dv 1) af) (fun _ _ => rfl))) ah))))))))))), fun ds μ Qd h => Di h⟩)
theorem Bg : aP ["_law_bag_here", "_law_many", "_law_digit"] ["_law_bag_here", "_law_many"] (aD hJ) := ⟨rfl, rfl, rfl, by decide +kernel, rfl, by decide +kernel, by decide +kernel⟩
theorem CD (T : TX e)  : bT e := by
  have S := Bg
  exact T.DZ.okD S (fun ds μ Q h => Fj h) (fun cdv A outer s H E hr => ⟨n6, (aq (cO (bu oU gk (aE (dv 0) af (fun _ _ => rfl)) af (aW _)) (aq (aU (i := 2) S.nd rfl (Or.inl rfl) (kY (aE (dv 0) af (fun _ _ => rfl)) (dv 1)))
    (aq (qj (mm (aE (dv 0) af (fun _ _ => rfl)) (dv 1)) (Km (dv 0) af))
    (ay (aK (dv 2))))) bB)
    (aq (qj (kY (eP (bb (aE (dv 0) af (fun _ _ => rfl)) af) af) af) (Km (dv 0) af))
    (ay (aK (kY (mm (kY (Gh (aE (dv 0) af (fun _ _ => rfl)) af) af) af) (dv 1)))))), fun ds μ Qd h => BX h⟩)
theorem xk : aP ["_law_one", "_law_other"] ["_law_one", "_law_other"] (aD eX) := ⟨rfl, rfl, rfl, by decide +kernel, rfl, by decide +kernel, by decide +kernel⟩
theorem yp (T : TX e)  : pX e := by
  have S := xk
  exact T.zp.okD S (fun ds μ Q h => Aa h) (fun cdv A outer s H E hr => ⟨lp, (aq (xH (i := 0) (j := 1) rfl S.nd rfl rfl (by decide) rfl rfl (aa (xZ rfl T.C6 (aa (dv 0) ah)) (aa (xZ rfl T.C6 (aa (dv 1) ah)) ah)) rfl)
    (aq (Ek PassesOwn.never (bu oU gk (dv 1) af (aW _)) (ay (xH (i := 0) (j := 1) rfl S.nd rfl rfl (by decide) rfl rfl (aa (dv 1) (aa (kY (dv 0) (dv 1)) ah)) rfl)))
    (ay (aK (dv 0))))), fun ds μ Qd h => yZ h⟩)
theorem zF : aP ["_law_x"] ["_law_x"] (aD fP) := ⟨rfl, rfl, rfl, by decide +kernel, rfl, by decide +kernel, by decide +kernel⟩
theorem zT (T : TX e)  : mj e := by
  have S := zF
  exact T.A0.okD S (fun ds μ Q h => CQ h) (fun cdv A outer s H E hr => ⟨lW, (ay (aK (aI (aa (ez af (aE (dv 0) af (fun _ _ => rfl))) (aa (ez af (aE (dv 0) af (fun _ _ => rfl))) (aa (aE (dv 0) af (fun _ _ => rfl)) ah)))))), fun ds μ Qd h => zD h⟩)
theorem Bh : aP ["_law_x"] ["_law_x"] (aD ia) := ⟨rfl, rfl, rfl, by decide +kernel, rfl, by decide +kernel, by decide +kernel⟩
theorem AJ (T : TX e)  : kC e := by
  have S := Bh
  exact T.D9.okD S (fun ds μ Q h => yr h) (fun cdv A outer s H E hr => ⟨oH, (ay (aK (aI (aa (aE (dv 0) af (fun _ _ => rfl)) (aa (ez af (aE (dv 0) af (fun _ _ => rfl))) (aa (aE (dv 0) af (fun _ _ => rfl)) ah)))))), fun ds μ Qd h => A5 h⟩)
theorem AQ : aP ["_law_d", "_law_x", "_law_first", "_law_second", "_law_sides"] ["_law_d", "_law_x"] (aD g9) := ⟨rfl, rfl, rfl, by decide +kernel, rfl, by decide +kernel, by decide +kernel⟩
theorem Bq (T : TX e)  : nJ e := by
  have S := AQ
  exact T.Dq.okD S (fun ds μ Q h => yk h) (fun cdv A outer s H E hr => ⟨oA, (aq (xH (i := 2) (j := 3) rfl S.nd rfl rfl (by decide) rfl rfl (aa (bb (aE (dv 1) af (fun _ _ => rfl)) (aE (dv 1) af (fun _ _ => rfl))) (aa (bb (bb (dv 0) (aE (dv 1) af (fun _ _ => rfl))) (aE (dv 1) af (fun _ _ => rfl))) ah)) rfl)
    (aq (aU (i := 4) S.nd rfl (Or.inl rfl) (da (aa (ez (mz rfl T.xS (aa (jt oU gk (aE (dv 1) af (fun _ _ => rfl)) af (aW _)) ah)) (mz rfl T.xS (aa (jt lS gk (aE (dv 1) af (fun _ _ => rfl)) af (aW _)) ah))) (aa (ez (mz rfl T.xS (aa (jt oU gk (aE (dv 1) af (fun _ _ => rfl)) af (aW _)) ah)) (mz rfl T.xS (aa (jt lS gk (aE (dv 1) af (fun _ _ => rfl)) af (aW _)) ah))) ah))))
    (aq (cO (bu CT gk (bb (aE (dv 4) af (fun _ _ => rfl)) (aE (dv 4) af (fun _ _ => rfl))) af (aW _)) (ay (aK (xV (bu (zk hr.units) dP (aE (dv 4) af (fun _ _ => rfl)) af (aW _)) (aE (dv 4) af (fun _ _ => rfl)) (aE (dv 4) af (fun _ _ => rfl))))) bB)
    (ay (aK (xV (bu oU gk (dv 2) (dv 3) (aW _)) (aE (dv 4) af (fun _ _ => rfl)) (aE (dv 4) af (fun _ _ => rfl)))))))), fun ds μ Qd h => B3 h⟩)
theorem uc : aP ["a", "b", "c"] ["a", "b", "c"] (aD dD) := ⟨rfl, rfl, rfl, by decide +kernel, rfl, by decide +kernel, by decide +kernel⟩
theorem tW (T : TX e) (fQ : lM e) : iB e := by
  have S := uc
  exact T.u5.okD S (fun ds μ Q h => Gd h) (fun cdv A outer s H E hr => ⟨iA, (ay (aK (aj fQ (hr.mono (by decide)) rfl T.mM T.my T.mX (aa (aj fQ (hr.mono (by decide)) rfl T.mM T.my T.mX (aa (dv 2) (aa (dv 0) ah))) (aa (dv 1) ah))))), fun ds μ Qd h => uq h⟩)
theorem GK : aP ["d", "x"] ["d", "x"] (aD kF) := ⟨rfl, rfl, rfl, by decide +kernel, rfl, by decide +kernel, by decide +kernel⟩
theorem Fx (T : TX e) (dS : jl e) : nL e := by
  have S := GK
  exact T.Jl.okD S (fun ds μ Q h => yk h) (fun cdv A outer s H E hr => ⟨sA, (ay (aK (aj dS (hr.mono (by decide)) rfl T.oZ T.o6 T.o5 (aa (dv 0) (aa (aE (dv 1) af (fun _ _ => rfl)) (aa (aE (dv 1) af (fun _ _ => rfl)) ah)))))), fun ds μ Qd h => E6 h⟩)
theorem Df : aP ["d", "x", "y", "a", "b"] ["d", "x", "y"] (aD jG) := ⟨rfl, rfl, rfl, by decide +kernel, rfl, by decide +kernel, by decide +kernel⟩
theorem DH (T : TX e) (dS : jl e) : wd e := by
  have S := Df
  exact T.GU.okD S (fun ds μ Q h => CK h) (fun cdv A outer s H E hr => ⟨qh, (aq (aU (i := 3) S.nd rfl (Or.inl rfl) (ez (bb (aE (dv 1) af (fun _ _ => rfl)) (aE (dv 2) af (fun _ _ => rfl))) (bb (aE (dv 2) af (fun _ _ => rfl)) (aE (dv 1) af (fun _ _ => rfl)))))
    (aq (aU (i := 4) S.nd rfl (Or.inl rfl) (ez (bb (aE (dv 1) af (fun _ _ => rfl)) (aE (dv 2) af (fun _ _ => rfl))) (bb (aE (dv 2) af (fun _ _ => rfl)) (aE (dv 1) af (fun _ _ => rfl)))))
    (ay (aK (jt (fD hr.units) dP (aj dS (hr.mono (by decide)) rfl T.oZ T.o6 T.o5 (aa (dv 0) (aa (dv 3) (aa (dv 4) ah)))) af (aW _)))))), fun ds μ Qd h => D7 h⟩)
theorem Dl : aP ["_law_a", "_law_b", "_law_c", "_law_common"] ["_law_a", "_law_b", "_law_c"] (aD ju) := ⟨rfl, rfl, rfl, by decide +kernel, rfl, by decide +kernel, by decide +kernel⟩
theorem DB (T : TX e) (jL : pX e) : d4 e := by
  have S := Dl
  exact T.FJ.okD S (fun ds μ Q h => uz h) (fun cdv A outer s H E hr => ⟨qa, (aq (aU (i := 3) S.nd rfl (Or.inl rfl) (bb (aj jL (hr.mono (by decide)) rfl T.rF T.rz T.rN (aa (aj jL (hr.mono (by decide)) rfl T.rF T.rz T.rN (aa (dv 0) (aa (dv 1) ah))) (aa (dv 2) ah))) (aE (da (aa af (aa (ke af) ah))) (mz rfl T.xS (aa (jt lS gk (dv 2) af (aW _)) ah)) (fun _ _ => rfl))))
    (ay (aK (aI (aa (mm (dv 0) (dv 3)) (aa (mm (dv 1) (dv 3)) (aa (mm (dv 2) (dv 3)) ah))))))), fun ds μ Qd h => Ea h⟩)
theorem AN : aP ["_law_bag_here", "_law_some"] ["_law_bag_here"] (aD ig) := ⟨rfl, rfl, rfl, by decide +kernel, rfl, by decide +kernel, by decide +kernel⟩
theorem Bl (T : TX e) (av : bT e) : uj e := by
  have S := AN
  exact T.DR.okD S (fun ds μ Q h => Es h) (fun cdv A outer s H E hr => ⟨oP, (aq (cO (bu (fD hr.units) dP (aj av (hr.mono (by decide)) rfl T.aN T.aM T.aL (aa (dv 0) (aa af ah))) af (aW _)) (ay (aK (aE (da (aa af (aa af (aa af ah)))) (aj av (hr.mono (by decide)) rfl T.aN T.aM T.aL (aa (dv 0) (aa af ah))) (fun _ _ => rfl)))) bB)
    (aq (tN (i := 1) (N' := ["_law_d"]) (cap := [none]) S.nd rfl rfl rfl (L0 rfl T.qN (aa af (aa af ah))) (fun _ _ _ => (bA (i := 0) (show List.Nodup (["_law_d"] : List Str) by decide +kernel) rfl (Or.inl rfl))) (fun _ _ _ => (xy (bu (Je hr.units) NO (dv 0) (da (aa af (aa af (aa af (aa af ah))))) (by with_unfolding_all rfl)))) (fun _ _ _ => (dv 0)) rfl (by decide +kernel) rfl (by decide +kernel) (by intro _ _ h; first | exact h | exact cl1 h | exact cl2 (by decide +kernel) h | exact cl3 (by decide +kernel) h | exact bJ (bf rfl dr) _ _ h | exact bJ (bf rfl (bf rfl dr)) _ _ h | exact bJ (bf rfl (bf rfl (bf rfl dr))) _ _ h | cases h) (jx rfl) rfl (lj trivial))
    (ay (aK (aE (dv 1) (aj av (hr.mono (by decide)) rfl T.aN T.aM T.aL (aa (dv 0) (aa af ah))) (fun _ _ => rfl)))))), fun ds μ Qd h => B2 h⟩)
theorem CG : aP ["_law_bag_here", "_law_some"] ["_law_bag_here"] (aD jf) := ⟨rfl, rfl, rfl, by decide +kernel, rfl, by decide +kernel, by decide +kernel⟩
theorem DQ (T : TX e) (av : bT e) : vX e := by
  have S := CG
  exact T.FP.okD S (fun ds μ Q h => Jc h) (fun cdv A outer s H E hr => ⟨qb, (aq (aU (i := 1) S.nd rfl (Or.inl rfl) (da (aa E7 (aa hR (aa hR (aa bz (aa bz (aa (ke af) (aa af (aa af (aa (Gh af af) (aa (aI ah) (aa (da ah) (aa (da (aa af ah)) (aa (aI (aa af (aa af ah))) (aa (aI (aa af (aa af (aa af ah)))) (aa (aI (aa af (aa af (aa af ah)))) (aa (aI (aa af (aa hR (aa af ah)))) (aa (aI (aa af (aa af (aa (ke af) ah)))) (aa (da (aa af (aa af (aa af ah)))) (aa (aI (aa af (aa af ah))) (aa bz ah))))))))))))))))))))))
    (ay (aK (aE (dv 1) (aj av (hr.mono (by decide)) rfl T.aN T.aM T.aL (aa (dv 0) (aa af ah))) (fun _ _ => rfl))))), fun ds μ Qd h => Eb h⟩)
theorem BJ : aP ["thing", "a", "b", "c"] ["thing"] (aD il) := ⟨rfl, rfl, rfl, by decide +kernel, rfl, by decide +kernel, by decide +kernel⟩
theorem Bz (T : TX e) (kX : vS e) (dF : iB e) : n5 e := by
  have S := BJ
  exact T.C3.okD S (fun ds μ Q h => GF h) (fun cdv A outer s H E hr => ⟨n9, (aq (cO (DW.dt (pD (fB (eh (vC (kit_tuple _) rfl T.aH rfl T.nX PyProof.Rows.Boot.«tuple» (dv 0)))) (oN (bu (zk hr.units) dP (kh rfl T.nh (aa (dv 0) ah)) af (aW _))))) (ay (aK hR)) bB)
    (aq (qj (dv 0) (p6 (n := 3) rfl (bY (bA (i := 1) S.nd rfl (Or.inl rfl)) (bY (bA (i := 2) S.nd rfl (Or.inl rfl)) (bY (bA (i := 3) S.nd rfl (Or.inl rfl)) lL)))))
    (aq (cO (DW.dt (pD (fB (eh (aj kX (hr.mono (by decide)) rfl T.rV T.sV T.sN (aa (dv 1) ah)))) (pD (fB (eh (aj kX (hr.mono (by decide)) rfl T.rV T.sV T.sN (aa (dv 2) ah)))) (oN (fB (eh (aj kX (hr.mono (by decide)) rfl T.rV T.sV T.sN (aa (dv 3) ah)))))))) (ay (aK hR)) bB)
    (ay (aK (FT (jt CT gk (dv 3) af (aW _)) (Fn (jt (fD hr.units) dP (aj dF (hr.mono (by decide)) rfl T.mV T.nj T.mG (aa (dv 1) (aa (dv 2) (aa (dv 3) ah)))) af (aW _))))))))), fun ds μ Qd h => BB h⟩)
theorem IA : aP ["a", "b", "c", "divisor"] ["a", "b", "c"] (aD mC) := ⟨rfl, rfl, rfl, by decide +kernel, rfl, by decide +kernel, by decide +kernel⟩
theorem Iv (T : TX e) (dF : iB e) : qY e := by
  have S := IA
  exact T.JI.okD S (fun ds μ Q h => uz h) (fun cdv A outer s H E hr => ⟨vF, (aq (cO (bu (fD hr.units) dP (dv 2) af (aW _)) (ay xM) bB)
    (aq (aU (i := 3) S.nd rfl (Or.inl rfl) (aj dF (hr.mono (by decide)) rfl T.mV T.nj T.mG (aa (dv 0) (aa (dv 1) (aa (dv 2) ah)))))
    (aq (cO (bu lS gk (dv 2) af (aW _)) (ay (aU (i := 3) S.nd rfl (Or.inl rfl) (ke (dv 3)))) bB)
    (ay (aK (aI (aa (mm (dv 0) (dv 3)) (aa (mm (dv 1) (dv 3)) (aa (mm (dv 2) (dv 3)) ah))))))))), fun ds μ Qd h => Jh h⟩)
theorem Cn : aP ["_law_x", "_law_y"] ["_law_x", "_law_y"] (aD ib) := ⟨rfl, rfl, rfl, by decide +kernel, rfl, by decide +kernel, by decide +kernel⟩
theorem AR (T : TX e) (bc : d4 e) : iJ e := by
  have S := Cn
  exact T.DX.okD S (fun ds μ Q h => ye h) (fun cdv A outer s H E hr => ⟨uo, (ay (aK (aj bc (hr.mono (by decide)) rfl T.gL T.gQ T.gK (aa (eP (bb (aE (dv 0) af (fun _ _ => rfl)) (aE (dv 1) af (fun _ _ => rfl))) (bb (aE (dv 1) af (fun _ _ => rfl)) (aE (dv 0) af (fun _ _ => rfl)))) (aa (eP (bb (aE (dv 0) af (fun _ _ => rfl)) (aE (dv 1) af (fun _ _ => rfl))) (bb (aE (dv 1) af (fun _ _ => rfl)) (aE (dv 0) af (fun _ _ => rfl)))) (aa (bb (aE (dv 0) af (fun _ _ => rfl)) (aE (dv 1) af (fun _ _ => rfl))) ah)))))), fun ds μ Qd h => CA h⟩)
theorem zK : aP ["_law_d", "_law_x", "_law_y"] ["_law_d", "_law_x", "_law_y"] (aD fV) := ⟨rfl, rfl, rfl, by decide +kernel, rfl, by decide +kernel, by decide +kernel⟩
theorem zI (T : TX e) (bc : d4 e) : dy e := by
  have S := zK
  exact T.Bv.okD S (fun ds μ Q h => vZ h) (fun cdv A outer s H E hr => ⟨rL, (ay (aK (aj bc (hr.mono (by decide)) rfl T.gL T.gQ T.gK (aa (eP (bb (aE (dv 1) af (fun _ _ => rfl)) (aE (dv 2) af (fun _ _ => rfl))) (bb (bb (dv 0) (aE (dv 1) af (fun _ _ => rfl))) (aE (dv 2) af (fun _ _ => rfl)))) (aa (eP (bb (aE (dv 1) af (fun _ _ => rfl)) (aE (dv 2) af (fun _ _ => rfl))) (bb (aE (dv 1) af (fun _ _ => rfl)) (aE (dv 2) af (fun _ _ => rfl)))) (aa (bb (aE (dv 1) af (fun _ _ => rfl)) (aE (dv 2) af (fun _ _ => rfl))) ah)))))), fun ds μ Qd h => zS h⟩)
theorem vq : aP ["_law_d", "_law_x"] ["_law_d", "_law_x"] (aD dZ) := ⟨rfl, rfl, rfl, by decide +kernel, rfl, by decide +kernel, by decide +kernel⟩
theorem vH (T : TX e) (bc : d4 e) : bU e := by
  have S := vq
  exact T.wK.okD S (fun ds μ Q h => pB h) (fun cdv A outer s H E hr => ⟨jy, (ay (aK (aj bc (hr.mono (by decide)) rfl T.gL T.gQ T.gK (aa (bb (aE (dv 1) af (fun _ _ => rfl)) (aE (dv 1) af (fun _ _ => rfl))) (aa (ez af (bb (aE (dv 1) af (fun _ _ => rfl)) (aE (dv 1) af (fun _ _ => rfl)))) (aa (ez (bb (aE (dv 1) af (fun _ _ => rfl)) (aE (dv 1) af (fun _ _ => rfl))) (bb (bb (dv 0) (aE (dv 1) af (fun _ _ => rfl))) (aE (dv 1) af (fun _ _ => rfl)))) ah)))))), fun ds μ Qd h => uX h⟩)
theorem xj : aP ["_law_bag_here", "_law_wide", "_law_a", "_law_b", "_law_c", "_law_way"] ["_law_bag_here"] (aD eW) := ⟨rfl, rfl, rfl, by decide +kernel, rfl, by decide +kernel, by decide +kernel⟩
theorem xx (T : TX e) (av : bT e) (bc : d4 e) : pF e := by
  have S := xj
  exact T.zU.okD S (fun ds μ Q h => zl h) (fun cdv A outer s H E hr => ⟨ll, (aq (aU (i := 1) S.nd rfl (Or.inl rfl) (aE (da (aa af (aa af (aa af (aa af ah))))) (aj av (hr.mono (by decide)) rfl T.aN T.aM T.aL (aa (dv 0) (aa af ah))) (fun _ _ => rfl)))
    (aq (xH (i := 2) (j := 3) rfl S.nd rfl rfl (by decide) rfl rfl (aa (ez (aj av (hr.mono (by decide)) rfl T.aN T.aM T.aL (aa (dv 0) (aa (dv 1) ah))) (mm (dv 1) af)) (aa (ez (aj av (hr.mono (by decide)) rfl T.aN T.aM T.aL (aa (dv 0) (aa (dv 1) ah))) (mm (dv 1) af)) ah)) rfl)
    (aq (aU (i := 4) S.nd rfl (Or.inl rfl) (eP af (aj av (hr.mono (by decide)) rfl T.aN T.aM T.aL (aa (dv 0) (aa (ez (dv 1) af) ah)))))
    (aq (aU (i := 5) S.nd rfl (Or.inl rfl) (aj av (hr.mono (by decide)) rfl T.aN T.aM T.aL (aa (dv 0) (aa af ah))))
    (ay (aK (aj bc (hr.mono (by decide)) rfl T.gL T.gQ T.gK (aa (aE (da (aa (dv 2) (aa (dv 2) (aa (dv 2) (aa (dv 2) (aa (dv 2) (aa (dv 2) (aa (dv 2) (aa af ah))))))))) (dv 5) (fun _ _ => rfl)) (aa (aE (da (aa (dv 3) (aa (dv 3) (aa (dv 3) (aa (dv 3) (aa (dv 3) (aa af (aa af (aa (dv 3) ah))))))))) (dv 5) (fun _ _ => rfl)) (aa (aE (da (aa (dv 4) (aa (dv 4) (aa af (aa (dv 4) (aa af (aa (dv 4) (aa af (aa (dv 4) ah))))))))) (dv 5) (fun _ _ => rfl)) ah)))))))))), fun ds μ Qd h => yJ h⟩)
theorem Mq : aP ["x", "y"] ["x", "y"] (aD vw) := ⟨rfl, rfl, rfl, by decide +kernel, rfl, by decide +kernel, by decide +kernel⟩
theorem aT (T : TX e) (iC : qY e) : BP e := by
  have S := Mq
  exact T.OD.okD S (fun ds μ Q h => ye h) (fun cdv A outer s H E hr => ⟨Co, (ay (aK (aj iC (hr.mono (by decide)) rfl T.yu T.xF T.x5 (aa (eP (bb (aE (dv 0) af (fun _ _ => rfl)) (aE (dv 1) af (fun _ _ => rfl))) (bb (aE (dv 1) af (fun _ _ => rfl)) (aE (dv 0) af (fun _ _ => rfl)))) (aa (eP (bb (aE (dv 0) af (fun _ _ => rfl)) (aE (dv 1) af (fun _ _ => rfl))) (bb (aE (dv 1) af (fun _ _ => rfl)) (aE (dv 0) af (fun _ _ => rfl)))) (aa (bb (aE (dv 0) af (fun _ _ => rfl)) (aE (dv 1) af (fun _ _ => rfl))) ah)))))), fun ds μ Qd h => Ha h⟩)
theorem La : aP ["d", "x", "y"] ["d", "x", "y"] (aD qW) := ⟨rfl, rfl, rfl, by decide +kernel, rfl, by decide +kernel, by decide +kernel⟩
theorem au (T : TX e) (iC : qY e) : uT e := by
  have S := La
  exact T.L8.okD S (fun ds μ Q h => vZ h) (fun cdv A outer s H E hr => ⟨yW, (ay (aK (aj iC (hr.mono (by decide)) rfl T.yu T.xF T.x5 (aa (eP (bb (aE (dv 1) af (fun _ _ => rfl)) (aE (dv 2) af (fun _ _ => rfl))) (bb (bb (dv 0) (aE (dv 1) af (fun _ _ => rfl))) (aE (dv 2) af (fun _ _ => rfl)))) (aa (eP (bb (aE (dv 1) af (fun _ _ => rfl)) (aE (dv 2) af (fun _ _ => rfl))) (bb (aE (dv 1) af (fun _ _ => rfl)) (aE (dv 2) af (fun _ _ => rfl)))) (aa (bb (aE (dv 1) af (fun _ _ => rfl)) (aE (dv 2) af (fun _ _ => rfl))) ah)))))), fun ds μ Qd h => EF h⟩)
theorem EM : aP ["d", "x", "norm"] ["d", "x"] (aD jE) := ⟨rfl, rfl, rfl, by decide +kernel, rfl, by decide +kernel, by decide +kernel⟩
theorem aC (T : TX e) (iC : qY e) : wg e := by
  have S := EM
  exact T.E5.okD S (fun ds μ Q h => pB h) (fun cdv A outer s H E hr => ⟨pR, (aq (aU (i := 2) S.nd rfl (Or.inl rfl) (ez (bb (aE (dv 1) af (fun _ _ => rfl)) (aE (dv 1) af (fun _ _ => rfl))) (bb (bb (dv 0) (aE (dv 1) af (fun _ _ => rfl))) (aE (dv 1) af (fun _ _ => rfl)))))
    (ay (aK (aj iC (hr.mono (by decide)) rfl T.yu T.xF T.x5 (aa (bb (aE (dv 1) af (fun _ _ => rfl)) (aE (dv 1) af (fun _ _ => rfl))) (aa (bb (ke (aE (dv 1) af (fun _ _ => rfl))) (aE (dv 1) af (fun _ _ => rfl))) (aa (dv 2) ah))))))), fun ds μ Qd h => Dy h⟩)
theorem sW : aP ["d", "thing"] ["d", "thing"] (aD cW) := ⟨rfl, rfl, rfl, by decide +kernel, rfl, by decide +kernel, by decide +kernel⟩
theorem si (T : TX e) (ie : n5 e) (eU : nL e) : dI e := by
  have S := sW
  exact T.uk.okD S (fun ds μ Q h => Ca h) (fun cdv A outer s H E hr => ⟨gG, (ay (aK (FT (aj ie (hr.mono (by decide)) rfl T.wq T.vV T.wa (aa (dv 1) ah)) (Fn (jt (fD hr.units) dP (aj eU (hr.mono (by decide)) rfl T.qP T.qX T.qS (aa (dv 0) (aa (dv 1) ah))) af (aW _)))))), fun ds μ Qd h => sO h⟩)
theorem zP : aP ["thing"] ["thing"] (aD fS) := ⟨rfl, rfl, rfl, by decide +kernel, rfl, by decide +kernel, by decide +kernel⟩
theorem zJ (T : TX e) (ie : n5 e) : rK e := by
  have S := zP
  exact T.AY.okD S (fun ds μ Q h => yL h) (fun cdv A outer s H E hr => ⟨lZ, (aq (cO (DW.dt (pD (fB (eh (vC (kit_tuple _) rfl T.aH rfl T.nX PyProof.Rows.Boot.«tuple» (dv 0)))) (oN (bu (zk hr.units) dP (kh rfl T.nh (aa (dv 0) ah)) af (aW _))))) (ay (aK hR)) bB)
    (ay (aK (FH rfl rfl T.Ls (aa (G2 (N' := ["part"]) (cap := [none]) rfl (x9 (dv 0)) (fun _ _ _ => (bA (i := 0) (show List.Nodup (["part"] : List Str) by decide +kernel) rfl (Or.inl rfl))) (fun _ _ _ => pW) (fun _ _ _ => (aj ie (hr.mono (by decide)) rfl T.wq T.vV T.wa (aa (dv 0) ah))) rfl (by decide +kernel) rfl (by decide +kernel) (by intro _ _ h; first | exact h | exact cl1 h | exact cl2 (by decide +kernel) h | exact cl3 (by decide +kernel) h | exact bJ (bf rfl dr) _ _ h | exact bJ (bf rfl (bf rfl dr)) _ _ h | exact bJ (bf rfl (bf rfl (bf rfl dr))) _ _ h | cases h) (jx rfl) rfl (lj trivial)) ah))))), fun ds μ Qd h => zE h⟩)
theorem zX : aP ["_law_bag_here", "_law_d", "_law_x", "_law_sign_here"] ["_law_bag_here", "_law_d"] (aD fN) := ⟨rfl, rfl, rfl, by decide +kernel, rfl, by decide +kernel, by decide +kernel⟩
theorem zy (T : TX e) (mq : pF e) (ik : nJ e) (av : bT e) (fR : mj e) : jR e := by
  have S := zX
  exact T.Cg.okD S (fun ds μ Q h => BK h) (fun cdv A outer s H E hr => ⟨md, (aq (aU (i := 2) S.nd rfl (Or.inl rfl) (aj mq (hr.mono (by decide)) rfl T.zw T.zG T.zL (aa (dv 0) ah)))
    (aq (aU (i := 3) S.nd rfl (Or.inl rfl) (aj ik (hr.mono (by decide)) rfl T.vU T.v7 T.wk (aa (dv 1) (aa (dv 2) ah))))
    (aq (cO (bu (fD hr.units) dP (dv 3) af (aW _)) (ay (aK (aI (aa (eP af (aj av (hr.mono (by decide)) rfl T.aN T.aM T.aL (aa (dv 0) (aa af ah)))) (aa af (aa af ah)))))) bB)
    (ay (aK (xV (bu oU gk (dv 3) af (aW _)) (dv 2) (aj fR (hr.mono (by decide)) rfl T.ua T.tY T.uB (aa (dv 2) ah)))))))), fun ds μ Qd h => zV h⟩)
theorem BI : aP ["_law_d", "_law_shape"] ["_law_d", "_law_shape"] (aD iq) := ⟨rfl, rfl, rfl, by decide +kernel, rfl, by decide +kernel, by decide +kernel⟩
theorem Cd (T : TX e) (aQ : dy e) (dz : kC e) (aG : bU e) : uV e := by
  have S := BI
  exact T.D5.okD S (fun ds μ Q h => Dh h) (fun cdv A outer s H E hr => ⟨n8, (ay (aK (aj aQ (hr.mono (by decide)) rfl T.dg T.dh T.dj (aa (dv 0) (aa (aj dz (hr.mono (by decide)) rfl T.lO T.lT T.lQ (aa (dv 1) ah)) (aa (aj aG (hr.mono (by decide)) rfl T.bQ T.bN T.bO (aa (dv 0) (aa (dv 1) ah))) ah)))))), fun ds μ Qd h => Bi h⟩)
theorem o9 : aP ["_law_d", "_law_shape", "_law_both"] ["_law_d", "_law_shape"] (aD cq) := ⟨rfl, rfl, rfl, by decide +kernel, rfl, by decide +kernel, by decide +kernel⟩
theorem o8 (T : TX e) (cj : iJ e) (dz : kC e) (aQ : dy e) (aG : bU e) : i8 e := by
  have S := o9
  exact T.qf.okD S (fun ds μ Q h => Bk h) (fun cdv A outer s H E hr => ⟨fe, (aq (aU (i := 2) S.nd rfl (Or.inl rfl) (aj cj (hr.mono (by decide)) rfl T.qk T.p7 T.pj (aa (dv 1) (aa (aj dz (hr.mono (by decide)) rfl T.lO T.lT T.lQ (aa (dv 1) ah)) ah))))
    (ay (aK (aj aQ (hr.mono (by decide)) rfl T.dg T.dh T.dj (aa (dv 0) (aa (aj aQ (hr.mono (by decide)) rfl T.dg T.dh T.dj (aa (dv 0) (aa (dv 2) (aa (dv 2) ah)))) (aa (aj aG (hr.mono (by decide)) rfl T.bQ T.bN T.bO (aa (dv 0) (aa (aj aQ (hr.mono (by decide)) rfl T.dg T.dh T.dj (aa (dv 0) (aa (dv 1) (aa (aj dz (hr.mono (by decide)) rfl T.lO T.lT T.lQ (aa (dv 1) ah)) ah)))) ah))) ah))))))), fun ds μ Qd h => ph h⟩)
theorem gX : aP ["d", "thing"] ["d", "thing"] (aD bV) := ⟨rfl, rfl, rfl, by decide +kernel, rfl, by decide +kernel, by decide +kernel⟩
theorem iw (T : TX e) (bg : dI e) : dO e := by
  have S := gX
  exact T.iI.okX S (fun ds μ Xk h => yf h) (fun cdv A outer s H E hr => ⟨cu, (mR (Nq (fB (eh (aj bg (hr.mono (by decide)) rfl T.fk T.fg T.fj (aa (dv 0) (aa (dv 1) ah))))) (mR (Dz w5 rfl T.sf T.sS)) Az)), fun ds μ Xk h => iu h⟩)
theorem nr (T : TX e) (bg : dI e) : ip e := by
  have S := gX
  exact T.iI.okD S (fun ds μ Q h => wu h) (fun cdv A outer s H E hr => ⟨eD, (ay (cO (fB (eh (aj bg (hr.mono (by decide)) rfl T.fk T.fg T.fj (aa (dv 0) (aa (dv 1) ah))))) (ay xM) bB)), fun ds μ Qd h => mY h⟩)
theorem CP : aP ["d", "thing"] ["d", "thing"] (aD jh) := ⟨rfl, rfl, rfl, by decide +kernel, rfl, by decide +kernel, by decide +kernel⟩
theorem Ex (T : TX e) (bg : dI e) : qy e := by
  have S := CP
  exact T.Gj.okD S (fun ds μ Q h => BH h) (fun cdv A outer s H E hr => ⟨qx, (aq (cO (DW.dt (pD (fB (eh (vC (kit_tuple _) rfl T.aH rfl T.nX PyProof.Rows.Boot.«tuple» (dv 1)))) (pD (bu lS gk (kh rfl T.nh (aa (dv 1) ah)) af (aW _)) (oN (bu oU gk (kh rfl T.nh (aa (dv 1) ah)) (L3 (u := .int 3) rfl T.Ci ⟨_, rfl⟩ (fun _ _ _ => Rp.int 3)) (aW _)))))) (ay (aK hR)) bB)
    (ay (aK (FH rfl rfl T.Ls (aa (G2 (N' := ["kind", "d"]) (cap := [none, some 0]) rfl (x9 (dv 1)) (fun _ _ _ => (bA (i := 0) (show List.Nodup (["kind", "d"] : List Str) by decide +kernel) rfl (Or.inl rfl))) (fun _ _ _ => pW) (fun _ _ _ => (aj bg (hr.mono (by decide)) rfl T.fk T.fg T.fj (aa (dv 1) (aa (dv 0) ah)))) rfl (by decide +kernel) rfl (by decide +kernel) (by intro _ _ h; first | exact h | exact cl1 h | exact cl2 (by decide +kernel) h | exact cl3 (by decide +kernel) h | exact bJ (bf rfl dr) _ _ h | exact bJ (bf rfl (bf rfl dr)) _ _ h | exact bJ (bf rfl (bf rfl (bf rfl dr))) _ _ h | cases h) (jx rfl) rfl (lj ⟨Iw, trivial⟩)) ah))))), fun ds μ Qd h => Ew h⟩)
theorem GC : aP ["d", "weights", "width", "height", "p", "q", "s", "t", "by_width", "by_its_mate"] ["d", "weights", "width", "height"] (aD kG) := ⟨rfl, rfl, rfl, by decide +kernel, rfl, by decide +kernel, by decide +kernel⟩
theorem Fq (T : TX e) (qc : BP e) (cV : uT e) (oi : CC e) : yP e := by
  have S := GC
  exact T.Jq.okD S (fun ds μ Q h => zm h) (fun cdv A outer s H E hr => ⟨rT, (aq (qj (dv 1) (p6 (n := 4) rfl (bY (bA (i := 4) S.nd rfl (Or.inl rfl)) (bY (bA (i := 5) S.nd rfl (Or.inl rfl)) (bY (bA (i := 6) S.nd rfl (Or.inl rfl)) (bY (bA (i := 7) S.nd rfl (Or.inl rfl)) lL))))))
    (aq (aU (i := 8) S.nd rfl (Or.inl rfl) (aj qc (hr.mono (by decide)) rfl T.B5 T.Be T.BS (aa (aj cV (hr.mono (by decide)) rfl T.fh T.ff T.fu (aa (dv 0) (aa (dv 4) (aa (dv 3) ah)))) (aa (aj cV (hr.mono (by decide)) rfl T.fh T.ff T.fu (aa (dv 0) (aa (dv 5) (aa (aj oi (hr.mono (by decide)) rfl T.yA T.yi T.yO (aa (dv 3) ah)) ah)))) ah))))
    (aq (aU (i := 9) S.nd rfl (Or.inl rfl) (aj qc (hr.mono (by decide)) rfl T.B5 T.Be T.BS (aa (aj cV (hr.mono (by decide)) rfl T.fh T.ff T.fu (aa (dv 0) (aa (dv 6) (aa (dv 3) ah)))) (aa (aj cV (hr.mono (by decide)) rfl T.fh T.ff T.fu (aa (dv 0) (aa (dv 7) (aa (aj oi (hr.mono (by decide)) rfl T.yA T.yi T.yO (aa (dv 3) ah)) ah)))) ah))))
    (ay (aK (aj qc (hr.mono (by decide)) rfl T.B5 T.Be T.BS (aa (aj cV (hr.mono (by decide)) rfl T.fh T.ff T.fu (aa (dv 0) (aa (dv 2) (aa (dv 8) ah)))) (aa (aj cV (hr.mono (by decide)) rfl T.fh T.ff T.fu (aa (dv 0) (aa (aj oi (hr.mono (by decide)) rfl T.yA T.yi T.yO (aa (dv 2) ah)) (aa (dv 9) ah)))) ah)))))))), fun ds μ Qd h => ER h⟩)
theorem xB : aP ["d", "weights", "kind", "p", "q", "s", "t", "first", "last", "middle", "most"] ["d", "weights", "kind"] (aD eT) := ⟨rfl, rfl, rfl, by decide +kernel, rfl, by decide +kernel, by decide +kernel⟩
theorem yU (T : TX e) (cV : uT e) (oi : CC e) (eU : nL e) (qc : BP e) (tf : wd e) : pG e := by
  have S := xB
  exact T.zx.okD S (fun ds μ Q h => DF h) (fun cdv A outer s H E hr => ⟨kO, (aq (qj (dv 1) (p6 (n := 4) rfl (bY (bA (i := 3) S.nd rfl (Or.inl rfl)) (bY (bA (i := 4) S.nd rfl (Or.inl rfl)) (bY (bA (i := 5) S.nd rfl (Or.inl rfl)) (bY (bA (i := 6) S.nd rfl (Or.inl rfl)) lL))))))
    (aq (aU (i := 7) S.nd rfl (Or.inl rfl) (aj cV (hr.mono (by decide)) rfl T.fh T.ff T.fu (aa (dv 0) (aa (dv 3) (aa (dv 2) ah)))))
    (aq (aU (i := 8) S.nd rfl (Or.inl rfl) (aj cV (hr.mono (by decide)) rfl T.fh T.ff T.fu (aa (dv 0) (aa (dv 6) (aa (aj oi (hr.mono (by decide)) rfl T.yA T.yi T.yO (aa (dv 2) ah)) ah)))))
    (aq (cO (DW.dt (pD (bu lS gk (aj eU (hr.mono (by decide)) rfl T.qP T.qX T.qS (aa (dv 0) (aa (dv 7) ah))) af (aW _)) (oN (bu lS gk (aj eU (hr.mono (by decide)) rfl T.qP T.qX T.qS (aa (dv 0) (aa (dv 8) ah))) af (aW _))))) (ay (aK hR)) bB)
    (aq (aU (i := 9) S.nd rfl (Or.inl rfl) (aj qc (hr.mono (by decide)) rfl T.B5 T.Be T.BS (aa (aj cV (hr.mono (by decide)) rfl T.fh T.ff T.fu (aa (dv 0) (aa (dv 4) (aa (aj oi (hr.mono (by decide)) rfl T.yA T.yi T.yO (aa (dv 2) ah)) ah)))) (aa (aj cV (hr.mono (by decide)) rfl T.fh T.ff T.fu (aa (dv 0) (aa (dv 5) (aa (dv 2) ah)))) ah))))
    (aq (aU (i := 10) S.nd rfl (Or.inl rfl) (aj cV (hr.mono (by decide)) rfl T.fh T.ff T.fu (aa (dv 0) (aa (aI (aa af (aa af (aa af ah)))) (aa (aj cV (hr.mono (by decide)) rfl T.fh T.ff T.fu (aa (dv 0) (aa (dv 7) (aa (dv 8) ah)))) ah)))))
    (ay (aK (Jy (aj tf (hr.mono (by decide)) rfl T.E3 T.Gv T.GS (aa (dv 0) (aa (aj cV (hr.mono (by decide)) rfl T.fh T.ff T.fu (aa (dv 0) (aa (dv 9) (aa (dv 9) ah)))) (aa (dv 10) ah))))))))))))), fun ds μ Qd h => yd h⟩)
theorem zB : aP ["_law_bag_here", "_law_d", "_law_found", "_law_turn", "_law_way", "_law_part", "_law_kind"] ["_law_bag_here", "_law_d"] (aD fT) := ⟨rfl, rfl, rfl, by decide +kernel, rfl, by decide +kernel, by decide +kernel⟩
theorem zN (T : TX e) (cP : jR e) (av : bT e) (aG : bU e) (aQ : dy e) (bc : d4 e) : rB e := by
  have S := zB
  exact T.Cm.okD S (fun ds μ Q h => By h) (fun cdv A outer s H E hr => ⟨mx, (aq (aU (i := 2) S.nd rfl (Or.inl rfl) (Hu (aa (aj cP (hr.mono (by decide)) rfl T.ky T.kv T.kE (aa (dv 0) (aa (dv 1) ah))) ah)))
    (aq (vD PassesOwn.never rfl (tQ rfl T.qN (aa (aj av (hr.mono (by decide)) rfl T.aN T.aM T.aL (aa (dv 0) (aa af ah))) ah)) (bA (i := 3) S.nd rfl (Or.inl rfl)) (aq (aU (i := 4) S.nd rfl (Or.inl rfl) (aj av (hr.mono (by decide)) rfl T.aN T.aM T.aL (aa (dv 0) (aa af ah))))
    (aq (aU (i := 5) S.nd rfl (Or.inl rfl) (aI (aa (eP af (aj av (hr.mono (by decide)) rfl T.aN T.aM T.aL (aa (dv 0) (aa af ah)))) (aa af (aa (eP af (aj av (hr.mono (by decide)) rfl T.aN T.aM T.aL (aa (dv 0) (aa af ah)))) ah)))))
    (aq (aU (i := 6) S.nd rfl (Or.inl rfl) (aE (da (aa (aE (dv 2) af (fun _ _ => rfl)) (aa (aj aG (hr.mono (by decide)) rfl T.bQ T.bN T.bO (aa (dv 1) (aa (aE (dv 2) af (fun _ _ => rfl)) ah))) ah))) (kY (dv 4) af) (fun _ _ => rfl)))
    (aq (cO (bu oU gk (dv 4) af (aW _)) (ay (aU (i := 6) S.nd rfl (Or.inl rfl) (aj cP (hr.mono (by decide)) rfl T.ky T.kv T.kE (aa (dv 0) (aa (dv 1) ah))))) (ay (cO (bu oU gk (dv 4) af (aW _)) (ay (aU (i := 6) S.nd rfl (Or.inl rfl) (aj aQ (hr.mono (by decide)) rfl T.dg T.dh T.dj (aa (dv 1) (aa (dv 6) (aa (aj bc (hr.mono (by decide)) rfl T.gL T.gQ T.gK (aa (aE (dv 5) af (fun _ _ => rfl)) (aa (aE (dv 5) af (fun _ _ => rfl)) (aa (aE (dv 5) af (fun _ _ => rfl)) ah)))) ah)))))) bB)))
    (ay (xf (Js (dv 2) (dv 6)))))))))
    (ay (aK (yy rfl T.nX (aa (dv 2) ah)))))), fun ds μ Qd h => zZ h⟩)
theorem tI : aP ["_law_bag_here", "_law_d", "_law_x", "_law_some"] ["_law_bag_here", "_law_d"] (aD dE) := ⟨rfl, rfl, rfl, by decide +kernel, rfl, by decide +kernel, by decide +kernel⟩
theorem uQ (T : TX e) (cP : jR e) (sH : vX e) (fR : mj e) (av : bT e) : iX e := by
  have S := tI
  exact T.va.okD S (fun ds μ Q h => xX h) (fun cdv A outer s H E hr => ⟨iW, (aq (aU (i := 2) S.nd rfl (Or.inl rfl) (aj cP (hr.mono (by decide)) rfl T.ky T.kv T.kE (aa (dv 0) (aa (dv 1) ah))))
    (aq (aU (i := 3) S.nd rfl (Or.inl rfl) (da (aa (aj sH (hr.mono (by decide)) rfl T.Gq T.GP T.EW (aa (dv 0) ah)) (aa (aj fR (hr.mono (by decide)) rfl T.ua T.tY T.uB (aa (dv 2) ah)) (aa (aI (aa af (aa af (aa af ah)))) (aa (aI (aa (bb (aE (dv 2) af (fun _ _ => rfl)) af) (aa (bb (aE (dv 2) af (fun _ _ => rfl)) af) (aa (bb (aE (dv 2) af (fun _ _ => rfl)) af) ah)))) (aa (aI (aa (aE (dv 2) af (fun _ _ => rfl)) (aa (aE (dv 2) af (fun _ _ => rfl)) (aa (ez af (aE (dv 2) af (fun _ _ => rfl))) ah)))) (aa (Ia rfl T.Ks (aa (dv 2) ah)) (aa (uv (dv 2) wU (w4 af)) (aa (jN (dv 2) (aI (aa af ah))) (aa (aI (aa (aE (dv 2) af (fun _ _ => rfl)) (aa E7 (aa (aE (dv 2) af (fun _ _ => rfl)) ah)))) (aa (aI (aa hR (aa af (aa af ah)))) (aa (aI (aa af (aa af (aa hR ah)))) (aa (aI (aa (dv 2) ah)) ah))))))))))))))
    (ay (aK (aE (dv 3) (aj av (hr.mono (by decide)) rfl T.aN T.aM T.aL (aa (dv 0) (aa af ah))) (fun _ _ => rfl)))))), fun ds μ Qd h => uE h⟩)
theorem Bo : aP ["_law_bag_here", "_law_many", "_law_deep", "_law_way", "_law_wide", "_law_parts"] ["_law_bag_here", "_law_many", "_law_deep"] (aD gY) := ⟨rfl, rfl, rfl, by decide +kernel, rfl, by decide +kernel, by decide +kernel⟩
theorem yt : bL e.P e.w e.K e.mg e.base CX0 2 e.t.eG e.t.fF ["_law_bag_here", "_law_many", "_law_deep"] (spD e.K (gz 0)) :=
  ⟨fun vs H Q E h => by obtain ⟨ds, μ, Qd, _, r, z, _⟩ := h; exact (EC z).elim, fun A outer s H args us vs Q E hr e0 hb hv h => by obtain ⟨ds, μ, Qd, _, r, z, _⟩ := h; exact (EC z).elim⟩
theorem k7 (T : TX e) (n k : Nat) (hk : 2 <= k) (av : bT e) (fE : bL e.P e.w e.K e.mg e.base CX0 k e.t.eG e.t.fF ["_law_bag_here", "_law_many", "_law_deep"] (spD e.K (gz n))) : bL e.P e.w e.K e.mg e.base CX0 (k + 1) e.t.eG e.t.fF ["_law_bag_here", "_law_many", "_law_deep"] (spD e.K (gz (n + 1))) := by
  have S := Bo
  exact T.D1.okD S (fun ds μ Q h => Ey h) (fun cdv A outer s H E hr => ⟨oS n, (aq (aU (i := 3) S.nd rfl (Or.inl rfl) (aj av (hr.mono (by omega)) rfl T.aN T.aM T.aL (aa (dv 0) (aa af ah))))
    (aq (cO (DW.dt (pD (bu lS gk (dv 2) af (aW _)) (oN (bu lS gk (dv 3) af (aW _))))) (ay (aK (aI (aa bz (aa (aj av (hr.mono (by omega)) rfl T.aN T.aM T.aL (aa (dv 0) (aa (dv 1) ah))) ah))))) bB)
    (aq (cO (bu (fD hr.units) dP (dv 3) af (aW _)) (ay (aK (aI (aa bz (aa (aj fE (hr.mono (by omega)) rfl T.lA T.lJ T.lR (aa (dv 0) (aa (dv 1) (aa (ez (dv 2) af) ah)))) ah))))) bB)
    (aq (cO (bu lS gk (dv 3) af (aW _)) (aq (aU (i := 4) S.nd rfl (Or.inl rfl) (aE (da (aa af (aa af (aa af (aa af ah))))) (aj av (hr.mono (by omega)) rfl T.aN T.aM T.aL (aa (dv 0) (aa af ah))) (fun _ _ => rfl)))
    (ay (aK (aI (aa bz (aa (eP af (aj av (hr.mono (by omega)) rfl T.aN T.aM T.aL (aa (dv 0) (aa (dv 4) ah)))) (aa (eP af (aj av (hr.mono (by omega)) rfl T.aN T.aM T.aL (aa (dv 0) (aa (dv 4) ah)))) (aa (aj fE (hr.mono (by omega)) rfl T.lA T.lJ T.lR (aa (dv 0) (aa (dv 1) (aa (ez (dv 2) af) ah)))) ah)))))))) bB)
    (aq (tN (i := 5) (N' := ["_law_part", "_law_bag_here", "_law_many", "_law_deep"]) (cap := [none, some 0, some 1, some 2]) S.nd rfl rfl rfl (tQ rfl T.qN (aa (eP af (aj av (hr.mono (by omega)) rfl T.aN T.aM T.aL (aa (dv 0) (aa af ah)))) ah)) (fun _ _ _ => (bA (i := 0) (show List.Nodup (["_law_part", "_law_bag_here", "_law_many", "_law_deep"] : List Str) by decide +kernel) rfl (Or.inl rfl))) (fun _ _ _ => pW) (fun _ _ _ => (aj fE (hr.mono (by omega)) rfl T.lA T.lJ T.lR (aa (dv 1) (aa (dv 2) (aa (ez (dv 3) af) ah))))) rfl (by decide +kernel) rfl (by decide +kernel) (by intro _ _ h; first | exact h | exact cl1 h | exact cl2 (by decide +kernel) h | exact cl3 (by decide +kernel) h | exact bJ (bf rfl dr) _ _ h | exact bJ (bf rfl (bf rfl dr)) _ _ h | exact bJ (bf rfl (bf rfl (bf rfl dr))) _ _ h | cases h) (jx rfl) rfl (lj ⟨Iw, ⟨Iw, ⟨Iw, trivial⟩⟩⟩))
    (ay (aK (aI (aa (aE (da (aa bz (aa bz ah))) (kY (dv 3) af) (fun _ _ => rfl)) (aa (yy rfl T.nX (aa (dv 5) ah)) ah)))))))))), fun ds μ Qd h => Ct n h⟩)
theorem Cj (T : TX e) (av : bT e) : bL e.P e.w e.K e.mg e.base CX0 5 e.t.eG e.t.fF ["_law_bag_here", "_law_many", "_law_deep"] (spD e.K (gz 3)) := (k7 T 2 4 (by decide) av (k7 T 1 3 (by decide) av (k7 T 0 2 (by decide) av yt)))
theorem wI : aP ["_law_bag_here", "_law_d", "_law_kinds_here", "_law_shape", "_law_kind", "_law_part", "_law_twice", "_law_last", "_law_nought", "_law_one", "_law_few", "_law_some"] ["_law_bag_here", "_law_d", "_law_kinds_here", "_law_shape"] (aD ey) := ⟨rfl, rfl, rfl, by decide +kernel, rfl, by decide +kernel, by decide +kernel⟩
theorem wD (T : TX e) (av : bT e) (aG : bU e) (qu : uV e) (aQ : dy e) (cj : iJ e) (fI : i8 e) : oV e := by
  have S := wI
  exact T.xm.okD S (fun ds μ Q h => Kg h) (fun cdv A outer s H E hr => ⟨j7, (aq (aU (i := 4) S.nd rfl (Or.inl rfl) (aE (dv 2) (aj av (hr.mono (by decide)) rfl T.aN T.aM T.aL (aa (dv 0) (aa (kh rfl T.nh (aa (dv 2) ah)) ah))) (fun _ _ => rfl)))
    (aq (aU (i := 5) S.nd rfl (Or.inl rfl) (aj aG (hr.mono (by decide)) rfl T.bQ T.bN T.bO (aa (dv 1) (aa (aj qu (hr.mono (by decide)) rfl T.CL T.Ez T.EJ (aa (dv 1) (aa (aE (da (aa (dv 4) (aa (aj aG (hr.mono (by decide)) rfl T.bQ T.bN T.bO (aa (dv 1) (aa (dv 4) ah))) ah))) (aj av (hr.mono (by decide)) rfl T.aN T.aM T.aL (aa (dv 0) (aa af ah))) (fun _ _ => rfl)) ah))) ah))))
    (aq (aU (i := 6) S.nd rfl (Or.inl rfl) (aj aQ (hr.mono (by decide)) rfl T.dg T.dh T.dj (aa (dv 1) (aa (aI (aa (ke af) (aa af (aa af ah)))) (aa (dv 5) ah)))))
    (aq (aU (i := 7) S.nd rfl (Or.inl rfl) (aj aQ (hr.mono (by decide)) rfl T.dg T.dh T.dj (aa (dv 1) (aa (aI (aa af (aa af (aa af ah)))) (aa (aj cj (hr.mono (by decide)) rfl T.qk T.p7 T.pj (aa (aj fI (hr.mono (by decide)) rfl T.pQ T.pK T.pP (aa (dv 1) (aa (dv 4) ah))) (aa (aI (aa (ke af) (aa af (aa af ah)))) ah))) ah)))))
    (aq (qj (aI (aa (aI (aa af (aa af (aa af ah)))) (aa (aI (aa af (aa af (aa af ah)))) ah))) (p6 (n := 2) rfl (bY (bA (i := 8) S.nd rfl (Or.inl rfl)) (bY (bA (i := 9) S.nd rfl (Or.inl rfl)) lL))))
    (aq (aU (i := 10) S.nd rfl (Or.inl rfl) (yy rfl T.nX (aa (KU (N' := ["_law_k", "_law_bag_here"]) (cap := [none, some 0]) rfl (tQ rfl T.qN (aa af ah)) (fun _ _ _ => (bA (i := 0) (show List.Nodup (["_law_k", "_law_bag_here"] : List Str) by decide +kernel) rfl (Or.inl rfl))) (fun _ _ _ => pW) (fun _ _ _ => (aI (aa (ez (aj av (hr.mono (by decide)) rfl T.aN T.aM T.aL (aa (dv 1) (aa af ah))) af) (aa (ez (aj av (hr.mono (by decide)) rfl T.aN T.aM T.aL (aa (dv 1) (aa af ah))) af) (aa af ah))))) rfl (by decide +kernel) rfl (by decide +kernel) (by intro _ _ h; first | exact h | exact cl1 h | exact cl2 (by decide +kernel) h | exact cl3 (by decide +kernel) h | exact bJ (bf rfl dr) _ _ h | exact bJ (bf rfl (bf rfl dr)) _ _ h | exact bJ (bf rfl (bf rfl (bf rfl dr))) _ _ h | cases h) (jx rfl) rfl (lj ⟨Iw, trivial⟩)) ah)))
    (aq (aU (i := 11) S.nd rfl (Or.inl rfl) (da (aa (aI (aa (dv 9) (aa (dv 6) (aa (dv 8) (aa (dv 5) ah))))) (aa (aI (aa (dv 9) (aa (dv 8) (aa (dv 6) (aa (dv 5) ah))))) (aa (aI (aa (dv 8) (aa (dv 8) (aa (dv 8) (aa (dv 9) ah))))) (aa (aI (aa (dv 8) (aa (dv 8) (aa (dv 8) (aa (aI (aa (ke af) (aa af (aa af ah)))) ah))))) (aa (aI (aa (dv 9) (aa (dv 9) (aa (aI (aa (ke af) (aa af (aa af ah)))) (aa (dv 7) ah))))) (aa (aI (aa (dv 9) (aa (dv 8) (aa (dv 8) (aa (dv 9) ah))))) (aa (dv 10) (aa (aI (aa (dv 8) (aa (dv 9) (aa (dv 8) (aa (dv 8) ah))))) ah))))))))))
    (ay (aK (aE (dv 11) (aj av (hr.mono (by decide)) rfl T.aN T.aM T.aL (aa (dv 0) (aa af ah))) (fun _ _ => rfl))))))))))), fun ds μ Qd h => wF h⟩)
theorem mO : aP ["d", "thing"] ["d", "thing"] (aD dW) := ⟨rfl, rfl, rfl, by decide +kernel, rfl, by decide +kernel, by decide +kernel⟩
theorem lz (T : TX e) (jD : qy e) : fY e := by
  have S := mO
  exact T.o7.okX S (fun ds μ Xk h => zA h) (fun cdv A outer s H E hr => ⟨dR, (mR (Nq (fB (eh (aj jD (hr.mono (by decide)) rfl T.yF T.zj T.xW (aa (dv 0) (aa (dv 1) ah))))) (mR (Dz w5 rfl T.u6 T.u4)) Az)), fun ds μ Xk h => lq h⟩)
theorem vP (T : TX e) (jD : qy e) : je e := by
  have S := mO
  exact T.o7.okD S (fun ds μ Q h => wz h) (fun cdv A outer s H E hr => ⟨jB, (ay (cO (fB (eh (aj jD (hr.mono (by decide)) rfl T.yF T.zj T.xW (aa (dv 0) (aa (dv 1) ah))))) (ay xM) bB)), fun ds μ Qd h => u9 h⟩)
theorem uU : aP ["_law_bag_here", "_law_d", "_law_kinds_here", "_law_at", "_law_way"] ["_law_bag_here", "_law_d", "_law_kinds_here"] (aD dH) := ⟨rfl, rfl, rfl, by decide +kernel, rfl, by decide +kernel, by decide +kernel⟩
theorem uO (T : TX e) (av : bT e) (dG : iX e) : lG e := by
  have S := uU
  exact T.vL.okD S (fun ds μ Q h => yS h) (fun cdv A outer s H E hr => ⟨iO, (aq (aU (i := 3) S.nd rfl (Or.inl rfl) (aj av (hr.mono (by decide)) rfl T.aN T.aM T.aL (aa (dv 0) (aa (kh rfl T.nh (aa (dv 2) ah)) ah))))
    (aq (aU (i := 4) S.nd rfl (Or.inl rfl) (aj av (hr.mono (by decide)) rfl T.aN T.aM T.aL (aa (dv 0) (aa af ah))))
    (aq (cO (bu lS gk (dv 4) af (aW _)) (ay (aK (jN (jN (uv (dv 2) wU (w4 (dv 3))) (aI (aa (aj dG (hr.mono (by decide)) rfl T.nc T.mW T.mE (aa (dv 0) (aa (dv 1) ah))) ah))) (uv (dv 2) (w4 (jN (dv 3) af)) wU)))) bB)
    (ay (aK (aE (da (aa (aI ah) (aa (uv (jN (jN (jN (dv 2) (dv 2)) (dv 2)) (dv 2)) wU (w4 (jN af (dv 3)))) (aa (Ia rfl T.Ks (aa (dv 2) ah)) ah)))) (ez (dv 4) af) (fun _ _ => rfl))))))), fun ds μ Qd h => tO h⟩)
theorem vc : aP ["_law_bag_here", "_law_d", "_law_kinds_here", "_law_shape", "_law_width"] ["_law_bag_here", "_law_d", "_law_kinds_here", "_law_shape"] (aD dU) := ⟨rfl, rfl, rfl, by decide +kernel, rfl, by decide +kernel, by decide +kernel⟩
theorem vQ (T : TX e) (aG : bU e) (cP : jR e) (av : bT e) (kR : oV e) : nq e := by
  have S := vc
  exact T.wG.okD S (fun ds μ Q h => EI h) (fun cdv A outer s H E hr => ⟨jo, (aq (aU (i := 4) S.nd rfl (Or.inl rfl) (aE (da (aa (aI (aa af (aa af (aa af ah)))) (aa (aj aG (hr.mono (by decide)) rfl T.bQ T.bN T.bO (aa (dv 1) (aa (dv 3) ah))) (aa (aj cP (hr.mono (by decide)) rfl T.ky T.kv T.kE (aa (dv 0) (aa (dv 1) ah))) ah)))) (aj av (hr.mono (by decide)) rfl T.aN T.aM T.aL (aa (dv 0) (aa af ah))) (fun _ _ => rfl)))
    (ay (aK (aI (aa (dv 4) (aa (aj kR (hr.mono (by decide)) rfl T.xJ T.yR T.xu (aa (dv 0) (aa (dv 1) (aa (dv 2) (aa (dv 3) ah))))) ah)))))), fun ds μ Qd h => vd h⟩)
theorem vp : aP ["d", "kinds", "shape", "thing", "width", "weights", "kind"] ["d", "kinds", "shape", "thing"] (aD mP) := ⟨rfl, rfl, rfl, by decide +kernel, rfl, by decide +kernel, by decide +kernel⟩
theorem sv (T : TX e) (ej : fY e) : kJ e := by
  have S := vp
  exact T.yG.okX S (fun ds μ Xk h => CB h) (fun cdv A outer s H E hr => ⟨gP, (mR (HJ (qQ ej (hr.mono (by decide)) rfl T.kg T.ki T.j8 w5 (aa (dv 0) (aa (dv 1) ah))))), fun ds μ Xk h => sJ h⟩)
theorem rm (T : TX e) (dX : je e) (cC : dO e) : kq e := by
  have S := vp
  exact T.yG.okX S (fun ds μ Xk h => AI h) (fun cdv A outer s H E hr => ⟨gm, (KZ (xf (aj dX (hr.mono (by decide)) rfl T.kg T.ki T.j8 (aa (dv 0) (aa (dv 1) ah))))
    (mR (HJ (qQ cC (hr.mono (by decide)) rfl T.i7 T.iH T.iN w5 (aa (dv 0) (aa (dv 2) ah)))))), fun ds μ Xk h => rj h⟩)
theorem IB (T : TX e) (dX : je e) (eM : ip e) (bg : dI e) (nN : rK e) (jO : pG e) (sG : wg e) (eU : nL e) (vR : yP e) (cV : uT e) : vz e := by
  have S := vp
  exact T.yG.okD S (fun ds μ Q h => FU h) (fun cdv A outer s H E hr => ⟨vf, (aq (xf (aj dX (hr.mono (by decide)) rfl T.kg T.ki T.j8 (aa (dv 0) (aa (dv 1) ah))))
    (aq (xf (aj eM (hr.mono (by decide)) rfl T.i7 T.iH T.iN (aa (dv 0) (aa (dv 2) ah))))
    (aq (cO (DW.dt (pD (fB (eh (vC (kit_tuple _) rfl T.aH rfl T.nX PyProof.Rows.Boot.«tuple» (dv 3)))) (oN (bu (zk hr.units) dP (kh rfl T.nh (aa (dv 3) ah)) af (aW _))))) (ay (aK hR)) bB)
    (aq (qj (dv 3) (p6 (n := 2) rfl (bY (bA (i := 4) S.nd rfl (Or.inl rfl)) (bY (bA (i := 5) S.nd rfl (Or.inl rfl)) lL))))
    (aq (cO (DW.dt (pD (fB (eh (aj bg (hr.mono (by decide)) rfl T.fk T.fg T.fj (aa (dv 0) (aa (dv 4) ah))))) (oN (fB (eh (aj nN (hr.mono (by decide)) rfl T.Cw T.A1 T.AX (aa (dv 5) ah))))))) (ay (aK hR)) bB)
    (aq (vD PassesOwn.never rfl (x9 (dv 1)) (bA (i := 6) S.nd rfl (Or.inl rfl)) (ay (cO (DW.dt (pD (fB (eh (aj jO (hr.mono (by decide)) rfl T.rM T.rG T.rH (aa (dv 0) (aa (dv 5) (aa (dv 6) ah)))))) (oN (fB (eh (aj jO (hr.mono (by decide)) rfl T.rM T.rG T.rH (aa (dv 0) (aa (dv 5) (aa (aj sG (hr.mono (by decide)) rfl T.FX T.GO T.Fd (aa (dv 0) (aa (dv 6) ah))) ah))))))))) (ay (aK hR)) bB)))
    (ay (aK (jt lS gk (aj eU (hr.mono (by decide)) rfl T.qP T.qX T.qS (aa (dv 0) (aa (aj vR (hr.mono (by decide)) rfl T.Iy T.IK T.IZ (aa (dv 0) (aa (dv 5) (aa (dv 4) (aa (aj cV (hr.mono (by decide)) rfl T.fh T.ff T.fu (aa (dv 0) (aa (dv 2) (aa (dv 4) ah)))) ah))))) ah))) af (aW _)))))))))), fun ds μ Qd h => Jd h⟩)
theorem rS : aP ["_law_d", "_law_kinds_here", "_law_plan_here", "_law_found", "_law_part", "_law_shape"] ["_law_d", "_law_kinds_here", "_law_plan_here"] (aD cZ) := ⟨rfl, rfl, rfl, by decide +kernel, rfl, by decide +kernel, by decide +kernel⟩
theorem pC : bL e.P e.w e.K e.mg e.base CX0 4 e.t.bW e.t.cE ["_law_d", "_law_kinds_here", "_law_plan_here"] (spD e.K (eB 0)) :=
  ⟨fun vs H Q E h => by obtain ⟨ds, μ, Qd, _, r, z, _⟩ := h; exact (Ab z).elim, fun A outer s H args us vs Q E hr e0 hb hv h => by obtain ⟨ds, μ, Qd, _, r, z, _⟩ := h; exact (Ab z).elim⟩
theorem fH (T : TX e) (n k : Nat) (hk : 4 <= k) (aG : bU e) (aQ : dy e) (bc : d4 e) (cj : iJ e) (cA : bL e.P e.w e.K e.mg e.base CX0 k e.t.bW e.t.cE ["_law_d", "_law_kinds_here", "_law_plan_here"] (spD e.K (eB n))) : bL e.P e.w e.K e.mg e.base CX0 (k + 1) e.t.bW e.t.cE ["_law_d", "_law_kinds_here", "_law_plan_here"] (spD e.K (eB (n + 1))) := by
  have S := rS
  exact T.tV.okD S (fun ds μ Q h => AU h) (fun cdv A outer s H E hr => ⟨gU n, (aq (cO (bu (fD hr.units) dP (aE (dv 2) af (fun _ _ => rfl)) bz (aW _)) (ay (aK (aE (dv 1) (aE (dv 2) af (fun _ _ => rfl)) (fun _ _ => rfl)))) bB)
    (aq (cO (bu (fD hr.units) dP (aE (dv 2) af (fun _ _ => rfl)) bz (aW _)) (ay (aK (aj aG (hr.mono (by omega)) rfl T.bQ T.bN T.bO (aa (dv 0) (aa (aj cA (hr.mono (by omega)) rfl T.fv T.fi T.fq (aa (dv 0) (aa (dv 1) (aa (aE (dv 2) af (fun _ _ => rfl)) ah)))) ah))))) bB)
    (aq (cO (bu (fD hr.units) dP (aE (dv 2) af (fun _ _ => rfl)) bz (aW _)) (ay (aK (aj aQ (hr.mono (by omega)) rfl T.dg T.dh T.dj (aa (dv 0) (aa (aj bc (hr.mono (by omega)) rfl T.gL T.gQ T.gK (aa (aE (dv 2) af (fun _ _ => rfl)) (aa af (aa (aE (dv 2) af (fun _ _ => rfl)) ah)))) (aa (aj cA (hr.mono (by omega)) rfl T.fv T.fi T.fq (aa (dv 0) (aa (dv 1) (aa (aE (dv 2) af (fun _ _ => rfl)) ah)))) ah)))))) bB)
    (aq (aU (i := 3) S.nd rfl (Or.inl rfl) (aI (aa af (aa af (aa af ah)))))
    (aq (vD PassesOwn.never rfl (x9 (aE (dv 2) af (fun _ _ => rfl))) (bA (i := 4) S.nd rfl (Or.inl rfl)) (aq (aU (i := 5) S.nd rfl (Or.inl rfl) (aj cA (hr.mono (by omega)) rfl T.fv T.fi T.fq (aa (dv 0) (aa (dv 1) (aa (dv 4) ah)))))
    (ay (aU (i := 3) S.nd rfl (Or.inl rfl) (aj cj (hr.mono (by omega)) rfl T.qk T.p7 T.pj (aa (dv 3) (aa (xV (bu (fD hr.units) dP (aE (dv 2) af (fun _ _ => rfl)) bz (aW _)) (dv 5) (aj aG (hr.mono (by omega)) rfl T.bQ T.bN T.bO (aa (dv 0) (aa (dv 5) ah)))) ah)))))))
    (ay (aK (xV (bu (fD hr.units) dP (aE (dv 2) af (fun _ _ => rfl)) bz (aW _)) (dv 3) (aj aG (hr.mono (by omega)) rfl T.bQ T.bN T.bO (aa (dv 0) (aa (dv 3) ah))))))))))), fun ds μ Qd h => su n h⟩)
theorem rP (T : TX e) (aG : bU e) (aQ : dy e) (bc : d4 e) (cj : iJ e) : bL e.P e.w e.K e.mg e.base CX0 7 e.t.bW e.t.cE ["_law_d", "_law_kinds_here", "_law_plan_here"] (spD e.K (eB 3)) := (fH T 2 6 (by decide) aG aQ bc cj (fH T 1 5 (by decide) aG aQ bc cj (fH T 0 4 (by decide) aG aQ bc cj pC)))
theorem ly : aP ["_law_d", "_law_kinds_here", "_law_signs", "_law_shape", "_law_nought"] ["_law_d", "_law_kinds_here"] (aD bI) := ⟨rfl, rfl, rfl, by decide +kernel, rfl, by decide +kernel, by decide +kernel⟩
theorem lu (T : TX e) (ik : nJ e) (dz : kC e) (mH : vz e) : fX e := by
  have S := ly
  exact T.mh.okD S (fun ds μ Q h => BR h) (fun cdv A outer s H E hr => ⟨dQ, (aq (tN (i := 2) (N' := ["_law_kind", "_law_d"]) (cap := [none, some 0]) S.nd rfl rfl rfl (x9 (dv 1)) (fun _ _ _ => (bA (i := 0) (show List.Nodup (["_law_kind", "_law_d"] : List Str) by decide +kernel) rfl (Or.inl rfl))) (fun _ _ _ => pW) (fun _ _ _ => (aj ik (hr.mono (by decide)) rfl T.vU T.v7 T.wk (aa (dv 1) (aa (aj dz (hr.mono (by decide)) rfl T.lO T.lT T.lQ (aa (dv 0) ah)) ah)))) rfl (by decide +kernel) rfl (by decide +kernel) (by intro _ _ h; first | exact h | exact cl1 h | exact cl2 (by decide +kernel) h | exact cl3 (by decide +kernel) h | exact bJ (bf rfl dr) _ _ h | exact bJ (bf rfl (bf rfl dr)) _ _ h | exact bJ (bf rfl (bf rfl (bf rfl dr))) _ _ h | cases h) (jx rfl) rfl (lj ⟨Iw, trivial⟩))
    (aq (cO (bu oU gk (Jo rfl rfl T.nh rfl T.QV (dv 2)) af (aW _)) (ay (aK hR)) bB)
    (aq (aU (i := 3) S.nd rfl (Or.inl rfl) (aE (da (aa (aI (aa af (aa af (aa af ah)))) (aa (aI (aa af (aa af (aa af ah)))) ah))) (mz rfl T.xS (aa (jt lS gk (aE (dv 2) af (fun _ _ => rfl)) af (aW _)) ah)) (fun _ _ => rfl)))
    (aq (aU (i := 4) S.nd rfl (Or.inl rfl) (aI (aa af (aa af (aa af ah)))))
    (ay (aK (jt N8 QW (aj mH (hr.mono (by decide)) rfl T.mB T.nB T.mK (aa (dv 0) (aa (dv 1) (aa (dv 3) (aa (aI (aa (aI (aa af (aa af (aa af ah)))) (aa (aI (aa (dv 4) (aa (dv 4) (aa (dv 4) (aa (aI (aa (aE (dv 2) af (fun _ _ => rfl)) (aa af (aa af ah)))) ah))))) ah))) ah))))) hR (aW _)))))))), fun ds μ Qd h => lr h⟩)
theorem gA : aP ["_law_deed", "e", "_law_some", "_law_names"] ["_law_deed"] (aD eC) := ⟨rfl, rfl, rfl, by decide +kernel, rfl, by decide +kernel, by decide +kernel⟩
theorem BY (T : TX e) : ue e := by
  have S := gA
  exact LH (k := 7) T.pq gA rfl rfl rfl rfl T.uD T.rR (by decide) (by decide) (by decide) (fun _ => rfl) (fun cdv A outer s H ea oe hc hr => (aq (aU (i := 2) S.nd rfl (Or.inl rfl) (da (aa (aI (aa bz (aa (cR (ea := ea) (oe := oe) T.cB (List.mem_cons_self) hc T.iS rfl T.aH rfl T.Ej (dv 1)) ah))) (aa (aI (aa bz (aa (cR (ea := ea) (oe := oe) T.cB (List.mem_cons_self) hc T.gj rfl T.aH rfl T.sf (dv 1)) ah))) (aa (aI (aa bz (aa (cR (ea := ea) (oe := oe) T.cB (List.mem_cons_self) hc T.gh rfl T.aH rfl T.xQ (dv 1)) ah))) (aa (aI (aa bz (aa (cR (ea := ea) (oe := oe) T.cB (List.mem_cons_self) hc T.iG rfl T.aH rfl T.CM (dv 1)) ah))) (aa (aI (aa bz (aa (cR (ea := ea) (oe := oe) T.cB (List.mem_cons_self) hc T.jm rfl T.aH rfl T.Ij (dv 1)) ah))) (aa (aI (aa bz (aa (cR (ea := ea) (oe := oe) T.cB (List.mem_cons_self) hc T.gF rfl T.aH rfl T.u6 (dv 1)) ah))) (aa (aI (aa bz (aa (cR (ea := ea) (oe := oe) T.cB (List.mem_cons_self) hc T.iR rfl T.aH rfl T.EK (dv 1)) ah))) (aa (aI (aa bz (aa (cR (ea := ea) (oe := oe) T.cB (List.mem_cons_self) hc T.iQ rfl T.aH rfl T.D3 (dv 1)) ah))) (aa (aI (aa bz (aa (cR (ea := ea) (oe := oe) T.cB (List.mem_cons_self) hc T.ji rfl T.aH rfl T.Hl (dv 1)) ah))) (aa (aI (aa bz (aa (cR (ea := ea) (oe := oe) T.cB (List.mem_cons_self) hc T.iF rfl T.aH rfl T.EH (dv 1)) ah))) (aa (aI (aa bz (aa (cR (ea := ea) (oe := oe) T.cB (List.mem_cons_self) hc T.gg rfl T.aH rfl T.yg (dv 1)) ah))) (aa (aI (aa bz (aa (cR (ea := ea) (oe := oe) T.cB (List.mem_cons_self) hc T.i5 rfl T.aH rfl T.EE (dv 1)) ah))) (aa (aI (aa bz (aa (cR (ea := ea) (oe := oe) T.cB (List.mem_cons_self) hc T.gW rfl T.aH rfl T.Av (dv 1)) ah))) ah)))))))))))))))
    (aq (tN (i := 3) (N' := ["_law_name", "_law_is_so"]) (cap := [none, none]) S.nd rfl rfl rfl (Cz (dv 2)) (fun _ _ _ => (p6 (n := 2) rfl (bY (bA (i := 0) (show List.Nodup (["_law_name", "_law_is_so"] : List Str) by decide +kernel) rfl (Or.inl rfl)) (bY (bA (i := 1) (show List.Nodup (["_law_name", "_law_is_so"] : List Str) by decide +kernel) rfl (Or.inl rfl)) lL)))) (fun _ _ _ => (xy (eh (dv 1)))) (fun _ _ _ => (dv 0)) rfl (by decide +kernel) rfl (by decide +kernel) (by intro _ _ h; first | exact h | exact cl1 h | exact cl2 (by decide +kernel) h | exact cl3 (by decide +kernel) h | exact bJ (bf rfl dr) _ _ h | exact bJ (bf rfl (bf rfl dr)) _ _ h | exact bJ (bf rfl (bf rfl (bf rfl dr))) _ _ h | cases h) (jx rfl) rfl (lj trivial))
    (aq (cO (DW.dt (xl (bu (fD hr.units) dP (kh rfl T.nh (aa (dv 3) ah)) af (aW _)) (uF (eh (Hg (ea := ea) (oe := oe) (T := "ValueError") T.cB (List.mem_cons_self) hc T.oQ rfl T.aH rfl T.uI PyProof.Rows.Boot.«ValueError» (dv 1)))))) (ay (aK (aE (dv 3) af (fun _ _ => rfl)))) bB)
    (ay (aK bz)))))) (fun ea fa μ Qd h => ma h)
theorem Eo (T : TX e) : we e := by
  have S := gA
  exact LH (k := 7) T.pq gA rfl rfl rfl rfl T.uD T.vh (by decide) (by decide) (by decide) (fun _ => rfl) (fun cdv A outer s H ea oe hc hr => (aq (aU (i := 2) S.nd rfl (Or.inl rfl) (da (aa (aI (aa bz (aa (cR (ea := ea) (oe := oe) T.cU (List.mem_cons_self) hc T.jn rfl T.aH rfl T.Ej (dv 1)) ah))) (aa (aI (aa bz (aa (cR (ea := ea) (oe := oe) T.cU (List.mem_cons_self) hc T.gO rfl T.aH rfl T.sf (dv 1)) ah))) (aa (aI (aa bz (aa (cR (ea := ea) (oe := oe) T.cU (List.mem_cons_self) hc T.gH rfl T.aH rfl T.xQ (dv 1)) ah))) (aa (aI (aa bz (aa (cR (ea := ea) (oe := oe) T.cU (List.mem_cons_self) hc T.jd rfl T.aH rfl T.CM (dv 1)) ah))) (aa (aI (aa bz (aa (cR (ea := ea) (oe := oe) T.cU (List.mem_cons_self) hc T.km rfl T.aH rfl T.Ij (dv 1)) ah))) (aa (aI (aa bz (aa (cR (ea := ea) (oe := oe) T.cU (List.mem_cons_self) hc T.iZ rfl T.aH rfl T.u6 (dv 1)) ah))) (aa (aI (aa bz (aa (cR (ea := ea) (oe := oe) T.cU (List.mem_cons_self) hc T.jA rfl T.aH rfl T.EK (dv 1)) ah))) (aa (aI (aa bz (aa (cR (ea := ea) (oe := oe) T.cU (List.mem_cons_self) hc T.jb rfl T.aH rfl T.D3 (dv 1)) ah))) (aa (aI (aa bz (aa (cR (ea := ea) (oe := oe) T.cU (List.mem_cons_self) hc T.kc rfl T.aH rfl T.Hl (dv 1)) ah))) (aa (aI (aa bz (aa (cR (ea := ea) (oe := oe) T.cU (List.mem_cons_self) hc T.jw rfl T.aH rfl T.EH (dv 1)) ah))) (aa (aI (aa bz (aa (cR (ea := ea) (oe := oe) T.cU (List.mem_cons_self) hc T.gS rfl T.aH rfl T.yg (dv 1)) ah))) (aa (aI (aa bz (aa (cR (ea := ea) (oe := oe) T.cU (List.mem_cons_self) hc T.jg rfl T.aH rfl T.EE (dv 1)) ah))) (aa (aI (aa bz (aa (cR (ea := ea) (oe := oe) T.cU (List.mem_cons_self) hc T.iD rfl T.aH rfl T.Av (dv 1)) ah))) ah)))))))))))))))
    (aq (tN (i := 3) (N' := ["_law_name", "_law_is_so"]) (cap := [none, none]) S.nd rfl rfl rfl (Cz (dv 2)) (fun _ _ _ => (p6 (n := 2) rfl (bY (bA (i := 0) (show List.Nodup (["_law_name", "_law_is_so"] : List Str) by decide +kernel) rfl (Or.inl rfl)) (bY (bA (i := 1) (show List.Nodup (["_law_name", "_law_is_so"] : List Str) by decide +kernel) rfl (Or.inl rfl)) lL)))) (fun _ _ _ => (xy (eh (dv 1)))) (fun _ _ _ => (dv 0)) rfl (by decide +kernel) rfl (by decide +kernel) (by intro _ _ h; first | exact h | exact cl1 h | exact cl2 (by decide +kernel) h | exact cl3 (by decide +kernel) h | exact bJ (bf rfl dr) _ _ h | exact bJ (bf rfl (bf rfl dr)) _ _ h | exact bJ (bf rfl (bf rfl (bf rfl dr))) _ _ h | cases h) (jx rfl) rfl (lj trivial))
    (aq (cO (DW.dt (xl (bu (fD hr.units) dP (kh rfl T.nh (aa (dv 3) ah)) af (aW _)) (uF (eh (Hg (ea := ea) (oe := oe) (T := "ValueError") T.cU (List.mem_cons_self) hc T.pO rfl T.aH rfl T.uI PyProof.Rows.Boot.«ValueError» (dv 1)))))) (ay (aK (aE (dv 3) af (fun _ _ => rfl)))) bB)
    (ay (aK bz)))))) (fun ea fa μ Qd h => mT h)
theorem rf : aP ["_law_bag_here", "_law_d", "_law_kinds_here", "_law_shape", "_law_bar", "_law_bad", "_law_wrong", "_law_deeds"] ["_law_bag_here", "_law_d", "_law_kinds_here", "_law_shape", "_law_bar"] (aD cN) := ⟨rfl, rfl, rfl, by decide +kernel, rfl, by decide +kernel, by decide +kernel⟩
theorem rh (T : TX e) (jz : lG e) (dG : iX e) (nE : we e) (fw : kJ e) (lK : ue e) (eJ : kq e) : ko e := by
  have S := rf
  exact T.rQ.RL S (fun ds μ Q h => BO h) (fun cdv hcv A outer s H E hr => ⟨gf _ _ _ _, (aq (qj (aI (aa (aj jz (hr.mono (by decide)) rfl T.vo T.vm T.uZ (aa (dv 0) (aa (dv 1) (aa (dv 2) ah)))) (aa (aj dG (hr.mono (by decide)) rfl T.nc T.mW T.mE (aa (dv 0) (aa (dv 1) ah))) ah))) (p6 (n := 2) rfl (bY (bA (i := 5) S.nd rfl (Or.inr rfl)) (bY (bA (i := 6) S.nd rfl (Or.inr rfl)) lL))))
    (aq (aU (i := 7) S.nd rfl (Or.inl rfl) (L7 (aa (w6 (aa bz (aa (AZ T.eN (hcv.symm.trans T.en) rfl rfl rfl) ah))) (aa (w6 (aa bz (aa (AZ T.eN (hcv.symm.trans T.en) rfl rfl rfl) ah))) (aa (w6 (aa bz (aa (AZ T.eN (hcv.symm.trans T.en) rfl rfl rfl) ah))) (aa (w6 (aa bz (aa (AZ T.eN (hcv.symm.trans T.en) rfl rfl rfl) ah))) ah))))))
    (ay (aK (FH rfl rfl T.Ls (aa (LK (N' := ["_law_name", "_law_deed"]) (gx := ".") (cap := [none, none]) rfl (dv 7) (fun _ _ _ => (Mr (n := 2) rfl (El (bA (i := 0) (show List.Nodup (["_law_name", "_law_deed", "."] : List Str) by decide +kernel) rfl (Or.inl rfl)) (El (bA (i := 1) (show List.Nodup (["_law_name", "_law_deed", "."] : List Str) by decide +kernel) rfl (Or.inl rfl)) Mw)))) (fun fp s₃ H₃ pins σ ρo μ₁ G I3 S3 hfp hG => (jt (fD hr.units) dP (EY (gi := 2) (vi := 1) I3 hfp hG (qL (Ig (N' := (["_law_d", "_law_bad", "_law_shape", "_law_bar"] : List Str)) (cap := [some 1, some 5, some 3, some 4]) nE (fun A' outer' s' H' fa c1 E hrL => (qQ fw (hrL.mono (by decide)) rfl T.mB T.nB T.mK wV (aa (dv 0) (aa (dv 1) (aa (dv 2) (aa (dv 3) ah)))))) (fun _ _ _ => rfl) rfl rfl rfl (by decide +kernel) (by intro _ _ h; first | exact h | exact cl1 h | exact cl2 (by decide +kernel) h | exact cl3 (by decide +kernel) h | exact bJ (bf rfl dr) _ _ h | exact bJ (bf rfl (bf rfl dr)) _ _ h | exact bJ (bf rfl (bf rfl (bf rfl dr))) _ _ h | exact bJ (bf rfl (bf rfl (bf rfl (bf rfl dr)))) _ _ h | exact bJ dr _ _ h | cases h) (jx rfl) rfl (tm ⟨kP, ⟨kP, ⟨kP, ⟨kP, trivial⟩⟩⟩⟩)) (qL (Ig (N' := (["_law_d", "_law_bad", "_law_wrong", "_law_bar"] : List Str)) (cap := [some 1, some 5, some 6, some 4]) nE (fun A' outer' s' H' fa c1 E hrL => (qQ fw (hrL.mono (by decide)) rfl T.mB T.nB T.mK wV (aa (dv 0) (aa (dv 1) (aa (dv 2) (aa (dv 3) ah)))))) (fun _ _ _ => rfl) rfl rfl rfl (by decide +kernel) (by intro _ _ h; first | exact h | exact cl1 h | exact cl2 (by decide +kernel) h | exact cl3 (by decide +kernel) h | exact bJ (bf rfl dr) _ _ h | exact bJ (bf rfl (bf rfl dr)) _ _ h | exact bJ (bf rfl (bf rfl (bf rfl dr))) _ _ h | exact bJ (bf rfl (bf rfl (bf rfl (bf rfl dr)))) _ _ h | exact bJ dr _ _ h | cases h) (jx rfl) rfl (tm ⟨kP, ⟨kP, ⟨kP, ⟨kP, trivial⟩⟩⟩⟩)) (qL (Ig (N' := (["_law_d", "_law_kinds_here", "_law_wrong", "_law_bar"] : List Str)) (cap := [some 1, some 2, some 6, some 4]) lK (fun A' outer' s' H' fa c1 E hrL => (qQ eJ (hrL.mono (by decide)) rfl T.mB T.nB T.mK wV (aa (dv 0) (aa (dv 1) (aa (dv 2) (aa (dv 3) ah)))))) (fun _ _ _ => rfl) rfl rfl rfl (by decide +kernel) (by intro _ _ h; first | exact h | exact cl1 h | exact cl2 (by decide +kernel) h | exact cl3 (by decide +kernel) h | exact bJ (bf rfl dr) _ _ h | exact bJ (bf rfl (bf rfl dr)) _ _ h | exact bJ (bf rfl (bf rfl (bf rfl dr))) _ _ h | exact bJ (bf rfl (bf rfl (bf rfl (bf rfl dr)))) _ _ h | exact bJ dr _ _ h | cases h) (jx rfl) rfl (tm ⟨kP, ⟨kP, ⟨kP, ⟨kP, trivial⟩⟩⟩⟩)) (qL (Ig (N' := (["_law_d", "_law_kinds_here", "_law_wrong"] : List Str)) (cap := [some 1, some 2, some 6]) lK (fun A' outer' s' H' fa c1 E hrL => (qQ eJ (hrL.mono (by decide)) rfl T.mB T.nB T.mK wV (aa (dv 0) (aa (dv 1) (aa (dv 2) (aa E7 ah)))))) (fun _ _ _ => rfl) rfl rfl rfl (by decide +kernel) (by intro _ _ h; first | exact h | exact cl1 h | exact cl2 (by decide +kernel) h | exact cl3 (by decide +kernel) h | exact bJ (bf rfl dr) _ _ h | exact bJ (bf rfl (bf rfl dr)) _ _ h | exact bJ (bf rfl (bf rfl (bf rfl dr))) _ _ h | exact bJ (bf rfl (bf rfl (bf rfl (bf rfl dr)))) _ _ h | exact bJ dr _ _ h | cases h) (jx rfl) rfl (tm ⟨kP, ⟨kP, ⟨kP, trivial⟩⟩⟩)) JG)))) (hr.mono (by decide)) (by decide) rfl T.ze T.x6 T.xt rfl (Or.inl rfl)) (dv 0) (aW _))) rfl (by decide +kernel) rfl (by decide +kernel) (by intro _ _ h; first | exact h | exact cl1 h | exact cl2 (by decide +kernel) h | exact cl3 (by decide +kernel) h | exact bJ (bf rfl dr) _ _ h | exact bJ (bf rfl (bf rfl dr)) _ _ h | exact bJ (bf rfl (bf rfl (bf rfl dr))) _ _ h | exact bJ (bf rfl (bf rfl (bf rfl (bf rfl dr)))) _ _ h | exact bJ dr _ _ h | cases h) (jx rfl) rfl (lj trivial) rfl) ah)))))), fun ds μ Qd h => q5 _ _ _ _ h⟩)
theorem Pa : aP ["_law_script", "_law_k", "_law_bag_here", "_law_d", "_law_kinds_here", "_law_shape", "_law_part", "_law_laid", "_law_turn", "_law_bar"] ["_law_script"] (aD rA) := ⟨rfl, rfl, rfl, by decide +kernel, rfl, by decide +kernel, by decide +kernel⟩
theorem Ox (T : TX e) (sP : wj e) (pZ : uj e) (nH : rB e) (cA : sU e) (fE : A8 e) (bc : d4 e) (av : bT e) (aG : bU e) (aQ : dy e) (kd : nq e) (mH : vz e) (gJ : ko e) (el : fX e) : Kk e := by
  have S := Pa
  exact T.P8.okD S (fun ds μ Q h => Jf h) (fun cdv A outer s H E hr => ⟨GW, (aq (vD PassesOwn.never rfl (tQ rfl T.qN (aa (ND rfl rfl T.Q5 (aa af (aa (O0 rfl rfl T.QR (aa af (aa (kh rfl T.nh (aa (dv 0) ah)) ah))) ah))) ah)) (bA (i := 1) S.nd rfl (Or.inl rfl)) (aq (aU (i := 2) S.nd rfl (Or.inl rfl) (aj sP (hr.mono (by decide)) rfl T.Fy T.ES T.EU (aa (dv 0) (aa (dv 1) ah))))
    (aq (aU (i := 3) S.nd rfl (Or.inl rfl) (aj pZ (hr.mono (by decide)) rfl T.Ee T.D0 T.Ei (aa (dv 2) ah)))
    (aq (aU (i := 4) S.nd rfl (Or.inl rfl) (aj nH (hr.mono (by decide)) rfl T.Bc T.AO T.Ck (aa (dv 2) (aa (dv 3) ah))))
    (aq (aU (i := 5) S.nd rfl (Or.inl rfl) (aj cA (hr.mono (by decide)) rfl T.fv T.fi T.fq (aa (dv 3) (aa (dv 4) (aa (aj fE (hr.mono (by decide)) rfl T.lA T.lJ T.lR (aa (dv 2) (aa (kh rfl T.nh (aa (dv 4) ah)) (aa af ah)))) ah)))))
    (aq (aU (i := 6) S.nd rfl (Or.inl rfl) (aj bc (hr.mono (by decide)) rfl T.gL T.gQ T.gK (aa (jN af (aj av (hr.mono (by decide)) rfl T.aN T.aM T.aL (aa (dv 2) (aa af ah)))) (aa af (aa (jN af (aj av (hr.mono (by decide)) rfl T.aN T.aM T.aL (aa (dv 2) (aa af ah)))) ah)))))
    (aq (vD PassesOwn.never rfl (Cz (da (aa (dv 5) (aa (aj aG (hr.mono (by decide)) rfl T.bQ T.bN T.bO (aa (dv 3) (aa (dv 5) ah))) (aa (aj aQ (hr.mono (by decide)) rfl T.dg T.dh T.dj (aa (dv 3) (aa (dv 5) (aa (dv 6) ah)))) ah))))) (bA (i := 7) S.nd rfl (Or.inl rfl)) (aq (vD PassesOwn.never rfl (tQ rfl T.qN (aa af ah)) (bA (i := 8) S.nd rfl (Or.inl rfl)) (aq (aU (i := 9) S.nd rfl (Or.inl rfl) (aj kd (hr.mono (by decide)) rfl T.wB T.wL T.wC (aa (dv 2) (aa (dv 3) (aa (dv 4) (aa (dv 7) ah))))))
    (ay (cO (bu Im JH (aj mH (hr.mono (by decide)) rfl T.mB T.nB T.mK (aa (dv 3) (aa (dv 4) (aa (dv 7) (aa (dv 9) ah))))) hR (aW _)) (ay (aK hR)) bB))))
    (ay (cO (fB (eh (aj gJ (hr.mono (by decide)) rfl T.sD T.sX T.sI (aa (dv 2) (aa (dv 3) (aa (dv 4) (aa (dv 7) (aa (dv 9) ah)))))))) (ay (aK hR)) bB))))
    (ay (cO (fB (eh (aj el (hr.mono (by decide)) rfl T.ml T.me T.mf (aa (dv 3) (aa (dv 4) ah))))) (ay (aK hR)) bB)))))))))
    (ay (aK hR))), fun ds μ Qd h => NK h⟩)
theorem Ph (T : TX e) : Kk e := by
  have kX := En T
  have fQ := tM T
  have oi := aX T
  have dS := vk T
  have sP := CS T
  have av := CD T
  have jL := yp T
  have fR := zT T
  have dz := AJ T
  have ik := Bq T
  have dF := tW T fQ
  have eU := Fx T dS
  have tf := DH T dS
  have bc := DB T jL
  have pZ := Bl T av
  have sH := DQ T av
  have ie := Bz T kX dF
  have iC := Iv T dF
  have cj := AR T bc
  have aQ := zI T bc
  have aG := vH T bc
  have mq := xx T av bc
  have qc := aT T iC
  have cV := au T iC
  have sG := aC T iC
  have bg := si T ie eU
  have nN := zJ T ie
  have cP := zy T mq ik av fR
  have qu := Cd T aQ dz aG
  have fI := o8 T cj dz aQ aG
  have cC := iw T bg
  have eM := nr T bg
  have jD := Ex T bg
  have vR := Fq T qc cV oi
  have jO := yU T cV oi eU qc tf
  have nH := zN T cP av aG aQ bc
  have dG := uQ T cP sH fR av
  have fE := Cj T av
  have kR := wD T av aG qu aQ cj fI
  have ej := lz T jD
  have dX := vP T jD
  have jz := uO T av dG
  have kd := vQ T aG cP av kR
  have fw := sv T ej
  have eJ := rm T dX cC
  have mH := IB T dX eM bg nN jO sG eU vR cV
  have cA := rP T aG aQ bc cj
  have el := lu T ik dz mH
  have lK := BY T
  have nE := Eo T
  have gJ := rh T jz dG nE fw lK eJ
  exact Ox T sP pZ nH cA fE bc av aG aQ kd mH gJ el
end
theorem all_mk {l : PySem.W.OpenLaw} {w : World} {K : PySem.W.Frag} {h : Heap} {mg : Str -> Option Value} {fa : Addr} (X : K.In h) (G : h.Ns mainGlobals mg) (hfa : mg "law" = some (.ref fa))
    {f0 c0 f1 c1 f2 c2 f3 c3 f4 c4 f5 c5 f6 c6 f7 c7 f8 c8 f9 c9 f10 c10 f11 c11 f12 c12 f13 c13 f14 c14 f15 c15 f16 c16 f17 c17 f18 c18 f19 c19 f20 c20 f21 c21 f22 c22 f23 c23 f24 c24 f25 c25 f26 c26 f27 c27 f28 c28 f29 c29 f30 c30 f31 c31 f32 c32 f33 c33 f34 c34 f35 c35 f36 c36 f37 c37 f38 c38 f39 c39 f40 c40 f41 c41 f42 c42 f43 c43 f44 c44 f45 c45 f46 c46 : Addr} {t0 t1 t2 t3 t4 t5 t6 t7 t8 t9 t10 t11 t12 t13 t14 t15 t16 t17 t18 t19 t20 t21 t22 t23 t24 t25 t26 t27 t28 t29 t30 t31 t32 t33 t34 t35 t36 t37 t38 t39 t40 t41 t42 t43 t44 t45 t46 : Tok} {m0 m1 m2 m3 m4 m5 m6 m7 m8 m9 m10 m11 m12 m13 m14 m15 m16 m17 m18 m19 m20 m21 m22 m23 m24 m25 m26 m27 m28 m29 m30 m31 m32 m33 m34 m35 m36 m37 m38 m39 m40 m41 m42 m43 m44 m45 m46 : Str} {q0 : Tok} {du : Addr} {hW : Addr} {aA : Addr} {eI : Addr} {ic : Addr} {jU : Addr} {aF : Addr} {hU : Addr} {g8 : Addr} {jX : Addr} {g7 : Addr} {eE : Addr} {g0 : Addr} {fA : Addr} {bm : Addr} {bsl : Array (Option Value)} {cI dJ : Addr}
    (a0 : FQ K "is_whole" jI f0 c0 t0 m0)
    (a1 : FQ K "common_divisor" dA f1 c1 t1 m1)
    (a2 : FQ K "is_number" il f2 c2 t2 m2)
    (a3 : FQ K "divisor_of_all" dD f3 c3 t3 m3)
    (a4 : FQ K "number" mC f4 c4 t4 m4)
    (a5 : FQ K "mate" vI f5 c5 t5 m5)
    (a6 : FQ K "plus" vw f6 c6 t6 m6)
    (a7 : FQ K "times" qW f7 c7 t7 m7)
    (a8 : FQ K "contrary" jE f8 c8 t8 m8)
    (a9 : FQ K "sign_of" kF f9 c9 t9 m9)
    (a10 : FQ K "sign_of_parts" dY f10 c10 t10 m10)
    (a11 : FQ K "is_above" jG f11 c11 t11 m11)
    (a12 : FQ K "is_above_nought" cW f12 c12 t12 m12)
    (a13 : FQ K "must_be_above_nought" bV f13 c13 t13 m13)
    (a14 : FQ K "is_kinds" jh f14 c14 t14 m14)
    (a15 : FQ K "must_be_kinds" dW f15 c15 t15 m15)
    (a16 : FQ K "is_weights" fS f16 c16 t16 m16)
    (a17 : FQ K "weighed" kG f17 c17 t17 m17)
    (a18 : FQ K "never_below" eT f18 c18 t18 m18)
    (a19 : FQ K "is_bar" mP f19 c19 t19 m19)
    (a20 : FQ K "_law_bag" jC f20 c20 t20 m20)
    (a21 : FQ K "_law_take" hJ f21 c21 t21 m21)
    (a22 : FQ K "_law_shared" eX f22 c22 t22 m22)
    (a23 : FQ K "_law_low" ju f23 c23 t23 m23)
    (a24 : FQ K "_law_plus" ib f24 c24 t24 m24)
    (a25 : FQ K "_law_minus" fP f25 c25 t25 m25)
    (a26 : FQ K "_law_mate" ia f26 c26 t26 m26)
    (a27 : FQ K "_law_times" fV f27 c27 t27 m27)
    (a28 : FQ K "_law_contrary" dZ f28 c28 t28 m28)
    (a29 : FQ K "_law_sign" g9 f29 c29 t29 m29)
    (a30 : FQ K "_law_root" ig f30 c30 t30 m30)
    (a31 : FQ K "_law_number" eW f31 c31 t31 m31)
    (a32 : FQ K "_law_above" fN f32 c32 t32 m32)
    (a33 : FQ K "_law_odd" jf f33 c33 t33 m33)
    (a34 : FQ K "_law_refusal" eC f34 c34 t34 m34)
    (a35 : FQ K "_law_kinds" fT f35 c35 t35 m35)
    (a36 : FQ K "_law_bad_above" dE f36 c36 t36 m36)
    (a37 : FQ K "_law_bad_kinds" dH f37 c37 t37 m37)
    (a38 : FQ K "_law_plan_shape" cZ f38 c38 t38 m38)
    (a39 : FQ K "_law_lean" iq f39 c39 t39 m39)
    (a40 : FQ K "_law_lean_fraction" cq f40 c40 t40 m40)
    (a41 : FQ K "_law_plan" gY f41 c41 t41 m41)
    (a42 : FQ K "_law_weights" ey f42 c42 t42 m42)
    (a43 : FQ K "_law_bar_like" dU f43 c43 t43 m43)
    (a44 : FQ K "_law_are_refused" cN f44 c44 t44 m44)
    (a45 : FQ K "_law_is_barred_by_sign" bI f45 c45 t45 m45)
    (a46 : FQ K "law" rA f46 c46 t46 m46)
    (z0 : PySem.W.nsIn K mainGlobals "isinstance" = some none)
    (z1 : PySem.W.nsIn K mainGlobals "int" = some none)
    (z2 : PySem.W.nsIn K mainGlobals "bool" = some none)
    (z3 : PySem.W.nsIn K mainGlobals "abs" = some none)
    (z4 : PySem.W.nsIn K mainGlobals "tuple" = some none)
    (z5 : PySem.W.nsIn K mainGlobals "len" = some none)
    (z6 : PySem.W.nsIn K mainGlobals "all" = some none)
    (z7 : PySem.W.nsIn K mainGlobals "range" = some none)
    (z8 : PySem.W.nsIn K mainGlobals "ValueError" = some none)
    (z9 : PySem.W.nsIn K mainGlobals "list" = some none)
    (z10 : PySem.W.nsIn K mainGlobals "set" = some none)
    (z11 : PySem.W.nsIn K mainGlobals "max" = some none)
    (z12 : PySem.W.nsIn K mainGlobals "min" = some none)
    (v0 : PySem.W.nsIn K mainGlobals "MOST_KINDS" = some (some (.int 3 q0)))
    (y0 : PySem.W.nsIn K mainGlobals "FloorError" = some (some (.ref du)))
    (y1 : PySem.W.nsIn K mainGlobals "NoRoot" = some (some (.ref hW)))
    (y2 : PySem.W.nsIn K mainGlobals "NoNumber" = some (some (.ref aA)))
    (y3 : PySem.W.nsIn K mainGlobals "NoLaying" = some (some (.ref eI)))
    (y4 : PySem.W.nsIn K mainGlobals "NoTile" = some (some (.ref ic)))
    (y5 : PySem.W.nsIn K mainGlobals "NoFit" = some (some (.ref jU)))
    (y6 : PySem.W.nsIn K mainGlobals "NoKinds" = some (some (.ref aF)))
    (y7 : PySem.W.nsIn K mainGlobals "NoPlan" = some (some (.ref hU)))
    (y8 : PySem.W.nsIn K mainGlobals "NoSpot" = some (some (.ref g8)))
    (y9 : PySem.W.nsIn K mainGlobals "NoNet" = some (some (.ref jX)))
    (y10 : PySem.W.nsIn K mainGlobals "NoText" = some (some (.ref g7)))
    (y11 : PySem.W.nsIn K mainGlobals "NoSaying" = some (some (.ref eE)))
    (y12 : PySem.W.nsIn K mainGlobals "NoName" = some (some (.ref g0)))
    (y13 : PySem.W.nsIn K mainGlobals "TooMany" = some (some (.ref fA)))
    (sS : PySem.W.excIn K (aA) bmV "ValueError.__new__" = true)
    (rR : PySem.W.exmOne K (.ref aA) (.ref du) = some true)
    (z1_NoNumber : PySem.W.findIn K (.ref aA) "__getattribute__" = some (some (.builtin "BaseException.__getattribute__")))
    (z2_NoNumber : PySem.W.findIn K (.ref aA) "__getattr__" = some none)
    (z3_NoNumber : PySem.W.findIn K (.ref aA) "__class__" = some (some (.builtin "object.__class__")))
    (z4_NoNumber : PySem.W.mroIn K aA (.type "object") = some true)
    (z5_NoNumber : PySem.W.mroIn K aA (.type "BaseException") = some true)
    (z6_NoNumber : (PySem.W.clsIn K aA).isSome = true)
    (iS : PySem.W.kitOne K (.ref aA) (.ref hW) = some false)
    (gj : PySem.W.kitOne K (.ref aA) (.ref aA) = some true)
    (gh : PySem.W.kitOne K (.ref aA) (.ref eI) = some false)
    (iG : PySem.W.kitOne K (.ref aA) (.ref ic) = some false)
    (jm : PySem.W.kitOne K (.ref aA) (.ref jU) = some false)
    (gF : PySem.W.kitOne K (.ref aA) (.ref aF) = some false)
    (iR : PySem.W.kitOne K (.ref aA) (.ref hU) = some false)
    (iQ : PySem.W.kitOne K (.ref aA) (.ref g8) = some false)
    (ji : PySem.W.kitOne K (.ref aA) (.ref jX) = some false)
    (iF : PySem.W.kitOne K (.ref aA) (.ref g7) = some false)
    (gg : PySem.W.kitOne K (.ref aA) (.ref eE) = some false)
    (i5 : PySem.W.kitOne K (.ref aA) (.ref g0) = some false)
    (gW : PySem.W.kitOne K (.ref aA) (.ref fA) = some false)
    (oQ : PySem.W.kitOne K (.ref aA) (.type "ValueError") = some true)
    (u4 : PySem.W.excIn K (aF) bmV "ValueError.__new__" = true)
    (vh : PySem.W.exmOne K (.ref aF) (.ref du) = some true)
    (z1_NoKinds : PySem.W.findIn K (.ref aF) "__getattribute__" = some (some (.builtin "BaseException.__getattribute__")))
    (z2_NoKinds : PySem.W.findIn K (.ref aF) "__getattr__" = some none)
    (z3_NoKinds : PySem.W.findIn K (.ref aF) "__class__" = some (some (.builtin "object.__class__")))
    (z4_NoKinds : PySem.W.mroIn K aF (.type "object") = some true)
    (z5_NoKinds : PySem.W.mroIn K aF (.type "BaseException") = some true)
    (z6_NoKinds : (PySem.W.clsIn K aF).isSome = true)
    (jn : PySem.W.kitOne K (.ref aF) (.ref hW) = some false)
    (gO : PySem.W.kitOne K (.ref aF) (.ref aA) = some false)
    (gH : PySem.W.kitOne K (.ref aF) (.ref eI) = some false)
    (jd : PySem.W.kitOne K (.ref aF) (.ref ic) = some false)
    (km : PySem.W.kitOne K (.ref aF) (.ref jU) = some false)
    (iZ : PySem.W.kitOne K (.ref aF) (.ref aF) = some true)
    (jA : PySem.W.kitOne K (.ref aF) (.ref hU) = some false)
    (jb : PySem.W.kitOne K (.ref aF) (.ref g8) = some false)
    (kc : PySem.W.kitOne K (.ref aF) (.ref jX) = some false)
    (jw : PySem.W.kitOne K (.ref aF) (.ref g7) = some false)
    (gS : PySem.W.kitOne K (.ref aF) (.ref eE) = some false)
    (jg : PySem.W.kitOne K (.ref aF) (.ref g0) = some false)
    (iD : PySem.W.kitOne K (.ref aF) (.ref fA) = some false)
    (pO : PySem.W.kitOne K (.ref aF) (.type "ValueError") = some true)
    (bb1 : PySem.W.nsIn K mainGlobals "__builtins__" = some (some (.ref bm))) (bb2 : bm ≠ builtinsNs) (bb3 : K.lookup bm = some ⟨.type "module", some builtinsNs, .plain, bsl⟩)
    (lo__law_are_refused : (K.lookup cI).bind cb = some (dJ, ("_law_are_refused" : Str))) (l1__law_are_refused : ∀ c2 o2 q2, K.lookup c2 = some o2 -> cb o2 = some (dJ, q2) -> q2 = "_law_are_refused") (lc__law_are_refused : c44 = cI) :
    ∃ fd : FuncData, (∀ (s : Shared) (v : Value), BindsTo s fd ⟨[v], []⟩ [("_law_script", v)]) /\ ∀ base : Heap, K.In base -> base.Ns mainGlobals mg -> bL l.prog w K mg base CX0 11 fa fd ["_law_script"] (spD K zf) := by
  have e := hfa.symm.trans (PySem.W.mg_of X G a46.1)
  cases e
  have F0 := bj (st := jI) a0.2.1 a0.2.2.1 a0.2.2.2
  have b0 := F0.binds (ps := ["thing"]) fun _ _ _ _ _ _ us hl => match us, hl with | [_], _ => rfl
  have F1 := bj (st := dA) a1.2.1 a1.2.2.1 a1.2.2.2
  have b1 := F1.binds (ps := ["a", "b"]) fun _ _ _ _ _ _ us hl => match us, hl with | [_, _], _ => rfl
  have F2 := bj (st := il) a2.2.1 a2.2.2.1 a2.2.2.2
  have b2 := F2.binds (ps := ["thing"]) fun _ _ _ _ _ _ us hl => match us, hl with | [_], _ => rfl
  have F3 := bj (st := dD) a3.2.1 a3.2.2.1 a3.2.2.2
  have b3 := F3.binds (ps := ["a", "b", "c"]) fun _ _ _ _ _ _ us hl => match us, hl with | [_, _, _], _ => rfl
  have F4 := bj (st := mC) a4.2.1 a4.2.2.1 a4.2.2.2
  have b4 := F4.binds (ps := ["a", "b", "c"]) fun _ _ _ _ _ _ us hl => match us, hl with | [_, _, _], _ => rfl
  have F5 := bj (st := vI) a5.2.1 a5.2.2.1 a5.2.2.2
  have b5 := F5.binds (ps := ["x"]) fun _ _ _ _ _ _ us hl => match us, hl with | [_], _ => rfl
  have F6 := bj (st := vw) a6.2.1 a6.2.2.1 a6.2.2.2
  have b6 := F6.binds (ps := ["x", "y"]) fun _ _ _ _ _ _ us hl => match us, hl with | [_, _], _ => rfl
  have F7 := bj (st := qW) a7.2.1 a7.2.2.1 a7.2.2.2
  have b7 := F7.binds (ps := ["d", "x", "y"]) fun _ _ _ _ _ _ us hl => match us, hl with | [_, _, _], _ => rfl
  have F8 := bj (st := jE) a8.2.1 a8.2.2.1 a8.2.2.2
  have b8 := F8.binds (ps := ["d", "x"]) fun _ _ _ _ _ _ us hl => match us, hl with | [_, _], _ => rfl
  have F9 := bj (st := kF) a9.2.1 a9.2.2.1 a9.2.2.2
  have b9 := F9.binds (ps := ["d", "x"]) fun _ _ _ _ _ _ us hl => match us, hl with | [_, _], _ => rfl
  have F10 := bj (st := dY) a10.2.1 a10.2.2.1 a10.2.2.2
  have b10 := F10.binds (ps := ["d", "a", "b"]) fun _ _ _ _ _ _ us hl => match us, hl with | [_, _, _], _ => rfl
  have F11 := bj (st := jG) a11.2.1 a11.2.2.1 a11.2.2.2
  have b11 := F11.binds (ps := ["d", "x", "y"]) fun _ _ _ _ _ _ us hl => match us, hl with | [_, _, _], _ => rfl
  have F12 := bj (st := cW) a12.2.1 a12.2.2.1 a12.2.2.2
  have b12 := F12.binds (ps := ["d", "thing"]) fun _ _ _ _ _ _ us hl => match us, hl with | [_, _], _ => rfl
  have F13 := bj (st := bV) a13.2.1 a13.2.2.1 a13.2.2.2
  have b13 := F13.binds (ps := ["d", "thing"]) fun _ _ _ _ _ _ us hl => match us, hl with | [_, _], _ => rfl
  have F14 := bj (st := jh) a14.2.1 a14.2.2.1 a14.2.2.2
  have b14 := F14.binds (ps := ["d", "thing"]) fun _ _ _ _ _ _ us hl => match us, hl with | [_, _], _ => rfl
  have F15 := bj (st := dW) a15.2.1 a15.2.2.1 a15.2.2.2
  have b15 := F15.binds (ps := ["d", "thing"]) fun _ _ _ _ _ _ us hl => match us, hl with | [_, _], _ => rfl
  have F16 := bj (st := fS) a16.2.1 a16.2.2.1 a16.2.2.2
  have b16 := F16.binds (ps := ["thing"]) fun _ _ _ _ _ _ us hl => match us, hl with | [_], _ => rfl
  have F17 := bj (st := kG) a17.2.1 a17.2.2.1 a17.2.2.2
  have b17 := F17.binds (ps := ["d", "weights", "width", "height"]) fun _ _ _ _ _ _ us hl => match us, hl with | [_, _, _, _], _ => rfl
  have F18 := bj (st := eT) a18.2.1 a18.2.2.1 a18.2.2.2
  have b18 := F18.binds (ps := ["d", "weights", "kind"]) fun _ _ _ _ _ _ us hl => match us, hl with | [_, _, _], _ => rfl
  have F19 := bj (st := mP) a19.2.1 a19.2.2.1 a19.2.2.2
  have b19 := F19.binds (ps := ["d", "kinds", "shape", "thing"]) fun _ _ _ _ _ _ us hl => match us, hl with | [_, _, _, _], _ => rfl
  have F20 := bj (st := jC) a20.2.1 a20.2.2.1 a20.2.2.2
  have b20 := F20.binds (ps := ["_law_script", "_law_at"]) fun _ _ _ _ _ _ us hl => match us, hl with | [_, _], _ => rfl
  have F21 := bj (st := hJ) a21.2.1 a21.2.2.1 a21.2.2.2
  have b21 := F21.binds (ps := ["_law_bag_here", "_law_many"]) fun _ _ _ _ _ _ us hl => match us, hl with | [_, _], _ => rfl
  have F22 := bj (st := eX) a22.2.1 a22.2.2.1 a22.2.2.2
  have b22 := F22.binds (ps := ["_law_one", "_law_other"]) fun _ _ _ _ _ _ us hl => match us, hl with | [_, _], _ => rfl
  have F23 := bj (st := ju) a23.2.1 a23.2.2.1 a23.2.2.2
  have b23 := F23.binds (ps := ["_law_a", "_law_b", "_law_c"]) fun _ _ _ _ _ _ us hl => match us, hl with | [_, _, _], _ => rfl
  have F24 := bj (st := ib) a24.2.1 a24.2.2.1 a24.2.2.2
  have b24 := F24.binds (ps := ["_law_x", "_law_y"]) fun _ _ _ _ _ _ us hl => match us, hl with | [_, _], _ => rfl
  have F25 := bj (st := fP) a25.2.1 a25.2.2.1 a25.2.2.2
  have b25 := F25.binds (ps := ["_law_x"]) fun _ _ _ _ _ _ us hl => match us, hl with | [_], _ => rfl
  have F26 := bj (st := ia) a26.2.1 a26.2.2.1 a26.2.2.2
  have b26 := F26.binds (ps := ["_law_x"]) fun _ _ _ _ _ _ us hl => match us, hl with | [_], _ => rfl
  have F27 := bj (st := fV) a27.2.1 a27.2.2.1 a27.2.2.2
  have b27 := F27.binds (ps := ["_law_d", "_law_x", "_law_y"]) fun _ _ _ _ _ _ us hl => match us, hl with | [_, _, _], _ => rfl
  have F28 := bj (st := dZ) a28.2.1 a28.2.2.1 a28.2.2.2
  have b28 := F28.binds (ps := ["_law_d", "_law_x"]) fun _ _ _ _ _ _ us hl => match us, hl with | [_, _], _ => rfl
  have F29 := bj (st := g9) a29.2.1 a29.2.2.1 a29.2.2.2
  have b29 := F29.binds (ps := ["_law_d", "_law_x"]) fun _ _ _ _ _ _ us hl => match us, hl with | [_, _], _ => rfl
  have F30 := bj (st := ig) a30.2.1 a30.2.2.1 a30.2.2.2
  have b30 := F30.binds (ps := ["_law_bag_here"]) fun _ _ _ _ _ _ us hl => match us, hl with | [_], _ => rfl
  have F31 := bj (st := eW) a31.2.1 a31.2.2.1 a31.2.2.2
  have b31 := F31.binds (ps := ["_law_bag_here"]) fun _ _ _ _ _ _ us hl => match us, hl with | [_], _ => rfl
  have F32 := bj (st := fN) a32.2.1 a32.2.2.1 a32.2.2.2
  have b32 := F32.binds (ps := ["_law_bag_here", "_law_d"]) fun _ _ _ _ _ _ us hl => match us, hl with | [_, _], _ => rfl
  have F33 := bj (st := jf) a33.2.1 a33.2.2.1 a33.2.2.2
  have b33 := F33.binds (ps := ["_law_bag_here"]) fun _ _ _ _ _ _ us hl => match us, hl with | [_], _ => rfl
  have F34 := bj (st := eC) a34.2.1 a34.2.2.1 a34.2.2.2
  have b34 := F34.binds (ps := ["_law_deed"]) fun _ _ _ _ _ _ us hl => match us, hl with | [_], _ => rfl
  have F35 := bj (st := fT) a35.2.1 a35.2.2.1 a35.2.2.2
  have b35 := F35.binds (ps := ["_law_bag_here", "_law_d"]) fun _ _ _ _ _ _ us hl => match us, hl with | [_, _], _ => rfl
  have F36 := bj (st := dE) a36.2.1 a36.2.2.1 a36.2.2.2
  have b36 := F36.binds (ps := ["_law_bag_here", "_law_d"]) fun _ _ _ _ _ _ us hl => match us, hl with | [_, _], _ => rfl
  have F37 := bj (st := dH) a37.2.1 a37.2.2.1 a37.2.2.2
  have b37 := F37.binds (ps := ["_law_bag_here", "_law_d", "_law_kinds_here"]) fun _ _ _ _ _ _ us hl => match us, hl with | [_, _, _], _ => rfl
  have F38 := bj (st := cZ) a38.2.1 a38.2.2.1 a38.2.2.2
  have b38 := F38.binds (ps := ["_law_d", "_law_kinds_here", "_law_plan_here"]) fun _ _ _ _ _ _ us hl => match us, hl with | [_, _, _], _ => rfl
  have F39 := bj (st := iq) a39.2.1 a39.2.2.1 a39.2.2.2
  have b39 := F39.binds (ps := ["_law_d", "_law_shape"]) fun _ _ _ _ _ _ us hl => match us, hl with | [_, _], _ => rfl
  have F40 := bj (st := cq) a40.2.1 a40.2.2.1 a40.2.2.2
  have b40 := F40.binds (ps := ["_law_d", "_law_shape"]) fun _ _ _ _ _ _ us hl => match us, hl with | [_, _], _ => rfl
  have F41 := bj (st := gY) a41.2.1 a41.2.2.1 a41.2.2.2
  have b41 := F41.binds (ps := ["_law_bag_here", "_law_many", "_law_deep"]) fun _ _ _ _ _ _ us hl => match us, hl with | [_, _, _], _ => rfl
  have F42 := bj (st := ey) a42.2.1 a42.2.2.1 a42.2.2.2
  have b42 := F42.binds (ps := ["_law_bag_here", "_law_d", "_law_kinds_here", "_law_shape"]) fun _ _ _ _ _ _ us hl => match us, hl with | [_, _, _, _], _ => rfl
  have F43 := bj (st := dU) a43.2.1 a43.2.2.1 a43.2.2.2
  have b43 := F43.binds (ps := ["_law_bag_here", "_law_d", "_law_kinds_here", "_law_shape"]) fun _ _ _ _ _ _ us hl => match us, hl with | [_, _, _, _], _ => rfl
  have F44 := bj (st := cN) a44.2.1 a44.2.2.1 a44.2.2.2
  have b44 := F44.binds (ps := ["_law_bag_here", "_law_d", "_law_kinds_here", "_law_shape", "_law_bar"]) fun _ _ _ _ _ _ us hl => match us, hl with | [_, _, _, _, _], _ => rfl
  have F45 := bj (st := bI) a45.2.1 a45.2.2.1 a45.2.2.2
  have b45 := F45.binds (ps := ["_law_d", "_law_kinds_here"]) fun _ _ _ _ _ _ us hl => match us, hl with | [_, _], _ => rfl
  have F46 := bj (st := rA) a46.2.1 a46.2.2.1 a46.2.2.2
  have b46 := F46.binds (ps := ["_law_script"]) fun _ _ _ _ _ _ us hl => match us, hl with | [_], _ => rfl
  have T : Txt K mg ⟨f0, fd "is_whole" jI t0 m0 c0, f1, fd "common_divisor" dA t1 m1 c1, f2, fd "is_number" il t2 m2 c2, f3, fd "divisor_of_all" dD t3 m3 c3, f4, fd "number" mC t4 m4 c4, f5, fd "mate" vI t5 m5 c5, f6, fd "plus" vw t6 m6 c6, f7, fd "times" qW t7 m7 c7, f8, fd "contrary" jE t8 m8 c8, f9, fd "sign_of" kF t9 m9 c9, f10, fd "sign_of_parts" dY t10 m10 c10, f11, fd "is_above" jG t11 m11 c11, f12, fd "is_above_nought" cW t12 m12 c12, f13, fd "must_be_above_nought" bV t13 m13 c13, f14, fd "is_kinds" jh t14 m14 c14, f15, fd "must_be_kinds" dW t15 m15 c15, f16, fd "is_weights" fS t16 m16 c16, f17, fd "weighed" kG t17 m17 c17, f18, fd "never_below" eT t18 m18 c18, f19, fd "is_bar" mP t19 m19 c19, f20, fd "_law_bag" jC t20 m20 c20, f21, fd "_law_take" hJ t21 m21 c21, f22, fd "_law_shared" eX t22 m22 c22, f23, fd "_law_low" ju t23 m23 c23, f24, fd "_law_plus" ib t24 m24 c24, f25, fd "_law_minus" fP t25 m25 c25, f26, fd "_law_mate" ia t26 m26 c26, f27, fd "_law_times" fV t27 m27 c27, f28, fd "_law_contrary" dZ t28 m28 c28, f29, fd "_law_sign" g9 t29 m29 c29, f30, fd "_law_root" ig t30 m30 c30, f31, fd "_law_number" eW t31 m31 c31, f32, fd "_law_above" fN t32 m32 c32, f33, fd "_law_odd" jf t33 m33 c33, f34, fd "_law_refusal" eC t34 m34 c34, f35, fd "_law_kinds" fT t35 m35 c35, f36, fd "_law_bad_above" dE t36 m36 c36, f37, fd "_law_bad_kinds" dH t37 m37 c37, f38, fd "_law_plan_shape" cZ t38 m38 c38, f39, fd "_law_lean" iq t39 m39 c39, f40, fd "_law_lean_fraction" cq t40 m40 c40, f41, fd "_law_plan" gY t41 m41 c41, f42, fd "_law_weights" ey t42 m42 c42, f43, fd "_law_bar_like" dU t43 m43 c43, f44, fd "_law_are_refused" cN t44 m44 c44, f45, fd "_law_is_barred_by_sign" bI t45 m45 c45, fa, fd "law" rA t46 m46 c46, q0, du, hW, aA, eI, ic, jU, aF, hU, g8, jX, g7, eE, g0, fA, cI, dJ⟩ := ⟨F0, PySem.W.mg_of X G a0.1, a0.2.2.2, b0, F1, PySem.W.mg_of X G a1.1, a1.2.2.2, b1, F2, PySem.W.mg_of X G a2.1, a2.2.2.2, b2, F3, PySem.W.mg_of X G a3.1, a3.2.2.2, b3, F4, PySem.W.mg_of X G a4.1, a4.2.2.2, b4, F5, PySem.W.mg_of X G a5.1, a5.2.2.2, b5, F6, PySem.W.mg_of X G a6.1, a6.2.2.2, b6, F7, PySem.W.mg_of X G a7.1, a7.2.2.2, b7, F8, PySem.W.mg_of X G a8.1, a8.2.2.2, b8, F9, PySem.W.mg_of X G a9.1, a9.2.2.2, b9, F10, PySem.W.mg_of X G a10.1, a10.2.2.2, b10, F11, PySem.W.mg_of X G a11.1, a11.2.2.2, b11, F12, PySem.W.mg_of X G a12.1, a12.2.2.2, b12, F13, PySem.W.mg_of X G a13.1, a13.2.2.2, b13, F14, PySem.W.mg_of X G a14.1, a14.2.2.2, b14, F15, PySem.W.mg_of X G a15.1, a15.2.2.2, b15, F16, PySem.W.mg_of X G a16.1, a16.2.2.2, b16, F17, PySem.W.mg_of X G a17.1, a17.2.2.2, b17, F18, PySem.W.mg_of X G a18.1, a18.2.2.2, b18, F19, PySem.W.mg_of X G a19.1, a19.2.2.2, b19, F20, PySem.W.mg_of X G a20.1, a20.2.2.2, b20, F21, PySem.W.mg_of X G a21.1, a21.2.2.2, b21, F22, PySem.W.mg_of X G a22.1, a22.2.2.2, b22, F23, PySem.W.mg_of X G a23.1, a23.2.2.2, b23, F24, PySem.W.mg_of X G a24.1, a24.2.2.2, b24, F25, PySem.W.mg_of X G a25.1, a25.2.2.2, b25, F26, PySem.W.mg_of X G a26.1, a26.2.2.2, b26, F27, PySem.W.mg_of X G a27.1, a27.2.2.2, b27, F28, PySem.W.mg_of X G a28.1, a28.2.2.2, b28, F29, PySem.W.mg_of X G a29.1, a29.2.2.2, b29, F30, PySem.W.mg_of X G a30.1, a30.2.2.2, b30, F31, PySem.W.mg_of X G a31.1, a31.2.2.2, b31, F32, PySem.W.mg_of X G a32.1, a32.2.2.2, b32, F33, PySem.W.mg_of X G a33.1, a33.2.2.2, b33, F34, PySem.W.mg_of X G a34.1, a34.2.2.2, b34, F35, PySem.W.mg_of X G a35.1, a35.2.2.2, b35, F36, PySem.W.mg_of X G a36.1, a36.2.2.2, b36, F37, PySem.W.mg_of X G a37.1, a37.2.2.2, b37, F38, PySem.W.mg_of X G a38.1, a38.2.2.2, b38, F39, PySem.W.mg_of X G a39.1, a39.2.2.2, b39, F40, PySem.W.mg_of X G a40.1, a40.2.2.2, b40, F41, PySem.W.mg_of X G a41.1, a41.2.2.2, b41, F42, PySem.W.mg_of X G a42.1, a42.2.2.2, b42, F43, PySem.W.mg_of X G a43.1, a43.2.2.2, b43, F44, PySem.W.mg_of X G a44.1, a44.2.2.2, b44, F45, PySem.W.mg_of X G a45.1, a45.2.2.2, b45, F46, PySem.W.mg_of X G a46.1, a46.2.2.2, b46, PySem.W.mg_none_of X G z0, PySem.W.mg_none_of X G z1, PySem.W.mg_none_of X G z2, PySem.W.mg_none_of X G z3, PySem.W.mg_none_of X G z4, PySem.W.mg_none_of X G z5, PySem.W.mg_none_of X G z6, PySem.W.mg_none_of X G z7, PySem.W.mg_none_of X G z8, PySem.W.mg_none_of X G z9, PySem.W.mg_none_of X G z10, PySem.W.mg_none_of X G z11, PySem.W.mg_none_of X G z12, PySem.W.mg_of X G v0, PySem.W.mg_of X G y0, PySem.W.mg_of X G y1, PySem.W.mg_of X G y2, PySem.W.mg_of X G y3, PySem.W.mg_of X G y4, PySem.W.mg_of X G y5, PySem.W.mg_of X G y6, PySem.W.mg_of X G y7, PySem.W.mg_of X G y8, PySem.W.mg_of X G y9, PySem.W.mg_of X G y10, PySem.W.mg_of X G y11, PySem.W.mg_of X G y12, PySem.W.mg_of X G y13, sS, rR, iS, gj, gh, iG, jm, gF, iR, iQ, ji, iF, gg, i5, gW, oQ, u4, vh, jn, gO, gH, jd, km, iZ, jA, jb, kc, jw, gS, jg, iD, pO, ⟨z1_NoNumber, z2_NoNumber, z3_NoNumber, z4_NoNumber, z5_NoNumber, z6_NoNumber⟩, ⟨z1_NoKinds, z2_NoKinds, z3_NoKinds, z4_NoKinds, z5_NoKinds, z6_NoKinds⟩, ⟨Bx lo__law_are_refused, l1__law_are_refused, OS (PySem.W.mg_of X G bb1) bb2 bb3⟩, congrArg Value.ref lc__law_are_refused⟩
  exact ⟨_, fun s v => .of_eq rfl, fun base _ _ => Ph (e := ⟨l.prog, w, K, mg, base, _⟩) T⟩
theorem walk {l : PySem.W.OpenLaw} {q : Program} {loose : List Str} {XP : (Str -> Option Value) -> Heap -> Prop} {YP : World -> Heap -> Prop} {d : DefRec} {K : Params -> PySem.W.Frag} (tabs : List Addr) (hn : l.most = some 63) (hdf : d.params.defaults = [])
    (hY : ∀ (w : World) (h : Heap), YP w h -> (K w.params).In h /\ (∀ p ∈ tabs, h.get? p = some (PySem.W.tabObj #[]) /\ (K w.params).lookup p = none) /\ (∀ p ∈ tabs, isCodeTable h p))
    (hA2 : ∀ (w : World) c o p q, (K w.params).lookup c = some o -> cb o = some (p, q) -> p ∈ tabs)
    (F : ∀ (w : World) (mg : Str -> Option Value) (fa : Addr) (h : Heap), (K w.params).In h -> h.Ns mainGlobals mg -> mg d.name = some (.ref fa) ->
      ∃ fd : FuncData, (∀ (s : Shared) (u : Value), BindsTo s fd ⟨[u], []⟩ [("_law_script", u)]) /\ ∀ base : Heap, (K w.params).In base -> base.Ns mainGlobals mg -> bL l.prog w (K w.params) mg base CX0 11 fa fd ["_law_script"] (spD (K w.params) zf)) :
    PySem.W.WalkO q loose XP YP l.row.toRowW d [] (fun f vs => PySem.call f vs) :=
  L2.KA (n := 63) (k := 11) (x := "_law_script") (CX := fun _ => CX0) (sp := fun w => spD (K w.params) zf) tabs hn (by decide) hdf ⟨rfl, by decide, by decide⟩ hY hA2 F (fun w H a ns hl hT hS => IU hl hT hS) fun _ _ _ _ _ z => z
end K18
open PySem PySem.W PyProof.Rows L2.DL in
set_option maxRecDepth 100000 in
set_option maxHeartbeats 0 in
theorem PySem.Challenge.cw_matefloors_k18_whole_no_bar_for_what_is_holds : PySem.Challenge.rw_matefloors_k18_whole_no_bar_for_what_is.Holds :=
  holds_law K18.H.ws fun said => holds_open (XP := XL K18.H.V []) (YP := K18.H.HK.says) (d := K18.H.D) (kwd := []) K18.H.left K18.H.HK.of K18.H.HK.keeps (fun s e => xl_of s (Bool.and_eq_true_iff.mp e).1) XL.keeps (by kernel_rfl) (by kernel_rfl) (by kernel_rfl)
    (fun s e => recFacts_of (Bool.and_eq_true_iff.mp e).2) (by kernel_rfl) said (by kernel_rfl) ⟨by kernel_rfl, by kernel_rfl, by kernel_rfl, by kernel_rfl, by kernel_rfl, by kernel_rfl⟩ ⟨[.list []], by kernel_rfl, by kernel_rfl⟩
    (K18.walk (l := PySem.Challenge.rw_matefloors_k18_whole_no_bar_for_what_is) (K := K18.H.K) K18.H.tabs (by kernel_rfl) (by kernel_rfl) (fun w h Y => by
      have Y : (K18.H.KF w.params).In h := Y
      refine ⟨Cu Y, fun p hp => ?_, fun p hp => ?_⟩
      . rcases List.mem_cons.mp hp with rfl | hp
        . exact ⟨Y _ _ (K18.H.j5 w.params).1, (K18.H.j5 w.params).2⟩
        rcases List.mem_cons.mp hp with rfl | hp
        . exact ⟨Y _ _ (K18.H.Hs w.params).1, (K18.H.Hs w.params).2⟩
        exact nomatch hp
      . rcases List.mem_cons.mp hp with rfl | hp
        . obtain ⟨o, e1, e2⟩ := Bx (K18.H.ja w.params); exact AB (Cu Y) e1 e2
        rcases List.mem_cons.mp hp with rfl | hp
        . obtain ⟨o, e1, e2⟩ := Bx (K18.H.LR w.params); exact AB (Cu Y) e1 e2
        exact nomatch hp) (fun w c o p q e e2 => by
      have h := Ik (K18.H.J4 w.params) e e2
      have h2 := List.mem_map_of_mem (f := fun x : Addr × Str => x.1) h
      exact h2) fun w mg fa h KX G hmg => by
      obtain ⟨h0, h1, h2, h3, h4, h5, h6, h7, h8, h9, h10, h11, h12, h13, h14, h15, h16, h17, h18, h19, h20, h21, h22, h23, h24, h25, h26, h27, h28, h29, h30, h31, h32, h33, h34, h35, h36, h37, h38, h39, h40, h41, h42, h43, h44, h45, h46, h47, h48, h49, h50, h51, h52, h53, h54, h55, h56, h57, h58, h59, h60, h61, h62, h63, h64, h65, h66, h67, h68, h69, h70, h71, h72, h73, h74, h75, h76, h77, h78, h79, h80, h81, h82, h83, h84, h85, h86, h87, h88, h89, h90, h91, h92, h93, h94, h95, h96, h97, h98, h99, h100, h101, h102, h103, h104, h105, h106, h107, h108, h109, h110, h111, h112, h113, h114, h115, h116, h117, h118, h119⟩ := K18.H.facts w.params
      exact K18.all_mk KX G hmg h0 h1 h2 h3 h4 h5 h6 h7 h8 h9 h10 h11 h12 h13 h14 h15 h16 h17 h18 h19 h20 h21 h22 h23 h24 h25 h26 h27 h28 h29 h30 h31 h32 h33 h34 h35 h36 h37 h38 h39 h40 h41 h42 h43 h44 h45 h46 h47 h48 h49 h50 h51 h52 h53 h54 h55 h56 h57 h58 h59 h60 h61 h62 h63 h64 h65 h66 h67 h68 h69 h70 h71 h72 h73 h74 h75 h76 h77 h78 h79 h80 h81 h82 h83 h84 h85 h86 h87 h88 h89 h90 h91 h92 h93 h94 h95 h96 h97 h98 h99 h100 h101 h102 h103 h104 h105 h106 h107 h108 h109 h110 h111 h112 h113 h114 h115 h116 h117 h118 h119.1 h119.2.1 h119.2.2 (K18.H.ja w.params) (fun c2 o2 q2 e e2 => K18.H.pd (Ik (K18.H.J4 w.params) e e2)) rfl)
