import PyProof.Rows.All
import KE.KFind
import KE.KLam
import KE.KTryMore
import KE.LcSums
import Lean
import PySem.Challenge.RW_matefloors_k42_wishes_refused
set_option Elab.async false
set_option linter.all false
set_option maxRecDepth 100000
set_option maxHeartbeats 4000000
namespace L2
open PySem PySem.W
def nL : Sem Fin → Bool
  | .choose .. => false
  | .os .. => false
  | _ => true
theorem Ot {den : Code → Sem Fin} {p : Program} {w : World} {os : OsState} {s s' : Shared} {t t' : Thread} (h : nL t.cur = true) (e : step den p ⟨fun _ _ => 0, w.params⟩ s t = .go s' t') :
    step den p w { s with os := os } t = .go { s' with os := os } t' := by
  obtain ⟨heap, gens, drawn, toks, os0⟩ := s
  obtain ⟨cur, code, pos, stack⟩ := t
  cases cur <;> simp only [step, finish, nL] at e h ⊢ <;> (try (cases h; done)) <;> (repeat' split at e) <;> simp_all <;> (try (obtain ⟨rfl, rfl⟩ := e; simp_all)) <;> (try (obtain ⟨h1, h2⟩ := e; subst h1; rfl))
def va (tb : String → Option Builtin) (p : Program) (P : Params) (n₀ : Nat) (ann : Option Value) : Nat → Shared → Thread → Option Shared
  | 0, _, _ => none
  | n + 1, s, t => match through t with
    | true => some s
    | false => match stepOk n₀ ann t && nL t.cur with
      | false => none
      | true => match step (denote tb) p ⟨fun _ _ => 0, P⟩ s t with
        | .go s' t' => va tb p P n₀ ann n s' t'
        | .halt _ _ => none
theorem yp {tb : String → Option Builtin} {p : Program} {w : World} {n₀ : Nat} {ann : Option Value} {os : OsState} : ∀ {n : Nat} {s s' : Shared} {t : Thread}, va tb p w.params n₀ ann n s t = some s' → topRun tb p w n₀ ann n { s with os := os } t = some { s' with os := os }
  | 0, _, _, _, h => by cases h
  | n + 1, s, s', t, h => by
    unfold va at h
    unfold topRun
    cases ht : through t with
    | true => rw [ht] at h; cases h; rfl
    | false =>
      rw [ht] at h
      cases hk : (stepOk n₀ ann t && nL t.cur) with
      | false => rw [hk] at h; cases h
      | true =>
        rw [hk] at h
        obtain ⟨k1, k2⟩ := Bool.and_eq_true_iff.mp hk
        cases hs : step (denote tb) p ⟨fun _ _ => 0, w.params⟩ s t with
        | halt o s₂ => rw [hs] at h; cases h
        | go s₂ t₂ =>
          rw [hs] at h
          rw [k1, Ot (os := os) k2 hs]
          exact yp h
noncomputable def xD (p : Program) (P : Params) (n₀ : Nat) (ann : Option Value) : Nat → Shared → Thread → Option Shared
  | 0, _, _ => none
  | n + 1, s, t => match through t with
    | true => some s
    | false => match Fast.tw6613529449190102663 n₀ ann t && nL t.cur with
      | false => none
      | true => match Fast.tw8437177126325714943 (Fast.tw11892475500146522536 Fast.tw14364793385576792824) p ⟨fun _ _ => 0, P⟩ s t with
        | .go s' t' => xD p P n₀ ann n s' t'
        | .halt _ _ => none
theorem yV {p : Program} {P : Params} {n₀ : Nat} {ann : Option Value} : ∀ (n : Nat) (s : Shared) (t : Thread), xD p P n₀ ann n s t = va treeTable p P n₀ ann n s t
  | 0, _, _ => rfl
  | n + 1, s, t => by
    unfold xD va
    rw [← Fast.te6613529449190102663, ← Fast.te8437177126325714943, ← Fast.te11892475500146522536, ← Fast.te14364793385576792824]
    cases through t with
    | true => rfl
    | false =>
      cases (stepOk n₀ ann t && nL t.cur) with
      | false => rfl
      | true =>
        cases step (denote treeTable) p ⟨fun _ _ => 0, P⟩ s t with
        | halt o s₂ => rfl
        | go s₂ t₂ => exact yV n s₂ t₂
end L2
namespace L2
open PySem
def rm (s : Stmt) : Arguments := match s with
  | .FunctionDef _ a _ _ _ _ _ _ _ _ => a
  | _ => { posonlyargs := [], args := [], vararg := none, kwonlyargs := [], kw_defaults := [], kwarg := none, defaults := [] }
def eW (s : Stmt) : List Stmt := match s with
  | .FunctionDef _ _ b _ _ _ _ _ _ _ => b
  | _ => []
def aq (s : Stmt) : Scope := match s with
  | .FunctionDef _ _ _ _ _ _ sc _ _ _ => sc
  | _ => { kind := .function, names := [], isGenerator := false, isCoroutine := false }
end L2
namespace L2.DL
open PySem
def Kb : List Str := ["law", "_law_is_right", "_law_is_put", "_law_are_refused", "_law_is_told", "_law_said", "_law_is_plan_told"]
def bT (o : Obj) : Option (Addr × Str) := match o.cls, o.data with
  | .type c, .fields vs => if c = "code" then (match vs[1]?, vs[7]?, vs[9]?, vs[10]?, vs[11]?, vs[18]? with
    | some (Value.str q _), some (Value.int _ _), some (Value.bool _), some (Value.int _ _), some (Value.ref P), some (Value.str _ _) => if Kb.contains q = true then some (P, q) else none
    | _, _, _, _, _, _ => none) else none
  | _, _ => none
abbrev bmV : List Value := [.type "ValueError", .type "Exception", .type "BaseException", .type "object"]
end L2.DL
namespace K42
open PySem L2
def top (i : Nat) : Stmt := PySem.Challenge.pw_matefloors_k42_wishes_refused.main.body.getD i (.Pass ⟨0, 0, 0, 0⟩)
abbrev jE : Stmt := top 18
abbrev dm : Stmt := top 19
abbrev gY : Stmt := top 20
abbrev dh : Stmt := top 21
abbrev nQ : Stmt := top 22
abbrev vU : Stmt := top 23
abbrev vI : Stmt := top 24
abbrev wO : Stmt := top 25
abbrev rL : Stmt := top 26
abbrev vO : Stmt := top 27
abbrev jB : Stmt := top 28
abbrev kN : Stmt := top 29
abbrev dI : Stmt := top 30
abbrev cU : Stmt := top 31
abbrev bN : Stmt := top 32
abbrev jv : Stmt := top 35
abbrev dH : Stmt := top 36
abbrev dP : Stmt := top 38
abbrev fO : Stmt := top 40
abbrev gZ : Stmt := top 41
abbrev jD : Stmt := top 42
abbrev kL : Stmt := top 43
abbrev wy : Stmt := top 44
abbrev cS : Stmt := top 45
abbrev du : Stmt := top 46
abbrev fL : Stmt := top 47
abbrev g9 : Stmt := top 49
abbrev kP : Stmt := top 50
abbrev fS : Stmt := top 51
abbrev fJ : Stmt := top 52
abbrev fH : Stmt := top 53
abbrev d8 : Stmt := top 54
abbrev cw : Stmt := top 55
abbrev cF : Stmt := top 56
abbrev i7 : Stmt := top 58
abbrev gQ : Stmt := top 59
abbrev eQ : Stmt := top 60
abbrev jg : Stmt := top 61
abbrev hW : Stmt := top 62
abbrev fT : Stmt := top 63
abbrev fP : Stmt := top 64
abbrev dO : Stmt := top 65
abbrev hR : Stmt := top 66
abbrev hZ : Stmt := top 67
abbrev eR : Stmt := top 68
abbrev fB : Stmt := top 69
abbrev jr : Stmt := top 70
abbrev d9 : Stmt := top 71
abbrev fz : Stmt := top 72
abbrev dk : Stmt := top 73
abbrev dq : Stmt := top 74
abbrev fM : Stmt := top 75
abbrev dM : Stmt := top 76
abbrev cG : Stmt := top 77
abbrev sj : Stmt := top 78
abbrev fd (n : Str) (s : Stmt) (tk : Tok) (m : Str) (cd : Addr) : FuncData := PySem.W.fnOf n n (rm s) (eW s) (aq s) .none .none .none (.str m tk) none (.ref cd) .none
abbrev FQ (K : PySem.W.Frag) (n : Str) (s : Stmt) (a cd : Addr) (tk : Tok) (m : Str) : Prop := PySem.W.nsIn K mainGlobals n = some (some (.ref a)) ∧ K.lookup a = some ⟨.type "function", none, .func (fd n s tk m cd), #[]⟩ ∧ PySem.W.codeIn K (.ref cd) n = true ∧ PySem.W.keepIn K (.ref a) = true
end K42
namespace K42.H
open PySem PySem.W PyProof.Rows L2 L2.DL
set_option maxRecDepth 100000
set_option maxHeartbeats 0
abbrev R : OpenLaw := PySem.Challenge.rw_matefloors_k42_wishes_refused
noncomputable def sT (P : Params) : Option Shared := xD R.row.prog P 11 (some (.ref 6)) 20000 { heap := boot_heap P, gens := #[], drawn := boot_drawn, toks := boot_toks, os := default } (topStub R.row.prog)
noncomputable def hT (P : Params) : Heap := (sT P).elim default (·.heap)
def isNm : Stmt → Bool
  | .Assign [.Name x _] _ _ => x == "__name__"
  | _ => false
def V : Program := { R.row.prog with main := { R.row.prog.main with body := R.row.prog.main.body.filter fun s => !isNm s } }
def as : List Addr := [3, 192, 191, 199, 198, 206, 205, 213, 212, 220, 219, 227, 226, 234, 233, 241, 240, 248, 247, 255, 254, 262, 261, 269, 268, 276, 275, 283, 282, 290, 289, 295, 294, 302, 301, 309, 308, 314, 313, 321, 320, 328, 327, 335, 334, 342, 341, 349, 348, 356, 355, 363, 362, 370, 369, 377, 376, 384, 383, 389, 388, 396, 395, 403, 402, 410, 409, 417, 416, 424, 423, 431, 430, 438, 437, 445, 444, 452, 451, 459, 458, 466, 465, 473, 472, 480, 479, 485, 484, 492, 491, 499, 498, 506, 505, 511, 510, 518, 517, 525, 524, 532, 531, 539, 538, 546, 545, 551, 550, 558, 557, 184, 185, 24, 23, 37, 36, 49, 48, 61, 60, 73, 72, 85, 84, 97, 96, 109, 108, 121, 120, 133, 132, 145, 144, 157, 156, 169, 168, 181, 180, 4]
def tabs : List Addr := [548, 553]
noncomputable def K (P : Params) : Frag := as.map fun a => (a, ((hT P).get? a).getD default)
noncomputable def TF (P : Params) : Frag := tabs.map fun a => (a, ((hT P).get? a).getD default)
noncomputable def KF (P : Params) : Frag := K P ++ TF P
theorem kAs (P : Params) : as ++ tabs = (KF P).map (·.1) := by
  unfold KF K TF
  rw [List.map_append, List.map_map, List.map_map]
  exact congr (congrArg HAppend.hAppend (List.map_id _).symm) (List.map_id _).symm
noncomputable def HK : Hook := kHook KF (as ++ tabs) kAs
def posOf : Stmt → Pos
  | .FunctionDef _ _ _ _ _ _ _ _ _ p => p
  | _ => ⟨0, 0, 0, 0⟩
def D : DefRec := ⟨"law", rm K42.sj, eW K42.sj, aq K42.sj, posOf K42.sj⟩
def Xt : Shared → Bool := fun s => xlAt V [] s && recOk R.row.records s
theorem runC (P : Params) : (sT P).map (fun s => (s.gens, s.drawn, s.toks)) = some (#[], {}, 959) := by kernel_rfl
theorem run (w : World) (os : OsState) : topRun treeTable R.row.prog w 11 (some (.ref 6)) 20000 { heap := boot_heap w.params, gens := #[], drawn := boot_drawn, toks := boot_toks, os := os } (topStub R.row.prog) = some { heap := hT w.params, gens := #[], drawn := {}, toks := 959, os := os } := by
  have h := runC w.params
  cases e : sT w.params with
  | none => rw [e] at h; cases h
  | some s =>
    rw [e] at h
    obtain ⟨heap, gens, drawn, toks, os0⟩ := s
    have hh : hT w.params = heap := by unfold hT; rw [e]; rfl
    have h' : some (gens, drawn, toks) = some ((#[] : Array GenState), ({} : Drawn), 959) := h
    cases h'
    rw [hh]
    exact yp (w := w) (os := os) ((yV _ _ _).symm.trans e)
theorem Rn (w : World) (os : OsState) : (staticsOk (importedModules R.row.prog.main.body) (boot_heap w.params) (hT w.params) && namesBound R.row.prog (hT w.params) && gensDone { heap := hT w.params, gens := #[], drawn := {}, toks := 959, os := os } && laidKept (boot_heap w.params) (hT w.params)) = true := by kernel_rfl
theorem OT (w : World) (os : OsState) : (openSeen V [] (importedModules R.row.prog.main.body) Xt true { heap := hT w.params, gens := #[], drawn := {}, toks := 959, os := os }).1 = (openGood V []).1 := by kernel_rfl
theorem N4 (w : World) (os : OsState) : (openSeen V [] (importedModules R.row.prog.main.body) Xt true { heap := hT w.params, gens := #[], drawn := {}, toks := 959, os := os }).2.1 = (openGood V []).2.1 := by kernel_rfl
theorem Ob (w : World) (os : OsState) : (openSeen V [] (importedModules R.row.prog.main.body) Xt true { heap := hT w.params, gens := #[], drawn := {}, toks := 959, os := os }).2.2.1 = (openGood V []).2.2.1 := by kernel_rfl
theorem OJ (w : World) (os : OsState) : (openSeen V [] (importedModules R.row.prog.main.body) Xt true { heap := hT w.params, gens := #[], drawn := {}, toks := 959, os := os }).2.2.2.1 = (openGood V []).2.2.2.1 := by kernel_rfl
theorem Px (w : World) (os : OsState) : (openSeen V [] (importedModules R.row.prog.main.body) Xt true { heap := hT w.params, gens := #[], drawn := {}, toks := 959, os := os }).2.2.2.2.1 = (openGood V []).2.2.2.2.1 := by kernel_rfl
theorem Pq (w : World) (os : OsState) : (openSeen V [] (importedModules R.row.prog.main.body) Xt true { heap := hT w.params, gens := #[], drawn := {}, toks := 959, os := os }).2.2.2.2.2.1 = (openGood V []).2.2.2.2.2.1 := by kernel_rfl
theorem Of (w : World) (os : OsState) : (openSeen V [] (importedModules R.row.prog.main.body) Xt true { heap := hT w.params, gens := #[], drawn := {}, toks := 959, os := os }).2.2.2.2.2.2.1 = (openGood V []).2.2.2.2.2.2.1 := by kernel_rfl
theorem OG (w : World) (os : OsState) : (openSeen V [] (importedModules R.row.prog.main.body) Xt true { heap := hT w.params, gens := #[], drawn := {}, toks := 959, os := os }).2.2.2.2.2.2.2.1 = (openGood V []).2.2.2.2.2.2.2.1 := by kernel_rfl
theorem OP (w : World) (os : OsState) : (openSeen V [] (importedModules R.row.prog.main.body) Xt true { heap := hT w.params, gens := #[], drawn := {}, toks := 959, os := os }).2.2.2.2.2.2.2.2 = (openGood V []).2.2.2.2.2.2.2.2 := by kernel_rfl
theorem Qk (w : World) (os : OsState) : openSeen V [] (importedModules R.row.prog.main.body) Xt true { heap := hT w.params, gens := #[], drawn := {}, toks := 959, os := os } = openGood V [] := Prod.ext (OT w os) (Prod.ext (N4 w os) (Prod.ext (Ob w os) (Prod.ext (OJ w os) (Prod.ext (Px w os) (Prod.ext (Pq w os) (Prod.ext (Of w os) (Prod.ext (OG w os) (OP w os))))))))
theorem QZ (w : World) (os : OsState) : HK.obs { heap := hT w.params, gens := #[], drawn := {}, toks := 959, os := os } = HK.val w := by kernel_rfl
theorem seen (w : World) : (fun os => (staticsOk (importedModules R.row.prog.main.body) (boot_heap w.params) (hT w.params) && namesBound R.row.prog (hT w.params) && gensDone { heap := hT w.params, gens := #[], drawn := {}, toks := 959, os := os } && laidKept (boot_heap w.params) (hT w.params),
    openSeen V [] (importedModules R.row.prog.main.body) Xt true { heap := hT w.params, gens := #[], drawn := {}, toks := 959, os := os }, HK.obs { heap := hT w.params, gens := #[], drawn := {}, toks := 959, os := os })) = fun _ : OsState => (true, openGood V [], HK.val w) :=
  funext fun os => Prod.ext (Rn w os) (Prod.ext (Qk w os) (QZ w os))
theorem ws : R.wellSaid = true := by kernel_rfl
theorem facts (P : Params) : FQ (K P) "is_whole" jE 192 191 415 "matefloors.numbers" ∧ FQ (K P) "common_divisor" dm 199 198 415 "matefloors.numbers" ∧ FQ (K P) "is_number" gY 206 205 415 "matefloors.numbers" ∧ FQ (K P) "divisor_of_all" dh 213 212 415 "matefloors.numbers" ∧ FQ (K P) "number" nQ 220 219 415 "matefloors.numbers" ∧ FQ (K P) "mate" vU 227 226 415 "matefloors.numbers" ∧ FQ (K P) "plus" vI 234 233 415 "matefloors.numbers" ∧ FQ (K P) "less" wO 241 240 415 "matefloors.numbers" ∧ FQ (K P) "times" rL 248 247 415 "matefloors.numbers" ∧ FQ (K P) "over" vO 255 254 415 "matefloors.numbers" ∧ FQ (K P) "contrary" jB 262 261 415 "matefloors.numbers" ∧ FQ (K P) "sign_of" kN 269 268 415 "matefloors.numbers" ∧ FQ (K P) "sign_of_parts" dI 276 275 415 "matefloors.numbers" ∧ FQ (K P) "is_above_nought" cU 283 282 415 "matefloors.numbers" ∧ FQ (K P) "must_be_above_nought" bN 290 289 415 "matefloors.numbers" ∧ FQ (K P) "is_kinds" jv 295 294 553 "matefloors.layings" ∧ FQ (K P) "must_be_kinds" dH 302 301 553 "matefloors.layings" ∧ FQ (K P) "lean_fraction" dP 309 308 571 "matefloors.leaning" ∧ FQ (K P) "mixture_of" fO 314 313 582 "matefloors.mixtures" ∧ FQ (K P) "shares_of" gZ 321 320 582 "matefloors.mixtures" ∧ FQ (K P) "is_share" jD 328 327 582 "matefloors.mixtures" ∧ FQ (K P) "bar_for" kL 335 334 582 "matefloors.mixtures" ∧ FQ (K P) "skew" wy 342 341 582 "matefloors.mixtures" ∧ FQ (K P) "plan_of_mixture" cS 349 348 582 "matefloors.mixtures" ∧ FQ (K P) "plan_of_shares" du 356 355 582 "matefloors.mixtures" ∧ FQ (K P) "share_plan" fL 363 362 582 "matefloors.mixtures" ∧ FQ (K P) "wish_told" g9 370 369 663 "matefloors.wishes" ∧ FQ (K P) "is_laid" kP 377 376 663 "matefloors.wishes" ∧ FQ (K P) "leans_most" fS 384 383 663 "matefloors.wishes" ∧ FQ (K P) "mate_signs" fJ 389 388 663 "matefloors.wishes" ∧ FQ (K P) "leans_more" fH 396 395 663 "matefloors.wishes" ∧ FQ (K P) "plan_by_both" d8 403 402 663 "matefloors.wishes" ∧ FQ (K P) "with_greater_mate" cw 410 409 663 "matefloors.wishes" ∧ FQ (K P) "has_greater_mate" cF 417 416 663 "matefloors.wishes" ∧ FQ (K P) "_law_bag" i7 424 423 753 "law_matefloors_k42_wishes_refused" ∧ FQ (K P) "_law_take" gQ 431 430 753 "law_matefloors_k42_wishes_refused" ∧ FQ (K P) "_law_shared" eQ 438 437 753 "law_matefloors_k42_wishes_refused" ∧ FQ (K P) "_law_low" jg 445 444 753 "law_matefloors_k42_wishes_refused" ∧ FQ (K P) "_law_plus" hW 452 451 753 "law_matefloors_k42_wishes_refused" ∧ FQ (K P) "_law_minus" fT 459 458 753 "law_matefloors_k42_wishes_refused" ∧ FQ (K P) "_law_times" fP 466 465 753 "law_matefloors_k42_wishes_refused" ∧ FQ (K P) "_law_contrary" dO 473 472 753 "law_matefloors_k42_wishes_refused" ∧ FQ (K P) "_law_sign" hR 480 479 753 "law_matefloors_k42_wishes_refused" ∧ FQ (K P) "_law_root" hZ 485 484 753 "law_matefloors_k42_wishes_refused" ∧ FQ (K P) "_law_number" eR 492 491 753 "law_matefloors_k42_wishes_refused" ∧ FQ (K P) "_law_above" fB 499 498 753 "law_matefloors_k42_wishes_refused" ∧ FQ (K P) "_law_odd" jr 506 505 753 "law_matefloors_k42_wishes_refused" ∧ FQ (K P) "_law_refusal" d9 511 510 753 "law_matefloors_k42_wishes_refused" ∧ FQ (K P) "_law_kinds" fz 518 517 753 "law_matefloors_k42_wishes_refused" ∧ FQ (K P) "_law_bad_above" dk 525 524 753 "law_matefloors_k42_wishes_refused" ∧ FQ (K P) "_law_bad_kinds" dq 532 531 753 "law_matefloors_k42_wishes_refused" ∧ FQ (K P) "_law_shape" fM 539 538 753 "law_matefloors_k42_wishes_refused" ∧ FQ (K P) "_law_fraction" dM 546 545 753 "law_matefloors_k42_wishes_refused" ∧ FQ (K P) "_law_are_refused" cG 551 550 753 "law_matefloors_k42_wishes_refused" ∧ FQ (K P) "law" sj 558 557 753 "law_matefloors_k42_wishes_refused" ∧ nsIn (K P) mainGlobals "isinstance" = some none ∧ nsIn (K P) mainGlobals "int" = some none ∧ nsIn (K P) mainGlobals "bool" = some none ∧ nsIn (K P) mainGlobals "abs" = some none ∧ nsIn (K P) mainGlobals "tuple" = some none ∧ nsIn (K P) mainGlobals "len" = some none ∧ nsIn (K P) mainGlobals "all" = some none ∧ nsIn (K P) mainGlobals "range" = some none ∧ nsIn (K P) mainGlobals "ValueError" = some none ∧ nsIn (K P) mainGlobals "list" = some none ∧ nsIn (K P) mainGlobals "max" = some none ∧ nsIn (K P) mainGlobals "min" = some none ∧ nsIn (K P) mainGlobals "MOST_KINDS" = some (some (.int 3 555)) ∧ (nsIn (K P) mainGlobals "NOUGHT" = some (some (.ref 184)) ∧ (K P).lookup 184 = some ⟨.type "tuple", none, .seq #[.int 0 417, .int 0 418, .int 1 419] 0, #[]⟩) ∧ (nsIn (K P) mainGlobals "ONE" = some (some (.ref 185)) ∧ (K P).lookup 185 = some ⟨.type "tuple", none, .seq #[.int 1 421, .int 0 422, .int 1 423] 0, #[]⟩) ∧ nsIn (K P) mainGlobals "FloorError" = some (some (.ref 24)) ∧ nsIn (K P) mainGlobals "NoRoot" = some (some (.ref 37)) ∧ nsIn (K P) mainGlobals "NoNumber" = some (some (.ref 49)) ∧ nsIn (K P) mainGlobals "NoLaying" = some (some (.ref 61)) ∧ nsIn (K P) mainGlobals "NoTile" = some (some (.ref 73)) ∧ nsIn (K P) mainGlobals "NoFit" = some (some (.ref 85)) ∧ nsIn (K P) mainGlobals "NoKinds" = some (some (.ref 97)) ∧ nsIn (K P) mainGlobals "NoPlan" = some (some (.ref 109)) ∧ nsIn (K P) mainGlobals "NoSpot" = some (some (.ref 121)) ∧ nsIn (K P) mainGlobals "NoNet" = some (some (.ref 133)) ∧ nsIn (K P) mainGlobals "NoText" = some (some (.ref 145)) ∧ nsIn (K P) mainGlobals "NoSaying" = some (some (.ref 157)) ∧ nsIn (K P) mainGlobals "NoName" = some (some (.ref 169)) ∧ nsIn (K P) mainGlobals "TooMany" = some (some (.ref 181)) ∧ excIn (K P) (49) bmV "ValueError.__new__" = true ∧ exmOne (K P) (.ref 49) (.ref 24) = some true ∧ findIn (K P) (.ref 49) "__getattribute__" = some (some (.builtin "BaseException.__getattribute__")) ∧ findIn (K P) (.ref 49) "__getattr__" = some none ∧ findIn (K P) (.ref 49) "__class__" = some (some (.builtin "object.__class__")) ∧ mroIn (K P) 49 (.type "object") = some true ∧ mroIn (K P) 49 (.type "BaseException") = some true ∧ (clsIn (K P) 49).isSome = true ∧ kitOne (K P) (.ref 49) (.ref 37) = some false ∧ kitOne (K P) (.ref 49) (.ref 49) = some true ∧ kitOne (K P) (.ref 49) (.ref 61) = some false ∧ kitOne (K P) (.ref 49) (.ref 73) = some false ∧ kitOne (K P) (.ref 49) (.ref 85) = some false ∧ kitOne (K P) (.ref 49) (.ref 97) = some false ∧ kitOne (K P) (.ref 49) (.ref 109) = some false ∧ kitOne (K P) (.ref 49) (.ref 121) = some false ∧ kitOne (K P) (.ref 49) (.ref 133) = some false ∧ kitOne (K P) (.ref 49) (.ref 145) = some false ∧ kitOne (K P) (.ref 49) (.ref 157) = some false ∧ kitOne (K P) (.ref 49) (.ref 169) = some false ∧ kitOne (K P) (.ref 49) (.ref 181) = some false ∧ kitOne (K P) (.ref 49) (.type "ValueError") = some true ∧ excIn (K P) (97) bmV "ValueError.__new__" = true ∧ exmOne (K P) (.ref 97) (.ref 24) = some true ∧ findIn (K P) (.ref 97) "__getattribute__" = some (some (.builtin "BaseException.__getattribute__")) ∧ findIn (K P) (.ref 97) "__getattr__" = some none ∧ findIn (K P) (.ref 97) "__class__" = some (some (.builtin "object.__class__")) ∧ mroIn (K P) 97 (.type "object") = some true ∧ mroIn (K P) 97 (.type "BaseException") = some true ∧ (clsIn (K P) 97).isSome = true ∧ kitOne (K P) (.ref 97) (.ref 37) = some false ∧ kitOne (K P) (.ref 97) (.ref 49) = some false ∧ kitOne (K P) (.ref 97) (.ref 61) = some false ∧ kitOne (K P) (.ref 97) (.ref 73) = some false ∧ kitOne (K P) (.ref 97) (.ref 85) = some false ∧ kitOne (K P) (.ref 97) (.ref 97) = some true ∧ kitOne (K P) (.ref 97) (.ref 109) = some false ∧ kitOne (K P) (.ref 97) (.ref 121) = some false ∧ kitOne (K P) (.ref 97) (.ref 133) = some false ∧ kitOne (K P) (.ref 97) (.ref 145) = some false ∧ kitOne (K P) (.ref 97) (.ref 157) = some false ∧ kitOne (K P) (.ref 97) (.ref 169) = some false ∧ kitOne (K P) (.ref 97) (.ref 181) = some false ∧ kitOne (K P) (.ref 97) (.type "ValueError") = some true ∧ (nsIn (K P) mainGlobals "__builtins__" = some (some (.ref 4)) ∧ (4 : Addr) ≠ builtinsNs ∧ (K P).lookup 4 = some ⟨.type "module", some builtinsNs, .plain, #[]⟩) :=
  ⟨⟨by kernel_rfl, by kernel_rfl, by kernel_rfl, by kernel_rfl⟩, ⟨by kernel_rfl, by kernel_rfl, by kernel_rfl, by kernel_rfl⟩, ⟨by kernel_rfl, by kernel_rfl, by kernel_rfl, by kernel_rfl⟩, ⟨by kernel_rfl, by kernel_rfl, by kernel_rfl, by kernel_rfl⟩, ⟨by kernel_rfl, by kernel_rfl, by kernel_rfl, by kernel_rfl⟩, ⟨by kernel_rfl, by kernel_rfl, by kernel_rfl, by kernel_rfl⟩, ⟨by kernel_rfl, by kernel_rfl, by kernel_rfl, by kernel_rfl⟩, ⟨by kernel_rfl, by kernel_rfl, by kernel_rfl, by kernel_rfl⟩, ⟨by kernel_rfl, by kernel_rfl, by kernel_rfl, by kernel_rfl⟩, ⟨by kernel_rfl, by kernel_rfl, by kernel_rfl, by kernel_rfl⟩, ⟨by kernel_rfl, by kernel_rfl, by kernel_rfl, by kernel_rfl⟩, ⟨by kernel_rfl, by kernel_rfl, by kernel_rfl, by kernel_rfl⟩, ⟨by kernel_rfl, by kernel_rfl, by kernel_rfl, by kernel_rfl⟩, ⟨by kernel_rfl, by kernel_rfl, by kernel_rfl, by kernel_rfl⟩, ⟨by kernel_rfl, by kernel_rfl, by kernel_rfl, by kernel_rfl⟩, ⟨by kernel_rfl, by kernel_rfl, by kernel_rfl, by kernel_rfl⟩, ⟨by kernel_rfl, by kernel_rfl, by kernel_rfl, by kernel_rfl⟩, ⟨by kernel_rfl, by kernel_rfl, by kernel_rfl, by kernel_rfl⟩, ⟨by kernel_rfl, by kernel_rfl, by kernel_rfl, by kernel_rfl⟩, ⟨by kernel_rfl, by kernel_rfl, by kernel_rfl, by kernel_rfl⟩, ⟨by kernel_rfl, by kernel_rfl, by kernel_rfl, by kernel_rfl⟩, ⟨by kernel_rfl, by kernel_rfl, by kernel_rfl, by kernel_rfl⟩, ⟨by kernel_rfl, by kernel_rfl, by kernel_rfl, by kernel_rfl⟩, ⟨by kernel_rfl, by kernel_rfl, by kernel_rfl, by kernel_rfl⟩, ⟨by kernel_rfl, by kernel_rfl, by kernel_rfl, by kernel_rfl⟩, ⟨by kernel_rfl, by kernel_rfl, by kernel_rfl, by kernel_rfl⟩, ⟨by kernel_rfl, by kernel_rfl, by kernel_rfl, by kernel_rfl⟩, ⟨by kernel_rfl, by kernel_rfl, by kernel_rfl, by kernel_rfl⟩, ⟨by kernel_rfl, by kernel_rfl, by kernel_rfl, by kernel_rfl⟩, ⟨by kernel_rfl, by kernel_rfl, by kernel_rfl, by kernel_rfl⟩, ⟨by kernel_rfl, by kernel_rfl, by kernel_rfl, by kernel_rfl⟩, ⟨by kernel_rfl, by kernel_rfl, by kernel_rfl, by kernel_rfl⟩, ⟨by kernel_rfl, by kernel_rfl, by kernel_rfl, by kernel_rfl⟩, ⟨by kernel_rfl, by kernel_rfl, by kernel_rfl, by kernel_rfl⟩, ⟨by kernel_rfl, by kernel_rfl, by kernel_rfl, by kernel_rfl⟩, ⟨by kernel_rfl, by kernel_rfl, by kernel_rfl, by kernel_rfl⟩, ⟨by kernel_rfl, by kernel_rfl, by kernel_rfl, by kernel_rfl⟩, ⟨by kernel_rfl, by kernel_rfl, by kernel_rfl, by kernel_rfl⟩, ⟨by kernel_rfl, by kernel_rfl, by kernel_rfl, by kernel_rfl⟩, ⟨by kernel_rfl, by kernel_rfl, by kernel_rfl, by kernel_rfl⟩, ⟨by kernel_rfl, by kernel_rfl, by kernel_rfl, by kernel_rfl⟩, ⟨by kernel_rfl, by kernel_rfl, by kernel_rfl, by kernel_rfl⟩, ⟨by kernel_rfl, by kernel_rfl, by kernel_rfl, by kernel_rfl⟩, ⟨by kernel_rfl, by kernel_rfl, by kernel_rfl, by kernel_rfl⟩, ⟨by kernel_rfl, by kernel_rfl, by kernel_rfl, by kernel_rfl⟩, ⟨by kernel_rfl, by kernel_rfl, by kernel_rfl, by kernel_rfl⟩, ⟨by kernel_rfl, by kernel_rfl, by kernel_rfl, by kernel_rfl⟩, ⟨by kernel_rfl, by kernel_rfl, by kernel_rfl, by kernel_rfl⟩, ⟨by kernel_rfl, by kernel_rfl, by kernel_rfl, by kernel_rfl⟩, ⟨by kernel_rfl, by kernel_rfl, by kernel_rfl, by kernel_rfl⟩, ⟨by kernel_rfl, by kernel_rfl, by kernel_rfl, by kernel_rfl⟩, ⟨by kernel_rfl, by kernel_rfl, by kernel_rfl, by kernel_rfl⟩, ⟨by kernel_rfl, by kernel_rfl, by kernel_rfl, by kernel_rfl⟩, ⟨by kernel_rfl, by kernel_rfl, by kernel_rfl, by kernel_rfl⟩, ⟨by kernel_rfl, by kernel_rfl, by kernel_rfl, by kernel_rfl⟩, by kernel_rfl, by kernel_rfl, by kernel_rfl, by kernel_rfl, by kernel_rfl, by kernel_rfl, by kernel_rfl, by kernel_rfl, by kernel_rfl, by kernel_rfl, by kernel_rfl, by kernel_rfl, by kernel_rfl, ⟨by kernel_rfl, by kernel_rfl⟩, ⟨by kernel_rfl, by kernel_rfl⟩, by kernel_rfl, by kernel_rfl, by kernel_rfl, by kernel_rfl, by kernel_rfl, by kernel_rfl, by kernel_rfl, by kernel_rfl, by kernel_rfl, by kernel_rfl, by kernel_rfl, by kernel_rfl, by kernel_rfl, by kernel_rfl, by kernel_rfl, by kernel_rfl, by kernel_rfl, by kernel_rfl, by kernel_rfl, by kernel_rfl, by kernel_rfl, by kernel_rfl, by kernel_rfl, by kernel_rfl, by kernel_rfl, by kernel_rfl, by kernel_rfl, by kernel_rfl, by kernel_rfl, by kernel_rfl, by kernel_rfl, by kernel_rfl, by kernel_rfl, by kernel_rfl, by kernel_rfl, by kernel_rfl, by kernel_rfl, by kernel_rfl, by kernel_rfl, by kernel_rfl, by kernel_rfl, by kernel_rfl, by kernel_rfl, by kernel_rfl, by kernel_rfl, by kernel_rfl, by kernel_rfl, by kernel_rfl, by kernel_rfl, by kernel_rfl, by kernel_rfl, by kernel_rfl, by kernel_rfl, by kernel_rfl, by kernel_rfl, by kernel_rfl, by kernel_rfl, by kernel_rfl, ⟨by kernel_rfl, by decide, by kernel_rfl⟩⟩
theorem FH (P : Params) : ((K P).filterMap fun p => bT p.2) = [(548, ("_law_are_refused" : Str)), (553, ("law" : Str))] ∧ ((K P).lookup 550).bind bT = some (548, ("_law_are_refused" : Str)) ∧ ((K P).lookup 557).bind bT = some (553, ("law" : Str)) ∧ (KF P).lookup 548 = some (tabObj #[]) ∧ (KF P).lookup 553 = some (tabObj #[]) ∧ (K P).lookup 548 = none ∧ (K P).lookup 553 = none := ⟨by kernel_rfl, by kernel_rfl, by kernel_rfl, by kernel_rfl, by kernel_rfl, by kernel_rfl, by kernel_rfl⟩
theorem KN (P : Params) : ((K P).filterMap fun p => bT p.2) = [(548, ("_law_are_refused" : Str)), (553, ("law" : Str))] := (FH P).1
theorem iZ (P : Params) : ((K P).lookup 550).bind bT = some (548, ("_law_are_refused" : Str)) := (FH P).2.1
theorem pV {q2 : Str} (h : ((548 : Addr), q2) ∈ ([(548, ("_law_are_refused" : Str)), (553, ("law" : Str))] : List (Addr × Str))) : q2 = "_law_are_refused" := by simpa using h
theorem J9 (P : Params) : ((K P).lookup 557).bind bT = some (553, ("law" : Str)) := (FH P).2.2.1
theorem Ql {q2 : Str} (h : ((553 : Addr), q2) ∈ ([(548, ("_law_are_refused" : Str)), (553, ("law" : Str))] : List (Addr × Str))) : q2 = "law" := by simpa using h
theorem jM (P : Params) : (KF P).lookup 548 = some (tabObj #[]) ∧ (K P).lookup 548 = none := ⟨(FH P).2.2.2.1, (FH P).2.2.2.2.2.1⟩
theorem GS (P : Params) : (KF P).lookup 553 = some (tabObj #[]) ∧ (K P).lookup 553 = none := ⟨(FH P).2.2.2.2.1, (FH P).2.2.2.2.2.2⟩
theorem left : LeftO R.row.prog V [] Xt HK.obs HK.val 20000 :=
  LeftO.of_pieces (H₀ := boot_heap) (H₁ := hT) (gs₀ := #[]) (gs₁ := #[]) (d₀ := boot_drawn) (d₁ := {}) (k₀ := boot_toks) (k₁ := 959) (m₀ := 11) (ann := some (.ref 6)) (M := 20000)
    (boot_open (by kernel_rfl) (by kernel_rfl) (fun s => by kernel_rfl)) (fun w => by kernel_rfl) run (by kernel_rfl) seen
end K42.H
set_option Elab.async false
set_option linter.all false
set_option maxRecDepth 100000
namespace L2
open PySem PySem.Spec PyProof.Rows
def jH (A : Around) (h : Heap) : Prop := A.handled = none ∨ ∃ (e : Addr) (oe : Obj) (vs : Array Value), A.handled = some (.ref e) ∧ h.get? e = some oe ∧ oe.data = .fields vs ∧ vs[2]? = some .none
theorem Ai : entryFor table "proto.unchain" = some Builtin.«proto.unchain» := entryFor_of_tree (by kernel_rfl)
section
variable {prog : Program} {w : World} {A : Around} {E : Value → Shared → Prop} {s : Shared}
theorem AR {x e : Addr} {oe : Obj} {vs : Array Value} {Q : Value → Shared → Prop} (he : s.heap.get? e = some oe) (hd : oe.data = .fields vs) (h2 : vs[2]? = some .none) (h : Q .none s) :
    wpAny (model prog w) A (runValue (.builtin "proto.unchain" ⟨[.ref x, .ref e, .ref e, .bool false], []⟩)) Q E s := by
  refine wpAny_runValue (codeAny_builtin Ai ?_)
  unfold Builtin.«proto.unchain»
  dsimp only
  refine wpAny_bind (wpAny_field he hd h2 ?_)
  rw [if_pos (by rfl)]
  exact wpAny_pure h
theorem yU {α : Type} {a : Addr} {oa : Obj} {ws : Array Value} {Q : α → Shared → Prop} (q : jH A s.heap) (ha : s.heap.get? a = some oa) (hda : oa.data = .fields ws) (hz : 2 < ws.size)
    (hnew : ∀ e oe, A.handled = some (.ref e) → s.heap.get? e = some oe → e ≠ a)
    (h : ∀ h', Heap.ExtBut a s.heap h' → (∃ o', h'.get? a = some o' ∧ o'.cls = oa.cls) → E (.ref a) { s with heap := h' }) : wpAny (model prog w) A (raiseNew (.ref a) : Sem α) Q E s := by
  unfold raiseNew
  refine wpAny_bind (wpAny_handled ?_)
  rcases q with q | ⟨e, oe, vs, q, he, hd, h2⟩
  · rw [q]
    exact wpAny_bind (wpAny_pure (wpAny_throw (h s.heap (fun b o _ z => z) ⟨oa, ha, rfl⟩)))
  · rw [q]
    have ne : e ≠ a := hnew e oe q he
    dsimp only
    rw [if_pos (by simp [ne])]
    refine wpAny_bind (wpAny_holding (AR he hd h2 ?_))
    refine wpAny_bind ?_
    refine wpAny_setField ha hda hz (wpAny_throw ?_)
    have hd' := Obj.data_mapFields hda (·.setIfInBounds 2 (Value.ref e))
    exact h _ (Heap.SameBut.update ..).extBut ⟨_, Heap.get?_update_self _ ha (Obj.isFreed_of_fields hd'), Obj.cls_mapFields ..⟩
theorem yC {it : Addr} {α : Type} {h0 : Heap} {Q : α → Shared → Prop} (q : jH A s.heap) (k : Heap.ExtBut it h0 s.heap) (kl : ∀ e oe, A.handled = some (.ref e) → s.heap.get? e = some oe → True)
    (h : ∀ h' a, Heap.ExtBut it h0 h' → (∃ o', h'.get? a = some o' ∧ o'.cls = .type "StopIteration") → E (.ref a) { s with heap := h' }) : wpAny (model prog w) A (newExc (.type "StopIteration") [] >>= fun e => (raiseNew e : Sem α)) Q E s := by
  refine wpAny_bind ?_; simp only [newExc, newTuple]
  refine wpAny_bind (wpAny_newObj_type ?_ (by size_fits)); refine wpAny_bind (m := firstArgMember _ _) (wpAny_of_eq (a := Value.none) (by first | rfl | (simp only [firstArgMember]; rfl)) ?_); refine wpAny_newObj_type ?_ (by size_fits)
  have q' : ∀ o1 o2 : Obj, jH A ((s.heap.push o1).push o2) := fun o1 o2 => by
    rcases q with q | ⟨e, oe, vs, q, he, r⟩
    · exact .inl q
    · exact .inr ⟨e, oe, vs, q, Heap.get?_push_of_some _ (Heap.get?_push_of_some _ he), r⟩
  refine yU (q' _ _) (Heap.get?_push_size _ rfl) rfl (by rw [Array.size_append]; exact Nat.lt_of_lt_of_le (by decide : 2 < 6) (Nat.le_add_right _ _)) (fun e oe hq he z => ?_) fun h' hx ⟨o', ho', hc'⟩ => h h' _ (fun b o hb e => hx b o ?_ (Heap.get?_push_of_some _ (Heap.get?_push_of_some _ (k b o hb e)))) ⟨o', ho', hc'⟩
  · rcases q with q | ⟨e1, oe1, vs, q, he1, r⟩
    · rw [q] at hq; cases hq
    · rw [q] at hq; cases hq
      exact absurd (Heap.lt_size he1) (by rw [z]; simp)
  · exact Nat.ne_of_lt (Nat.lt_of_lt_of_le (Heap.lt_size (k b o hb e)) (by simp))
theorem ur {it : Addr} {o : Obj} {ws : Array Value} {f : Array Value → Array Value} (q : jH A s.heap) (ho : s.heap.get? it = some o) (hd : o.data = .fields ws) (hn : ∀ e, A.handled = some (.ref e) → e ≠ it) : jH A (s.heap.update it (Obj.mapFields f)) := by
  rcases q with q | ⟨e, oe, vs, q, he, r⟩
  · exact .inl q
  · exact .inr ⟨e, oe, vs, q, by rw [Heap.get?_update_other _ _ (Ne.symm (hn e q))]; exact he, r⟩
theorem zh {it l : Addr} {i : Nat} {items} {Q : Option Value → Shared → Prop} (q : jH A s.heap) (hn : ∀ e, A.handled = some (.ref e) → e ≠ it) (hit : s.heap.IsListIter it l i) (hl : s.heap.IsList l items) (hx : items[i]? = none)
    (hQ : ∀ h', Heap.ExtBut it s.heap h' → Q none { s with heap := h' }) : wpAny (model prog w) A (pyNext (.ref it)) Q E s := by
  obtain ⟨o, ho, hc, hd⟩ := id hit
  obtain ⟨ol, hol, _, nl, hdl⟩ := hl; unfold pyNext
  refine wpAny_bind (wpAny_attempt (wpAny_callSpecial?_slot (name := Str.ofString "__next__") hit.typeIs slot_listiter_next (wpAny_call_entry slot_listiter_next hit.typeIs entry_listiter_next ?_ (args_listiter_next _))))
  show wpAny _ _ (field (.ref it) 0 >>= _) _ _ s; refine wpAny_bind (wpAny_field ho hd (x := .ref l) rfl ?_)
  show wpAny _ _ (if (Value.ref l == Value.none) = true then _ else _) _ _ s; rw [if_neg (show ¬ ((Value.ref l == Value.none) = true) from Bool.false_ne_true)]
  show wpAny _ _ (field (.ref it) 1 >>= _) _ _ s; refine wpAny_bind (wpAny_field ho hd (x := .int i 0) rfl ?_)
  show wpAny _ _ (seqItems? (.ref l) >>= _) _ _ s; refine wpAny_bind (wpAny_seqItems hol hdl ?_); simp only [Int.toNat_natCast, hx]
  refine wpAny_bind (wpAny_rule (wpAny_bind (wpAny_setField ho hd (by simp) ?_)))
  refine yC (it := it) (h0 := s.heap) (A := A.in1) (ur (A := A.in1) q ho hd hn) (Heap.SameBut.update ..).extBut (fun _ _ _ _ => trivial) fun h' a hx' ⟨o', ho', hc'⟩ => ?_
  refine wpAny_bind (wpAny_isInstance (T := "StopIteration") (b := true) ⟨_, ho', hc'⟩ isSubtype_stop ?_); exact wpAny_pure (hQ _ hx')
theorem uw {it t : Addr} {i : Nat} {items} {Q : Option Value → Shared → Prop} (q : jH A s.heap) (hn : ∀ e, A.handled = some (.ref e) → e ≠ it) (hit : IsTupIter s.heap it t i) (ht : IsTup s.heap t items) (hx : items[i]? = none)
    (hQ : ∀ h', Heap.ExtBut it s.heap h' → Q none { s with heap := h' }) : wpAny (model prog w) A (pyNext (.ref it)) Q E s := by
  obtain ⟨o, ho, hc, hd⟩ := id hit
  obtain ⟨ol, hol, _, nl, hdl⟩ := ht; unfold pyNext
  refine wpAny_bind (wpAny_attempt (wpAny_callSpecial?_slot (name := Str.ofString "__next__") hit.typeIs slot_tupleiter_next (wpAny_call_entry slot_tupleiter_next hit.typeIs entry_tupleiter_next ?_ (args_tupleiter_next _))))
  show wpAny _ _ (field (.ref it) 0 >>= _) _ _ s; refine wpAny_bind (wpAny_field ho hd (x := .ref t) rfl ?_)
  show wpAny _ _ (if (Value.ref t == Value.none) = true then _ else _) _ _ s; rw [if_neg (show ¬ ((Value.ref t == Value.none) = true) from Bool.false_ne_true)]
  show wpAny _ _ (field (.ref it) 1 >>= _) _ _ s; refine wpAny_bind (wpAny_field ho hd (x := .int i 0) rfl ?_)
  show wpAny _ _ (seqItems? (.ref t) >>= _) _ _ s; refine wpAny_bind (wpAny_seqItems hol hdl ?_); simp only [Int.toNat_natCast, hx]
  refine wpAny_bind (wpAny_rule (wpAny_bind (wpAny_setField ho hd (by simp) ?_)))
  refine yC (it := it) (h0 := s.heap) (A := A.in1) (ur (A := A.in1) q ho hd hn) (Heap.SameBut.update ..).extBut (fun _ _ _ _ => trivial) fun h' a hx' ⟨o', ho', hc'⟩ => ?_
  refine wpAny_bind (wpAny_isInstance (T := "StopIteration") (b := true) ⟨_, ho', hc'⟩ isSubtype_stop ?_); exact wpAny_pure (hQ _ hx')
theorem zF {env : Env} {elts : List Expr} {x1} {pos : Pos} {t : Addr} {items : Array Value} {Q : Unit → Shared → Prop} (q : jH A s.heap) (ht : IsTup s.heap t items) (hn : (assignEach elts env).length = items.size)
    (hstar : (assignEach elts env).findIdx? (·.1) = none) (h : ∀ h', Heap.ExtBut s.heap.objs.size s.heap h' → wpAny (model prog w) A (assignInOrder ((assignEach elts env).map (·.2)) items.toList) Q E { s with heap := h' }) :
    wpAny (model prog w) A (assign (.Tuple elts x1 pos) env (.ref t)) Q E s := by
  rw [assign_Tuple]
  refine wpAny_bind (wpAny_standAt ?_)
  unfold unpack; rw [hn, hstar]
  refine wpAny_bind (wpAny_holding ?_)
  have hlt : t ≠ s.heap.objs.size := by obtain ⟨o, ho, _⟩ := ht; exact Nat.ne_of_lt (Heap.lt_size ho)
  unfold unpackItems; refine wpAny_bind ?_
  unfold notIterableAtAll; refine wpAny_bind (wpAny_specialOf ht.typeIs slot_tuple_iter.lookup ?_); refine wpAny_pure ?_; simp only [Bool.false_eq_true, if_false]
  refine wpAny_bind (wpAny_holding (iter_tuple ht ?_))
  refine wpAny_bind (wpAny_holding (draw_tuple hlt items.size 0 _ _ ⟨_, Heap.get?_push_size _ rfl, rfl, rfl⟩ (ht.push _) (by omega) fun h₁ hit₁ hs₁ => ?_))
  rw [show List.take items.size (List.drop 0 items.toList) = items.toList from by rw [List.drop_zero]; exact List.take_of_length_le (by simp), if_neg (by simp)]
  have fr : ∀ e, A.handled = some (.ref e) → e ≠ s.heap.objs.size := fun e hq => by
    rcases q with q | ⟨e1, oe1, vs, q, he1, r⟩
    · rw [q] at hq; cases hq
    · rw [q] at hq; cases hq; exact Nat.ne_of_lt (Heap.lt_size he1)
  have q1 : jH A h₁ := by
    rcases q with q | ⟨e, oe, vs, q, he, r⟩
    · exact .inl q
    · exact .inr ⟨e, oe, vs, q, hs₁.extBut e oe (fr e q) (Heap.get?_push_of_some _ he), r⟩
  refine wpAny_bind (wpAny_holding (uw q1 fr hit₁ ((ht.push _).extBut hs₁.extBut hlt) (by simp) fun h₂ he₂ => ?_)); simp only [Option.isSome_none, Bool.false_eq_true, if_false]
  exact wpAny_pure (h h₂ fun b o hb e => he₂ b o hb (hs₁.extBut b o hb (Heap.get?_push_of_some _ e)))
end
end L2
set_option Elab.async false
set_option linter.all false
set_option maxRecDepth 100000
namespace L2
open PySem PySem.Spec PyProof.Rows
abbrev Key := Sum Int Str
def NC : Key → Value → Bool
  | .inl k, v => Value.isInt k v
  | .inr x, v => Value.isStrOf x v
def RP (w : World) : Key → Int
  | .inl k => hashInt k
  | .inr x => hashStr w x
theorem dR : ∀ {k : Key} {v : Value}, NC k v = true → (∃ i t, k = Sum.inl i ∧ v = Value.int i t) ∨ (∃ x t, k = Sum.inr x ∧ v = Value.str x t)
  | .inl i, v, h => by
    obtain ⟨t, e⟩ := Value.isInt_shape (k := i) (v := v) h
    exact .inl ⟨i, t, rfl, e⟩
  | .inr x, v, h => by
    obtain ⟨t, e⟩ := Value.isStrOf_shape (x := x) (v := v) h
    exact .inr ⟨x, t, rfl, e⟩
theorem OD (a b : Int) : decide ((Sum.inl a : Key) = Sum.inl b) = (a == b) := by
  by_cases e : a = b
  · subst e; simp
  · have h : ¬ (Sum.inl a : Key) = Sum.inl b := fun q => e (Sum.inl.inj q)
    rw [decide_eq_false h]
    exact (beq_eq_false_iff_ne.mpr e).symm
theorem Pr (a b : Str) : decide ((Sum.inr a : Key) = Sum.inr b) = decide (a = b) := by
  by_cases e : a = b
  · subst e; simp
  · have h : ¬ (Sum.inr a : Key) = Sum.inr b := fun q => e (Sum.inr.inj q)
    rw [decide_eq_false h, decide_eq_false e]
theorem Ol (a : Int) (b : Str) : decide ((Sum.inl a : Key) = Sum.inr b) = false := decide_eq_false (fun q => nomatch q)
theorem N7 (a : Str) (b : Int) : decide ((Sum.inr a : Key) = Sum.inl b) = false := decide_eq_false (fun q => nomatch q)
def He (prog : Program) (w : World) : PySem.KeyKind prog w Key where
  is := NC
  hash := RP w
  inj := fun v a b ha hb => by
    rcases dR ha with ⟨i, t, rfl, rfl⟩ | ⟨x, t, rfl, rfl⟩
    · rcases dR hb with ⟨j, u, rfl, e⟩ | ⟨y, u, rfl, e⟩
      · injection e with e1 _; rw [e1]
      · exact nomatch e
    · rcases dR hb with ⟨j, u, rfl, e⟩ | ⟨y, u, rfl, e⟩
      · exact nomatch e
      · injection e with e1 _; rw [e1]
  byValue := fun k v h => by
    rcases dR h with ⟨i, t, rfl, rfl⟩ | ⟨x, t, rfl, rfl⟩ <;> rfl
  pyHash := fun hv h => by
    rcases dR hv with ⟨i, t, rfl, rfl⟩ | ⟨x, t, rfl, rfl⟩
    · exact wpAny_pyHash_int h
    · exact wpAny_pyHash_str h
  eqBool := fun hu hv h => by
    rcases dR hu with ⟨i, t, rfl, rfl⟩ | ⟨x, t, rfl, rfl⟩
    · rcases dR hv with ⟨j, u, rfl, rfl⟩ | ⟨y, u, rfl, rfl⟩
      · rw [OD] at h; exact wpAny_eqBool_int h
      · rw [Ol] at h; exact SeqAt.EqAt.int_str i t y u _ _ _ _ h
    · rcases dR hv with ⟨j, u, rfl, rfl⟩ | ⟨y, u, rfl, rfl⟩
      · rw [N7] at h; exact SeqAt.EqAt.str_int x t j u _ _ _ _ h
      · rw [Pr] at h; exact wpAny_eqBool_str h
  «strs» := fun k x t v h => by
    rcases dR h with ⟨i, u, rfl, e⟩ | ⟨y, u, rfl, e⟩
    · exact nomatch e
    · injection e with e1 _
      subst e1
      cases v <;> rfl
end L2
namespace L2
open PySem PySem.Spec PyProof.Rows
inductive V where
  | non | bl (b : Bool) | int (i : Int) | str (x : Str) | byt (b : Array UInt8) | flt (b : UInt64) | ref (a : Addr) | ty (n : String)
  deriving DecidableEq
def RelV : V → Value → Prop
  | .non, u => u = Value.none
  | .bl b, u => u = Value.bool b
  | .int i, u => ∃ t, u = Value.int i t
  | .str x, u => ∃ t, u = Value.str x t
  | .byt b, u => ∃ t, u = Value.bytes b t
  | .flt b, u => ∃ t, u = Value.float b t
  | .ref a, u => u = Value.ref a
  | .ty n, u => u = Value.type n
abbrev Vals : List V → List Value → Prop := Paired RelV
theorem Vals.length {xs : List V} {us : List Value} (r : Vals xs us) : xs.length = us.length := Paired.length r
theorem Vals.get : ∀ {xs : List V} {us : List Value} {i : Nat} {x : V}, Vals xs us → xs[i]? = some x → ∃ u, us[i]? = some u ∧ RelV x u
  | _, _, _, _, .nil, e => by simp at e
  | _, _, 0, _, .cons r _, e => by simp at e; subst e; exact ⟨_, rfl, r⟩
  | _, _, i + 1, x, .cons _ t, e => by
    obtain ⟨u, h1, h2⟩ := Vals.get (i := i) (x := x) t (by simpa using e)
    exact ⟨u, by simpa using h1, h2⟩
theorem Vals.set {x : V} {u : Value} (r : RelV x u) : ∀ {xs : List V} {us : List Value} (i : Nat), Vals xs us → Vals (xs.set i x) (us.set i u)
  | _, _, _, .nil => .nil
  | _, _, 0, .cons _ t => .cons r t
  | _, _, i + 1, .cons q t => .cons q (Vals.set r i t)
theorem Vals.append : ∀ {xs ys : List V} {us ws : List Value}, Vals xs us → Vals ys ws → Vals (xs ++ ys) (us ++ ws)
  | _, _, _, _, .nil, s => s
  | _, _, _, _, .cons r t, s => .cons r (Vals.append t s)
theorem Vals.take : ∀ {xs : List V} {us : List Value} (n : Nat), Vals xs us → Vals (xs.take n) (us.take n)
  | _, _, 0, _ => .nil
  | _, _, _ + 1, .nil => .nil
  | _, _, n + 1, .cons r t => .cons r (Vals.take n t)
theorem Vals.drop : ∀ {xs : List V} {us : List Value} (n : Nat), Vals xs us → Vals (xs.drop n) (us.drop n)
  | _, _, 0, r => r
  | _, _, _ + 1, .nil => .nil
  | _, _, n + 1, .cons _ t => Vals.drop n t
def Rq : Option V → Option Value → Prop
  | some v, some u => RelV v u
  | none, none => True
  | _, _ => False
def KV {κ : Type} : List (κ × V) → List (κ × Value) → Prop := Paired fun (p : κ × V) (q : κ × Value) => p.1 = q.1 ∧ RelV p.2 q.2
def kV : Key → V
  | .inl i => .int i
  | .inr x => .str x
inductive HO where
  /-- a list -/
  | lst (xs : List V)
  /-- a tuple (never changes) -/
  | tup (xs : List V)
  /-- a dict whose keys are ints and texts; one whose keys are tuples of ints and texts (the empty one is both) -/
  | dK (kvs : List (Key × V)) | dT (kvs : List (List Key × V))
  /-- a set of ints: its members, its size -/
  | set (S : Int → Bool) (n : Nat)
  /-- an instance of the class at C, its dict at dx, its attributes -/
  | ins (C dx : Addr) (fs : List (Str × V))
  /-- the dict of the instance at x -/
  | own (x : Addr)
  /-- the dict of an exception -/
  | xd (fs : List (Str × V))
  /-- a bound method, f of x -/
  | met (f x : Addr)
  /-- a range object lo, lo + 1, .. below hi -/
  | rng (lo hi : Int)
  /-- a thing that is known to the object (the script; a dict while a loop walks it): read, never written while it is so -/
  | frz (o : Obj) (u : HO)
  /-- a code object's table -/
  | tbl (ps : Array Value)
  /-- any other thing, by what is true of its one object (a def of one's own: SetO a S n := HO.ext fun h => ..) -/
  | ext (φ : Heap → Prop)
abbrev Hp := Addr → Option HO
def upd (H : Hp) (a : Addr) (o : HO) : Hp := fun b => if b = a then some o else H b
theorem cP {H : Hp} {a : Addr} {o : HO} : upd H a o a = some o := by unfold upd; rw [if_pos rfl]
theorem bD {H : Hp} {a b : Addr} {o : HO} (h : b ≠ a) : upd H a o b = H b := by unfold upd; rw [if_neg h]
theorem aU {H : Hp} {a b : Addr} {o : HO} (h : H a = some o) (h' : H b = none) : a ≠ b := by
  intro e; subst e; rw [h] at h'; cases h'
section
variable (P : Program) (w : World)
def lH (H : Hp) (h : Heap) (a : Addr) : HO → Prop
  | .lst xs => xs.length ≤ sizeLine ∧ ∃ (its : List Value) (n : Nat), Vals xs its ∧ h.get? a = some { cls := .type "list", data := .seq its.toArray n }
  | .tup xs => xs.length ≤ sizeLine ∧ ∃ its : List Value, Vals xs its ∧ IsTup h a its.toArray
  | .dK kvs => kvs.length ≤ sizeLine ∧ (a == sysModules) = false ∧ ∃ vs, KV kvs vs ∧ h.DictOf (He P w) a vs
  | .dT kvs => kvs.length ≤ sizeLine ∧ (a == sysModules) = false ∧ ∃ xs : List (List Key × Addr × Value),
      Paired (fun (p : List Key × V) (q : List Key × Addr × Value) => p.1 = q.1 ∧ H q.2.1 = some (.tup (p.1.map kV)) ∧ RelV p.2 q.2.2) kvs xs ∧
      ∃ o es ep, h.get? a = some o ∧ o.ExactDict ∧ o.data = .dict es ep ∧ es.toList = xs.map (entryOfKey (tupleKind (He P w))) ∧ (xs.map (·.1)).Nodup
  | .set S n => h.SetOf (intKind P w) a S n
  | .ins C dx fs => H dx = some (.own a) ∧ fs.length ≤ 1000 ∧ dx ≠ a ∧ h.get? a = some (PySem.W.instObj C dx) ∧
      ∃ mA, h.Ns1 dx mA ∧ (∀ f, Rq (fs.lookup f) (mA f)) ∧ PySem.Within mA (fs.map (·.1))
  | .own _ => ∃ o, h.get? a = some o
  | .xd fs => ∃ mA, h.Ns1 a mA ∧ ∀ f, Rq (fs.lookup f) (mA f)
  | .rng lo hi => ∃ t u v, h.get? a = some { cls := .type "range", data := .fields #[.int lo t, .int hi u, .int 1 v] }
  | .frz o u => h.get? a = some o ∧ lH H h a u
  | .tbl ps => h.get? a = some { cls := .none, data := .fields ps }
  | .met f x => h.get? a = some (PySem.W.methodObj (.ref f) (.ref x))
  | .ext φ => φ h ∧ (∃ o, h.get? a = some o) ∧ ∀ h1 h2 : Heap, φ h1 → (∀ o, h1.get? a = some o → h2.get? a = some o) → φ h2
def HOk (H : Hp) (h : Heap) : Prop := ∀ a o, H a = some o → lH P w H h a o
end
section
variable {P : Program} {w : World} {H H' : Hp} {h h' : Heap} {a : Addr} {o : HO}
theorem lH.lt (x : lH P w H h a o) : a < h.objs.size := by
  cases o with
  | lst xs => obtain ⟨_, _, _, _, e⟩ := x; exact Heap.lt_size e
  | tup xs => obtain ⟨_, _, _, p⟩ := x; exact p.lt
  | dK kvs => obtain ⟨_, _, _, _, o, _, _, e, _⟩ := x; exact Heap.lt_size e
  | dT kvs => obtain ⟨_, _, _, _, o, _, _, e, _⟩ := x; exact Heap.lt_size e
  | set S n => obtain ⟨o, _, _, _, e, _⟩ := x; exact Heap.lt_size e
  | ins C dx fs => obtain ⟨_, _, _, e, _⟩ := x; exact Heap.lt_size e
  | own y => obtain ⟨_, e⟩ := x; exact Heap.lt_size e
  | xd fs => obtain ⟨_, ⟨_, _, _, e, _⟩, _⟩ := x; exact Heap.lt_size e
  | rng lo hi => obtain ⟨_, _, _, e⟩ := x; exact Heap.lt_size e
  | frz ob u => obtain ⟨e, _⟩ := x; exact Heap.lt_size e
  | tbl ps => exact Heap.lt_size (show h.get? a = some _ from x)
  | met f y => exact Heap.lt_size (show h.get? a = some _ from x)
  | ext φ => obtain ⟨_, ⟨_, e⟩, _⟩ := x; exact Heap.lt_size e
theorem Paired.QS {α β : Type} {F G : α → β → Prop} : ∀ {l₁ : List α} {l₂ : List β}, Paired F l₁ l₂ → (∀ a b, F a b → G a b) → Paired G l₁ l₂
  | _, _, .nil, _ => .nil
  | _, _, .cons r t, f => .cons (f _ _ r) (Paired.QS t f)
theorem lH.xl (x : lH P w H h a o) (k : ∀ b u, (b = a ∨ H b = some (.own a)) → h.get? b = some u → h'.get? b = some u)
    (ho : ∀ b, H b = some (.own a) → H' b = some (.own a)) (ht : ∀ b xs, H b = some (.tup xs) → H' b = some (.tup xs)) : lH P w H' h' a o := by
  induction o with
  | lst xs => obtain ⟨z, its, n, r, e⟩ := x; exact ⟨z, its, n, r, k _ _ (.inl rfl) e⟩
  | tup xs => obtain ⟨z, its, r, ob, e, c⟩ := x; exact ⟨z, its, r, ob, k _ _ (.inl rfl) e, c⟩
  | dK kvs => obtain ⟨z, y, vs, r, ob, es, ep, e, c⟩ := x; exact ⟨z, y, vs, r, ob, es, ep, k _ _ (.inl rfl) e, c⟩
  | dT kvs =>
    obtain ⟨z, y, xs, r, ob, es, ep, e, c⟩ := x
    exact ⟨z, y, xs, Paired.QS r fun p q z => ⟨z.1, ht _ _ z.2.1, z.2.2⟩, ob, es, ep, k _ _ (.inl rfl) e, c⟩
  | set S n => obtain ⟨ob, es, ep, t, e, c⟩ := x; exact ⟨ob, es, ep, t, k _ _ (.inl rfl) e, c⟩
  | ins C dx fs =>
    obtain ⟨d, z, ne, e, mA, ⟨od, es, ep, e2, c⟩, r⟩ := x
    exact ⟨ho _ d, z, ne, k _ _ (.inl rfl) e, mA, ⟨od, es, ep, k _ _ (.inr d) e2, c⟩, r⟩
  | own y => obtain ⟨ob, e⟩ := x; exact ⟨ob, k _ _ (.inl rfl) e⟩
  | xd fs => obtain ⟨mA, ⟨od, es, ep, e, c⟩, r⟩ := x; exact ⟨mA, ⟨od, es, ep, k _ _ (.inl rfl) e, c⟩, r⟩
  | rng lo hi => obtain ⟨t, u, v, e⟩ := x; exact ⟨t, u, v, k _ _ (.inl rfl) e⟩
  | frz ob u ih => obtain ⟨e, q⟩ := x; exact ⟨k _ _ (.inl rfl) e, ih q⟩
  | tbl ps =>
    have e : h.get? a = some { cls := .none, data := .fields ps } := x
    show h'.get? a = some { cls := .none, data := .fields ps }
    exact k a _ (.inl rfl) e
  | met f y =>
    have e : h.get? a = some (PySem.W.methodObj (.ref f) (.ref y)) := x
    show h'.get? a = some (PySem.W.methodObj (.ref f) (.ref y))
    exact k a _ (.inl rfl) e
  | ext φ => obtain ⟨p, ⟨o, e⟩, st⟩ := x; exact ⟨st _ _ p fun o q => k _ _ (.inl rfl) q, ⟨o, k _ _ (.inl rfl) e⟩, st⟩
theorem HOk.lt (x : HOk P w H h) (e : H a = some o) : a < h.objs.size := (x a o e).lt
theorem HOk.fresh (x : HOk P w H h) (e : h.objs.size ≤ a) : H a = none := by
  cases q : H a with
  | none => rfl
  | some u => exact absurd (Nat.lt_of_lt_of_le (x.lt q) e) (Nat.lt_irrefl _)
theorem HOk.kept (x : HOk P w H h) (k : ∀ b u, h.get? b = some u → h'.get? b = some u) : HOk P w H h' := fun a o e =>
  (x a o e).xl (fun b u _ q => k b u q) (fun _ q => q) fun _ _ q => q
theorem HOk.laid (x : HOk P w H h) (k : ∀ b u, h.get? b = some u → h'.get? b = some u) (hp : h.objs.size ≤ a) (new : lH P w (upd H a o) h' a o) : HOk P w (upd H a o) h' := fun b u e => by
  have hn := x.fresh hp
  by_cases hb : b = a
  · subst hb; rw [cP] at e; cases e; exact new
  · rw [bD hb] at e
    exact (x b u e).xl (fun c v _ q => k c v q) (fun c q => by rw [bD (aU q hn)]; exact q) fun c xs q => by rw [bD (aU q hn)]; exact q
end
def Rd (H : Hp) (a : Addr) (u : HO) : Prop := H a = some u ∨ ∃ o, H a = some (.frz o u)
theorem Rd.of {H : Hp} {a : Addr} {u : HO} (h : H a = some u) : Rd H a u := .inl h
theorem Rd.ok {P : Program} {w : World} {H : Hp} {h : Heap} {a : Addr} {u : HO} (r : Rd H a u) (x : HOk P w H h) : lH P w H h a u := by
  rcases r with r | ⟨o, r⟩
  · exact x a u r
  · obtain ⟨_, q⟩ := x a _ r
    exact q
def Mut : Option HO → Prop
  | some (.lst _) => True
  | some (.dK _) => True
  | some (.dT _) => True
  | some (.set _ _) => True
  | some (.ins _ _ _) => True
  | some (.ext _) => True
  | _ => False
section
variable {P : Program} {w : World} {H : Hp} {h h' : Heap} {x e : Addr} {o' : HO}
theorem HOk.write (ok : HOk P w H h) (mu : Mut (H x)) (he : e = x ∨ H e = some (.own x)) (k : ∀ b u, b ≠ e → h.get? b = some u → h'.get? b = some u) (heo : ∃ u, h'.get? e = some u)
    (new : lH P w (upd H x o') h' x o') : HOk P w (upd H x o') h' := fun b u q => by
  have nown : ∀ c y, H c = some (.own y) → c ≠ x := fun c y r z => by subst z; rw [r] at mu; exact mu
  have ntup : ∀ c xs, H c = some (.tup xs) → c ≠ x := fun c xs r z => by subst z; rw [r] at mu; exact mu
  by_cases hb : b = x
  · subst hb; rw [cP] at q; cases q; exact new
  · rw [bD hb] at q
    by_cases hbe : b = e
    · have q' : H b = some (.own x) := by
        rcases he with z | z
        · exact absurd (hbe.trans z) hb
        · rw [hbe]; exact z
      rw [q] at q'; cases q'
      obtain ⟨v, hv⟩ := heo
      exact ⟨v, by rw [hbe]; exact hv⟩
    · refine (ok b u q).xl (fun c v hc r => k c v ?_ r) (fun c r => by rw [bD (nown c b r)]; exact r) fun c xs r => by rw [bD (ntup c xs r)]; exact r
      rcases hc with rfl | hc
      · exact hbe
      · rintro rfl
        rcases he with z | z
        · exact nown c b hc z
        · rw [hc] at z; cases z; exact hb rfl
end
structure Un (fs ex : List Addr) (H H' : Hp) (h h' : Heap) : Prop where
  keep : ∀ b o, h.get? b = some o → H b = none → b ∉ fs → b ∉ ex → h'.get? b = some o
  slot : ∀ b o, h.get? b = some o → H b = none → b ∈ fs → b ∉ ex → ∃ sl, h'.get? b = some { o with slots := sl }
  free : ∀ b o, h.get? b = some o → H b = none → b ∉ ex → H' b = none
  there : ∀ b o, h.get? b = some o → b ∉ ex → ∃ o', h'.get? b = some o'
  rS : ∀ b xs, H b = some (.tup xs) → H' b = some (.tup xs)
  pZ : ∀ b o u, H b = some (.frz o u) → H' b = some (.frz o u)
  qx : ∀ b ps, H b = some (.tbl ps) → ∃ more, H' b = some (.tbl (ps ++ more))
section
variable {fs fs' ex ex' : List Addr} {H H1 H2 : Hp} {h h1 h2 h' : Heap} {a x e : Addr} {o : HO}
theorem Un.any (u : Un fs ex H H1 h h1) {b : Addr} {ob : Obj} (q : h.get? b = some ob) (n : H b = none) (hx : b ∉ ex) : ∃ sl, h1.get? b = some { ob with slots := sl } := by
  by_cases hb : b ∈ fs
  · exact u.slot b ob q n hb hx
  · exact ⟨ob.slots, u.keep b ob q n hb hx⟩
theorem Un.trans (a : Un fs ex H H1 h h1) (b : Un fs ex H1 H2 h1 h2) : Un fs ex H H2 h h2 where
  keep := fun c ob q n hc hx => b.keep c ob (a.keep c ob q n hc hx) (a.free c ob q n hx) hc hx
  slot := fun c ob q n hc hx => by
    obtain ⟨sl, e1⟩ := a.slot c ob q n hc hx
    obtain ⟨sl', e2⟩ := b.slot c _ e1 (a.free c ob q n hx) hc hx
    exact ⟨sl', e2⟩
  free := fun c ob q n hx => by
    obtain ⟨o', e1⟩ := a.there c ob q hx
    exact b.free c o' e1 (a.free c ob q n hx) hx
  there := fun c ob q hx => by
    obtain ⟨o', e1⟩ := a.there c ob q hx
    exact b.there c o' e1 hx
  rS := fun c xs q => b.rS c xs (a.rS c xs q)
  pZ := fun c ob xs q => b.pZ c ob xs (a.pZ c ob xs q)
  qx := fun c ps q => by
    obtain ⟨m1, e1⟩ := a.qx c ps q
    obtain ⟨m2, e2⟩ := b.qx c _ e1
    exact ⟨m1 ++ m2, by rw [e2, Array.append_assoc]⟩
theorem Un.kept (k : ∀ b u, h.get? b = some u → h'.get? b = some u) : Un fs ex H H h h' :=
  ⟨fun b ob q _ _ _ => k b ob q, fun b ob q _ _ _ => ⟨ob.slots, k b ob q⟩, fun _ _ _ n _ => n, fun b ob q _ => ⟨ob, k b ob q⟩, fun _ _ q => q, fun _ _ _ q => q, fun _ ps q => ⟨#[], by rw [q]; simp⟩⟩
theorem Un.refl : Un fs ex H H h h := Un.kept fun _ _ q => q
theorem Un.laid (k : ∀ b u, h.get? b = some u → h'.get? b = some u) (hp : h.objs.size ≤ a) (hn : H a = none) : Un fs ex H (upd H a o) h h' where
  keep := fun b u q _ _ _ => k b u q
  slot := fun b u q _ _ _ => ⟨u.slots, k b u q⟩
  free := fun b u q n _ => by rw [bD (Nat.ne_of_lt (Nat.lt_of_lt_of_le (Heap.lt_size q) hp))]; exact n
  there := fun b u q _ => ⟨u, k b u q⟩
  rS := fun b xs q => by rw [bD (aU q hn)]; exact q
  pZ := fun b u xs q => by rw [bD (aU q hn)]; exact q
  qx := fun b ps q => ⟨#[], by rw [bD (aU q hn), q]; simp⟩
theorem Un.write (mu : Mut (H x)) (he : e = x ∨ H e = some (.own x)) (k : ∀ b u, b ≠ e → h.get? b = some u → h'.get? b = some u) (heo : ∃ u, h'.get? e = some u) : Un fs ex H (upd H x o) h h' := by
  have hx : ∀ b, H b = none → b ≠ x := fun b n z => by subst z; rw [n] at mu; exact mu
  have hb : ∀ b, H b = none → b ≠ e := fun b n z => by
    subst z
    rcases he with r | r
    · exact hx b n r
    · rw [n] at r; cases r
  have hm : ∀ b u, H b = some u → ¬ Mut (some u) → b ≠ x := fun b u q nm z => by subst z; rw [q] at mu; exact nm mu
  refine ⟨fun b u q n _ _ => k b u (hb b n) q, fun b u q n _ _ => ⟨u.slots, k b u (hb b n) q⟩, fun b u q n _ => by rw [bD (hx b n)]; exact n, fun b u q _ => ?_,
    fun b xs q => by rw [bD (hm b _ q fun z => z)]; exact q, fun b u xs q => by rw [bD (hm b _ q fun z => z)]; exact q, fun b ps q => ⟨#[], by rw [bD (hm b _ q fun z => z), q]; simp⟩⟩
  by_cases hbe : b = e
  · subst hbe; exact heo
  · exact ⟨u, k b u hbe q⟩
theorem Un.mono (u : Un fs ex H H1 h h1) (hs : ∀ b ∈ fs, b ∈ fs') (hx : ∀ b ∈ ex, b ∈ ex') : Un fs' ex' H H1 h h1 :=
  ⟨fun b ob q n hb he => u.keep b ob q n (fun z => hb (hs b z)) fun z => he (hx b z), fun _ _ q n _ he => u.any q n fun z => he (hx _ z), fun b ob q n he => u.free b ob q n fun z => he (hx b z), fun b ob q he => u.there b ob q fun z => he (hx b z), u.rS, u.pZ, u.qx⟩
end
def trk (h : Heap) (H : Hp) : List Addr := (List.range h.objs.size).filter fun a => (H a).isSome
def Cy (h : Heap) (H : Hp) : Heap := PySem.W.hideAll h (trk h H)
theorem HV (h : Heap) (H : Hp) : (Cy h H).objs.size = h.objs.size := PySem.W.hideAll_size _ _
theorem Lf {h : Heap} {H : Hp} {b : Addr} {o : Obj} (e : h.get? b = some o) (n : H b = none) : (Cy h H).get? b = some o :=
  PySem.W.hideAll_get _ e fun hm => by
    have q : (H b).isSome = true := (List.mem_filter.mp hm).2
    rw [n] at q; simp at q
theorem MW {h : Heap} {H : Hp} {b : Addr} {o : Obj} (e : (Cy h H).get? b = some o) : h.get? b = some o ∧ H b = none := by
  have e' : h.get? b = some o := PySem.W.of_hideAll (trk h H) e
  refine ⟨e', ?_⟩
  cases q : H b with
  | none => rfl
  | some x =>
    have hm : b ∈ trk h H := List.mem_filter.mpr ⟨List.mem_range.mpr (Heap.lt_size e'), by simp [q]⟩
    have z : (Cy h H).get? b = none := PySem.W.hideAll_none (trk h H) hm
    rw [z] at e; cases e
def MO (g h : Heap) (L : Addr) : List (Addr × Obj) := (List.range h.objs.size).filterMap fun a => if a = L ∨ (g.get? a).isSome = true then none else (h.get? a).map fun o => (a, o)
def rest (g h : Heap) (L d : Addr) : List (Addr × Obj) := (MO g h L).filter fun p => decide (p.1 ≠ d)
end L2
namespace L2
open PySem PySem.Spec PyProof.Rows
structure Mod (K : PySem.W.Frag) (mg : Str → Option Value) (base : Heap) : Prop where
  kin : K.In base
  glob : base.Ns mainGlobals mg
  blt : ∃ mb, base.Ns builtinsNs mb ∧ ∀ x : Str, x ≠ "__name__" → mb x = bootBuiltins x
  nolimit : base.NoLimit
structure Cx where
  prog : Program
  w : World
  K : PySem.W.Frag
  mg : Str → Option Value
  base : Heap
  A : Around
  N : List Str
  s₀ : Shared
  H₀ : Hp
  env : Env
  outer : List Env
  stack : List Env
  ex : List Addr
  fn : Str → Bool
  calm : Bool
  pn : List (Addr × Obj)
  xe : Value → Shared → Prop
def frs (l : List Env) : List Addr := l.filterMap (·.frame)
abbrev Cx.fs (X : Cx) : List Addr := frs X.outer
def Vis (sc : Scope) (x : Str) : Prop := sc.names.lookup x = some .local ∨ sc.names.lookup x = some .cell ∨ sc.names.lookup x = some .free
def Loc (sc : Scope) (x : Str) : Prop := sc.names.lookup x = some .local ∨ sc.names.lookup x = some .cell
def Look (env : Env) (h : Heap) (m : Str → Option Value) (x : Str) (u : Value) : Prop :=
  (env.kindOf x = some .local ∧ m x = some u) ∨ ((env.kindOf x = some .cell ∨ env.kindOf x = some .free) ∧ ∃ c, env.cells.lookup x = some c ∧ h.IsCell c (some u))
structure Cx.Ok (X : Cx) : Prop where
  mod : Mod X.K X.mg X.base
  kind : X.env.scope.kind = .function
  glob : X.env.globals = mainGlobals
  blt : X.env.builtins = builtinsNs
  above : X.s₀.heap.objs.size ≤ X.env.locals
  inj : ∀ x y c, X.env.cells.lookup x = some c → X.env.cells.lookup y = some c → x = y
  has : ∀ x, (X.env.kindOf x = some .cell ∨ X.env.kindOf x = some .free) → ∃ c, X.env.cells.lookup x = some c
  cab : ∀ x c, X.fn x = true → X.env.cells.lookup x = some c → X.s₀.heap.objs.size ≤ c
  hd : X.calm = true → X.A.handled = none
  qt : X.A.handled = none ∨ ∃ (e : Addr) (oe : Obj) (vs : Array Value), X.A.handled = some (.ref e) ∧ (e, oe) ∈ X.pn ∧ oe.data = .fields vs ∧ vs[2]? = some .none
  frames : X.A.frames = some X.stack
  stk : X.stack = X.outer ∨ (X.stack = X.env :: X.outer ∧ X.env.frame = some X.env.locals)
  exf : ∀ b ∈ X.ex, b ≠ X.env.locals ∧ ∀ x c, X.env.cells.lookup x = some c → c ≠ b
  bs : ∀ b o, X.base.get? b = some o → X.s₀.heap.get? b = some o ∧ X.H₀ b = none
  bsz : X.base.objs.size ≤ X.s₀.heap.objs.size
  Dz : ∀ b o, X.base.get? b = some o → b ∉ X.ex
  Kk : ∀ b ∈ X.ex, b ∉ X.fs
  tV : X.s₀.heap.FunFrames X.base X.outer
  frf : ∀ b ∈ X.fs, X.H₀ b = none
structure Inv (X : Cx) (pins : List (Addr × Obj)) (σ : List (Option V)) (H : Hp) (s : Shared) : Prop where
  ok : X.Ok
  os : s.os = X.s₀.os
  bare : AllBare s.gens
  base : Un X.fs X.ex X.H₀ H X.s₀.heap s.heap
  loc : ∃ m, s.heap.Ns X.env.locals m ∧ ∀ (i : Nat) (x : Str) (v : V), X.N[i]? = some x → σ[i]? = some (some v) → Vis X.env.scope x → ∃ u, RelV v u ∧ Look X.env s.heap m x u
  cell : ∀ x c, X.env.cells.lookup x = some c → ∃ v, s.heap.IsCell c v
  free : H X.env.locals = none
  ik : ∀ x c, X.env.cells.lookup x = some c → H c = none
  pin : ∀ p ∈ X.pn ++ pins, s.heap.get? p.1 = some p.2 ∧ H p.1 = none ∧ p.1 ≠ X.env.locals ∧ p.1 ∉ X.fs ∧ ∀ v, p.2.data ≠ .cell v
  hok : HOk X.prog X.w H s.heap
  len : σ.length = X.N.length
section
variable {X : Cx} {pins : List (Addr × Obj)} {σ : List (Option V)} {H H' : Hp} {s : Shared} {h' : Heap}
theorem Inv.Fm (I : Inv X pins σ H s) : jH X.A s.heap := by
  rcases I.ok.qt with q | ⟨e, oe, vs, q, hp, r⟩
  · exact .inl q
  · exact .inr ⟨e, oe, vs, q, (I.pin (e, oe) (List.mem_append_left _ hp)).1, r⟩
theorem Inv.hne (I : Inv X pins σ H s) {b : Addr} (hb : ∀ p ∈ X.pn ++ pins, p.1 ≠ b) : ∀ e, X.A.handled = some (.ref e) → e ≠ b := fun e he => by
  rcases I.ok.qt with q | ⟨e1, oe, vs, q, hp, r⟩
  · rw [q] at he; cases he
  · rw [q] at he; cases he; exact hb (e, oe) (List.mem_append_left _ hp)
theorem Cx.Ok.RZ (ok : X.Ok) {b : Addr} {o : Obj} (e : X.base.get? b = some o) : b ∉ X.fs := fun hb => by
  have := (ok.tV.mem hb).1
  rw [e] at this; cases this
theorem Inv.bs (I : Inv X pins σ H s) : ∀ b o, X.base.get? b = some o → s.heap.get? b = some o ∧ H b = none := fun b o e =>
  ⟨I.base.keep b o (I.ok.bs b o e).1 (I.ok.bs b o e).2 (I.ok.RZ e) (I.ok.Dz b o e), I.base.free b o (I.ok.bs b o e).1 (I.ok.bs b o e).2 (I.ok.Dz b o e)⟩
theorem Inv.bk (I : Inv X pins σ H s) : ∀ b o, X.base.get? b = some o → s.heap.get? b = some o := fun b o e => (I.bs b o e).1
theorem Inv.mod (I : Inv X pins σ H s) : Mod X.K X.mg X.base := I.ok.mod
theorem Inv.kIn (I : Inv X pins σ H s) : X.K.In s.heap := I.ok.mod.kin.keeps I.bk
theorem Inv.fr (I : Inv X pins σ H s) : ∃ m, Fr X.base X.env.locals s.heap m :=
  let ⟨m, hn, _⟩ := I.loc
  ⟨m, hn, I.bk, Nat.le_trans I.ok.bsz I.ok.above⟩
theorem Inv.lt (I : Inv X pins σ H s) : X.env.locals < s.heap.objs.size := let ⟨_, hn, _⟩ := I.loc; hn.lt
theorem Inv.sz (I : Inv X pins σ H s) : X.s₀.heap.objs.size ≤ s.heap.objs.size := Nat.le_trans I.ok.above (Nat.le_of_lt I.lt)
theorem Inv.RA (I : Inv X pins σ H s) {a : Addr} (h : s.heap.objs.size ≤ a) : a ∉ X.fs := fun hb => by
  obtain ⟨_, o, ho, _⟩ := I.ok.tV.mem hb
  exact absurd (Nat.lt_of_lt_of_le (Heap.lt_size ho) (Nat.le_trans I.sz h)) (Nat.lt_irrefl _)
theorem Inv.cne (I : Inv X pins σ H s) : ∀ x c, X.env.cells.lookup x = some c → c ≠ X.env.locals := fun x c e z => by
  obtain ⟨v, o, ho, hd⟩ := I.cell x c e
  obtain ⟨m, ⟨o', es, ep, ho', hd', _⟩, _⟩ := I.loc
  rw [z, ho'] at ho; cases ho; rw [hd'] at hd; cases hd
theorem Inv.tV (I : Inv X pins σ H s) : s.heap.FunFrames X.base X.outer := by
  have all : ∀ (l : List Env), (∀ b ∈ frs l, b ∈ X.fs) → X.s₀.heap.FunFrames X.base l → s.heap.FunFrames X.base l := by
    intro l
    induction l with
    | nil => intro _ _; trivial
    | cons env r ih =>
      intro hs hl
      obtain ⟨hk, ⟨L, o, hf, hn, ho, hd⟩, hr⟩ := hl
      have hL : L ∈ X.fs := hs L (by unfold frs; rw [List.filterMap_cons, hf]; exact List.mem_cons_self)
      obtain ⟨sl, e⟩ := I.base.slot L o ho (I.ok.frf L hL) hL fun z => I.ok.Kk L z hL
      exact ⟨hk, ⟨L, _, hf, hn, e, hd⟩, ih (fun b hb => hs b (by unfold frs; rw [List.filterMap_cons, hf]; exact List.mem_cons_of_mem _ hb)) hr⟩
  exact all X.outer (fun _ hb => hb) I.ok.tV
theorem Inv.stack (I : Inv X pins σ H s) : s.heap.FunFrames X.base X.stack := by
  rcases I.ok.stk with e | ⟨e, hf⟩
  · rw [e]; exact I.tV
  · rw [e]
    obtain ⟨m, hn, _⟩ := I.loc
    refine .cons (by rw [I.ok.kind]; decide) hf hn ?_ I.tV
    exact Heap.get?_none_of_le (Nat.le_trans I.ok.bsz I.ok.above)
theorem Inv.qQ (I : Inv X pins σ H s) : ∀ b ∈ frs X.stack, b ∈ X.env.locals :: X.fs := fun b hb => by
  rcases I.ok.stk with e | ⟨e, hf⟩
  · rw [e] at hb; exact List.mem_cons_of_mem _ hb
  · rw [e] at hb
    unfold frs at hb
    rw [List.filterMap_cons, hf] at hb
    exact hb
theorem Inv.uo (I : Inv X pins σ H s) : ∀ b ∈ frs X.stack, H b = none := fun b hb => by
  rcases List.mem_cons.mp (I.qQ b hb) with e | hb
  · rw [e]; exact I.free
  · obtain ⟨_, o, ho, _⟩ := I.ok.tV.mem hb
    exact I.base.free b o ho (I.ok.frf b hb) fun z => I.ok.Kk b z hb
theorem Inv.step {g' : Array GenState} {t' : Nat} {d' : Drawn} {ch : List Addr} (I : Inv X pins σ H s)
    (hch : ∀ b ∈ ch, (b ∈ X.ex ∨ X.s₀.heap.objs.size ≤ b) ∧ b ≠ X.env.locals ∧ (∀ x c, X.env.cells.lookup x = some c → c ≠ b) ∧ ∀ p ∈ X.pn ++ pins, p.1 ≠ b)
    (keep : ∀ b o, b ≠ X.env.locals → b ∉ X.fs → b ∉ ch → s.heap.get? b = some o → H b = none → h'.get? b = some o)
    (slot : ∀ b o, b ≠ X.env.locals → b ∈ X.fs → b ∉ ch → s.heap.get? b = some o → H b = none → ∃ sl, h'.get? b = some { o with slots := sl }) (free : ∀ b o, b ∉ ch → s.heap.get? b = some o → H b = none → H' b = none)
    (there : ∀ b o, b ∉ ch → s.heap.get? b = some o → ∃ o', h'.get? b = some o')
    (rS : ∀ b xs, H b = some (.tup xs) → H' b = some (.tup xs)) (pZ : ∀ b o u, H b = some (.frz o u) → H' b = some (.frz o u)) (qx : ∀ b ps, H b = some (.tbl ps) → ∃ more, H' b = some (.tbl (ps ++ more)))
    (ns : ∀ m, s.heap.Ns X.env.locals m → h'.Ns X.env.locals m) (hok : HOk X.prog X.w H' h') (hg : AllBare g') :
    Inv X pins σ H' { s with heap := h', gens := g', drawn := d', toks := t' } := by
  have neL : ∀ b o, X.s₀.heap.get? b = some o → b ≠ X.env.locals := fun b o e => Nat.ne_of_lt (Nat.lt_of_lt_of_le (Heap.lt_size e) I.ok.above)
  have neC : ∀ b o, X.s₀.heap.get? b = some o → b ∉ X.ex → b ∉ ch := fun b o e hx hb => by
    rcases (hch b hb).1 with z | z
    · exact hx z
    · exact absurd (Nat.lt_of_lt_of_le (Heap.lt_size e) z) (Nat.lt_irrefl _)
  have cellK : ∀ x c, X.env.cells.lookup x = some c → ∀ v, s.heap.IsCell c v → h'.IsCell c v := fun x c e v ⟨o, ho, hd⟩ => by
    have nch : c ∉ ch := fun z => (hch c z).2.2.1 x c e rfl
    by_cases hc : c ∈ X.fs
    · obtain ⟨sl, q⟩ := slot c o (I.cne x c e) hc nch ho (I.ik x c e)
      exact ⟨_, q, hd⟩
    · exact ⟨o, keep c o (I.cne x c e) hc nch ho (I.ik x c e), hd⟩
  refine ⟨I.ok, I.os, hg, ⟨fun b o e n hb hx => ?_, fun b o e n hb hx => ?_, fun b o e n hx => ?_, fun b o e hx => ?_, fun b xs e => rS b xs (I.base.rS b xs e), fun b o xs e => pZ b o xs (I.base.pZ b o xs e), fun b ps e => ?_⟩, ?_, fun x c e => ?_, ?_, fun x c e => ?_, fun p hp => ?_, hok, I.len⟩
  · exact keep b o (neL b o e) hb (neC b o e hx) (I.base.keep b o e n hb hx) (I.base.free b o e n hx)
  · obtain ⟨sl, e1⟩ := I.base.slot b o e n hb hx
    obtain ⟨sl', e2⟩ := slot b _ (neL b o e) hb (neC b o e hx) e1 (I.base.free b o e n hx)
    exact ⟨sl', e2⟩
  · obtain ⟨o', e1⟩ := I.base.there b o e hx
    exact free b o' (neC b o e hx) e1 (I.base.free b o e n hx)
  · obtain ⟨o', e1⟩ := I.base.there b o e hx
    exact there b o' (neC b o e hx) e1
  · obtain ⟨m1, e1⟩ := I.base.qx b ps e
    obtain ⟨m2, e2⟩ := qx b _ e1
    exact ⟨m1 ++ m2, by rw [e2, Array.append_assoc]⟩
  · obtain ⟨m, hn, hl⟩ := I.loc
    refine ⟨m, ns m hn, fun i x v e1 e2 e3 => ?_⟩
    obtain ⟨u, r, l⟩ := hl i x v e1 e2 e3
    refine ⟨u, r, ?_⟩
    rcases l with l | ⟨k, c, e, z⟩
    · exact .inl l
    · exact .inr ⟨k, c, e, cellK x c e _ z⟩
  · obtain ⟨v, z⟩ := I.cell x c e
    exact ⟨v, cellK x c e v z⟩
  · obtain ⟨m, ⟨o, _, _, ho, _⟩, _⟩ := I.loc
    exact free _ o (fun z => (hch _ z).2.1 rfl) ho I.free
  · obtain ⟨v, o, ho, hd⟩ := I.cell x c e
    exact free c o (fun z => (hch c z).2.2.1 x c e rfl) ho (I.ik x c e)
  · obtain ⟨e, n, ne, nf, d⟩ := I.pin p hp
    have nch : p.1 ∉ ch := fun z => (hch p.1 z).2.2.2 p hp rfl
    exact ⟨keep p.1 p.2 ne nf nch e n, free p.1 p.2 nch e n, ne, nf, d⟩
theorem Inv.un {t' : Nat} (I : Inv X pins σ H s) (u : Un X.fs [] H H' s.heap h') (hok : HOk X.prog X.w H' h') : Inv X pins σ H' { s with heap := h', toks := t' } := by
  obtain ⟨m, ⟨o, es, ep, ho, r⟩, _⟩ := id I.loc
  obtain ⟨sl, hL⟩ := u.any ho I.free (by simp)
  exact I.step (g' := s.gens) (d' := s.drawn) (ch := []) (fun _ z => nomatch z) (fun b o _ hb _ e n => u.keep b o e n hb (by simp)) (fun b o _ hb _ e n => u.slot b o e n hb (by simp)) (fun b o _ e n => u.free b o e n (by simp)) (fun b o _ e => u.there b o e (by simp)) u.rS u.pZ u.qx (fun m' hm => by
    obtain ⟨o', es', ep', ho', r'⟩ := hm
    rw [ho] at ho'; cases ho'
    exact ⟨_, es', ep', hL, r'⟩) hok I.bare
theorem Inv.call {g' : Array GenState} {t' : Nat} {d' : Drawn} {ch : List Addr} (I : Inv X pins σ H s) (u : Un (frs X.stack) ch H H' s.heap h') (hok : HOk X.prog X.w H' h') (hg : AllBare g')
    (hch : ∀ b ∈ ch, (b ∈ X.ex ∨ X.s₀.heap.objs.size ≤ b) ∧ b ≠ X.env.locals ∧ (∀ x c, X.env.cells.lookup x = some c → c ≠ b) ∧ ∀ p ∈ X.pn ++ pins, p.1 ≠ b) :
    Inv X pins σ H' { s with heap := h', gens := g', drawn := d', toks := t' } := by
  obtain ⟨m, ⟨o, es, ep, ho, r⟩, _⟩ := id I.loc
  obtain ⟨sl, hL⟩ := u.any ho I.free fun z => (hch _ z).2.1 rfl
  exact I.step (ch := ch) hch (fun b o hL hb hc e n => u.keep b o e n (fun z => (List.mem_cons.mp (I.qQ b z)).elim hL hb) hc) (fun b o _ _ hc e n => u.any e n hc) (fun b o hc e n => u.free b o e n hc) (fun b o hc e => u.there b o e hc) u.rS u.pZ u.qx (fun m' hm => by
    obtain ⟨o', es', ep', ho', r'⟩ := hm
    rw [ho] at ho'; cases ho'
    exact ⟨_, es', ep', hL, r'⟩) hok hg
theorem Inv.turned {t' : Nat} {it : Addr} (I : Inv X pins σ H s) (k : ∀ b o, b ≠ it → s.heap.get? b = some o → h'.get? b = some o) (hn : H it = none) (hL : it ≠ X.env.locals)
    (h1 : it ∈ X.ex ∨ X.s₀.heap.objs.size ≤ it) (h2 : ∀ x c, X.env.cells.lookup x = some c → c ≠ it) (h3 : ∀ p ∈ X.pn ++ pins, p.1 ≠ it) : Inv X pins σ H { s with heap := h', toks := t' } := by
  have nit : ∀ b u, H b = some u → b ≠ it := fun b u e z => by rw [z, hn] at e; cases e
  refine I.step (g' := s.gens) (d' := s.drawn) (ch := [it]) (fun b hb => ?_) (fun b o _ _ hc e _ => k b o (fun z => hc (by simp [z])) e) (fun b o _ _ hc e _ => ⟨o.slots, k b o (fun z => hc (by simp [z])) e⟩) (fun _ _ _ _ n => n)
    (fun b o hc e => ⟨o, k b o (fun z => hc (by simp [z])) e⟩) (fun _ _ e => e) (fun _ _ _ e => e) (fun b ps e => ⟨#[], by rw [e]; simp⟩) (fun m hm => ?_) (fun b u e => ?_) I.bare
  · have e : b = it := by simpa using hb
    subst e
    exact ⟨h1, hL, h2, h3⟩
  · obtain ⟨o, es, ep, ho, r⟩ := hm
    exact ⟨o, es, ep, k _ o (Ne.symm hL) ho, r⟩
  · refine (I.hok b u e).xl (fun c v hc q => k c v ?_ q) (fun _ q => q) fun _ _ q => q
    rcases hc with z | z
    · rw [z]; exact nit b u e
    · exact nit c _ z
theorem Inv.tok (I : Inv X pins σ H s) (t : Nat) : Inv X pins σ H { s with toks := t } := I.un (h' := s.heap) (t' := t) Un.refl I.hok
theorem Inv.kept {t' : Nat} (I : Inv X pins σ H s) (k : ∀ b u, s.heap.get? b = some u → h'.get? b = some u) : Inv X pins σ H { s with heap := h', toks := t' } := I.un (Un.kept k) (I.hok.kept k)
theorem Inv.laid {a : Addr} {o : HO} {t' : Nat} (I : Inv X pins σ H s) (k : ∀ b u, s.heap.get? b = some u → h'.get? b = some u) (hp : s.heap.objs.size ≤ a) (new : lH X.prog X.w (upd H a o) h' a o) :
    Inv X pins σ (upd H a o) { s with heap := h', toks := t' } := I.un (Un.laid k hp (I.hok.fresh hp)) (I.hok.laid k hp new)
theorem Inv.write {x e : Addr} {o : HO} {t' : Nat} (I : Inv X pins σ H s) (mu : Mut (H x)) (he : e = x ∨ H e = some (.own x)) (k : ∀ b u, b ≠ e → s.heap.get? b = some u → h'.get? b = some u) (heo : ∃ u, h'.get? e = some u)
    (new : lH X.prog X.w (upd H x o) h' x o) : Inv X pins σ (upd H x o) { s with heap := h', toks := t' } := I.un (Un.write mu he k heo) (I.hok.write mu he k heo new)
theorem Inv.HM {pins' : List (Addr × Obj)} (I : Inv X pins σ H s) (h : ∀ p ∈ pins', s.heap.get? p.1 = some p.2 ∧ H p.1 = none ∧ p.1 ≠ X.env.locals ∧ p.1 ∉ X.fs ∧ ∀ v, p.2.data ≠ .cell v) : Inv X pins' σ H s :=
  ⟨I.ok, I.os, I.bare, I.base, I.loc, I.cell, I.free, I.ik, fun p hp => (List.mem_append.mp hp).elim (fun z => I.pin p (List.mem_append_left _ z)) (h p), I.hok, I.len⟩
theorem Ed {N : List Str} (hN : N.Nodup) {i j : Nat} {x : Str} (a : N[i]? = some x) (b : N[j]? = some x) : i = j := by
  obtain ⟨h1, e1⟩ := List.getElem?_eq_some_iff.mp a
  obtain ⟨h2, e2⟩ := List.getElem?_eq_some_iff.mp b
  exact (List.getElem_inj hN).mp (e1.trans e2.symm)
theorem IX {M : Model} {A : Around} {E : Value → Shared → Prop} {i : Nat} {x : Str} {v : V} {u : Value} {Q : Unit → Shared → Prop} (I : Inv X pins σ H s) (hN : X.N.Nodup) (hi : X.N[i]? = some x) (hx : Loc X.env.scope x) (r : RelV v u)
    (h : ∀ s', Inv X pins (σ.set i (some v)) H s' → (∃ a, Heap.SameBut a s.heap s'.heap ∧ (a = X.env.locals ∨ X.env.cells.lookup x = some a)) → Q () s') (hf : X.fn x = true ∨ X.env.scope.names.lookup x = some .local := by first | exact .inl rfl | exact .inr rfl | assumption) : wpAny M A (storeName X.env x u) Q E s := by
  obtain ⟨m, hn, hl⟩ := id I.loc
  have hcls : (X.env.scope.kind == .class || (X.env.scope.kind == .module && X.env.locals != X.env.globals)) = false := by rw [I.ok.kind]; rfl
  have hiσ : i < σ.length := by rw [I.len]; exact (List.getElem?_eq_some_iff.mp hi).1
  have cne := I.cne
  have tracked : ∀ {a : Addr} {h' : Heap}, (∃ o, s.heap.get? a = some o ∧ H a = none) → Heap.SameBut a s.heap h' → HOk X.prog X.w H h' := fun {a h'} ha hs b ob e => by
    obtain ⟨_, _, hfree⟩ := ha
    refine (I.hok b ob e).xl (fun c w' hc q => (hs.2 c ?_).trans q) (fun _ q => q) fun _ _ q => q
    rintro rfl
    rcases hc with rfl | hc
    · rw [hfree] at e; cases e
    · rw [hfree] at hc; cases hc
  rcases hx with hk | hk
  · refine wpAny_storeName_local hk hn (fun h' hn' hs => ?_) hcls
    obtain ⟨oL, _, _, hoL, _⟩ := id hn
    refine h _ ⟨I.ok, I.os, I.bare, ⟨fun b o e n hb hx => ?_, fun b o e n hb hx => ?_, I.base.free, fun b o e hx => ?_, I.base.rS, I.base.pZ, I.base.qx⟩, ⟨_, hn', fun j y v' e1 e2 e3 => ?_⟩, fun y c e => ?_, I.free, I.ik, fun p hp => ?_, tracked ⟨oL, hoL, I.free⟩ hs, by simpa using I.len⟩ ⟨_, hs, .inl rfl⟩
    · exact (hs.2 b (Nat.ne_of_lt (Nat.lt_of_lt_of_le (Heap.lt_size e) I.ok.above))).trans (I.base.keep b o e n hb hx)
    · obtain ⟨sl, e1⟩ := I.base.slot b o e n hb hx
      exact ⟨sl, (hs.2 b (Nat.ne_of_lt (Nat.lt_of_lt_of_le (Heap.lt_size e) I.ok.above))).trans e1⟩
    · obtain ⟨o', e1⟩ := I.base.there b o e hx
      exact ⟨o', (hs.2 b (Nat.ne_of_lt (Nat.lt_of_lt_of_le (Heap.lt_size e) I.ok.above))).trans e1⟩
    · by_cases hj : j = i
      · subst hj
        rw [hi] at e1; cases e1
        rw [List.getElem?_set_self hiσ] at e2
        cases e2
        exact ⟨u, r, .inl ⟨hk, by simp⟩⟩
      · rw [List.getElem?_set_ne (Ne.symm hj)] at e2
        obtain ⟨u', r', q⟩ := hl j y v' e1 e2 e3
        refine ⟨u', r', ?_⟩
        rcases q with ⟨k, e⟩ | ⟨k, c, e, z⟩
        · refine .inl ⟨k, ?_⟩
          have : y ≠ x := fun e => hj (Ed hN e1 (e ▸ hi))
          simp [this, e]
        · exact .inr ⟨k, c, e, z.sameBut hs (cne y c e)⟩
    · obtain ⟨w', z⟩ := I.cell y c e
      exact ⟨w', z.sameBut hs (cne y c e)⟩
    · obtain ⟨e, n, ne, nf, d⟩ := I.pin p hp
      exact ⟨(hs.2 p.1 ne).trans e, n, ne, nf, d⟩
  · have hfn : X.fn x = true := by
      rcases hf with z | z
      · exact z
      · rw [z] at hk; cases hk
    obtain ⟨c, hc⟩ := I.ok.has x (.inl hk)
    obtain ⟨w', z⟩ := I.cell x c hc
    refine wpAny_storeName_cell I.ok.kind hk hc z (fun h' hc' hs => ?_)
    obtain ⟨oc, hoc, hocd⟩ := id z
    refine h { s with heap := h' } ⟨I.ok, I.os, I.bare, ⟨fun b o e n hb hx => ?_, fun b o e n hb hx => ?_, I.base.free, fun b o e hx => ?_, I.base.rS, I.base.pZ, I.base.qx⟩, ⟨m, hn.sameBut hs (Ne.symm (cne x c hc)), fun j y v' e1 e2 e3 => ?_⟩, fun y c' e => ?_, I.free, I.ik, fun p hp => ?_, tracked ⟨oc, hoc, I.ik x c hc⟩ hs, by simpa using I.len⟩ ⟨c, hs, .inr hc⟩
    · exact (hs.2 b (Nat.ne_of_lt (Nat.lt_of_lt_of_le (Heap.lt_size e) (I.ok.cab x c hfn hc)))).trans (I.base.keep b o e n hb hx)
    · obtain ⟨sl, e1⟩ := I.base.slot b o e n hb hx
      exact ⟨sl, (hs.2 b (Nat.ne_of_lt (Nat.lt_of_lt_of_le (Heap.lt_size e) (I.ok.cab x c hfn hc)))).trans e1⟩
    · obtain ⟨o', e1⟩ := I.base.there b o e hx
      exact ⟨o', (hs.2 b (Nat.ne_of_lt (Nat.lt_of_lt_of_le (Heap.lt_size e) (I.ok.cab x c hfn hc)))).trans e1⟩
    · by_cases hj : j = i
      · subst hj
        rw [hi] at e1; cases e1
        rw [List.getElem?_set_self hiσ] at e2
        cases e2
        exact ⟨u, r, .inr ⟨.inl hk, c, hc, hc'⟩⟩
      · rw [List.getElem?_set_ne (Ne.symm hj)] at e2
        obtain ⟨u', r', q⟩ := hl j y v' e1 e2 e3
        refine ⟨u', r', ?_⟩
        rcases q with q | ⟨k, c', e, z'⟩
        · exact .inl q
        · refine .inr ⟨k, c', e, z'.sameBut hs ?_⟩
          rintro rfl
          exact hj (Ed hN e1 (I.ok.inj _ _ _ e hc ▸ hi))
    · by_cases hcc : c' = c
      · subst hcc; exact ⟨_, hc'⟩
      · obtain ⟨w2, z2⟩ := I.cell y c' e
        exact ⟨w2, z2.sameBut hs hcc⟩
    · obtain ⟨e, n, ne, nf, d⟩ := I.pin p hp
      refine ⟨(hs.2 p.1 ?_).trans e, n, ne, nf, d⟩
      intro q
      rw [q, hoc] at e
      have q' : oc = p.2 := Option.some.inj e
      exact d w' (by rw [← q']; exact hocd)
theorem mU {M : Model} {A : Around} {E : Value → Shared → Prop} {i : Nat} {x : Str} {v : V} {u : Value} {Q : Unit → Shared → Prop} (I : Inv X pins σ H s) (hN : X.N.Nodup) (hi : X.N[i]? = some x) (hx : Loc X.env.scope x) (r : RelV v u)
    (h : ∀ s', Inv X pins (σ.set i (some v)) H s' → Q () s') (hf : X.fn x = true ∨ X.env.scope.names.lookup x = some .local := by first | exact .inl rfl | exact .inr rfl | assumption) : wpAny M A (storeName X.env x u) Q E s :=
  IX I hN hi hx r (fun s' I' _ => h s' I') hf
theorem Inv.x5 {s' : Shared} {ch : List Addr} (I : Inv X pins σ H s) (ho : s'.os = s.os) (u : Un (frs X.stack) ch H H' s.heap s'.heap) (hok : HOk X.prog X.w H' s'.heap) (hg : AllBare s'.gens)
    (hch : ∀ b ∈ ch, (b ∈ X.ex ∨ X.s₀.heap.objs.size ≤ b) ∧ b ≠ X.env.locals ∧ (∀ x c, X.env.cells.lookup x = some c → c ≠ b) ∧ ∀ p ∈ X.pn ++ pins, p.1 ≠ b) : Inv X pins σ H' s' := by
  obtain ⟨h', g', d', t', o'⟩ := s'
  have e : o' = s.os := ho
  subst e
  exact I.call (g' := g') (t' := t') (d' := d') u hok hg hch
end
abbrev XK := Value → Option Addr → Hp → Prop
abbrev St := List (Option V)
abbrev VK := V → Hp → Prop
abbrev TE := St → Hp → VK → Prop
abbrev TT := St → Hp → (Bool → Hp → Prop) → Prop
abbrev TA := St → Hp → (List V → Hp → Prop) → Prop
structure Ends where
  nx : St → Hp → Prop
  rt : VK
  bk : St → Hp → Prop := fun _ _ => False
  ct : St → Hp → Prop := fun _ _ => False
abbrev TS := Ends → St → Hp → Prop
def EP (X : Cx) (pins : List (Addr × Obj)) (σ : St) (Q : VK) (u : Value) (s' : Shared) : Prop := ∃ v H', Inv X pins σ H' s' ∧ RelV v u ∧ Q v H'
def TP (X : Cx) (pins : List (Addr × Obj)) (σ : St) (Q : Bool → Hp → Prop) (b : Bool) (s' : Shared) : Prop := ∃ H', Inv X pins σ H' s' ∧ Q b H'
def AP (X : Cx) (pins : List (Addr × Obj)) (σ : St) (Q : List V → Hp → Prop) (us : List Value) (s' : Shared) : Prop := ∃ vs H', Inv X pins σ H' s' ∧ Vals vs us ∧ Q vs H'
def SP (X : Cx) (pins : List (Addr × Obj)) (D : Ends) (f : Flow) (s' : Shared) : Prop :=
  match f with
  | .next => ∃ σ' H', Inv X pins σ' H' s' ∧ D.nx σ' H'
  | .brk => ∃ σ' H', Inv X pins σ' H' s' ∧ D.bk σ' H'
  | .cont => ∃ σ' H', Inv X pins σ' H' s' ∧ D.ct σ' H'
  | .ret u => ∃ v σ' H', Inv X pins σ' H' s' ∧ RelV v u ∧ D.rt v H'
def PE (X : Cx) (e : Expr) (t : TE) : Prop :=
  ∀ (pins : List (Addr × Obj)) (s : Shared) (σ : St) (H : Hp) (Q : VK), Inv X pins σ H s → t σ H Q → wpAny (model X.prog X.w) X.A (eval e X.env) (EP X pins σ Q) X.xe s
def PT (X : Cx) (e : Expr) (t : TT) : Prop :=
  ∀ (pins : List (Addr × Obj)) (s : Shared) (σ : St) (H : Hp) (Q : Bool → Hp → Prop), Inv X pins σ H s → t σ H Q → wpAny (model X.prog X.w) X.A (isTrue e X.env (eval e X.env)) (TP X pins σ Q) X.xe s
def PW (X : Cx) (e : Expr) (t : TT) : Prop :=
  ∀ (whole : Sem Value) (pins : List (Addr × Obj)) (s : Shared) (σ : St) (H : Hp) (Q : Bool → Hp → Prop), Inv X pins σ H s → t σ H Q → wpAny (model X.prog X.w) X.A (isTrue e X.env whole) (TP X pins σ Q) X.xe s
theorem PW.pt {X : Cx} {e : Expr} {t : TT} (h : PW X e t) : PT X e t := h _
def PA (X : Cx) (es : List Expr) (t : TA) : Prop :=
  ∀ (pos : Pos) (pins : List (Addr × Obj)) (s : Shared) (σ : St) (H : Hp) (Q : List V → Hp → Prop), Inv X pins σ H s → t σ H Q → wpAny (model X.prog X.w) X.A (spliced (backTo pos (starEach es X.env))) (AP X pins σ Q) X.xe s
def PS (X : Cx) (st : Stmt) (t : TS) : Prop :=
  ∀ (pins : List (Addr × Obj)) (s : Shared) (σ : St) (H : Hp) (D : Ends), Inv X pins σ H s → t D σ H → wpAny (model X.prog X.w) X.A (exec st X.env) (SP X pins D) X.xe s
def PSs (X : Cx) (st : List Stmt) (t : TS) : Prop :=
  ∀ (pins : List (Addr × Obj)) (s : Shared) (σ : St) (H : Hp) (D : Ends), Inv X pins σ H s → t D σ H → wpAny (model X.prog X.w) X.A (execs st X.env) (SP X pins D) X.xe s
theorem thn {α : Type} {t : Sem α} {Q Q' : α → Shared → Prop} {M : Model} {A : Around} {E : Value → Shared → Prop} {s : Shared} (h : wpAny M A t Q E s) (hQ : ∀ a s, Q a s → Q' a s) : wpAny M A t Q' E s := wpAny_mono h hQ fun _ _ x => x
end L2
namespace L2
open PySem PySem.Spec PyProof.Rows
section
variable {X : Cx}
theorem bin {a b : Expr} {ta tb : TE} (ha : PE X a ta) (hb : PE X b tb) {pins : List (Addr × Obj)} {s : Shared} {σ : St} {H : Hp} {R : V → V → Hp → Prop} (I : Inv X pins σ H s) (h : ta σ H fun x H1 => tb σ H1 fun y H2 => R x y H2)
    {α : Type} {Q : α → Shared → Prop} {f : Value → Value → Sem α}
    (hf : ∀ v u s2 x y H2, Inv X pins σ H2 s2 → RelV x v → RelV y u → R x y H2 → wpAny (model X.prog X.w) X.A (f v u) Q X.xe s2) :
    wpAny (model X.prog X.w) X.A (eval a X.env) (fun v s₁ => wpAny (model X.prog X.w) X.A (eval b X.env) (fun u s₂ => wpAny (model X.prog X.w) X.A (f v u) Q X.xe s₂) X.xe s₁) X.xe s := by
  refine thn (ha pins s σ H _ I h) fun v s1 ⟨x, H1, I1, r1, q1⟩ => ?_
  refine thn (hb pins s1 σ H1 _ I1 q1) fun u s2 ⟨y, H2, I2, r2, q2⟩ => ?_
  exact hf v u s2 x y H2 I2 r1 r2 q2
def LZ (i : Nat) : TE := fun σ H Q => ∃ v, σ[i]? = some (some v) ∧ Q v H
def tC (v : V) : TE := fun _ H Q => Q v H
theorem xY {i : Nat} {x : Str} {pos : Pos} (hN : X.N[i]? = some x) (hv : Vis X.env.scope x) (hd : (x == ("__debug__" : Str)) = false := by decide) (hcd : (x == ("__classdict__" : Str)) = false := by decide) : PE X (.Name x pos) (LZ i) := by
  intro pins s σ H Q I h
  obtain ⟨v, e, h⟩ := h
  obtain ⟨m, hn, hl⟩ := I.loc
  obtain ⟨u, r, l⟩ := hl i x v hN e hv
  have fin : EP X pins σ Q u s := ⟨v, H, I, r, h⟩
  rcases l with ⟨hk, hm⟩ | ⟨hk, c, hc, hcell⟩
  · exact wpAny_Name (wpAny_loadName_local I.ok.kind hk hn hm fin) hd
  · rcases hk with hk | hk
    · exact wpAny_Name (wpAny_loadName_cell I.ok.kind hk hc hcell fin) hd
    · exact wpAny_Name (wpAny_loadName_free I.ok.kind hk hc hcell fin hcd) hd
theorem O5 {i j pos} : PE X (.Constant (.int i) j pos) (tC (.int i)) := fun _ _ _ H _ I h => wpAny_Constant_int ⟨.int i, H, I.tok _, ⟨_, rfl⟩, h⟩
theorem Rh {b j pos} : PE X (.Constant (.bool b) j pos) (tC (.bl b)) := fun _ _ _ H _ I h => Constant_bool ⟨.bl b, H, I, rfl, h⟩
theorem J6 {j pos} : PE X (.Constant .none j pos) (tC .non) := fun _ _ _ H _ I h => Constant_none ⟨.non, H, I, rfl, h⟩
theorem La {x j pos} : PE X (.Constant (.str x) j pos) (tC (.str x)) := fun _ _ _ H _ I h => Calls.Constant_str ⟨.str x, H, I.tok _, ⟨_, rfl⟩, h⟩
def Gl (X : Cx) (x : Str) : Prop := X.env.kindOf x = some .globalImplicit
theorem q9 {E : Value → Shared → Prop} {pins : List (Addr × Obj)} {s : Shared} {σ : St} {H : Hp} {x : Str} {u : Value} {pos : Pos} {Q : Value → Shared → Prop} (I : Inv X pins σ H s) (hg : Gl X x) (hm : X.mg x = some u) (h : Q u s)
    (hd : (x == ("__debug__" : Str)) = false := by decide) : wpAny (model X.prog X.w) X.A (eval (.Name x pos) X.env) Q E s :=
  Calls.Name_function_global I.ok.kind hg (Calls.loadGlobal_global (by rw [I.ok.glob]; exact I.mod.glob.keeps I.bk) hm h) hd
theorem yK {E : Value → Shared → Prop} {pins : List (Addr × Obj)} {s : Shared} {σ : St} {H : Hp} {x : Str} {u : Value} {pos : Pos} {Q : Value → Shared → Prop} (I : Inv X pins σ H s) (hg : Gl X x) (hm : X.mg x = none) (hv : bootBuiltins x = some u) (h : Q u s)
    (hn : x ≠ "__name__" := by decide) (hd : (x == ("__debug__" : Str)) = false := by decide) : wpAny (model X.prog X.w) X.A (eval (.Name x pos) X.env) Q E s := by
  obtain ⟨mb, h1, h2⟩ := I.mod.blt
  exact Calls.Name_function_global I.ok.kind hg (Calls.loadGlobal_builtin (by rw [I.ok.glob]; exact I.mod.glob.keeps I.bk) hm (by rw [I.ok.blt]; exact h1.keeps I.bk) ((h2 x hn).trans hv) h) hd
theorem GI {x : Str} {v : V} {u : Value} {pos : Pos} (hg : Gl X x) (hm : X.mg x = some u) (r : RelV v u) (hd : (x == ("__debug__" : Str)) = false := by decide) : PE X (.Name x pos) (tC v) :=
  fun _ _ _ H _ I h => q9 I hg hm ⟨v, H, I, r, h⟩ hd
theorem GX {x : Str} {v : V} {u : Value} {pos : Pos} (hg : Gl X x) (hm : X.mg x = none) (hv : bootBuiltins x = some u) (r : RelV v u) (hn : x ≠ "__name__" := by decide) (hd : (x == ("__debug__" : Str)) = false := by decide) : PE X (.Name x pos) (tC v) :=
  fun _ _ _ H _ I h => yK I hg hm hv ⟨v, H, I, r, h⟩ hn hd
variable {a b : Expr} {ta tb : TE} {pos : Pos}
def PC (X : Cx) (op : CmpOp) (a b : Expr) (t : TE) : Prop :=
  ∀ (pins : List (Addr × Obj)) (s : Shared) (σ : St) (H : Hp) (Q : VK), Inv X pins σ H s → t σ H Q →
    wpAny (model X.prog X.w) X.A (eval a X.env) (fun v s₁ => wpAny (model X.prog X.w) X.A (eval b X.env) (fun u s₂ => wpAny (model X.prog X.w) X.A (compareOp op v u) (EP X pins σ Q) X.xe s₂) X.xe s₁) X.xe s
theorem LN (b : Expr) {op : CmpOp} (h : op ≠ .In) (h2 : op ≠ .NotIn) : behindInMarks op b = false := by
  have e1 : (op == CmpOp.In) = false := by cases op <;> first | rfl | exact absurd rfl h
  have e2 : (op == CmpOp.NotIn) = false := by cases op <;> first | rfl | exact absurd rfl h2
  cases b <;> simp [behindInMarks, e1, e2]
def tB (t : TE) : TT := fun σ H Q => t σ H fun x H1 => ∃ c, x = .bl c ∧ Q c H1
theorem RE {op : CmpOp} {t : TE} (h : PC X op a b t) (h1 : behindInMarks op b = false := by first | exact LN _ (by decide) (by decide) | rfl) : PT X (.Compare a [op] [b] pos) (tB t) := by
  intro pins s σ H Q I hw
  refine wpAny_isTrue_Compare1 (thn (h pins s σ H _ I hw) fun v s1 h1 => thn h1 fun u s2 h2 => thn h2 fun c s3 ⟨x, H1, I1, r1, q1⟩ => ?_) h1
  obtain ⟨d, rfl, q⟩ := q1
  cases r1
  exact wpAny_truthy_bool ⟨H1, I1, q⟩
theorem OH {e : Expr} {t : TE} (h : PE X e t) (he : ∀ whole, isTrue e X.env whole = (do let v ← whole; standAt e.pos; holding [v] (truthy v)) := by intro _; rfl) : PT X e (tB t) := by
  intro pins s σ H Q I hw
  refine isTrue_plain (thn (h pins s σ H _ I hw) fun v s1 ⟨x, H1, I1, r1, q1⟩ => ?_) (he _)
  obtain ⟨d, rfl, q⟩ := q1
  cases r1
  exact wpAny_truthy_bool ⟨H1, I1, q⟩
variable {tA tB' : TT} {rest : List Expr}
def RO (t u : TT) : TT := fun σ H Q => t σ H fun c H1 => if c = true then u σ H1 Q else Q false H1
def tOr (t u : TT) : TT := fun σ H Q => t σ H fun c H1 => if c = true then Q true H1 else u σ H1 Q
def RF (t : TT) : TT := fun σ H Q => t σ H fun c H1 => Q (!c) H1
theorem pw_and1 (ha : PT X a tA) : PW X (.BoolOp .And [a] pos) tA := by
  intro wh pins s σ H Q I h
  refine isTrue_and (thn (ha pins s σ H Q I h) fun c s1 e => ?_)
  cases c with
  | true => exact isTrue_and_nil e
  | false => exact e
theorem pw_or1 (ha : PT X a tA) : PW X (.BoolOp .Or [a] pos) tA := by
  intro wh pins s σ H Q I h
  refine isTrue_or (thn (ha pins s σ H Q I h) fun c s1 e => ?_)
  cases c with
  | false => exact isTrue_or_nil e
  | true => exact e
theorem pw_and (ha : PT X a tA) (hb : PW X (.BoolOp .And (b :: rest) pos) tB') : PW X (.BoolOp .And (a :: b :: rest) pos) (RO tA tB') := by
  intro wh pins s σ H Q I h
  refine isTrue_and (thn (ha pins s σ H _ I h) fun c s1 ⟨H1, I1, q1⟩ => ?_)
  cases c with
  | true => exact hb wh pins s1 σ H1 Q I1 q1
  | false => exact ⟨H1, I1, q1⟩
theorem pw_or (ha : PT X a tA) (hb : PW X (.BoolOp .Or (b :: rest) pos) tB') : PW X (.BoolOp .Or (a :: b :: rest) pos) (tOr tA tB') := by
  intro wh pins s σ H Q I h
  refine isTrue_or (thn (ha pins s σ H _ I h) fun c s1 ⟨H1, I1, q1⟩ => ?_)
  cases c with
  | true => exact ⟨H1, I1, q1⟩
  | false => exact hb wh pins s1 σ H1 Q I1 q1
theorem Pa (ha : PT X a tA) : PT X (.UnaryOp .Not a pos) (RF tA) := by
  intro pins s σ H Q I h
  exact isTrue_not (ha pins s σ H (fun c H1 => Q (!c) H1) I h)
def QC (ta tb : TE) : TE := fun σ H Q => ta σ H fun x H1 => ∃ c, x = .bl c ∧ if c = true then tb σ H1 Q else Q (.bl false) H1
def P8 (ta : TE) : TE := fun σ H Q => ta σ H fun x H1 => ∃ c, x = .bl c ∧ Q (.bl (!c)) H1
theorem Oy {op} {t : TE} (h : PE X a t) : PE X (.BoolOp op [a] pos) t := fun pins s σ H Q I hw => BoolOp_one (h pins s σ H Q I hw)
theorem OZ (ha : PE X a ta) (hb : PE X (.BoolOp .And (b :: rest) pos) tb) : PE X (.BoolOp .And (a :: b :: rest) pos) (QC ta tb) := by
  intro pins s σ H Q I h
  refine BoolOp_and (thn (ha pins s σ H _ I h) fun v s1 ⟨x, H1, I1, r1, q1⟩ => ?_)
  obtain ⟨c, rfl, q1⟩ := q1
  cases r1
  refine wpAny_truthy_bool ?_
  cases c with
  | true => exact hb pins s1 σ H1 Q I1 q1
  | false => exact ⟨.bl false, H1, I1, rfl, q1⟩
theorem Py (ha : PE X a ta) : PE X (.UnaryOp .Not a pos) (P8 ta) := by
  intro pins s σ H Q I h
  refine UnaryOp_ (thn (ha pins s σ H _ I h) fun v s1 ⟨x, H1, I1, r1, q1⟩ => ?_)
  obtain ⟨c, rfl, q1⟩ := q1
  cases r1
  exact not_of (wpAny_truthy_bool ⟨.bl (!c), H1, I1, rfl, q1⟩)
def tIf (t : TT) (ta tb : TE) : TE := fun σ H Q => t σ H fun c H1 => if c = true then ta σ H1 Q else tb σ H1 Q
theorem LJ {c : Expr} (hc : PT X c tA) (ha : PE X a ta) (hb : PE X b tb) : PE X (.IfExp c a b pos) (tIf tA ta tb) := by
  intro pins s σ H Q I h
  refine wpAny_IfExp (thn (hc pins s σ H _ I h) fun d s1 ⟨H1, I1, q1⟩ => ?_)
  cases d with
  | true => exact ha pins s1 σ H1 Q I1 q1
  | false => exact hb pins s1 σ H1 Q I1 q1
end
end L2
namespace L2
open PySem PySem.Spec PyProof.Rows
def SqL (K : PySem.W.Frag) (H : Hp) (a : Addr) (xs : List V) : Prop :=
  Rd H a (.lst xs) ∨
    ∃ (o : Obj) (its : Array Value) (n : Nat), K.lookup a = some o ∧ o.cls = .type "list" ∧ o.dict = none ∧ o.data = .seq its n ∧ its.size ≤ sizeLine ∧ Vals xs its.toList
def SqT (K : PySem.W.Frag) (H : Hp) (a : Addr) (xs : List V) : Prop :=
  Rd H a (.tup xs) ∨
    ∃ (o : Obj) (its : Array Value) (n : Nat), K.lookup a = some o ∧ o.cls = .type "tuple" ∧ o.data = .seq its n ∧ its.size ≤ sizeLine ∧ Vals xs its.toList
def RM : Value → Option V
  | .none => some .non
  | .bool b => some (.bl b)
  | .int i _ => some (.int i)
  | .str x _ => some (.str x)
  | .bytes b _ => some (.byt b)
  | .float b _ => some (.flt b)
  | .ref a => some (.ref a)
  | .type n => some (.ty n)
  | _ => none
theorem RelV.abs {x : V} {u : Value} (r : RelV x u) : RM u = some x := by
  cases x with
  | non => cases r; rfl
  | bl _ => cases r; rfl
  | int _ => obtain ⟨t, rfl⟩ := r; rfl
  | str _ => obtain ⟨t, rfl⟩ := r; rfl
  | byt _ => obtain ⟨t, rfl⟩ := r; rfl
  | flt _ => obtain ⟨t, rfl⟩ := r; rfl
  | ref _ => cases r; rfl
  | ty _ => cases r; rfl
theorem RelV.inj {x y : V} {u : Value} (r : RelV x u) (q : RelV y u) : x = y := Option.some.inj (r.abs.symm.trans q.abs)
theorem Vals.inj : ∀ {xs ys : List V} {us : List Value}, Vals xs us → Vals ys us → xs = ys
  | _, _, _, .nil, .nil => rfl
  | _, _, _, .cons r t, .cons r' t' => by rw [r.inj r', Vals.inj t t']
section
variable {X : Cx} {pins : List (Addr × Obj)} {σ : St} {H : Hp} {s : Shared} {a : Addr} {xs ys : List V}
theorem SqL.of {K : PySem.W.Frag} (h : H a = some (.lst xs)) : SqL K H a xs := .inl (.inl h)
theorem SqT.of {K : PySem.W.Frag} (h : H a = some (.tup xs)) : SqT K H a xs := .inl (.inl h)
theorem Inv.list (I : Inv X pins σ H s) (h : SqL X.K H a xs) : ∃ its : List Value, Vals xs its ∧ PlainL s.heap a its.toArray ∧ xs.length ≤ sizeLine := by
  rcases h with h | ⟨o, its, n, hk, hc, hd, hs, hz, r⟩
  · obtain ⟨z, its, n, r, e⟩ := h.ok I.hok
    exact ⟨its, r, ⟨_, n, e, rfl, rfl, rfl⟩, z⟩
  · refine ⟨its.toList, r, ⟨o, n, I.kIn a o hk, hc, hd, by simpa using hs⟩, ?_⟩
    have e := r.length
    simp only [Array.length_toList] at e
    omega
theorem Inv.tuple (I : Inv X pins σ H s) (h : SqT X.K H a xs) : ∃ its : List Value, Vals xs its ∧ IsTup s.heap a its.toArray ∧ xs.length ≤ sizeLine := by
  rcases h with h | ⟨o, its, n, hk, hc, hs, hz, r⟩
  · obtain ⟨z, its, r, p⟩ := h.ok I.hok
    exact ⟨its, r, p, z⟩
  · refine ⟨its.toList, r, ⟨o, I.kIn a o hk, hc, n, by simpa using hs⟩, ?_⟩
    have e := r.length
    simp only [Array.length_toList] at e
    omega
theorem Inv.JW (I : Inv X pins σ H s) (h : SqL X.K H a xs) (h' : SqL X.K H a ys) : xs = ys := by
  obtain ⟨its, r, ⟨o, n, e, _, _, d⟩, _⟩ := I.list h
  obtain ⟨its', r', ⟨o', n', e', _, _, d'⟩, _⟩ := I.list h'
  rw [e] at e'; cases e'
  rw [d] at d'
  injection d' with d1 _
  have : its = its' := by simpa using congrArg Array.toList d1
  subst this
  exact r.inj r'
theorem Inv.IA (I : Inv X pins σ H s) (h : SqT X.K H a xs) (h' : SqT X.K H a ys) : xs = ys := by
  obtain ⟨its, r, ⟨o, e, _, n, d⟩, _⟩ := I.tuple h
  obtain ⟨its', r', ⟨o', e', _, n', d'⟩, _⟩ := I.tuple h'
  rw [e] at e'; cases e'
  rw [d] at d'
  injection d' with d1 _
  have : its = its' := by simpa using congrArg Array.toList d1
  subst this
  exact r.inj r'
end
abbrev Cx.xo (X : Cx) (E : Value → Shared → Prop) : Cx := { X with xe := E }
abbrev Cx.nox (X : Cx) : Cx := X.xo fun _ _ => False
theorem Cx.Ok.xo {X : Cx} (ok : X.Ok) (E : Value → Shared → Prop) : (X.xo E).Ok :=
  ⟨ok.mod, ok.kind, ok.glob, ok.blt, ok.above, ok.inj, ok.has, ok.cab, ok.hd, ok.qt, ok.frames, ok.stk, ok.exf, ok.bs, ok.bsz, ok.Dz, ok.Kk, ok.tV, ok.frf⟩
theorem Cx.Ok.mM {X : Cx} {E : Value → Shared → Prop} (ok : (X.xo E).Ok) : X.Ok :=
  ⟨ok.mod, ok.kind, ok.glob, ok.blt, ok.above, ok.inj, ok.has, ok.cab, ok.hd, ok.qt, ok.frames, ok.stk, ok.exf, ok.bs, ok.bsz, ok.Dz, ok.Kk, ok.tV, ok.frf⟩
section
variable {X : Cx} {pins : List (Addr × Obj)} {σ : St} {H : Hp} {s : Shared} {E : Value → Shared → Prop}
theorem Inv.xo (I : Inv X pins σ H s) (E : Value → Shared → Prop) : Inv (X.xo E) pins σ H s := ⟨I.ok.xo E, I.os, I.bare, I.base, I.loc, I.cell, I.free, I.ik, I.pin, I.hok, I.len⟩
theorem Inv.mM (I : Inv (X.xo E) pins σ H s) : Inv X pins σ H s := ⟨I.ok.mM, I.os, I.bare, I.base, I.loc, I.cell, I.free, I.ik, I.pin, I.hok, I.len⟩
theorem SP.mM {D : Ends} {f : Flow} {s' : Shared} (h : SP (X.xo E) pins D f s') : SP X pins D f s' := by
  cases f with
  | next => obtain ⟨σ', H', I, q⟩ := h; exact ⟨σ', H', I.mM, q⟩
  | brk => obtain ⟨σ', H', I, q⟩ := h; exact ⟨σ', H', I.mM, q⟩
  | cont => obtain ⟨σ', H', I, q⟩ := h; exact ⟨σ', H', I.mM, q⟩
  | ret u => obtain ⟨v, σ', H', I, r, q⟩ := h; exact ⟨v, σ', H', I.mM, r, q⟩
theorem PSs.nox {st : List Stmt} {t : TS} (h : PSs X.nox st t) : PSs X st t := fun pins s σ H D I hw =>
  wpAny_mono (h pins s σ H D (I.xo _) hw) (fun _ _ q => q.mM) fun _ _ z => False.elim z
end
section
variable {X : Cx} {st : Stmt} {rest : List Stmt} {t u : TS} {e : Expr} {te : TE} {pos : Pos}
def Q4 : TS := fun D σ H => D.nx σ H
def Qp (t u : TS) : TS := fun D σ H => t { D with nx := u D } σ H
theorem Gx : PSs X [] Q4 := fun _ _ σ H _ I h => wpAny_execs_nil ⟨σ, H, I, h⟩
theorem vf (h1 : PS X st t) (h2 : PSs X rest u) : PSs X (st :: rest) (Qp t u) := by
  intro pins s σ H D I h
  refine wpAny_execs_cons (thn (h1 pins s σ H { D with nx := u D } I h) fun f s1 q => ?_)
  cases f with
  | next =>
    obtain ⟨σ', H', I', q⟩ := q
    exact h2 pins s1 σ' H' D I' q
  | ret v => exact q
  | brk => exact q
  | cont => exact q
theorem Mq (h1 : PS X st t) : PSs X [st] t := by
  intro pins s σ H D I h
  refine wpAny_execs_cons (thn (h1 pins s σ H D I h) fun f s1 q => ?_)
  cases f with
  | next => exact wpAny_execs_nil q
  | ret v => exact q
  | brk => exact q
  | cont => exact q
theorem Inv.quiet {pins : List (Addr × Obj)} {σ : St} {H : Hp} {s : Shared} (I : Inv X pins σ H s) : interactive X.env = false := by simp [interactive, I.ok.kind]
def PV (te : TE) : TS := fun D σ H => te σ H fun _ H1 => D.nx σ H1
theorem GA (he : PE X e te) (hs : swapsWith e none pos.line X.env = pure false := by rfl) : PS X (.Expr e pos) (PV te) := by
  intro pins s σ H D I h
  exact wpAny_Expr_any (thn (he pins s σ H _ I h) fun v s1 ⟨x, H1, I1, r1, q1⟩ => ⟨σ, H1, I1, q1⟩) I.quiet hs
def RQ (te : TE) : TS := fun D σ H => te σ H D.rt
theorem Gb (he : PE X e te) : PS X (.Return (some e) pos) (RQ te) := by
  intro pins s σ H D I h
  exact wpAny_Return_some (thn (he pins s σ H _ I h) fun v s1 ⟨x, H1, I1, r1, q1⟩ => ⟨x, σ, H1, I1, r1, q1⟩)
def RU (c : TT) (t u : TS) : TS := fun D σ H => c σ H fun b H1 => if b = true then t D σ H1 else u D σ H1
theorem NI {c : Expr} {a b : List Stmt} {tc : TT} (hc : PT X c tc) (ha : PSs X a t) (hb : PSs X b u) : PS X (.If c a b pos) (RU tc t u) := by
  intro pins s σ H D I h
  refine wpAny_If (thn (hc pins s σ H _ I h) fun d s1 ⟨H1, I1, q1⟩ => ?_)
  cases d with
  | true => exact ha pins s1 σ H1 D I1 q1
  | false => exact hb pins s1 σ H1 D I1 q1
def OI : TS := fun _ _ _ => False
theorem AF {sts : List Stmt} : PSs X sts OI := fun _ _ _ _ _ _ h => h.elim
end
abbrev TG := V → St → Hp → (St → Hp → Prop) → Prop
abbrev TGs := List V → St → Hp → (St → Hp → Prop) → Prop
def PG (X : Cx) (target : Expr) (t : TG) : Prop :=
  ∀ (pins : List (Addr × Obj)) (s : Shared) (σ : St) (H : Hp) (v : V) (u : Value) (Q : St → Hp → Prop), Inv X pins σ H s → RelV v u → t v σ H Q →
    wpAny (model X.prog X.w) X.A (assign target X.env u) (fun _ s' => ∃ σ' H', Inv X pins σ' H' s' ∧ Q σ' H') X.xe s
def PGs (X : Cx) (ts : List Expr) (t : TGs) : Prop :=
  ∀ (pins : List (Addr × Obj)) (s : Shared) (σ : St) (H : Hp) (vs : List V) (us : List Value) (Q : St → Hp → Prop), Inv X pins σ H s → Vals vs us → t vs σ H Q →
    wpAny (model X.prog X.w) X.A (assignInOrder ((assignEach ts X.env).map (·.2)) us) (fun _ s' => ∃ σ' H', Inv X pins σ' H' s' ∧ Q σ' H') X.xe s
abbrev Pk := V → V → V → Hp → (Hp → Prop) → Prop
def Q1 (X : Cx) (t : Pk) : Prop :=
  ∀ (pins : List (Addr × Obj)) (s : Shared) (σ : St) (H : Hp) (o i v : V) (ov iv u : Value) (Q : Hp → Prop), Inv X pins σ H s → RelV o ov → RelV i iv → RelV v u → t o i v H Q →
    wpAny (model X.prog X.w) X.A (setItem ov iv u) (fun _ s' => ∃ H', Inv X pins σ H' s' ∧ Q H') X.xe s
section
variable {X : Cx} {pos : Pos}
def Jt (i : Nat) : TG := fun v σ H Q => Q (σ.set i (some v)) H
theorem L8 {i : Nat} {x : Str} (hN : X.N.Nodup) (hi : X.N[i]? = some x) (hx : Loc X.env.scope x) (hf : X.fn x = true ∨ X.env.scope.names.lookup x = some .local := by first | exact .inl rfl | exact .inr rfl | assumption) : PG X (.Name x pos) (Jt i) := by
  intro pins s σ H v u Q I r h
  exact wpAny_assign_Name (mU I hN hi hx r (fun s' I' => ⟨_, H, I', h⟩) hf)
def Ru : TGs := fun vs σ H Q => vs = [] ∧ Q σ H
def Q0 (t : TG) (u : TGs) : TGs := fun vs σ H Q => ∃ v r, vs = v :: r ∧ t v σ H fun σ' H' => u r σ' H' Q
theorem GO : PGs X [] Ru := by
  intro pins s σ H vs us Q I r h
  obtain ⟨e, h⟩ := h
  subst e
  cases r
  exact assignInOrder_nil ⟨σ, H, I, h⟩
theorem DB {e : Expr} {es : List Expr} {t : TG} {u : TGs} (h1 : PG X e t) (h2 : PGs X es u)
    (hs : (assignEach (e :: es) X.env).map (·.2) = assign e X.env :: (assignEach es X.env).map (·.2) := by rfl) : PGs X (e :: es) (Q0 t u) := by
  intro pins s σ H vs us Q I r h
  obtain ⟨v, vr, e1, h⟩ := h
  subst e1
  cases r with
  | cons r rr =>
    rw [hs]
    refine assignInOrder_cons (thn (h1 pins s σ H _ _ _ I r h) fun _ s1 ⟨σ1, H1, I1, q1⟩ => ?_)
    exact h2 pins s1 σ1 H1 _ _ Q I1 rr q1
def RW (K : PySem.W.Frag) (n : Nat) (t : TGs) : TG := fun v σ H Q => ∃ a xs, v = .ref a ∧ SqT K H a xs ∧ xs.length = n ∧ t xs σ H Q
theorem KC {es : List Expr} {k : Nat} {t : TGs} {n : Nat} (hc : X.calm = X.calm) (h : PGs X es t)
    (hn : (assignEach es X.env).length = n := by rfl) (hst : (assignEach es X.env).findIdx? (·.1) = none := by rfl) : PG X (.Tuple es k pos) (RW X.K n t) := by
  intro pins s σ H v u Q I r hw
  obtain ⟨a, xs, e1, hq, hl, hw⟩ := hw
  subst e1
  cases r
  obtain ⟨its, rv, ht, hz⟩ := I.tuple hq
  refine zF I.Fm ht (by simp [hn, ← hl, rv.length]) hst fun h' hx => ?_
  have I1 : Inv X pins σ H { s with heap := h' } := I.kept (t' := s.toks) fun b o e => hx b o (Nat.ne_of_lt (Heap.lt_size e)) e
  exact h pins _ σ H xs _ Q I1 (by simpa using rv) hw
def RD (to ti : TE) (t : Pk) : TG := fun v σ H Q => to σ H fun o H1 => ti σ H1 fun i H2 => t o i v H2 fun H3 => Q σ H3
theorem OX {o i : Expr} {to ti : TE} {t : Pk} (ho : PE X o to) (hi : PE X i ti) (hs : Q1 X t)
    (ha : ∀ v, assign (.Subscript o i pos) X.env v = (do
      let ov ← holding [v] (eval o X.env)
      let iv ← holding [v, ov] (eval i X.env)
      standAt pos
      holding [v, ov, iv] (setItem ov iv v)
      release [v, ov, iv] []) := by intro _; rfl) : PG X (.Subscript o i pos) (RD to ti t) := by
  intro pins s σ H v u Q I r h
  rw [ha]
  refine wpAny_bind (wpAny_holding (thn (ho pins s σ H _ I h) fun ov s1 ⟨x, H1, I1, r1, q1⟩ => ?_))
  refine wpAny_bind (wpAny_holding (thn (hi pins s1 σ H1 _ I1 q1) fun iv s2 ⟨y, H2, I2, r2, q2⟩ => ?_))
  refine wpAny_bind (wpAny_standAt (wpAny_bind (wpAny_holding (thn (hs pins s2 σ H2 x y v ov iv u _ I2 r1 r2 r q2) fun _ s3 ⟨H3, I3, q3⟩ => ?_))))
  exact wpAny_release ⟨σ, H3, I3, q3⟩
def N5 (te : TE) (g : TG) : TS := fun D σ H => te σ H fun x H1 => g x σ H1 D.nx
theorem Pg {tg e : Expr} {te : TE} {g : TG} (he : PE X e te) (hg : PG X tg g) (hs : swapsWithSole [tg] e pos.line X.env = pure false := by rfl) (hw : swappedStores [tg] e X.env = pure none := by rfl)
    (h1 : (assignEach [tg] X.env).map (·.2) = [assign tg X.env] := by rfl) : PS X (.Assign [tg] e pos) (N5 te g) := by
  intro pins s σ H D I h
  refine wpAny_Assign_stores (thn (he pins s σ H _ I h) fun v s1 ⟨x, H1, I1, r1, q1⟩ => ?_) hs hw
  rw [h1]
  exact thn (hg pins s1 σ H1 x v _ I1 r1 q1) fun _ s2 q => q
theorem N6 {i : Nat} {x : Str} {e : Expr} {te : TE} {pos' : Pos} (hN : X.N.Nodup) (hi : X.N[i]? = some x) (hx : Loc X.env.scope x) (he : PE X e te) (hs : swapsWith e (some (.Name x pos')) pos.line X.env = pure false := by rfl) (hf : X.fn x = true ∨ X.env.scope.names.lookup x = some .local := by first | exact .inl rfl | exact .inr rfl | assumption) :
    PS X (.Assign [.Name x pos'] e pos) (N5 te (Jt i)) := by
  intro pins s σ H D I h
  refine wpAny_Assign_Name (thn (he pins s σ H _ I h) fun v s1 ⟨y, H1, I1, r1, q1⟩ => ?_) hs
  exact mU I1 hN hi hx r1 (fun s2 I2 => ⟨_, H1, I2, q1⟩) hf
def RX (i j : Nat) (ta : TA) : TS := fun D σ H => ta σ H fun vs H1 => ∃ v w, vs = [v, w] ∧ D.nx ((σ.set i (some v)).set j (some w)) H1
theorem PF {i j : Nat} {x y : Str} {a b : Expr} {ta : TA} {px py pt : Pos} {kt k2 pt2} (hc : X.calm = true) (hN : X.N.Nodup) (hi : X.N[i]? = some x) (hj : X.N[j]? = some y) (hij : i ≠ j)
    (hx : X.env.scope.names.lookup x = some .local) (hy : X.env.scope.names.lookup y = some .local) (ha : PA X [a, b] ta)
    (hw : swappedStores [.Tuple [.Name x px, .Name y py] kt pt] (.Tuple [a, b] k2 pt2) X.env = pure (some [x, y]))
    (hs : swapsWithSole [.Tuple [.Name x px, .Name y py] kt pt] (.Tuple [a, b] k2 pt2) pos.line X.env = pure false := by rfl) :
    PS X (.Assign [.Tuple [.Name x px, .Name y py] kt pt] (.Tuple [a, b] k2 pt2) pos) (RX i j ta) := by
  intro pins s σ H D I h
  rw [exec_Assign_arm]
  refine wpAny_bind (wpAny_standAt ?_)
  rw [hs]
  refine wpAny_bind (wpAny_pure ?_)
  rw [if_neg (by decide)]
  refine wpAny_bind (Tuple_ (thn (ha _ pins s σ H _ I h) fun us s1 ⟨vs, H1, I1, r1, q1⟩ => ?_))
  obtain ⟨v, w, e1, q1⟩ := q1
  subst e1
  obtain ⟨u1, u2, rfl, rv, rw'⟩ : ∃ u1 u2, us = [u1, u2] ∧ RelV v u1 ∧ RelV w u2 := by
    cases r1 with
    | cons p q =>
      cases q with
      | cons p' q' =>
        cases q'
        exact ⟨_, _, rfl, p, p'⟩
  refine wpAny_newObj_type ?_ (by show 2 ≤ sizeLine; decide)
  have I2 : Inv X pins σ H1 { s1 with heap := s1.heap.push { cls := .type "tuple", data := .seq [u1, u2].toArray } } := I1.kept (t' := s1.toks) fun b o e => Heap.get?_push_of_some _ e
  rw [hw]
  refine wpAny_bind (wpAny_pure ?_)
  show wpAny (model X.prog X.w) X.A (do rule "assign.swapped-stores"; let items ← unpackItems (.ref s1.heap.objs.size) 2 none; assignInOrder [fun v => bindName X.env y v, fun v => bindName X.env x v] items.reverse; pure Flow.next) _ _ _
  refine wpAny_bind (wpAny_rule (wpAny_bind (unpackItems_tuple (items := #[u1, u2]) (I.ok.hd hc) (IsTup.new s1.heap _) fun h' hx' => ?_)))
  have I3 := I2.kept (h' := h') (t' := s1.toks) fun b o e => hx' b o (Nat.ne_of_lt (Heap.lt_size e)) e
  show wpAny _ _ (assignInOrder [fun v => bindName X.env y v, fun v => bindName X.env x v] [u2, u1] >>= fun _ => pure Flow.next) _ _ _
  refine wpAny_bind (assignInOrder_cons (wpAny_bindName (mU I3 hN hj (.inl hy) rw' (fun s2 I4 => ?_) (.inr hy))))
  refine assignInOrder_cons (wpAny_bindName (mU I4 hN hi (.inl hx) rv (fun s3 I5 => assignInOrder_nil (wpAny_pure ?_)) (.inr hx)))
  rw [List.set_comm _ _ (Ne.symm hij)] at I5
  exact ⟨_, H1, I5, q1⟩
end
section
variable {X : Cx} {pos : Pos}
def O0 (c : TT) (tb : TS) : TS := fun D σ H => ∃ W : Nat → St → Hp → Prop, (∃ m, W m σ H) ∧ ∀ m σ H, W m σ H →
  c σ H fun b H1 => if b = true then ∃ N : St → Hp → Prop, (∀ σ' H', N σ' H' → ∃ m', m' < m ∧ W m' σ' H') ∧ tb { D with nx := N, ct := N, bk := D.nx } σ H1 else D.nx σ H1
theorem Kf {c : Expr} {body : List Stmt} {tc : TT} {tb : TS} (hp : PassesOwn (model X.prog X.w) X.A X.env X.xe) (hc : PT X c tc) (hb : PSs X body tb) : PS X (.While c body [] pos) (O0 tc tb) := by
  intro pins s σ H D I h
  obtain ⟨W, ⟨m0, w0⟩, turn⟩ := h
  refine wpAny_While (codeAny_whileLoop (fun n s' => ∃ σ' H', Inv X pins σ' H' s' ∧ W n σ' H') ?_ m0 ⟨σ, H, I, w0⟩)
  rintro n s1 ⟨σ1, H1, I1, w1⟩
  refine wpAny_passesOwn hp (thn (hc pins s1 σ1 H1 _ I1 (turn n σ1 H1 w1)) fun b s2 ⟨H2, I2, q2⟩ => ?_)
  cases b with
  | true =>
    obtain ⟨N, hN, q2⟩ := q2
    rw [if_pos rfl]
    refine wpAny_passesOwn hp (thn (hb pins s2 σ1 H2 _ I2 q2) fun f s3 q3 => ?_)
    cases f with
    | next =>
      obtain ⟨σ3, H3, I3, n3⟩ := q3
      obtain ⟨m', hm, w3⟩ := hN σ3 H3 n3
      exact ⟨m', hm, σ3, H3, I3, w3⟩
    | cont =>
      obtain ⟨σ3, H3, I3, n3⟩ := q3
      obtain ⟨m', hm, w3⟩ := hN σ3 H3 n3
      exact ⟨m', hm, σ3, H3, I3, w3⟩
    | brk => exact q3
    | ret v => exact q3
  | false =>
    rw [if_neg Bool.false_ne_true]
    exact wpAny_execs_nil ⟨σ1, H2, I2, q2⟩
end
structure It where
  go : Nat → Hp → Prop
  yld : Nat → Hp → V → Hp → Prop
  stop : Nat → Hp → Prop
def Ac (X : Cx) (pins : List (Addr × Obj)) (H : Hp) (b : Addr) : Prop :=
  H b = none ∧ b ≠ X.env.locals ∧ b ∉ X.fs ∧ (b ∈ X.ex ∨ X.s₀.heap.objs.size ≤ b) ∧ (∀ x c, X.env.cells.lookup x = some c → c ≠ b) ∧ ∀ p ∈ X.pn ++ pins, p.1 ≠ b
theorem Inv.MN {X : Cx} {pins : List (Addr × Obj)} {σ : St} {H H' : Hp} {s : Shared} {b : Addr} (I : Inv X pins σ H s) (hb : s.heap.objs.size ≤ b) (hn : H' b = none) : Ac X pins H' b := by
  refine ⟨hn, Nat.ne_of_gt (Nat.lt_of_lt_of_le I.lt hb), I.RA hb, .inr (Nat.le_trans I.sz hb), fun x c e z => ?_, fun p hp z => ?_⟩
  · obtain ⟨v, q⟩ := I.cell x c e
    exact absurd (Nat.lt_of_lt_of_le q.lt (by rw [z]; exact hb)) (Nat.lt_irrefl _)
  · exact absurd (Nat.lt_of_lt_of_le (Heap.lt_size (I.pin p hp).1) (by rw [z]; exact hb)) (Nat.lt_irrefl _)
structure Turn (c : Bool) (P : Program) (w : World) (K : PySem.W.Frag) (tg : Expr) (J : It) (fp : List Addr) (it : Addr) (tn : Nat → Heap → Prop) : Prop where
  mem : it ∈ fp
  obj : ∀ i h, tn i h → ∀ b ∈ fp, ∃ o, h.get? b = some o ∧ ∀ v, o.data ≠ .cell v
  keep : ∀ i h h', tn i h → (∀ b ∈ fp, ∀ o, h.get? b = some o → h'.get? b = some o) → tn i h'
  item : ∀ (X : Cx), X.prog = P → X.w = w → X.K = K → (c = true → X.calm = true) → ∀ (i : Nat) (pins : List (Addr × Obj)) (s : Shared) (σ : St) (H : Hp) (E : Value → Shared → Prop), Inv X pins σ H s → (∀ b ∈ fp, Ac X pins H b) → tn i s.heap → J.go i H →
    wpAny (model P w) X.A (pyNext (.ref it)) (fun r s1 => ∃ u, r = some u ∧
      wpAny (model P w) X.A (letOwnedTupleGo tg (.ref it) u) (fun _ s2 => ∃ x H', Inv X pins σ H' s2 ∧ RelV x u ∧ J.yld i H x H' ∧ tn (i + 1) s2.heap ∧ ∀ b ∈ fp, H' b = none) E s1) E s
  done : ∀ (X : Cx), X.prog = P → X.w = w → X.K = K → (c = true → X.calm = true) → ∀ (i : Nat) (pins : List (Addr × Obj)) (s : Shared) (σ : St) (H : Hp) (E : Value → Shared → Prop), Inv X pins σ H s → (∀ b ∈ fp, Ac X pins H b) → tn i s.heap → J.stop i H →
    wpAny (model P w) X.A (pyNext (.ref it)) (fun r s1 => r = none ∧ Inv X pins σ H s1) E s
  self : ∀ (A : Around) (i : Nat) (s : Shared) (Q : Value → Shared → Prop) (E : Value → Shared → Prop), tn i s.heap → Q (.ref it) s → wpAny (model P w) A (pyIter (.ref it)) Q E s
theorem Turn.calm {c : Bool} {P : Program} {w : World} {K : PySem.W.Frag} {tg : Expr} {J : It} {fp : List Addr} {it : Addr} {tn : Nat → Heap → Prop} (T : Turn true P w K tg J fp it tn) (h : c = true) : Turn c P w K tg J fp it tn := by subst h; exact T
abbrev TI := St → Hp → (It → Hp → Prop) → Prop
def PIE (X : Cx) (pins : List (Addr × Obj)) (σ : St) (tg : Expr) (R : It → Hp → Prop) (itv : Value) (s2 : Shared) : Prop :=
  ∃ (it : Addr) (fp : List Addr) (tn : Nat → Heap → Prop) (J : It) (H' : Hp), itv = .ref it ∧ Inv X pins σ H' s2 ∧ Turn X.calm X.prog X.w X.K tg J fp it tn ∧ tn 0 s2.heap ∧ (∀ b ∈ fp, Ac X pins H' b) ∧ R J H'
def PI (X : Cx) (tg iter : Expr) (wi : TI) : Prop :=
  ∀ (pins : List (Addr × Obj)) (s : Shared) (σ : St) (H : Hp) (R : It → Hp → Prop), Inv X pins σ H s → wi σ H R →
    wpAny (model X.prog X.w) X.A (eval iter X.env) (fun v s1 => wpAny (model X.prog X.w) X.A (pyIter v) (PIE X pins σ tg R) X.xe s1) X.xe s
theorem KG {M : Model} {A : Around} {E : Value → Shared → Prop} {s : Shared} {tg : Expr} {it : Addr} {u : Value} {o : Obj} {n : String} {vs : Array Value} {Q : Unit → Shared → Prop} (ho : s.heap.get? it = some o) (hc : o.cls = .type n) (hd : o.data = .fields vs)
    (hn : ["enumerate", "zip", "dict_itemiterator", "dict_reverseitemiterator", "odict_iterator", "itertools.zip_longest", "itertools.pairwise"].contains n = false) (hQ : Q () s) : wpAny M A (letOwnedTupleGo tg (.ref it) u) Q E s := by
  unfold letOwnedTupleGo
  cases tg <;> first
    | exact wpAny_pure hQ
    | (cases u <;> first
        | exact wpAny_pure hQ
        | (refine wpAny_bind (wpAny_load ho ?_)
           rw [hc, hd]
           show wpAny M A (if (["enumerate", "zip", "dict_itemiterator", "dict_reverseitemiterator", "odict_iterator", "itertools.zip_longest", "itertools.pairwise"].contains n && vs[0]? == some (rawInt _)) = true then _ else _) Q E s
           rw [if_neg (by intro h; rw [hn, Bool.false_and] at h; cases h)]
           exact wpAny_pure hQ))
def Itl (K : PySem.W.Frag) (a : Addr) : It :=
  ⟨fun i H => ∃ xs x, SqL K H a xs ∧ xs[i]? = some x, fun i H x H' => H' = H ∧ ∀ xs, SqL K H a xs → xs[i]? = some x, fun i H => ∃ xs, SqL K H a xs ∧ xs.length ≤ i⟩
def Itt (K : PySem.W.Frag) (a : Addr) : It :=
  ⟨fun i H => ∃ xs x, SqT K H a xs ∧ xs[i]? = some x, fun i H x H' => H' = H ∧ ∀ xs, SqT K H a xs → xs[i]? = some x, fun i H => ∃ xs, SqT K H a xs ∧ xs.length ≤ i⟩
def Itr (lo : Int) (n : Nat) : It := ⟨fun i _ => i < n, fun i H x H' => H' = H ∧ x = .int (lo + i), fun i _ => n ≤ i⟩
theorem IK {c : Bool} {P : Program} {w : World} {K : PySem.W.Frag} {tg : Expr} (a it : Addr) : Turn c P w K tg (Itl K a) [it] it (fun i h => h.IsListIter it a i) where
  mem := by simp
  obj := fun i h st b hb => by
    have e : b = it := by simpa using hb
    subst e
    obtain ⟨o, e, c, d⟩ := st
    exact ⟨o, e, fun v z => by rw [d] at z; cases z⟩
  keep := fun i h h' st k => st.at fun o e => k it (by simp) o e
  item := by
    intro X hP hw hK hc i pins s σ H E I hf st hg
    subst hP hw hK
    obtain ⟨xs, x, hq, hx⟩ := hg
    obtain ⟨its, rv, p, hz⟩ := I.list hq
    obtain ⟨u, hu, ru⟩ := rv.get hx
    obtain ⟨f0, f1, f2, f3, f4, f5⟩ := hf it (by simp)
    refine wpAny_pyNext_list_item st p.isList (x := u) (by simpa using hu) fun h' st' sb => ?_
    have I1 : Inv X pins σ H { s with heap := h' } := I.turned (t' := s.toks) (fun b o hb e => (sb.2 b hb).trans e) f0 f1 f3 f4 f5
    obtain ⟨o, e, c, d⟩ := id st'
    exact ⟨u, rfl, KG (s := { s with heap := h' }) e c d (by decide) ⟨x, H, I1, ru, ⟨rfl, fun ys hy => by rw [I.JW hy hq]; exact hx⟩, st', fun b hb => (hf b hb).1⟩⟩
  done := by
    intro X hP hw hK hc i pins s σ H E I hf st hg
    subst hP hw hK
    obtain ⟨xs, hq, hx⟩ := hg
    obtain ⟨its, rv, p, hz⟩ := I.list hq
    obtain ⟨f0, f1, f2, f3, f4, f5⟩ := hf it (by simp)
    have hl := rv.length
    exact zh I.Fm (I.hne f5) st p.isList (by simp; omega) fun h' eb => ⟨rfl, I.turned (t' := s.toks) (fun b o hb e => eb b o hb e) f0 f1 f3 f4 f5⟩
  self := fun _ _ _ _ _ st h => wpAny_pyIter_listiter st h
theorem FW {c : Bool} {P : Program} {w : World} {K : PySem.W.Frag} {tg : Expr} (a it : Addr) : Turn c P w K tg (Itt K a) [it] it (fun i h => h.IsTupleIter it a i) where
  mem := by simp
  obj := fun i h st b hb => by
    have e : b = it := by simpa using hb
    subst e
    obtain ⟨o, e, c, d⟩ := st
    exact ⟨o, e, fun v z => by rw [d] at z; cases z⟩
  keep := fun i h h' st k => st.at fun o e => k it (by simp) o e
  item := by
    intro X hP hw hK hc i pins s σ H E I hf st hg
    subst hP hw hK
    obtain ⟨xs, x, hq, hx⟩ := hg
    obtain ⟨its, rv, p, hz⟩ := I.tuple hq
    obtain ⟨u, hu, ru⟩ := rv.get hx
    obtain ⟨f0, f1, f2, f3, f4, f5⟩ := hf it (by simp)
    refine wpAny_pyNext_tuple_item st (show s.heap.IsTuple a its.toArray from p) (x := u) (by simpa using hu) fun h' st' sb => ?_
    have I1 : Inv X pins σ H { s with heap := h' } := I.turned (t' := s.toks) (fun b o hb e => (sb.2 b hb).trans e) f0 f1 f3 f4 f5
    obtain ⟨o, e, c, d⟩ := id st'
    exact ⟨u, rfl, KG (s := { s with heap := h' }) e c d (by decide) ⟨x, H, I1, ru, ⟨rfl, fun ys hy => by rw [I.IA hy hq]; exact hx⟩, st', fun b hb => (hf b hb).1⟩⟩
  done := by
    intro X hP hw hK hc i pins s σ H E I hf st hg
    subst hP hw hK
    obtain ⟨xs, hq, hx⟩ := hg
    obtain ⟨its, rv, p, hz⟩ := I.tuple hq
    obtain ⟨f0, f1, f2, f3, f4, f5⟩ := hf it (by simp)
    have hl := rv.length
    exact uw I.Fm (I.hne f5) st (show s.heap.IsTuple a its.toArray from p) (by simp; omega) fun h' eb => ⟨rfl, I.turned (t' := s.toks) (fun b o hb e => eb b o hb e) f0 f1 f3 f4 f5⟩
  self := fun _ _ _ _ _ st h => wpAny_pyIter_tupleiter st h
theorem Ge {P : Program} {w : World} {K : PySem.W.Frag} {tg : Expr} (it : Addr) (lo : Int) (n : Nat) : Turn true P w K tg (Itr lo n) [it] it (fun i h => IsRangeIter h it (lo + (i : Nat) * 1) ((n : Int) - (i : Nat)) 1) where
  mem := by simp
  obj := fun i h st b hb => by
    have e : b = it := by simpa using hb
    subst e
    exact ⟨_, st, fun v z => by
      have z' : Data.fields _ = Data.cell v := z
      cases z'⟩
  keep := fun i h h' st k => k it (by simp) _ st
  item := by
    intro X hP hw hK hc i pins s σ H E I hf st hg
    subst hP hw hK
    obtain ⟨f0, f1, f2, f3, f4, f5⟩ := hf it (by simp)
    have W := Walks.range (prog := X.prog) (w := X.w) (I.ok.hd (hc rfl)) it lo 1 n
    refine W.item i s _ _ hg st fun v h' tk hv st' kk => ?_
    obtain ⟨t, rfl⟩ := hv
    have I1 : Inv X pins σ H { s with heap := h', toks := tk } := I.turned (fun b o hb e => kk b o (by simpa using hb) e) f0 f1 f3 f4 f5
    refine ⟨_, rfl, KG (s := { s with heap := h', toks := tk }) (n := "range_iterator") st' rfl rfl (by decide) ⟨.int (lo + i), H, I1, ⟨t, ?_⟩, ⟨rfl, rfl⟩, st', fun b hb => (hf b hb).1⟩⟩
    rw [Int.mul_one]
  done := by
    intro X hP hw hK hc i pins s σ H E I hf st hg
    subst hP hw hK
    obtain ⟨f0, f1, f2, f3, f4, f5⟩ := hf it (by simp)
    exact wpAny_pyNext_range_end (I.ok.hd (hc rfl)) st (by have : n ≤ i := hg; omega) fun h' eb => ⟨rfl, I.turned (t' := s.toks) (fun b o hb e => eb b o hb e) f0 f1 f3 f4 f5⟩
  self := fun _ _ _ _ _ st h => wpAny_pyIter_rangeiter st h
end L2
namespace L2
open PySem PySem.Spec PyProof.Rows
section
variable {X : Cx} {tg : Expr}
def Qf (K : PySem.W.Frag) (tl : TE) : TI := fun σ H R => tl σ H fun x H1 => ∃ a, x = .ref a ∧ (∃ xs, SqL K H1 a xs) ∧ R (Itl K a) H1
def RI (K : PySem.W.Frag) (tl : TE) : TI := fun σ H R => tl σ H fun x H1 => ∃ a, x = .ref a ∧ (∃ xs, SqT K H1 a xs) ∧ R (Itt K a) H1
theorem G4 {l : Expr} {tl : TE} (hl : PE X l tl) : PI X tg l (Qf X.K tl) := by
  intro pins s σ H R I h
  refine thn (hl pins s σ H _ I h) fun v s1 ⟨x, H1, I1, r1, q1⟩ => ?_
  obtain ⟨a, e, ⟨xs, hq⟩, q⟩ := q1
  subst e
  cases r1
  obtain ⟨its, rv, p, hz⟩ := I1.list hq
  refine wpAny_pyIter_list p.isList ?_
  refine ⟨s1.heap.objs.size, [s1.heap.objs.size], _, _, H1, rfl, I1.kept (t' := s1.toks) fun b o e => Heap.get?_push_of_some _ e, IK a _, ⟨_, Heap.get?_push_size _ rfl, rfl, rfl⟩, fun b hb => ?_, q⟩
  have e : b = s1.heap.objs.size := by simpa using hb
  subst e
  exact I1.MN (Nat.le_refl _) (I1.hok.fresh (Nat.le_refl _))
theorem Pu {l : Expr} {tl : TE} (hl : PE X l tl) : PI X tg l (RI X.K tl) := by
  intro pins s σ H R I h
  refine thn (hl pins s σ H _ I h) fun v s1 ⟨x, H1, I1, r1, q1⟩ => ?_
  obtain ⟨a, e, ⟨xs, hq⟩, q⟩ := q1
  subst e
  cases r1
  obtain ⟨its, rv, p, hz⟩ := I1.tuple hq
  refine wpAny_pyIter_tuple (show s1.heap.IsTuple a its.toArray from p) ?_
  refine ⟨s1.heap.objs.size, [s1.heap.objs.size], _, _, H1, rfl, I1.kept (t' := s1.toks) fun b o e => Heap.get?_push_of_some _ e, FW a _, ⟨_, Heap.get?_push_size _ rfl, rfl, rfl⟩, fun b hb => ?_, q⟩
  have e : b = s1.heap.objs.size := by simpa using hb
  subst e
  exact I1.MN (Nat.le_refl _) (I1.hok.fresh (Nat.le_refl _))
theorem Ez (hc : X.calm = true) {pins : List (Addr × Obj)} {σ : St} {H : Hp} {s : Shared} {R : It → Hp → Prop} {E : Value → Shared → Prop} {lo hi : Int} {t u v : Tok} {tk : Nat} (I : Inv X pins σ H s) (h1 : -(2 ^ 62) ≤ lo) (h2 : lo < 2 ^ 62) (h3 : -(2 ^ 62) ≤ hi) (h4 : hi < 2 ^ 62)
    (q : R (Itr lo (hi - lo).toNat) H) : wpAny (model X.prog X.w) X.A (pyIter (.ref s.heap.objs.size)) (PIE X pins σ tg R) E { s with heap := s.heap.push { cls := .type "range", data := .fields #[.int lo t, .int hi u, .int 1 v] }, toks := tk } := by
  refine wpAny_pyIter_range (IsRange.new ..) (small_one h1 h2 h3 h4) ?_
  have I1 : Inv X pins σ H { s with heap := s.heap.push { cls := .type "range", data := .fields #[.int lo t, .int hi u, .int 1 v] }, toks := tk } := I.kept fun b o e => Heap.get?_push_of_some _ e
  refine ⟨(s.heap.push { cls := .type "range", data := .fields #[.int lo t, .int hi u, .int 1 v] }).objs.size, [(s.heap.push { cls := .type "range", data := .fields #[.int lo t, .int hi u, .int 1 v] }).objs.size], _, _, H, rfl,
    I1.kept (t' := tk) fun b o e => Heap.get?_push_of_some _ e, (Ge _ lo (hi - lo).toNat).calm hc, ?_, fun b hb => ?_, q⟩
  · have e1 : lo + ((0 : Nat) : Int) * 1 = lo := by simp
    have e2 : (((hi - lo).toNat : Nat) : Int) - ((0 : Nat) : Int) = Builtin.Range.rangeSize lo hi 1 := by rw [rangeSize_one]; split <;> omega
    show IsRangeIter _ _ (lo + ((0 : Nat) : Int) * 1) ((((hi - lo).toNat : Nat) : Int) - ((0 : Nat) : Int)) 1
    rw [e1, e2]
    exact Heap.get?_push_size _ rfl
  · have e : b = (s.heap.push { cls := .type "range", data := .fields #[.int lo t, .int hi u, .int 1 v] }).objs.size := by simpa using hb
    subst e
    exact I1.MN (Nat.le_refl _) (I1.hok.fresh (Nat.le_refl _))
def Q9 (ta : TA) : TI := fun σ H R => ta σ H fun vs H1 => ∃ j : Int, vs = [.int j] ∧ -(2 ^ 62) ≤ j ∧ j < 2 ^ 62 ∧ R (Itr 0 j.toNat) H1
def Q7 (ta : TA) : TI := fun σ H R => ta σ H fun vs H1 => ∃ i j : Int, vs = [.int i, .int j] ∧ (-(2 ^ 62) ≤ i ∧ i < 2 ^ 62 ∧ -(2 ^ 62) ≤ j ∧ j < 2 ^ 62) ∧ R (Itr i (j - i).toNat) H1
theorem Ip {a : Expr} {ta : TA} {p pos : Pos} (hc : X.calm = true) (hg : Gl X "range") (hm : X.mg "range" = none) (ha : PA X [a] ta) (hs : starEach [a] X.env = [(false, eval a X.env)] := by rfl) : PI X tg (.Call (.Name "range" p) [a] [] pos) (Q9 ta) := by
  intro pins s σ H R I h
  refine Call_ (yK I hg hm boot_range (PyProof.Rows.callWith_type1 (thn (ha pos pins s σ H _ I h) fun us s1 ⟨vs, H1, I1, r1, q1⟩ => ?_) hs rfl))
  obtain ⟨j, e, q1, q2, q⟩ := q1
  subst e
  cases r1 with
  | cons r rr =>
    cases rr
    obtain ⟨t, rfl⟩ := r
    exact call_range_1 (Ez hc I1 (by omega) (by omega) q1 q2 (by simpa using q))
theorem Io {a b : Expr} {ta : TA} {p pos : Pos} (hc : X.calm = true) (hg : Gl X "range") (hm : X.mg "range" = none) (ha : PA X [a, b] ta) (hs : starEach [a, b] X.env = [(false, eval a X.env), (false, eval b X.env)] := by rfl) (hs2 : starEach [b] X.env = [(false, eval b X.env)] := by rfl) :
    PI X tg (.Call (.Name "range" p) [a, b] [] pos) (Q7 ta) := by
  intro pins s σ H R I h
  refine Call_ (yK I hg hm boot_range (PyProof.Rows.callWith_type1 (thn (ha pos pins s σ H _ I h) fun us s1 ⟨vs, H1, I1, r1, q1⟩ => ?_) (by rw [hs, hs2]) (by rw [hs2]; rfl)))
  obtain ⟨i, j, e, ⟨q1, q2, q3, q4⟩, q⟩ := q1
  subst e
  cases r1 with
  | cons r rr =>
    cases rr with
    | cons r' rr =>
      cases rr
      obtain ⟨t, rfl⟩ := r
      obtain ⟨t', rfl⟩ := r'
      exact call_range_2 (Ez hc I1 q1 q2 q3 q4 q)
def Rr (wi : TI) (g : TG) (tb : TS) : TS := fun D σ H => wi σ H fun J H1 => ∃ W : Nat → Nat → St → Hp → Prop, (∃ m, W 0 m σ H1) ∧ ∀ i m σ H, W i m σ H →
  (J.stop i H ∧ D.nx σ H) ∨ (J.go i H ∧ ∃ N : St → Hp → Prop, (∀ σ' H', N σ' H' → ∃ m', m' < m ∧ W (i + 1) m' σ' H') ∧ ∀ x H', J.yld i H x H' → g x σ H' fun σ2 H2 => tb { D with nx := N, ct := N, bk := D.nx } σ2 H2)
def sL (fp : List Addr) (h : Heap) : List (Addr × Obj) := fp.filterMap fun b => (h.get? b).map fun o => (b, o)
theorem eI {fp : List Addr} {h : Heap} {b : Addr} {o : Obj} (hb : b ∈ fp) (e : h.get? b = some o) : (b, o) ∈ sL fp h := List.mem_filterMap.mpr ⟨b, hb, by rw [e]; rfl⟩
theorem IZ {fp : List Addr} {h : Heap} {p : Addr × Obj} (hp : p ∈ sL fp h) : p.1 ∈ fp ∧ h.get? p.1 = some p.2 := by
  obtain ⟨b, hb, e⟩ := List.mem_filterMap.mp hp
  cases q : h.get? b with
  | none => rw [q] at e; cases e
  | some o =>
    rw [q] at e
    have e' : (b, o) = p := Option.some.inj e
    subst e'
    exact ⟨hb, q⟩
theorem Inv.pinned {pins : List (Addr × Obj)} {σ : St} {H : Hp} {s : Shared} {fp : List Addr} (I : Inv X pins σ H s) (hf : ∀ b ∈ fp, Ac X pins H b) (ho : ∀ b ∈ fp, ∃ o, s.heap.get? b = some o ∧ ∀ v, o.data ≠ .cell v) : Inv X (pins ++ sL fp s.heap) σ H s :=
  I.HM fun p hp => (List.mem_append.mp hp).elim (fun z => I.pin p (List.mem_append_right _ z)) fun z => by
    obtain ⟨hb, e⟩ := IZ z
    obtain ⟨f0, f1, f2, _⟩ := hf p.1 hb
    obtain ⟨o, e', d⟩ := ho p.1 hb
    rw [e] at e'; cases e'
    exact ⟨e, f0, f1, f2, d⟩
theorem Inv.lA {pins pl : List (Addr × Obj)} {σ : St} {H : Hp} {s : Shared} (I : Inv X (pins ++ pl) σ H s) : Inv X pins σ H s := I.HM fun p hp => I.pin p (List.mem_append_right _ (List.mem_append_left _ hp))
theorem OF {iter : Expr} {body : List Stmt} {wi : TI} {g : TG} {tb : TS} {pos : Pos} (hp : PassesOwn (model X.prog X.w) X.A X.env X.xe) (hc : X.calm = true) (hi : PI X tg iter wi) (hg : PG X tg g) (hb : PSs X body tb)
    (hs : ∀ x, foldedSetIterable iter X.env x = pure x := by intro _; rfl) : PS X (.For tg iter body [] pos) (Rr wi g tb) := by
  intro pins s σ H D I h
  refine wpAny_For (thn (hi pins s σ H _ I h) fun v s1 h1 => thn h1 fun itv s2 h2 => ?_) hs
  obtain ⟨it, fp, tn, J, H2, e, I2, T, st2, f2, W, ⟨m0, w0⟩, turn⟩ := h2
  subst e
  have stat : ∀ {H' : Hp}, (∀ b ∈ fp, H' b = none) → ∀ b ∈ fp, Ac X pins H' b := fun hn b hb => ⟨hn b hb, (f2 b hb).2⟩
  refine codeAny_forLoop_any (fun n s' => ∃ i σ' H', Inv X pins σ' H' s' ∧ tn i s'.heap ∧ (∀ b ∈ fp, H' b = none) ∧ W i n σ' H') ?_ m0 ⟨0, σ, H2, I2, st2, fun b hb => (f2 b hb).1, w0⟩
  rintro n s3 ⟨i, σ3, H3, I3, st3, fr3, w3⟩
  rcases turn i n σ3 H3 w3 with ⟨stop, qn⟩ | ⟨go, N, hN, step⟩
  · refine wpAny_passesOwn hp (thn (T.done X rfl rfl rfl (fun z => z) i pins s3 σ3 H3 X.xe I3 (stat fr3) st3 stop) fun r s4 ⟨hr, I4⟩ => ?_)
    subst hr
    exact wpAny_execs_nil ⟨σ3, H3, I4, qn⟩
  · refine wpAny_passesOwn hp (thn (T.item X rfl rfl rfl (fun z => z) i pins s3 σ3 H3 X.xe I3 (stat fr3) st3 go) fun r s4 ⟨u, hr, h4⟩ => ?_)
    subst hr
    refine wpAny_passesOwn hp (thn h4 fun _ s5 ⟨x, H5, I5, r5, y5, st5, fr5⟩ => ?_)
    have I5' := I5.pinned (stat fr5) (T.obj _ _ st5)
    refine wpAny_passesOwn hp (thn (hg _ s5 σ3 H5 x u _ I5' r5 (step x H5 y5)) fun _ s6 ⟨σ6, H6, I6, q6⟩ => ?_)
    refine wpAny_passesOwn hp (thn (hb _ s6 σ6 H6 _ I6 q6) fun f s7 q7 => ?_)
    have again : ∀ {σ7 : St} {H7 : Hp}, Inv X (pins ++ sL fp s5.heap) σ7 H7 s7 → N σ7 H7 → ∃ m, m < n ∧ ∃ i σ' H', Inv X pins σ' H' s7 ∧ tn i s7.heap ∧ (∀ b ∈ fp, H' b = none) ∧ W i m σ' H' := fun {σ7 H7} I7 n7 => by
      obtain ⟨m', hm, w7⟩ := hN σ7 H7 n7
      refine ⟨m', hm, i + 1, σ7, H7, I7.lA, T.keep _ _ _ st5 fun b hb o e => (I7.pin (b, o) (List.mem_append_right _ (List.mem_append_right _ (eI hb e)))).1, fun b hb => ?_, w7⟩
      obtain ⟨o, e, d⟩ := T.obj _ _ st5 b hb
      exact (I7.pin (b, o) (List.mem_append_right _ (List.mem_append_right _ (eI hb e)))).2.1
    cases f with
    | next => obtain ⟨σ7, H7, I7, n7⟩ := q7; exact again I7 n7
    | cont => obtain ⟨σ7, H7, I7, n7⟩ := q7; exact again I7 n7
    | brk => obtain ⟨σ7, H7, I7, q7⟩ := q7; exact ⟨σ7, H7, I7.lA, q7⟩
    | ret v => obtain ⟨x7, σ7, H7, I7, r7, q7⟩ := q7; exact ⟨x7, σ7, H7, I7.lA, r7, q7⟩
end
end L2
namespace L2
open PySem PySem.Spec PyProof.Rows
abbrev R2 := V → V → Hp → VK → Prop
def OpR (X : Cx) (f : Value → Value → Sem Value) (r : R2) : Prop :=
  ∀ (pins : List (Addr × Obj)) (s : Shared) (σ : St) (H : Hp) (x y : V) (v u : Value) (Q : VK), Inv X pins σ H s → RelV x v → RelV y u → r x y H Q →
    wpAny (model X.prog X.w) X.A (f v u) (EP X pins σ Q) X.xe s
def UnR (X : Cx) (f : Value → Sem Value) (r : V → Hp → VK → Prop) : Prop :=
  ∀ (pins : List (Addr × Obj)) (s : Shared) (σ : St) (H : Hp) (x : V) (v : Value) (Q : VK), Inv X pins σ H s → RelV x v → r x H Q →
    wpAny (model X.prog X.w) X.A (f v) (EP X pins σ Q) X.xe s
def i4 (X : Cx) (f : Value) (r : List V → Hp → VK → Prop) : Prop :=
  ∀ (pins : List (Addr × Obj)) (s : Shared) (σ : St) (H : Hp) (xs : List V) (us : List Value) (Q : VK), Inv X pins σ H s → Vals xs us → r xs H Q →
    wpAny (model X.prog X.w) X.A (call f us) (EP X pins σ Q) X.xe s
def tOp (r : R2) (ta tb : TE) : TE := fun σ H Q => ta σ H fun x H1 => tb σ H1 fun y H2 => r x y H2 Q
def tUn (r : V → Hp → VK → Prop) (ta : TE) : TE := fun σ H Q => ta σ H fun x H1 => r x H1 Q
def rI (C : Int → Int → Prop) (g : Int → Int → V) : R2 := fun x y H Q => ∃ i j, x = .int i ∧ y = .int j ∧ C i j ∧ Q (g i j) H
def rI0 (g : Int → Int → V) : R2 := fun x y H Q => ∃ i j, x = .int i ∧ y = .int j ∧ Q (g i j) H
def rU (g : Int → V) : V → Hp → VK → Prop := fun x H Q => ∃ i, x = .int i ∧ Q (g i) H
section
variable {X : Cx} {a b c : Expr} {ta tb tc : TE} {pos : Pos}
theorem Pe (ha : PE X a ta) (hb : PE X b tb) {pins : List (Addr × Obj)} {s : Shared} {σ : St} {H : Hp} {R : V → V → Hp → Prop} (I : Inv X pins σ H s)
    (h : ta σ H fun x H1 => tb σ H1 fun y H2 => R x y H2) {Q : Value → Shared → Prop} {f : Value → Value → Sem Value}
    (hf : ∀ v u s2 x y H2, Inv X pins σ H2 s2 → RelV x v → RelV y u → R x y H2 → wpAny (model X.prog X.w) X.A (f v u) Q X.xe s2) :
    wpAny (model X.prog X.w) X.A (eval a X.env) (fun v s₁ => wpAny (model X.prog X.w) X.A (eval b X.env) (fun u s₂ => wpAny (model X.prog X.w) X.A (f v u) Q X.xe s₂) X.xe s₁) X.xe s := by
  refine thn (ha pins s σ H _ I h) fun v s1 ⟨x, H1, I1, r1, q1⟩ => ?_
  refine thn (hb pins s1 σ H1 _ I1 q1) fun u s2 ⟨y, H2, I2, r2, q2⟩ => ?_
  exact hf v u s2 x y H2 I2 r1 r2 q2
theorem Qt {op : Operator} {r : R2} (ho : OpR X (binaryOp op) r) (ha : PE X a ta) (hb : PE X b tb) : PE X (.BinOp a op b pos) (tOp r ta tb) := by
  intro pins s σ H Q I h
  exact wpAny_BinOp (Pe ha hb I h fun v u s2 x y H2 I2 rx ry q => ho pins s2 σ H2 x y v u Q I2 rx ry q)
theorem Qw {op : UnaryOp} {r : V → Hp → VK → Prop} (ho : UnR X (unaryOp op) r) (ha : PE X a ta) : PE X (.UnaryOp op a pos) (tUn r ta) := by
  intro pins s σ H Q I h
  exact UnaryOp_ (thn (ha pins s σ H _ I h) fun v s1 ⟨x, H1, I1, r1, q1⟩ => ho pins s1 σ H1 x v Q I1 r1 q1)
theorem opI {f : Value → Value → Sem Value} {C : Int → Int → Prop} {g : Int → Int → Int}
    (rule : ∀ (i j : Int) (t u : Tok) (s : Shared) (Q : Value → Shared → Prop) (E : Value → Shared → Prop), C i j → Q (.int (g i j) s.toks) { s with toks := s.toks + 1 } → wpAny (model X.prog X.w) X.A (f (.int i t) (.int j u)) Q E s) :
    OpR X f (rI C fun i j => .int (g i j)) := by
  intro pins s σ H x y v u Q I rx ry h
  obtain ⟨i, j, rfl, rfl, hc, q⟩ := h
  obtain ⟨t, rfl⟩ := rx
  obtain ⟨t', rfl⟩ := ry
  exact rule i j t t' s _ _ hc ⟨.int (g i j), H, I.tok _, ⟨_, rfl⟩, q⟩
theorem Rc {f : Value → Value → Sem Value} {g : Int → Int → Int}
    (rule : ∀ (i j : Int) (t u : Tok) (s : Shared) (Q : Value → Shared → Prop) (E : Value → Shared → Prop), Q (.int (g i j) s.toks) { s with toks := s.toks + 1 } → wpAny (model X.prog X.w) X.A (f (.int i t) (.int j u)) Q E s) :
    OpR X f (rI0 fun i j => .int (g i j)) := by
  intro pins s σ H x y v u Q I rx ry h
  obtain ⟨i, j, rfl, rfl, q⟩ := h
  obtain ⟨t, rfl⟩ := rx
  obtain ⟨t', rfl⟩ := ry
  exact rule i j t t' s _ _ ⟨.int (g i j), H, I.tok _, ⟨_, rfl⟩, q⟩
theorem Mf {f : Value → Value → Sem Value} {g : Int → Int → Bool}
    (rule : ∀ (i j : Int) (t u : Tok) (s : Shared) (Q : Value → Shared → Prop) (E : Value → Shared → Prop), Q (.bool (g i j)) s → wpAny (model X.prog X.w) X.A (f (.int i t) (.int j u)) Q E s) :
    OpR X f (rI0 fun i j => .bl (g i j)) := by
  intro pins s σ H x y v u Q I rx ry h
  obtain ⟨i, j, rfl, rfl, q⟩ := h
  obtain ⟨t, rfl⟩ := rx
  obtain ⟨t', rfl⟩ := ry
  exact rule i j t t' s _ _ ⟨.bl (g i j), H, I, rfl, q⟩
def OE (i j : Int) : Prop := 0 ≤ j ∧ j ≤ 1000000 ∧ i.natAbs < 2 ^ 64
def MI (i j : Int) : Prop := (-(2 ^ 64) < i ∧ i < 2 ^ 64) ∨ (-(2 ^ 64) < j ∧ j < 2 ^ 64)
theorem MI.ok {i j : Int} (h : MI i j) : IntMulOk i j := by
  rcases h with ⟨h1, h2⟩ | ⟨h1, h2⟩
  · exact .of_left (intBits_le_64 h1 h2)
  · exact .of_right (intBits_le_64 h1 h2)
theorem KY : OpR X (binaryOp .Add) (rI0 fun i j => .int (i + j)) := Rc fun _ _ _ _ _ _ _ q => add_int q
theorem Ph : OpR X (binaryOp .Sub) (rI0 fun i j => .int (i - j)) := Rc fun _ _ _ _ _ _ _ q => sub_int q
theorem LW : OpR X (binaryOp .Mod) (rI (fun _ j => j ≠ 0) fun i j => .int (i.fmod j)) := opI fun _ _ _ _ _ _ _ hc q => mod_int' hc q
theorem Oz : OpR X (binaryOp .Pow) (rI OE fun i j => .int (i ^ j.toNat)) := opI fun _ _ _ _ _ _ _ hc q => pow_int_small hc.1 hc.2.1 hc.2.2 q
theorem unI {f : Value → Sem Value} {g : Int → Int}
    (rule : ∀ (i : Int) (t : Tok) (s : Shared) (Q : Value → Shared → Prop) (E : Value → Shared → Prop), Q (.int (g i) s.toks) { s with toks := s.toks + 1 } → wpAny (model X.prog X.w) X.A (f (.int i t)) Q E s) :
    UnR X f (rU fun i => .int (g i)) := by
  intro pins s σ H x v Q I rx h
  obtain ⟨i, rfl, q⟩ := h
  obtain ⟨t, rfl⟩ := rx
  exact rule i t s _ _ ⟨.int (g i), H, I.tok _, ⟨_, rfl⟩, q⟩
theorem Oj : UnR X (unaryOp .USub) (rU fun i => .int (-i)) := unI fun _ _ _ _ _ q => neg_int q
end
section
variable {X : Cx} {a b c : Expr} {ta tb tc : TE} {pos : Pos}
theorem w9 : OpR X (compareOp .Lt) (rI0 fun i j => .bl (decide (i < j))) := Mf fun _ _ _ _ _ _ _ q => lt_int q
theorem Nt : OpR X (compareOp .LtE) (rI0 fun i j => .bl (decide (i ≤ j))) := Mf fun _ _ _ _ _ _ _ q => le_int q
theorem ny : OpR X (compareOp .Gt) (rI0 fun i j => .bl (decide (j < i))) := Mf fun _ _ _ _ _ _ _ q => gt_int q
theorem Ay : OpR X (compareOp .GtE) (rI0 fun i j => .bl (decide (j ≤ i))) := Mf fun _ _ _ _ _ _ _ q => ge_int q
theorem OpR.or {f : Value → Value → Sem Value} {r r' : R2} (h : OpR X f r) (h' : OpR X f r') : OpR X f (fun x y H Q => r x y H Q ∨ r' x y H Q) := by
  intro pins s σ H x y v u Q I rx ry q
  rcases q with q | q
  · exact h pins s σ H x y v u Q I rx ry q
  · exact h' pins s σ H x y v u Q I rx ry q
theorem aR (b : Expr) {op : CmpOp} (h : op ≠ .In := by decide) (h2 : op ≠ .NotIn := by decide) : behindInMarks op b = false := by
  have e1 : (op == CmpOp.In) = false := by cases op <;> first | rfl | exact absurd rfl h
  have e2 : (op == CmpOp.NotIn) = false := by cases op <;> first | rfl | exact absurd rfl h2
  cases b <;> simp [behindInMarks, e1, e2]
theorem GH {op : CmpOp} {r : R2} (ho : OpR X (compareOp op) r) (ha : PE X a ta) (hb : PE X b tb) (hm : behindInMarks op b = false) : PE X (.Compare a [op] [b] pos) (tOp r ta tb) := by
  intro pins s σ H Q I h
  exact wpAny_Compare1 (Pe ha hb I h fun v u s2 x y H2 I2 rx ry q => ho pins s2 σ H2 x y v u Q I2 rx ry q) hm
def NP (t : TE) : TT := fun σ H Q => t σ H fun x H' => ∃ k, x = .bl k ∧ Q k H'
theorem LY {op : CmpOp} {r : R2} (ho : OpR X (compareOp op) r) (ha : PE X a ta) (hb : PE X b tb) (hm : behindInMarks op b = false) : PT X (.Compare a [op] [b] pos) (NP (tOp r ta tb)) := by
  intro pins s σ H Q I h
  refine wpAny_isTrue_Compare1 (thn (ha pins s σ H _ I h) fun v s1 ⟨x, H1, I1, r1, q1⟩ => thn (hb pins s1 σ H1 _ I1 q1) fun u s2 ⟨y, H2, I2, r2, q2⟩ =>
    thn (ho pins s2 σ H2 x y v u _ I2 r1 r2 q2) fun c s3 ⟨z, H3, I3, r3, k, e, q3⟩ => ?_) hm
  subst e
  cases r3
  exact wpAny_truthy_bool ⟨H3, I3, q3⟩
theorem yY : (sizeLine : Nat) < 2 ^ 63 := by rw [sizeLine_eq]; decide
theorem vals1 {x : V} {us : List Value} (r : Vals [x] us) : ∃ u, us = [u] ∧ RelV x u := by
  cases r with
  | cons r1 r2 => cases r2; exact ⟨_, rfl, r1⟩
theorem vals2 {x y : V} {us : List Value} (r : Vals [x, y] us) : ∃ u w', us = [u, w'] ∧ RelV x u ∧ RelV y w' := by
  cases r with
  | cons r1 r2 =>
    cases r2 with
    | cons r3 r4 => cases r4; exact ⟨_, _, rfl, r1, r3⟩
theorem Js : i4 X (.builtin "abs") (fun xs H Q => ∃ i, xs = [.int i] ∧ Q (.int (if i < 0 then -i else i)) H) := by
  intro pins s σ H xs us Q I r h
  obtain ⟨i, rfl, q⟩ := h
  obtain ⟨u, rfl, t, rfl⟩ := vals1 r
  exact call_abs_int fun u tk => ⟨.int (if i < 0 then -i else i), H, I.tok _, ⟨_, rfl⟩, q⟩
theorem Ja (hc : X.calm = true) : i4 X (.builtin "max") (fun xs H Q => ∃ i j, xs = [.int i, .int j] ∧ Q (.int (if j > i then j else i)) H) := by
  intro pins s σ H xs us Q I r h
  obtain ⟨i, j, rfl, q⟩ := h
  obtain ⟨u, w', rfl, ⟨t, rfl⟩, ⟨t', rfl⟩⟩ := vals2 r
  refine max_two_ints (I.ok.hd hc) fun h' tk k => ⟨_, H, I.kept k, ?_, q⟩
  by_cases hj : j > i
  · rw [if_pos hj, if_pos hj]; exact ⟨_, rfl⟩
  · rw [if_neg hj, if_neg hj]; exact ⟨_, rfl⟩
theorem IP (hc : X.calm = true) : i4 X (.builtin "min") (fun xs H Q => ∃ i j, xs = [.int i, .int j] ∧ Q (.int (if j < i then j else i)) H) := by
  intro pins s σ H xs us Q I r h
  obtain ⟨i, j, rfl, q⟩ := h
  obtain ⟨u, w', rfl, ⟨t, rfl⟩, ⟨t', rfl⟩⟩ := vals2 r
  refine min_two_ints (I.ok.hd hc) fun h' tk k => ⟨_, H, I.kept k, ?_, q⟩
  by_cases hj : j < i
  · rw [if_pos hj, if_pos hj]; exact ⟨_, rfl⟩
  · rw [if_neg hj, if_neg hj]; exact ⟨_, rfl⟩
theorem Ik : i4 X (.type "int") (fun xs H Q => (∃ i, xs = [.int i] ∧ Q (.int i) H) ∨ ∃ k, xs = [.bl k] ∧ Q (.int (if k then 1 else 0)) H) := by
  intro pins s σ H xs us Q I r h
  rcases h with ⟨i, rfl, q⟩ | ⟨k, rfl, q⟩
  · obtain ⟨u, rfl, t, rfl⟩ := vals1 r
    exact call_int_int ⟨.int i, H, I, ⟨_, rfl⟩, q⟩
  · obtain ⟨u, rfl, r1⟩ := vals1 r
    cases r1
    exact call_int_bool ⟨.int (if k then 1 else 0), H, I.tok _, ⟨_, rfl⟩, q⟩
end
end L2
namespace L2
open PySem PySem.Spec PyProof.Rows
section
variable {prog : Program} {w : World} {A : Around} {E : Value → Shared → Prop} {s : Shared} {K : PySem.W.Frag} {x dx C f : Addr} {mA : Str → Option Value} {name : Str} {v : Value}
end
section
variable {P : Program} {w : World} {H H' : Hp} {h h' : Heap} {a C dx : Addr} {fs fs' : List (Str × V)}
end
structure Cls (K : PySem.W.Frag) (C : Addr) : Prop where
  pg : PySem.W.plainGet K C Str.empty = true
  hd : PySem.W.hasDictIn K C = true
  po : PySem.W.plainOver K C = true
  sa : PySem.W.findIn K (.ref C) "__setattr__" = some (some (.builtin "object.__setattr__"))
theorem Cls.get {K : PySem.W.Frag} {C : Addr} (c : Cls K C) (f : Str) : PySem.W.plainGet K C f = true := c.pg
section
variable {X : Cx} {pins : List (Addr × Obj)} {σ : St} {H : Hp} {s : Shared} {a C dx : Addr} {fs : List (Str × V)} {f : Str} {v : V} {A : Around} {E : Value → Shared → Prop}
theorem Inv.made (I : Inv X pins σ H s) : Inv X pins σ (upd (upd H s.heap.objs.size (.own (s.heap.objs.size + 1))) (s.heap.objs.size + 1) (.ins C s.heap.objs.size []))
    { s with heap := (s.heap.push PySem.W.emptyDict).push (PySem.W.instObj C s.heap.objs.size) } := by
  have e1 : (s.heap.push PySem.W.emptyDict).get? s.heap.objs.size = some PySem.W.emptyDict := Heap.get?_push_size s.heap rfl
  have e2 : ((s.heap.push PySem.W.emptyDict).push (PySem.W.instObj C s.heap.objs.size)).get? (s.heap.objs.size + 1) = some (PySem.W.instObj C s.heap.objs.size) := by
    have := Heap.get?_push_size (s.heap.push PySem.W.emptyDict) (o := PySem.W.instObj C s.heap.objs.size) rfl
    rwa [Heap.size_push] at this
  have e3 : (s.heap.push PySem.W.emptyDict).Ns s.heap.objs.size (fun _ => none) := ⟨PySem.W.emptyDict, #[], _, e1, rfl, (fun e he => absurd he (by simp)), fun _ => rfl⟩
  have I1 := I.laid (a := s.heap.objs.size) (o := .own (s.heap.objs.size + 1)) (h' := s.heap.push PySem.W.emptyDict) (t' := s.toks) (fun b u q => Heap.get?_push_of_some _ q) (Nat.le_refl _) ⟨_, e1⟩
  refine I1.laid (a := s.heap.objs.size + 1) (o := .ins C s.heap.objs.size []) (t' := s.toks) (fun b u q => Heap.get?_push_of_some _ q) (Nat.le_of_eq (Heap.size_push _ _)) ?_
  have ne : s.heap.objs.size ≠ s.heap.objs.size + 1 := Nat.ne_of_lt (Nat.lt_succ_self _)
  refine ⟨by rw [bD ne, cP], Nat.zero_le _, ne, e2, fun _ => none, (Heap.Ns1.of_empty e3).at fun o q => Heap.get?_push_of_some _ q, fun _ => True.intro, fun y hy => absurd rfl hy⟩
end
section
variable {X : Cx} {o e value : Expr} {f : Str} {pos pos' tpos : Pos} {ta tv : TE}
end
section
variable {X : Cx} {pins : List (Addr × Obj)} {σ : St} {H : Hp} {s : Shared} {A : Around} {E : Value → Shared → Prop} {Q : Value → Shared → Prop} {c : Value} {b : Bool}
end
end L2
namespace L2
open PySem PySem.Spec PyProof.Rows
structure fi (k : Nat) (A : Around) : Prop where
  hd : A.handled = none
  dp : A.depth + 3 * k + 5 < recursionLimit
  un : A.units + 16 * k + 200 < cLine
theorem fi.mono {j k : Nat} {A : Around} (r : fi k A) (h : j ≤ k) : fi j A := ⟨r.hd, by have := r.dp; omega, by have := r.un; omega⟩
theorem fi.deeper {k : Nat} {A : Around} (r : fi (k + 1) A) (env : Env) : fi k (A.deeper env) :=
  ⟨r.hd, by have := r.dp; show A.depth + 1 + 3 * k + 5 < _; omega, by have := r.un; show A.units + 3 + 16 * k + 200 < _; omega⟩
theorem fi.depth {k : Nat} {A : Around} (r : fi k A) : A.depth < recursionLimit := by have := r.dp; omega
theorem fi.units {k : Nat} {A : Around} (r : fi k A) : A.units + 64 < cLine := by have := r.un; omega
def Pb : TA := fun _ H Q => Q [] H
def KQ (ta : TE) (tr : TA) : TA := fun σ H Q => ta σ H fun x H1 => tr σ H1 fun xs H2 => Q (x :: xs) H2
section
variable {X : Cx} {e : Expr} {es : List Expr} {te : TE} {t : TA} {pos : Pos}
theorem nX : PA X [] Pb := fun _ _ _ _ H Q I h => Calls.spliced_nil ⟨[], H, I, .nil, h⟩
theorem gF (ha : PE X e te) (hr : PA X es t) (hs : starEach (e :: es) X.env = (false, eval e X.env) :: starEach es X.env := by rfl) : PA X (e :: es) (KQ te t) := by
  intro pos pins s σ H Q I h
  rw [hs]
  show wpAny _ _ (spliced ((false, eval e X.env) :: backTo pos (starEach es X.env))) _ _ s
  refine Calls.spliced_cons (thn (ha pins s σ H _ I h) fun u s1 ⟨x, H1, I1, r1, q1⟩ => ?_)
  exact thn (hr pos pins s1 σ H1 _ I1 q1) fun us s2 ⟨xs, H2, I2, r2, q2⟩ => ⟨x :: xs, H2, I2, .cons r1 r2, q2⟩
def Rt (t : TA) : TE := fun σ H Q => t σ H fun xs H1 => xs.length ≤ sizeLine ∧ ∀ p, H1 p = none → Q (.ref p) (upd H1 p (.tup xs))
def RR (t : TA) : TE := fun σ H Q => t σ H fun xs H1 => xs.length ≤ sizeLine ∧ ∀ p, H1 p = none → Q (.ref p) (upd H1 p (.lst xs))
theorem Lj {x1} (h : PA X es t) : PE X (.Tuple es x1 pos) (Rt t) := by
  intro pins s σ H Q I hq
  refine wpAny_Tuple_spliced (thn (h pos pins s σ H _ I hq) fun us s1 ⟨xs, H1, I1, r, z, q⟩ => ⟨by rw [← r.length]; exact z, ?_⟩)
  have hf : H1 s1.heap.objs.size = none := I1.hok.fresh (Nat.le_refl _)
  refine ⟨.ref s1.heap.objs.size, upd H1 s1.heap.objs.size (.tup xs), I1.laid (t' := s1.toks) (fun b u e => Heap.get?_push_of_some _ e) (Nat.le_refl _) ?_, rfl, q _ hf⟩
  exact ⟨z, us, r, ⟨_, Heap.get?_push_size _ rfl, rfl, _, rfl⟩⟩
theorem Ju (h : PA X es t) : PE X (.List es pos) (RR t) := by
  intro pins s σ H Q I hq
  refine wpAny_List_spliced (thn (h pos pins s σ H _ I hq) fun us s1 ⟨xs, H1, I1, r, z, q⟩ => ⟨by rw [← r.length]; exact z, ?_⟩)
  have hf : H1 s1.heap.objs.size = none := I1.hok.fresh (Nat.le_refl _)
  refine ⟨.ref s1.heap.objs.size, upd H1 s1.heap.objs.size (.lst xs), I1.laid (t' := s1.toks) (fun b u e => Heap.get?_push_of_some _ e) (Nat.le_refl _) ?_, rfl, q _ hf⟩
  exact ⟨z, us, 0, r, Heap.get?_push_size _ rfl⟩
end
abbrev Sp := List V → Hp → VK → XK → Prop
abbrev CXT := List Env → Hp → Shared → XK → Value → Shared → Prop
structure zP (P : Program) (w : World) (K : PySem.W.Frag) (mg : Str → Option Value) (base : Heap) (A : Around) (outer : List Env) (s : Shared) (H : Hp) : Prop where
  frames : A.frames = some outer
  mod : Mod K mg base
  bs : ∀ b o, base.get? b = some o → s.heap.get? b = some o ∧ H b = none
  bsz : base.objs.size ≤ s.heap.objs.size
  tV : s.heap.FunFrames base outer
  frf : ∀ b ∈ frs outer, H b = none
  hok : HOk P w H s.heap
  bare : AllBare s.gens
def CE (outer : List Env) (P : Program) (w : World) (H : Hp) (s : Shared) (Q : VK) (u : Value) (s' : Shared) : Prop :=
  ∃ v H', s'.os = s.os ∧ AllBare s'.gens ∧ Un (frs outer) [] H H' s.heap s'.heap ∧ HOk P w H' s'.heap ∧ RelV v u ∧ Q v H'
def CR (CX : CXT) (outer : List Env) (P : Program) (w : World) (H : Hp) (s : Shared) (Q : VK) (E : XK) (r : Result) (s' : Shared) : Prop :=
  match r with
  | .ok (.ret u) => CE outer P w H s Q u s'
  | .ok _ => False
  | .error e => CX outer H s E e s'
structure bG (P : Program) (w : World) (K : PySem.W.Frag) (mg : Str → Option Value) (base : Heap) (CX : CXT) (k : Nat) (f : Addr) (fd : FuncData) (ps : List Str) (sp : Sp) : Prop where
  len : ∀ vs H Q E, sp vs H Q E → vs.length = ps.length
  run : ∀ (A : Around) (outer : List Env) (s : Shared) (H : Hp) (args : Args) (us : List Value) (vs : List V) (Q : VK) (E : XK), fi k A → zP P w K mg base A outer s H → BindsTo s fd args (ps.zip us) → Vals vs us → sp vs H Q E →
    codeAny (model P w) A (.call (.ref f) args) (CR CX outer P w H s Q E) s
theorem bG.mono {P : Program} {w : World} {K : PySem.W.Frag} {mg : Str → Option Value} {base : Heap} {CX : CXT} {j k : Nat} {f : Addr} {fd : FuncData} {ps : List Str} {sp : Sp} (F : bG P w K mg base CX j f fd ps sp) (h : j ≤ k) :
    bG P w K mg base CX k f fd ps sp := ⟨F.len, fun A outer s H args us vs Q E hr => F.run A outer s H args us vs Q E (hr.mono h)⟩
section
variable {X : Cx} {pins : List (Addr × Obj)} {σ : St} {H : Hp} {s s' : Shared}
theorem Inv.Lw (I : Inv X pins σ H s) : zP X.prog X.w X.K X.mg X.base X.A X.stack s H :=
  ⟨I.ok.frames, I.ok.mod, I.bs, Nat.le_trans I.ok.bsz I.sz, I.stack, I.uo, I.hok, I.bare⟩
theorem Inv.after {Q : VK} {u : Value} (I : Inv X pins σ H s) (h : CE X.stack X.prog X.w H s Q u s') : EP X pins σ Q u s' := by
  obtain ⟨v, H', os, bare, un, hok, r, q⟩ := h
  obtain ⟨hh, g, d, t, os'⟩ := s'
  obtain rfl : os' = s.os := os
  exact ⟨v, H', I.call (h' := hh) (g' := g) (d' := d) (t' := t) (ch := []) un hok bare (fun b z => absurd z (by simp)), r, q⟩
end
def Q8 (sp : Sp) (dvs : List V) (E : XK) (t : TA) : TE := fun σ H Q => t σ H fun vs H1 => sp (vs ++ dvs) H1 Q E
def Binds (K : PySem.W.Frag) (fd : FuncData) (ps : List Str) (ds : List Value) : Prop :=
  ∀ (s : Shared) (us : List Value), K.In s.heap → (us ++ ds).length = ps.length → BindsTo s fd ⟨us, []⟩ (ps.zip (us ++ ds))
theorem Binds.all {K : PySem.W.Frag} {fd : FuncData} {ps : List Str} (h : ∀ us : List Value, us.length = ps.length → bindArgs fd ⟨us, []⟩ = pure (ps.zip us)) : Binds K fd ps [] := fun s us _ hl => by
  rw [List.append_nil] at hl ⊢
  exact .of_eq (h us hl)
def Passes (CX : CXT) (X : Cx) (E : XK) : Prop := ∀ (pins : List (Addr × Obj)) (σ : St) (H : Hp) (s : Shared) (e : Value) (s' : Shared), Inv X pins σ H s → CX X.stack H s E e s' → X.xe e s'
section
variable {X : Cx} {CX : CXT} {k : Nat} {f C : Addr} {fd : FuncData} {ps : List Str} {sp : Sp} {dvs : List V} {ds : List Value} {E : XK} {x m : Str} {p pos apos : Pos} {e o : Expr} {es : List Expr} {ta : TE} {t : TA}
theorem PN {pins : List (Addr × Obj)} {σ : St} {H : Hp} {s : Shared} {Q : VK} {us : List Value} {vs : List V} (F : bG X.prog X.w X.K X.mg X.base CX k f fd ps sp) (hr : fi k X.A) (hb : Binds X.K fd ps ds) (hd : Vals dvs ds) (hx : Passes CX X E)
    (I : Inv X pins σ H s) (r : Vals vs us) (h : sp (vs ++ dvs) H Q E) : wpAny (model X.prog X.w) X.A (call (.ref f) us) (EP X pins σ Q) X.xe s := by
  have r2 : Vals (vs ++ dvs) (us ++ ds) := r.append hd
  have hl : (us ++ ds).length = ps.length := by rw [← r2.length]; exact F.len _ _ _ _ h
  refine wpAny_call (codeAny_mono (F.run X.A X.stack s H ⟨us, []⟩ (us ++ ds) (vs ++ dvs) Q E hr I.Lw (hb s us I.kIn hl) r2 h) fun r s' hq => ?_)
  cases r with
  | error e => exact hx pins σ H s e s' I hq
  | ok fl =>
    cases fl with
    | ret u => exact I.after hq
    | next => exact False.elim hq
    | brk => exact False.elim hq
    | cont => exact False.elim hq
theorem Gv (F : bG X.prog X.w X.K X.mg X.base CX k f fd ps sp) (hr : fi k X.A) (hg : Gl X x) (hm : X.mg x = some (.ref f)) (hk : PySem.W.keepIn X.K (.ref f) = true) (hb : Binds X.K fd ps ds) (hd : Vals dvs ds) (hx : Passes CX X E)
    (ha : PA X (e :: es) t) (hdb : (x == ("__debug__" : Str)) = false := by decide) (he : starEach (e :: es) X.env = (false, eval e X.env) :: starEach es X.env := by rfl) (hpl : (backTo pos (starEach es X.env)).any (·.1) = false := by rfl) :
    PE X (.Call (.Name x p) (e :: es) [] pos) (Q8 sp dvs E t) := by
  intro pins s σ H Q I h
  refine wpAny_Call_Name_kw (q9 I hg hm ?_ hdb)
  refine PySem.W.callWith_K (h₀ := X.base) I.ok.mod.kin hk (thn (ha pos pins s σ H _ I h) fun us s1 ⟨vs, H1, I1, r, q⟩ => ⟨I1.kIn, ?_⟩) he hpl
  exact PN F hr hb hd hx I1 r q
end
section
variable {X : Cx} {CX : CXT} {k : Nat} {f C : Addr} {fd : FuncData} {ps ks : List Str} {sp : Sp} {E : XK} {x m : Str} {p pos apos kpos : Pos} {e o : Expr} {es : List Expr} {kws : List Keyword} {te ta : TE} {t tk : TA} {nm : Option Str}
variable {g : List Value → List Value → List Value} {gV : List V → List V → List V}
end
structure aD (N P : List Str) (sc : Scope) : Prop where
  kind : sc.kind = .function
  co : sc.isCoroutine = false
  gen : sc.isGenerator = false
  nd : N.Nodup
  pre : N.take P.length = P
  par : ∀ x ∈ P, sc.names.lookup x = some .local ∨ sc.names.lookup x = some .cell
  O7 : ∀ y ∈ sc.names, y.2 ≠ .free
theorem Ao {kindOf : Str → Option NameKind} {x : Str} : ∀ {binds : List (Str × Value)} {m : Str → Option Value}, (∀ v, (x, v) ∉ binds) → bindL kindOf binds m x = m x
  | [], _, _ => rfl
  | (n, v) :: r, m, h => by
    unfold bindL
    rw [Ao fun w hw => h w (List.mem_cons_of_mem _ hw)]
    split
    · have : x ≠ n := by rintro rfl; exact h v List.mem_cons_self
      simp [this]
    · rfl
theorem Av {kindOf : Str → Option NameKind} {x : Str} : ∀ {binds : List (Str × Value)} {m : Str → Option Value}, (∀ v, (x, v) ∉ binds) → bindC kindOf binds m x = m x
  | [], _, _ => rfl
  | (n, v) :: r, m, h => by
    unfold bindC
    rw [Av fun w hw => h w (List.mem_cons_of_mem _ hw)]
    split
    · rfl
    · have : x ≠ n := by rintro rfl; exact h v List.mem_cons_self
      simp [this]
theorem Ap {kindOf : Str → Option NameKind} {x : Str} {v : Value} : ∀ {P : List Str} {vs : List Value} {i : Nat} {m : Str → Option Value}, P.Nodup → P[i]? = some x → vs[i]? = some v → kindOf x = some .local →
    bindL kindOf (P.zip vs) m x = some v
  | [], _, _, _, _, h, _, _ => by simp at h
  | _ :: _, [], _, _, _, _, h, _ => by simp at h
  | p :: P, w :: vs, 0, m, nd, h1, h2, hk => by
    simp at h1 h2; subst h1; subst h2
    show bindL kindOf ((p, w) :: P.zip vs) m p = _
    unfold bindL
    rw [Ao fun v hv => (List.nodup_cons.mp nd).1 (List.of_mem_zip hv).1, if_pos hk]
    simp
  | p :: P, w :: vs, i + 1, m, nd, h1, h2, hk => by
    show bindL kindOf ((p, w) :: P.zip vs) m x = _
    unfold bindL
    exact Ap (i := i) (List.nodup_cons.mp nd).2 (by simpa using h1) (by simpa using h2) hk
theorem AA {kindOf : Str → Option NameKind} {x : Str} {v : Value} : ∀ {P : List Str} {vs : List Value} {i : Nat} {m : Str → Option Value}, P.Nodup → P[i]? = some x → vs[i]? = some v → kindOf x ≠ some .local →
    bindC kindOf (P.zip vs) m x = some v
  | [], _, _, _, _, h, _, _ => by simp at h
  | _ :: _, [], _, _, _, _, h, _ => by simp at h
  | p :: P, w :: vs, 0, m, nd, h1, h2, hk => by
    simp at h1 h2; subst h1; subst h2
    show bindC kindOf ((p, w) :: P.zip vs) m p = _
    unfold bindC
    rw [Av fun v hv => (List.nodup_cons.mp nd).1 (List.of_mem_zip hv).1, if_neg hk]
    simp
  | p :: P, w :: vs, i + 1, m, nd, h1, h2, hk => by
    show bindC kindOf ((p, w) :: P.zip vs) m x = _
    unfold bindC
    exact AA (i := i) (List.nodup_cons.mp nd).2 (by simpa using h1) (by simpa using h2) hk
def start (N : List Str) (vs : List V) : St := vs.map some ++ List.replicate (N.length - vs.length) none
def lS (CX : CXT) (P : Program) (w : World) (K : PySem.W.Frag) (mg : Str → Option Value) (base : Heap) (N : List Str) (qual : Str) (scope : Scope) (f : Addr) (cd : Value) (A : Around) (outer : List Env) (s : Shared) (H : Hp) (E : XK) : Cx where
  prog := P
  w := w
  K := K
  mg := mg
  base := base
  A := A.deeper (envOfC qual scope s.heap.objs.size f cd)
  N := N
  s₀ := s
  H₀ := H
  env := envOfC qual scope s.heap.objs.size f cd
  outer := outer
  stack := envOfC qual scope s.heap.objs.size f cd :: outer
  ex := []
  calm := true
  fn := fun _ => true
  pn := []
  xe := fun e s' => wpAny (model P w) (A.deeper (envOfC qual scope s.heap.objs.size f cd)) (leaving (envOfC qual scope s.heap.objs.size f cd) e) (fun _ s'' => CX outer H s E e s'') (fun e' s'' => CX outer H s E e' s'') s'
theorem Eu {sc : Scope} {n : Nat} {x : Str} (h : sc.names.lookup x = some .cell) : ∃ c, (cellsFrom n sc.names []).lookup x = some c := by
  have q := PySem.W.cellsFrom_some sc.names n [] (.inl h)
  exact Option.isSome_iff_exists.mp q
theorem Ak {CX : CXT} {P : Program} {w : World} {K : PySem.W.Frag} {mg : Str → Option Value} {base : Heap} {N ps : List Str} {qual : Str} {scope : Scope} {f : Addr} {cd : Value} {A : Around} {outer : List Env} {s s1 : Shared} {H : Hp} {E : XK} {us : List Value} {vs : List V}
    (S : aD N ps scope) (hd : A.handled = none) (e0 : zP P w K mg base A outer s H) (hl : vs.length = ps.length) (r : Vals vs us)
    (x : InCallC s s.heap.objs.size (bindL (envOfC qual scope s.heap.objs.size f cd).kindOf (ps.zip us) fun _ => none) (cellsFrom (s.heap.objs.size + 1) scope.names []) (bindC (envOfC qual scope s.heap.objs.size f cd).kindOf (ps.zip us) fun _ => none) s1) :
    Inv (lS CX P w K mg base N qual scope f cd A outer s H E) [] (start N vs) H s1 := by
  have hpl : ps.length ≤ N.length := by have := congrArg List.length S.pre; rw [List.length_take] at this; omega
  obtain ⟨h1, tk, rfl, hk⟩ := x.done
  have noA : ∀ b : Addr, b ∉ (lS CX P w K mg base N qual scope f cd A outer s H E).ex := fun b z => absurd (show b ∈ ([] : List Addr) from z) (by simp)
  refine ⟨⟨e0.mod, S.kind, rfl, rfl, Nat.le_refl _, fun y z c h1 h2 => ?_, fun y hy => ?_, fun y c _ h => ?_, fun _ => hd, .inl hd, Around.frames_deeper e0.frames, .inr ⟨rfl, rfl⟩, fun b z => absurd z (noA b), e0.bs, e0.bsz, fun b _ _ => noA b, fun b z => absurd z (noA b), e0.tV, e0.frf⟩,
    rfl, e0.bare, Un.kept hk, ⟨_, x.toInCall.ns, fun i y v h1 h2 h3 => ?_⟩, fun y c h => ⟨_, x.cell y c h⟩, e0.hok.fresh (Nat.le_refl _), fun y c h => ?_, fun p hp => absurd (show p ∈ ([] : List (Addr × Obj)) from hp) (by simp), e0.hok.kept hk, ?_⟩
  · exact name_of_addr x.apart (PySem.mem_of_lookup h1) (PySem.mem_of_lookup h2)
  · have hy : scope.names.lookup y = some .cell ∨ scope.names.lookup y = some .free := hy
    rcases hy with hy | hy
    · exact Eu hy
    · exact absurd rfl (S.O7 _ (PySem.mem_of_lookup hy))
  · exact Nat.le_of_lt (x.above y c (PySem.mem_of_lookup h))
  · have hi : i < vs.length := by
      unfold start at h2
      by_cases hi : i < vs.length
      · exact hi
      · rw [List.getElem?_append_right (by simpa using hi)] at h2
        rw [List.getElem?_replicate] at h2
        split at h2 <;> cases h2
    have ha : vs[i]? = some v := by
      unfold start at h2
      rw [List.getElem?_append_left (by simpa using hi), List.getElem?_map] at h2
      cases e : vs[i]? with
      | none => rw [e] at h2; cases h2
      | some a => rw [e] at h2; cases h2; rfl
    obtain ⟨u, hu, rv⟩ := r.get ha
    have hp : ps[i]? = some y := by
      rw [← S.pre, List.getElem?_take_of_lt (by omega)]; exact h1
    have ndP : ps.Nodup := by rw [← S.pre]; exact S.nd.sublist (List.take_sublist _ _)
    refine ⟨u, rv, ?_⟩
    rcases S.par y (List.mem_of_getElem? hp) with k | k
    · exact .inl ⟨k, Ap ndP hp hu k⟩
    · obtain ⟨c, e⟩ := Eu (n := s.heap.objs.size + 1) k
      refine .inr ⟨.inl k, c, e, ?_⟩
      have q := x.cell y c e
      rw [AA ndP hp hu (by show scope.names.lookup y ≠ _; rw [k]; decide)] at q
      exact q
  · exact e0.hok.fresh (Nat.le_of_lt (x.above y c (PySem.mem_of_lookup h)))
  · unfold start
    show _ = N.length
    rw [List.length_append, List.length_map, List.length_replicate]
    omega
theorem Jg {CX : CXT} {P : Program} {w : World} {K : PySem.W.Frag} {mg : Str → Option Value} {base : Heap} {k : Nat} {f : Addr} {name qual : Str} {params : Arguments} {body : List Stmt} {scope : Scope} {dV kV doc pm cdv ct oc : Value} {an od : Option Addr}
    {osl : Array (Option Value)} {N ps : List Str} {sp : Sp} (lk : K.lookup f = some ⟨oc, od, .func (PySem.W.fnOf name qual params body scope dV kV doc pm an cdv ct), osl⟩) (hcd : PySem.W.codeIn K cdv qual = true) (S : aD N ps scope)
    (len : ∀ vs H Q E, sp vs H Q E → vs.length = ps.length)
    (hbody : ∀ (A : Around) (outer : List Env) (s : Shared) (H : Hp) (vs : List V) (Q : VK) (E : XK), fi k (A.deeper (envOfC qual scope s.heap.objs.size f cdv)) → sp vs H Q E →
      ∃ t, PSs (lS CX P w K mg base N qual scope f cdv A outer s H E) body t ∧ t { nx := fun _ H' => Q .non H', rt := Q } (start N vs) H) :
    bG P w K mg base CX (k + 1) f (PySem.W.fnOf name qual params body scope dV kV doc pm an cdv ct) ps sp := by
  refine ⟨len, fun A outer s H args us vs Q E hr e0 hb r hsp => ?_⟩
  have hl := len _ _ _ _ hsp
  have KX : K.In s.heap := e0.mod.kin.keeps fun b o e => (e0.bs b o e).1
  have lim : s.heap.NoLimit := e0.mod.nolimit.keeps fun b o e => (e0.bs b o e).1
  have hkind : ∀ y ∈ ps.zip us, scope.names.lookup y.1 = some .local ∨ (scope.names.lookup y.1 = some .cell ∧ ((cellsFrom (s.heap.objs.size + 1) scope.names []).lookup y.1).isSome = true) := fun ⟨n, v⟩ hy => by
    rcases S.par n (List.of_mem_zip hy).1 with q | q
    · exact .inl q
    · exact .inr ⟨q, PySem.W.cellsFrom_some _ _ _ (.inl q)⟩
  refine codeAny_call_function hr.depth (KX _ _ lk) rfl S.co S.gen rfl (PySem.W.codeRec_of KX hcd) (hb _ _ _ _ ?_)
  refine wpAny_newFunctionEnv_cells S.kind hkind fun env he s1 x => ?_
  subst he
  refine ⟨lim.keeps x.toInCall.keep, codeAny_func ?_⟩
  obtain ⟨t, ht, hq⟩ := hbody A outer s H vs Q E (hr.deeper _) hsp
  have I : Inv (lS CX P w K mg base N qual scope f cdv A outer s H E) [] (start N vs) H s1 := Ak S hr.hd e0 hl r x
  refine wpAny_mono (ht [] s1 (start N vs) H _ I hq) (fun fl s' hs => ?_) fun e s' hs => hs
  have fin : ∀ {σ' : St} {H' : Hp} {v : V} {u : Value}, Inv (lS CX P w K mg base N qual scope f cdv A outer s H E) [] σ' H' s' → RelV v u → Q v H' → CE outer P w H s Q u s' :=
    fun {σ' H' v u} J rv q => ⟨v, H', J.os, J.bare, J.base, J.hok, rv, q⟩
  cases fl with
  | ret u =>
    obtain ⟨v, σ', H', J, rv, q⟩ := hs
    exact fin J rv q
  | next =>
    obtain ⟨σ', H', J, q⟩ := hs
    exact fin (v := V.non) (u := Value.none) J rfl q
  | brk =>
    obtain ⟨_, _, _, q⟩ := hs
    exact False.elim q
  | cont =>
    obtain ⟨_, _, _, q⟩ := hs
    exact False.elim q
end L2
namespace L2
open PySem PySem.Spec PyProof.Rows
section
variable {X : Cx} {x : Str} {p pos : Pos} {e : Expr} {es : List Expr} {t : TA} {id T : String} {r : List V → Hp → VK → Prop}
def tCB (r : List V → Hp → VK → Prop) (t : TA) : TE := fun σ H Q => t σ H fun vs H1 => r vs H1 Q
theorem uM (hc : i4 X (.builtin id) r) (hg : Gl X x) (hm : X.mg x = none) (hv : bootBuiltins x = some (.builtin id)) (ha : PA X (e :: es) t) (hn : x ≠ "__name__" := by decide) (hdb : (x == ("__debug__" : Str)) = false := by decide)
    (he : starEach (e :: es) X.env = (false, eval e X.env) :: starEach es X.env := by rfl) (hpl : (backTo pos (starEach es X.env)).any (·.1) = false := by rfl) : PE X (.Call (.Name x p) (e :: es) [] pos) (tCB r t) := by
  intro pins s σ H Q I h
  refine wpAny_Call_Name_kw (yK I hg hm hv ?_ hn hdb)
  exact PyProof.Rows.callWith_builtin1 (thn (ha pos pins s σ H _ I h) fun us s1 ⟨vs, H1, I1, r1, q1⟩ => hc pins s1 σ H1 vs us Q I1 r1 q1) he hpl
theorem Ib (hc : i4 X (.type T) r) (hg : Gl X x) (hm : X.mg x = none) (hv : bootBuiltins x = some (.type T)) (ha : PA X (e :: es) t) (hn : x ≠ "__name__" := by decide) (hdb : (x == ("__debug__" : Str)) = false := by decide)
    (he : starEach (e :: es) X.env = (false, eval e X.env) :: starEach es X.env := by rfl) (hpl : (backTo pos (starEach es X.env)).any (·.1) = false := by rfl) : PE X (.Call (.Name x p) (e :: es) [] pos) (tCB r t) := by
  intro pins s σ H Q I h
  refine wpAny_Call_Name_kw (yK I hg hm hv ?_ hn hdb)
  exact PyProof.Rows.callWith_type1 (thn (ha pos pins s σ H _ I h) fun us s1 ⟨vs, H1, I1, r1, q1⟩ => hc pins s1 σ H1 vs us Q I1 r1 q1) he hpl
end
end L2
namespace HT
open PySem PyProof.Rows
section
open PySem.SeqAt
open PySem.AutoSeq1 (wpAny_loadPart')
open PySem.MeetsSeq PySem.MeetsSeq2 PySem.MeetsSeq3
end
section
variable {prog : Program} {w : World} {A : Around} {E : Value → Shared → Prop} {s : Shared}
theorem MH {t b : Addr} {vs ws : List Value} {Q : Value → Shared → Prop} (ht : IsTup s.heap t vs.toArray) (hb : IsTup s.heap b ws.toArray) (hv : vs ≠ [])
    (h1 : ws = [] → Q (.ref t) s) (h2 : ws ≠ [] → Q (.ref s.heap.objs.size) { s with heap := s.heap.push { cls := .type "tuple", data := .seq (vs ++ ws).toArray } })
    (hsz : vs.length + ws.length ≤ sizeLine) : wpAny (model prog w) A (binaryOp .Add (.ref t) (.ref b)) Q E s := by
  obtain ⟨⟨cls, dd, data, sl⟩, ho, hc, n, hd⟩ := id ht
  obtain ⟨⟨cls2, dd2, data2, sl2⟩, ho2, hc2, n2, hd2⟩ := id hb
  simp only at hc hd hc2 hd2
  subst hc hd hc2 hd2
  have e : vs.toArray ++ ws.toArray = (vs ++ ws).toArray := by simp
  by_cases hw : ws = []
  · exact concat_meets ⟨_, ho, rfl⟩ ⟨_, ho2, rfl⟩ noFill_tuple_add seq_tuple_add PySem.F.slot_tuple_add PySem.F.entry_tuple_add (PySem.F.args_tuple_add_2 _ _)
      (tuple_addW1 t b vs.toArray ws.toArray n n2 dd dd2 sl sl2 (by simpa using hv) (by simp [hw])) ⟨ho, ho2, h1 hw⟩
  · refine concat_meets ⟨_, ho, rfl⟩ ⟨_, ho2, rfl⟩ noFill_tuple_add seq_tuple_add PySem.F.slot_tuple_add PySem.F.entry_tuple_add (PySem.F.args_tuple_add_2 _ _)
      (tuple_addW2 t b vs.toArray ws.toArray n n2 dd dd2 sl sl2 (by simpa using hv) (by simpa using hw) (by rw [List.size_toArray, List.size_toArray]; exact hsz)) ⟨ho, ho2, ?_⟩
    rw [e]
    exact h2 hw
def sIx (n d : Nat) : Option Int → Nat
  | none => d
  | some v => if v < 0 then (v + (n : Int)).toNat else min v.toNat n
theorem Pd (n d : Nat) (hd : d ≤ n) (o : Option Int) : sIx n d o ≤ n := by
  cases o with
  | none => exact hd
  | some v =>
    show (if v < 0 then (v + (n : Int)).toNat else min v.toNat n) ≤ n
    by_cases hv : v < 0
    · rw [if_pos hv]; omega
    · rw [if_neg hv]; exact Nat.min_le_right _ _
theorem G0 (v : Int) (n d : Nat) : (if v < 0 then max (v + (n : Int)) 0 else min v (n : Int)) = ((sIx n d (some v) : Nat) : Int) := by
  show (if v < 0 then max (v + (n : Int)) 0 else min v (n : Int)) = (((if v < 0 then (v + (n : Int)).toNat else min v.toNat n) : Nat) : Int)
  by_cases hv : v < 0
  · simp only [if_pos hv]; omega
  · simp only [if_neg hv]; omega
theorem Fz (lo hi : Option Int) (n : Nat) : Builtin.Slice.sliceAdjust lo hi 1 (n : Int) = (((sIx n 0 lo : Nat) : Int), ((sIx n n hi : Nat) : Int)) := by
  have h1 : ¬ ((1 : Int) < 0) := by omega
  unfold Builtin.Slice.sliceAdjust
  simp only [h1, if_false]
  refine Prod.ext ?_ ?_
  · cases lo with
    | none => rfl
    | some v => exact G0 v n 0
  · cases hi with
    | none => rfl
    | some v => exact G0 v n n
theorem FD (i j : Nat) : Builtin.Slice.slicePlaces (i : Int) (j : Int) 1 = j - i := by
  unfold Builtin.Slice.slicePlaces
  have h1 : (1 : Int) > 0 := by omega
  simp only [h1, if_true, Int.ediv_one]
  split <;> omega
theorem yb {v : Value} {o : Option Int} {Q : Option Int → Shared → Prop} (p : IsPart v o) (h : Q o s) : wpAny (model prog w) A (Builtin.Slice.slicePartIndex v) Q E s := by
  cases p with
  | none => exact slicePart_none h
  | int i t => exact slicePart_int h
theorem nP {sl : Addr} {vl vu : Value} {lo hi : Option Int} {n : Nat} {Q : Int × Int × Nat → Shared → Prop} (hs : s.heap.IsSliceOf sl vl vu .none) (pl : IsPart vl lo) (pu : IsPart vu hi)
    (h : Q (((sIx n 0 lo : Nat) : Int), 1, sIx n n hi - sIx n 0 lo) s) : wpAny (model prog w) A (Builtin.Slice.sliceApplied (.ref sl) (pure (n : Int))) Q E s := by
  obtain ⟨os, hos, hcs, hds⟩ := id hs
  unfold Builtin.Slice.sliceApplied Builtin.Slice.sliceFields
  refine wpAny_bind (wpAny_bind (wpAny_field hos hds (x := vl) rfl (wpAny_bind (wpAny_field hos hds (x := vu) rfl (wpAny_bind (wpAny_field hos hds (x := .none) rfl (wpAny_pure ?_)))))))
  refine wpAny_bind (slicePart_none ?_)
  show wpAny _ _ (if ((1 : Int) == 0) = true then _ else _) _ _ s
  rw [if_neg (by decide)]
  refine wpAny_bind (yb pl (wpAny_bind (yb pu (wpAny_bind (wpAny_pure ?_)))))
  show wpAny _ _ (match Builtin.Slice.sliceAdjust lo hi 1 (n : Int) with | (lo, hi) => pure (lo, (1 : Int), Builtin.Slice.slicePlaces lo hi 1)) _ _ s
  rw [Fz lo hi n]
  show wpAny _ _ (pure (((sIx n 0 lo : Nat) : Int), (1 : Int), Builtin.Slice.slicePlaces ((sIx n 0 lo : Nat) : Int) ((sIx n n hi : Nat) : Int) 1)) _ _ s
  rw [FD]
  exact wpAny_pure h
theorem Lo (xs : Array Value) (i k : Nat) : ((List.range k).filterMap fun (m : Nat) => xs[((i : Int) + (m : Int) * 1).toNat]?).toArray = ((xs.toList.drop i).take k).toArray := by
  have e : (fun (m : Nat) => xs[((i : Int) + (m : Int) * 1).toNat]?) = fun m => xs[i + m]? := by
    funext m
    have : ((i : Int) + (m : Int) * 1).toNat = i + m := by omega
    rw [this]
  rw [e]
  have := pick_run xs i k
  rw [List.filterMap_map] at this
  have e2 : ((fun x => xs[x]?) ∘ fun x => i + x) = fun m => xs[i + m]? := rfl
  rw [e2] at this
  rw [this]
theorem uc {t sl : Addr} {items : Array Value} {vl vu : Value} {lo hi : Option Int} {Q : Value → Shared → Prop} (ht : IsTup s.heap t items) (hs : s.heap.IsSliceOf sl vl vu .none) (pl : IsPart vl lo) (pu : IsPart vu hi)
    (hw : ¬ (sIx items.size 0 lo = 0 ∧ sIx items.size items.size hi = items.size))
    (h : Q (.ref s.heap.objs.size) { s with heap := s.heap.push { cls := .type "tuple", data := .seq ((items.toList.drop (sIx items.size 0 lo)).take (sIx items.size items.size hi - sIx items.size 0 lo)).toArray } })
    (hsz : items.size ≤ sizeLine) : wpAny (model prog w) A (getItem (.ref t) (.ref sl)) Q E s := by
  have htake : sizeOk (.seq ((items.toList.drop (sIx items.size 0 lo)).take (sIx items.size items.size hi - sIx items.size 0 lo)).toArray) := by
    show ((items.toList.drop (sIx items.size 0 lo)).take (sIx items.size items.size hi - sIx items.size 0 lo)).toArray.size ≤ sizeLine
    rw [List.size_toArray, List.length_take, List.length_drop, Array.length_toList]
    omega
  have hj : sIx items.size items.size hi ≤ items.size := Pd _ _ (Nat.le_refl _) hi
  obtain ⟨os, hos, hcs, hds⟩ := id hs
  have hTs : s.TypeIs (.ref sl) "slice" := ⟨os, hos, hcs⟩
  unfold getItem
  try with_reducible refine wpAny_holding ?_
  first | refine wpAny_bind (wpAny_pure ?_) | skip
  refine wpAny_bind (wpAny_sequenceKey ht.typeIs (by decide) ?_)
  refine wpAny_bind (wpAny_callSpecial?_slot (name := Str.ofString "__getitem__") ht.typeIs PyProof.Rows.slot_tuple_getitem
    (wpAny_call_entry PyProof.Rows.slot_tuple_getitem ht.typeIs entry_tuple_getitem ?_ (args_tuple_getitem _ _)))
  show wpAny _ _ (Builtin.Tuple.tupleItemsOf (.ref t) >>= _) _ _ s
  refine wpAny_bind (tupleItemsOf_ ht ?_)
  refine wpAny_bind (wpAny_typeOf hTs ?_)
  rw [if_pos (by decide)]
  refine wpAny_bind (nP hs pl pu ?_)
  have hno : ¬ ((((sIx items.size 0 lo : Nat) : Int) == 0 && (1 : Int) == 1 && (sIx items.size items.size hi - sIx items.size 0 lo) == items.size) = true) := by
    intro q
    rw [Bool.and_eq_true, Bool.and_eq_true] at q
    have q1 : ((sIx items.size 0 lo : Nat) : Int) = 0 := eq_of_beq q.1.1
    have q2 : sIx items.size items.size hi - sIx items.size 0 lo = items.size := eq_of_beq q.2
    exact hw ⟨by omega, by omega⟩
  show wpAny _ _ (if (((sIx items.size 0 lo : Nat) : Int) == 0 && (1 : Int) == 1 && (sIx items.size items.size hi - sIx items.size 0 lo) == items.size) = true then _ else _) _ _ s
  rw [if_neg hno, Lo]
  first
    | exact wpAny_bind (m := Builtin.Tuple.tupleExact _) (wpAny_newObj_type (wpAny_pure ⟨_, rfl, wpAny_pure h⟩) htake)
    | exact wpAny_bind (m := Builtin.Tuple.tupleExact _) (wpAny_newObj_type (wpAny_bind (wpAny_pure (wpAny_pure ⟨_, rfl, wpAny_pure h⟩))) htake)
    | exact wpAny_bind (wpAny_bind (m := Builtin.Tuple.tupleExact _) (wpAny_newObj_type (wpAny_pure (wpAny_pure ⟨_, rfl, wpAny_pure h⟩)) htake))
    | exact wpAny_bind (wpAny_bind (m := Builtin.Tuple.tupleExact _) (wpAny_newObj_type (wpAny_pure ⟨_, rfl, wpAny_pure h⟩) htake))
end
end HT
namespace L2
open PySem PySem.Spec PyProof.Rows
abbrev TO := St → Hp → (Option Int → Hp → Prop) → Prop
def PO (X : Cx) (e : Option Expr) (t : TO) : Prop :=
  ∀ (pins : List (Addr × Obj)) (s : Shared) (σ : St) (H : Hp) (Q : Option Int → Hp → Prop), Inv X pins σ H s → t σ H Q →
    wpAny (model X.prog X.w) X.A (evalPart e X.env) (fun u s' => ∃ o H', Inv X pins σ H' s' ∧ IsPart u o ∧ Q o H') X.xe s
def MJ : TO := fun _ H Q => Q none H
def QY (t : TE) : TO := fun σ H Q => t σ H fun x H1 => ∃ i, x = .int i ∧ Q (some i) H1
section
variable {X : Cx} {e : Expr} {te : TE} {lo hi : Option Expr} {tl th : TO} {pos p2 : Pos}
theorem Mk : PO X none MJ := by
  intro pins s σ H Q I h
  rw [evalPart_none]
  exact wpAny_pure ⟨none, H, I, .none, h⟩
theorem Mw (h : PE X e te) : PO X (some e) (QY te) := by
  intro pins s σ H Q I hw
  rw [evalPart_some]
  refine thn (h pins s σ H _ I hw) fun u s1 ⟨x, H1, I1, r1, q1⟩ => ?_
  obtain ⟨i, rfl, q⟩ := q1
  obtain ⟨t, rfl⟩ := r1
  exact ⟨some i, H1, I1, .int i t, q⟩
def SlR (X : Cx) (r : V → Option Int → Option Int → Hp → VK → Prop) : Prop :=
  ∀ (pins : List (Addr × Obj)) (s : Shared) (σ : St) (H : Hp) (x : V) (v vl vu : Value) (lo hi : Option Int) (sl : Addr) (Q : VK), Inv X pins σ H s → RelV x v → s.heap.IsSliceOf sl vl vu .none → IsPart vl lo → IsPart vu hi → r x lo hi H Q →
    ∃ T id, typeLookup (.type T) "__getitem__" = pure (some (.builtin id)) ∧ s.TypeIs v T ∧ wpAny (model X.prog X.w) X.A (getItem v (.ref sl)) (EP X pins σ Q) X.xe s
theorem SlR.or {r r' : V → Option Int → Option Int → Hp → VK → Prop} (h : SlR X r) (h' : SlR X r') : SlR X (fun x lo hi H Q => r x lo hi H Q ∨ r' x lo hi H Q) := by
  intro pins s σ H x v vl vu lo hi sl Q I rx hs pl pu q
  rcases q with q | q
  · exact h pins s σ H x v vl vu lo hi sl Q I rx hs pl pu q
  · exact h' pins s σ H x v vl vu lo hi sl Q I rx hs pl pu q
def tSl (r : V → Option Int → Option Int → Hp → VK → Prop) (te : TE) (tl th : TO) : TE := fun σ H Q => te σ H fun x H1 => tl σ H1 fun l H2 => th σ H2 fun u H3 => r x l u H3 Q
theorem KS {r : V → Option Int → Option Int → Hp → VK → Prop} (hr : SlR X r) (he : PE X e te) (hl : PO X lo tl) (hu : PO X hi th) : PE X (.Subscript e (.Slice lo hi none p2) pos) (tSl r te tl th) := by
  intro pins s σ H Q I h
  refine Subscript_ (thn (he pins s σ H _ I h) fun v s1 ⟨x, H1, I1, r1, q1⟩ => ?_)
  refine wpAny_Slice (thn (hl pins s1 σ H1 _ I1 q1) fun vl s2 ⟨l, H2, I2, pl, q2⟩ => thn (hu pins s2 σ H2 _ I2 q2) fun vu s3 ⟨u, H3, I3, pu, q3⟩ => ?_)
  rw [evalPart_none]
  refine wpAny_pure ?_
  have I4 : Inv X pins σ H3 { s3 with heap := s3.heap.push { cls := .type "slice", data := .fields #[vl, vu, .none] } } := I3.kept (t' := s3.toks) fun b ob q => Heap.get?_push_of_some _ q
  obtain ⟨T, id, hT, ht, hg⟩ := hr pins { s3 with heap := s3.heap.push { cls := .type "slice", data := .fields #[vl, vu, .none] } } σ H3 x v vl vu l u s3.heap.objs.size Q I4 r1 (Heap.IsSliceOf.new ..) pl pu q3
  show wpAny (model X.prog X.w) X.A (subscriptTail e (.Slice lo hi none p2) v (.ref s3.heap.objs.size)) (EP X pins σ Q) X.xe { s3 with heap := s3.heap.push { cls := .type "slice", data := .fields #[vl, vu, .none] } }
  exact tail_any (ops := [.ref s3.heap.objs.size, v]) ht hT hg (by with_unfolding_all rfl)
def Bb (xs : List V) (lo hi : Option Int) : List V := (xs.drop (HT.sIx xs.length 0 lo)).take (HT.sIx xs.length xs.length hi - HT.sIx xs.length 0 lo)
theorem w5 (xs : List V) (lo hi : Option Int) : (Bb xs lo hi).length ≤ xs.length := by
  unfold Bb
  rw [List.length_take, List.length_drop]
  omega
def RY (K : PySem.W.Frag) : V → Option Int → Option Int → Hp → VK → Prop := fun x lo hi H Q => ∃ a xs, x = .ref a ∧ SqT K H a xs ∧
  ¬ (HT.sIx xs.length 0 lo = 0 ∧ HT.sIx xs.length xs.length hi = xs.length) ∧ ∀ p, H p = none → Q (.ref p) (upd H p (.tup (Bb xs lo hi)))
theorem O9 : SlR X (RY X.K) := by
  intro pins s σ H x v vl vu lo hi sl Q I rx hs pl pu h
  obtain ⟨a, xs, rfl, hx, hw, q⟩ := h
  cases rx
  obtain ⟨its, r, ht, hz⟩ := I.tuple hx
  have hlen : its.toArray.size = xs.length := by rw [List.size_toArray]; exact r.length.symm
  refine ⟨"tuple", _, PyProof.Rows.slot_tuple_getitem.lookup, ht.typeIs, ?_⟩
  refine HT.uc ht hs pl pu (by rw [hlen]; exact hw) ?_ (by rw [hlen]; exact hz)
  rw [hlen]
  refine ⟨.ref s.heap.objs.size, _, I.laid (t' := s.toks) (o := .tup (Bb xs lo hi)) (fun b ob q => Heap.get?_push_of_some _ q) (Nat.le_refl _) ?_, rfl, q _ (I.hok.fresh (Nat.le_refl _))⟩
  exact ⟨Nat.le_trans (w5 xs lo hi) hz, _, (r.drop (HT.sIx xs.length 0 lo)).take (HT.sIx xs.length xs.length hi - HT.sIx xs.length 0 lo), IsTup.new _ _⟩
def QH (K : PySem.W.Frag) : R2 := fun x y H Q => ∃ a b xs ys, x = .ref a ∧ y = .ref b ∧ SqT K H a xs ∧ SqT K H b ys ∧ xs ≠ [] ∧ xs.length + ys.length ≤ sizeLine ∧
  (ys = [] → Q (.ref a) H) ∧ (ys ≠ [] → ∀ p, H p = none → Q (.ref p) (upd H p (.tup (xs ++ ys))))
theorem Vals.Bm {xs : List V} {us : List Value} (r : Vals xs us) : us = [] ↔ xs = [] := by
  cases r with
  | nil => simp
  | cons _ _ => simp
theorem MF : OpR X (binaryOp .Add) (QH X.K) := by
  intro pins s σ H x y v u Q I rx ry h
  obtain ⟨a, b, xs, ys, rfl, rfl, ha, hb, hx, hz, q1, q2⟩ := h
  cases rx
  cases ry
  obtain ⟨its, r1, p1, _⟩ := I.tuple ha
  obtain ⟨its2, r2, p2, _⟩ := I.tuple hb
  refine HT.MH p1 p2 (fun z => hx (r1.Bm.mp z)) (fun z => ⟨.ref a, H, I, rfl, q1 (r2.Bm.mp z)⟩) (fun z => ?_) (by rw [← r1.length, ← r2.length]; exact hz)
  refine ⟨.ref s.heap.objs.size, _, I.laid (t' := s.toks) (o := .tup (xs ++ ys)) (fun b ob q => Heap.get?_push_of_some _ q) (Nat.le_refl _) ?_, rfl, q2 (fun w => z (r2.Bm.mpr w)) _ (I.hok.fresh (Nat.le_refl _))⟩
  exact ⟨by rw [List.length_append]; exact hz, _, r1.append r2, IsTup.new _ _⟩
end
end L2
namespace L2
open PySem PySem.Spec PyProof.Rows
def ixN (n : Nat) (i : Int) : Option Nat := if 0 ≤ i then (if i < n then some i.toNat else none) else if -(n : Int) ≤ i then some (i + n).toNat else none
def atI {α : Type} (xs : List α) (i : Int) : Option α := (ixN xs.length i).bind fun j => xs[j]?
theorem Hi {n : Nat} {i : Int} {j : Nat} (h : ixN n i = some j) : seqIndex? i n = some j ∧ j < n ∧ -(n : Int) ≤ i ∧ i < n := by
  unfold ixN at h
  by_cases h0 : 0 ≤ i
  · rw [if_pos h0] at h
    by_cases h1 : i < n
    · rw [if_pos h1] at h
      have e : i.toNat = j := Option.some.inj h
      exact ⟨by rw [seqIndex_of h0 h1, e], by omega, by omega, h1⟩
    · rw [if_neg h1] at h; cases h
  · rw [if_neg h0] at h
    by_cases h1 : -(n : Int) ≤ i
    · rw [if_pos h1] at h
      have e : (i + n).toNat = j := Option.some.inj h
      exact ⟨by rw [seqIndex_neg (by omega) h1, e], by omega, h1, by omega⟩
    · rw [if_neg h1] at h; cases h
theorem Cf {α : Type} {xs : List α} {i : Int} {v : α} (h : atI xs i = some v) : ∃ j, seqIndex? i xs.length = some j ∧ xs[j]? = some v ∧ j < xs.length ∧ -(xs.length : Int) ≤ i ∧ i < xs.length := by
  unfold atI at h
  cases e : ixN xs.length i with
  | none => rw [e] at h; cases h
  | some j =>
    rw [e] at h
    obtain ⟨h1, h2, h3, h4⟩ := Hi e
    exact ⟨j, h1, h, h2, h3, h4⟩
theorem mm {α : Type} {xs : List α} {j : Nat} {v : α} (h : xs[j]? = some v) : atI xs (j : Int) = some v := by
  have hj : j < xs.length := (List.getElem?_eq_some_iff.mp h).1
  have e : ixN xs.length (j : Int) = some j := by
    unfold ixN
    rw [if_pos (by omega), if_pos (by omega)]; simp
  unfold atI; rw [e]; exact h
def Cw (b : Expr) : Prop := ∀ o i, subscripted b false o i = operate [o, i] (getItem o i)
def IxR (X : Cx) (r : R2) : Prop :=
  ∀ (value slice : Expr) (pins : List (Addr × Obj)) (s : Shared) (σ : St) (H : Hp) (x y : V) (v u : Value) (Q : VK), Inv X pins σ H s → RelV x v → RelV y u → r x y H Q →
    subscripted slice false v u = operate [v, u] (getItem v u) → wpAny (model X.prog X.w) X.A (subscriptTail value slice v u) (EP X pins σ Q) X.xe s
def MtR (X : Cx) (id : String) (r : V → List V → Hp → VK → Prop) : Prop :=
  ∀ (pins : List (Addr × Obj)) (s : Shared) (σ : St) (H : Hp) (x : V) (xs : List V) (v : Value) (us : List Value) (Q : VK), Inv X pins σ H s → RelV x v → Vals xs us → r x xs H Q →
    wpAny (model X.prog X.w) X.A (call (.builtin id) (v :: us)) (EP X pins σ Q) X.xe s
section
variable {X : Cx} {a b : Expr} {ta tb : TE} {pos : Pos}
theorem IxR.or {r r' : R2} (h : IxR X r) (h' : IxR X r') : IxR X (fun x y H Q => r x y H Q ∨ r' x y H Q) := by
  intro value slice pins s σ H x y v u Q I rx ry q hs
  rcases q with q | q
  · exact h value slice pins s σ H x y v u Q I rx ry q hs
  · exact h' value slice pins s σ H x y v u Q I rx ry q hs
theorem MtR.or {id : String} {r r' : V → List V → Hp → VK → Prop} (h : MtR X id r) (h' : MtR X id r') : MtR X id (fun x xs H Q => r x xs H Q ∨ r' x xs H Q) := by
  intro pins s σ H x xs v us Q I rx rs q
  rcases q with q | q
  · exact h pins s σ H x xs v us Q I rx rs q
  · exact h' pins s σ H x xs v us Q I rx rs q
theorem Nn {r : R2} (hr : IxR X r) (ha : PE X a ta) (hb : PE X b tb) (hs : Cw b) : PE X (.Subscript a b pos) (tOp r ta tb) := by
  intro pins s σ H Q I h
  exact Subscript_ (Pe ha hb I h fun v u s2 x y H2 I2 rx ry q => hr a b pins s2 σ H2 x y v u Q I2 rx ry q (hs _ _))
def Ra (K : PySem.W.Frag) : R2 := fun x y H Q => ∃ p xs i v, x = .ref p ∧ y = .int i ∧ SqL K H p xs ∧ atI xs i = some v ∧ Q v H
def Qb (K : PySem.W.Frag) : R2 := fun x y H Q => ∃ p xs i v, x = .ref p ∧ y = .int i ∧ SqT K H p xs ∧ atI xs i = some v ∧ Q v H
def Qj : R2 := fun x y H Q => ∃ z i c, x = .str z ∧ y = .int i ∧ z.length ≤ sizeLine ∧ atI z.cps.toList i = some c ∧ Q (.str ⟨#[c]⟩) H
theorem Mx : IxR X (Ra X.K) := by
  intro value slice pins s σ H x y v u Q I rx ry h hs
  obtain ⟨p, xs, i, z, rfl, rfl, hq, he, q⟩ := h
  cases rx
  obtain ⟨t, rfl⟩ := ry
  obtain ⟨its, r, pl, hz⟩ := I.list hq
  obtain ⟨j, h1, h2, h3, h4, h5⟩ := Cf he
  obtain ⟨w, ew, rw'⟩ := r.get h2
  have hl := r.length
  have hn := yY
  have fin : EP X pins σ Q w s := ⟨z, H, I, rw', q⟩
  by_cases h0 : 0 ≤ i
  · have hj : i.toNat = j := by
      rw [seqIndex_of h0 h5] at h1
      exact Option.some.inj h1
    exact item_listR pl.isList h0 (by omega) (by rw [hj]; simpa using ew) fin hs
  · have hj : (i + (its.toArray.size : Int)).toNat = j := by
      rw [seqIndex_neg (by omega) h4] at h1
      rw [List.size_toArray, ← hl]
      exact Option.some.inj h1
    exact subscriptTail_builtinR (x := w) pl.isList.typeIs slot_list_getitem.lookup
      (wpAny_getItem_list_neg (Q := fun r s' => r = w ∧ EP X pins σ Q r s') pl.isList (by omega) (by rw [List.size_toArray] <;> omega) (by omega) (by rw [hj]; simpa using ew) ⟨rfl, fin⟩) hs
theorem OC : IxR X (Qb X.K) := by
  intro value slice pins s σ H x y v u Q I rx ry h hs
  obtain ⟨p, xs, i, z, rfl, rfl, hq, he, q⟩ := h
  cases rx
  obtain ⟨t, rfl⟩ := ry
  obtain ⟨its, r, pl, hz⟩ := I.tuple hq
  obtain ⟨j, h1, h2, h3, h4, h5⟩ := Cf he
  obtain ⟨w, ew, rw'⟩ := r.get h2
  have hl := r.length
  have hn := yY
  have fin : EP X pins σ Q w s := ⟨z, H, I, rw', q⟩
  exact subscriptTail_builtinR (x := w) pl.typeIs slot_tuple_getitem.lookup
    (getItem_tuple (j := j) (Q := fun r s' => r = w ∧ EP X pins σ Q r s') pl (by omega) (by omega) (by rw [List.size_toArray, ← hl]; exact h1) (by simpa using ew) ⟨rfl, fin⟩) hs
theorem Ou : IxR X Qj := by
  intro value slice pins s σ H x y v u Q I rx ry h hs
  obtain ⟨z, i, c, rfl, rfl, hz, he, q⟩ := h
  obtain ⟨t, rfl⟩ := rx
  obtain ⟨t', rfl⟩ := ry
  obtain ⟨j, h1, h2, h3, h4, h5⟩ := Cf he
  have hl : z.cps.toList.length = z.length := by simp [Str.length]
  rw [hl] at h1 h4 h5
  have hn := yY
  exact tail_any (typeIs_str s z t) slot_str_getitem.lookup (getItem_str (c := c) (by
    have e1 : decide (i < -(2 ^ 63 : Int)) = false := decide_eq_false (by omega)
    have e2 : decide (i ≥ 2 ^ 63) = false := decide_eq_false (by omega)
    rw [e1, e2, Bool.or_false]) (by rw [h1]; simpa using h2) ⟨.str ⟨#[c]⟩, H, I.tok _, ⟨_, rfl⟩, q⟩) hs
def rIx (K : PySem.W.Frag) : R2 := fun x y H Q => Ra K x y H Q ∨ Qb K x y H Q ∨ Qj x y H Q
theorem JJ : IxR X (rIx X.K) := Mx.or (OC.or Ou)
theorem Fv (its : List Value) (n j : Nat) (u : Value) : Obj.mapSeq (·.setIfInBounds j u) { cls := .type "list", data := .seq its.toArray n } = { cls := .type "list", data := .seq (its.set j u).toArray n } := by
  simp [Obj.mapSeq]
theorem Inv.lst {pins : List (Addr × Obj)} {σ : St} {H : Hp} {s : Shared} {p : Addr} {xs : List V} (I : Inv X pins σ H s) (h : H p = some (.lst xs)) :
    ∃ (its : List Value) (n : Nat), Vals xs its ∧ s.heap.get? p = some { cls := .type "list", data := .seq its.toArray n } ∧ xs.length ≤ sizeLine := by
  obtain ⟨z, its, n, r, e⟩ := I.hok p _ h
  exact ⟨its, n, r, e, z⟩
theorem Inv.O4 {pins : List (Addr × Obj)} {σ : St} {H : Hp} {s : Shared} {p : Addr} {xs ys : List V} {its its' : List Value} {n n' : Nat} {f : Obj → Obj} (I : Inv X pins σ H s) (h : H p = some (.lst xs))
    (ho : s.heap.get? p = some { cls := .type "list", data := .seq its.toArray n }) (hf : f { cls := .type "list", data := .seq its.toArray n } = { cls := .type "list", data := .seq its'.toArray n' }) (r : Vals ys its') (hz : ys.length ≤ sizeLine) (t : Nat) :
    Inv X pins σ (upd H p (.lst ys)) { s with heap := s.heap.update p f, toks := t } := by
  have e : (s.heap.update p f).get? p = some { cls := .type "list", data := .seq its'.toArray n' } := by
    rw [Heap.get?_update_self f ho (by rw [hf] <;> rfl), hf]
  refine I.write (x := p) (e := p) (by rw [h]; trivial) (.inl rfl) (fun b u hb q => (Heap.get?_update_other _ _ (Ne.symm hb)).trans q) ⟨_, e⟩ ?_
  exact ⟨hz, its', n', r, e⟩
def QX : V → V → V → Hp → (Hp → Prop) → Prop := fun o i v H Q => ∃ p xs k j, o = .ref p ∧ i = .int k ∧ H p = some (.lst xs) ∧ ixN xs.length k = some j ∧ Q (upd H p (.lst (xs.set j v)))
theorem set_list : Q1 X QX := by
  intro pins s σ H o i v ov iv u Q I ro ri rv h
  obtain ⟨p, xs, k, j, rfl, rfl, hp, hj, q⟩ := h
  cases ro
  obtain ⟨t, rfl⟩ := ri
  obtain ⟨its, n, r, ho, hz⟩ := I.lst hp
  obtain ⟨h1, h2, h3, h4⟩ := Hi hj
  have hl := r.length
  have hn := yY
  have I' : Inv X pins σ (upd H p (.lst (xs.set j v))) { s with heap := s.heap.update p (Obj.mapSeq (·.setIfInBounds j u)) } :=
    I.O4 hp ho (Fv its n j u) (r.set rv j) (by rw [List.length_set]; exact hz) s.toks
  by_cases h0 : 0 ≤ k
  · have hk : k.toNat = j := by
      rw [seqIndex_of h0 h4] at h1
      exact Option.some.inj h1
    exact PySem.W.ki_setAt ho h0 (by omega) (by rw [List.size_toArray, ← hl]; exact h4) (by rw [hk]; exact ⟨_, I', q⟩)
  · have hk : (k + (its.toArray.size : Int)).toNat = j := by
      rw [seqIndex_neg (by omega) h3] at h1
      rw [List.size_toArray, ← hl]
      exact Option.some.inj h1
    exact PySem.W.ki_setBack ho (by omega) (by rw [List.size_toArray, ← hl]; exact h3) (by omega) (by rw [hk]; exact ⟨_, I', q⟩)
theorem BN (lo hi : Option Int) (n : Nat) : (sliceBounds lo hi none n).1 = ((HT.sIx n 0 lo : Nat) : Int) ∧ (sliceBounds lo hi none n).2.1 = ((HT.sIx n n hi : Nat) : Int) ∧ (sliceBounds lo hi none n).2.2 = 1 := by
  refine ⟨?_, ?_, rfl⟩
  · cases lo with
    | none => simp [sliceBounds, HT.sIx]
    | some i =>
      simp only [sliceBounds, HT.sIx, Option.getD_none, show (1 : Int) > 0 by decide, if_true]
      by_cases h : i < 0
      · simp only [h, if_true] <;> omega
      · simp only [h, if_false] <;> omega
  · cases hi with
    | none => simp [sliceBounds, HT.sIx]
    | some i =>
      simp only [sliceBounds, HT.sIx, Option.getD_none, show (1 : Int) > 0 by decide, if_true]
      by_cases h : i < 0
      · simp only [h, if_true] <;> omega
      · simp only [h, if_false] <;> omega
theorem zY (its : List Value) (lo hi : Option Int) : slicePick its.toArray lo hi none = ((its.drop (HT.sIx its.length 0 lo)).take (HT.sIx its.length its.length hi - HT.sIx its.length 0 lo)).toArray := by
  obtain ⟨h1, h2, h3⟩ := BN lo hi its.toArray.size
  unfold slicePick
  rw [h1, h2, h3]
  simp only [sliceRange_one, pick_run, List.size_toArray] <;> rfl
def RG (K : PySem.W.Frag) : V → Option Int → Option Int → Hp → VK → Prop := fun x lo hi H Q => ∃ a xs, x = .ref a ∧ SqL K H a xs ∧ ∀ p, H p = none → Q (.ref p) (upd H p (.lst (Bb xs lo hi)))
theorem Mo : SlR X (RG X.K) := by
  intro pins s σ H x v vl vu lo hi sl Q I rx hs pl pu h
  obtain ⟨a, xs, rfl, hx, q⟩ := h
  cases rx
  obtain ⟨its, r, ht, hz⟩ := I.list hx
  have hlen := r.length
  refine ⟨"list", _, slot_list_getitem.lookup, ht.isList.typeIs, ?_⟩
  refine wpAny_getItem_list_slice ht.isList hs pl pu .none (by simp) ?_ (by rw [List.size_toArray] <;> omega)
  rw [zY, ← hlen]
  refine ⟨.ref s.heap.objs.size, _, I.laid (t' := s.toks) (o := .lst (Bb xs lo hi)) (fun b ob q => Heap.get?_push_of_some _ q) (Nat.le_refl _) ?_, rfl, q _ (I.hok.fresh (Nat.le_refl _))⟩
  exact ⟨Nat.le_trans (w5 xs lo hi) hz, _, 0, (r.drop (HT.sIx xs.length 0 lo)).take (HT.sIx xs.length xs.length hi - HT.sIx xs.length 0 lo), Heap.get?_push_size _ rfl⟩
theorem Bf : i4 X (.builtin "len") (fun xs H Q => ∃ p ys, xs = [.ref p] ∧ (SqL X.K H p ys ∨ SqT X.K H p ys) ∧ Q (.int ys.length) H) := by
  intro pins s σ H xs us Q I r h
  obtain ⟨p, ys, rfl, hq, q⟩ := h
  obtain ⟨u, rfl, rx⟩ := vals1 r
  cases rx
  have hn := yY
  rcases hq with hq | hq
  · obtain ⟨its, r', pl, hz⟩ := I.list hq
    have hlen := r'.length
    exact Calls.call_len_list pl.isList (by simp only [List.size_toArray] <;> omega) ⟨.int ys.length, H, I.tok _, ⟨s.toks + 1, by rw [List.size_toArray, hlen]⟩, q⟩
  · obtain ⟨its, r', pl, hz⟩ := I.tuple hq
    have hlen := r'.length
    exact len_tuple pl (by simp only [List.size_toArray] <;> omega) ⟨.int ys.length, H, I.tok _, ⟨s.toks + 1, by rw [List.size_toArray, hlen]⟩, q⟩
theorem i4.or {f : Value} {r r' : List V → Hp → VK → Prop} (h : i4 X f r) (h' : i4 X f r') : i4 X f (fun xs H Q => r xs H Q ∨ r' xs H Q) := by
  intro pins s σ H xs us Q I rs q
  rcases q with q | q
  · exact h pins s σ H xs us Q I rs q
  · exact h' pins s σ H xs us Q I rs q
theorem A5 : i4 X (.type "list") (fun xs H Q => ∃ p ys, xs = [.ref p] ∧ (SqL X.K H p ys ∨ SqT X.K H p ys) ∧ ∀ l, H l = none → Q (.ref l) (upd H l (.lst ys))) := by
  intro pins s σ H xs us Q I r h
  obtain ⟨p, ys, rfl, hq, q⟩ := h
  obtain ⟨u, rfl, rx⟩ := vals1 r
  cases rx
  have fin : ∀ (its : List Value), Vals ys its → ys.length ≤ sizeLine → ∀ (h' : Heap) (c' : Nat), (∀ b o', s.heap.get? b = some o' → h'.get? b = some o') →
      h'.get? s.heap.objs.size = some { cls := .type "list", dict := none, data := .seq its.toArray c', slots := #[] } → EP X pins σ Q (.ref s.heap.objs.size) { s with heap := h' } := fun its r' hz h' c' kp e =>
    ⟨.ref s.heap.objs.size, _, I.laid (t' := s.toks) kp (Nat.le_refl _) (show lH X.prog X.w _ h' _ (.lst ys) from ⟨hz, its, c', r', e⟩), rfl, q _ (I.hok.fresh (Nat.le_refl _))⟩
  rcases hq with hq | hq
  · obtain ⟨its, r', pl, hz⟩ := I.list hq
    have hlen := r'.length
    obtain ⟨o, ho, hc, n, hd⟩ := pl.isList
    exact call_list_seq p (.inl rfl) ho hc hd (fun h' c' kp e => fin its r' hz h' c' kp e) (by simp only [List.size_toArray] <;> omega)
  · obtain ⟨its, r', pl, hz⟩ := I.tuple hq
    have hlen := r'.length
    obtain ⟨o, ho, hc, n, hd⟩ := pl
    exact call_list_seq p (.inr rfl) ho hc hd (fun h' c' kp e => fin its r' hz h' c' kp e) (by simp only [List.size_toArray] <;> omega)
theorem ze : i4 X (.type "tuple") (fun xs H Q => ∃ p ys, xs = [.ref p] ∧ ((SqL X.K H p ys ∧ ∀ l, H l = none → Q (.ref l) (upd H l (.tup ys))) ∨ (SqT X.K H p ys ∧ Q (.ref p) H))) := by
  intro pins s σ H xs us Q I r h
  obtain ⟨p, ys, rfl, h⟩ := h
  obtain ⟨u, rfl, rx⟩ := vals1 r
  cases rx
  rcases h with ⟨hq, q⟩ | ⟨hq, q⟩
  · obtain ⟨its, r', pl, hz⟩ := I.list hq
    have hlen := r'.length
    refine call_tuple_list pl.isList (fun h' kp => ?_) (by simp only [List.size_toArray] <;> omega)
    have I1 : Inv X pins σ H { s with heap := h' } := I.kept (t' := s.toks) kp
    have I2 : Inv X pins σ (upd H h'.objs.size (.tup ys)) { s with heap := h'.push { cls := .type "tuple", data := .seq its.toArray } } :=
      I1.laid (t' := s.toks) (fun b o e => Heap.get?_push_of_some _ e) (Nat.le_refl _) (show lH X.prog X.w _ _ _ (.tup ys) from ⟨hz, its, r', IsTup.new _ _⟩)
    exact ⟨.ref h'.objs.size, _, I2, rfl, q _ (I1.hok.fresh (Nat.le_refl _))⟩
  · obtain ⟨its, r', pl, hz⟩ := I.tuple hq
    exact call_tuple_same pl ⟨.ref p, H, I, rfl, q⟩
def tyV (K : PySem.W.Frag) (T : String) (x : V) (H : Hp) : Prop := match x with
  | .str _ => T = "str"
  | .int _ => T = "int"
  | .ref p => (T = "list" ∧ ∃ xs, SqL K H p xs) ∨ (T = "tuple" ∧ ∃ o, K.lookup p = some o ∧ o.cls = .type "tuple" ∧ o.dict = none) ∨
      (T = "dict" ∧ ((∃ kvs, H p = some (.dK kvs)) ∨ ∃ kvs, H p = some (.dT kvs))) ∨ (T = "set" ∧ ∃ S n, H p = some (.set S n))
  | _ => False
theorem PK {pins : List (Addr × Obj)} {σ : St} {H : Hp} {s : Shared} {T : String} {x : V} {v : Value} (I : Inv X pins σ H s) (r : RelV x v) (ty : tyV X.K T x H) :
    s.TypeIs v T ∧ ∀ a, v = .ref a → ∃ ob, s.heap.get? a = some ob ∧ ob.dict = none := by
  cases x with
  | str z =>
    obtain ⟨t, rfl⟩ := r
    cases (show T = "str" from ty)
    exact ⟨typeIs_str s z t, fun _ e => nomatch e⟩
  | int i =>
    obtain ⟨t, rfl⟩ := r
    cases (show T = "int" from ty)
    exact ⟨typeIs_int s i t, fun _ e => nomatch e⟩
  | ref p =>
    cases r
    rcases ty with ⟨rfl, xs, hq⟩ | ⟨rfl, o, hk, hc, hd⟩ | ⟨rfl, hk⟩ | ⟨rfl, S, n, hk⟩
    · obtain ⟨its, _, pl, _⟩ := I.list hq
      refine ⟨pl.isList.typeIs, fun a e => ?_⟩
      cases e
      obtain ⟨o, n, e, c, hd, _⟩ := pl
      exact ⟨o, e, hd⟩
    · refine ⟨⟨o, I.kIn p o hk, hc⟩, fun a e => ?_⟩
      cases e
      exact ⟨o, I.kIn _ o hk, hd⟩
    · have z : ∃ o, s.heap.get? p = some o ∧ o.ExactDict := by
        rcases hk with ⟨kvs, hk⟩ | ⟨kvs, hk⟩
        · obtain ⟨_, _, _, _, o, _, _, e, ex, _⟩ := I.hok p _ hk
          exact ⟨o, e, ex⟩
        · obtain ⟨_, _, _, _, o, _, _, e, ex, _⟩ := I.hok p _ hk
          exact ⟨o, e, ex⟩
      obtain ⟨o, e, ex⟩ := z
      refine ⟨⟨o, e, ex.1⟩, fun a e2 => ?_⟩
      cases e2
      exact ⟨o, e, ex.2.1⟩
    · obtain ⟨o, _, _, _, e, ex, _⟩ := I.hok p _ hk
      refine ⟨⟨o, e, ex.1⟩, fun a e2 => ?_⟩
      cases e2
      exact ⟨o, e, ex.2.1⟩
  | _ => exact False.elim ty
def tBM (K : PySem.W.Frag) (T : String) (r : V → List V → Hp → VK → Prop) (to : TE) (t : TA) : TE := fun σ H Q => to σ H fun x H1 => tyV K T x H1 ∧ t σ H1 fun xs H2 => r x xs H2 Q
variable {o e : Expr} {es : List Expr} {to : TE} {t : TA} {name : Str} {apos cpos : Pos} {T id : String} {r : V → List V → Hp → VK → Prop}
theorem Nk (pa : PlainAttrs T) (slot : Slot T name id) (hty : typeOf (.builtin id) = pure (.type "method_descriptor")) (hm : MtR X id r) (ho : PE X o to) (ha : PA X (e :: es) t)
    (hbase : attributeBase o name X.env (eval o X.env) = eval o X.env := by rfl)
    (hfew : ((backTo cpos (starEach (e :: es) X.env)).all (fun x => !x.1) && (backToKw cpos (keywordEach [] X.env)).all (fun x => x.1.isSome)
      && decide ((e :: es).length + ([] : List Keyword).length + (if ([] : List Keyword).isEmpty then 0 else 1) < 30)) = true := by rfl)
    (hline : (apos.endLine == cpos.line) = true := by rfl) (hs : starEach (e :: es) X.env = (false, eval e X.env) :: starEach es X.env := by rfl) (hplain : (backTo cpos (starEach es X.env)).any (·.1) = false := by rfl) :
    PE X (.Call (.Attribute o name apos) (e :: es) [] cpos) (tBM X.K T r to t) := by
  intro pins s σ H Q I h
  refine wpAny_Call_method_late hbase hfew hline rfl (thn (ho pins s σ H _ I h) fun v s1 ⟨x, H1, I1, r1, ty, q1⟩ => ?_)
  obtain ⟨h1, h2⟩ := PK I1 r1 ty
  refine ⟨T, id, pa, slot, hty, h1, h2, ?_⟩
  have hA := ha cpos pins s1 σ H1 _ I1 q1
  rw [hs] at hA ⊢
  refine Calls.callWith_builtin (by show (false || (backTo cpos (starEach es X.env)).any (·.1)) = false; rw [hplain] <;> rfl) (Calls.evalArgs_plain ?_)
  exact thn hA fun us s2 ⟨vs, H2, I2, r2, q2⟩ => hm pins s2 σ H2 x vs v us Q I2 r1 r2 q2
end
end L2
namespace L2
open PySem PySem.Spec PyProof.Rows
def MtM (X : Cx) (id : String) (r : V → List V → Hp → VK → Prop) : Prop :=
  ∀ (pins : List (Addr × Obj)) (s : Shared) (σ : St) (H : Hp) (x : V) (xs : List V) (v : Value) (us : List Value) (Q : VK), Inv X pins σ H s → RelV x v → Vals xs us → r x xs H Q →
    wpAny (model X.prog X.w) X.A (call (.builtin id) (v :: us)) (EP X pins σ Q) X.xe s
theorem Vals.one : ∀ {x : V} {us : List Value}, Vals [x] us → ∃ u, us = [u] ∧ RelV x u
  | _, _, .cons r .nil => ⟨_, rfl, r⟩
theorem Vals.two : ∀ {x y : V} {us : List Value}, Vals [x, y] us → ∃ u v, us = [u, v] ∧ RelV x u ∧ RelV y v
  | _, _, _, .cons r (.cons q .nil) => ⟨_, _, rfl, r, q⟩
theorem Vals.reverse {xs : List V} {us : List Value} (h : Vals xs us) : Vals xs.reverse us.reverse := by
  induction h with
  | nil => exact .nil
  | cons r t ih => rw [List.reverse_cons, List.reverse_cons]; exact Vals.append ih (.cons r .nil)
section
variable {X : Cx} {pins : List (Addr × Obj)} {σ : St} {H : Hp} {s : Shared} {l b : Addr} {xs ys zs : List V}
theorem Inv.QK {its its' : List Value} {n : Nat} {f : Array Value → Array Value} {t' : Nat} (I : Inv X pins σ H s) (hH : H l = some (.lst xs))
    (e : s.heap.get? l = some { cls := .type "list", data := .seq its.toArray n }) (hf : f its.toArray = its'.toArray) (hv : Vals ys its') (hz : ys.length ≤ sizeLine) :
    Inv X pins σ (upd H l (.lst ys)) { s with heap := s.heap.update l (Obj.mapSeq f), toks := t' } := by
  have q := PySem.IsL.update e f
  rw [hf] at q
  refine I.write (x := l) (e := l) (by rw [hH]; exact trivial) (.inl rfl) (fun b' u hb hu => (Heap.get?_update_other s.heap (Obj.mapSeq f) (Ne.symm hb)).trans hu) ⟨_, q⟩ ?_
  exact ⟨hz, its', _, hv, q⟩
theorem Inv.RJ {its : List Value} {t' : Nat} (I : Inv X pins σ H s) (hv : Vals ys its) (hz : ys.length ≤ sizeLine) :
    Inv X pins σ (upd H s.heap.objs.size (.lst ys)) { s with heap := s.heap.push { cls := .type "list", data := .seq its.toArray }, toks := t' } :=
  I.laid (fun _ _ q => Heap.get?_push_of_some _ q) (Nat.le_refl _) ⟨hz, its, 0, hv, Heap.get?_push_size _ rfl⟩
theorem Inv.fresh (I : Inv X pins σ H s) : H s.heap.objs.size = none := I.hok.fresh (Nat.le_refl _)
theorem Inv.IM (I : Inv X pins σ H s) (hH : H l = some (.lst xs)) : xs.length ≤ sizeLine ∧ ∃ (its : List Value) (n : Nat), Vals xs its ∧ xs.length = its.length ∧ s.heap.get? l = some { cls := .type "list", data := .seq its.toArray n } := by
  obtain ⟨z, its, n, r, e⟩ := I.hok l _ hH
  exact ⟨z, its, n, r, r.length, e⟩
theorem JL {n : Nat} (h : n ≤ sizeLine) : Builtin.List.listTooLong n = false := by
  unfold Builtin.List.listTooLong
  exact decide_eq_false (by omega)
end
section
variable {X : Cx}
def MD : V → List V → Hp → VK → Prop := fun x vs H Q => ∃ l xs y, x = .ref l ∧ vs = [y] ∧ H l = some (.lst xs) ∧ xs.length < sizeLine ∧ Q .non (upd H l (.lst (xs ++ [y])))
theorem rH : MtM X "list.append" MD := by
  intro pins s σ H x vs v us Q I rx rv h
  obtain ⟨l, xs, y, rfl, rfl, hH, hz, q⟩ := h
  cases rx
  obtain ⟨u, rfl, ru⟩ := rv.one
  obtain ⟨z, its, n, r, hl, e⟩ := I.IM hH
  refine call_meets F.slot_list_append ⟨_, e, rfl⟩ F.entry_list_append (F.args_list_append_2 _ _) (PySem.list_append l its.toArray n u (by rw [List.size_toArray]; omega)) ⟨e, ?_⟩
  refine ⟨.non, _, I.QK (its' := its ++ [u]) hH e (by simp) (r.append (.cons ru .nil)) ?_, rfl, q⟩
  rw [List.length_append, List.length_singleton]
  omega
def Md : V → List V → Hp → VK → Prop := fun x vs H Q => ∃ l b xs zs, x = .ref l ∧ vs = [.ref b] ∧ H l = some (.lst xs) ∧ H b = some (.lst zs) ∧ xs.length + zs.length ≤ sizeLine ∧ Q .non (upd H l (.lst (xs ++ zs)))
theorem PR : MtM X "list.extend" Md := by
  intro pins s σ H x vs v us Q I rx rv h
  obtain ⟨l, b, xs, zs, rfl, rfl, hH, hB, hz, q⟩ := h
  cases rx
  obtain ⟨u, rfl, ru⟩ := rv.one
  cases ru
  obtain ⟨z, its, n, r, hl, e⟩ := I.IM hH
  obtain ⟨z2, its2, n2, r2, hl2, e2⟩ := I.IM hB
  have hsz : its.toArray.size + its2.toArray.size ≤ sizeLine := by rw [List.size_toArray, List.size_toArray]; omega
  have hlong : ¬ (!its.toArray.isEmpty && Builtin.List.listTooLong (its.toArray.size + its2.toArray.size)) = true := by
    rw [JL hsz, Bool.and_false]
    exact Bool.false_ne_true
  refine call_meets F.slot_list_extend ⟨_, e, rfl⟩ F.entry_list_extend (F.args_list_extend_2 _ _)
    (AutoSeq1.list_extend_list_list_0 l its.toArray n b its2.toArray n2 hlong (by rw [List.size_toArray]; omega) (by omega)) ⟨e, e2, ?_⟩
  refine ⟨.non, _, I.QK (its' := its ++ its2) hH e (by simp) (r.append r2) ?_, rfl, q⟩
  rw [List.length_append]
  omega
def Pc : R2 := fun x y H Q => ∃ l b xs zs, x = .ref l ∧ y = .ref b ∧ H l = some (.lst xs) ∧ H b = some (.lst zs) ∧ xs.length + zs.length ≤ sizeLine ∧ ∀ p, H p = none → Q (.ref p) (upd H p (.lst (xs ++ zs)))
theorem OK : OpR X (binaryOp .Add) Pc := by
  intro pins s σ H x y v u Q I rx ry h
  obtain ⟨l, b, xs, zs, rfl, rfl, hH, hB, hz, q⟩ := h
  cases rx
  cases ry
  obtain ⟨z, its, n, r, hl, e⟩ := I.IM hH
  obtain ⟨z2, its2, n2, r2, hl2, e2⟩ := I.IM hB
  refine PySem.P.add_list e e2 ?_ (by rw [List.size_toArray, List.size_toArray]; omega)
  have ea : its.toArray ++ its2.toArray = (its ++ its2).toArray := by simp
  rw [ea]
  exact ⟨.ref _, _, I.RJ (t' := s.toks) (r.append r2) (by rw [List.length_append]; omega), rfl, q _ I.fresh⟩
end
section
variable {prog : Program} {w : World} {A : Around} {E : Value → Shared → Prop} {s : Shared}
end
section
variable {X : Cx}
end
end L2
namespace Att
open PySem PySem.W PySem.Calls PyProof.Rows
theorem xq {P : Params} {h : Heap} : ∀ (ns : List Int) (vs : List Value), WellAll P h vs (ns.map WData.int) → IntsAre vs ns := by
  intro ns
  induction ns with
  | nil =>
    intro vs w
    rw [List.map_nil] at w
    cases w
    exact .nil
  | cons n ns ih =>
    intro vs w
    rw [List.map_cons] at w
    cases w with
    | cons a b =>
      cases a
      exact .cons _ _ (ih _ b)
theorem HY {l : OpenLaw} {n : Nat} (hn : l.most = some n) {P : Params} {h : Heap} {args : List WData} {vals : List Value}
    (hpre : l.row.toRowW.claim.pre args = true) (hwl : WellAll P h vals args) :
    ∃ a vs ns, vals = [Value.ref a] ∧ args = [WData.list (ns.map WData.int)] ∧ h.get? a = some { cls := .type "list", data := .seq vs.toArray } ∧ IntsAre vs ns ∧ ns.length ≤ n := by
  have hsh : WShape.hasAll [] args [.list .int] = true := (pre_splitW hpre).1
  have hc : l.pre.holds [] { args := args } = true := (pre_splitW hpre).2
  obtain ⟨d, r, rfl, h1, h2⟩ := hasAllW_cons hsh
  obtain rfl := hasAllW_nil h2
  obtain ⟨xs, rfl, h3⟩ := hasW_list h1
  obtain ⟨ns, rfl⟩ := items_int h3
  have hlen : ns.length ≤ n := by
    unfold OpenLaw.pre at hc
    have h4 : (WTm.not (.lt (.lit (.int (n : Int))) (.len (.arg 0)))).holds [] { args := [.list (ns.map .int)] } = true := by
      have h4 := (holds_andW hc).1
      rw [hn] at h4
      exact h4
    have h5 := condW_of h4 (w_not (w_lt w_lit (w_len_list (w_arg rfl))))
    rw [List.length_map] at h5
    refine Nat.le_of_not_lt fun q => ?_
    have q' : (n : Int) < ((ns.length : Nat) : Int) := by omega
    first
      | (rw [decide_eq_true q'] at h5; exact absurd h5 (by decide))
      | (simp at h5; omega)
  cases hwl with
  | cons w1 w2 =>
    cases w2
    cases w1 with
    | list ho hall => exact ⟨_, _, ns, rfl, rfl, ho, xq ns _ hall, hlen⟩
theorem IL (l : OpenLaw) (args : List WData) : l.row.toRowW.claim.post args (.bool true) args = true :=
  postW_of (r := l.row.toRowW) (X := (true == true))
    (show WShape.has [] (.bool true) .bool = true by first | rfl | decide | simp [WShape.has, WShape.arms, WShape.armsAll])
    (show (WTm.eq .res (.lit (.bool true))).value [] { args := args, res := some (.bool true), after := args } = some (.bool (true == true)) from w_eq_bool (w_res rfl) w_lit) rfl
theorem D1 {l : OpenLaw} {n : Nat} {q : Program} {loose : List Str} {XP : (Str → Option Value) → Heap → Prop} {YP : World → Heap → Prop} {d : DefRec}
    (hn : l.most = some n) (hdf : d.params.defaults = [])
    (call : ∀ (w : World) (s₀ s₁ : Shared) (mg mb : Str → Option Value) (fa : Addr) (o : Obj) (pm cd doc : Value) (a : Addr) (vs : List Value) (ns : List Int),
      Ground q loose [] XP w s₀ mg mb s₁.heap → YP w s₁.heap →
      s₁.heap.get? fa = some o → o.data = .func (docDef d.name d.params d.body d.scope pm cd doc) → s₁.heap.CodeRec cd d.name → mg d.name = some (.ref fa) →
      s₁.heap.get? a = some { cls := .type "list", data := .seq vs.toArray } → IntsAre vs ns → ns.length ≤ n → s₁.gens = #[] →
      codeAny (model l.prog w) callerA (.call (.ref fa) ⟨[.ref a], []⟩) (fun r s' => r = .ok (.ret (.bool true)) ∧ OldK s₁.heap s'.heap ∧ s'.os = s₁.os ∧ AllBare s'.gens) s₁) :
    WalkO q loose XP YP l.row.toRowW d [] (fun f vs => PySem.call f vs) := by
  intro w s₀ s₁ mg mb G Y fa o pm cd doc dV kV ho hd hcd hD hmg hg args vals as hpre hlay hrd hwl hlo
  obtain rfl : dV = .none := Dflts.none hD hdf
  obtain rfl : kV = .none := Dflts.noKw hD
  obtain ⟨a, vs, ns, rfl, rfl, hobj, hints, hlen⟩ := HY hn hpre hwl
  refine enter_call (codeAny_mono (call w s₀ s₁ mg mb fa o pm cd doc a vs ns G Y ho (fd_plain hd) hcd hmg hobj hints hlen hg) fun r s' hq => ?_)
  obtain ⟨rfl, h2, h3, h4⟩ := hq
  exact ⟨.inl ⟨.bool true, .bool true, [], rfl, fun _ => rfl, .bool true, IL l _, fun _ => ⟨List.Pairwise.nil, fun _ hm => (nomatch hm)⟩⟩, h2, h3, h4⟩
section
variable {prog : Program} {w : World} {A : Around} {E : Value → Shared → Prop} {s : Shared} {K : Frag}
def ledger (h : Heap) (L d : Addr) : List (Addr × Obj) := (List.range h.objs.size).filterMap fun a => if a = L ∨ a = d then none else (h.get? a).map fun o => (a, o)
end
end Att
namespace L2
open PySem PySem.Spec PyProof.Rows
theorem Al : ∀ {vs : List Value} {ns : List Int}, IntsAre vs ns → Vals (ns.map V.int) vs
  | _, _, .nil => .nil
  | _, _, .cons n t h => .cons ⟨t, rfl⟩ (Al h)
end L2
namespace L2
open PySem PySem.Spec PyProof.Rows
end L2
namespace L2
open PySem PySem.Spec PyProof.Rows
abbrev CX0 : CXT := fun _ _ _ _ _ _ => False
abbrev E0 : XK := fun _ _ _ => False
theorem QB {X : Cx} : Passes CX0 X E0 := fun _ _ _ _ _ _ _ h => h.elim
structure Fun (K : PySem.W.Frag) (x qual : Str) (st : Stmt) (f : Addr) (fd : FuncData) : Prop where
  ex : ∃ (oc : Value) (od : Option Addr) (kV doc pm : Value) (an : Option Addr) (cdv ct : Value) (osl : Array (Option Value)),
    fd = PySem.W.fnOf x qual (rm st) (eW st) (aq st) .none kV doc pm an cdv ct ∧ K.lookup f = some ⟨oc, od, .func fd, osl⟩ ∧ PySem.W.codeIn K cdv qual = true
  kp : PySem.W.keepIn K (.ref f) = true
section
variable {P : Program} {w : World} {K : PySem.W.Frag} {mg : Str → Option Value} {base : Heap}
theorem Fun.ok {x qual : Str} {st : Stmt} {f : Addr} {fd : FuncData} {N ps : List Str} {k : Nat} {sp : Sp} (F : Fun K x qual st f fd) (S : aD N ps (aq st)) (len : ∀ vs H Q E, sp vs H Q E → vs.length = ps.length)
    (hbody : ∀ (cdv : Value) (A : Around) (outer : List Env) (s : Shared) (H : Hp) (vs : List V) (Q : VK) (E : XK), fi k (A.deeper (envOfC qual (aq st) s.heap.objs.size f cdv)) → sp vs H Q E →
      ∃ t, PSs (lS CX0 P w K mg base N qual (aq st) f cdv A outer s H E).nox (eW st) t ∧ t { nx := fun _ H' => Q .non H', rt := Q } (start N vs) H) : bG P w K mg base CX0 (k + 1) f fd ps sp := by
  obtain ⟨oc, od, kV, doc, pm, an, cdv, ct, osl, rfl, lk, hcd⟩ := F.ex
  refine Jg lk hcd S len fun A outer s H vs Q E hr hsp => ?_
  obtain ⟨t, h, q⟩ := hbody cdv A outer s H vs Q E hr hsp
  exact ⟨t, h.nox, q⟩
theorem Fun.binds {x qual : Str} {st : Stmt} {f : Addr} {fd : FuncData} {ps : List Str} (F : Fun K x qual st f fd)
    (h : ∀ (kV doc pm : Value) (an : Option Addr) (cdv ct : Value) (us : List Value), us.length = ps.length → bindArgs (PySem.W.fnOf x qual (rm st) (eW st) (aq st) .none kV doc pm an cdv ct) ⟨us, []⟩ = pure (ps.zip us)) : Binds K fd ps [] := by
  obtain ⟨oc, od, kV, doc, pm, an, cdv, ct, osl, rfl, lk, hcd⟩ := F.ex
  exact .all (h kV doc pm an cdv ct)
theorem aS {x qual : Str} {st : Stmt} {f : Addr} {oc : Value} {od an : Option Addr} {osl : Array (Option Value)} {kV doc pm cdv ct : Value} (l : K.lookup f = some ⟨oc, od, .func (PySem.W.fnOf x qual (rm st) (eW st) (aq st) .none kV doc pm an cdv ct), osl⟩)
    (c : PySem.W.codeIn K cdv qual = true) (k : PySem.W.keepIn K (.ref f) = true) : Fun K x qual st f (PySem.W.fnOf x qual (rm st) (eW st) (aq st) .none kV doc pm an cdv ct) := ⟨⟨oc, od, kV, doc, pm, an, cdv, ct, osl, rfl, l, c⟩, k⟩
end
theorem eL {n : Nat} (h : n ≤ 1000) : n < sizeLine := Nat.lt_of_le_of_lt h (by decide)
section
variable {X : Cx}
end
theorem By {A B : Prop} (h : B) : if false = true then A else B := by
  rw [if_neg Bool.false_ne_true]
  exact h
theorem zm {A B : Prop} (h : A) : if true = true then A else B := by
  rw [if_pos rfl]
  exact h
def qA (H H' : Hp) : Prop := ∀ b o, H b = some o → H' b = some o
theorem qA.refl (H : Hp) : qA H H := fun _ _ h => h
theorem qA.trans {H H1 H2 : Hp} (a : qA H H1) (b : qA H1 H2) : qA H H2 := fun c o h => b c o (a c o h)
theorem qA.free {H H' : Hp} (e : qA H H') {l : Addr} (h : H' l = Option.none) : H l = Option.none := by
  cases q : H l with
  | none => rfl
  | some o =>
    rw [e l o q] at h
    cases h
end L2
set_option linter.all false
set_option maxRecDepth 100000
set_option maxHeartbeats 4000000
namespace NM
@[irreducible] def Sz (n : Nat) (i : Int) : Prop := i.natAbs < 2 ^ n
theorem Sz.mono {n m : Nat} {i : Int} (h : Sz n i) (l : n ≤ m) : Sz m i := by unfold Sz at *; exact Nat.lt_of_lt_of_le h (Nat.pow_le_pow_right (by decide) l)
theorem Sz.mul {n m : Nat} {i j : Int} (h : Sz n i) (g : Sz m j) : Sz (n + m) (i * j) := by
  unfold Sz at *
  rw [Int.natAbs_mul, Nat.pow_add]
  exact Nat.mul_lt_mul'' h g
theorem Sz.add {n : Nat} {i j : Int} (h : Sz n i) (g : Sz n j) : Sz (n + 1) (i + j) := by
  unfold Sz at *
  have := Int.natAbs_add_le i j
  rw [Nat.pow_succ]
  omega
theorem Sz.neg {n : Nat} {i : Int} (h : Sz n i) : Sz n (-i) := by unfold Sz at *; rw [Int.natAbs_neg]; exact h
theorem Sz.sub {n : Nat} {i j : Int} (h : Sz n i) (g : Sz n j) : Sz (n + 1) (i - j) := by rw [Int.sub_eq_add_neg]; exact h.add g.neg
theorem Sz.le {n : Nat} {i j : Int} (h : Sz n i) (g : j.natAbs ≤ i.natAbs) : Sz n j := by unfold Sz at *; exact Nat.lt_of_le_of_lt g h
theorem Sz.of {n : Nat} {i : Int} (h : i.natAbs < 2 ^ n) : Sz n i := by unfold Sz; exact h
theorem Sz.lt {n : Nat} {i : Int} (h : Sz n i) : i.natAbs < 2 ^ n := by unfold Sz at h; exact h
def g3 (a b c : Int) : Nat := Int.gcd (Int.gcd a b : Nat) c
theorem Ml (a b c : Int) : Int.gcd (Int.gcd c a : Nat) b = g3 a b c := by
  unfold g3
  simp only [Int.gcd, Int.natAbs_natCast]
  rw [Nat.gcd_assoc, Nat.gcd_comm]
theorem Kj (a b c : Int) : ((g3 a b c : Nat) : Int) ∣ a ∧ ((g3 a b c : Nat) : Int) ∣ b ∧ ((g3 a b c : Nat) : Int) ∣ c := by
  have h : ((g3 a b c : Nat) : Int) ∣ ((Int.gcd a b : Nat) : Int) := Int.gcd_dvd_left ..
  exact ⟨Int.dvd_trans h (Int.gcd_dvd_left ..), Int.dvd_trans h (Int.gcd_dvd_right ..), Int.gcd_dvd_right ..⟩
theorem OW {a b c : Int} {k : Nat} (h1 : (k : Int) ∣ a) (h2 : (k : Int) ∣ b) (h3 : (k : Int) ∣ c) : k ∣ g3 a b c := by
  unfold g3
  exact Int.dvd_gcd (Int.natCast_dvd_natCast.mpr (Int.dvd_gcd h1 h2)) h3
theorem B3 {a b c : Int} (h : c ≠ 0) : 0 < g3 a b c := by
  unfold g3
  exact Int.gcd_pos_of_ne_zero_right _ h
theorem FL (a b c k : Int) : g3 (a * k) (b * k) (c * k) = g3 a b c * k.natAbs := by
  unfold g3
  simp only [Int.gcd, Int.natAbs_natCast, Int.natAbs_mul, Nat.gcd_mul_right]
theorem Eh (a b c : Int) : g3 a (-b) c = g3 a b c := by
  unfold g3
  rw [Int.gcd_neg]
theorem JD (a b c : Int) : g3 (-a) b c = g3 a b c := by
  unfold g3
  rw [Int.neg_gcd]
structure N3 where
  a : Int
  b : Int
  c : Int
deriving DecidableEq
theorem N3.ext' {x y : N3} (h1 : x.a = y.a) (h2 : x.b = y.b) (h3 : x.c = y.c) : x = y := by cases x; cases y; simp_all
structure Ok (x : N3) : Prop where
  c : 0 < x.c
  g : g3 x.a x.b x.c = 1
def dv (a b c : Int) : Int := if c < 0 then -(g3 a b c : Nat) else (g3 a b c : Nat)
def low (a b c : Int) : N3 := ⟨a.fdiv (dv a b c), b.fdiv (dv a b c), c.fdiv (dv a b c)⟩
theorem BQ {a k q : Int} (hk : k ≠ 0) (h : a = k * q) : a.fdiv k = q := by
  subst h
  exact Int.mul_fdiv_cancel_left q hk
theorem Qs {a b c : Int} (h : c ≠ 0) : dv a b c ≠ 0 := by
  have := B3 (a := a) (b := b) h
  unfold dv
  split <;> omega
theorem Pl (a b c : Int) : dv a b c ∣ a ∧ dv a b c ∣ b ∧ dv a b c ∣ c := by
  obtain ⟨h1, h2, h3⟩ := Kj a b c
  unfold dv
  split
  · exact ⟨Int.neg_dvd.mpr h1, Int.neg_dvd.mpr h2, Int.neg_dvd.mpr h3⟩
  · exact ⟨h1, h2, h3⟩
theorem lh (a b : Int) {c : Int} (h : c ≠ 0) : ∃ k : Int, k ≠ 0 ∧ (0 < k ↔ 0 < c) ∧ a = k * (low a b c).a ∧ b = k * (low a b c).b ∧ c = k * (low a b c).c ∧ Ok (low a b c) := by
  have hk := Qs (a := a) (b := b) h
  obtain ⟨⟨p, hp⟩, ⟨q, hq⟩, ⟨r, hr⟩⟩ := Pl a b c
  have ep : (low a b c).a = p := BQ hk hp
  have eq : (low a b c).b = q := BQ hk hq
  have er : (low a b c).c = r := BQ hk hr
  have hg := B3 (a := a) (b := b) h
  have hs : 0 < dv a b c ↔ 0 < c := by unfold dv; split <;> omega
  have hr0 : 0 < r := by
    have hr' : r ≠ 0 := fun z => h (by rw [hr, z, Int.mul_zero])
    rcases Int.lt_trichotomy 0 (dv a b c) with z | z | z
    · have := hs.mp z
      rw [hr] at this
      rw [Int.mul_comm] at this
      exact Int.pos_of_mul_pos_left this z |> fun t => t
    · exact absurd z.symm hk
    · have : c < 0 := by omega
      rcases Int.lt_trichotomy 0 r with w | w | w
      · exact w
      · exact absurd w.symm hr'
      · have := Int.mul_pos_of_neg_of_neg z w
        rw [← hr] at this
        omega
  refine ⟨dv a b c, hk, hs, by rw [ep]; exact hp, by rw [eq]; exact hq, by rw [er]; exact hr, by rw [er]; exact hr0, ?_⟩
  rw [ep, eq, er]
  have e := FL p q r (dv a b c)
  rw [Int.mul_comm p, Int.mul_comm q, Int.mul_comm r, ← hp, ← hq, ← hr] at e
  have e2 : (dv a b c).natAbs = g3 a b c := by unfold dv; split <;> simp
  rw [e2] at e
  have : g3 p q r * g3 a b c = 1 * g3 a b c := by omega
  exact Nat.eq_of_mul_eq_mul_right hg this
theorem j8 (a b : Int) {c : Int} (h : c ≠ 0) : Ok (low a b c) := (lh a b h).choose_spec.2.2.2.2.2
theorem Ok.same {x y : N3} (hx : Ok x) (hy : Ok y) (h1 : x.a * y.c = y.a * x.c) (h2 : x.b * y.c = y.b * x.c) : x = y := by
  have key : ∀ {u v : N3}, Ok u → Ok v → u.a * v.c = v.a * u.c → u.b * v.c = v.b * u.c → u.c ∣ v.c := fun {u v} hu hv e1 e2 => by
    have hd : u.c.natAbs ∣ g3 (u.a * v.c) (u.b * v.c) (u.c * v.c) := OW
      (by rw [Int.natAbs_of_nonneg (Int.le_of_lt hu.c), e1]; exact Int.dvd_mul_left _ _) (by rw [Int.natAbs_of_nonneg (Int.le_of_lt hu.c), e2]; exact Int.dvd_mul_left _ _) (by rw [Int.natAbs_of_nonneg (Int.le_of_lt hu.c)]; exact Int.dvd_mul_right _ _)
    rw [FL, hu.g, Nat.one_mul] at hd
    exact Int.natAbs_dvd_natAbs.mp hd
  have hc : x.c = y.c := Int.dvd_antisymm (Int.le_of_lt hx.c) (Int.le_of_lt hy.c) (key hx hy h1 h2) (key hy hx h1.symm h2.symm)
  have hn : y.c ≠ 0 := by have := hy.c; omega
  rw [hc] at h1 h2
  exact N3.ext' (Int.eq_of_mul_eq_mul_right hn h1) (Int.eq_of_mul_eq_mul_right hn h2) hc
theorem Ow {a b c a' b' c' : Int} (h : c ≠ 0) (h' : c' ≠ 0) (e1 : a * c' = a' * c) (e2 : b * c' = b' * c) : low a b c = low a' b' c' := by
  obtain ⟨k, hk, _, p1, p2, p3, o⟩ := lh a b h
  obtain ⟨l, hl, _, q1, q2, q3, o'⟩ := lh a' b' h'
  generalize low a b c = x at *
  generalize low a' b' c' = y at *
  subst p1 p2 p3 q1 q2 q3
  have hkl : k * l ≠ 0 := Int.mul_ne_zero hk hl
  refine o.same o' (Int.eq_of_mul_eq_mul_left hkl (by grind)) (Int.eq_of_mul_eq_mul_left hkl (by grind))
theorem Ok.low {x : N3} (h : Ok x) : low x.a x.b x.c = x := by
  have hc : x.c ≠ 0 := by have := h.c; omega
  obtain ⟨k, hk, _, p1, p2, p3, o⟩ := lh x.a x.b hc
  refine o.same h ?_ ?_
  · exact Int.eq_of_mul_eq_mul_left hk (by grind)
  · exact Int.eq_of_mul_eq_mul_left hk (by grind)
theorem Ok.OQ {x : N3} {a b c : Int} (h : Ok x) (hc : c ≠ 0) (e1 : x.a * c = a * x.c) (e2 : x.b * c = b * x.c) : x = NM.low a b c := by
  have q := Ow (by have := h.c; omega) hc e1 e2
  rw [h.low] at q
  exact q
theorem K1 (a b : Int) {c : Int} (h : c ≠ 0) : (low a b c).a.natAbs ≤ a.natAbs ∧ (low a b c).b.natAbs ≤ b.natAbs ∧ (low a b c).c.natAbs ≤ c.natAbs := by
  obtain ⟨k, hk, _, p1, p2, p3, _⟩ := lh a b h
  have hk' : 1 ≤ k.natAbs := by omega
  have le : ∀ {u v : Int}, u = k * v → v.natAbs ≤ u.natAbs := fun {u v} e => by
    rw [e, Int.natAbs_mul]
    exact Nat.le_mul_of_pos_left _ hk'
  exact ⟨le p1, le p2, le p3⟩
structure Bd (n : Nat) (x : N3) : Prop where
  a : Sz n x.a
  b : Sz n x.b
  c : Sz n x.c
theorem Bd.mono {n m : Nat} {x : N3} (h : Bd n x) (l : n ≤ m) : Bd m x := ⟨h.a.mono l, h.b.mono l, h.c.mono l⟩
theorem mR {a b c : Int} {n : Nat} (h : c ≠ 0) (ha : Sz n a) (hb : Sz n b) (hc : Sz n c) : Bd n (low a b c) := by
  obtain ⟨h1, h2, h3⟩ := K1 a b h
  exact ⟨ha.le h1, hb.le h2, hc.le h3⟩
def plus (x y : N3) : N3 := low (x.a * y.c + y.a * x.c) (x.b * y.c + y.b * x.c) (x.c * y.c)
def less (x y : N3) : N3 := low (x.a * y.c - y.a * x.c) (x.b * y.c - y.b * x.c) (x.c * y.c)
def times (d : Int) (x y : N3) : N3 := low (x.a * y.a + d * x.b * y.b) (x.a * y.b + x.b * y.a) (x.c * y.c)
def norm (d : Int) (x : N3) : Int := x.a * x.a - d * x.b * x.b
def az (d : Int) (x : N3) : N3 := low (x.c * x.a) (-x.c * x.b) (norm d x)
def bZ (x : N3) : N3 := ⟨x.a, -x.b, x.c⟩
def minus (x : N3) : N3 := ⟨-x.a, -x.b, x.c⟩
def aA : N3 := ⟨0, 0, 1⟩
def one : N3 := ⟨1, 0, 1⟩
theorem Ok.cn {x : N3} (h : Ok x) : x.c ≠ 0 := by have := h.c; omega
theorem vJ {x y : N3} (h : Ok x) (g : Ok y) : x.c * y.c ≠ 0 := Int.mul_ne_zero h.cn g.cn
theorem aZ {x : N3} (h : Ok x) : Ok (bZ x) := ⟨h.c, by show g3 x.a (-x.b) x.c = 1; rw [Eh]; exact h.g⟩
theorem Dn {x : N3} (h : Ok x) : Ok (minus x) := ⟨h.c, by show g3 (-x.a) (-x.b) x.c = 1; rw [JD, Eh]; exact h.g⟩
theorem fI {x y : N3} (h : Ok x) (g : Ok y) : Ok (plus x y) := j8 _ _ (vJ h g)
theorem pj {x y : N3} (h : Ok x) (g : Ok y) : Ok (less x y) := j8 _ _ (vJ h g)
theorem aQ {d : Int} {x y : N3} (h : Ok x) (g : Ok y) : Ok (times d x y) := j8 _ _ (vJ h g)
theorem vM : Ok aA := ⟨by decide, by decide⟩
theorem Jw : Ok one := ⟨by decide, by decide⟩
theorem jL {n : Nat} {x : N3} (h : Bd n x) : Bd n (bZ x) := ⟨h.a, h.b.neg, h.c⟩
theorem DR {n : Nat} {x : N3} (h : Bd n x) : Bd n (minus x) := ⟨h.a.neg, h.b.neg, h.c⟩
theorem rz {n m : Nat} {x y : N3} (hx : Ok x) (hy : Ok y) (h : Bd n x) (g : Bd m y) : Bd (n + m + 1) (plus x y) :=
  mR (vJ hx hy) ((h.a.mul g.c).add ((g.a.mul h.c).mono (by omega))) ((h.b.mul g.c).add ((g.b.mul h.c).mono (by omega))) ((h.c.mul g.c).mono (by omega))
theorem Mr {n m : Nat} {x y : N3} (hx : Ok x) (hy : Ok y) (h : Bd n x) (g : Bd m y) : Bd (n + m + 1) (less x y) :=
  mR (vJ hx hy) ((h.a.mul g.c).sub ((g.a.mul h.c).mono (by omega))) ((h.b.mul g.c).sub ((g.b.mul h.c).mono (by omega))) ((h.c.mul g.c).mono (by omega))
theorem sM {d : Int} (h : 2 ≤ d) (h' : d ≤ 30) : Sz 5 d := by unfold Sz; omega
theorem bM {n m : Nat} {d : Int} {x y : N3} (hd : Sz 5 d) (hx : Ok x) (hy : Ok y) (h : Bd n x) (g : Bd m y) : Bd (n + m + 6) (times d x y) :=
  mR (vJ hx hy) (((h.a.mul g.a).mono (by omega)).add (((hd.mul h.b).mul g.b).mono (by omega))) ((((h.a.mul g.b).mono (by omega : n + m ≤ n + m)).add ((h.b.mul g.a).mono (by omega))).mono (by omega)) ((h.c.mul g.c).mono (by omega))
theorem xF {n : Nat} {d : Int} {x : N3} (hd : Sz 5 d) (h : Bd n x) : Sz (2 * n + 6) (norm d x) := by
  have e1 := h.a.mul h.a
  have e2 := (hd.mul h.b).mul h.b
  exact ((e1.mono (by omega : n + n ≤ 5 + n + n)).sub e2).mono (by omega)
theorem cC {n : Nat} {d : Int} {x : N3} (hd : Sz 5 d) (hn : norm d x ≠ 0) (h : Bd n x) : Bd (2 * n + 6) (az d x) :=
  mR hn ((h.c.mul h.a).mono (by omega)) ((h.c.neg.mul h.b).mono (by omega)) (xF hd h)
def aF (d : Int) : Prop := 2 ≤ d ∧ d ≤ 30 ∧ d ≠ 4 ∧ d ≠ 9 ∧ d ≠ 16 ∧ d ≠ 25
theorem Ig {d : Nat} (h : ∀ m : Nat, m * m ≠ d) : ∀ {a b : Nat}, a * a = d * (b * b) → b = 0 := fun {a b} e => by
  rcases Nat.eq_zero_or_pos b with hb | hb
  · exact hb
  exfalso
  obtain ⟨g, p, q, hg, hc, rfl, rfl⟩ := Nat.exists_coprime' (m := a) (n := b) (Nat.gcd_pos_of_pos_right _ hb)
  have e2 : (p * p) * (g * g) = (d * (q * q)) * (g * g) := by grind
  have e3 : p * p = d * (q * q) := Nat.eq_of_mul_eq_mul_right (Nat.mul_pos hg hg) e2
  have hq : q ∣ p * p := ⟨d * q, by rw [e3]; grind⟩
  have hq1 : q ∣ p := hc.symm.dvd_of_dvd_mul_left hq
  have hq2 : q = 1 := by
    have := Nat.dvd_gcd hq1 (Nat.dvd_refl q)
    rw [hc] at this
    exact Nat.dvd_one.mp this
  subst hq2
  exact h p (by rw [e3]; simp)
theorem aF.nat {d : Int} (h : aF d) : ∀ m : Nat, m * m ≠ d.toNat := fun m e => by
  obtain ⟨h1, h2, h3, h4, h5, h6⟩ := h
  have hm : m ≤ 5 := by
    rcases Nat.lt_or_ge 5 m with z | z
    · have := Nat.mul_le_mul z z; omega
    · exact z
  have : m = 0 ∨ m = 1 ∨ m = 2 ∨ m = 3 ∨ m = 4 ∨ m = 5 := by omega
  rcases this with rfl | rfl | rfl | rfl | rfl | rfl <;> omega
theorem aF.Gm {d a b : Int} (h : aF d) (e : a * a = d * b * b) : a = 0 ∧ b = 0 := by
  have hd : d = ((d.toNat : Nat) : Int) := by have := h.1; omega
  have e1 : a.natAbs * a.natAbs = d.toNat * (b.natAbs * b.natAbs) := by
    have e2 := congrArg Int.natAbs e
    rw [Int.natAbs_mul, Int.natAbs_mul, Int.natAbs_mul] at e2
    rw [e2, Nat.mul_assoc]
    congr 1
    omega
  have hb := Ig h.nat e1
  have hb' : b = 0 := by omega
  subst hb'
  have : a * a = 0 := by rw [e]; simp
  exact ⟨by rcases Int.mul_eq_zero.mp this with z | z <;> exact z, rfl⟩
theorem aF.norm {d : Int} {x : N3} (h : aF d) (ok : Ok x) (hx : x ≠ aA) : norm d x ≠ 0 := fun e => by
  have e' : x.a * x.a = d * x.b * x.b := by unfold NM.norm at e; omega
  obtain ⟨h1, h2⟩ := h.Gm e'
  apply hx
  have hg := ok.g
  rw [h1, h2] at hg
  have hc := ok.c
  have : x.c = 1 := by
    unfold g3 at hg
    simp [Int.gcd] at hg
    omega
  exact N3.ext' h1 h2 this
theorem aK {d : Int} {x : N3} (h : NM.norm d x ≠ 0) : Ok (az d x) := j8 _ _ h
def sg (d a b : Int) : Int :=
  if a = 0 ∧ b = 0 then 0 else if 0 ≤ a ∧ 0 ≤ b then 1 else if a ≤ 0 ∧ b ≤ 0 then -1 else if (if d * b * b < a * a then a else b) > 0 then 1 else -1
theorem G9 {u v : Int} (hu : 0 ≤ u) (h : u * u ≤ v * v) (hv : 0 ≤ v) : u ≤ v := by
  rcases Int.lt_or_le v u with z | z
  · have := Int.mul_lt_mul_of_pos_left z (show 0 < u by omega)
    have := Int.mul_le_mul_of_nonneg_right (Int.le_of_lt z) hv
    omega
  · exact z
theorem sq_nonneg (u : Int) : 0 ≤ u * u := by
  rcases Int.le_total 0 u with h | h
  · exact Int.mul_nonneg h h
  · exact Int.mul_nonneg_of_nonpos_of_nonpos h h
theorem sq_pos {u : Int} (h : u ≠ 0) : 0 < u * u := by
  have := sq_nonneg u
  have : u * u ≠ 0 := Int.mul_ne_zero h h
  omega
def P (d a b : Int) : Prop := (0 ≤ a ∧ 0 ≤ b ∧ ¬ (a = 0 ∧ b = 0)) ∨ (0 < a ∧ b < 0 ∧ d * b * b < a * a) ∨ (a < 0 ∧ 0 < b ∧ a * a < d * b * b)
theorem ke {d a b : Int} (h : aF d) : sg d a b = 1 ↔ P d a b := by
  unfold sg P
  have key : a * a = d * b * b → a = 0 ∧ b = 0 := h.Gm
  by_cases c1 : d * b * b < a * a
  · simp only [c1, if_true]; split <;> (try split) <;> (try split) <;> (try split) <;> simp <;> omega
  · simp only [c1, if_false]; split <;> (try split) <;> (try split) <;> (try split) <;> simp <;> omega
theorem Bo {d a b : Int} (h : aF d) : sg d (-a) (-b) = - sg d a b := by
  unfold sg
  have key : a * a = d * b * b → a = 0 ∧ b = 0 := h.Gm
  have e1 : d * -b * -b = d * b * b := by grind
  have e2 : -a * -a = a * a := by grind
  rw [e1, e2]
  by_cases c1 : d * b * b < a * a
  · simp only [c1, if_true]; split <;> split <;> (try split) <;> (try split) <;> (try split) <;> (try split) <;> (try split) <;> (try split) <;> omega
  · simp only [c1, if_false]; split <;> split <;> (try split) <;> (try split) <;> (try split) <;> (try split) <;> (try split) <;> (try split) <;> omega
theorem ey {d a b : Int} : sg d a b = 0 ↔ a = 0 ∧ b = 0 := by
  unfold sg; split <;> (try split) <;> (try split) <;> (try split) <;> omega
theorem tD (d a b : Int) : sg d a b = 0 ∨ sg d a b = 1 ∨ sg d a b = -1 := by
  unfold sg; split <;> (try split) <;> (try split) <;> (try split) <;> omega
theorem Q3 {d a b : Int} (h : aF d) : (a = 0 ∧ b = 0) ∨ P d a b ∨ P d (-a) (-b) := by
  rcases tD d a b with e | e | e
  · exact .inl (ey.mp e)
  · exact .inr (.inl ((ke h).mp e))
  · exact .inr (.inr ((ke h).mp (by rw [Bo h, e]; rfl)))
theorem pA {d a b : Int} (h : aF d) (n : d * b * b < a * a) : P d a b ↔ 0 < a := by
  unfold P
  have := sq_nonneg b
  have h0 : 0 ≤ d * b * b := by rw [Int.mul_assoc]; exact Int.mul_nonneg (by have := h.1; omega) this
  have ha : a ≠ 0 := fun z => by subst z; simp at n; omega
  omega
theorem lB {d a b : Int} (h : aF d) (n : a * a < d * b * b) : P d a b ↔ 0 < b := by
  unfold P
  have h0 := sq_nonneg a
  have hb : b ≠ 0 := fun z => by subst z; simp at n; omega
  omega
theorem vg {u v : Int} (h : v * v < u * u) : 0 < u + v ↔ 0 < u := by
  have hu : u ≠ 0 := fun z => by subst z; have := sq_nonneg v; simp at h; omega
  have l : v.natAbs < u.natAbs := by
    rcases Nat.lt_or_ge v.natAbs u.natAbs with z | z
    · exact z
    · have := Nat.mul_le_mul z z
      have e1 : ((u.natAbs * u.natAbs : Nat) : Int) = u * u := Int.natAbs_mul_self
      have e2 : ((v.natAbs * v.natAbs : Nat) : Int) = v * v := Int.natAbs_mul_self
      omega
  omega
theorem mul_pos_iff {u v : Int} (hu : u ≠ 0) (hv : v ≠ 0) : 0 < u * v ↔ (0 < u ↔ 0 < v) := by
  rcases Int.lt_or_gt_of_ne hu with h | h <;> rcases Int.lt_or_gt_of_ne hv with g | g
  · have := Int.mul_pos_of_neg_of_neg h g; omega
  · have := Int.mul_neg_of_neg_of_pos h g; omega
  · have := Int.mul_neg_of_pos_of_neg h g; omega
  · have := Int.mul_pos h g; omega
theorem yN {u v s t : Int} (hu : 0 ≤ u) (h : u < v) (hs : 0 ≤ s) (g : s < t) : u * s < v * t := by
  have e1 : u * s ≤ v * s := Int.mul_le_mul_of_nonneg_right (Int.le_of_lt h) hs
  have e2 : v * s < v * t := Int.mul_lt_mul_of_pos_left g (by omega)
  omega
theorem dsq {d b : Int} (hd : 0 < d) : 0 ≤ d * b * b := by rw [Int.mul_assoc]; exact Int.mul_nonneg (Int.le_of_lt hd) (sq_nonneg b)
theorem Rb {d a b p q : Int} (h : aF d) (h1 : ¬ (a = 0 ∧ b = 0)) (h2 : ¬ (p = 0 ∧ q = 0)) : P d (a * p + d * b * q) (a * q + b * p) ↔ (P d a b ↔ P d p q) := by
  have hd : 0 < d := by have := h.1; omega
  have n1 : a * a ≠ d * b * b := fun e => h1 (h.Gm e)
  have n2 : p * p ≠ d * q * q := fun e => h2 (h.Gm e)
  have pz : ∀ {u v : Int}, d * v * v < u * u → u ≠ 0 := fun {u v} e z => by subst z; have := dsq (b := v) hd; simp at e; omega
  have qz : ∀ {u v : Int}, u * u < d * v * v → v ≠ 0 := fun {u v} e z => by subst z; have := sq_nonneg u; simp at e; omega
  have id1 : (a * p + d * b * q) * (a * p + d * b * q) - d * (a * q + b * p) * (a * q + b * p) = (a * a - d * b * b) * (p * p - d * q * q) := by grind
  rcases Int.lt_or_gt_of_ne n1 with c1 | c1 <;> rcases Int.lt_or_gt_of_ne n2 with c2 | c2
  · have pp := Int.mul_pos_of_neg_of_neg (show a * a - d * b * b < 0 by omega) (show p * p - d * q * q < 0 by omega)
    rw [pA h (by omega), lB h c1, lB h c2]
    have sq : (a * p) * (a * p) < (d * b * q) * (d * b * q) := by
      have e2 := yN (sq_nonneg a) c1 (sq_nonneg p) c2
      grind
    rw [Int.add_comm, vg sq, Int.mul_assoc, mul_pos_iff (by omega) (Int.mul_ne_zero (qz c1) (qz c2)), mul_pos_iff (qz c1) (qz c2)]
    omega
  · have pp := Int.mul_neg_of_neg_of_pos (show a * a - d * b * b < 0 by omega) (show 0 < p * p - d * q * q by omega)
    rw [lB h (by omega), lB h c1, pA h c2]
    have sq : (a * q) * (a * q) < (b * p) * (b * p) := by
      have e2 := yN (sq_nonneg a) c1 (dsq (b := q) hd) c2
      have e3 : d * ((a * q) * (a * q)) < d * ((b * p) * (b * p)) := by grind
      exact Int.lt_of_mul_lt_mul_left e3 (Int.le_of_lt hd)
    rw [Int.add_comm, vg sq, mul_pos_iff (qz c1) (pz c2)]
  · have pp := Int.mul_neg_of_pos_of_neg (show 0 < a * a - d * b * b by omega) (show p * p - d * q * q < 0 by omega)
    rw [lB h (by omega), pA h c1, lB h c2]
    have sq : (b * p) * (b * p) < (a * q) * (a * q) := by
      have e2 := yN (dsq (b := b) hd) c1 (sq_nonneg p) c2
      have e3 : d * ((b * p) * (b * p)) < d * ((a * q) * (a * q)) := by grind
      exact Int.lt_of_mul_lt_mul_left e3 (Int.le_of_lt hd)
    rw [vg sq, mul_pos_iff (pz c1) (qz c2)]
  · have pp := Int.mul_pos (show 0 < a * a - d * b * b by omega) (show 0 < p * p - d * q * q by omega)
    rw [pA h (by omega), pA h c1, pA h c2]
    have sq : (d * b * q) * (d * b * q) < (a * p) * (a * p) := by
      have e2 := yN (dsq (b := b) hd) c1 (dsq (b := q) hd) c2
      grind
    rw [vg sq, mul_pos_iff (pz c1) (pz c2)]
theorem Rj {d A x B y : Int} (hd : 0 < d) (hA : 0 ≤ A) (hx : 0 ≤ x) (hB : 0 ≤ B) (hy : 0 ≤ y) (h1 : A * A ≤ d * B * B) (h2 : x * x ≤ d * y * y) : A * x ≤ d * (B * y) := by
  refine G9 (Int.mul_nonneg hA hx) ?_ (Int.mul_nonneg (Int.le_of_lt hd) (Int.mul_nonneg hB hy))
  have := Int.mul_le_mul h1 h2 (sq_nonneg x) (dsq hd)
  grind
theorem T1 {d A x B y : Int} (hd : 0 < d) (hA : 0 ≤ A) (hx : 0 ≤ x) (hB : 0 ≤ B) (hy : 0 ≤ y) (h1 : A * A < d * B * B) (h2 : x * x < d * y * y) : (A + x) * (A + x) < d * (B + y) * (B + y) := by
  have := Rj hd hA hx hB hy (Int.le_of_lt h1) (Int.le_of_lt h2)
  grind
theorem T2 {d A x B y : Int} (hd : 0 < d) (hA : 0 ≤ A) (hx : 0 ≤ x) (hB : 0 ≤ B) (hy : 0 ≤ y) (h1 : d * B * B < A * A) (h2 : d * y * y < x * x) : d * (B + y) * (B + y) < (A + x) * (A + x) := by
  have : d * (B * y) ≤ A * x := by
    refine G9 (Int.mul_nonneg (Int.le_of_lt hd) (Int.mul_nonneg hB hy)) ?_ (Int.mul_nonneg hA hx)
    have := yN (dsq (b := B) hd) h1 (dsq (b := y) hd) h2
    grind
  grind
theorem Z1 {d x1 y1 x2 y2 : Int} (hd : 0 < d) (h1 : x1 * x1 < d * y1 * y1) (h2 : d * y2 * y2 < x2 * x2) (a1 : 0 ≤ x2) (a2 : x2 ≤ x1) (a3 : 0 ≤ y1) (a4 : y1 ≤ y2) : False := by
  have e1 := Int.mul_le_mul a2 a2 a1 (Int.le_trans a1 a2)
  have e2 := Int.mul_le_mul_of_nonneg_left (Int.mul_le_mul a4 a4 a3 (Int.le_trans a3 a4)) (Int.le_of_lt hd)
  grind
theorem Z2 {d x1 y1 x2 y2 x3 y3 : Int} (hd : 0 < d) (h1 : x1 * x1 < d * y1 * y1) (h2 : d * y2 * y2 < x2 * x2) (h3 : d * y3 * y3 < x3 * x3) (a1 : 0 ≤ x2) (a2 : 0 ≤ y2) (a3 : 0 ≤ x3) (a4 : 0 ≤ y3) (e1 : x1 = x2 + x3) (e2 : y1 = y2 + y3) : False := by
  subst e1 e2
  have := T2 hd a1 a3 a2 a4 h2 h3
  omega
theorem Z3 {d x1 y1 x2 y2 x3 y3 : Int} (hd : 0 < d) (h1 : d * y1 * y1 < x1 * x1) (h2 : x2 * x2 < d * y2 * y2) (h3 : x3 * x3 < d * y3 * y3) (a1 : 0 ≤ x2) (a2 : 0 ≤ y2) (a3 : 0 ≤ x3) (a4 : 0 ≤ y3) (e1 : x1 = x2 + x3) (e2 : y1 = y2 + y3) : False := by
  subst e1 e2
  have := T1 hd a1 a3 a2 a4 h2 h3
  omega
theorem Q2 {d a b p q u v : Int} (h : aF d) (h1 : P d a b) (h2 : P d p q) (h3 : P d u v) (e1 : a + p + u = 0) (e2 : b + q + v = 0) : False := by
  have hd : 0 < d := by have := h.1; omega
  unfold P at h1 h2 h3
  have x1 : ∀ {u c : Int}, u * u < c → -u * -u < c := fun {u c} e => by grind
  have x2 : ∀ {u c : Int}, c < u * u → c < -u * -u := fun {u c} e => by grind
  have x3 : ∀ {u c : Int}, c < d * u * u → c < d * -u * -u := fun {u c} e => by grind
  have x4 : ∀ {u c : Int}, d * u * u < c → d * -u * -u < c := fun {u c} e => by grind
  rcases h1 with ⟨u1, u2, u3⟩ | ⟨u1, u2, u3⟩ | ⟨u1, u2, u3⟩ <;> rcases h2 with ⟨v1, v2, v3⟩ | ⟨v1, v2, v3⟩ | ⟨v1, v2, v3⟩ <;> rcases h3 with ⟨w1, w2, w3⟩ | ⟨w1, w2, w3⟩ | ⟨w1, w2, w3⟩ <;> (try omega)
  all_goals first
    | exact Z1 hd (x1 u3) (x4 v3) (by omega) (by omega) (by omega) (by omega)
    | exact Z1 hd (x1 v3) (x4 u3) (by omega) (by omega) (by omega) (by omega)
    | exact Z1 hd (x1 u3) (x4 w3) (by omega) (by omega) (by omega) (by omega)
    | exact Z1 hd (x1 w3) (x4 u3) (by omega) (by omega) (by omega) (by omega)
    | exact Z1 hd (x1 v3) (x4 w3) (by omega) (by omega) (by omega) (by omega)
    | exact Z1 hd (x1 w3) (x4 v3) (by omega) (by omega) (by omega) (by omega)
    | exact Z2 hd (x1 u3) (x4 v3) (x4 w3) (by omega) (by omega) (by omega) (by omega) (by omega) (by omega)
    | exact Z2 hd (x1 v3) (x4 u3) (x4 w3) (by omega) (by omega) (by omega) (by omega) (by omega) (by omega)
    | exact Z2 hd (x1 w3) (x4 u3) (x4 v3) (by omega) (by omega) (by omega) (by omega) (by omega) (by omega)
    | exact Z3 hd (x4 u3) (x1 v3) (x1 w3) (by omega) (by omega) (by omega) (by omega) (by omega) (by omega)
    | exact Z3 hd (x4 v3) (x1 u3) (x1 w3) (by omega) (by omega) (by omega) (by omega) (by omega) (by omega)
    | exact Z3 hd (x4 w3) (x1 u3) (x1 v3) (by omega) (by omega) (by omega) (by omega) (by omega) (by omega)
theorem PU {d a b p q : Int} (h : aF d) (h1 : P d a b) (h2 : P d p q) : P d (a + p) (b + q) := by
  rcases Q3 (a := a + p) (b := b + q) h with ⟨e1, e2⟩ | e | e
  · have ea : p = -a := by omega
    have eb : q = -b := by omega
    subst ea eb
    have s1 := (ke h).mpr h1
    have s2 := (ke h).mpr h2
    rw [Bo h, s1] at s2
    omega
  · exact e
  · exact (Q2 h h1 h2 e (by omega) (by omega)).elim
theorem CI {d a b p q : Int} (h : aF d) : sg d (a * p + d * b * q) (a * q + b * p) = sg d a b * sg d p q := by
  by_cases h1 : a = 0 ∧ b = 0
  · obtain ⟨rfl, rfl⟩ := h1
    have e : sg d (0 : Int) 0 = 0 := ey.mpr ⟨rfl, rfl⟩
    rw [e]; simp [ey]
  by_cases h2 : p = 0 ∧ q = 0
  · obtain ⟨rfl, rfl⟩ := h2
    have e : sg d (0 : Int) 0 = 0 := ey.mpr ⟨rfl, rfl⟩
    rw [e]; simp [ey]
  have k := Rb h h1 h2
  have h3 : ¬ (a * p + d * b * q = 0 ∧ a * q + b * p = 0) := fun ⟨e1, e2⟩ => by
    have id1 : (a * p + d * b * q) * (a * p + d * b * q) - d * (a * q + b * p) * (a * q + b * p) = (a * a - d * b * b) * (p * p - d * q * q) := by grind
    rw [e1, e2] at id1
    simp only [Int.mul_zero, Int.sub_self] at id1
    rcases Int.mul_eq_zero.mp id1.symm with z | z
    · exact h1 (h.Gm (by omega))
    · exact h2 (h.Gm (by omega))
  rw [← ke h, ← ke h, ← ke h] at k
  have t1 := tD d a b
  have t2 := tD d p q
  have t3 := tD d (a * p + d * b * q) (a * q + b * p)
  have z1 : sg d a b ≠ 0 := fun z => h1 (ey.mp z)
  have z2 : sg d p q ≠ 0 := fun z => h2 (ey.mp z)
  have z3 : sg d (a * p + d * b * q) (a * q + b * p) ≠ 0 := fun z => h3 (ey.mp z)
  rcases t1 with e | e | e <;> rcases t2 with f | f | f <;> rcases t3 with g | g | g <;> simp_all
theorem qv {d a b k : Int} (h : aF d) (hk : 0 < k) : sg d (k * a) (k * b) = sg d a b := by
  have e := CI (a := k) (b := 0) (p := a) (q := b) h
  have e1 : sg d k 0 = 1 := by unfold sg; rw [if_neg (by omega), if_pos (by omega)]
  rw [e1] at e
  simpa using e
end NM
set_option linter.all false
set_option maxRecDepth 100000
set_option maxHeartbeats 4000000
namespace NM
structure Rep (x : N3) (A B C : Int) : Prop where
  c : C ≠ 0
  a : x.a * C = A * x.c
  b : x.b * C = B * x.c
section
variable {x y : N3} {A B C A' B' C' d : Int}
theorem aP (h : Ok x) : Rep x x.a x.b x.c := ⟨h.cn, rfl, rfl⟩
theorem kv {a b c : Int} (h : c ≠ 0) : Rep (low a b c) a b c := by
  obtain ⟨k, hk, _, p1, p2, p3, _⟩ := lh a b h
  generalize low a b c = z at *
  exact ⟨h, by grind, by grind⟩
theorem Rep.eq (ox : Ok x) (oy : Ok y) (h : Rep x A B C) (g : Rep y A' B' C') (e1 : A * C' = A' * C) (e2 : B * C' = B' * C) : x = y := by
  have hc : C * C' ≠ 0 := Int.mul_ne_zero h.c g.c
  obtain ⟨_, h1, h2⟩ := h
  obtain ⟨_, g1, g2⟩ := g
  exact ox.same oy (Int.eq_of_mul_eq_mul_right hc (by grind)) (Int.eq_of_mul_eq_mul_right hc (by grind))
theorem Rep.bZ (h : Rep x A B C) : Rep (bZ x) A (-B) C := ⟨h.c, h.a, by show -x.b * C = -B * x.c; have := h.b; grind⟩
theorem Rep.minus (h : Rep x A B C) : Rep (minus x) (-A) (-B) C := ⟨h.c, by show -x.a * C = -A * x.c; have := h.a; grind, by show -x.b * C = -B * x.c; have := h.b; grind⟩
theorem Rep.plus (ox : Ok x) (oy : Ok y) (h : Rep x A B C) (g : Rep y A' B' C') : Rep (plus x y) (A * C' + A' * C) (B * C' + B' * C) (C * C') := by
  have hc := vJ ox oy
  obtain ⟨_, q1, q2⟩ := kv (a := x.a * y.c + y.a * x.c) (b := x.b * y.c + y.b * x.c) hc
  obtain ⟨hc1, h1, h2⟩ := h
  obtain ⟨hc2, g1, g2⟩ := g
  change (NM.plus x y).a * (x.c * y.c) = _ * (NM.plus x y).c at q1
  change (NM.plus x y).b * (x.c * y.c) = _ * (NM.plus x y).c at q2
  generalize NM.plus x y = z at *
  exact ⟨Int.mul_ne_zero hc1 hc2, Int.eq_of_mul_eq_mul_right hc (by grind), Int.eq_of_mul_eq_mul_right hc (by grind)⟩
theorem Rep.less (ox : Ok x) (oy : Ok y) (h : Rep x A B C) (g : Rep y A' B' C') : Rep (less x y) (A * C' - A' * C) (B * C' - B' * C) (C * C') := by
  have hc := vJ ox oy
  obtain ⟨_, q1, q2⟩ := kv (a := x.a * y.c - y.a * x.c) (b := x.b * y.c - y.b * x.c) hc
  obtain ⟨hc1, h1, h2⟩ := h
  obtain ⟨hc2, g1, g2⟩ := g
  change (NM.less x y).a * (x.c * y.c) = _ * (NM.less x y).c at q1
  change (NM.less x y).b * (x.c * y.c) = _ * (NM.less x y).c at q2
  generalize NM.less x y = z at *
  exact ⟨Int.mul_ne_zero hc1 hc2, Int.eq_of_mul_eq_mul_right hc (by grind), Int.eq_of_mul_eq_mul_right hc (by grind)⟩
theorem Rep.times (ox : Ok x) (oy : Ok y) (h : Rep x A B C) (g : Rep y A' B' C') : Rep (times d x y) (A * A' + d * B * B') (A * B' + B * A') (C * C') := by
  have hc := vJ ox oy
  obtain ⟨_, q1, q2⟩ := kv (a := x.a * y.a + d * x.b * y.b) (b := x.a * y.b + x.b * y.a) hc
  obtain ⟨hc1, h1, h2⟩ := h
  obtain ⟨hc2, g1, g2⟩ := g
  change (NM.times d x y).a * (x.c * y.c) = _ * (NM.times d x y).c at q1
  change (NM.times d x y).b * (x.c * y.c) = _ * (NM.times d x y).c at q2
  generalize NM.times d x y = z at *
  exact ⟨Int.mul_ne_zero hc1 hc2, Int.eq_of_mul_eq_mul_right hc (by grind), Int.eq_of_mul_eq_mul_right hc (by grind)⟩
theorem Rep.norm (h : Rep x A B C) : NM.norm d x * (C * C) = (A * A - d * B * B) * (x.c * x.c) := by
  obtain ⟨_, h1, h2⟩ := h
  unfold NM.norm
  have e1 : x.a * x.a * (C * C) = A * A * (x.c * x.c) := by
    have : (x.a * C) * (x.a * C) = (A * x.c) * (A * x.c) := by rw [h1]
    grind
  have e2 : x.b * x.b * (C * C) = B * B * (x.c * x.c) := by
    have : (x.b * C) * (x.b * C) = (B * x.c) * (B * x.c) := by rw [h2]
    grind
  grind
theorem Rep.az (ox : Ok x) (hn : NM.norm d x ≠ 0) (h : Rep x A B C) : Rep (az d x) (C * A) (-C * B) (A * A - d * B * B) := by
  have hN := h.norm (d := d)
  have hcc : x.c * x.c ≠ 0 := Int.mul_ne_zero ox.cn ox.cn
  have hN0 : A * A - d * B * B ≠ 0 := fun z => by
    rw [z, Int.zero_mul] at hN
    rcases Int.mul_eq_zero.mp hN with w | w
    · exact hn w
    · rcases Int.mul_eq_zero.mp w with w | w <;> exact h.c w
  obtain ⟨_, q1, q2⟩ := kv (a := x.c * x.a) (b := -x.c * x.b) hn
  change (NM.az d x).a * NM.norm d x = _ * (NM.az d x).c at q1
  change (NM.az d x).b * NM.norm d x = _ * (NM.az d x).c at q2
  obtain ⟨hc1, h1, h2⟩ := h
  generalize NM.az d x = z at *
  generalize NM.norm d x = n at *
  generalize A * A - d * B * B = m at *
  refine ⟨hN0, ?_, ?_⟩
  · have e : z.a * m * (x.c * x.c) = C * A * z.c * (x.c * x.c) := by grind
    exact Int.eq_of_mul_eq_mul_right hcc e
  · have e : z.b * m * (x.c * x.c) = -C * B * z.c * (x.c * x.c) := by grind
    exact Int.eq_of_mul_eq_mul_right hcc e
theorem Rep.sg (hd : aF d) (ox : Ok x) (h : Rep x A B C) (hC : 0 < C) : sg d x.a x.b = NM.sg d A B := by
  have e1 := qv (a := x.a) (b := x.b) hd hC
  have e2 := qv (a := A) (b := B) hd ox.c
  rw [show C * x.a = x.c * A by have := h.a; grind, show C * x.b = x.c * B by have := h.b; grind] at e1
  rw [← e1, e2]
end
end NM
set_option linter.all false
set_option maxRecDepth 100000
set_option maxHeartbeats 4000000
namespace NM
def lean (d : Int) (x : N3) : N3 := times d (bZ x) (az d x)
def nD (d : Int) (x : N3) : N3 := times d (times d (plus x (bZ x)) (plus x (bZ x))) (az d (times d x (bZ x)))
section
variable {d : Int} {x y z : N3}
theorem GZ {a b c : Int} (h : aF d) (hc : 0 < c) : sg d (low a b c).a (low a b c).b = sg d a b := (kv (show c ≠ 0 by omega)).sg h (j8 _ _ (by omega)) hc
theorem eN (h : aF d) (ox : Ok x) (oy : Ok y) : sg d (times d x y).a (times d x y).b = sg d x.a x.b * sg d y.a y.b := by
  unfold times
  rw [GZ h (Int.mul_pos ox.c oy.c), CI h]
theorem GN : sg d one.a one.b = 1 := by
  unfold one sg
  rw [if_neg (by simp), if_pos (by simp)]
theorem bV (h : aF d) (ox : Ok x) (hx : sg d x.a x.b = 1) : norm d x ≠ 0 := h.norm ox (fun e => by subst e; have : sg d aA.a aA.b = 0 := ey.mpr ⟨rfl, rfl⟩; omega)
theorem qu (ox : Ok x) (hn : norm d x ≠ 0) : times d x (az d x) = one := by
  have oc := aK hn
  exact ((aP ox).times ox oc ((aP ox).az ox hn)).eq (aQ ox oc) Jw (aP Jw) (by simp only [one]; grind) (by simp only [one]; grind)
theorem me (h : aF d) (ox : Ok x) (hx : sg d x.a x.b = 1) : sg d (az d x).a (az d x).b = 1 := by
  have hn := bV h ox hx
  have e := eN h ox (aK hn)
  rw [qu ox hn, GN, hx] at e
  omega
theorem Ij : norm d (bZ y) = norm d y := by unfold norm bZ; grind
theorem vK (h : aF d) (ox : Ok x) (hn : norm d x ≠ 0) : norm d (times d x (bZ x)) ≠ 0 := by
  refine h.norm (aQ ox (aZ ox)) (fun e => ?_)
  have r := (aP ox).times (d := d) ox (aZ ox) (aP ox).bZ
  rw [e] at r
  have := r.a
  simp only [aA, Int.zero_mul, Int.mul_one] at this
  apply hn
  unfold norm
  grind
theorem D7 (h : aF d) (hn : norm d x ≠ 0) (ox : Ok x) : Ok (nD d x) := by
  have op := fI ox (aZ ox)
  exact aQ (aQ op op) (aK (vK h ox hn))
theorem Hl (h : aF d) (ox : Ok x) (hx : sg d x.a x.b = 1) : sg d x.a (-x.b) = sg d (norm d x) 0 := by
  have e := CI (a := x.a) (b := x.b) (p := x.a) (q := -x.b) h
  rw [hx, Int.one_mul] at e
  rw [← e]
  unfold norm
  congr 1 <;> grind
theorem vL {n : Int} : sg d n 0 = if n = 0 then 0 else if 0 < n then 1 else -1 := by
  unfold sg
  by_cases h : n = 0
  · simp [h]
  · rcases Int.lt_or_gt_of_ne h with z | z
    · rw [if_neg (by omega), if_neg (by omega), if_pos (by omega), if_neg h, if_neg (by omega)]
    · rw [if_neg (by omega), if_pos (by omega), if_neg h, if_pos (by omega)]
theorem GD {n : Int} : sg d 0 n = if n = 0 then 0 else if 0 < n then 1 else -1 := by
  unfold sg
  by_cases h : n = 0
  · simp [h]
  · rcases Int.lt_or_gt_of_ne h with z | z
    · rw [if_neg (by omega), if_neg (by omega), if_pos (by omega), if_neg h, if_neg (by omega)]
    · rw [if_neg (by omega), if_pos (by omega), if_neg h, if_pos (by omega)]
def W (x y : N3) : Int := x.b * y.a - x.a * y.b
theorem Rep.congr {A B C A' B' C' : Int} (h : Rep x A B C) (e1 : A = A') (e2 : B = B') (e3 : C = C') : Rep x A' B' C' := by subst e1 e2 e3; exact h
theorem Rep.neg {A B C : Int} (h : Rep x A B C) : Rep x (-A) (-B) (-C) := ⟨by have := h.c; omega, by rw [Int.mul_neg, Int.neg_mul, h.a], by rw [Int.mul_neg, Int.neg_mul, h.b]⟩
structure Ms (z x y : N3) : Prop where
  ex : ∃ p q C : Int, 0 < p ∧ 0 < q ∧ 0 < C ∧ Rep z (p * x.a + q * y.a) (p * x.b + q * y.b) C
theorem IB (ox : Ok x) (oy : Ok y) : Ms (plus x y) x y :=
  ⟨y.c, x.c, x.c * y.c, oy.c, ox.c, Int.mul_pos ox.c oy.c, by
    have r := (aP ox).plus ox oy (aP oy)
    exact ⟨r.c, by have := r.a; grind, by have := r.b; grind⟩⟩
theorem Ms.pos (hd : aF d) (oz : Ok z) (h : Ms z x y) (hx : sg d x.a x.b = 1) (hy : sg d y.a y.b = 1) : sg d z.a z.b = 1 := by
  obtain ⟨p, q, C, hp, hq, hC, r⟩ := h.ex
  rw [r.sg hd oz hC, ke hd]
  refine PU hd ?_ ?_
  · rw [← ke hd, qv hd hp]; exact hx
  · rw [← ke hd, qv hd hq]; exact hy
end
end NM
set_option Elab.async false
set_option linter.all false
set_option maxRecDepth 100000
set_option maxHeartbeats 4000000
namespace L2.DL
open PySem PySem.Spec PyProof.Rows
abbrev Mu := Addr → Option (List PyData)
abbrev PQ := PySem.W.Frag → V → Mu → Hp → Prop
inductive D where
  | v (x : PyData)
  | m (a : Addr)
  | s (ns : List Int)
  /-- an object that is handed on -/
  | o (a : Addr)
  /-- a thing of which something is known that stays -/
  | q (P : PQ)
abbrev Rho := List (Option D)
def aI (μ : Mu) (a : Addr) (ds : List PyData) : Mu := fun b => if b = a then some ds else μ b
theorem bI {μ : Mu} {a : Addr} {ds} : aI μ a ds a = some ds := by unfold aI; rw [if_pos rfl]
theorem dy {μ : Mu} {a b : Addr} {ds} (h : b ≠ a) : aI μ a ds b = μ b := by unfold aI; rw [if_neg h]
theorem rh {μ : Mu} {a : Addr} {ds es} : aI (aI μ a ds) a es = aI μ a es := by
  funext b; unfold aI; split <;> rfl
mutual
inductive Rp (K : PySem.W.Frag) (μ : Mu) (H : Hp) : PyData → V → Prop
  | none : Rp K μ H .none .non
  | bool (b : Bool) : Rp K μ H (.bool b) (.bl b)
  | int (i : Int) : Rp K μ H (.int i) (.int i)
  | str (x : Str) : Rp K μ H (.str x) (.str x)
  | list {a : Addr} {xs : List V} {ds : List PyData} : H a = some (.lst xs) → μ a = Option.none → RpL K μ H ds xs → Rp K μ H (.list ds) (.ref a)
  | tuple {a : Addr} {xs : List V} {ds : List PyData} : SqT K H a xs → RpL K μ H ds xs → Rp K μ H (.tuple ds) (.ref a)
inductive RpL (K : PySem.W.Frag) (μ : Mu) (H : Hp) : List PyData → List V → Prop
  | nil : RpL K μ H [] []
  | cons {d : PyData} {v : V} {ds : List PyData} {vs : List V} : Rp K μ H d v → RpL K μ H ds vs → RpL K μ H (d :: ds) (v :: vs)
end
def NT : HO → Prop
  | .tbl _ => False
  | _ => True
structure Ext (K : PySem.W.Frag) (μ : Mu) (H : Hp) (μ' : Mu) (H' : Hp) : Prop where
  keep : ∀ b o, H b = some o → μ b = none → NT o → H' b = some o
  tb : ∀ b ps, H b = some (.tbl ps) → μ b = none → ∃ ps', H' b = some (.tbl ps')
  dom : ∀ b ds, μ b = some ds → ∃ es, μ' b = some es
  fresh : ∀ b, μ b = none → (H b ≠ none ∨ K.lookup b ≠ none) → μ' b = none
def RpD (K : PySem.W.Frag) (μ : Mu) (H : Hp) : D → V → Prop
  | .v x, u => Rp K μ H x u
  | .m a, u => u = .ref a ∧ ∃ ds, μ a = some ds
  | .s ns, u => ∃ a, u = .ref a ∧ SqL K H a (ns.map V.int) ∧ μ a = none
  | .o a, u => u = .ref a
  | .q P, u => ∀ μ' H', Ext K μ H μ' H' → P K u μ' H'
def codeAt (c : Addr) (q : Str) (h : Heap) : Prop := ∃ o vs t, h.get? c = some o ∧ o.data = .fields vs ∧ vs[1]? = some (.str q t)
abbrev bC (q : Str) : Str := (q ++ ".<locals>.") ++ "<lambda>"
def RH (H : Hp) (P : Addr) (q : Str) : Prop := ∃ ps : Array Value, H P = some (.tbl ps) ∧ TriplesOk ps.toList ∧ ∀ pos cv, codeAmong pos ps.toList = some cv → ∃ c, cv = .ref c ∧ H c = some (.ext (codeAt c (bC q)))
def zq (K : PySem.W.Frag) (H : Hp) : Prop := ∀ c o P q, K.lookup c = some o → bT o = some (P, q) → RH H P q
structure bY (K : PySem.W.Frag) (μ : Mu) (H : Hp) : Prop where
  lst : ∀ a ds, μ a = some ds → ∃ xs, H a = some (.lst xs) ∧ RpL K μ H ds xs
  tab : zq K H
instance {K : PySem.W.Frag} {μ : Mu} {H : Hp} : CoeFun (bY K μ H) fun _ => ∀ a ds, μ a = some ds → ∃ xs, H a = some (.lst xs) ∧ RpL K μ H ds xs := ⟨bY.lst⟩
theorem zq.of {K : PySem.W.Frag} {H H1 : Hp} (t : zq K H) (s : ∀ b o, H b = some o → (∀ xs, o ≠ .lst xs) → H1 b = some o) : zq K H1 := fun c o P q h1 h2 => by
  obtain ⟨ps, a1, a2, a3⟩ := t c o P q h1 h2
  exact ⟨ps, s _ _ a1 (fun _ z => nomatch z), a2, fun pos cv e => let ⟨c, q1, q2⟩ := a3 pos cv e; ⟨c, q1, s _ _ q2 (fun _ z => nomatch z)⟩⟩
def el (K : PySem.W.Frag) (μ : Mu) (H : Hp) (ρ : Rho) (σ : St) : Prop :=
  ρ.length = σ.length ∧ ∀ (i : Nat) (d : D), ρ[i]? = some (some d) → ∃ u, σ[i]? = some (some u) ∧ RpD K μ H d u
structure St0 (K : PySem.W.Frag) (H : Hp) (ρ : Rho) (μ : Mu) (σ : St) : Prop where
  mu : bY K μ H
  rho : el K μ H ρ σ
section
variable {K : PySem.W.Frag} {μ μ1 μ2 : Mu} {H H1 H2 : Hp}
theorem Ext.refl : Ext K μ H μ H := ⟨fun _ _ h _ _ => h, fun _ ps h _ => ⟨ps, h⟩, fun _ ds h => ⟨ds, h⟩, fun _ h _ => h⟩
theorem Ext.trans (a : Ext K μ H μ1 H1) (b : Ext K μ1 H1 μ2 H2) : Ext K μ H μ2 H2 where
  keep := fun c o h n t => b.keep c o (a.keep c o h n t) (a.fresh c n (.inl (by rw [h]; exact fun z => nomatch z))) t
  tb := fun c ps h n => by
    obtain ⟨ps1, h1⟩ := a.tb c ps h n
    exact b.tb c ps1 h1 (a.fresh c n (.inl (by rw [h]; exact fun z => nomatch z)))
  dom := fun c ds h => let ⟨es, q⟩ := a.dom c ds h; b.dom c es q
  fresh := fun c n h => by
    refine b.fresh c (a.fresh c n h) ?_
    rcases h with h | h
    · cases q : H c with
      | none => exact absurd q h
      | some o =>
        by_cases t : NT o
        · exact .inl (by rw [a.keep c o q n t]; exact fun z => nomatch z)
        · cases o with
          | tbl ps =>
            obtain ⟨ps1, h1⟩ := a.tb c ps q n
            exact .inl (by rw [h1]; exact fun z => nomatch z)
          | _ => exact absurd trivial t
    · exact .inr h
theorem Ext.of_same (s : qA H H1) : Ext K μ H μ H1 := ⟨fun b o h _ _ => s b o h, fun b ps h _ => ⟨ps, s b _ h⟩, fun _ ds h => ⟨ds, h⟩, fun _ h _ => h⟩
theorem bY.not {a : Addr} {o : HO} (ok : bY K μ H) (h : H a = some o) (n : ∀ xs, o ≠ .lst xs) : μ a = none := by
  cases q : μ a with
  | none => rfl
  | some ds =>
    obtain ⟨ys, e, _⟩ := ok a ds q
    rw [h] at e
    exact absurd (Option.some.inj e) (n ys)
theorem bY.free {a : Addr} (ok : bY K μ H) (h : H a = none) : μ a = none := by
  cases q : μ a with
  | none => rfl
  | some ds =>
    obtain ⟨ys, e, _⟩ := ok a ds q
    rw [h] at e; cases e
theorem A7 {a : Addr} {xs : List V} (ok : bY K μ H) (e : Ext K μ H μ1 H1) (h : SqT K H a xs) : SqT K H1 a xs := by
  rcases h with (h | ⟨o, h⟩) | h
  · exact .inl (.inl (e.keep _ _ h (ok.not h fun _ z => nomatch z) trivial))
  · exact .inl (.inr ⟨o, e.keep _ _ h (ok.not h fun _ z => nomatch z) trivial⟩)
  · exact .inr h
theorem GJ {a : Addr} {xs : List V} (e : Ext K μ H μ1 H1) (h : SqL K H a xs) (n : μ a = none) : SqL K H1 a xs ∧ μ1 a = none := by
  rcases h with (h | ⟨o, h⟩) | h
  · exact ⟨.inl (.inl (e.keep _ _ h n trivial)), e.fresh _ n (.inl (by rw [h]; exact fun z => nomatch z))⟩
  · exact ⟨.inl (.inr ⟨o, e.keep _ _ h n trivial⟩), e.fresh _ n (.inl (by rw [h]; exact fun z => nomatch z))⟩
  · obtain ⟨o, its, k, hk, r⟩ := id h
    exact ⟨.inr h, e.fresh _ n (.inr (by rw [hk]; exact fun z => nomatch z))⟩
mutual
theorem Rp.ext {d : PyData} {u : V} (ok : bY K μ H) (e : Ext K μ H μ1 H1) : Rp K μ H d u → Rp K μ1 H1 d u
  | .none => .none
  | .bool b => .bool b
  | .int i => .int i
  | .str x => .str x
  | .list h n r => .list (e.keep _ _ h n trivial) (e.fresh _ n (.inl (by rw [h]; exact fun z => nomatch z))) (RpL.ext ok e r)
  | .tuple h r => .tuple (A7 ok e h) (RpL.ext ok e r)
theorem RpL.ext {ds : List PyData} {us : List V} (ok : bY K μ H) (e : Ext K μ H μ1 H1) : RpL K μ H ds us → RpL K μ1 H1 ds us
  | .nil => .nil
  | .cons h r => .cons (Rp.ext ok e h) (RpL.ext ok e r)
end
theorem RpD.ext {d : D} {u : V} (ok : bY K μ H) (e : Ext K μ H μ1 H1) (r : RpD K μ H d u) : RpD K μ1 H1 d u := by
  cases d with
  | v x => exact Rp.ext ok e r
  | m a => obtain ⟨h, ds, q⟩ := r; exact ⟨h, e.dom a ds q⟩
  | s ns => obtain ⟨a, h, q, n⟩ := r; exact ⟨a, h, (GJ e q n).1, (GJ e q n).2⟩
  | o a => exact r
  | q P => exact fun μ' H' e' => r μ' H' (e.trans e')
theorem el.ext {ρ : Rho} {σ : St} (ok : bY K μ H) (e : Ext K μ H μ1 H1) (r : el K μ H ρ σ) : el K μ1 H1 ρ σ :=
  ⟨r.1, fun i d h => let ⟨u, h1, h2⟩ := r.2 i d h; ⟨u, h1, h2.ext ok e⟩⟩
theorem RpL.length {ds : List PyData} {us : List V} : RpL K μ H ds us → ds.length = us.length
  | .nil => rfl
  | .cons _ r => congrArg (· + 1) (RpL.length r)
theorem RpL.get {ds : List PyData} {us : List V} : ∀ {i : Nat} {d : PyData}, RpL K μ H ds us → ds[i]? = some d → ∃ u, us[i]? = some u ∧ Rp K μ H d u
  | _, _, .nil, h => by simp at h
  | 0, _, .cons r _, h => by simp at h; subst h; exact ⟨_, rfl, r⟩
  | i + 1, d, .cons _ t, h => by
    obtain ⟨u, h1, h2⟩ := RpL.get (i := i) (d := d) t (by simpa using h)
    exact ⟨u, by simpa using h1, h2⟩
theorem RpL.append {ds es : List PyData} {us ws : List V} : RpL K μ H ds us → RpL K μ H es ws → RpL K μ H (ds ++ es) (us ++ ws)
  | .nil, s => s
  | .cons r t, s => .cons r (RpL.append t s)
theorem RpL.take {ds : List PyData} {us : List V} : ∀ (n : Nat), RpL K μ H ds us → RpL K μ H (ds.take n) (us.take n)
  | 0, _ => by simp; exact .nil
  | _ + 1, .nil => by simp; exact .nil
  | n + 1, .cons r t => .cons r (RpL.take n t)
theorem RpL.drop {ds : List PyData} {us : List V} : ∀ (n : Nat), RpL K μ H ds us → RpL K μ H (ds.drop n) (us.drop n)
  | 0, r => r
  | _ + 1, .nil => by simp; exact .nil
  | n + 1, .cons _ t => RpL.drop n t
theorem RpL.reverse {ds : List PyData} {us : List V} : RpL K μ H ds us → RpL K μ H ds.reverse us.reverse
  | .nil => .nil
  | .cons r t => by rw [List.reverse_cons, List.reverse_cons]; exact (RpL.reverse t).append (.cons r .nil)
theorem RpL.set {ds : List PyData} {us : List V} {d : PyData} {u : V} (q : Rp K μ H d u) : ∀ (i : Nat), RpL K μ H ds us → RpL K μ H (ds.set i d) (us.set i u)
  | _, .nil => .nil
  | 0, .cons _ t => .cons q t
  | i + 1, .cons r t => .cons r (RpL.set q i t)
theorem E3 {ds : List PyData} {us : List V} {i : Int} {d : PyData} (r : RpL K μ H ds us) (h : atI ds i = some d) : ∃ u, atI us i = some u ∧ Rp K μ H d u := by
  unfold atI at h ⊢
  rw [← r.length]
  cases q : ixN ds.length i with
  | none => rw [q] at h; cases h
  | some j =>
    rw [q] at h
    exact r.get h
abbrev DK := D → Mu → Prop
abbrev DTE := Rho → Mu → DK → Prop
abbrev DTT := Rho → Mu → (Bool → Mu → Prop) → Prop
abbrev DTA := Rho → Mu → (List D → Mu → Prop) → Prop
structure JK where
  nx : Rho → Mu → Prop
  rt : DK
  bk : Rho → Mu → Prop := fun _ _ => False
  ct : Rho → Mu → Prop := fun _ _ => False
abbrev DTS := JK → Rho → Mu → Prop
inductive jR (K : PySem.W.Frag) (μ : Mu) (H : Hp) : List D → List V → Prop
  | nil : jR K μ H [] []
  | cons {d : D} {u : V} {ds : List D} {us : List V} : RpD K μ H d u → jR K μ H ds us → jR K μ H (d :: ds) (u :: us)
theorem jR.ext {ds : List D} {us : List V} (ok : bY K μ H) (e : Ext K μ H μ1 H1) : jR K μ H ds us → jR K μ1 H1 ds us
  | .nil => .nil
  | .cons h r => .cons (h.ext ok e) (jR.ext ok e r)
theorem jR.length {ds : List D} {us : List V} : jR K μ H ds us → ds.length = us.length
  | .nil => rfl
  | .cons _ r => congrArg (· + 1) (jR.length r)
end
def ve (K : PySem.W.Frag) (t : TE) (td : DTE) : Prop := ∀ (σ : St) (H : Hp) (ρ : Rho) (μ : Mu) (Qd : DK) (Q : VK), St0 K H ρ μ σ → td ρ μ Qd →
  (∀ d u μ' H', Ext K μ H μ' H' → St0 K H' ρ μ' σ → RpD K μ' H' d u → Qd d μ' → Q u H') → t σ H Q
def Jz (K : PySem.W.Frag) (t : TT) (td : DTT) : Prop := ∀ (σ : St) (H : Hp) (ρ : Rho) (μ : Mu) (Qd : Bool → Mu → Prop) (Q : Bool → Hp → Prop), St0 K H ρ μ σ → td ρ μ Qd →
  (∀ b μ' H', Ext K μ H μ' H' → St0 K H' ρ μ' σ → Qd b μ' → Q b H') → t σ H Q
def Nw (K : PySem.W.Frag) (n : Nat) (t : TA) (td : DTA) : Prop := ∀ (σ : St) (H : Hp) (ρ : Rho) (μ : Mu) (Qd : List D → Mu → Prop) (Q : List V → Hp → Prop), St0 K H ρ μ σ → td ρ μ Qd →
  (∀ ds us μ' H', Ext K μ H μ' H' → St0 K H' ρ μ' σ → jR K μ' H' ds us → ds.length = n → Qd ds μ' → Q us H') → t σ H Q
def AH (K : PySem.W.Frag) (t : TS) (td : DTS) : Prop := ∀ (σ : St) (H : Hp) (ρ : Rho) (μ : Mu) (Dd : JK) (De : Ends), St0 K H ρ μ σ → td Dd ρ μ →
  (∀ σ' ρ' μ' H', Ext K μ H μ' H' → St0 K H' ρ' μ' σ' → Dd.nx ρ' μ' → De.nx σ' H') →
  (∀ d u μ' H', Ext K μ H μ' H' → bY K μ' H' → RpD K μ' H' d u → Dd.rt d μ' → De.rt u H') →
  (∀ σ' ρ' μ' H', Ext K μ H μ' H' → St0 K H' ρ' μ' σ' → Dd.bk ρ' μ' → De.bk σ' H') →
  (∀ σ' ρ' μ' H', Ext K μ H μ' H' → St0 K H' ρ' μ' σ' → Dd.ct ρ' μ' → De.ct σ' H') → t De σ H
def DE (X : Cx) (e : Expr) (td : DTE) : Prop := ∃ t, PE X e t ∧ ve X.K t td
def DT (X : Cx) (e : Expr) (td : DTT) : Prop := ∃ t, PT X e t ∧ Jz X.K t td
def DA (X : Cx) (es : List Expr) (td : DTA) : Prop := ∃ t, PA X es t ∧ Nw X.K es.length t td
def DS (X : Cx) (st : Stmt) (td : DTS) : Prop := ∃ t, PS X st t ∧ AH X.K t td
def DSs (X : Cx) (st : List Stmt) (td : DTS) : Prop := ∃ t, PSs X st t ∧ AH X.K t td
section
variable {X : Cx} {a b c : Expr} {ta tb tc : DTE} {pos : Pos}
def af (i : Nat) : DTE := fun ρ μ Q => match ρ[i]? with
  | some (some d) => Q d μ
  | _ => False
def dC (x : PyData) : DTE := fun _ μ Q => Q (.v x) μ
theorem Ka {K : PySem.W.Frag} (i : Nat) : ve K (LZ i) (af i) := by
  intro σ H ρ μ Qd Q S h k
  unfold af at h
  split at h
  · rename_i d e
    obtain ⟨u, h1, h2⟩ := S.rho.2 i d e
    exact ⟨u, h1, k d u μ H .refl S h2 h⟩
  · exact h.elim
theorem dv (i : Nat) {x : Str} {pos : Pos} (hN : X.N[i]? = some x := by rfl) (hv : Vis X.env.scope x := by first | exact Or.inl rfl | exact Or.inr (Or.inl rfl) | exact Or.inr (Or.inr rfl)) (hd : (x == ("__debug__" : Str)) = false := by decide)
    (hcd : (x == ("__classdict__" : Str)) = false := by decide) : DE X (.Name x pos) (af i) := ⟨_, xY hN hv hd hcd, Ka i⟩
theorem yv {K : PySem.W.Frag} {x : PyData} {u : V} (h : ∀ μ H, bY K μ H → Rp K μ H x u) : ve K (tC u) (dC x) := fun σ H ρ μ Qd Q S q k => k (.v x) u μ H .refl S (h μ H S.mu) q
theorem ah {i j pos} : DE X (.Constant (.int i) j pos) (dC (.int i)) := ⟨_, O5, yv fun _ _ _ => .int i⟩
theorem pO {i j pos} : DE X (.Constant (.bool i) j pos) (dC (.bool i)) := ⟨_, Rh, yv fun _ _ _ => .bool i⟩
theorem yR {j pos} : DE X (.Constant .none j pos) (dC .none) := ⟨_, J6, yv fun _ _ _ => .none⟩
theorem aY {x j pos} : DE X (.Constant (.str x) j pos) (dC (.str x)) := ⟨_, La, yv fun _ _ _ => .str x⟩
theorem Hw {x : Str} {d : PyData} {u : V} {w : Value} {pos : Pos} (hg : Gl X x) (hm : X.mg x = some w) (r : RelV u w) (h : ∀ μ H, bY X.K μ H → Rp X.K μ H d u) (hd : (x == ("__debug__" : Str)) = false := by decide) : DE X (.Name x pos) (dC d) :=
  ⟨_, GI hg hm r hd, yv h⟩
def l5 (K : PySem.W.Frag) (rr : R2) (r : D → D → Mu → DK → Prop) : Prop := ∀ (x y : D) (ux uy : V) (H : Hp) (μ : Mu) (Qd : DK) (Q : VK), bY K μ H → RpD K μ H x ux → RpD K μ H y uy → r x y μ Qd →
  (∀ d u μ' H', Ext K μ H μ' H' → bY K μ' H' → RpD K μ' H' d u → Qd d μ' → Q u H') → rr ux uy H Q
def dOp (r : D → D → Mu → DK → Prop) (ta tb : DTE) : DTE := fun ρ μ Q => ta ρ μ fun x μ1 => tb ρ μ1 fun y μ2 => r x y μ2 Q
theorem xO {K : PySem.W.Frag} {rr : R2} {r} {t1 t2 : TE} (lo : l5 K rr r) (la : ve K t1 ta) (lb : ve K t2 tb) : ve K (tOp rr t1 t2) (dOp r ta tb) := by
  intro σ H ρ μ Qd Q S h k
  refine la σ H ρ μ _ _ S h fun x ux μ1 H1 e1 S1 rx h1 => ?_
  refine lb σ H1 ρ μ1 _ _ S1 h1 fun y uy μ2 H2 e2 S2 ry h2 => ?_
  exact lo x y ux uy H2 μ2 _ _ S2.mu (rx.ext S1.mu e2) ry h2 fun d u μ' H' e3 ok r q => k d u μ' H' (e1.trans (e2.trans e3)) ⟨ok, S2.rho.ext S2.mu e3⟩ r q
theorem yF {op : Operator} {rr : R2} {r} (ho : OpR X (binaryOp op) rr) (lo : l5 X.K rr r) (ha : DE X a ta) (hb : DE X b tb) : DE X (.BinOp a op b pos) (dOp r ta tb) := by
  obtain ⟨t1, p1, l1⟩ := ha
  obtain ⟨t2, p2, l2⟩ := hb
  exact ⟨_, Qt ho p1 p2, xO lo l1 l2⟩
theorem ix {op : CmpOp} {rr : R2} {r} (ho : OpR X (compareOp op) rr) (lo : l5 X.K rr r) (ha : DE X a ta) (hb : DE X b tb) (hm : behindInMarks op b = false) : DE X (.Compare a [op] [b] pos) (dOp r ta tb) := by
  obtain ⟨t1, p1, l1⟩ := ha
  obtain ⟨t2, p2, l2⟩ := hb
  exact ⟨_, GH ho p1 p2 hm, xO lo l1 l2⟩
def dB (t : DTE) : DTT := fun ρ μ Q => t ρ μ fun d μ1 => match d with
  | .v (.bool k) => Q k μ1
  | _ => False
theorem Am {K : PySem.W.Frag} {t : TE} {td : DTE} (l : ve K t td) : Jz K (NP t) (dB td) := by
  intro σ H ρ μ Qd Q S h k
  refine l σ H ρ μ _ _ S h fun d u μ1 H1 e1 S1 r q => ?_
  split at q
  · rename_i b
    cases r
    exact ⟨b, rfl, k b μ1 H1 e1 S1 q⟩
  · exact q.elim
theorem bq {op : CmpOp} {rr : R2} {r} (ho : OpR X (compareOp op) rr) (lo : l5 X.K rr r) (ha : DE X a ta) (hb : DE X b tb) (hm : behindInMarks op b = false) : DT X (.Compare a [op] [b] pos) (dB (dOp r ta tb)) := by
  obtain ⟨t1, p1, l1⟩ := ha
  obtain ⟨t2, p2, l2⟩ := hb
  exact ⟨_, LY ho p1 p2 hm, Am (xO lo l1 l2)⟩
theorem dZ {e : Expr} {td : DTE} (h : DE X e td) (he : ∀ whole, isTrue e X.env whole = (do let v ← whole; standAt e.pos; holding [v] (truthy v)) := by intro _; rfl) : DT X e (dB td) := by
  obtain ⟨t, p, l⟩ := h
  exact ⟨_, OH p he, Am l⟩
def rII (C : Int → Int → Prop) (g : Int → Int → PyData) : D → D → Mu → DK → Prop := fun x y μ Q => match x, y with
  | .v (.int i), .v (.int j) => C i j ∧ Q (.v (g i j)) μ
  | _, _ => False
theorem LU {K : PySem.W.Frag} {C : Int → Int → Prop} {g : Int → Int → V} {gd : Int → Int → PyData} (hg : ∀ μ H i j, Rp K μ H (gd i j) (g i j)) : l5 K (rI C g) (rII C gd) := by
  intro x y ux uy H μ Qd Q ok rx ry h k
  unfold rII at h
  split at h
  · rename_i i j
    cases rx; cases ry
    exact ⟨i, j, rfl, rfl, h.1, k (.v _) _ μ H .refl ok (hg μ H i j) h.2⟩
  · exact h.elim
def zp (g : Int → Int → PyData) : D → D → Mu → DK → Prop := fun x y μ Q => match x, y with
  | .v (.int i), .v (.int j) => Q (.v (g i j)) μ
  | _, _ => False
theorem GR {K : PySem.W.Frag} {g : Int → Int → V} {gd : Int → Int → PyData} (hg : ∀ μ H i j, Rp K μ H (gd i j) (g i j)) : l5 K (rI0 g) (zp gd) := by
  intro x y ux uy H μ Qd Q ok rx ry h k
  unfold zp at h
  split at h
  · rename_i i j
    cases rx; cases ry
    exact ⟨i, j, rfl, rfl, k (.v _) _ μ H .refl ok (hg μ H i j) h⟩
  · exact h.elim
abbrev nW (ta tb : DTE) : DTE := dOp (zp fun i j => .int (i + j)) ta tb
abbrev tT (ta tb : DTE) : DTE := dOp (zp fun i j => .int (i - j)) ta tb
abbrev MulOk (i j : Int) : Prop := IntMulOk i j
abbrev cb (ta tb : DTE) : DTE := dOp (rII MulOk fun i j => .int (i * j)) ta tb
abbrev yt (ta tb : DTE) : DTE := dOp (rII (fun _ j => j ≠ 0) fun i j => .int (i.fmod j)) ta tb
abbrev xh (i j : Int) : Prop := j ≠ 0 ∧ Builtin.divisionGoesByPylong i j = false
abbrev yn (ta tb : DTE) : DTE := dOp (rII xh fun i j => .int (i.fdiv j)) ta tb
abbrev MU (ta tb : DTE) : DTE := dOp (rII OE fun i j => .int (i ^ j.toNat)) ta tb
theorem Mn : OpR X (binaryOp .Mult) (rI MulOk fun i j => .int (i * j)) := opI fun _ _ _ _ _ _ _ hc q => mul_int q hc
theorem M1 : OpR X (binaryOp .FloorDiv) (rI xh fun i j => .int (i.fdiv j)) := opI fun _ _ _ _ _ _ _ hc q => floordiv_int hc.1 q (.inl hc.2)
theorem eT (ha : DE X a ta) (hb : DE X b tb) : DE X (.BinOp a .Add b pos) (nW ta tb) := yF KY (GR fun _ _ _ _ => .int _) ha hb
theorem iN (ha : DE X a ta) (hb : DE X b tb) : DE X (.BinOp a .Sub b pos) (tT ta tb) := yF Ph (GR fun _ _ _ _ => .int _) ha hb
theorem aM (ha : DE X a ta) (hb : DE X b tb) : DE X (.BinOp a .Mult b pos) (cb ta tb) := yF Mn (LU fun _ _ _ _ => .int _) ha hb
theorem mE (ha : DE X a ta) (hb : DE X b tb) : DE X (.BinOp a .Mod b pos) (yt ta tb) := yF LW (LU fun _ _ _ _ => .int _) ha hb
theorem mx (ha : DE X a ta) (hb : DE X b tb) : DE X (.BinOp a .FloorDiv b pos) (yn ta tb) := yF M1 (LU fun _ _ _ _ => .int _) ha hb
theorem ER (ha : DE X a ta) (hb : DE X b tb) : DE X (.BinOp a .Pow b pos) (MU ta tb) := yF Oz (LU fun _ _ _ _ => .int _) ha hb
abbrev rLt := zp fun i j => .bool (decide (i < j))
abbrev rLe := zp fun i j => .bool (decide (i ≤ j))
abbrev rGt := zp fun i j => .bool (decide (j < i))
abbrev rGe := zp fun i j => .bool (decide (j ≤ i))
theorem iR {K : PySem.W.Frag} {p : Int → Int → Bool} : l5 K (rI0 fun i j => .bl (p i j)) (zp fun i j => .bool (p i j)) := GR fun _ _ _ _ => .bool _
def vR (ta : DTE) : DTE := fun ρ μ Q => ta ρ μ fun x μ1 => match x with
  | .v (.int i) => Q (.v (.int (-i))) μ1
  | _ => False
theorem lF (ha : DE X a ta) : DE X (.UnaryOp .USub a pos) (vR ta) := by
  obtain ⟨t1, p1, l1⟩ := ha
  refine ⟨_, Qw Oj p1, fun σ H ρ μ Qd Q S h k => ?_⟩
  refine l1 σ H ρ μ _ _ S h fun x ux μ1 H1 e1 S1 rx h1 => ?_
  split at h1
  · rename_i i
    cases rx
    exact ⟨i, rfl, k (.v _) _ μ1 H1 e1 S1 (Rp.int _) h1⟩
  · exact h1.elim
def wU (t u : DTT) : DTT := fun ρ μ Q => t ρ μ fun c μ1 => if c = true then u ρ μ1 Q else Q false μ1
def EN (t u : DTT) : DTT := fun ρ μ Q => t ρ μ fun c μ1 => if c = true then Q true μ1 else u ρ μ1 Q
def nH (t : DTT) : DTT := fun ρ μ Q => t ρ μ fun c μ1 => Q (!c) μ1
def DW (X : Cx) (e : Expr) (td : DTT) : Prop := ∃ t, PW X e t ∧ Jz X.K t td
theorem DW.dt {e : Expr} {td : DTT} (h : DW X e td) : DT X e td := let ⟨t, p, l⟩ := h; ⟨t, p.pt, l⟩
variable {tA tB' : DTT} {rest : List Expr}
theorem rF (ha : DT X a tA) : DW X (.BoolOp .And [a] pos) tA := let ⟨t, p, l⟩ := ha; ⟨t, pw_and1 p, l⟩
theorem A0 (ha : DT X a tA) : DW X (.BoolOp .Or [a] pos) tA := let ⟨t, p, l⟩ := ha; ⟨t, pw_or1 p, l⟩
theorem we (ha : DT X a tA) (hb : DW X (.BoolOp .And (b :: rest) pos) tB') : DW X (.BoolOp .And (a :: b :: rest) pos) (wU tA tB') := by
  obtain ⟨t1, p1, l1⟩ := ha
  obtain ⟨t2, p2, l2⟩ := hb
  refine ⟨_, pw_and p1 p2, fun σ H ρ μ Qd Q S h k => ?_⟩
  refine l1 σ H ρ μ _ _ S h fun c μ1 H1 e1 S1 h1 => ?_
  cases c with
  | true =>
    refine zm (l2 σ H1 ρ μ1 _ _ S1 (by simpa using h1) fun c μ2 H2 e2 S2 h2 => k c μ2 H2 (e1.trans e2) S2 h2)
  | false => exact By (k false μ1 H1 e1 S1 (by simpa using h1))
theorem AL (ha : DT X a tA) (hb : DW X (.BoolOp .Or (b :: rest) pos) tB') : DW X (.BoolOp .Or (a :: b :: rest) pos) (EN tA tB') := by
  obtain ⟨t1, p1, l1⟩ := ha
  obtain ⟨t2, p2, l2⟩ := hb
  refine ⟨_, pw_or p1 p2, fun σ H ρ μ Qd Q S h k => ?_⟩
  refine l1 σ H ρ μ _ _ S h fun c μ1 H1 e1 S1 h1 => ?_
  cases c with
  | true => exact zm (k true μ1 H1 e1 S1 (by simpa using h1))
  | false =>
    refine By (l2 σ H1 ρ μ1 _ _ S1 (by simpa using h1) fun c μ2 H2 e2 S2 h2 => k c μ2 H2 (e1.trans e2) S2 h2)
theorem k7 (ha : DT X a tA) : DT X (.UnaryOp .Not a pos) (nH tA) := by
  obtain ⟨t1, p1, l1⟩ := ha
  refine ⟨_, Pa p1, fun σ H ρ μ Qd Q S h k => ?_⟩
  exact l1 σ H ρ μ _ _ S h fun c μ1 H1 e1 S1 h1 => k _ μ1 H1 e1 S1 h1
def AK (ta tb : DTE) : DTE := fun ρ μ Q => ta ρ μ fun x μ1 => match x with
  | .v (.bool c) => if c = true then tb ρ μ1 Q else Q (.v (.bool false)) μ1
  | _ => False
def RK (ta tb : DTE) : DTE := fun ρ μ Q => ta ρ μ fun x μ1 => match x with
  | .v (.bool c) => if c = true then Q (.v (.bool true)) μ1 else tb ρ μ1 Q
  | _ => False
def Kg (ta : DTE) : DTE := fun ρ μ Q => ta ρ μ fun x μ1 => match x with
  | .v (.bool c) => Q (.v (.bool (!c))) μ1
  | _ => False
theorem AN {op} (h : DE X a ta) : DE X (.BoolOp op [a] pos) ta := let ⟨t, p, l⟩ := h; ⟨t, Oy p, l⟩
theorem BB (ha : DE X a ta) (hb : DE X (.BoolOp .And (b :: rest) pos) tb) : DE X (.BoolOp .And (a :: b :: rest) pos) (AK ta tb) := by
  obtain ⟨t1, p1, l1⟩ := ha
  obtain ⟨t2, p2, l2⟩ := hb
  refine ⟨_, OZ p1 p2, fun σ H ρ μ Qd Q S h k => ?_⟩
  refine l1 σ H ρ μ _ _ S h fun x ux μ1 H1 e1 S1 rx h1 => ?_
  split at h1
  · rename_i c
    cases rx
    refine ⟨c, rfl, ?_⟩
    cases c with
    | true => exact zm (l2 σ H1 ρ μ1 _ _ S1 (by simpa using h1) fun d u μ2 H2 e2 S2 r2 h2 => k d u μ2 H2 (e1.trans e2) S2 r2 h2)
    | false => exact By (k (.v _) _ μ1 H1 e1 S1 (Rp.bool false) (by simpa using h1))
  · exact h1.elim
theorem PM (ha : DE X a ta) : DE X (.UnaryOp .Not a pos) (Kg ta) := by
  obtain ⟨t1, p1, l1⟩ := ha
  refine ⟨_, Py p1, fun σ H ρ μ Qd Q S h k => ?_⟩
  refine l1 σ H ρ μ _ _ S h fun x ux μ1 H1 e1 S1 rx h1 => ?_
  split at h1
  · rename_i c
    cases rx
    exact ⟨c, rfl, k (.v _) _ μ1 H1 e1 S1 (Rp.bool _) h1⟩
  · exact h1.elim
def dIf (t : DTT) (ta tb : DTE) : DTE := fun ρ μ Q => t ρ μ fun c μ1 => if c = true then ta ρ μ1 Q else tb ρ μ1 Q
theorem wZ {c : Expr} (hc : DT X c tA) (ha : DE X a ta) (hb : DE X b tb) : DE X (.IfExp c a b pos) (dIf tA ta tb) := by
  obtain ⟨t0, p0, l0⟩ := hc
  obtain ⟨t1, p1, l1⟩ := ha
  obtain ⟨t2, p2, l2⟩ := hb
  refine ⟨_, LJ p0 p1 p2, fun σ H ρ μ Qd Q S h k => ?_⟩
  refine l0 σ H ρ μ _ _ S h fun c μ1 H1 e1 S1 h1 => ?_
  cases c with
  | true => exact zm (l1 σ H1 ρ μ1 _ _ S1 (by simpa using h1) fun d u μ2 H2 e2 S2 r2 h2 => k d u μ2 H2 (e1.trans e2) S2 r2 h2)
  | false => exact By (l2 σ H1 ρ μ1 _ _ S1 (by simpa using h1) fun d u μ2 H2 e2 S2 r2 h2 => k d u μ2 H2 (e1.trans e2) S2 r2 h2)
end
open PySem PySem.Spec PyProof.Rows
section
variable {K : PySem.W.Frag} {μ μ1 : Mu} {H H1 : Hp} {p : Addr}
theorem de {o : HO} (h : H p = none) : Ext K μ H μ (upd H p o) :=
  ⟨fun b u e _ _ => by rw [bD (aU e h)]; exact e, fun b ps e _ => ⟨ps, by rw [bD (aU e h)]; exact e⟩, fun _ ds q => ⟨ds, q⟩, fun _ q _ => q⟩
theorem bY.Ld (ok : bY K μ H) (e : Ext K μ H μ H1) (s : qA H H1) : bY K μ H1 := ⟨fun a ds q => by
  obtain ⟨xs, h1, h2⟩ := ok a ds q
  exact ⟨xs, s _ _ h1, h2.ext ok e⟩, ok.tab.of fun b o h _ => s b o h⟩
theorem JM {o : HO} (h : H p = none) : qA H (upd H p o) := fun b u q => by rw [bD (aU q h)]; exact q
theorem bY.new {o : HO} (ok : bY K μ H) (h : H p = none) : bY K μ (upd H p o) := ok.Ld (de h) (JM h)
theorem St0.new {o : HO} {ρ : Rho} {σ : St} (S : St0 K H ρ μ σ) (h : H p = none) : St0 K (upd H p o) ρ μ σ := ⟨S.mu.new h, S.rho.ext S.mu (de h)⟩
theorem lM {us : List V} {ds : List PyData} (ok : bY K μ H) (r : RpL K μ H ds us) (h : H p = none) : Rp K μ (upd H p (.tup us)) (.tuple ds) (.ref p) :=
  .tuple (SqT.of cP) (r.ext ok (de h))
theorem jx {us : List V} {ds : List PyData} (ok : bY K μ H) (r : RpL K μ H ds us) (h : H p = none) : Rp K μ (upd H p (.lst us)) (.list ds) (.ref p) :=
  .list cP (ok.free h) (r.ext ok (de h))
theorem ml {o : HO} {ds : List PyData} (ok : bY K μ H) (h : H p = none) (hk : K.lookup p = none) : Ext K μ H (aI μ p ds) (upd H p o) where
  keep := fun b u e _ _ => by rw [bD (aU e h)]; exact e
  tb := fun b ps e _ => ⟨ps, by rw [bD (aU e h)]; exact e⟩
  dom := fun b es q => by
    have : b ≠ p := fun z => by rw [z, ok.free h] at q; cases q
    exact ⟨es, by rw [dy this]; exact q⟩
  fresh := fun b n q => by
    have : b ≠ p := fun z => by
      rcases q with q | q
      · exact q (by rw [z]; exact h)
      · exact q (by rw [z]; exact hk)
    rw [dy this]; exact n
theorem bY.mut {us : List V} {ds : List PyData} (ok : bY K μ H) (r : RpL K μ H ds us) (h : H p = none) (hk : K.lookup p = none) : bY K (aI μ p ds) (upd H p (.lst us)) := ⟨fun a es q => by
  have e := ml (o := .lst us) (ds := ds) ok h hk
  by_cases ha : a = p
  · subst ha
    rw [bI] at q
    cases q
    exact ⟨us, cP, r.ext ok e⟩
  · rw [dy ha] at q
    obtain ⟨xs, h1, h2⟩ := ok a es q
    exact ⟨xs, by rw [bD ha]; exact h1, h2.ext ok e⟩, ok.tab.of fun b o e _ => by rw [bD (aU e h)]; exact e⟩
theorem rq {o : HO} {ds es : List PyData} (h : μ p = some ds) : Ext K μ H (aI μ p es) (upd H p o) where
  keep := fun b u e n _ => by
    have : b ≠ p := fun z => by rw [z, h] at n; cases n
    rw [bD this]; exact e
  tb := fun b ps e n => by
    have : b ≠ p := fun z => by rw [z, h] at n; cases n
    exact ⟨ps, by rw [bD this]; exact e⟩
  dom := fun b fs q => by
    by_cases hb : b = p
    · subst hb; exact ⟨es, bI⟩
    · exact ⟨fs, by rw [dy hb]; exact q⟩
  fresh := fun b n q => by
    have : b ≠ p := fun z => by rw [z, h] at n; cases n
    rw [dy this]; exact n
theorem bY.set {us : List V} {ds es : List PyData} (ok : bY K μ H) (h : μ p = some ds) (r : RpL K μ H es us) : bY K (aI μ p es) (upd H p (.lst us)) := ⟨fun a fs q => by
  have e : Ext K μ H (aI μ p es) (upd H p (.lst us)) := rq h
  by_cases ha : a = p
  · subst ha
    rw [bI] at q
    cases q
    exact ⟨us, cP, r.ext ok e⟩
  · rw [dy ha] at q
    obtain ⟨xs, h1, h2⟩ := ok a fs q
    exact ⟨xs, by rw [bD ha]; exact h1, h2.ext ok e⟩, by
  obtain ⟨ys, hy, _⟩ := ok p ds h
  exact ok.tab.of fun b o e n => by
    have : b ≠ p := fun z => by rw [z, hy] at e; exact n ys (Option.some.inj e).symm
    rw [bD this]; exact e⟩
end
def dS : List D → Option (List PyData)
  | [] => some []
  | .v x :: r => (dS r).map (x :: ·)
  | _ :: _ => none
theorem jR.data {K : PySem.W.Frag} {μ : Mu} {H : Hp} : ∀ {ds : List D} {us : List V} {xs : List PyData}, jR K μ H ds us → dS ds = some xs → RpL K μ H xs us
  | _, _, _, .nil, e => by cases e; exact .nil
  | .v x :: r, _, xs, .cons h t, e => by
    simp only [dS] at e
    cases q : dS r with
    | none => rw [q] at e; cases e
    | some ys => rw [q] at e; cases e; exact .cons h (jR.data t q)
  | .m _ :: _, _, _, .cons _ _, e => by simp [dS] at e
  | .s _ :: _, _, _, .cons _ _, e => by simp [dS] at e
  | .o _ :: _, _, _, .cons _ _, e => by simp [dS] at e
section
variable {X : Cx} {e : Expr} {es : List Expr} {te : DTE} {t : DTA} {pos : Pos}
def ak : DTA := fun _ μ Q => Q [] μ
def ae (ta : DTE) (tr : DTA) : DTA := fun ρ μ Q => ta ρ μ fun x μ1 => tr ρ μ1 fun xs μ2 => Q (x :: xs) μ2
theorem ag : DA X [] ak := ⟨_, nX, fun σ H ρ μ Qd Q S h k => k [] [] μ H .refl S .nil rfl h⟩
theorem aa (ha : DE X e te) (hr : DA X es t) (hs : starEach (e :: es) X.env = (false, eval e X.env) :: starEach es X.env := by rfl) : DA X (e :: es) (ae te t) := by
  obtain ⟨t1, p1, l1⟩ := ha
  obtain ⟨t2, p2, l2⟩ := hr
  refine ⟨_, gF p1 p2 hs, fun σ H ρ μ Qd Q S h k => ?_⟩
  refine l1 σ H ρ μ _ _ S h fun x ux μ1 H1 e1 S1 rx h1 => ?_
  refine l2 σ H1 ρ μ1 _ _ S1 h1 fun xs us μ2 H2 e2 S2 rs len h2 => ?_
  exact k (x :: xs) (ux :: us) μ2 H2 (e1.trans e2) S2 (.cons (rx.ext S1.mu e2) rs) (by rw [List.length_cons, List.length_cons, len]) h2
def bE (t : DTA) : DTE := fun ρ μ Q => t ρ μ fun ds μ1 => match dS ds with
  | some xs => Q (.v (.tuple xs)) μ1
  | none => False
def j4 (t : DTA) : DTE := fun ρ μ Q => t ρ μ fun ds μ1 => match dS ds with
  | some xs => Q (.v (.list xs)) μ1
  | none => False
def Gs (t : DTA) : DTE := fun ρ μ Q => t ρ μ fun ds μ1 => match dS ds with
  | some xs => ∀ p, μ1 p = none → Q (.m p) (aI μ1 p xs)
  | none => False
theorem aG {x1} (h : DA X es t) (hl : es.length ≤ 1000 := by decide) : DE X (.Tuple es x1 pos) (bE t) := by
  obtain ⟨t1, p1, l1⟩ := h
  refine ⟨_, Lj p1, fun σ H ρ μ Qd Q S h k => ?_⟩
  refine l1 σ H ρ μ _ _ S h fun ds us μ1 H1 e1 S1 rs len h1 => ?_
  cases q : dS ds with
  | none => rw [q] at h1; exact h1.elim
  | some xs =>
    rw [q] at h1
    refine ⟨Nat.le_of_lt (eL (by rw [← rs.length, len]; exact hl)), fun p hp => ?_⟩
    exact k (.v (.tuple xs)) _ μ1 _ (e1.trans (de hp)) (S1.new hp) (lM S1.mu (rs.data q) hp) h1
theorem dD (h : DA X es t) (hl : es.length ≤ 1000 := by decide) : DE X (.List es pos) (j4 t) := by
  obtain ⟨t1, p1, l1⟩ := h
  refine ⟨_, Ju p1, fun σ H ρ μ Qd Q S h k => ?_⟩
  refine l1 σ H ρ μ _ _ S h fun ds us μ1 H1 e1 S1 rs len h1 => ?_
  cases q : dS ds with
  | none => rw [q] at h1; exact h1.elim
  | some xs =>
    rw [q] at h1
    refine ⟨Nat.le_of_lt (eL (by rw [← rs.length, len]; exact hl)), fun p hp => ?_⟩
    exact k (.v (.list xs)) _ μ1 _ (e1.trans (de hp)) (S1.new hp) (jx S1.mu (rs.data q) hp) h1
def Qa (K : PySem.W.Frag) (t : TA) : TE := fun σ H Q => t σ H fun xs H1 => xs.length ≤ sizeLine ∧ ∀ p, H1 p = none → K.lookup p = none → Q (.ref p) (upd H1 p (.lst xs))
theorem Me {t : TA} (h : PA X es t) : PE X (.List es pos) (Qa X.K t) := by
  intro pins s σ H Q I hq
  refine wpAny_List_spliced (thn (h pos pins s σ H _ I hq) fun us s1 ⟨xs, H1, I1, r, z, q⟩ => ⟨by rw [← r.length]; exact z, ?_⟩)
  have hf : H1 s1.heap.objs.size = none := I1.hok.fresh (Nat.le_refl _)
  have hk : X.K.lookup s1.heap.objs.size = none := by
    cases c : X.K.lookup s1.heap.objs.size with
    | none => rfl
    | some o => exact absurd (Heap.lt_size (I1.kIn _ _ c)) (Nat.lt_irrefl _)
  refine ⟨.ref s1.heap.objs.size, upd H1 s1.heap.objs.size (.lst xs), I1.laid (t' := s1.toks) (fun b u e => Heap.get?_push_of_some _ e) (Nat.le_refl _) ?_, rfl, q _ hf hk⟩
  exact ⟨z, us, 0, r, Heap.get?_push_size _ rfl⟩
theorem HL (h : DA X es t) (hl : es.length ≤ 1000 := by decide) : DE X (.List es pos) (Gs t) := by
  obtain ⟨t1, p1, l1⟩ := h
  refine ⟨_, Me p1, fun σ H ρ μ Qd Q S h k => ?_⟩
  refine l1 σ H ρ μ _ _ S h fun ds us μ1 H1 e1 S1 rs len h1 => ?_
  cases q : dS ds with
  | none => rw [q] at h1; exact h1.elim
  | some xs =>
    rw [q] at h1
    refine ⟨Nat.le_of_lt (eL (by rw [← rs.length, len]; exact hl)), fun p hp hk => ?_⟩
    have ex := ml (o := .lst us) (ds := xs) S1.mu hp hk
    exact k (.m p) _ (aI μ1 p xs) _ (e1.trans ex) ⟨S1.mu.mut (rs.data q) hp hk, S1.rho.ext S1.mu ex⟩ ⟨rfl, xs, bI⟩ (h1 p (S1.mu.free hp))
end
section
variable {X : Cx} {pins : List (Addr × Obj)} {σ : St} {H : Hp} {s : Shared} {μ : Mu}
mutual
theorem iY (I : Inv X pins σ H s) : ∀ {d : PyData} {x : V} {u : Value}, Rp X.K μ H d x → RelV x u → ∃ as, Reads s.heap u d as
  | _, _, _, .none, r => by cases r; exact ⟨_, .none⟩
  | _, _, _, .bool b, r => by cases r; exact ⟨_, .bool b⟩
  | _, _, _, .int i, r => by obtain ⟨t, rfl⟩ := r; exact ⟨_, .int i t⟩
  | _, _, _, .str y, r => by obtain ⟨t, rfl⟩ := r; exact ⟨_, .str y t⟩
  | _, _, _, .list h _ q, r => by
    cases r
    obtain ⟨its, rv, ⟨o, n, ho, hc, _, hd⟩, _⟩ := I.list (SqL.of h)
    obtain ⟨as, ra⟩ := pW I q rv
    exact ⟨_, .list ho hc hd (by simpa using ra)⟩
  | _, _, _, .tuple h q, r => by
    cases r
    obtain ⟨its, rv, ⟨o, ho, hc, n, hd⟩, _⟩ := I.tuple h
    obtain ⟨as, ra⟩ := pW I q rv
    exact ⟨_, .tuple ho hc hd (by simpa using ra)⟩
theorem pW (I : Inv X pins σ H s) : ∀ {ds : List PyData} {xs : List V} {us : List Value}, RpL X.K μ H ds xs → Vals xs us → ∃ as, ReadsAll s.heap us ds as
  | _, _, _, .nil, .nil => ⟨_, .nil⟩
  | _, _, _, .cons h t, .cons r q => by
    obtain ⟨as, ra⟩ := iY I h r
    obtain ⟨bs, rb⟩ := pW I t q
    exact ⟨_, .cons ra rb⟩
end
end
section
variable {X : Cx}
def OM (K : PySem.W.Frag) (neg : Bool) : R2 := fun x y H Q => ∃ μ a b, Rp K μ H a x ∧ Rp K μ H b y ∧ SeqAt.shaped a = true ∧ SeqAt.shaped b = true ∧ Q (.bl (neg ^^ PyData.eqv a b)) H
theorem d6 (hu : X.A.units + 64 < cLine) : OpR X (compareOp .Eq) (OM X.K false) := by
  intro pins s σ H x y v u Q I rx ry h
  obtain ⟨μ, a, b, ha, hb, sa, sb, q⟩ := h
  obtain ⟨as, ra⟩ := iY I ha rx
  obtain ⟨bs, rb⟩ := iY I hb ry
  exact eq_dataH ra rb sa sb hu ⟨.bl (PyData.eqv a b), H, I, rfl, by simpa using q⟩
theorem wz (hu : X.A.units + 64 < cLine) : OpR X (compareOp .NotEq) (OM X.K true) := by
  intro pins s σ H x y v u Q I rx ry h
  obtain ⟨μ, a, b, ha, hb, sa, sb, q⟩ := h
  obtain ⟨as, ra⟩ := iY I ha rx
  obtain ⟨bs, rb⟩ := iY I hb ry
  exact ne_dataH ra rb sa sb hu ⟨.bl (!PyData.eqv a b), H, I, rfl, by simpa using q⟩
def fe (neg : Bool) : D → D → Mu → DK → Prop := fun x y μ Q => match x, y with
  | .v a, .v b => SeqAt.shaped a = true ∧ SeqAt.shaped b = true ∧ Q (.v (.bool (neg ^^ PyData.eqv a b))) μ
  | _, _ => False
theorem cZ {K : PySem.W.Frag} {neg : Bool} : l5 K (OM K neg) (fe neg) := by
  intro x y ux uy H μ Qd Q ok rx ry h k
  unfold fe at h
  split at h
  · rename_i a b
    exact ⟨μ, a, b, rx, ry, h.1, h.2.1, k (.v _) _ μ H .refl ok (Rp.bool _) h.2.2⟩
  · exact h.elim
def O1 (K : PySem.W.Frag) (neg : Bool) : R2 := fun x y H Q => ∃ μ a bs, Rp K μ H a x ∧ Rp K μ H (.list bs) y ∧ PyData.canLayAll0 bs = true ∧ a.canLay0 = true ∧ PyData.depth a ≤ 60 ∧ Q (.bl (neg ^^ bs.any fun b => PyData.eqv b a)) H
theorem Km (hu : X.A.units + 64 < cLine) : OpR X (compareOp .In) (O1 X.K false) := by
  intro pins s σ H x y v u Q I rx ry h
  obtain ⟨μ, a, b, ha, hb, sb, sa, dp, q⟩ := h
  obtain ⟨as, ra⟩ := iY I ha rx
  obtain ⟨bs, rb⟩ := iY I hb ry
  refine SeqAt.in_list_reads rb ra sb sa (by omega) ⟨.bl (b.any fun z => PyData.eqv z a), H, I, rfl, by simpa using q⟩
theorem Ir (hu : X.A.units + 64 < cLine) : OpR X (compareOp .NotIn) (O1 X.K true) := by
  intro pins s σ H x y v u Q I rx ry h
  obtain ⟨μ, a, b, ha, hb, sb, sa, dp, q⟩ := h
  obtain ⟨as, ra⟩ := iY I ha rx
  obtain ⟨bs, rb⟩ := iY I hb ry
  refine SeqAt.notIn_list_reads rb ra sb sa (by omega) ⟨.bl (!b.any fun z => PyData.eqv z a), H, I, rfl, by simpa using q⟩
def Ie (neg : Bool) : D → D → Mu → DK → Prop := fun x y μ Q => match x, y with
  | .v a, .v (.list bs) => PyData.canLayAll0 bs = true ∧ a.canLay0 = true ∧ PyData.depth a ≤ 60 ∧ Q (.v (.bool (neg ^^ bs.any fun b => PyData.eqv b a))) μ
  | _, _ => False
theorem EV {K : PySem.W.Frag} {neg : Bool} : l5 K (O1 K neg) (Ie neg) := by
  intro x y ux uy H μ Qd Q ok rx ry h k
  unfold Ie at h
  split at h
  · rename_i a b
    exact ⟨μ, a, b, rx, ry, h.1, h.2.1, h.2.2.1, k (.v _) _ μ H .refl ok (Rp.bool _) h.2.2.2⟩
  · exact h.elim
end
open PySem PySem.Spec PyProof.Rows
section
variable {X : Cx} {a b e : Expr} {es : List Expr} {ta tb te : DTE} {t : DTA} {p pos : Pos}
def aB : D → D → Mu → DK → Prop := fun x y μ Q => match x, y with
  | .v (.list xs), .v (.int i) => (match atI xs i with | some d => Q (.v d) μ | none => False)
  | .v (.tuple xs), .v (.int i) => (match atI xs i with | some d => Q (.v d) μ | none => False)
  | .m l, .v (.int i) => (match μ l with
    | some xs => (match atI xs i with | some d => Q (.v d) μ | none => False)
    | none => False)
  | .s ns, .v (.int i) => (match atI ns i with | some d => Q (.v (.int d)) μ | none => False)
  | _, _ => False
theorem QR {K : PySem.W.Frag} : l5 K (rIx K) aB := by
  intro x y ux uy H μ Qd Q ok rx ry h k
  unfold aB at h
  split at h
  · rename_i xs i
    cases ry
    cases q : atI xs i with
    | none => rw [q] at h; exact h.elim
    | some d =>
      rw [q] at h
      cases rx with
      | list hs hn r =>
        obtain ⟨u, e1, e2⟩ := E3 r q
        exact .inl ⟨_, _, i, u, rfl, rfl, SqL.of hs, e1, k (.v d) u μ H .refl ok e2 h⟩
  · rename_i xs i
    cases ry
    cases q : atI xs i with
    | none => rw [q] at h; exact h.elim
    | some d =>
      rw [q] at h
      cases rx with
      | tuple hs r =>
        obtain ⟨u, e1, e2⟩ := E3 r q
        exact .inr (.inl ⟨_, _, i, u, rfl, rfl, hs, e1, k (.v d) u μ H .refl ok e2 h⟩)
  · rename_i l i
    cases ry
    obtain ⟨rfl, ds, hm⟩ := rx
    rw [hm] at h
    simp only at h
    cases q : atI ds i with
    | none => rw [q] at h; exact h.elim
    | some d =>
      rw [q] at h
      obtain ⟨us, hl, r⟩ := ok l ds hm
      obtain ⟨u, e1, e2⟩ := E3 r q
      exact .inl ⟨_, _, i, u, rfl, rfl, SqL.of hl, e1, k (.v d) u μ H .refl ok e2 h⟩
  · rename_i ns i
    cases ry
    obtain ⟨a, rfl, hs, hn⟩ := rx
    cases q : atI ns i with
    | none => rw [q] at h; exact h.elim
    | some d =>
      rw [q] at h
      have e1 : atI (ns.map V.int) i = some (.int d) := by
        unfold atI at q ⊢
        rw [List.length_map]
        cases z : ixN ns.length i with
        | none => rw [z] at q; cases q
        | some j =>
          rw [z] at q
          simp only [Option.bind_some, List.getElem?_map] at q ⊢
          rw [q] <;> rfl
      exact .inl ⟨_, _, i, _, rfl, rfl, hs, e1, k (.v (.int d)) _ μ H .refl ok (Rp.int d) h⟩
  · exact h.elim
theorem aw (ha : DE X a ta) (hb : DE X b tb) (hs : Cw b) : DE X (.Subscript a b pos) (dOp aB ta tb) := by
  obtain ⟨t1, p1, l1⟩ := ha
  obtain ⟨t2, p2, l2⟩ := hb
  exact ⟨_, Nn JJ p1 p2 hs, xO QR l1 l2⟩
theorem KH {prog : Program} {w : World} {A : Around} {E : Value → Shared → Prop} {s : Shared} {t b : Addr} {ws : List Value} {Q : Value → Shared → Prop} (ht : IsTup s.heap t #[]) (hb : IsTup s.heap b ws.toArray)
    (h1 : Q (.ref b) s) : wpAny (model prog w) A (binaryOp .Add (.ref t) (.ref b)) Q E s := by
  obtain ⟨⟨cls, dd, data, sl⟩, ho, hc, n, hd⟩ := id ht
  obtain ⟨⟨cls2, dd2, data2, sl2⟩, ho2, hc2, n2, hd2⟩ := id hb
  simp only at hc hd hc2 hd2
  subst hc hd hc2 hd2
  exact concat_meets ⟨_, ho, rfl⟩ ⟨_, ho2, rfl⟩ noFill_tuple_add seq_tuple_add PySem.F.slot_tuple_add PySem.F.entry_tuple_add (PySem.F.args_tuple_add_2 _ _)
    (tuple_addW0 t b #[] ws.toArray n n2 dd dd2 sl sl2 rfl) ⟨ho, ho2, h1⟩
def w8 (μ : Mu) : D → Option (List PyData)
  | .v (.list xs) => some xs
  | .m l => μ l
  | _ => none
theorem DF {K : PySem.W.Frag} {μ : Mu} {H : Hp} {x : D} {u : V} {xs : List PyData} (ok : bY K μ H) (r : RpD K μ H x u) (h : w8 μ x = some xs) : ∃ a us, u = .ref a ∧ H a = some (.lst us) ∧ RpL K μ H xs us := by
  cases x with
  | v d =>
    cases d <;> simp only [w8] at h <;> try cases h
    cases r with
    | list hs _ q => exact ⟨_, _, rfl, hs, q⟩
  | m l =>
    obtain ⟨rfl, ds, hm⟩ := r
    obtain ⟨us, hl, q⟩ := ok l xs h
    exact ⟨l, us, rfl, hl, q⟩
  | s ns => cases h
  | o a => cases h
  | q P => cases h
def CZ : D → D → Mu → DK → Prop := fun x y μ Q => match w8 μ x, w8 μ y with
  | some xs, some ys => xs.length + ys.length ≤ 1000 ∧ Q (.v (.list (xs ++ ys))) μ
  | _, _ => False
theorem HJ {n : Nat} (h : n ≤ 1000) : n ≤ sizeLine := Nat.le_of_lt (eL h)
theorem Pw {K : PySem.W.Frag} : l5 K Pc CZ := by
  intro x y ux uy H μ Qd Q ok rx ry h k
  unfold CZ at h
  split at h
  · rename_i xs ys hx hy
    obtain ⟨a, us, rfl, ha, ra⟩ := DF ok rx hx
    obtain ⟨b, ws, rfl, hb, rb⟩ := DF ok ry hy
    refine ⟨a, b, us, ws, rfl, rfl, ha, hb, HJ (by rw [← ra.length, ← rb.length]; exact h.1), fun p hp => ?_⟩
    exact k (.v _) _ μ _ (de hp) (ok.new hp) (jx ok (ra.append rb) hp) h.2
  · exact h.elim
def Gd (K : PySem.W.Frag) : R2 := fun x y H Q => ∃ a b xs ys, x = .ref a ∧ y = .ref b ∧ SqT K H a xs ∧ SqT K H b ys ∧ xs.length + ys.length ≤ sizeLine ∧
  (xs = [] → Q (.ref b) H) ∧ (ys = [] → Q (.ref a) H) ∧ (∀ p, H p = none → Q (.ref p) (upd H p (.tup (xs ++ ys))))
theorem Ki : OpR X (binaryOp .Add) (Gd X.K) := by
  intro pins s σ H x y v u Q I rx ry h
  obtain ⟨a, b, xs, ys, rfl, rfl, ha, hb, hz, q0, q1, q2⟩ := h
  by_cases hx : xs = []
  · subst hx
    cases rx
    cases ry
    obtain ⟨its, r1, p1, _⟩ := I.tuple ha
    obtain ⟨its2, r2, p2, _⟩ := I.tuple hb
    cases r1
    exact KH p1 p2 ⟨.ref b, H, I, rfl, q0 rfl⟩
  · exact MF pins s σ H _ _ v u Q I rx ry ⟨a, b, xs, ys, rfl, rfl, ha, hb, hx, hz, q1, fun _ => q2⟩
def FX : D → D → Mu → DK → Prop := fun x y μ Q => match x, y with
  | .v (.tuple xs), .v (.tuple ys) => xs.length + ys.length ≤ 1000 ∧ Q (.v (.tuple (xs ++ ys))) μ
  | _, _ => False
theorem L6 {K : PySem.W.Frag} : l5 K (Gd K) FX := by
  intro x y ux uy H μ Qd Q ok rx ry h k
  unfold FX at h
  split at h
  · rename_i xs ys
    cases id rx with
    | @tuple a us _ ha ra =>
      cases id ry with
      | @tuple b ws _ hb rb =>
        refine ⟨a, b, us, ws, rfl, rfl, ha, hb, HJ (by rw [← ra.length, ← rb.length]; exact h.1), fun z => ?_, fun z => ?_, fun p hp => ?_⟩
        · subst z
          cases ra
          exact k (.v _) _ μ H .refl ok ry (by simpa using h.2)
        · subst z
          cases rb
          exact k (.v _) _ μ H .refl ok rx (by simpa using h.2)
        · exact k (.v _) _ μ _ (de hp) (ok.new hp) (lM ok (ra.append rb) hp) h.2
  · exact h.elim
end
end L2.DL
set_option Elab.async false
set_option linter.all false
set_option maxRecDepth 100000
set_option maxHeartbeats 4000000
namespace HT
open PySem PyProof.Rows
section
variable {prog : Program} {w : World} {A : Around} {E : Value → Shared → Prop} {s : Shared}
theorem vz {t sl : Addr} {items : Array Value} {vl vu : Value} {lo hi : Option Int} {Q : Value → Shared → Prop} (ht : IsTup s.heap t items) (hs : s.heap.IsSliceOf sl vl vu .none) (pl : IsPart vl lo) (pu : IsPart vu hi)
    (hw : sIx items.size 0 lo = 0 ∧ sIx items.size items.size hi = items.size) (h : Q (.ref t) s) : wpAny (model prog w) A (getItem (.ref t) (.ref sl)) Q E s := by
  obtain ⟨os, hos, hcs, hds⟩ := id hs
  have hTs : s.TypeIs (.ref sl) "slice" := ⟨os, hos, hcs⟩
  unfold getItem
  try with_reducible refine wpAny_holding ?_
  first | refine wpAny_bind (wpAny_pure ?_) | skip
  refine wpAny_bind (wpAny_sequenceKey ht.typeIs (by decide) ?_)
  refine wpAny_bind (wpAny_callSpecial?_slot (name := Str.ofString "__getitem__") ht.typeIs PyProof.Rows.slot_tuple_getitem
    (wpAny_call_entry PyProof.Rows.slot_tuple_getitem ht.typeIs entry_tuple_getitem ?_ (args_tuple_getitem _ _)))
  show wpAny _ _ (Builtin.Tuple.tupleItemsOf (.ref t) >>= _) _ _ s
  refine wpAny_bind (tupleItemsOf_ ht ?_)
  refine wpAny_bind (wpAny_typeOf hTs ?_)
  rw [if_pos (by decide)]
  refine wpAny_bind (nP hs pl pu ?_)
  have hno : ((((sIx items.size 0 lo : Nat) : Int) == 0 && (1 : Int) == 1 && (sIx items.size items.size hi - sIx items.size 0 lo) == items.size) = true) := by
    rw [hw.1, hw.2]
    simp
  show wpAny _ _ (if (((sIx items.size 0 lo : Nat) : Int) == 0 && (1 : Int) == 1 && (sIx items.size items.size hi - sIx items.size 0 lo) == items.size) = true then _ else _) _ _ s
  rw [if_pos hno]
  refine wpAny_bind ?_
  unfold Builtin.Tuple.tupleIsExact
  refine wpAny_bind (wpAny_typeOf ht.typeIs (wpAny_pure ?_))
  rw [if_pos (by decide)]
  refine wpAny_bind (wpAny_rule ?_)
  exact wpAny_pure ⟨_, rfl, wpAny_pure h⟩
end
end HT
namespace L2.DL
open PySem PySem.Spec PyProof.Rows
section
variable {X : Cx} {a b e : Expr} {lo hi : Option Expr} {ta tb te : DTE} {pos p2 : Pos}
def oS {α : Type} (xs : List α) (lo hi : Option Int) : List α := (xs.drop (HT.sIx xs.length 0 lo)).take (HT.sIx xs.length xs.length hi - HT.sIx xs.length 0 lo)
theorem RpL.cut {K : PySem.W.Frag} {μ : Mu} {H : Hp} {ds : List PyData} {us : List V} {lo hi : Option Int} (r : RpL K μ H ds us) : RpL K μ H (oS ds lo hi) (Bb us lo hi) := by
  unfold oS Bb
  rw [r.length]
  exact (r.drop _).take _
theorem MS {α : Type} {xs : List α} {lo hi : Option Int} (h : HT.sIx xs.length 0 lo = 0 ∧ HT.sIx xs.length xs.length hi = xs.length) : oS xs lo hi = xs := by
  unfold oS
  rw [h.1, h.2]
  simp
def Ro (K : PySem.W.Frag) : V → Option Int → Option Int → Hp → VK → Prop := fun x lo hi H Q => ∃ a xs, x = .ref a ∧ SqT K H a xs ∧
  (HT.sIx xs.length 0 lo = 0 ∧ HT.sIx xs.length xs.length hi = xs.length → Q (.ref a) H) ∧ ∀ p, H p = none → Q (.ref p) (upd H p (.tup (Bb xs lo hi)))
theorem LQ : SlR X (Ro X.K) := by
  intro pins s σ H x v vl vu lo hi sl Q I rx hs pl pu h
  obtain ⟨a, xs, rfl, hx, q1, q⟩ := h
  by_cases hw : HT.sIx xs.length 0 lo = 0 ∧ HT.sIx xs.length xs.length hi = xs.length
  · cases rx
    obtain ⟨its, r, ht, hz⟩ := I.tuple hx
    have hlen : its.toArray.size = xs.length := by rw [List.size_toArray]; exact r.length.symm
    refine ⟨"tuple", _, PyProof.Rows.slot_tuple_getitem.lookup, ht.typeIs, ?_⟩
    exact HT.vz ht hs pl pu (by rw [hlen]; exact hw) ⟨.ref a, H, I, rfl, q1 hw⟩
  · exact O9 pins s σ H _ v vl vu lo hi sl Q I rx hs pl pu ⟨a, xs, rfl, hx, hw, q⟩
abbrev DTO := Rho → Mu → (Option Int → Mu → Prop) → Prop
def Rg (K : PySem.W.Frag) (t : TO) (td : DTO) : Prop := ∀ (σ : St) (H : Hp) (ρ : Rho) (μ : Mu) (Qd : Option Int → Mu → Prop) (Q : Option Int → Hp → Prop), St0 K H ρ μ σ → td ρ μ Qd →
  (∀ o μ' H', Ext K μ H μ' H' → St0 K H' ρ μ' σ → Qd o μ' → Q o H') → t σ H Q
def DO (X : Cx) (e : Option Expr) (td : DTO) : Prop := ∃ t, PO X e t ∧ Rg X.K t td
def rG : DTO := fun _ μ Q => Q none μ
def AE (t : DTE) : DTO := fun ρ μ Q => t ρ μ fun x μ1 => match x with
  | .v (.int i) => Q (some i) μ1
  | _ => False
theorem xH : DO X none rG := ⟨_, Mk, fun σ H ρ μ Qd Q S h k => k none μ H .refl S h⟩
theorem xK (h : DE X e te) : DO X (some e) (AE te) := by
  obtain ⟨t1, p1, l1⟩ := h
  refine ⟨_, Mw p1, fun σ H ρ μ Qd Q S h k => ?_⟩
  refine l1 σ H ρ μ _ _ S h fun x ux μ1 H1 e1 S1 rx h1 => ?_
  split at h1
  · cases rx
    exact ⟨_, rfl, k _ μ1 H1 e1 S1 h1⟩
  · exact h1.elim
def Kv (x : D) (lo hi : Option Int) (μ : Mu) (Q : DK) : Prop := match x with
  | .v (.tuple xs) => Q (.v (.tuple (oS xs lo hi))) μ
  | .v (.list xs) => Q (.v (.list (oS xs lo hi))) μ
  | .m l => (match μ l with | some xs => Q (.v (.list (oS xs lo hi))) μ | none => False)
  | _ => False
def dSl (te : DTE) (tl th : DTO) : DTE := fun ρ μ Q => te ρ μ fun x μ1 => tl ρ μ1 fun l μ2 => th ρ μ2 fun u μ3 => Kv x l u μ3 Q
theorem vB {tl th : DTO} (he : DE X e te) (hl : DO X lo tl) (hu : DO X hi th) : DE X (.Subscript e (.Slice lo hi none p2) pos) (dSl te tl th) := by
  obtain ⟨t1, p1, l1⟩ := he
  obtain ⟨t2, p2, l2⟩ := hl
  obtain ⟨t3, p3, l3⟩ := hu
  refine ⟨_, KS (Mo.or LQ) p1 p2 p3, fun σ H ρ μ Qd Q S h k => ?_⟩
  refine l1 σ H ρ μ _ _ S h fun x ux μ1 H1 e1 S1 rx h1 => ?_
  refine l2 σ H1 ρ μ1 _ _ S1 h1 fun l μ2 H2 e2 S2 h2 => ?_
  refine l3 σ H2 ρ μ2 _ _ S2 h2 fun u μ3 H3 e3 S3 h3 => ?_
  have rx3 := (rx.ext S1.mu e2).ext S2.mu e3
  have ee := e1.trans (e2.trans e3)
  unfold Kv at h3
  split at h3
  · rename_i xs
    cases id rx3 with
    | @tuple a us _ ha ra =>
      refine .inr ⟨a, us, rfl, ha, fun hw => ?_, fun p hp => ?_⟩
      · refine k (.v _) _ μ3 H3 ee S3 (show Rp _ _ _ (.tuple (oS xs l u)) _ from ?_) h3
        rw [MS (by rw [ra.length]; exact hw)]
        exact rx3
      · exact k (.v _) _ μ3 _ (ee.trans (de hp)) (S3.new hp) (lM S3.mu ra.cut hp) h3
  · rename_i xs
    cases id rx3 with
    | @list a us _ ha hn ra => exact .inl ⟨a, us, rfl, SqL.of ha, fun p hp => k (.v _) _ μ3 _ (ee.trans (de hp)) (S3.new hp) (jx S3.mu ra.cut hp) h3⟩
  · rename_i a
    obtain ⟨rfl, ds, hm⟩ := rx3
    rw [hm] at h3
    obtain ⟨us, ha, ra⟩ := S3.mu a ds hm
    exact .inl ⟨a, us, rfl, SqL.of ha, fun p hp => k (.v _) _ μ3 _ (ee.trans (de hp)) (S3.new hp) (jx S3.mu ra.cut hp) h3⟩
  · exact h3.elim
def Rz (te : DTE) : DTE := fun ρ μ Q => te ρ μ fun x μ1 => match x with
  | .v (.tuple xs) => Q (.v (.tuple xs.reverse)) μ1
  | .v (.list xs) => Q (.v (.list xs.reverse)) μ1
  | .m l => (match μ1 l with | some xs => Q (.v (.list xs.reverse)) μ1 | none => False)
  | _ => False
end
open PySem PySem.Spec PyProof.Rows
section
variable {X : Cx} {a b e : Expr} {es : List Expr} {ta tb te : DTE} {t : DTA} {p pos : Pos} {x : Str} {bid T : String}
def sD (K : PySem.W.Frag) (r : List V → Hp → VK → Prop) (rd : List D → Mu → DK → Prop) : Prop := ∀ (xs : List D) (us : List V) (H : Hp) (μ : Mu) (Qd : DK) (Q : VK), bY K μ H → jR K μ H xs us → rd xs μ Qd →
  (∀ d u μ' H', Ext K μ H μ' H' → bY K μ' H' → RpD K μ' H' d u → Qd d μ' → Q u H') → r us H Q
def dCB (rd : List D → Mu → DK → Prop) (t : DTA) : DTE := fun ρ μ Q => t ρ μ fun ds μ1 => rd ds μ1 Q
theorem GF {K : PySem.W.Frag} {n : Nat} {r : List V → Hp → VK → Prop} {rd : List D → Mu → DK → Prop} {t1 : TA} (lc : sD K r rd) (l1 : Nw K n t1 t) : ve K (tCB r t1) (dCB rd t) := by
  intro σ H ρ μ Qd Q S h k
  refine l1 σ H ρ μ _ _ S h fun xs us μ1 H1 e1 S1 rs len h1 => ?_
  exact lc xs us H1 μ1 _ _ S1.mu rs h1 fun d u μ' H' e2 ok r q => k d u μ' H' (e1.trans e2) ⟨ok, S1.rho.ext S1.mu e2⟩ r q
theorem qj {r : List V → Hp → VK → Prop} {rd : List D → Mu → DK → Prop} (hc : i4 X (.builtin bid) r) (lc : sD X.K r rd) (hg : Gl X x) (hm : X.mg x = none) (hv : bootBuiltins x = some (.builtin bid)) (ha : DA X (e :: es) t) (hn : x ≠ "__name__" := by decide) (hdb : (x == ("__debug__" : Str)) = false := by decide)
    (he : starEach (e :: es) X.env = (false, eval e X.env) :: starEach es X.env := by rfl) (hpl : (backTo pos (starEach es X.env)).any (·.1) = false := by rfl) : DE X (.Call (.Name x p) (e :: es) [] pos) (dCB rd t) := by
  obtain ⟨t1, p1, l1⟩ := ha
  exact ⟨_, uM hc hg hm hv p1 hn hdb he hpl, GF lc l1⟩
theorem wI {r : List V → Hp → VK → Prop} {rd : List D → Mu → DK → Prop} (hc : i4 X (.type T) r) (lc : sD X.K r rd) (hg : Gl X x) (hm : X.mg x = none) (hv : bootBuiltins x = some (.type T)) (ha : DA X (e :: es) t) (hn : x ≠ "__name__" := by decide) (hdb : (x == ("__debug__" : Str)) = false := by decide)
    (he : starEach (e :: es) X.env = (false, eval e X.env) :: starEach es X.env := by rfl) (hpl : (backTo pos (starEach es X.env)).any (·.1) = false := by rfl) : DE X (.Call (.Name x p) (e :: es) [] pos) (dCB rd t) := by
  obtain ⟨t1, p1, l1⟩ := ha
  exact ⟨_, Ib hc hg hm hv p1 hn hdb he hpl, GF lc l1⟩
def iC : List D → Mu → DK → Prop := fun xs μ Q => match xs with
  | [.v (.list ys)] => Q (.v (.int (ys.length : Nat))) μ
  | [.v (.tuple ys)] => Q (.v (.int (ys.length : Nat))) μ
  | [.m l] => (match μ l with | some ys => Q (.v (.int (ys.length : Nat))) μ | none => False)
  | [.s ns] => Q (.v (.int (ns.length : Nat))) μ
  | _ => False
theorem O2 {K : PySem.W.Frag} : sD K (fun xs H Q => ∃ p ys, xs = [.ref p] ∧ (SqL K H p ys ∨ SqT K H p ys) ∧ Q (.int ys.length) H) iC := by
  intro xs us H μ Qd Q ok rs h k
  unfold iC at h
  split at h
  · cases rs with
    | cons r1 r2 =>
      cases r2
      cases r1 with
      | list hs hn r => exact ⟨_, _, rfl, .inl (SqL.of hs), k (.v _) _ μ H .refl ok (by rw [← r.length]; exact Rp.int _) h⟩
  · cases rs with
    | cons r1 r2 =>
      cases r2
      cases r1 with
      | tuple hs r => exact ⟨_, _, rfl, .inr hs, k (.v _) _ μ H .refl ok (by rw [← r.length]; exact Rp.int _) h⟩
  · cases rs with
    | cons r1 r2 =>
      cases r2
      obtain ⟨rfl, ds, hm⟩ := r1
      rw [hm] at h
      obtain ⟨us, hl, r⟩ := ok _ ds hm
      exact ⟨_, _, rfl, .inl (SqL.of hl), k (.v _) _ μ H .refl ok (by rw [← r.length]; exact Rp.int _) h⟩
  · cases rs with
    | cons r1 r2 =>
      cases r2
      obtain ⟨a, rfl, hs, hn⟩ := r1
      exact ⟨_, _, rfl, .inl hs, k (.v _) _ μ H .refl ok (by rw [List.length_map]; exact Rp.int _) h⟩
  · exact h.elim
theorem lE (hg : Gl X "len") (hm : X.mg "len" = none) (ha : DA X (e :: es) t)
    (he : starEach (e :: es) X.env = (false, eval e X.env) :: starEach es X.env := by rfl) (hpl : (backTo pos (starEach es X.env)).any (·.1) = false := by rfl) : DE X (.Call (.Name "len" p) (e :: es) [] pos) (dCB iC t) :=
  qj Bf O2 hg hm PySem.boot_len ha (by decide) (by decide) he hpl
def p6 : List D → Mu → DK → Prop := fun xs μ Q => match xs with
  | [.v (.int i)] => Q (.v (.int (i.natAbs : Nat))) μ
  | _ => False
theorem N1 {K : PySem.W.Frag} : sD K (fun xs H Q => ∃ i, xs = [.int i] ∧ Q (.int (if i < 0 then -i else i)) H) p6 := by
  intro xs us H μ Qd Q ok rs h k
  unfold p6 at h
  split at h
  · rename_i i
    cases rs with
    | cons r1 r2 =>
      cases r2
      cases r1
      refine ⟨i, rfl, k (.v (.int (i.natAbs : Nat))) _ μ H .refl ok ?_ h⟩
      have : (if i < 0 then -i else i) = ((i.natAbs : Nat) : Int) := by split <;> omega
      rw [this]
      exact Rp.int _
  · exact h.elim
theorem tK (hg : Gl X "abs") (hm : X.mg "abs" = none) (ha : DA X (e :: es) t)
    (he : starEach (e :: es) X.env = (false, eval e X.env) :: starEach es X.env := by rfl) (hpl : (backTo pos (starEach es X.env)).any (·.1) = false := by rfl) : DE X (.Call (.Name "abs" p) (e :: es) [] pos) (dCB p6 t) :=
  qj Js N1 hg hm PyProof.Rows.Boot.«abs» ha (by decide) (by decide) he hpl
def FG (g : Int → Int → Int) : List D → Mu → DK → Prop := fun xs μ Q => match xs with
  | [.v (.int i), .v (.int j)] => Q (.v (.int (g i j))) μ
  | _ => False
theorem Na {K : PySem.W.Frag} {g g' : Int → Int → Int} (hg : ∀ i j, g i j = g' i j) : sD K (fun xs H Q => ∃ i j, xs = [.int i, .int j] ∧ Q (.int (g i j)) H) (FG g') := by
  intro xs us H μ Qd Q ok rs h k
  unfold FG at h
  split at h
  · rename_i i j
    cases rs with
    | cons r1 r2 =>
      cases r2 with
      | cons r2 r3 =>
        cases r3
        cases r1
        cases r2
        exact ⟨i, j, rfl, k (.v _) _ μ H .refl ok (by rw [hg]; exact Rp.int _) h⟩
  · exact h.elim
theorem Od (hc : X.calm = true) (hg : Gl X "max") (hm : X.mg "max" = none) (ha : DA X (e :: es) t)
    (he : starEach (e :: es) X.env = (false, eval e X.env) :: starEach es X.env := by rfl) (hpl : (backTo pos (starEach es X.env)).any (·.1) = false := by rfl) : DE X (.Call (.Name "max" p) (e :: es) [] pos) (dCB (FG max) t) :=
  qj (Ja hc) (Na (fun i j => by show (if j > i then j else i) = max i j; simp only [Int.max_def]; split <;> split <;> omega)) hg hm PyProof.Rows.Boot.«max» ha (by decide) (by decide) he hpl
theorem OB (hc : X.calm = true) (hg : Gl X "min") (hm : X.mg "min" = none) (ha : DA X (e :: es) t)
    (he : starEach (e :: es) X.env = (false, eval e X.env) :: starEach es X.env := by rfl) (hpl : (backTo pos (starEach es X.env)).any (·.1) = false := by rfl) : DE X (.Call (.Name "min" p) (e :: es) [] pos) (dCB (FG min) t) :=
  qj (IP hc) (Na (fun i j => by show (if j < i then j else i) = min i j; simp only [Int.min_def]; split <;> split <;> omega)) hg hm PyProof.Rows.Boot.«min» ha (by decide) (by decide) he hpl
def ql : List D → Mu → DK → Prop := fun xs μ Q => match xs with
  | [.v (.int i)] => Q (.v (.int i)) μ
  | [.v (.bool k)] => Q (.v (.int (if k then 1 else 0))) μ
  | _ => False
theorem OR {K : PySem.W.Frag} : sD K (fun xs H Q => (∃ i, xs = [.int i] ∧ Q (.int i) H) ∨ ∃ k, xs = [.bl k] ∧ Q (.int (if k then 1 else 0)) H) ql := by
  intro xs us H μ Qd Q ok rs h k
  unfold ql at h
  split at h
  · rename_i i
    cases rs with
    | cons r1 r2 => cases r2; cases r1; exact .inl ⟨i, rfl, k (.v _) _ μ H .refl ok (Rp.int _) h⟩
  · rename_i b
    cases rs with
    | cons r1 r2 => cases r2; cases r1; exact .inr ⟨b, rfl, k (.v _) _ μ H .refl ok (Rp.int _) h⟩
  · exact h.elim
theorem nh (hg : Gl X "int") (hm : X.mg "int" = none) (ha : DA X (e :: es) t)
    (he : starEach (e :: es) X.env = (false, eval e X.env) :: starEach es X.env := by rfl) (hpl : (backTo pos (starEach es X.env)).any (·.1) = false := by rfl) : DE X (.Call (.Name "int" p) (e :: es) [] pos) (dCB ql t) :=
  wI Ik OR hg hm PyProof.Rows.Boot.«int» ha (by decide) (by decide) he hpl
def p4 : List D → Mu → DK → Prop := fun xs μ Q => match xs with
  | [.v (.list ys)] => Q (.v (.list ys)) μ
  | [.v (.tuple ys)] => Q (.v (.list ys)) μ
  | _ => False
theorem ML {K : PySem.W.Frag} : sD K (fun xs H Q => ∃ p ys, xs = [.ref p] ∧ (SqL K H p ys ∨ SqT K H p ys) ∧ ∀ l, H l = none → Q (.ref l) (upd H l (.lst ys))) p4 := by
  intro xs us H μ Qd Q ok rs h k
  unfold p4 at h
  split at h
  · cases rs with
    | cons r1 r2 =>
      cases r2
      cases r1 with
      | list hs hn r => exact ⟨_, _, rfl, .inl (SqL.of hs), fun p hp => k (.v _) _ μ _ (de hp) (ok.new hp) (jx ok r hp) h⟩
  · cases rs with
    | cons r1 r2 =>
      cases r2
      cases r1 with
      | tuple hs r => exact ⟨_, _, rfl, .inr hs, fun p hp => k (.v _) _ μ _ (de hp) (ok.new hp) (jx ok r hp) h⟩
  · exact h.elim
theorem HD (hg : Gl X "list") (hm : X.mg "list" = none) (ha : DA X (e :: es) t)
    (he : starEach (e :: es) X.env = (false, eval e X.env) :: starEach es X.env := by rfl) (hpl : (backTo pos (starEach es X.env)).any (·.1) = false := by rfl) : DE X (.Call (.Name "list" p) (e :: es) [] pos) (dCB p4 t) :=
  wI A5 ML hg hm PyProof.Rows.Boot.«list» ha (by decide) (by decide) he hpl
theorem Dg : ∀ {bs : List Bool} {us : List Value}, Vals (bs.map V.bl) us → us = bs.map Value.bool
  | [], _, .nil => rfl
  | b :: r, _, .cons h t => by cases h; rw [Dg t]; rfl
theorem Ii (hc : X.calm = true) : i4 X (.builtin "all") (fun xs H Q => ∃ (p : Addr) (bs : List Bool), xs = [.ref p] ∧ H p = some (.lst (bs.map V.bl)) ∧ Q (.bl (bs.all id)) H) := by
  intro pins s σ H xs us Q I r h
  obtain ⟨l, bs, rfl, hl, q⟩ := h
  obtain ⟨u, rfl, rx⟩ := vals1 r
  cases rx
  obtain ⟨its, rv, pl, _⟩ := I.list (SqL.of hl)
  have eb := Dg rv
  subst eb
  have hL := pl.isList
  have hlt := pl.lt
  refine call_all_walk (wpAny_pyIter_list hL ?_)
  refine ⟨s.heap.objs.size, [s.heap.objs.size, l], [s.heap.objs.size], (bs.map Value.bool).toArray.size, _, _, fun i => (bs[i]?).getD true, rfl, Walks.list (A := X.A.in1) (by exact I.ok.hd hc) _ l (Nat.ne_of_lt hlt) (bs.map Value.bool).toArray,
    ⟨⟨_, Heap.get?_push_size _ rfl, rfl, rfl⟩, hL.push _⟩, fun i v s' Q' E' hP hQ => ?_, fun h' tk hk => ?_⟩
  · have hP' : (bs.map Value.bool)[i]? = some v := by simpa using hP
    rw [List.getElem?_map] at hP'
    cases z : bs[i]? with
    | none => rw [z] at hP'; cases hP'
    | some b =>
      rw [z] at hP'
      cases hP'
      simp only [z, Option.getD_some] at hQ
      exact wpAny_truthy_bool hQ
  · have e : ((List.range (bs.map Value.bool).toArray.size).all fun i => (bs[i]?).getD true) = bs.all id := by
      rw [List.size_toArray, List.length_map]; exact PyProof.Rows.LSm.range_all bs
    rw [e]
    exact ⟨.bl (bs.all id), H, I.kept (PyProof.Rows.LSm.kept_iter hk), rfl, q⟩
def dW : List PyData → Option (List Bool)
  | [] => some []
  | .bool b :: r => (dW r).map (b :: ·)
  | _ :: _ => none
theorem x8 {K : PySem.W.Frag} {μ : Mu} {H : Hp} : ∀ {xs : List PyData} {us : List V} {bs : List Bool}, RpL K μ H xs us → dW xs = some bs → us = bs.map V.bl
  | _, _, _, .nil, e => by cases e; rfl
  | .bool b :: r, _, bs, .cons h t, e => by
    simp only [dW] at e
    cases q : dW r with
    | none => rw [q] at e; cases e
    | some cs => rw [q] at e; cases e; cases h; rw [x8 t q]; rfl
  | .none :: r, _, bs, .cons h t, e => by simp [dW] at e
  | .int _ :: r, _, bs, .cons h t, e => by simp [dW] at e
  | .str _ :: r, _, bs, .cons h t, e => by simp [dW] at e
  | .list _ :: r, _, bs, .cons h t, e => by simp [dW] at e
  | .tuple _ :: r, _, bs, .cons h t, e => by simp [dW] at e
  | .dict _ :: r, _, bs, .cons h t, e => by simp [dW] at e
def yf : List D → Mu → DK → Prop := fun xs μ Q => match xs with
  | [.v (.list ys)] => (match dW ys with | some bs => Q (.v (.bool (bs.all id))) μ | none => False)
  | _ => False
theorem Oe {K : PySem.W.Frag} : sD K (fun xs H Q => ∃ (p : Addr) (bs : List Bool), xs = [.ref p] ∧ H p = some (.lst (bs.map V.bl)) ∧ Q (.bl (bs.all id)) H) yf := by
  intro xs us H μ Qd Q ok rs h k
  unfold yf at h
  split at h
  · rename_i ys
    cases q : dW ys with
    | none => rw [q] at h; exact h.elim
    | some bs =>
      rw [q] at h
      cases rs with
      | cons r1 r2 =>
        cases r2
        cases r1 with
        | list hs hn r => exact ⟨_, bs, rfl, by rw [hs, x8 r q], k (.v _) _ μ H .refl ok (Rp.bool _) h⟩
  · exact h.elim
theorem EY (hc : X.calm = true) (hg : Gl X "all") (hm : X.mg "all" = none) (ha : DA X (e :: es) t)
    (he : starEach (e :: es) X.env = (false, eval e X.env) :: starEach es X.env := by rfl) (hpl : (backTo pos (starEach es X.env)).any (·.1) = false := by rfl) : DE X (.Call (.Name "all" p) (e :: es) [] pos) (dCB yf t) :=
  qj (Ii hc) Oe hg hm PyProof.Rows.Boot.«all» ha (by decide) (by decide) he hpl
def tyD : PyData → String
  | .none => "NoneType"
  | .bool _ => "bool"
  | .int _ => "int"
  | .str _ => "str"
  | .list _ => "list"
  | .tuple _ => "tuple"
  | .dict _ => "dict"
def isT (T : String) (d : PyData) : Bool := tyD d == T || (T == "int" && tyD d == "bool")
theorem Iz {pins : List (Addr × Obj)} {σ : St} {H : Hp} {s : Shared} {μ : Mu} {d : PyData} {u : V} {v : Value} {k : Bool} {A : Around} {E : Value → Shared → Prop} {Q : Value → Shared → Prop} (I : Inv X pins σ H s) (r : Rp X.K μ H d u) (rx : RelV u v)
    (ek : PySem.W.kitOne X.K (.type (tyD d)) (.type T) = some k) (h : ∀ tk, Q (.bool k) { s with toks := tk }) : wpAny (model X.prog X.w) A (call (.builtin "isinstance") [v, .type T]) Q E s := by
  cases r with
  | none => cases rx; exact PySem.W.kia_one PySem.W.kitx_none I.kIn True.intro ek (fun z => nomatch z) h
  | bool b => cases rx; exact PySem.W.kia_one PySem.W.kitx_bool I.kIn True.intro ek (fun z => nomatch z) h
  | int i => obtain ⟨t, rfl⟩ := rx; exact PySem.W.kia_one PySem.W.kitx_int I.kIn True.intro ek (fun z => nomatch z) h
  | str y => obtain ⟨t, rfl⟩ := rx; exact PySem.W.kia_one PySem.W.kitx_str I.kIn True.intro ek (fun z => nomatch z) h
  | list hs hn q =>
    cases rx
    obtain ⟨its, rv, ⟨o, n, h1, h2, _⟩, _⟩ := I.list (SqL.of hs)
    exact PySem.W.kia_one PySem.W.kitx_list I.kIn ⟨o, h1, h2⟩ ek (fun z => nomatch z) h
  | tuple hs q =>
    cases rx
    obtain ⟨its, rv, ⟨o, h1, h2, _⟩, _⟩ := I.tuple hs
    exact PySem.W.kia_one PySem.W.kitx_tuple I.kIn ⟨o, h1, h2⟩ ek (fun z => nomatch z) h
theorem M0 (K : PySem.W.Frag) (d : PyData) : PySem.W.kitOne K (.type (tyD d)) (.type "int") = some (isT "int" d) := by cases d <;> rfl
theorem LL (K : PySem.W.Frag) (d : PyData) : PySem.W.kitOne K (.type (tyD d)) (.type "bool") = some (isT "bool" d) := by cases d <;> rfl
theorem kit_tuple (K : PySem.W.Frag) (d : PyData) : PySem.W.kitOne K (.type (tyD d)) (.type "tuple") = some (isT "tuple" d) := by cases d <;> rfl
theorem CU (kt : ∀ d, PySem.W.kitOne X.K (.type (tyD d)) (.type T) = some (isT T d)) : i4 X (.builtin "isinstance") (fun xs H Q => ∃ μ d u, xs = [u, .ty T] ∧ Rp X.K μ H d u ∧ Q (.bl (isT T d)) H) := by
  intro pins s σ H xs us Q I r h
  obtain ⟨μ, d, u, rfl, rd, q⟩ := h
  obtain ⟨v, w', rfl, r1, r2⟩ := vals2 r
  cases r2
  exact Iz I rd r1 (kt d) fun tk => ⟨.bl (isT T d), H, I.tok _, rfl, q⟩
def H0 (T : String) (te : DTE) : DTE := fun ρ μ Q => te ρ μ fun x μ1 => match x with
  | .v d => Q (.v (.bool (isT T d))) μ1
  | _ => False
theorem Ca {y : Str} {py : Pos} (kt : ∀ d, PySem.W.kitOne X.K (.type (tyD d)) (.type T) = some (isT T d)) (hg : Gl X "isinstance") (hm : X.mg "isinstance" = none) (hgy : Gl X y) (hmy : X.mg y = none) (hvy : bootBuiltins y = some (.type T)) (ha : DE X e te)
    (hny : y ≠ "__name__" := by decide) (hdy : (y == ("__debug__" : Str)) = false := by decide)
    (he : starEach [e, .Name y py] X.env = (false, eval e X.env) :: starEach [.Name y py] X.env := by rfl) (he2 : starEach [.Name y py] X.env = [(false, eval (.Name y py) X.env)] := by rfl) (hpl : (backTo pos (starEach [.Name y py] X.env)).any (·.1) = false := by rfl) : DE X (.Call (.Name "isinstance" p) [e, .Name y py] [] pos) (H0 T te) := by
  obtain ⟨t1, p1, l1⟩ := ha
  refine ⟨_, uM (CU kt) hg hm PyProof.Rows.Boot.«isinstance» (gF p1 (gF (GX (v := .ty T) hgy hmy hvy rfl hny hdy) nX he2) he) (by decide) (by decide) he hpl, fun σ H ρ μ Qd Q S h k => ?_⟩
  refine l1 σ H ρ μ _ _ S h fun x ux μ1 H1 e1 S1 rx h1 => ?_
  split at h1
  · exact ⟨μ1, _, ux, rfl, rx, k (.v _) _ μ1 H1 e1 S1 (Rp.bool _) h1⟩
  · exact h1.elim
def QD : D → D → Mu → DK → Prop := fun x y μ Q => match x, y with
  | .v (.bool i), .v (.bool j) => Q (.v (.bool (i == j))) μ
  | .v .none, .v .none => Q (.v (.bool true)) μ
  | _, _ => False
end
open PySem PySem.Spec PyProof.Rows
section
variable {X : Cx} {a b e : Expr} {es : List Expr} {ta tb te : DTE} {t : DTA} {p pos : Pos} {st : Stmt} {rest sts : List Stmt} {td ud : DTS} {tc : DTT}
def cD : DTS := fun Dd ρ μ => Dd.nx ρ μ
def aL (t u : DTS) : DTS := fun Dd ρ μ => t { Dd with nx := u Dd } ρ μ
def bB (te : DTE) : DTS := fun Dd ρ μ => te ρ μ Dd.rt
def sh (te : DTE) : DTS := fun Dd ρ μ => te ρ μ fun _ μ1 => Dd.nx ρ μ1
def eu (c : DTT) (t u : DTS) : DTS := fun Dd ρ μ => c ρ μ fun b μ1 => if b = true then t Dd ρ μ1 else u Dd ρ μ1
theorem bw : DSs X [] cD := ⟨_, Gx, fun σ H ρ μ Dd De S h k1 k2 k3 k4 => k1 σ ρ μ H .refl S h⟩
theorem ar (h : DS X st td) : DSs X [st] td := let ⟨t, p, l⟩ := h; ⟨t, Mq p, l⟩
theorem lift_seq {K : PySem.W.Frag} {t u : TS} (l1 : AH K t td) (l2 : AH K u ud) : AH K (Qp t u) (aL td ud) := by
  intro σ H ρ μ Dd De S h k1 k2 k3 k4
  refine l1 σ H ρ μ _ _ S h (fun σ' ρ' μ' H' e' S' h' => ?_) k2 k3 k4
  exact l2 σ' H' ρ' μ' Dd De S' h' (fun a b c d e2 => k1 a b c d (e'.trans e2)) (fun a b c d e2 => k2 a b c d (e'.trans e2)) (fun a b c d e2 => k3 a b c d (e'.trans e2)) (fun a b c d e2 => k4 a b c d (e'.trans e2))
theorem aj (h1 : DS X st td) (h2 : DSs X rest ud) : DSs X (st :: rest) (aL td ud) := by
  obtain ⟨t1, p1, l1⟩ := h1
  obtain ⟨t2, p2, l2⟩ := h2
  exact ⟨_, vf p1 p2, lift_seq l1 l2⟩
theorem aE (he : DE X e te) : DS X (.Return (some e) pos) (bB te) := by
  obtain ⟨t1, p1, l1⟩ := he
  exact ⟨_, Gb p1, fun σ H ρ μ Dd De S h k1 k2 k3 k4 => l1 σ H ρ μ _ _ S h fun d u μ' H' e' S' r q => k2 d u μ' H' e' S'.mu r q⟩
theorem lZ (he : DE X e te) (hs : swapsWith e none pos.line X.env = pure false := by rfl) : DS X (.Expr e pos) (sh te) := by
  obtain ⟨t1, p1, l1⟩ := he
  exact ⟨_, GA p1 hs, fun σ H ρ μ Dd De S h k1 k2 k3 k4 => l1 σ H ρ μ _ _ S h fun d u μ' H' e' S' r q => k1 σ ρ μ' H' e' S' q⟩
theorem cI {c : Expr} {x y : List Stmt} (hc : DT X c tc) (ha : DSs X x td) (hb : DSs X y ud) : DS X (.If c x y pos) (eu tc td ud) := by
  obtain ⟨t0, p0, l0⟩ := hc
  obtain ⟨t1, p1, l1⟩ := ha
  obtain ⟨t2, p2, l2⟩ := hb
  refine ⟨_, NI p0 p1 p2, fun σ H ρ μ Dd De S h k1 k2 k3 k4 => ?_⟩
  refine l0 σ H ρ μ _ _ S h fun c μ1 H1 e1 S1 h1 => ?_
  cases c with
  | true => exact zm (l1 σ H1 ρ μ1 Dd De S1 (by simpa using h1) (fun a b c d e2 => k1 a b c d (e1.trans e2)) (fun a b c d e2 => k2 a b c d (e1.trans e2)) (fun a b c d e2 => k3 a b c d (e1.trans e2)) (fun a b c d e2 => k4 a b c d (e1.trans e2)))
  | false => exact By (l2 σ H1 ρ μ1 Dd De S1 (by simpa using h1) (fun a b c d e2 => k1 a b c d (e1.trans e2)) (fun a b c d e2 => k2 a b c d (e1.trans e2)) (fun a b c d e2 => k3 a b c d (e1.trans e2)) (fun a b c d e2 => k4 a b c d (e1.trans e2)))
abbrev DTG := D → Rho → Mu → (Rho → Mu → Prop) → Prop
abbrev zz := List PyData → Rho → Mu → (Rho → Mu → Prop) → Prop
def Lh (K : PySem.W.Frag) (g : TG) (gd : DTG) : Prop := ∀ (σ : St) (H : Hp) (ρ : Rho) (μ : Mu) (d : D) (u : V) (Qd : Rho → Mu → Prop) (Q : St → Hp → Prop), St0 K H ρ μ σ → RpD K μ H d u → gd d ρ μ Qd →
  (∀ σ' ρ' μ' H', Ext K μ H μ' H' → St0 K H' ρ' μ' σ' → Qd ρ' μ' → Q σ' H') → g u σ H Q
def PH (K : PySem.W.Frag) (g : TGs) (gd : zz) : Prop := ∀ (σ : St) (H : Hp) (ρ : Rho) (μ : Mu) (ds : List PyData) (us : List V) (Qd : Rho → Mu → Prop) (Q : St → Hp → Prop), St0 K H ρ μ σ → RpL K μ H ds us → gd ds ρ μ Qd →
  (∀ σ' ρ' μ' H', Ext K μ H μ' H' → St0 K H' ρ' μ' σ' → Qd ρ' μ' → Q σ' H') → g us σ H Q
def DG (X : Cx) (tg : Expr) (gd : DTG) : Prop := ∃ g, PG X tg g ∧ Lh X.K g gd
def DGs (X : Cx) (tg : List Expr) (gd : zz) : Prop := ∃ g, PGs X tg g ∧ PH X.K g gd
theorem el.set {K : PySem.W.Frag} {μ : Mu} {H : Hp} {ρ : Rho} {σ : St} {i : Nat} {d : D} {u : V} (r : el K μ H ρ σ) (h : RpD K μ H d u) : el K μ H (ρ.set i (some d)) (σ.set i (some u)) := by
  refine ⟨by rw [List.length_set, List.length_set]; exact r.1, fun j d' e => ?_⟩
  by_cases hj : i = j
  · subst hj
    have hl : i < ρ.length := by
      have := (List.getElem?_eq_some_iff.mp e).1
      rw [List.length_set] at this
      exact this
    rw [List.getElem?_set_self hl] at e
    cases e
    exact ⟨u, List.getElem?_set_self (by rw [← r.1]; exact hl), h⟩
  · rw [List.getElem?_set_ne hj] at e
    obtain ⟨w, e1, e2⟩ := r.2 j d' e
    exact ⟨w, by rw [List.getElem?_set_ne hj]; exact e1, e2⟩
def av (i : Nat) : DTG := fun d ρ μ Q => Q (ρ.set i (some d)) μ
theorem yg {K : PySem.W.Frag} {i : Nat} : Lh K (Jt i) (av i) := fun σ H ρ μ d u Qd Q S r h k => k _ _ μ H .refl ⟨S.mu, S.rho.set r⟩ h
theorem bF {i : Nat} {x : Str} (hN : X.N.Nodup) (hi : X.N[i]? = some x) (hx : Loc X.env.scope x) (hf : X.fn x = true ∨ X.env.scope.names.lookup x = some .local := by first | exact .inl rfl | exact .inr rfl | assumption) : DG X (.Name x pos) (av i) := ⟨_, L8 hN hi hx hf, yg⟩
def pJ : zz := fun ds ρ μ Q => match ds with
  | [] => Q ρ μ
  | _ => False
def cV (g : DTG) (gs : zz) : zz := fun ds ρ μ Q => match ds with
  | d :: r => g (.v d) ρ μ fun ρ1 μ1 => gs r ρ1 μ1 Q
  | _ => False
theorem kG : DGs X [] pJ := ⟨_, GO, fun σ H ρ μ ds us Qd Q S r h k => by
  cases r with
  | nil => exact ⟨rfl, k σ ρ μ H .refl S h⟩
  | cons _ _ => exact h.elim⟩
theorem bR {g : DTG} {gs : zz} (h1 : DG X e g) (h2 : DGs X es gs) (hs : (assignEach (e :: es) X.env).map (·.2) = assign e X.env :: (assignEach es X.env).map (·.2) := by rfl) : DGs X (e :: es) (cV g gs) := by
  obtain ⟨t1, p1, l1⟩ := h1
  obtain ⟨t2, p2, l2⟩ := h2
  refine ⟨_, DB p1 p2 hs, fun σ H ρ μ ds us Qd Q S r h k => ?_⟩
  cases r with
  | nil => exact h.elim
  | @cons d u ds us r1 r2 =>
    refine ⟨u, us, rfl, l1 σ H ρ μ (.v d) u _ _ S r1 h fun σ' ρ' μ' H' e1 S' h1 => ?_⟩
    exact l2 σ' H' ρ' μ' ds us _ _ S' (r2.ext S.mu e1) h1 fun a b c d e2 => k a b c d (e1.trans e2)
def mW (n : Nat) (gs : zz) : DTG := fun d ρ μ Q => match d with
  | .v (.tuple xs) => xs.length = n ∧ gs xs ρ μ Q
  | _ => False
theorem oF {k n : Nat} {gs : zz} (hc : X.calm = X.calm) (h : DGs X es gs)
    (hn : (assignEach es X.env).length = n := by rfl) (hst : (assignEach es X.env).findIdx? (·.1) = none := by rfl) : DG X (.Tuple es k pos) (mW n gs) := by
  obtain ⟨t1, p1, l1⟩ := h
  refine ⟨_, KC hc p1 hn hst, fun σ H ρ μ d u Qd Q S r h k => ?_⟩
  unfold mW at h
  split at h
  · cases r with
    | @tuple a us _ ha ra => exact ⟨a, us, rfl, ha, by rw [← ra.length]; exact h.1, l1 σ H ρ μ _ us _ _ S ra h.2 k⟩
  · exact h.elim
def Hr (to ti : DTE) : DTG := fun d ρ μ Q => to ρ μ fun o μ1 => ti ρ μ1 fun i μ2 => match o, i, d with
  | .m l, .v (.int k), .v x => (match μ2 l with
    | some xs => (match ixN xs.length k with
      | some j => Q ρ (aI μ2 l (xs.set j x))
      | none => False)
    | none => False)
  | _, _, _ => False
theorem KU {o i : Expr} {to ti : DTE} (ho : DE X o to) (hi : DE X i ti)
    (ha : ∀ v, assign (.Subscript o i pos) X.env v = (do
      let ov ← holding [v] (eval o X.env)
      let iv ← holding [v, ov] (eval i X.env)
      standAt pos
      holding [v, ov, iv] (setItem ov iv v)
      release [v, ov, iv] []) := by intro _; rfl) : DG X (.Subscript o i pos) (Hr to ti) := by
  obtain ⟨t1, p1, l1⟩ := ho
  obtain ⟨t2, p2, l2⟩ := hi
  refine ⟨_, OX p1 p2 set_list ha, fun σ H ρ μ d u Qd Q S r h k => ?_⟩
  refine l1 σ H ρ μ _ _ S h fun x ux μ1 H1 e1 S1 rx h1 => ?_
  refine l2 σ H1 ρ μ1 _ _ S1 h1 fun y uy μ2 H2 e2 S2 ry h2 => ?_
  have r2 := (r.ext S.mu e1).ext S1.mu e2
  have rx2 := rx.ext S1.mu e2
  split at h2
  · rename_i l kk xv
    obtain ⟨rfl, ds, hm⟩ := rx2
    cases ry
    rw [hm] at h2
    obtain ⟨us, hl, rl⟩ := S2.mu l ds hm
    simp only at h2
    cases q : ixN ds.length kk with
    | none => rw [q] at h2; exact h2.elim
    | some j =>
      rw [q] at h2
      refine ⟨l, us, kk, j, rfl, rfl, hl, by rw [← rl.length]; exact q, ?_⟩
      have ex : Ext X.K μ2 H2 (aI μ2 l (ds.set j xv)) (upd H2 l (.lst (us.set j u))) := rq hm
      exact k σ ρ _ _ (e1.trans (e2.trans ex)) ⟨S2.mu.set hm (rl.set r2 j), S2.rho.ext S2.mu ex⟩ h2
  · exact h2.elim
def bA (te : DTE) (g : DTG) : DTS := fun Dd ρ μ => te ρ μ fun d μ1 => g d ρ μ1 Dd.nx
theorem EL {K : PySem.W.Frag} {t : TE} {g : TG} {gd : DTG} (l1 : ve K t te) (l2 : Lh K g gd) : AH K (N5 t g) (bA te gd) := by
  intro σ H ρ μ Dd De S h k1 k2 k3 k4
  refine l1 σ H ρ μ _ _ S h fun d u μ1 H1 e1 S1 r h1 => ?_
  exact l2 σ H1 ρ μ1 d u _ _ S1 r h1 fun a b c d e2 => k1 a b c d (e1.trans e2)
theorem oK {tg : Expr} {g : DTG} (he : DE X e te) (hg : DG X tg g) (hs : swapsWithSole [tg] e pos.line X.env = pure false := by rfl) (hw : swappedStores [tg] e X.env = pure none := by rfl)
    (h1 : (assignEach [tg] X.env).map (·.2) = [assign tg X.env] := by rfl) : DS X (.Assign [tg] e pos) (bA te g) := by
  obtain ⟨t1, p1, l1⟩ := he
  obtain ⟨t2, p2, l2⟩ := hg
  exact ⟨_, Pg p1 p2 hs hw h1, EL l1 l2⟩
theorem aJ {i : Nat} {x : Str} {pos' : Pos} (hN : X.N.Nodup) (hi : X.N[i]? = some x) (hx : Loc X.env.scope x) (he : DE X e te) (hs : swapsWith e (some (.Name x pos')) pos.line X.env = pure false := by rfl) (hf : X.fn x = true ∨ X.env.scope.names.lookup x = some .local := by first | exact .inl rfl | exact .inr rfl | assumption) :
    DS X (.Assign [.Name x pos'] e pos) (bA te (av i)) := by
  obtain ⟨t1, p1, l1⟩ := he
  exact ⟨_, N6 hN hi hx p1 hs hf, EL l1 yg⟩
def zC (i j : Nat) (t : DTA) : DTS := fun Dd ρ μ => t ρ μ fun ds μ1 => match ds with
  | [v, w] => Dd.nx ((ρ.set i (some v)).set j (some w)) μ1
  | _ => False
theorem qE {i j : Nat} {x y : Str} {a b : Expr} {t : DTA} {px py pt : Pos} {kt k2 pt2} (hc : X.calm = true) (hN : X.N.Nodup) (hi : X.N[i]? = some x) (hj : X.N[j]? = some y) (hij : i ≠ j)
    (hx : X.env.scope.names.lookup x = some .local) (hy : X.env.scope.names.lookup y = some .local) (ha : DA X [a, b] t)
    (hw : swappedStores [.Tuple [.Name x px, .Name y py] kt pt] (.Tuple [a, b] k2 pt2) X.env = pure (some [x, y]))
    (hs : swapsWithSole [.Tuple [.Name x px, .Name y py] kt pt] (.Tuple [a, b] k2 pt2) pos.line X.env = pure false := by rfl) :
    DS X (.Assign [.Tuple [.Name x px, .Name y py] kt pt] (.Tuple [a, b] k2 pt2) pos) (zC i j t) := by
  obtain ⟨t1, p1, l1⟩ := ha
  refine ⟨_, PF hc hN hi hj hij hx hy p1 hw hs, fun σ H ρ μ Dd De S h k1 k2 k3 k4 => ?_⟩
  refine l1 σ H ρ μ _ _ S h fun ds us μ1 H1 e1 S1 rs len h1 => ?_
  split at h1
  · cases rs with
    | cons r1 r2 =>
      cases r2 with
      | cons r2 r3 =>
        cases r3
        exact ⟨_, _, rfl, k1 _ _ μ1 H1 e1 ⟨S1.mu, (S1.rho.set r1).set r2⟩ h1⟩
  · exact h1.elim
def Fd (c : DTT) (tb : DTS) : DTS := fun Dd ρ μ => ∃ W : Nat → Rho → Mu → Prop, (∃ m, W m ρ μ) ∧ ∀ m ρ μ, W m ρ μ →
  c ρ μ fun b μ1 => if b = true then tb { Dd with nx := fun ρ' μ' => ∃ m', m' < m ∧ W m' ρ' μ', ct := fun ρ' μ' => ∃ m', m' < m ∧ W m' ρ' μ', bk := Dd.nx } ρ μ1 else Dd.nx ρ μ1
theorem Ew {c : Expr} {body : List Stmt} (hp : PassesOwn (model X.prog X.w) X.A X.env X.xe) (hc : DT X c tc) (hb : DSs X body td) : DS X (.While c body [] pos) (Fd tc td) := by
  obtain ⟨t0, p0, l0⟩ := hc
  obtain ⟨t1, p1, l1⟩ := hb
  refine ⟨_, Kf hp p0 p1, fun σ H ρ μ Dd De S h k1 k2 k3 k4 => ?_⟩
  obtain ⟨W, ⟨m, w0⟩, turn⟩ := h
  refine ⟨fun m σ' H' => ∃ ρ' μ', Ext X.K μ H μ' H' ∧ St0 X.K H' ρ' μ' σ' ∧ W m ρ' μ', ⟨m, ρ, μ, .refl, S, w0⟩, ?_⟩
  rintro m σ1 H1 ⟨ρ1, μ1, e1, S1, w1⟩
  refine l0 σ1 H1 ρ1 μ1 _ _ S1 (turn m ρ1 μ1 w1) fun b μ2 H2 e2 S2 h2 => ?_
  cases b with
  | true =>
    refine zm ⟨fun σ' H' => ∃ m', m' < m ∧ ∃ ρ' μ', Ext X.K μ H μ' H' ∧ St0 X.K H' ρ' μ' σ' ∧ W m' ρ' μ', fun σ' H' ⟨m', hm, q⟩ => ⟨m', hm, q⟩, ?_⟩
    have nxt : ∀ σ' ρ' μ' H', Ext X.K μ2 H2 μ' H' → St0 X.K H' ρ' μ' σ' → (∃ m', m' < m ∧ W m' ρ' μ') → ∃ m', m' < m ∧ ∃ ρ' μ', Ext X.K μ H μ' H' ∧ St0 X.K H' ρ' μ' σ' ∧ W m' ρ' μ' :=
      fun σ' ρ' μ' H' e3 S3 ⟨m', hm, q⟩ => ⟨m', hm, ρ', μ', e1.trans (e2.trans e3), S3, q⟩
    rw [if_pos rfl] at h2
    exact l1 σ1 H2 ρ1 μ2 _ _ S2 h2 nxt (fun a b c d e3 => k2 a b c d (e1.trans (e2.trans e3))) (fun a b c d e3 => k1 a b c d (e1.trans (e2.trans e3))) nxt
  | false => exact By (k1 σ1 ρ1 μ2 H2 (e1.trans e2) S2 (by simpa using h2))
abbrev DTI := Rho → Mu → (List PyData → Mu → Prop) → Prop
def MC (K : PySem.W.Frag) (J : It) (xs : List PyData) (μ1 : Mu) (H1 : Hp) : Prop := ∀ μ2 H2, Ext K μ1 H1 μ2 H2 → bY K μ2 H2 → ∀ i, (i < xs.length → J.go i H2 ∧ ∀ x H', J.yld i H2 x H' → ∃ d, xs[i]? = some d ∧ qA H2 H' ∧ Rp K μ2 H' d x) ∧ (i = xs.length → J.stop i H2)
def Qo (K : PySem.W.Frag) (wi : TI) (src : DTI) : Prop := ∀ (σ : St) (H : Hp) (ρ : Rho) (μ : Mu) (Qd : List PyData → Mu → Prop) (R : It → Hp → Prop), St0 K H ρ μ σ → src ρ μ Qd →
  (∀ xs μ1 H1 J, Ext K μ H μ1 H1 → St0 K H1 ρ μ1 σ → MC K J xs μ1 H1 → Qd xs μ1 → R J H1) → wi σ H R
def DI (X : Cx) (tg iter : Expr) (src : DTI) : Prop := ∃ wi, PI X tg iter wi ∧ Qo X.K wi src
variable {tg : Expr}
def yO (te : DTE) : DTI := fun ρ μ Q => te ρ μ fun d μ1 => match d with
  | .v (.list xs) => Q xs μ1
  | _ => False
def Dp (te : DTE) : DTI := fun ρ μ Q => te ρ μ fun d μ1 => match d with
  | .v (.tuple xs) => Q xs μ1
  | _ => False
theorem Gq (h : DE X e te) : DI X tg e (yO te) := by
  obtain ⟨t1, p1, l1⟩ := h
  refine ⟨_, G4 p1, fun σ H ρ μ Qd R S h k => ?_⟩
  refine l1 σ H ρ μ _ _ S h fun d u μ1 H1 e1 S1 r h1 => ?_
  split at h1
  · rename_i xs
    cases r with
    | @list a us _ ha hn ra =>
      refine ⟨a, rfl, ⟨us, SqL.of ha⟩, k xs μ1 H1 _ e1 S1 (fun μ2 H2 e2 ok2 i => ⟨fun hi => ?_, fun hi => ?_⟩) h1⟩
      · have ha2 := e2.keep _ _ ha hn trivial
        have hiu : i < us.length := by rw [← ra.length]; exact hi
        refine ⟨⟨us, us[i], SqL.of ha2, by simp [hiu]⟩, fun x H' ⟨eH, hx⟩ => ?_⟩
        subst eH
        obtain ⟨u', h1', h2'⟩ := ra.get (i := i) (d := xs[i]) (by simp [hi])
        have := hx us (SqL.of ha2)
        rw [h1'] at this
        cases this
        exact ⟨xs[i], by simp [hi], qA.refl _, h2'.ext S1.mu e2⟩
      · exact ⟨us, SqL.of (e2.keep _ _ ha hn trivial), by rw [← ra.length]; omega⟩
  · exact h1.elim
theorem Gj (h : DE X e te) : DI X tg e (Dp te) := by
  obtain ⟨t1, p1, l1⟩ := h
  refine ⟨_, Pu p1, fun σ H ρ μ Qd R S h k => ?_⟩
  refine l1 σ H ρ μ _ _ S h fun d u μ1 H1 e1 S1 r h1 => ?_
  split at h1
  · rename_i xs
    cases r with
    | @tuple a us _ ha ra =>
      refine ⟨a, rfl, ⟨us, ha⟩, k xs μ1 H1 _ e1 S1 (fun μ2 H2 e2 ok2 i => ⟨fun hi => ?_, fun hi => ?_⟩) h1⟩
      · have ha2 := A7 S1.mu e2 ha
        have hiu : i < us.length := by rw [← ra.length]; exact hi
        refine ⟨⟨us, us[i], ha2, by simp [hiu]⟩, fun x H' ⟨eH, hx⟩ => ?_⟩
        subst eH
        obtain ⟨u', h1', h2'⟩ := ra.get (i := i) (d := xs[i]) (by simp [hi])
        have := hx us ha2
        rw [h1'] at this
        cases this
        exact ⟨xs[i], by simp [hi], qA.refl _, h2'.ext S1.mu e2⟩
      · exact ⟨us, A7 S1.mu e2 ha, by rw [← ra.length]; omega⟩
  · exact h1.elim
def qr (lo : Int) (n : Nat) : List PyData := (List.range n).map fun (i : Nat) => PyData.int (lo + (i : Int))
theorem KD {K : PySem.W.Frag} {lo : Int} {n : Nat} {μ : Mu} {H : Hp} : MC K (Itr lo n) (qr lo n) μ H := fun μ2 H2 e2 ok2 i => by
  have hl : (qr lo n).length = n := by unfold qr; simp
  refine ⟨fun hi => ?_, fun hi => ?_⟩
  · rw [hl] at hi
    refine ⟨hi, fun x H' ⟨eH, hx⟩ => ?_⟩
    subst eH hx
    exact ⟨.int (lo + i), by unfold qr; simp [hi], qA.refl _, .int _⟩
  · show n ≤ i
    omega
def yz (t : DTA) : DTI := fun ρ μ Q => t ρ μ fun ds μ1 => match ds with
  | [.v (.int j)] => (-(2 ^ 62) ≤ j ∧ j < 2 ^ 62) ∧ Q (qr 0 j.toNat) μ1
  | _ => False
def yw (t : DTA) : DTI := fun ρ μ Q => t ρ μ fun ds μ1 => match ds with
  | [.v (.int i), .v (.int j)] => (-(2 ^ 62) ≤ i ∧ i < 2 ^ 62 ∧ -(2 ^ 62) ≤ j ∧ j < 2 ^ 62) ∧ Q (qr i (j - i).toNat) μ1
  | _ => False
theorem BD {a : Expr} {t : DTA} {p pos : Pos} (hg : Gl X "range") (hm : X.mg "range" = none) (ha : DA X [a] t) (hs : starEach [a] X.env = [(false, eval a X.env)] := by rfl) (hc : X.calm = true := by rfl) : DI X tg (.Call (.Name "range" p) [a] [] pos) (yz t) := by
  obtain ⟨t1, p1, l1⟩ := ha
  refine ⟨_, Ip hc hg hm p1 hs, fun σ H ρ μ Qd R S h k => ?_⟩
  refine l1 σ H ρ μ _ _ S h fun ds us μ1 H1 e1 S1 rs len h1 => ?_
  split at h1
  · rename_i j
    cases rs with
    | cons r1 r2 => cases r2; cases r1; exact ⟨j, rfl, h1.1.1, h1.1.2, k _ μ1 H1 _ e1 S1 KD h1.2⟩
  · exact h1.elim
theorem Gr {a b : Expr} {t : DTA} {p pos : Pos} (hg : Gl X "range") (hm : X.mg "range" = none) (ha : DA X [a, b] t) (hs : starEach [a, b] X.env = [(false, eval a X.env), (false, eval b X.env)] := by rfl) (hs2 : starEach [b] X.env = [(false, eval b X.env)] := by rfl) (hc : X.calm = true := by rfl) : DI X tg (.Call (.Name "range" p) [a, b] [] pos) (yw t) := by
  obtain ⟨t1, p1, l1⟩ := ha
  refine ⟨_, Io hc hg hm p1 hs hs2, fun σ H ρ μ Qd R S h k => ?_⟩
  refine l1 σ H ρ μ _ _ S h fun ds us μ1 H1 e1 S1 rs len h1 => ?_
  split at h1
  · rename_i i j
    cases rs with
    | cons r1 r2 =>
      cases r2 with
      | cons r2 r3 => cases r3; cases r1; cases r2; exact ⟨i, j, rfl, h1.1, k _ μ1 H1 _ e1 S1 KD h1.2⟩
  · exact h1.elim
def EU (src : DTI) (g : DTG) (tb : DTS) : DTS := fun Dd ρ μ => src ρ μ fun xs μ1 => ∃ Pv : Nat → Rho → Mu → Prop, Pv 0 ρ μ1 ∧
  (∀ i x ρ' μ', xs[i]? = some x → Pv i ρ' μ' → g (.v x) ρ' μ' fun ρ2 μ2 => tb { Dd with nx := Pv (i + 1), ct := Pv (i + 1), bk := Dd.nx } ρ2 μ2) ∧ (∀ ρ' μ', Pv xs.length ρ' μ' → Dd.nx ρ' μ')
theorem B4 {iter : Expr} {body : List Stmt} {src : DTI} {g : DTG} (hp : PassesOwn (model X.prog X.w) X.A X.env X.xe) (hc : X.calm = true) (hi : DI X tg iter src) (hg : DG X tg g) (hb : DSs X body td)
    (hs : ∀ x, foldedSetIterable iter X.env x = pure x := by intro _; rfl) : DS X (.For tg iter body [] pos) (EU src g td) := by
  obtain ⟨t0, p0, l0⟩ := hi
  obtain ⟨t1, p1, l1⟩ := hg
  obtain ⟨t2, p2, l2⟩ := hb
  refine ⟨_, OF hp hc p0 p1 p2 hs, fun σ H ρ μ Dd De S h k1 k2 k3 k4 => ?_⟩
  refine l0 σ H ρ μ _ _ S h fun xs μ1 H1 J e1 S1 it h1 => ?_
  obtain ⟨Pv, pv0, turn, fin⟩ := h1
  refine ⟨fun i m σ' H' => m = xs.length - i ∧ i ≤ xs.length ∧ ∃ ρ' μ', Ext X.K μ1 H1 μ' H' ∧ St0 X.K H' ρ' μ' σ' ∧ Pv i ρ' μ', ⟨xs.length, by simp, Nat.zero_le _, ρ, μ1, .refl, S1, pv0⟩, ?_⟩
  rintro i m σ' H' ⟨rfl, hi, ρ', μ', e2, S2, pv⟩
  obtain ⟨go, stop⟩ := it μ' H' e2 S2.mu i
  by_cases hlt : i < xs.length
  · obtain ⟨g1, y1⟩ := go hlt
    refine .inr ⟨g1, fun σ2 H2 => ∃ ρ2 μ2, Ext X.K μ1 H1 μ2 H2 ∧ St0 X.K H2 ρ2 μ2 σ2 ∧ Pv (i + 1) ρ2 μ2, fun σ2 H2 q => ⟨xs.length - (i + 1), by omega, rfl, hlt, q⟩, fun x H2 yl => ?_⟩
    obtain ⟨d, hd, sm, rd⟩ := y1 x H2 yl
    have e3 : Ext X.K μ' H' μ' H2 := .of_same sm
    have S3 : St0 X.K H2 ρ' μ' σ' := ⟨S2.mu.Ld e3 sm, S2.rho.ext S2.mu e3⟩
    refine l1 σ' H2 ρ' μ' (.v d) x _ _ S3 rd (turn i d ρ' μ' hd pv) fun σ4 ρ4 μ4 H4 e4 S4 h4 => ?_
    have nxt : ∀ a b c dd, Ext X.K μ4 H4 c dd → St0 X.K dd b c a → Pv (i + 1) b c → ∃ ρ2 μ2, Ext X.K μ1 H1 μ2 dd ∧ St0 X.K dd ρ2 μ2 a ∧ Pv (i + 1) ρ2 μ2 := fun a b c dd e5 S5 q => ⟨b, c, e2.trans (e3.trans (e4.trans e5)), S5, q⟩
    have ee := e1.trans (e2.trans (e3.trans e4))
    exact l2 σ4 H4 ρ4 μ4 _ _ S4 h4 nxt (fun a b c d e5 => k2 a b c d (ee.trans e5)) (fun a b c d e5 => k1 a b c d (ee.trans e5)) nxt
  · have ei : i = xs.length := by omega
    subst ei
    exact .inl ⟨stop rfl, k1 σ' ρ' μ' H' (e1.trans e2) S2 (fin ρ' μ' pv)⟩
end
abbrev DSp := List D → Mu → DK → Prop
def spD (K : PySem.W.Frag) (dsp : DSp) : Sp := fun vs H Q _ => ∃ (ds : List D) (μ : Mu) (Qd : DK), bY K μ H ∧ jR K μ H ds vs ∧ dsp ds μ Qd ∧
  (∀ d u μ' H', Ext K μ H μ' H' → bY K μ' H' → RpD K μ' H' d u → Qd d μ' → Q u H')
def aH (N : List Str) (ds : List D) : Rho := ds.map some ++ List.replicate (N.length - ds.length) none
theorem jR.get {K : PySem.W.Frag} {μ : Mu} {H : Hp} {ds : List D} {us : List V} : ∀ {i : Nat} {d : D}, jR K μ H ds us → ds[i]? = some d → ∃ u, us[i]? = some u ∧ RpD K μ H d u
  | _, _, .nil, h => by simp at h
  | 0, _, .cons r _, h => by simp at h; subst h; exact ⟨_, rfl, r⟩
  | i + 1, d, .cons _ t, h => by
    obtain ⟨u, h1, h2⟩ := jR.get (i := i) (d := d) t (by simpa using h)
    exact ⟨u, by simpa using h1, h2⟩
theorem vG {K : PySem.W.Frag} {μ : Mu} {H : Hp} {N : List Str} {ds : List D} {vs : List V} (r : jR K μ H ds vs) : el K μ H (aH N ds) (start N vs) := by
  have hl := r.length
  refine ⟨by unfold aH start; simp [hl], fun i d e => ?_⟩
  unfold aH at e
  by_cases hi : i < ds.length
  · rw [List.getElem?_append_left (by simpa using hi), List.getElem?_map] at e
    unfold start
    rw [List.getElem?_append_left (by simpa [hl] using hi), List.getElem?_map]
    cases q : ds[i]? with
    | none => rw [q] at e; cases e
    | some d' =>
      rw [q] at e
      cases e
      obtain ⟨u, h1, h2⟩ := r.get q
      exact ⟨u, by rw [h1]; rfl, h2⟩
  · rw [List.getElem?_append_right (by simpa using hi), List.getElem?_replicate] at e
    split at e <;> cases e
section
variable {P : Program} {w : World} {K : PySem.W.Frag} {mg : Str → Option Value} {base : Heap}
theorem _root_.L2.Fun.okD {x qual : Str} {st : Stmt} {f : Addr} {fd : FuncData} {N ps : List Str} {k : Nat} {dsp : DSp} (F : Fun K x qual st f fd) (S : aD N ps (aq st)) (len : ∀ ds μ Q, dsp ds μ Q → ds.length = ps.length)
    (hbody : ∀ (cdv : Value) (A : Around) (outer : List Env) (s : Shared) (H : Hp) (E : XK), fi k (A.deeper (envOfC qual (aq st) s.heap.objs.size f cdv)) →
      ∃ td, DSs (lS CX0 P w K mg base N qual (aq st) f cdv A outer s H E).nox (eW st) td ∧ ∀ ds μ Qd, dsp ds μ Qd → td { nx := fun _ μ' => Qd (.v .none) μ', rt := Qd } (aH N ds) μ) : bG P w K mg base CX0 (k + 1) f fd ps (spD K dsp) := by
  refine F.ok S (fun vs H Q E h => ?_) (fun cdv A outer s H vs Q E hr h => ?_)
  · obtain ⟨ds, μ, Qd, _, r, h, _⟩ := h
    rw [← r.length]
    exact len ds μ Qd h
  · obtain ⟨ds, μ, Qd, ok, r, h, fin⟩ := h
    obtain ⟨td, ⟨t, p, l⟩, rd⟩ := hbody cdv A outer s H E hr
    refine ⟨t, p, ?_⟩
    exact l (start N vs) H (aH N ds) μ _ _ ⟨ok, vG r⟩ (rd ds μ Qd h) (fun σ' ρ' μ' H' e' S' q => fin (.v .none) .non μ' H' e' S'.mu Rp.none q) (fun d u μ' H' e' ok' r' q => fin d u μ' H' e' ok' r' q) (fun _ _ _ _ _ _ q => q) (fun _ _ _ _ _ _ q => q)
end
section
variable {X : Cx} {e : Expr} {es : List Expr} {t : DTA} {p pos : Pos} {x : Str} {k : Nat} {f : Addr} {fd : FuncData} {ps : List Str} {dsp : DSp}
def ao (dsp : DSp) (t : DTA) : DTE := fun ρ μ Q => t ρ μ fun ds μ1 => dsp ds μ1 Q
theorem ai (F : bG X.prog X.w X.K X.mg X.base CX0 k f fd ps (spD X.K dsp)) (hr : fi k X.A) (hg : Gl X x) (hm : X.mg x = some (.ref f)) (hk : PySem.W.keepIn X.K (.ref f) = true) (hb : Binds X.K fd ps [])
    (ha : DA X (e :: es) t) (hdb : (x == ("__debug__" : Str)) = false := by decide) (he : starEach (e :: es) X.env = (false, eval e X.env) :: starEach es X.env := by rfl) (hpl : (backTo pos (starEach es X.env)).any (·.1) = false := by rfl) :
    DE X (.Call (.Name x p) (e :: es) [] pos) (ao dsp t) := by
  obtain ⟨t1, p1, l1⟩ := ha
  refine ⟨_, Gv F hr hg hm hk hb .nil QB p1 hdb he hpl, fun σ H ρ μ Qd Q S h kk => ?_⟩
  refine l1 σ H ρ μ _ _ S h fun ds us μ1 H1 e1 S1 rs len h1 => ?_
  refine ⟨ds, μ1, Qd, S1.mu, by rw [List.append_nil]; exact rs, h1, fun d u μ' H' e2 ok r q => ?_⟩
  exact kk d u μ' H' (e1.trans e2) ⟨ok, S1.rho.ext S1.mu e2⟩ r q
end
section
variable {X : Cx} {o e : Expr} {to te : DTE} {apos cpos : Pos}
def LP (to te : DTE) : DTE := fun ρ μ Q => to ρ μ fun x μ1 => match x with
  | .m l => te ρ μ1 fun y μ2 => (match y, μ2 l with
    | .v d, some xs => xs.length < 1000 ∧ Q (.v .none) (aI μ2 l (xs ++ [d]))
    | _, _ => False)
  | _ => False
theorem IQ (ho : DE X o to) (ha : DE X e te) (hbase : attributeBase o "append" X.env (eval o X.env) = eval o X.env := by rfl)
    (hfew : ((backTo cpos (starEach [e] X.env)).all (fun x => !x.1) && (backToKw cpos (keywordEach [] X.env)).all (fun x => x.1.isSome)
      && decide ([e].length + ([] : List Keyword).length + (if ([] : List Keyword).isEmpty then 0 else 1) < 30)) = true := by rfl)
    (hline : (apos.endLine == cpos.line) = true := by rfl) (hs : starEach [e] X.env = (false, eval e X.env) :: starEach [] X.env := by rfl) (hplain : (backTo cpos (starEach [] X.env)).any (·.1) = false := by rfl) :
    DE X (.Call (.Attribute o "append" apos) [e] [] cpos) (LP to te) := by
  obtain ⟨t1, p1, l1⟩ := ho
  obtain ⟨t2, p2, l2⟩ := ha
  refine ⟨_, Nk PySem.F.plainAttrs_list PySem.F.slot_list_append PySem.F.type_list_append rH p1 (gF p2 nX hs) hbase hfew hline hs hplain, fun σ H ρ μ Qd Q S h k => ?_⟩
  refine l1 σ H ρ μ _ _ S h fun x ux μ1 H1 e1 S1 rx h1 => ?_
  cases x with
  | m l =>
    obtain ⟨rfl, ds, hm⟩ := id rx
    obtain ⟨us, hl, rl⟩ := S1.mu l ds hm
    refine ⟨.inl ⟨rfl, us, SqL.of hl⟩, ?_⟩
    refine l2 σ H1 ρ μ1 _ _ S1 h1 fun y uy μ2 H2 e2 S2 ry h2 => ?_
    obtain ⟨_, ds2, hm2⟩ := rx.ext S1.mu e2
    obtain ⟨us2, hl2, rl2⟩ := S2.mu l ds2 hm2
    rw [hm2] at h2
    cases y with
    | v d =>
      have h3 : ds2.length < 1000 ∧ Qd (.v .none) (aI μ2 l (ds2 ++ [d])) := h2
      refine ⟨l, us2, uy, rfl, rfl, hl2, by rw [← rl2.length]; exact eL (Nat.le_of_lt h3.1), ?_⟩
      have ex : Ext X.K μ2 H2 (aI μ2 l (ds2 ++ [d])) (upd H2 l (.lst (us2 ++ [uy]))) := rq hm2
      exact k (.v .none) .non _ _ (e1.trans (e2.trans ex)) ⟨S2.mu.set hm2 (rl2.append (.cons ry .nil)), S2.rho.ext S2.mu ex⟩ Rp.none h3.2
    | m _ => exact h2.elim
    | s _ => exact h2.elim
    | o _ => exact h2.elim
    | q _ => exact h2.elim
  | v d => exact h1.elim
  | s ns => exact h1.elim
  | o _ => exact h1.elim
  | q _ => exact h1.elim
def Rx (to te : DTE) : DTE := fun ρ μ Q => to ρ μ fun x μ1 => match x with
  | .m l => te ρ μ1 fun y μ2 => (match y, μ2 l with
    | .v (.list ys), some xs => xs.length + ys.length ≤ 1000 ∧ Q (.v .none) (aI μ2 l (xs ++ ys))
    | _, _ => False)
  | _ => False
def PX (to : DTE) : DTE := fun ρ μ Q => to ρ μ fun x μ1 => match x with
  | .v (.int i) => Q (.v (.int (Builtin.Int.intBits i : Nat))) μ1
  | _ => False
end
open PySem PySem.Spec PyProof.Rows
theorem ij {prog : Program} {w : World} {A : Around} {R : Result → Shared → Prop} {s : Shared} {elt target iter : Expr} {ifs : List Expr} {scope : Scope} {pos : Pos} {it acc : Value} {env : Env} (I : Nat → Shared → Prop)
    (turn : ∀ n s, I n s → wpAny (model prog w) A (pyNext it) (fun r s₁ => match r with
      | none => R (.ok .next) s₁
      | some v => wpAny (model prog w) A (letOwnedTupleGo target it v) (fun _ s' => wpAny (model prog w) A (assign target env v) (fun _ s₂ =>
          wpAny (model prog w) A (forIn ifs true fun c r => if r = true then do let ok ← isTrue c env (eval c env); pure (ForInStep.yield ok) else pure (ForInStep.yield r)) (fun ok s₃ =>
            if ok = true then wpAny (model prog w) A (eval elt env) (fun x s₄ =>
              wpAny (model prog w) A (call (.builtin "list.append") [acc, x]) (fun _ s₅ => ∃ m, m < n ∧ I m s₅) (fun _ _ => False) s₄) (fun _ _ => False) s₃
            else ∃ m, m < n ∧ I m s₃) (fun _ _ => False) s₂) (fun _ _ => False) s') (fun _ _ => False) s₁) (fun _ _ => False) s)
    (n : Nat) (h : I n s) :
    codeAny (model prog w) A (.compLoop (.ListComp elt [⟨target, iter, ifs, 0⟩] scope pos) 0 it acc env) R s := by
  refine codeAny_loop rfl I (fun n s hI => ?_) n h
  show wpAny _ A ((compTurn (.ListComp elt [⟨target, iter, ifs, 0⟩] scope pos) 0 it acc env).onRaise (fun x => do noteFrame x env; theTreesLotGoes x)) _ _ s
  refine wpAny_noted ?_
  rw [compTurn_list]
  refine wpAny_bind (wpAny_standAt (wpAny_bind (wpAny_mono (turn n s hI) (fun r s₁ h₁ => ?_) fun _ _ h' => h'.elim)))
  cases r with
  | none => exact wpAny_pure h₁
  | some v =>
    refine wpAny_bind (wpAny_mono h₁ (fun _ s' h' => ?_) fun _ _ h' => h'.elim)
    refine wpAny_bind (wpAny_mono h' (fun _ s₂ h₂ => wpAny_bind (wpAny_mono h₂ (fun ok s₃ h₃ => ?_) fun _ _ h' => h'.elim)) fun _ _ h' => h'.elim)
    cases ok with
    | false => exact wpAny_pure ⟨rfl, h₃⟩
    | true =>
      exact wpAny_bind (wpAny_bind (wpAny_mono h₃ (fun x s₄ h₄ => wpAny_bind (wpAny_mono h₄ (fun _ s₅ h₅ => wpAny_pure (wpAny_pure ⟨rfl, h₅⟩)) fun _ _ h' => h'.elim)) fun _ _ h' => h'.elim))
section
variable {K : PySem.W.Frag} {μ μ' : Mu} {H : Hp}
mutual
theorem Rp.shrink {d : PyData} {u : V} (sub : ∀ a, μ' a = none → μ a = none) : Rp K μ' H d u → Rp K μ H d u
  | .none => .none
  | .bool b => .bool b
  | .int i => .int i
  | .str x => .str x
  | .list h n r => .list h (sub _ n) (RpL.shrink sub r)
  | .tuple h r => .tuple h (RpL.shrink sub r)
theorem RpL.shrink {ds : List PyData} {us : List V} (sub : ∀ a, μ' a = none → μ a = none) : RpL K μ' H ds us → RpL K μ H ds us
  | .nil => .nil
  | .cons h r => .cons (Rp.shrink sub h) (RpL.shrink sub r)
end
end
theorem C1 {X : Cx} {e : Expr} {td : DTE} (h : ∀ (pins : List (Addr × Obj)) (s : Shared) (σ : St) (H : Hp) (ρ : Rho) (μ : Mu) (Qd : DK) (Q : VK), Inv X pins σ H s → St0 X.K H ρ μ σ → td ρ μ Qd →
    (∀ d u μ' H', Ext X.K μ H μ' H' → St0 X.K H' ρ μ' σ → RpD X.K μ' H' d u → Qd d μ' → Q u H') → wpAny (model X.prog X.w) X.A (eval e X.env) (EP X pins σ Q) X.xe s) : DE X e td :=
  ⟨fun σ H Q => ∃ ρ μ Qd, St0 X.K H ρ μ σ ∧ td ρ μ Qd ∧ (∀ d u μ' H', Ext X.K μ H μ' H' → St0 X.K H' ρ μ' σ → RpD X.K μ' H' d u → Qd d μ' → Q u H'),
    fun pins s σ H Q I ⟨ρ, μ, Qd, S, q, k⟩ => h pins s σ H ρ μ Qd Q I S q k, fun σ H ρ μ Qd Q S q k => ⟨ρ, μ, Qd, S, q, k⟩⟩
def aN (X : Cx) (N' : List Str) (scope : Scope) (cl : List (Str × Addr)) (fp : List Addr) (s₃ : Shared) (H₃ : Hp) : Cx :=
  { X with N := N', s₀ := s₃, H₀ := H₃, env := compEnvC scope cl s₃.heap.objs.size X.env, outer := X.stack, stack := X.stack, ex := fp, fn := fun _ => false, pn := X.pn, xe := fun _ _ => False }
def Le : Rho → Rho → Prop
  | [], [] => True
  | none :: r, _ :: r' => Le r r'
  | some d :: r, some d' :: r' => d = d' ∧ Le r r'
  | _, _ => False
theorem Le.get : ∀ {ρ ρ' : Rho}, Le ρ ρ' → ρ.length = ρ'.length ∧ ∀ (i : Nat) d, ρ[i]? = some (some d) → ρ'[i]? = some (some d)
  | [], [], _ => ⟨rfl, fun _ _ h => h⟩
  | none :: r, x :: r', h => by
    obtain ⟨h1, h2⟩ := Le.get (ρ := r) (ρ' := r') h
    refine ⟨congrArg (· + 1) h1, fun i d e => ?_⟩
    cases i with
    | zero => simp at e
    | succ j => exact h2 j d (by simpa using e)
  | some d :: r, some d' :: r', h => by
    obtain ⟨rfl, h⟩ := h
    obtain ⟨h1, h2⟩ := Le.get (ρ := r) (ρ' := r') h
    refine ⟨congrArg (· + 1) h1, fun i d e => ?_⟩
    cases i with
    | zero => simpa using e
    | succ j => exact h2 j d (by simpa using e)
  | some d :: r, none :: r', h => h.elim
  | [], _ :: _, h => h.elim
  | none :: _, [], h => h.elim
  | some _ :: _, [], h => h.elim
def bO {α : Type} (cap : List (Option Nat)) (ρ : List (Option α)) : List (Option α) := cap.map fun o => o.bind fun j => (ρ[j]?).join
def C9 (cap : List (Option Nat)) (src : DTI) (g : DTG) (c : DTT) (elt : DTE) : DTE := fun ρ μ Q => src ρ μ fun xs μ1 => xs.length ≤ 1000 ∧ ∃ f : PyData → Option PyData,
  (∀ x ∈ xs, ∀ μ' : Mu, (∀ a ds, μ1 a = some ds → μ' a = some ds) → g (.v x) (bO cap ρ) μ' fun ρ2 μ2 => Le (bO cap ρ) ρ2 ∧ c ρ2 μ2 fun b μ3 =>
    if b = true then elt ρ2 μ3 fun d μ4 => μ4 = μ' ∧ (match d with | .v y => f x = some y | _ => False) else μ3 = μ' ∧ f x = none) ∧ Q (.v (.list (xs.filterMap f))) μ1
def Kd (X : Cx) (ifs : List Expr) (c : DTT) : Prop := ∀ (pins : List (Addr × Obj)) (s : Shared) (σ : St) (H : Hp) (ρ : Rho) (μ : Mu) (Qd : Bool → Mu → Prop) (Q : Bool → Hp → Prop), Inv X pins σ H s → St0 X.K H ρ μ σ → c ρ μ Qd →
  (∀ b μ' H', Ext X.K μ H μ' H' → St0 X.K H' ρ μ' σ → Qd b μ' → Q b H') →
  wpAny (model X.prog X.w) X.A (forIn ifs true fun c r => if r = true then do let ok ← isTrue c X.env (eval c X.env); pure (ForInStep.yield ok) else pure (ForInStep.yield r)) (TP X pins σ Q) X.xe s
def DX : DTT := fun _ μ Q => Q true μ
theorem zd {X : Cx} : Kd X [] DX := fun pins s σ H ρ μ Qd Q I S h k => wpAny_tests_nil ⟨H, I, k true μ H .refl S h⟩
theorem yh {X : Cx} {c : Expr} {tc : DTT} (h : DT X c tc) : Kd X [c] tc := by
  obtain ⟨t, p, l⟩ := h
  exact fun pins s σ H ρ μ Qd Q I S h k => wpAny_tests_one (p pins s σ H _ I (l σ H ρ μ _ _ S h k))
theorem Un.after {fs ex : List Addr} {H H1 : Hp} {h h1 h' : Heap} (u : Un fs ex H H1 h h1) (k : ∀ b o, b < h.objs.size → h1.get? b = some o → h'.get? b = some o) : Un fs ex H H1 h h' :=
  ⟨fun b o e n hb hx => k b o (Heap.lt_size e) (u.keep b o e n hb hx), fun b o e n hb hx => let ⟨sl, q⟩ := u.slot b o e n hb hx; ⟨sl, k b _ (Heap.lt_size e) q⟩, u.free, fun b o e hx => let ⟨o', q⟩ := u.there b o e hx; ⟨o', k b _ (Heap.lt_size e) q⟩, u.rS, u.pZ, u.qx⟩
theorem nS {α : Type} {cap : List (Option Nat)} {ρ : List (Option α)} {i : Nat} {d : α} (h : (bO cap ρ)[i]? = some (some d)) : ∃ j, cap[i]? = some (some j) ∧ ρ[j]? = some (some d) := by
  unfold bO at h
  rw [List.getElem?_map] at h
  cases q : cap[i]? with
  | none => rw [q] at h; cases h
  | some o =>
    rw [q] at h
    cases o with
    | none => cases h
    | some j =>
      refine ⟨j, rfl, ?_⟩
      simp only [Option.map_some, Option.bind_some, Option.some.injEq] at h
      cases z : ρ[j]? with
      | none => rw [z] at h; cases h
      | some y => rw [z] at h; simp only [Option.join_some] at h; rw [h]
theorem Jn {α : Type} {cap : List (Option Nat)} {ρ : List (Option α)} {i j : Nat} {d : α} (h : cap[i]? = some (some j)) (e : ρ[j]? = some (some d)) : (bO cap ρ)[i]? = some (some d) := by
  unfold bO
  rw [List.getElem?_map, h]
  simp [e]
theorem el.cap {K : PySem.W.Frag} {μ : Mu} {H : Hp} {ρ : Rho} {σ : St} {cap : List (Option Nat)} (r : el K μ H ρ σ) : el K μ H (bO cap ρ) (bO cap σ) := by
  refine ⟨by unfold bO; simp, fun i d e => ?_⟩
  obtain ⟨j, h1, h2⟩ := nS e
  obtain ⟨u, h3, h4⟩ := r.2 j d h2
  exact ⟨u, Jn h1 h3, h4⟩
theorem el.le {K : PySem.W.Frag} {μ : Mu} {H : Hp} {ρ ρ' : Rho} {σ : St} (r : el K μ H ρ' σ) (l : Le ρ ρ') : el K μ H ρ σ :=
  ⟨l.get.1.trans r.1, fun i d e => r.2 i d (l.get.2 i d e)⟩
theorem xI {xs : List PyData} {f : PyData → Option PyData} {i : Nat} {d : PyData} (h : xs[i]? = some d) : (xs.take (i + 1)).filterMap f = (xs.take i).filterMap f ++ (f d).toList := by
  obtain ⟨hi, e⟩ := List.getElem?_eq_some_iff.mp h
  rw [List.take_succ_eq_append_getElem hi, List.filterMap_append, e]
  cases q : f d <;> simp [q]
theorem BM {X : Cx} {N' : List Str} {scope : Scope} {cl : List (Str × Addr)} {elt iter tg : Expr} {ifs : List Expr} {pos : Pos} {cap : List (Option Nat)} {src : DTI} {g : DTG} {c : DTT} {te : DTE} (hc : X.calm = X.calm)
    (hi : DI X tg iter src) (hg : ∀ fp s₃ H₃, DG (aN X N' scope cl fp s₃ H₃) tg g) (hif : ∀ fp s₃ H₃, Kd (aN X N' scope cl fp s₃ H₃) ifs c) (he : ∀ fp s₃ H₃, DE (aN X N' scope cl fp s₃ H₃) elt te)
    (hclos : closureFor scope X.env = pure cl) (hcell : ∀ y ∈ scope.names, y.2 ≠ .cell) (hkind : scope.kind = .function) (hnames : ∀ y ∈ scope.names, y.2 = .local → scope.names.lookup y.1 = some .local)
    (hcl : ∀ x a, cl.lookup x = some a → X.env.cells.lookup x = some a) (hhas : ∀ x, (relabel scope X.env).names.lookup x = some .cell ∨ (relabel scope X.env).names.lookup x = some .free → ∃ a, cl.lookup x = some a)
    (hlen : cap.length = N'.length) (hcap : ∀ (i j : Nat) (x : Str), cap[i]? = some (some j) → N'[i]? = some x → X.N[j]? = some x ∧ Vis X.env.scope x ∧ X.env.kindOf x ≠ some .local ∧ ((relabel scope X.env).names.lookup x = some .cell ∨ (relabel scope X.env).names.lookup x = some .free))
    (hs : ∀ x, foldedSetIterable iter X.env x = pure x := by intro _; rfl) : DE X (.ListComp elt [⟨tg, iter, ifs, 0⟩] scope pos) (C9 cap src g c te) := by
  refine C1 fun pins s σ H ρ μ Qd Q I S h k => ?_
  obtain ⟨wi, pw, li⟩ := hi
  rw [eval_ListComp]
  refine wpAny_comprehension_free (use := none) rfl hs hclos hkind hnames (thn (pw pins s σ H _ I (li σ H ρ μ _ (fun J H1 => ∃ xs μ1, Ext X.K μ H μ1 H1 ∧ St0 X.K H1 ρ μ1 σ ∧ MC X.K J xs μ1 H1 ∧ xs.length ≤ 1000 ∧ ∃ f : PyData → Option PyData,
      (∀ x ∈ xs, ∀ μ' : Mu, (∀ a ds, μ1 a = some ds → μ' a = some ds) → g (.v x) (bO cap ρ) μ' fun ρ2 μ2 => Le (bO cap ρ) ρ2 ∧ c ρ2 μ2 fun b μ3 =>
        if b = true then te ρ2 μ3 fun d μ4 => μ4 = μ' ∧ (match d with | .v y => f x = some y | _ => False) else μ3 = μ' ∧ f x = none) ∧ Qd (.v (.list (xs.filterMap f))) μ1) S h (fun xs μ1 H1 J e1 S1 it q => ⟨xs, μ1, e1, S1, it, q⟩)))
    fun v s1 h1 => thn h1 fun itv s2 h2 => ?_)
  obtain ⟨it, fp, tn, J, H2, rfl, I2, T, st2, f2, xs, μ1, e1, S1, itok, hxs, f, body, fin⟩ := h2
  refine wpAny_newObj_type (wpAny_newFunctionEnv hcell (by intro y hy; simp at hy) (fun h₁ hns₁ hsb₁ => ?_) hkind)
  dsimp only at hns₁ hsb₁ ⊢
  have hfree2 : H2 s2.heap.objs.size = none := I2.hok.fresh (Nat.le_refl _)
  have hK2 : X.K.lookup s2.heap.objs.size = none := by
    cases z : X.K.lookup s2.heap.objs.size with
    | none => rfl
    | some o => exact absurd (Heap.lt_size (I2.kIn _ _ z)) (Nat.lt_irrefl _)
  have I3 : Inv X pins σ (upd H2 s2.heap.objs.size (.lst [])) { s2 with heap := s2.heap.push { cls := .type "list", dict := none, data := .seq ([] : List Value).toArray } } :=
    I2.laid (t' := s2.toks) (fun b u e => Heap.get?_push_of_some _ e) (Nat.le_refl _) ⟨Nat.zero_le _, [], 0, .nil, Heap.get?_push_size _ rfl⟩
  generalize hH : s2.heap.push { cls := .type "list", dict := none, data := .seq ([] : List Value).toArray } = hp3 at hns₁ hsb₁ I3 ⊢
  have hsz3 : hp3.objs.size = s2.heap.objs.size + 1 := by rw [← hH, Heap.size_push]
  have kept3 : ∀ b o, hp3.get? b = some o → h₁.get? b = some o := fun b o e => hsb₁.extBut b o (Nat.ne_of_lt (Heap.lt_size e)) (Heap.get?_push_of_some _ e)
  have old3 : ∀ b o, s2.heap.get? b = some o → hp3.get? b = some o := fun b o e => by rw [← hH]; exact Heap.get?_push_of_some _ e
  have fplt : ∀ b ∈ fp, b < s2.heap.objs.size := fun b hb => by obtain ⟨o, e, _⟩ := T.obj 0 _ st2 b hb; exact Heap.lt_size e
  have fpst : ∀ b ∈ fp, b ∉ frs X.stack := fun b hb hz => by
    rcases List.mem_cons.mp (I2.qQ b hz) with e | e
    · exact (f2 b hb).2.1 e
    · exact (f2 b hb).2.2.1 e
  obtain ⟨s3, hs3⟩ : ∃ s3 : Shared, s3 = { s2 with heap := hp3 } := ⟨_, rfl⟩
  obtain ⟨H3, hH3⟩ : ∃ H3 : Hp, H3 = upd H2 s2.heap.objs.size (.lst []) := ⟨_, rfl⟩
  have heap3 : s3.heap = hp3 := by rw [hs3]
  rw [← hH3] at I3
  have I3' : Inv X pins σ H3 s3 := by rw [hs3]; exact I3
  have hloc : H3 hp3.objs.size = none := by have := I3'.hok.fresh (a := hp3.objs.size) (by rw [heap3]; exact Nat.le_refl _); exact this
  have okc : (aN X N' scope cl fp s3 H3).Ok := by
    refine ⟨I3.ok.mod, ?_, I3.ok.glob, I3.ok.blt, Nat.le_refl _, fun x y a h1 h2 => I3.ok.inj x y a (hcl x a h1) (hcl y a h2), fun x hx => hhas x hx, fun x a h => (nomatch h), I3.ok.hd, I3.ok.qt, I3.ok.frames, .inl rfl, fun b hb => ⟨?_, fun x a h => (f2 b hb).2.2.2.2.1 x a (hcl x a h)⟩,
      I3'.bs, Nat.le_trans I3.ok.bsz I3'.sz, fun b o e hb => ?_, fun b hb => fpst b hb, I3'.stack, I3'.uo⟩
    · exact hkind
    · show b ≠ s3.heap.objs.size
      rw [heap3, hsz3]
      exact Nat.ne_of_lt (Nat.lt_succ_of_lt (fplt b hb))
    · rcases (f2 b hb).2.2.2.1 with z | z
      · exact I3.ok.Dz b o e z
      · exact absurd (Nat.lt_of_lt_of_le (Heap.lt_size (I3.ok.bs b o e).1) z) (Nat.lt_irrefl _)
  have I4 : Inv (aN X N' scope cl fp s3 H3) [] (bO cap σ) H3 { s2 with heap := h₁, toks := s2.toks + ([] : List (Str × Value)).length } := by
    refine ⟨okc, by show s2.os = s3.os; rw [hs3], I3.bare, Un.kept (by show ∀ b o, s3.heap.get? b = some o → _; rw [heap3]; exact kept3), ⟨_, (by show h₁.Ns s3.heap.objs.size _; rw [heap3]; exact hns₁), fun i x v e1 e2 e3 => ?_⟩, fun x a h => ?_, (by show H3 s3.heap.objs.size = none; rw [heap3]; exact hloc), fun x a h => I3.ik x a (hcl x a h), fun p hp => ?_, I3.hok.kept kept3, ?_⟩
    · obtain ⟨j, h1, h2⟩ := nS e2
      obtain ⟨hN, hv, hnl, hk⟩ := hcap i j x h1 e1
      obtain ⟨m, _, hl⟩ := I3.loc
      obtain ⟨u, r, lk⟩ := hl j x v hN h2 hv
      refine ⟨u, r, .inr ⟨hk, ?_⟩⟩
      obtain ⟨a, ha⟩ := hhas x hk
      rcases lk with ⟨z, _⟩ | ⟨_, a', z1, z2⟩
      · exact absurd z hnl
      · have : a' = a := by have q := hcl x a ha; rw [z1] at q; exact Option.some.inj q
        subst this
        obtain ⟨o, ho, hd⟩ := z2
        exact ⟨a', ha, o, kept3 _ _ ho, hd⟩
    · obtain ⟨v, o, ho, hd⟩ := I3.cell x a (hcl x a h)
      exact ⟨v, o, kept3 _ _ ho, hd⟩
    · have hp' : p ∈ X.pn ++ pins := List.mem_append_left _ (by simpa using (show p ∈ X.pn ++ [] from hp))
      obtain ⟨z1, z2, z3, z4, z5⟩ := I3'.pin p hp'
      refine ⟨kept3 _ _ (by rw [← heap3]; exact z1), z2, (show p.1 ≠ s3.heap.objs.size from Nat.ne_of_lt (Heap.lt_size z1)), fun z => ?_, z5⟩
      rcases List.mem_cons.mp (I3'.qQ p.1 z) with e | e
      · exact z3 e
      · exact z4 e
    · show (bO cap σ).length = N'.length
      unfold bO
      rw [List.length_map]
      exact hlen
  have hμ1 : μ1 s2.heap.objs.size = none := S1.mu.free hfree2
  have sub1 : ∀ ys a ds, μ1 a = some ds → aI μ1 s2.heap.objs.size ys a = some ds := fun ys a ds e => by
    have : a ≠ s2.heap.objs.size := fun z => by rw [z, hμ1] at e; cases e
    rw [dy this]; exact e
  have loop : codeAny (model X.prog X.w) X.A (.compLoop (.ListComp elt [⟨tg, iter, ifs, 0⟩] scope pos) 0 (.ref it) (.ref s2.heap.objs.size) (aN X N' scope cl fp s3 H3).env)
      (compPost (model X.prog X.w) X.A X.xe none (EP X pins σ Q) (.ref s2.heap.objs.size) hp3.objs.size) { s2 with heap := h₁, toks := s2.toks + ([] : List (Str × Value)).length } := by
    refine ij (fun n s' => ∃ (i : Nat) (σc : St) (Hc : Hp), n = xs.length - i ∧ i ≤ xs.length ∧ Inv (aN X N' scope cl fp s3 H3) [] σc Hc s' ∧ tn i s'.heap ∧ (∀ b ∈ fp, Hc b = none) ∧
      St0 X.K Hc (bO cap ρ) (aI μ1 s2.heap.objs.size ((xs.take i).filterMap f)) σc ∧ Ext X.K μ1 H2 (aI μ1 s2.heap.objs.size ((xs.take i).filterMap f)) Hc) ?_ xs.length
      ⟨0, bO cap σ, H3, by simp, Nat.zero_le _, I4, T.keep 0 _ _ st2 (fun b hb o e => kept3 b o (old3 b o e)), fun b hb => ?_, ?_, ?_⟩
    · rintro n s' ⟨i, σc, Hc, rfl, hi, Ic, tc, frc, Sc, Ec⟩
      have stat : ∀ {Hd : Hp}, (∀ b ∈ fp, Hd b = none) → ∀ b ∈ fp, Ac (aN X N' scope cl fp s3 H3) [] Hd b := fun hn b hb =>
        ⟨hn b hb, (okc.exf b hb).1, fpst b hb, .inl hb, fun x a h => (okc.exf b hb).2 x a h, fun p hp => (f2 b hb).2.2.2.2.2 p (List.mem_append_left _ (by simpa using (show p ∈ X.pn ++ [] from hp)))⟩
      obtain ⟨go, stop⟩ := itok _ Hc Ec Sc.mu i
      by_cases hlt : i < xs.length
      · obtain ⟨g1, y1⟩ := go hlt
        refine thn (T.item (aN X N' scope cl fp s3 H3) rfl rfl rfl (fun z => z) i [] s' σc Hc (fun _ _ => False) Ic (stat frc) tc g1) fun r s4 ⟨u, hr, h4⟩ => ?_
        subst hr
        refine thn h4 fun _ s5 ⟨x, H5, I5, r5, y5, st5, fr5⟩ => ?_
        obtain ⟨d, hd, sm, rd⟩ := y1 x H5 y5
        have I5' := I5.pinned (stat fr5) (T.obj _ _ st5)
        have e5 : Ext X.K _ Hc _ H5 := .of_same (μ := aI μ1 s2.heap.objs.size ((xs.take i).filterMap f)) sm
        have S5 : St0 X.K H5 (bO cap ρ) (aI μ1 s2.heap.objs.size ((xs.take i).filterMap f)) σc := ⟨Sc.mu.Ld e5 sm, Sc.rho.ext Sc.mu e5⟩
        obtain ⟨gt, pg, lg⟩ := hg fp s3 H3
        have hmem : d ∈ xs := List.mem_of_getElem? hd
        refine thn (pg _ s5 σc H5 x u (fun σ' H' => ∃ ρ' μ', Ext X.K (aI μ1 s2.heap.objs.size ((xs.take i).filterMap f)) H5 μ' H' ∧ St0 X.K H' ρ' μ' σ' ∧ Le (bO cap ρ) ρ' ∧ c ρ' μ' fun b μ3 =>
            if b = true then te ρ' μ3 fun d' μ4 => μ4 = aI μ1 s2.heap.objs.size ((xs.take i).filterMap f) ∧ (match d' with | .v y => f d = some y | _ => False) else μ3 = aI μ1 s2.heap.objs.size ((xs.take i).filterMap f) ∧ f d = none) I5' r5
          (lg σc H5 (bO cap ρ) _ (.v d) x _ _ S5 rd (body d hmem _ (sub1 _)) fun σ' ρ' μ' H' e' S' q => ⟨ρ', μ', e', S', q⟩)) fun _ s6 ⟨σ6, H6, I6, ρ6, μ6, e6, S6, le6, q6⟩ => ?_
        refine thn (hif fp s3 H3 _ s6 σ6 H6 ρ6 μ6 _ (fun b H' => ∃ μ', Ext X.K μ6 H6 μ' H' ∧ St0 X.K H' ρ6 μ' σ6 ∧ if b = true then te ρ6 μ' fun d' μ4 => μ4 = aI μ1 s2.heap.objs.size ((xs.take i).filterMap f) ∧ (match d' with | .v y => f d = some y | _ => False) else μ' = aI μ1 s2.heap.objs.size ((xs.take i).filterMap f) ∧ f d = none)
          I6 S6 q6 fun b μ' H' e' S' q => ⟨μ', e', S', q⟩) fun b s7 ⟨H7, I7, μ7, e7, S7, q7⟩ => ?_
        have again : ∀ {H9 : Hp} {s9 : Shared}, Inv (aN X N' scope cl fp s3 H3) ([] ++ sL fp s5.heap) σ6 H9 s9 → bY X.K (aI μ1 s2.heap.objs.size ((xs.take (i + 1)).filterMap f)) H9 → el X.K (aI μ1 s2.heap.objs.size ((xs.take (i + 1)).filterMap f)) H9 (bO cap ρ) σ6 →
            Ext X.K μ1 H2 (aI μ1 s2.heap.objs.size ((xs.take (i + 1)).filterMap f)) H9 → ∃ m, m < xs.length - i ∧ ∃ (i : Nat) (σc : St) (Hc : Hp), m = xs.length - i ∧ i ≤ xs.length ∧ Inv (aN X N' scope cl fp s3 H3) [] σc Hc s9 ∧ tn i s9.heap ∧ (∀ b ∈ fp, Hc b = none) ∧
              St0 X.K Hc (bO cap ρ) (aI μ1 s2.heap.objs.size ((xs.take i).filterMap f)) σc ∧ Ext X.K μ1 H2 (aI μ1 s2.heap.objs.size ((xs.take i).filterMap f)) Hc := fun {H9 s9} I9 m9 r9 e9 => by
          refine ⟨xs.length - (i + 1), by omega, i + 1, σ6, H9, rfl, hlt, I9.lA, T.keep _ _ _ st5 fun b hb o e => (I9.pin (b, o) (List.mem_append_right _ (List.mem_append_right _ (eI hb e)))).1, fun b hb => ?_, ⟨m9, r9⟩, e9⟩
          obtain ⟨o, e, _⟩ := T.obj _ _ st5 b hb
          exact (I9.pin (b, o) (List.mem_append_right _ (List.mem_append_right _ (eI hb e)))).2.1
        cases b with
        | false =>
          have q8 : μ7 = aI μ1 s2.heap.objs.size ((xs.take i).filterMap f) ∧ f d = none := by simpa using q7
          refine By ?_
          have et : (xs.take (i + 1)).filterMap f = (xs.take i).filterMap f := by rw [xI hd, q8.2]; simp
          have eμ : aI μ1 s2.heap.objs.size ((xs.take (i + 1)).filterMap f) = μ7 := by rw [et, q8.1]
          refine again I7 (by rw [eμ]; exact S7.mu) (by rw [eμ]; exact S7.rho.le le6) ?_
          rw [eμ]
          exact Ec.trans (e5.trans (e6.trans e7))
        | true =>
          refine zm ?_
          obtain ⟨t8, p8, l8⟩ := he fp s3 H3
          refine thn (p8 _ s7 σ6 H7 (fun v H' => ∃ y, Ext X.K μ7 H7 (aI μ1 s2.heap.objs.size ((xs.take i).filterMap f)) H' ∧ St0 X.K H' ρ6 (aI μ1 s2.heap.objs.size ((xs.take i).filterMap f)) σ6 ∧ Rp X.K (aI μ1 s2.heap.objs.size ((xs.take i).filterMap f)) H' y v ∧ f d = some y) I7
            (l8 σ6 H7 ρ6 μ7 _ _ S7 (by simpa using q7) fun d' v μ8 H8 e8 S8 r8 q8 => ?_)) fun v s8 ⟨v8, H8, I8, r8, y, e8, S8, ry, fy⟩ => ?_
          · obtain ⟨rfl, q8⟩ := q8
            cases d' with
            | v y => exact ⟨y, e8, S8, r8, q8⟩
            | m _ => exact q8.elim
            | s _ => exact q8.elim
            | o _ => exact q8.elim
            | q _ => exact q8.elim
          · obtain ⟨us, hacc, rus⟩ := S8.mu s2.heap.objs.size _ bI
            have hle : ((xs.take i).filterMap f).length ≤ 1000 := Nat.le_trans (List.length_filterMap_le _ _) (Nat.le_trans (by rw [List.length_take]; exact Nat.min_le_right _ _) hxs)
            refine thn (rH (X := aN X N' scope cl fp s3 H3) _ s8 σ6 H8 (.ref s2.heap.objs.size) [v8] (.ref s2.heap.objs.size) [v] (fun _ H' => H' = upd H8 s2.heap.objs.size (.lst (us ++ [v8]))) I8 rfl (.cons r8 .nil) ⟨_, us, v8, rfl, rfl, hacc, by rw [← rus.length]; exact eL hle, rfl⟩) fun _ s9 ⟨_, H9, I9, _, e9⟩ => ?_
            subst e9
            have et : (xs.take (i + 1)).filterMap f = (xs.take i).filterMap f ++ [y] := by rw [xI hd, fy]; rfl
            have mset : aI (aI μ1 s2.heap.objs.size ((xs.take i).filterMap f)) s2.heap.objs.size ((xs.take (i + 1)).filterMap f) = aI μ1 s2.heap.objs.size ((xs.take (i + 1)).filterMap f) := rh
            have ex : Ext X.K (aI μ1 s2.heap.objs.size ((xs.take i).filterMap f)) H8 (aI μ1 s2.heap.objs.size ((xs.take (i + 1)).filterMap f)) (upd H8 s2.heap.objs.size (.lst (us ++ [v8]))) := by
              rw [← mset]
              exact rq bI
            refine again I9 ?_ ((S8.rho.le le6).ext S8.mu ex) (Ec.trans (e5.trans (e6.trans (e7.trans (e8.trans ex)))))
            rw [← mset]
            refine S8.mu.set bI ?_
            rw [et]
            exact rus.append (.cons ry .nil)
      · have ei : i = xs.length := by omega
        subst ei
        refine thn (T.done (aN X N' scope cl fp s3 H3) rfl rfl rfl (fun z => z) _ [] s' σc Hc (fun _ _ => False) Ic (stat frc) tc (stop rfl)) fun r s4 ⟨hr, I5⟩ => ?_
        subst hr
        rw [List.take_length] at Sc Ec
        obtain ⟨m, hn, _⟩ := I5.loc
        refine ⟨m, (by have z : s4.heap.Ns s3.heap.objs.size m := hn; rw [heap3] at z; exact z), fun h' hs' => ?_⟩
        have kp : ∀ b o, b < s2.heap.objs.size → s4.heap.get? b = some o → h'.get? b = some o := fun b o hb e => hs'.extBut b o (by rw [hsz3]; exact Nat.ne_of_lt (Nat.lt_succ_of_lt hb)) e
        have hcC : Hc hp3.objs.size = none := by have z : Hc s3.heap.objs.size = none := I5.free; rw [heap3] at z; exact z
        have hok' : HOk X.prog X.w Hc h' := fun b ob e => by
          refine (I5.hok b ob e).xl (fun cc v hcc q => hs'.extBut cc v ?_ q) (fun _ q => q) fun _ _ q => q
          rintro rfl
          rcases hcc with z | z
          · rw [← z, hcC] at e; cases e
          · rw [hcC] at z; cases z
        have u1 : Un (frs X.stack) fp H2 H3 s2.heap s3.heap := by rw [heap3, hH3]; exact Un.laid old3 (Nat.le_refl _) hfree2
        have u2 : Un (frs X.stack) fp H3 Hc s3.heap s4.heap := I5.base
        have If : Inv X pins σ Hc { s4 with heap := h' } := I2.x5 (ch := fp) (by show s4.os = s2.os; have z : s4.os = s3.os := I5.os; rw [z, hs3]) (Un.after (u1.trans u2) kp) hok' I5.bare fun b hb => ⟨(f2 b hb).2.2.2.1, (f2 b hb).2.1, (f2 b hb).2.2.2.2.1, (f2 b hb).2.2.2.2.2⟩
        obtain ⟨us, hacc, rus⟩ := Sc.mu s2.heap.objs.size _ bI
        have shr : ∀ a, aI μ1 s2.heap.objs.size (xs.filterMap f) a = none → μ1 a = none := fun a e => by
          by_cases ha : a = s2.heap.objs.size
          · rw [ha]; exact hμ1
          · rw [dy ha] at e; exact e
        have eF : Ext X.K μ1 H2 μ1 Hc := ⟨Ec.keep, Ec.tb, fun _ ds q => ⟨ds, q⟩, fun _ q _ => q⟩
        have mF : bY X.K μ1 Hc := ⟨fun a ds q => by
          obtain ⟨ys, z1, z2⟩ := Sc.mu a ds (sub1 _ a ds q)
          exact ⟨ys, z1, z2.shrink shr⟩, Sc.mu.tab⟩
        exact ⟨.ref s2.heap.objs.size, Hc, If, rfl, k (.v (.list (xs.filterMap f))) _ μ1 Hc (e1.trans eF) ⟨mF, S1.rho.ext S1.mu eF⟩ (Rp.list hacc hμ1 (rus.shrink shr)) fin⟩
    · have z : b ≠ s2.heap.objs.size := Nat.ne_of_lt (fplt b hb)
      rw [hH3, bD z]
      exact (f2 b hb).1
    · have ex := ml (o := .lst []) (ds := []) S1.mu hfree2 hK2
      rw [hH3]
      exact ⟨S1.mu.mut .nil hfree2 hK2, (S1.rho.ext S1.mu ex).cap⟩
    · rw [hH3]
      exact ml (o := .lst []) (ds := []) S1.mu hfree2 hK2
  have envE : (aN X N' scope cl fp s3 H3).env = compEnvC scope cl hp3.objs.size X.env := by show compEnvC scope cl s3.heap.objs.size X.env = _; rw [heap3]
  rw [envE] at loop
  exact codeAny_compStart_list loop (T.self X.A 0 _ _ _ (T.keep 0 _ _ st2 (fun b hb o e => kept3 b o (old3 b o e))) loop)
open PySem PySem.Spec PyProof.Rows
section
variable {X : Cx} {a b c : Expr} {ta tb tc : DTE} {pos : Pos}
def ON (r r' : D → D → Mu → DK → Prop) (ta tb tc : DTE) : DTE := fun ρ μ Q => ta ρ μ fun x μ1 => tb ρ μ1 fun y μ2 => r x y μ2 fun z μ3 => match z with
  | .v (.bool k) => if k = true then tc ρ μ3 fun w μ4 => r' y w μ4 Q else Q (.v (.bool false)) μ3
  | _ => False
end
open PySem PySem.Spec PyProof.Rows
theorem Ek {α : Type} {x : α} {xs : List α} : atI (x :: xs) 0 = some x := by unfold atI ixN; simp
theorem EA {α : Type} {x y : α} {xs : List α} : atI (x :: y :: xs) 1 = some y := by
  have h := mm (xs := x :: y :: xs) (j := 1) (v := y) rfl
  exact h
theorem Hx {α : Type} {x y z : α} {xs : List α} : atI (x :: y :: z :: xs) 2 = some z := by
  have h := mm (xs := x :: y :: z :: xs) (j := 2) (v := z) rfl
  exact h
theorem K7 {α : Type} {x y z u : α} {xs : List α} : atI (x :: y :: z :: u :: xs) 3 = some u := by
  have h := mm (xs := x :: y :: z :: u :: xs) (j := 3) (v := u) rfl
  exact h
def lK : D → D → Mu → DK → Prop := fun x y μ Q => match x, y with
  | .v (.int i), .v (.int j) => Q (.v (.int (i + j))) μ
  | .v (.tuple xs), .v (.tuple ys) => xs.length + ys.length ≤ 1000 ∧ Q (.v (.tuple (xs ++ ys))) μ
  | _, _ => CZ x y μ Q
theorem OpR.or {X : Cx} {f} {r1 r2 : R2} (h1 : OpR X f r1) (h2 : OpR X f r2) : OpR X f (fun x y H Q => r1 x y H Q ∨ r2 x y H Q) := by
  intro pins s σ H x y v u Q I rx ry h
  rcases h with h | h
  · exact h1 pins s σ H x y v u Q I rx ry h
  · exact h2 pins s σ H x y v u Q I rx ry h
theorem OO {K : PySem.W.Frag} : l5 K (fun x y H Q => (rI0 fun i j => .int (i + j)) x y H Q ∨ ((Gd K) x y H Q ∨ Pc x y H Q)) lK := by
  intro x y ux uy H μ Qd Q ok rx ry h k
  unfold lK at h
  split at h
  · exact .inl (GR (K := K) (gd := fun i j => .int (i + j)) (fun _ _ _ _ => .int _) _ _ ux uy H μ Qd Q ok rx ry h k)
  · exact .inr (.inl (L6 _ _ ux uy H μ Qd Q ok rx ry h k))
  · exact .inr (.inr (Pw _ _ ux uy H μ Qd Q ok rx ry h k))
theorem mh {X : Cx} {a b : Expr} {ta tb : DTE} {pos : Pos} (ha : DE X a ta) (hb : DE X b tb) : DE X (.BinOp a .Add b pos) (dOp lK ta tb) := yF (KY.or (Ki.or OK)) OO ha hb
section
variable {ρ : Rho} {μ : Mu} {Q : DK} {QT : Bool → Mu → Prop} {QA : List D → Mu → Prop} {QG : Rho → Mu → Prop} {QI : List PyData → Mu → Prop} {QO : Option Int → Mu → Prop} {Dd : JK} {ta tb tc : DTE} {t u : DTT} {tA : DTA} {s1 s2 : DTS} {i j : Int} {x y : PyData} {xs ys : List PyData} {d e : D}
def vH : DTS := fun _ _ _ => False
theorem uN {X : Cx} {st : Stmt} : DS X st vH := ⟨fun _ _ _ => False, fun _ _ _ _ _ _ h => h.elim, fun _ _ _ _ _ _ _ h => h.elim⟩
theorem Lu {o : Rho} : af 0 (some d :: o) μ Q = Q d μ := propext Iff.rfl
theorem JX {a} {o : Rho} : af 1 (a :: some d :: o) μ Q = Q d μ := propext Iff.rfl
theorem Kz {a b} {o : Rho} : af 2 (a :: b :: some d :: o) μ Q = Q d μ := propext Iff.rfl
theorem A3 {a b c} {o : Rho} : af 3 (a :: b :: c :: some d :: o) μ Q = Q d μ := propext Iff.rfl
theorem LI {a b c f} {o : Rho} : af 4 (a :: b :: c :: f :: some d :: o) μ Q = Q d μ := propext Iff.rfl
theorem J3 {a b c f g} {o : Rho} : af 5 (a :: b :: c :: f :: g :: some d :: o) μ Q = Q d μ := propext Iff.rfl
theorem K9 {a b c f g h} {o : Rho} : af 6 (a :: b :: c :: f :: g :: h :: some d :: o) μ Q = Q d μ := propext Iff.rfl
theorem Ke {a b c f g h k} {o : Rho} : af 7 (a :: b :: c :: f :: g :: h :: k :: some d :: o) μ Q = Q d μ := propext Iff.rfl
theorem JU {a b c f g h k l} {o : Rho} : af 8 (a :: b :: c :: f :: g :: h :: k :: l :: some d :: o) μ Q = Q d μ := propext Iff.rfl
theorem J0 {a b c f g h k l m} {o : Rho} : af 9 (a :: b :: c :: f :: g :: h :: k :: l :: m :: some d :: o) μ Q = Q d μ := propext Iff.rfl
theorem HB {a b c f g h k l m n} {o : Rho} : af 10 (a :: b :: c :: f :: g :: h :: k :: l :: m :: n :: some d :: o) μ Q = Q d μ := propext Iff.rfl
theorem q_c : dC x ρ μ Q = Q (.v x) μ := propext Iff.rfl
theorem Mc {r} : dOp r ta tb ρ μ Q = ta ρ μ fun x μ1 => tb ρ μ1 fun y μ2 => r x y μ2 Q := propext Iff.rfl
theorem q_B : dB ta ρ μ QT = ta ρ μ fun d μ1 => match d with | .v (.bool k) => QT k μ1 | _ => False := propext Iff.rfl
theorem Qr {C : Int → Int → Prop} {g : Int → Int → PyData} : rII C g (.v (.int i)) (.v (.int j)) μ Q = (C i j ∧ Q (.v (g i j)) μ) := propext Iff.rfl
theorem NH {g : Int → Int → PyData} : zp g (.v (.int i)) (.v (.int j)) μ Q = Q (.v (g i j)) μ := propext Iff.rfl
theorem Np : vR ta ρ μ Q = ta ρ μ fun x μ1 => match x with | .v (.int i) => Q (.v (.int (-i))) μ1 | _ => False := propext Iff.rfl
theorem CH : wU t u ρ μ QT = t ρ μ fun c μ1 => if c = true then u ρ μ1 QT else QT false μ1 := propext Iff.rfl
theorem NS : EN t u ρ μ QT = t ρ μ fun c μ1 => if c = true then QT true μ1 else u ρ μ1 QT := propext Iff.rfl
theorem LD : nH t ρ μ QT = t ρ μ fun c μ1 => QT (!c) μ1 := propext Iff.rfl
theorem KO : AK ta tb ρ μ Q = ta ρ μ fun x μ1 => match x with | .v (.bool c) => if c = true then tb ρ μ1 Q else Q (.v (.bool false)) μ1 | _ => False := propext Iff.rfl
theorem Nj : RK ta tb ρ μ Q = ta ρ μ fun x μ1 => match x with | .v (.bool c) => if c = true then Q (.v (.bool true)) μ1 else tb ρ μ1 Q | _ => False := propext Iff.rfl
theorem LO : Kg ta ρ μ Q = ta ρ μ fun x μ1 => match x with | .v (.bool c) => Q (.v (.bool (!c))) μ1 | _ => False := propext Iff.rfl
theorem Rk : dIf t ta tb ρ μ Q = t ρ μ fun c μ1 => if c = true then ta ρ μ1 Q else tb ρ μ1 Q := propext Iff.rfl
theorem yq : ak ρ μ QA = QA [] μ := propext Iff.rfl
theorem tX : ae ta tA ρ μ QA = ta ρ μ fun x μ1 => tA ρ μ1 fun xs μ2 => QA (x :: xs) μ2 := propext Iff.rfl
theorem Hg : bE tA ρ μ Q = tA ρ μ fun ds μ1 => match dS ds with | some xs => Q (.v (.tuple xs)) μ1 | none => False := propext Iff.rfl
theorem Hz : j4 tA ρ μ Q = tA ρ μ fun ds μ1 => match dS ds with | some xs => Q (.v (.list xs)) μ1 | none => False := propext Iff.rfl
theorem JC : Gs tA ρ μ Q = tA ρ μ fun ds μ1 => match dS ds with | some xs => ∀ p, μ1 p = none → Q (.m p) (aI μ1 p xs) | none => False := propext Iff.rfl
theorem G6 : dS [] = some [] := by rw [dS]
theorem Gw {r : List D} : dS (.v x :: r) = (dS r).map (x :: ·) := by rw [dS]
theorem HA {neg : Bool} : fe neg (.v x) (.v y) μ Q = (SeqAt.shaped x = true ∧ SeqAt.shaped y = true ∧ Q (.v (.bool (neg ^^ PyData.eqv x y))) μ) := propext Iff.rfl
theorem Hj {neg : Bool} : fe neg (.v (.int i)) (.v (.int j)) μ Q = Q (.v (.bool (neg ^^ decide (i = j)))) μ := by
  have e : PyData.eqv (.int i) (.int j) = decide (i = j) := by simp [PyData.eqv]; rfl
  rw [HA, e]
  exact propext ⟨fun h => h.2.2, fun h => ⟨rfl, rfl, h⟩⟩
theorem Ng {neg : Bool} : fe neg (.v (.tuple xs)) (.v (.tuple ys)) μ Q = (SeqAt.shaped (.tuple xs) = true ∧ SeqAt.shaped (.tuple ys) = true ∧ Q (.v (.bool (neg ^^ PyData.eqv (.tuple xs) (.tuple ys)))) μ) := propext Iff.rfl
theorem M8 {neg : Bool} : fe neg (.v (.list xs)) (.v (.list ys)) μ Q = (SeqAt.shaped (.list xs) = true ∧ SeqAt.shaped (.list ys) = true ∧ Q (.v (.bool (neg ^^ PyData.eqv (.list xs) (.list ys)))) μ) := propext Iff.rfl
theorem NG {neg a b : Bool} : fe neg (.v (.bool a)) (.v (.bool b)) μ Q = Q (.v (.bool (neg ^^ (a == b)))) μ := by
  have e : PyData.eqv (.bool a) (.bool b) = (a == b) := by cases a <;> cases b <;> simp [PyData.eqv] <;> rfl
  rw [HA, e]
  exact propext ⟨fun h => h.2.2, fun h => ⟨rfl, rfl, h⟩⟩
theorem NU {neg : Bool} : Ie neg (.v x) (.v (.list ys)) μ Q = (PyData.canLayAll0 ys = true ∧ x.canLay0 = true ∧ PyData.depth x ≤ 60 ∧ Q (.v (.bool (neg ^^ ys.any fun b => PyData.eqv b x))) μ) := propext Iff.rfl
theorem Ep : aB (.v (.list xs)) (.v (.int i)) μ Q = (match atI xs i with | some d => Q (.v d) μ | none => False) := propext Iff.rfl
theorem Aq : aB (.v (.tuple xs)) (.v (.int i)) μ Q = (match atI xs i with | some d => Q (.v d) μ | none => False) := propext Iff.rfl
theorem Nm {l : Addr} : aB (.m l) (.v (.int i)) μ Q = (match μ l with | some xs => (match atI xs i with | some d => Q (.v d) μ | none => False) | none => False) := propext Iff.rfl
theorem NR {ns : List Int} : aB (.s ns) (.v (.int i)) μ Q = (match atI ns i with | some d => Q (.v (.int d)) μ | none => False) := propext Iff.rfl
theorem Cs : aB (.v (.list (x :: xs))) (.v (.int 0)) μ Q = Q (.v x) μ := by rw [Ep, Ek]
theorem FK : aB (.v (.tuple (x :: xs))) (.v (.int 0)) μ Q = Q (.v x) μ := by rw [Aq, Ek]
theorem Lg {z} : aB (.v (.list (z :: x :: xs))) (.v (.int 1)) μ Q = Q (.v x) μ := by rw [Ep, EA]
theorem Gg {z} : aB (.v (.tuple (z :: x :: xs))) (.v (.int 1)) μ Q = Q (.v x) μ := by rw [Aq, EA]
theorem Kt {z w} : aB (.v (.list (z :: w :: x :: xs))) (.v (.int 2)) μ Q = Q (.v x) μ := by rw [Ep, Hx]
theorem E1 {z w} : aB (.v (.tuple (z :: w :: x :: xs))) (.v (.int 2)) μ Q = Q (.v x) μ := by rw [Aq, Hx]
theorem Lp {z w v} : aB (.v (.tuple (z :: w :: v :: x :: xs))) (.v (.int 3)) μ Q = Q (.v x) μ := by rw [Aq, K7]
theorem Nv : CZ d e μ Q = (match w8 μ d, w8 μ e with | some xs, some ys => xs.length + ys.length ≤ 1000 ∧ Q (.v (.list (xs ++ ys))) μ | _, _ => False) := propext Iff.rfl
theorem K0 : FX (.v (.tuple xs)) (.v (.tuple ys)) μ Q = (xs.length + ys.length ≤ 1000 ∧ Q (.v (.tuple (xs ++ ys))) μ) := propext Iff.rfl
theorem LG : lK (.v (.int i)) (.v (.int j)) μ Q = Q (.v (.int (i + j))) μ := propext Iff.rfl
theorem LF : lK (.v (.tuple xs)) (.v (.tuple ys)) μ Q = (xs.length + ys.length ≤ 1000 ∧ Q (.v (.tuple (xs ++ ys))) μ) := propext Iff.rfl
theorem KL : lK (.v (.list xs)) (.v (.list ys)) μ Q = (xs.length + ys.length ≤ 1000 ∧ Q (.v (.list (xs ++ ys))) μ) := propext Iff.rfl
theorem Jc {a : Addr} : lK (.m a) e μ Q = CZ (.m a) e μ Q := propext Iff.rfl
theorem Ri {tl th : DTO} : dSl ta tl th ρ μ Q = ta ρ μ fun x μ1 => tl ρ μ1 fun l μ2 => th ρ μ2 fun u μ3 => Kv x l u μ3 Q := propext Iff.rfl
theorem Ei : rG ρ μ QO = QO none μ := propext Iff.rfl
theorem J1 : AE ta ρ μ QO = ta ρ μ fun x μ1 => match x with | .v (.int i) => QO (some i) μ1 | _ => False := propext Iff.rfl
theorem NB {lo hi : Option Int} : Kv (.v (.tuple xs)) lo hi μ Q = Q (.v (.tuple (oS xs lo hi))) μ := propext Iff.rfl
theorem NW {lo hi : Option Int} : Kv (.v (.list xs)) lo hi μ Q = Q (.v (.list (oS xs lo hi))) μ := propext Iff.rfl
theorem Nh : Rz ta ρ μ Q = ta ρ μ fun x μ1 => match x with | .v (.tuple xs) => Q (.v (.tuple xs.reverse)) μ1 | .v (.list xs) => Q (.v (.list xs.reverse)) μ1 | .m l => (match μ1 l with | some xs => Q (.v (.list xs.reverse)) μ1 | none => False) | _ => False := propext Iff.rfl
theorem MQ {rd} : dCB rd tA ρ μ Q = tA ρ μ fun ds μ1 => rd ds μ1 Q := propext Iff.rfl
theorem Cp : iC [.v (.list ys)] μ Q = Q (.v (.int (ys.length : Nat))) μ := propext Iff.rfl
theorem Ku : iC [.v (.tuple ys)] μ Q = Q (.v (.int (ys.length : Nat))) μ := propext Iff.rfl
theorem JT {ns : List Int} : iC [.s ns] μ Q = Q (.v (.int (ns.length : Nat))) μ := propext Iff.rfl
theorem JV {l : Addr} : iC [.m l] μ Q = (match μ l with | some ys => Q (.v (.int (ys.length : Nat))) μ | none => False) := propext Iff.rfl
theorem NN : p6 [.v (.int i)] μ Q = Q (.v (.int (i.natAbs : Nat))) μ := propext Iff.rfl
theorem Qy {g : Int → Int → Int} : FG g [.v (.int i), .v (.int j)] μ Q = Q (.v (.int (g i j))) μ := propext Iff.rfl
theorem JE {k : Bool} : ql [.v (.bool k)] μ Q = Q (.v (.int (if k then 1 else 0))) μ := propext Iff.rfl
theorem Lr : ql [.v (.int i)] μ Q = Q (.v (.int i)) μ := propext Iff.rfl
theorem HI : p4 [.v (.list ys)] μ Q = Q (.v (.list ys)) μ := propext Iff.rfl
theorem Hh : p4 [.v (.tuple ys)] μ Q = Q (.v (.list ys)) μ := propext Iff.rfl
theorem KP : yf [.v (.list ys)] μ Q = (match dW ys with | some bs => Q (.v (.bool (bs.all id))) μ | none => False) := propext Iff.rfl
theorem NJ {T : String} : H0 T ta ρ μ Q = ta ρ μ fun x μ1 => match x with | .v d => Q (.v (.bool (isT T d))) μ1 | _ => False := propext Iff.rfl
theorem M9 {a b : Bool} : QD (.v (.bool a)) (.v (.bool b)) μ Q = Q (.v (.bool (a == b))) μ := propext Iff.rfl
theorem Nd : QD (.v .none) (.v .none) μ Q = Q (.v (.bool true)) μ := propext Iff.rfl
theorem rD {n : Nat} : av n d ρ μ QG = QG (ρ.set n (some d)) μ := propext Iff.rfl
theorem Jr : pJ [] ρ μ QG = QG ρ μ := propext Iff.rfl
theorem Ho {g : DTG} {gs : zz} : cV g gs (x :: xs) ρ μ QG = g (.v x) ρ μ fun ρ1 μ1 => gs xs ρ1 μ1 QG := propext Iff.rfl
theorem Jq {n : Nat} {gs : zz} : mW n gs (.v (.tuple xs)) ρ μ QG = (xs.length = n ∧ gs xs ρ μ QG) := propext Iff.rfl
theorem J5 : Hr ta tb d ρ μ QG = ta ρ μ fun o μ1 => tb ρ μ1 fun i μ2 => match o, i, d with
  | .m l, .v (.int k), .v x => (match μ2 l with
    | some xs => (match ixN xs.length k with
      | some j => QG ρ (aI μ2 l (xs.set j x))
      | none => False)
    | none => False)
  | _, _, _ => False := propext Iff.rfl
theorem Hb {g : DTG} : bA ta g Dd ρ μ = ta ρ μ fun d μ1 => g d ρ μ1 Dd.nx := propext Iff.rfl
theorem ND {i j : Nat} : zC i j tA Dd ρ μ = tA ρ μ fun ds μ1 => match ds with | [v, w] => Dd.nx ((ρ.set i (some v)).set j (some w)) μ1 | _ => False := propext Iff.rfl
theorem K4 : cD Dd ρ μ = Dd.nx ρ μ := propext Iff.rfl
theorem yE : aL s1 s2 Dd ρ μ = s1 { Dd with nx := s2 Dd } ρ μ := propext Iff.rfl
theorem GC : bB ta Dd ρ μ = ta ρ μ Dd.rt := propext Iff.rfl
theorem KZ : sh ta Dd ρ μ = ta ρ μ fun _ μ1 => Dd.nx ρ μ1 := propext Iff.rfl
theorem GU : eu t s1 s2 Dd ρ μ = t ρ μ fun b μ1 => if b = true then s1 Dd ρ μ1 else s2 Dd ρ μ1 := propext Iff.rfl
theorem G7 : vH Dd ρ μ = False := propext Iff.rfl
theorem Kh {dsp : DSp} : ao dsp tA ρ μ Q = tA ρ μ fun ds μ1 => dsp ds μ1 Q := propext Iff.rfl
theorem M7 : LP ta tb ρ μ Q = ta ρ μ fun x μ1 => match x with
  | .m l => tb ρ μ1 fun y μ2 => (match y, μ2 l with
    | .v d, some xs => xs.length < 1000 ∧ Q (.v .none) (aI μ2 l (xs ++ [d]))
    | _, _ => False)
  | _ => False := propext Iff.rfl
theorem Nc : Rx ta tb ρ μ Q = ta ρ μ fun x μ1 => match x with
  | .m l => tb ρ μ1 fun y μ2 => (match y, μ2 l with
    | .v (.list ys), some xs => xs.length + ys.length ≤ 1000 ∧ Q (.v .none) (aI μ2 l (xs ++ ys))
    | _, _ => False)
  | _ => False := propext Iff.rfl
theorem Je : PX ta ρ μ Q = ta ρ μ fun x μ1 => match x with | .v (.int i) => Q (.v (.int (Builtin.Int.intBits i : Nat))) μ1 | _ => False := propext Iff.rfl
theorem Hm {r r'} : ON r r' ta tb tc ρ μ Q = ta ρ μ fun x μ1 => tb ρ μ1 fun y μ2 => r x y μ2 fun z μ3 => match z with
  | .v (.bool k) => if k = true then tc ρ μ3 fun w μ4 => r' y w μ4 Q else Q (.v (.bool false)) μ3
  | _ => False := propext Iff.rfl
theorem JH : DX ρ μ QT = QT true μ := propext Iff.rfl
theorem Es : yO ta ρ μ QI = ta ρ μ fun d μ1 => match d with | .v (.list xs) => QI xs μ1 | _ => False := propext Iff.rfl
theorem G8 : Dp ta ρ μ QI = ta ρ μ fun d μ1 => match d with | .v (.tuple xs) => QI xs μ1 | _ => False := propext Iff.rfl
theorem Ee : yz tA ρ μ QI = tA ρ μ fun ds μ1 => match ds with | [.v (.int j)] => (-(2 ^ 62) ≤ j ∧ j < 2 ^ 62) ∧ QI (qr 0 j.toNat) μ1 | _ => False := propext Iff.rfl
theorem D8 : yw tA ρ μ QI = tA ρ μ fun ds μ1 => match ds with | [.v (.int i), .v (.int j)] => (-(2 ^ 62) ≤ i ∧ i < 2 ^ 62 ∧ -(2 ^ 62) ≤ j ∧ j < 2 ^ 62) ∧ QI (qr i (j - i).toNat) μ1 | _ => False := propext Iff.rfl
theorem G2 {src : DTI} {g : DTG} : EU src g s1 Dd ρ μ = src ρ μ fun xs μ1 => ∃ Pv : Nat → Rho → Mu → Prop, Pv 0 ρ μ1 ∧
  (∀ i x ρ' μ', xs[i]? = some x → Pv i ρ' μ' → g (.v x) ρ' μ' fun ρ2 μ2 => s1 { Dd with nx := Pv (i + 1), ct := Pv (i + 1), bk := Dd.nx } ρ2 μ2) ∧ (∀ ρ' μ', Pv xs.length ρ' μ' → Dd.nx ρ' μ') := propext Iff.rfl
theorem K8 {cap : List (Option Nat)} {src : DTI} {g : DTG} : C9 cap src g t ta ρ μ Q = src ρ μ fun xs μ1 => xs.length ≤ 1000 ∧ ∃ f : PyData → Option PyData,
  (∀ x ∈ xs, ∀ μ' : Mu, (∀ a ds, μ1 a = some ds → μ' a = some ds) → g (.v x) (bO cap ρ) μ' fun ρ2 μ2 => Le (bO cap ρ) ρ2 ∧ t ρ2 μ2 fun b μ3 =>
    if b = true then ta ρ2 μ3 fun d μ4 => μ4 = μ' ∧ (match d with | .v y => f x = some y | _ => False) else μ3 = μ' ∧ f x = none) ∧ Q (.v (.list (xs.filterMap f))) μ1 := propext Iff.rfl
theorem JN {α : Type} {r : List (Option α)} : bO [] r = [] := rfl
theorem J7 {α : Type} {o : Option Nat} {c : List (Option Nat)} {r : List (Option α)} : bO (o :: c) r = (o.bind fun j => (r[j]?).join) :: bO c r := rfl
theorem Nr : Le [] [] = True := propext ⟨fun _ => trivial, fun h => h⟩
theorem Nq {r r' : Rho} {o : Option D} : Le (none :: r) (o :: r') = Le r r' := propext Iff.rfl
theorem Ni {r r' : Rho} {d d' : D} : Le (some d :: r) (some d' :: r') = (d = d' ∧ Le r r') := propext Iff.rfl
end
theorem JY {α β : Type} [BEq α] [LawfulBEq α] {x : α} {k : β} : ∀ {l : List (α × β)}, l.lookup x = some k → (x, k) ∈ l
  | [], h => by cases h
  | (y, j) :: r, h => by
    rw [List.lookup_cons] at h
    cases e : x == y with
    | true =>
      rw [e] at h
      simp only [Option.some.injEq] at h
      have : x = y := eq_of_beq e
      subst this h
      exact List.mem_cons_self
    | false =>
      rw [e] at h
      exact List.mem_cons_of_mem _ (JY h)
def cfK : NameKind → Bool
  | .cell => true
  | .free => true
  | _ => false
theorem iQ {names : List (Str × NameKind)} {cl : List (Str × Addr)} (h : (names.all fun y => !(cfK y.2) || (cl.lookup y.1).isSome) = true) (x : Str) (hx : names.lookup x = some .cell ∨ names.lookup x = some .free) : ∃ a, cl.lookup x = some a := by
  rw [List.all_eq_true] at h
  have key : ∀ k, cfK k = true → names.lookup x = some k → ∃ a, cl.lookup x = some a := fun k hk e => by
    have q := h _ (JY e)
    simp only [hk, Bool.not_true, Bool.false_or] at q
    exact Option.isSome_iff_exists.mp q
  rcases hx with e | e
  · exact key _ rfl e
  · exact key _ rfl e
def KA (X : Cx) (sc : Scope) : List (Option Nat) → List Str → Prop
  | none :: c, _ :: n => KA X sc c n
  | some j :: c, x :: n => (X.N[j]? = some x ∧ Vis X.env.scope x ∧ X.env.kindOf x ≠ some .local ∧ ((relabel sc X.env).names.lookup x = some .cell ∨ (relabel sc X.env).names.lookup x = some .free)) ∧ KA X sc c n
  | _, _ => True
theorem n6 {X : Cx} {sc : Scope} : ∀ {c : List (Option Nat)} {n : List Str}, KA X sc c n → ∀ (i j : Nat) (x : Str), c[i]? = some (some j) → n[i]? = some x →
    X.N[j]? = some x ∧ Vis X.env.scope x ∧ X.env.kindOf x ≠ some .local ∧ ((relabel sc X.env).names.lookup x = some .cell ∨ (relabel sc X.env).names.lookup x = some .free)
  | [], _, _, i, j, x, h, _ => by simp at h
  | _ :: _, [], _, i, j, x, _, h => by simp at h
  | none :: c, y :: n, k, 0, j, x, h, _ => by simp at h
  | none :: c, y :: n, k, i + 1, j, x, h, g => n6 (c := c) (n := n) k i j x (by simpa using h) (by simpa using g)
  | some l :: c, y :: n, k, 0, j, x, h, g => by
    simp only [List.getElem?_cons_zero, Option.some.injEq] at h g
    subst h g
    exact k.1
  | some l :: c, y :: n, k, i + 1, j, x, h, g => n6 (c := c) (n := n) k.2 i j x (by simpa using h) (by simpa using g)
theorem Oq {X : Cx} {sc : Scope} {j : Nat} {x : Str} (h1 : X.N[j]? = some x := by rfl) (h2 : Vis X.env.scope x := by first | exact Or.inl rfl | exact Or.inr (Or.inl rfl) | exact Or.inr (Or.inr rfl)) (h3 : X.env.kindOf x ≠ some .local := by first | (intro z; cases z) | exact (fun z => nomatch z))
    (h4 : (relabel sc X.env).names.lookup x = some .cell ∨ (relabel sc X.env).names.lookup x = some .free := by first | exact Or.inl rfl | exact Or.inr rfl) : X.N[j]? = some x ∧ Vis X.env.scope x ∧ X.env.kindOf x ≠ some .local ∧ ((relabel sc X.env).names.lookup x = some .cell ∨ (relabel sc X.env).names.lookup x = some .free) := ⟨h1, h2, h3, h4⟩
open PySem PySem.Spec PyProof.Rows
def lu (μ : Mu) (p : Addr) : Mu := fun b => if b = p then none else μ b
def qS (cap : List (Option Nat)) (src : DTI) (g : DTG) (c : DTT) (elt : DTE) : DTE := fun ρ μ Q => src ρ μ fun xs μ1 => xs.length ≤ 1000 ∧ ∀ p, μ1 p = none → ∃ Pv : Nat → List PyData → Mu → Prop, Pv 0 [] (aI μ1 p []) ∧
  (∀ i x acc μ', xs[i]? = some x → μ' p = some acc → Pv i acc μ' → g (.v x) (bO cap ρ) μ' fun ρ2 μ2 => Le (bO cap ρ) ρ2 ∧ c ρ2 μ2 fun b μ3 =>
    if b = true then elt ρ2 μ3 fun d μ4 => μ4 p = some acc ∧ (match d with | .v y => Pv (i + 1) (acc ++ [y]) (aI μ4 p (acc ++ [y])) | _ => False) else μ3 p = some acc ∧ Pv (i + 1) acc μ3) ∧
  (∀ acc μ', Pv xs.length acc μ' → μ' p = some acc → Q (.v (.list acc)) (lu μ' p))
theorem ID {X : Cx} {pos2 : Pos} {use : Option (Value → Sem Unit)} {QQ : Value → Shared → Prop} {pins : List (Addr × Obj)} {s : Shared} {σ : St} {H : Hp} {ρ : Rho} {μ : Mu} {Qd : DK} {N' : List Str} {scope : Scope} {cl : List (Str × Addr)} {elt iter tg : Expr} {ifs : List Expr} {pos : Pos} {cap : List (Option Nat)} {src : DTI} {g : DTG} {c : DTT} {te : DTE} (hc : X.calm = X.calm)
    (hi : DI X tg iter src) (hg : ∀ fp s₃ H₃, DG (aN X N' scope cl fp s₃ H₃) tg g) (hif : ∀ fp s₃ H₃, Kd (aN X N' scope cl fp s₃ H₃) ifs c) (he : ∀ fp s₃ H₃, DE (aN X N' scope cl fp s₃ H₃) elt te)
    (hclos : closureFor scope X.env = pure cl) (hcell : ∀ y ∈ scope.names, y.2 ≠ .cell) (hkind : scope.kind = .function) (hnames : ∀ y ∈ scope.names, y.2 = .local → scope.names.lookup y.1 = some .local)
    (hcl : ∀ x a, cl.lookup x = some a → X.env.cells.lookup x = some a) (hhas : ∀ x, (relabel scope X.env).names.lookup x = some .cell ∨ (relabel scope X.env).names.lookup x = some .free → ∃ a, cl.lookup x = some a)
    (hlen : cap.length = N'.length) (hcap : ∀ (i j : Nat) (x : Str), cap[i]? = some (some j) → N'[i]? = some x → X.N[j]? = some x ∧ Vis X.env.scope x ∧ X.env.kindOf x ≠ some .local ∧ ((relabel scope X.env).names.lookup x = some .cell ∨ (relabel scope X.env).names.lookup x = some .free))
    (hs : ∀ x, foldedSetIterable iter X.env x = pure x )
    (I : Inv X pins σ H s) (S : St0 X.K H ρ μ σ) (h : qS cap src g c te ρ μ Qd)
    (hend : ∀ (s4 : Shared) (Hc : Hp) (C pa : Addr) (m : Str → Option Value) (acc : List PyData) (μF : Mu), s4.heap.Ns C m → Ac X pins Hc C → (∀ h', Heap.SameBut C s4.heap h' → Inv X pins σ Hc { s4 with heap := h' }) →
      Ext X.K μ H μF Hc → St0 X.K Hc ρ μF σ → Rp X.K μF Hc (.list acc) (.ref pa) → Qd (.v (.list acc)) μF → compPost (model X.prog X.w) X.A X.xe use QQ (.ref pa) C (.ok .next) s4) :
    wpAny (model X.prog X.w) X.A (comprehension (.ListComp elt [⟨tg, iter, ifs, 0⟩] scope pos) scope X.env pos2 (newList []) false (eval iter X.env) use) QQ X.xe s := by
  obtain ⟨wi, pw, li⟩ := hi
  refine wpAny_comprehension_free rfl hs hclos hkind hnames (thn (pw pins s σ H _ I (li σ H ρ μ _ (fun J H1 => ∃ xs μ1, Ext X.K μ H μ1 H1 ∧ St0 X.K H1 ρ μ1 σ ∧ MC X.K J xs μ1 H1 ∧ xs.length ≤ 1000 ∧ ∀ p, μ1 p = none → ∃ Pv : Nat → List PyData → Mu → Prop, Pv 0 [] (aI μ1 p []) ∧
      (∀ i x acc μ', xs[i]? = some x → μ' p = some acc → Pv i acc μ' → g (.v x) (bO cap ρ) μ' fun ρ2 μ2 => Le (bO cap ρ) ρ2 ∧ c ρ2 μ2 fun b μ3 =>
        if b = true then te ρ2 μ3 fun d μ4 => μ4 p = some acc ∧ (match d with | .v y => Pv (i + 1) (acc ++ [y]) (aI μ4 p (acc ++ [y])) | _ => False) else μ3 p = some acc ∧ Pv (i + 1) acc μ3) ∧
      (∀ acc μ', Pv xs.length acc μ' → μ' p = some acc → Qd (.v (.list acc)) (lu μ' p))) S h (fun xs μ1 H1 J e1 S1 it q => ⟨xs, μ1, e1, S1, it, q⟩)))
    fun v s1 h1 => thn h1 fun itv s2 h2 => ?_)
  obtain ⟨it, fp, tn, J, H2, rfl, I2, T, st2, f2, xs, μ1, e1, S1, itok, hxs, allp⟩ := h2
  refine wpAny_newObj_type (wpAny_newFunctionEnv hcell (by intro y hy; simp at hy) (fun h₁ hns₁ hsb₁ => ?_) hkind)
  dsimp only at hns₁ hsb₁ ⊢
  have hfree2 : H2 s2.heap.objs.size = none := I2.hok.fresh (Nat.le_refl _)
  have hK2 : X.K.lookup s2.heap.objs.size = none := by
    cases z : X.K.lookup s2.heap.objs.size with
    | none => rfl
    | some o => exact absurd (Heap.lt_size (I2.kIn _ _ z)) (Nat.lt_irrefl _)
  have I3 : Inv X pins σ (upd H2 s2.heap.objs.size (.lst [])) { s2 with heap := s2.heap.push { cls := .type "list", dict := none, data := .seq ([] : List Value).toArray } } :=
    I2.laid (t' := s2.toks) (fun b u e => Heap.get?_push_of_some _ e) (Nat.le_refl _) ⟨Nat.zero_le _, [], 0, .nil, Heap.get?_push_size _ rfl⟩
  generalize hH : s2.heap.push { cls := .type "list", dict := none, data := .seq ([] : List Value).toArray } = hp3 at hns₁ hsb₁ I3 ⊢
  have hsz3 : hp3.objs.size = s2.heap.objs.size + 1 := by rw [← hH, Heap.size_push]
  have kept3 : ∀ b o, hp3.get? b = some o → h₁.get? b = some o := fun b o e => hsb₁.extBut b o (Nat.ne_of_lt (Heap.lt_size e)) (Heap.get?_push_of_some _ e)
  have old3 : ∀ b o, s2.heap.get? b = some o → hp3.get? b = some o := fun b o e => by rw [← hH]; exact Heap.get?_push_of_some _ e
  have fplt : ∀ b ∈ fp, b < s2.heap.objs.size := fun b hb => by obtain ⟨o, e, _⟩ := T.obj 0 _ st2 b hb; exact Heap.lt_size e
  have fpst : ∀ b ∈ fp, b ∉ frs X.stack := fun b hb hz => by
    rcases List.mem_cons.mp (I2.qQ b hz) with e | e
    · exact (f2 b hb).2.1 e
    · exact (f2 b hb).2.2.1 e
  obtain ⟨s3, hs3⟩ : ∃ s3 : Shared, s3 = { s2 with heap := hp3 } := ⟨_, rfl⟩
  obtain ⟨H3, hH3⟩ : ∃ H3 : Hp, H3 = upd H2 s2.heap.objs.size (.lst []) := ⟨_, rfl⟩
  have heap3 : s3.heap = hp3 := by rw [hs3]
  rw [← hH3] at I3
  have I3' : Inv X pins σ H3 s3 := by rw [hs3]; exact I3
  have hloc : H3 hp3.objs.size = none := by have := I3'.hok.fresh (a := hp3.objs.size) (by rw [heap3]; exact Nat.le_refl _); exact this
  have okc : (aN X N' scope cl fp s3 H3).Ok := by
    refine ⟨I3.ok.mod, ?_, I3.ok.glob, I3.ok.blt, Nat.le_refl _, fun x y a h1 h2 => I3.ok.inj x y a (hcl x a h1) (hcl y a h2), fun x hx => hhas x hx, fun x a h => (nomatch h), I3.ok.hd, I3.ok.qt, I3.ok.frames, .inl rfl, fun b hb => ⟨?_, fun x a h => (f2 b hb).2.2.2.2.1 x a (hcl x a h)⟩,
      I3'.bs, Nat.le_trans I3.ok.bsz I3'.sz, fun b o e hb => ?_, fun b hb => fpst b hb, I3'.stack, I3'.uo⟩
    · exact hkind
    · show b ≠ s3.heap.objs.size
      rw [heap3, hsz3]
      exact Nat.ne_of_lt (Nat.lt_succ_of_lt (fplt b hb))
    · rcases (f2 b hb).2.2.2.1 with z | z
      · exact I3.ok.Dz b o e z
      · exact absurd (Nat.lt_of_lt_of_le (Heap.lt_size (I3.ok.bs b o e).1) z) (Nat.lt_irrefl _)
  have I4 : Inv (aN X N' scope cl fp s3 H3) [] (bO cap σ) H3 { s2 with heap := h₁, toks := s2.toks + ([] : List (Str × Value)).length } := by
    refine ⟨okc, by show s2.os = s3.os; rw [hs3], I3.bare, Un.kept (by show ∀ b o, s3.heap.get? b = some o → _; rw [heap3]; exact kept3), ⟨_, (by show h₁.Ns s3.heap.objs.size _; rw [heap3]; exact hns₁), fun i x v e1 e2 e3 => ?_⟩, fun x a h => ?_, (by show H3 s3.heap.objs.size = none; rw [heap3]; exact hloc), fun x a h => I3.ik x a (hcl x a h), fun p hp => ?_, I3.hok.kept kept3, ?_⟩
    · obtain ⟨j, h1, h2⟩ := nS e2
      obtain ⟨hN, hv, hnl, hk⟩ := hcap i j x h1 e1
      obtain ⟨m, _, hl⟩ := I3.loc
      obtain ⟨u, r, lk⟩ := hl j x v hN h2 hv
      refine ⟨u, r, .inr ⟨hk, ?_⟩⟩
      obtain ⟨a, ha⟩ := hhas x hk
      rcases lk with ⟨z, _⟩ | ⟨_, a', z1, z2⟩
      · exact absurd z hnl
      · have : a' = a := by have q := hcl x a ha; rw [z1] at q; exact Option.some.inj q
        subst this
        obtain ⟨o, ho, hd⟩ := z2
        exact ⟨a', ha, o, kept3 _ _ ho, hd⟩
    · obtain ⟨v, o, ho, hd⟩ := I3.cell x a (hcl x a h)
      exact ⟨v, o, kept3 _ _ ho, hd⟩
    · have hp' : p ∈ X.pn ++ pins := List.mem_append_left _ (by simpa using (show p ∈ X.pn ++ [] from hp))
      obtain ⟨z1, z2, z3, z4, z5⟩ := I3'.pin p hp'
      refine ⟨kept3 _ _ (by rw [← heap3]; exact z1), z2, (show p.1 ≠ s3.heap.objs.size from Nat.ne_of_lt (Heap.lt_size z1)), fun z => ?_, z5⟩
      rcases List.mem_cons.mp (I3'.qQ p.1 z) with e | e
      · exact z3 e
      · exact z4 e
    · show (bO cap σ).length = N'.length
      unfold bO
      rw [List.length_map]
      exact hlen
  have hμ1 : μ1 s2.heap.objs.size = none := S1.mu.free hfree2
  obtain ⟨Pv, pv0, body, fin⟩ := allp s2.heap.objs.size hμ1
  have loop : codeAny (model X.prog X.w) X.A (.compLoop (.ListComp elt [⟨tg, iter, ifs, 0⟩] scope pos) 0 (.ref it) (.ref s2.heap.objs.size) (aN X N' scope cl fp s3 H3).env)
      (compPost (model X.prog X.w) X.A X.xe use QQ (.ref s2.heap.objs.size) hp3.objs.size) { s2 with heap := h₁, toks := s2.toks + ([] : List (Str × Value)).length } := by
    refine ij (fun n s' => ∃ (i : Nat) (σc : St) (Hc : Hp) (acc : List PyData) (μc : Mu), n = xs.length - i ∧ i ≤ xs.length ∧ Inv (aN X N' scope cl fp s3 H3) [] σc Hc s' ∧ tn i s'.heap ∧ (∀ b ∈ fp, Hc b = none) ∧
      acc.length ≤ i ∧ μc s2.heap.objs.size = some acc ∧ Pv i acc μc ∧ St0 X.K Hc (bO cap ρ) μc σc ∧ Ext X.K μ1 H2 μc Hc) ?_ xs.length
      ⟨0, bO cap σ, H3, [], aI μ1 s2.heap.objs.size [], by simp, Nat.zero_le _, I4, T.keep 0 _ _ st2 (fun b hb o e => kept3 b o (old3 b o e)), fun b hb => ?_, Nat.le_refl _, bI, pv0, ?_, ?_⟩
    · rintro n s' ⟨i, σc, Hc, acc, μc, rfl, hi, Ic, tc, frc, hal, hpa, pvi, Sc, Ec⟩
      have stat : ∀ {Hd : Hp}, (∀ b ∈ fp, Hd b = none) → ∀ b ∈ fp, Ac (aN X N' scope cl fp s3 H3) [] Hd b := fun hn b hb =>
        ⟨hn b hb, (okc.exf b hb).1, fpst b hb, .inl hb, fun x a h => (okc.exf b hb).2 x a h, fun p hp => (f2 b hb).2.2.2.2.2 p (List.mem_append_left _ (by simpa using (show p ∈ X.pn ++ [] from hp)))⟩
      obtain ⟨go, stop⟩ := itok _ Hc Ec Sc.mu i
      by_cases hlt : i < xs.length
      · obtain ⟨g1, y1⟩ := go hlt
        refine thn (T.item (aN X N' scope cl fp s3 H3) rfl rfl rfl (fun z => z) i [] s' σc Hc (fun _ _ => False) Ic (stat frc) tc g1) fun r s4 ⟨u, hr, h4⟩ => ?_
        subst hr
        refine thn h4 fun _ s5 ⟨x, H5, I5, r5, y5, st5, fr5⟩ => ?_
        obtain ⟨d, hd, sm, rd⟩ := y1 x H5 y5
        have I5' := I5.pinned (stat fr5) (T.obj _ _ st5)
        have e5 : Ext X.K _ Hc _ H5 := .of_same (μ := μc) sm
        have S5 : St0 X.K H5 (bO cap ρ) μc σc := ⟨Sc.mu.Ld e5 sm, Sc.rho.ext Sc.mu e5⟩
        obtain ⟨gt, pg, lg⟩ := hg fp s3 H3
        refine thn (pg _ s5 σc H5 x u (fun σ' H' => ∃ ρ' μ', Ext X.K μc H5 μ' H' ∧ St0 X.K H' ρ' μ' σ' ∧ Le (bO cap ρ) ρ' ∧ c ρ' μ' fun b μ3 =>
            if b = true then te ρ' μ3 fun d' μ4 => μ4 s2.heap.objs.size = some acc ∧ (match d' with | .v y => Pv (i + 1) (acc ++ [y]) (aI μ4 s2.heap.objs.size (acc ++ [y])) | _ => False) else μ3 s2.heap.objs.size = some acc ∧ Pv (i + 1) acc μ3) I5' r5
          (lg σc H5 (bO cap ρ) _ (.v d) x _ _ S5 rd (body i d acc μc hd hpa pvi) fun σ' ρ' μ' H' e' S' q => ⟨ρ', μ', e', S', q⟩)) fun _ s6 ⟨σ6, H6, I6, ρ6, μ6, e6, S6, le6, q6⟩ => ?_
        refine thn (hif fp s3 H3 _ s6 σ6 H6 ρ6 μ6 _ (fun b H' => ∃ μ', Ext X.K μ6 H6 μ' H' ∧ St0 X.K H' ρ6 μ' σ6 ∧ if b = true then te ρ6 μ' fun d' μ4 => μ4 s2.heap.objs.size = some acc ∧ (match d' with | .v y => Pv (i + 1) (acc ++ [y]) (aI μ4 s2.heap.objs.size (acc ++ [y])) | _ => False) else μ' s2.heap.objs.size = some acc ∧ Pv (i + 1) acc μ')
          I6 S6 q6 fun b μ' H' e' S' q => ⟨μ', e', S', q⟩) fun b s7 ⟨H7, I7, μ7, e7, S7, q7⟩ => ?_
        have again : ∀ {H9 : Hp} {s9 : Shared} {acc' : List PyData} {μ9 : Mu}, Inv (aN X N' scope cl fp s3 H3) ([] ++ sL fp s5.heap) σ6 H9 s9 → acc'.length ≤ i + 1 → μ9 s2.heap.objs.size = some acc' → Pv (i + 1) acc' μ9 → bY X.K μ9 H9 → el X.K μ9 H9 (bO cap ρ) σ6 →
            Ext X.K μ1 H2 μ9 H9 → ∃ m, m < xs.length - i ∧ ∃ (i : Nat) (σc : St) (Hc : Hp) (acc : List PyData) (μc : Mu), m = xs.length - i ∧ i ≤ xs.length ∧ Inv (aN X N' scope cl fp s3 H3) [] σc Hc s9 ∧ tn i s9.heap ∧ (∀ b ∈ fp, Hc b = none) ∧
              acc.length ≤ i ∧ μc s2.heap.objs.size = some acc ∧ Pv i acc μc ∧ St0 X.K Hc (bO cap ρ) μc σc ∧ Ext X.K μ1 H2 μc Hc := fun {H9 s9 acc' μ9} I9 l9 p9 v9 m9 r9 e9 => by
          refine ⟨xs.length - (i + 1), by omega, i + 1, σ6, H9, acc', μ9, rfl, hlt, I9.lA, T.keep _ _ _ st5 fun b hb o e => (I9.pin (b, o) (List.mem_append_right _ (List.mem_append_right _ (eI hb e)))).1, fun b hb => ?_, l9, p9, v9, ⟨m9, r9⟩, e9⟩
          obtain ⟨o, e, _⟩ := T.obj _ _ st5 b hb
          exact (I9.pin (b, o) (List.mem_append_right _ (List.mem_append_right _ (eI hb e)))).2.1
        cases b with
        | false =>
          have q8 : μ7 s2.heap.objs.size = some acc ∧ Pv (i + 1) acc μ7 := by simpa using q7
          refine By ?_
          exact again I7 (by omega) q8.1 q8.2 S7.mu (S7.rho.le le6) (Ec.trans (e5.trans (e6.trans e7)))
        | true =>
          refine zm ?_
          obtain ⟨t8, p8, l8⟩ := he fp s3 H3
          refine thn (p8 _ s7 σ6 H7 (fun v H' => ∃ y μ8, Ext X.K μ7 H7 μ8 H' ∧ St0 X.K H' ρ6 μ8 σ6 ∧ Rp X.K μ8 H' y v ∧ μ8 s2.heap.objs.size = some acc ∧ Pv (i + 1) (acc ++ [y]) (aI μ8 s2.heap.objs.size (acc ++ [y]))) I7
            (l8 σ6 H7 ρ6 μ7 _ _ S7 (by simpa using q7) fun d' v μ8 H8 e8 S8 r8 q8 => ?_)) fun v s8 ⟨v8, H8, I8, r8, y, μ8, e8, S8, ry, pa8, fy⟩ => ?_
          · obtain ⟨q80, q8⟩ := q8
            cases d' with
            | v y => exact ⟨y, μ8, e8, S8, r8, q80, q8⟩
            | m _ => exact q8.elim
            | s _ => exact q8.elim
            | o _ => exact q8.elim
            | q _ => exact q8.elim
          · obtain ⟨us, hacc, rus⟩ := S8.mu s2.heap.objs.size _ pa8
            have hle : acc.length ≤ 1000 := by omega
            refine thn (rH (X := aN X N' scope cl fp s3 H3) _ s8 σ6 H8 (.ref s2.heap.objs.size) [v8] (.ref s2.heap.objs.size) [v] (fun _ H' => H' = upd H8 s2.heap.objs.size (.lst (us ++ [v8]))) I8 rfl (.cons r8 .nil) ⟨_, us, v8, rfl, rfl, hacc, by rw [← rus.length]; exact eL hle, rfl⟩) fun _ s9 ⟨_, H9, I9, _, e9⟩ => ?_
            subst e9
            have ex : Ext X.K μ8 H8 (aI μ8 s2.heap.objs.size (acc ++ [y])) (upd H8 s2.heap.objs.size (.lst (us ++ [v8]))) := rq pa8
            exact again I9 (by rw [List.length_append, List.length_singleton]; omega) bI fy (S8.mu.set pa8 (rus.append (.cons ry .nil))) ((S8.rho.le le6).ext S8.mu ex) (Ec.trans (e5.trans (e6.trans (e7.trans (e8.trans ex)))))
      · have ei : i = xs.length := by omega
        subst ei
        refine thn (T.done (aN X N' scope cl fp s3 H3) rfl rfl rfl (fun z => z) _ [] s' σc Hc (fun _ _ => False) Ic (stat frc) tc (stop rfl)) fun r s4 ⟨hr, I5⟩ => ?_
        subst hr
        obtain ⟨m, hn, _⟩ := I5.loc
        have hcC : Hc hp3.objs.size = none := by have z : Hc s3.heap.objs.size = none := I5.free; rw [heap3] at z; exact z
        obtain ⟨us, hacc, rus⟩ := Sc.mu s2.heap.objs.size _ hpa
        have shr : ∀ a, μc a = none → lu μc s2.heap.objs.size a = none := fun a e => by
          unfold lu
          split
          · rfl
          · exact e
        have dne : ∀ a ds, lu μc s2.heap.objs.size a = some ds → μc a = some ds := fun a ds e => by
          unfold lu at e
          split at e
          · cases e
          · exact e
        have eF : Ext X.K μ1 H2 (lu μc s2.heap.objs.size) Hc := by
          refine ⟨Ec.keep, Ec.tb, fun b ds q => ?_, fun b q z => shr b (Ec.fresh b q z)⟩
          obtain ⟨es, q2⟩ := Ec.dom b ds q
          have : b ≠ s2.heap.objs.size := fun z => by rw [z, hμ1] at q; cases q
          exact ⟨es, by unfold lu; rw [if_neg this]; exact q2⟩
        have mF : bY X.K (lu μc s2.heap.objs.size) Hc := ⟨fun a ds q => by
          obtain ⟨ys, z1, z2⟩ := Sc.mu a ds (dne a ds q)
          exact ⟨ys, z1, z2.shrink shr⟩, Sc.mu.tab⟩
        refine hend s4 Hc hp3.objs.size s2.heap.objs.size m acc (lu μc s2.heap.objs.size) (by have z : s4.heap.Ns s3.heap.objs.size m := hn; rw [heap3] at z; exact z) (I2.MN (by rw [hsz3]; exact Nat.le_succ _) hcC) (fun h' hs' => ?_) (e1.trans eF) ⟨mF, S1.rho.ext S1.mu eF⟩ (Rp.list hacc (by unfold lu; rw [if_pos rfl]) (rus.shrink shr)) (fin acc μc pvi hpa)
        have kp : ∀ b o, b < s2.heap.objs.size → s4.heap.get? b = some o → h'.get? b = some o := fun b o hb e => hs'.extBut b o (by rw [hsz3]; exact Nat.ne_of_lt (Nat.lt_succ_of_lt hb)) e
        have hok' : HOk X.prog X.w Hc h' := fun b ob e => by
          refine (I5.hok b ob e).xl (fun cc v hcc q => hs'.extBut cc v ?_ q) (fun _ q => q) fun _ _ q => q
          rintro rfl
          rcases hcc with z | z
          · rw [← z, hcC] at e; cases e
          · rw [hcC] at z; cases z
        have u1 : Un (frs X.stack) fp H2 H3 s2.heap s3.heap := by rw [heap3, hH3]; exact Un.laid old3 (Nat.le_refl _) hfree2
        have u2 : Un (frs X.stack) fp H3 Hc s3.heap s4.heap := I5.base
        exact I2.x5 (ch := fp) (by show s4.os = s2.os; have z : s4.os = s3.os := I5.os; rw [z, hs3]) (Un.after (u1.trans u2) kp) hok' I5.bare fun b hb => ⟨(f2 b hb).2.2.2.1, (f2 b hb).2.1, (f2 b hb).2.2.2.2.1, (f2 b hb).2.2.2.2.2⟩
    · have z : b ≠ s2.heap.objs.size := Nat.ne_of_lt (fplt b hb)
      rw [hH3, bD z]
      exact (f2 b hb).1
    · have ex := ml (o := .lst []) (ds := []) S1.mu hfree2 hK2
      rw [hH3]
      exact ⟨S1.mu.mut .nil hfree2 hK2, (S1.rho.ext S1.mu ex).cap⟩
    · rw [hH3]
      exact ml (o := .lst []) (ds := []) S1.mu hfree2 hK2
  have envE : (aN X N' scope cl fp s3 H3).env = compEnvC scope cl hp3.objs.size X.env := by show compEnvC scope cl s3.heap.objs.size X.env = _; rw [heap3]
  rw [envE] at loop
  exact codeAny_compStart_list loop (T.self X.A 0 _ _ _ (T.keep 0 _ _ st2 (fun b hb o e => kept3 b o (old3 b o e))) loop)
theorem ns_obj {h : Heap} {C : Addr} {m : Str → Option Value} (hn : h.Ns C m) : ∃ o, h.get? C = some o ∧ ∀ v, o.data ≠ .cell v := let ⟨o, es, ep, ho, hd, _⟩ := hn; ⟨o, ho, fun v z => by rw [hd] at z; cases z⟩
theorem MA {h h' : Heap} {C : Addr} {m : Str → Option Value} (hn : h.Ns C m) (e : h'.get? C = h.get? C) : h'.Ns C m := let ⟨o, es, ep, ho, r⟩ := hn; ⟨o, es, ep, e.trans ho, r⟩
theorem BK {X : Cx} {i : Nat} {x : Str} {pos' spos : Pos} {N' : List Str} {scope : Scope} {cl : List (Str × Addr)} {elt iter tg : Expr} {ifs : List Expr} {pos : Pos} {cap : List (Option Nat)} {src : DTI} {g : DTG} {c : DTT} {te : DTE} (hN : X.N.Nodup) (hix : X.N[i]? = some x) (hx : X.env.scope.names.lookup x = some .local) (hc : X.calm = X.calm)
    (hi : DI X tg iter src) (hg : ∀ fp s₃ H₃, DG (aN X N' scope cl fp s₃ H₃) tg g) (hif : ∀ fp s₃ H₃, Kd (aN X N' scope cl fp s₃ H₃) ifs c) (he : ∀ fp s₃ H₃, DE (aN X N' scope cl fp s₃ H₃) elt te)
    (hclos : closureFor scope X.env = pure cl) (hcell : ∀ y ∈ scope.names, y.2 ≠ .cell) (hkind : scope.kind = .function) (hnames : ∀ y ∈ scope.names, y.2 = .local → scope.names.lookup y.1 = some .local)
    (hcl : ∀ x a, cl.lookup x = some a → X.env.cells.lookup x = some a) (hhas : ∀ x, (relabel scope X.env).names.lookup x = some .cell ∨ (relabel scope X.env).names.lookup x = some .free → ∃ a, cl.lookup x = some a)
    (hlen : cap.length = N'.length) (hcap : ∀ (i j : Nat) (x : Str), cap[i]? = some (some j) → N'[i]? = some x → X.N[j]? = some x ∧ Vis X.env.scope x ∧ X.env.kindOf x ≠ some .local ∧ ((relabel scope X.env).names.lookup x = some .cell ∨ (relabel scope X.env).names.lookup x = some .free))
    (hs : ∀ x, foldedSetIterable iter X.env x = pure x := by intro _; rfl)
    (hsw : swapsWith (.ListComp elt [⟨tg, iter, ifs, 0⟩] scope pos) (some (.Name x pos')) spos.line X.env = pure true := by rfl) : DS X (.Assign [.Name x pos'] (.ListComp elt [⟨tg, iter, ifs, 0⟩] scope pos) spos) (bA (qS cap src g c te) (av i)) := by
  refine ⟨fun D σ H => ∃ ρ μ Dd, St0 X.K H ρ μ σ ∧ bA (qS cap src g c te) (av i) Dd ρ μ ∧ (∀ σ' ρ' μ' H', Ext X.K μ H μ' H' → St0 X.K H' ρ' μ' σ' → Dd.nx ρ' μ' → D.nx σ' H'), ?_, fun σ H ρ μ Dd De S h k1 k2 k3 k4 => ⟨ρ, μ, Dd, S, h, k1⟩⟩
  rintro pins s σ H D I ⟨ρ, μ, Dd, S, h, k1⟩
  rw [exec_Assign_Name_used _ _ _ _ hsw]
  refine wpAny_bind (wpAny_standAt ?_)
  show wpAny _ _ ((comprehension (.ListComp elt [⟨tg, iter, ifs, 0⟩] scope pos) scope X.env (firstIterPos [⟨tg, iter, ifs, 0⟩] pos) (newList []) false (eval iter X.env) (some (assign (.Name x pos') X.env)) >>= fun _ => pure ()) >>= _) _ _ s
  refine wpAny_bind (wpAny_bind (ID (Qd := fun d μ1 => av i d ρ μ1 Dd.nx) hc hi hg hif he hclos hcell hkind hnames hcl hhas hlen hcap hs I S h fun s4 Hc C pa m acc μF hn fC hI e1 S1 r q => ?_))
  have I4 : Inv X pins σ Hc s4 := hI s4.heap (Heap.SameBut.refl _ _)
  obtain ⟨oC, hoC, hdC⟩ : ∃ o, s4.heap.get? C = some o ∧ ∀ v, o.data ≠ .cell v := by
    obtain ⟨o, h1, h2⟩ := ns_obj hn
    exact ⟨o, h1, h2⟩
  have I5 := I4.pinned (fp := [C]) (fun b hb => by rw [List.mem_singleton.mp hb]; exact fC) (fun b hb => by rw [List.mem_singleton.mp hb]; exact ⟨oC, hoC, hdC⟩)
  show wpAny _ _ (assign (.Name x pos') X.env (.ref pa)) _ _ s4
  refine wpAny_assign_Name (mU I5 hN hix (Or.inl hx) (show RelV (.ref pa) (.ref pa) from rfl) (fun s' I' => ?_) (.inr hx))
  have keepC : s'.heap.get? C = some oC := (I'.pin (C, oC) (List.mem_append_right _ (List.mem_append_right _ (eI (List.mem_singleton.mpr rfl) hoC)))).1
  have hn' : s'.heap.Ns C m := MA hn (by rw [keepC, hoC])
  refine ⟨m, hn', fun h' hs' => wpAny_pure (wpAny_pure ?_)⟩
  refine ⟨σ.set i (some (.ref pa)), Hc, ?_, k1 _ _ _ _ e1 ⟨S1.mu, S1.rho.set (d := .v (.list acc)) r⟩ q⟩
  refine I'.lA.x5 (ch := [C]) rfl ⟨fun b o e n hb hx => ?_, fun b o e n hb hx => ?_, fun b o e n hx => n, fun b o e hx => ?_, fun b xs e => e, fun b o u e => e, fun b ps e => ⟨#[], by rw [Array.append_empty]; exact e⟩⟩ ?_ I'.bare fun b hb => ?_
  · exact hs'.extBut b o (fun z => hx (List.mem_singleton.mpr z)) e
  · exact ⟨o.slots, hs'.extBut b o (fun z => hx (List.mem_singleton.mpr z)) e⟩
  · exact ⟨o, hs'.extBut b o (fun z => hx (List.mem_singleton.mpr z)) e⟩
  · exact fun b ob e => by
      refine (I'.hok b ob e).xl (fun cc v hcc q => hs'.extBut cc v ?_ q) (fun _ q => q) fun _ _ q => q
      rintro rfl
      rcases hcc with z | z
      · rw [← z, fC.1] at e; cases e
      · rw [fC.1] at z; cases z
  · rw [List.mem_singleton.mp hb]
    exact ⟨fC.2.2.2.1, fC.2.1, fC.2.2.2.2.1, fC.2.2.2.2.2⟩
theorem BG {cap : List (Option Nat)} {src : DTI} {g : DTG} {t : DTT} {ta : DTE} {ρ : Rho} {μ : Mu} {Q : DK} : qS cap src g t ta ρ μ Q = src ρ μ fun xs μ1 => xs.length ≤ 1000 ∧ ∀ p, μ1 p = none → ∃ Pv : Nat → List PyData → Mu → Prop, Pv 0 [] (aI μ1 p []) ∧
  (∀ i x acc μ', xs[i]? = some x → μ' p = some acc → Pv i acc μ' → g (.v x) (bO cap ρ) μ' fun ρ2 μ2 => Le (bO cap ρ) ρ2 ∧ t ρ2 μ2 fun b μ3 =>
    if b = true then ta ρ2 μ3 fun d μ4 => μ4 p = some acc ∧ (match d with | .v y => Pv (i + 1) (acc ++ [y]) (aI μ4 p (acc ++ [y])) | _ => False) else μ3 p = some acc ∧ Pv (i + 1) acc μ3) ∧
  (∀ acc μ', Pv xs.length acc μ' → μ' p = some acc → Q (.v (.list acc)) (lu μ' p)) := propext Iff.rfl
theorem AM {μ : Mu} {p : Addr} {ds : List PyData} (h : μ p = none) : lu (aI μ p ds) p = μ := by
  funext b
  unfold lu aI
  by_cases e : b = p
  · rw [if_pos e, e, h]
  · rw [if_neg e, if_neg e]
theorem Pz {xs : List PyData} {f : PyData → Option PyData} {i : Nat} {d : PyData} (h : xs[i]? = some d) : (xs.take (i + 1)).filterMap f = (xs.take i).filterMap f ++ (f d).toList := xI h
open PySem PySem.Spec PyProof.Rows
section
variable {X : Cx} {es : List Expr} {x1 : Nat} {tpos : Pos}
def Ll : List PyData → List PyData → List PyData
  | x :: xs, y :: ys => .tuple [x, y] :: Ll xs ys
  | _, _ => []
def QF (t : DTA) : DTI := fun ρ μ Q => t ρ μ fun ds μ1 => match ds with
  | [.v (.list xs), .v (.list ys)] => Q (Ll xs ys) μ1
  | _ => False
theorem GB {t : DTA} {ρ : Rho} {μ : Mu} {Q : List PyData → Mu → Prop} : QF t ρ μ Q = t ρ μ fun ds μ1 => match ds with | [.v (.list xs), .v (.list ys)] => Q (Ll xs ys) μ1 | _ => False := propext Iff.rfl
end
open PySem PySem.Spec PyProof.Rows
section
variable {X : Cx} {a b e : Expr} {es : List Expr} {ta tb te : DTE} {t : DTA} {p pos : Pos}
def ph : List D → Mu → DK → Prop := fun xs μ Q => match xs with
  | [.v (.list ys)] => Q (.v (.tuple ys)) μ
  | [.v (.tuple ys)] => Q (.v (.tuple ys)) μ
  | [.m l] => (match μ l with | some ys => Q (.v (.tuple ys)) μ | none => False)
  | _ => False
theorem Lk {K : PySem.W.Frag} : sD K (fun xs H Q => ∃ p ys, xs = [.ref p] ∧ ((SqL K H p ys ∧ ∀ l, H l = none → Q (.ref l) (upd H l (.tup ys))) ∨ (SqT K H p ys ∧ Q (.ref p) H))) ph := by
  intro xs us H μ Qd Q ok rs h k
  unfold ph at h
  split at h
  · cases rs with
    | cons r1 r2 =>
      cases r2
      cases r1 with
      | list hs hn r => exact ⟨_, _, rfl, .inl ⟨SqL.of hs, fun l hl => k (.v _) _ μ _ (de hl) (ok.new hl) (lM ok r hl) h⟩⟩
  · cases rs with
    | cons r1 r2 =>
      cases r2
      cases id r1 with
      | tuple hs r => exact ⟨_, _, rfl, .inr ⟨hs, k (.v _) _ μ H .refl ok r1 h⟩⟩
  · cases rs with
    | cons r1 r2 =>
      cases r2
      obtain ⟨rfl, ds, hm⟩ := r1
      rw [hm] at h
      obtain ⟨us, hl, r⟩ := ok _ ds hm
      exact ⟨_, _, rfl, .inl ⟨SqL.of hl, fun l hl' => k (.v _) _ μ _ (de hl') (ok.new hl') (lM ok r hl') h⟩⟩
  · exact h.elim
theorem Kw (hg : Gl X "tuple") (hm : X.mg "tuple" = none) (ha : DA X (e :: es) t)
    (he : starEach (e :: es) X.env = (false, eval e X.env) :: starEach es X.env := by rfl) (hpl : (backTo pos (starEach es X.env)).any (·.1) = false := by rfl) : DE X (.Call (.Name "tuple" p) (e :: es) [] pos) (dCB ph t) :=
  wI ze Lk hg hm PyProof.Rows.Boot.«tuple» ha (by decide) (by decide) he hpl
theorem C6 {ys : List PyData} {μ : Mu} {Q : DK} : ph [.v (.list ys)] μ Q = Q (.v (.tuple ys)) μ := propext Iff.rfl
theorem C4 {ys : List PyData} {μ : Mu} {Q : DK} : ph [.v (.tuple ys)] μ Q = Q (.v (.tuple ys)) μ := propext Iff.rfl
theorem CP {l : Addr} {μ : Mu} {Q : DK} : ph [.m l] μ Q = (match μ l with | some ys => Q (.v (.tuple ys)) μ | none => False) := propext Iff.rfl
def Qn : D → D → Mu → DK → Prop := fun x y μ Q => match x, y with
  | .v (.list xs), .v (.int k) => (0 ≤ k ∧ k ≤ 1000 ∧ xs.length * k.toNat ≤ 1000) ∧ Q (.v (.list (List.replicate k.toNat xs).flatten)) μ
  | _, _ => False
theorem NA {xs : List PyData} {k : Int} {μ : Mu} {Q : DK} : Qn (.v (.list xs)) (.v (.int k)) μ Q = ((0 ≤ k ∧ k ≤ 1000 ∧ xs.length * k.toNat ≤ 1000) ∧ Q (.v (.list (List.replicate k.toNat xs).flatten)) μ) := propext Iff.rfl
end
open PySem PySem.Spec PyProof.Rows
section
variable {prog : Program} {w : World} {A : Around} {E : Value → Shared → Prop} {s : Shared}
end
open PySem PySem.Spec PyProof.Rows
section
variable {X : Cx} {es : List Expr} {x1 : Nat} {tpos : Pos}
end
section
variable {X : Cx} {es : List Expr} {pos : Pos}
end
open PySem PySem.Spec PyProof.Rows
section
variable {X : Cx} {e : Expr} {es : List Expr} {t : DTA} {p pos : Pos}
end
section
variable {X : Cx} {e tg : Expr} {te : DTE} {td : DTS} {pos : Pos}
end
section
variable {X : Cx} {a b c : Expr} {ta tb tc : DTE} {pos : Pos}
end
open PySem PySem.Spec PyProof.Rows
section
variable {X : Cx} {o e : Expr} {to te : DTE} {apos cpos pos : Pos}
end
section
variable {X : Cx} {e : Expr} {es : List Expr} {t : DTA} {p pos : Pos}
end
section
variable {X : Cx} {a b : Expr} {ta tb : DTE} {pos : Pos}
end
open PySem PySem.Spec PyProof.Rows
def JA (cells : List (Str × Addr)) : List (Str × Addr) → Prop
  | [] => True
  | (k, v) :: r => cells.lookup k = some v ∧ JA cells r
theorem cB {cells : List (Str × Addr)} : JA cells [] := trivial
theorem aO {cells r : List (Str × Addr)} {k : Str} {v : Addr} (h : cells.lookup k = some v) (t : JA cells r) : JA cells ((k, v) :: r) := ⟨h, t⟩
theorem bj {cells : List (Str × Addr)} : ∀ {cl : List (Str × Addr)}, JA cells cl → ∀ x a, cl.lookup x = some a → cells.lookup x = some a
  | [], _, _, _, h => by simp at h
  | (k, v) :: r, c, x, a, h => by
    rw [List.lookup_cons] at h
    cases e : x == k with
    | true =>
      have e' : x = k := by simpa using e
      rw [e] at h
      subst e'
      rw [c.1]; exact h
    | false =>
      rw [e] at h
      exact bj c.2 x a h
open PySem PySem.Spec PyProof.Rows
def Fly (O : Addr → Prop) (h : Heap) (e : Addr) (cls fl : Value) : Prop := (∀ b, O b → b < h.objs.size) ∧ ∃ oe vs T oT ts, h.get? e = some oe ∧ oe.cls = cls ∧ oe.data = .fields vs ∧ vs[1]? = some (.ref T) ∧ vs[2]? = some .none ∧ ¬ O e ∧ ¬ O T ∧ T ≠ e ∧ h.get? T = some oT ∧ oT.data = .fields ts ∧ ts[3]? = some fl
structure Kp (O : Addr → Prop) (fs : List Addr) (h h' : Heap) : Prop where
  keep : ∀ b o, h.get? b = some o → O b → b ∉ fs → h'.get? b = some o
  slot : ∀ b o, h.get? b = some o → (∀ vs, o.data ≠ .fields vs) → ∃ sl, h'.get? b = some { o with slots := sl }
section
variable {O : Addr → Prop} {fs : List Addr} {h h1 h2 : Heap}
theorem Kp.refl : Kp O fs h h := ⟨fun _ _ e _ _ => e, fun _ o e _ => ⟨o.slots, e⟩⟩
theorem Kp.trans (a : Kp O fs h h1) (b : Kp O fs h1 h2) : Kp O fs h h2 := ⟨fun c o e l f => b.keep c o (a.keep c o e l f) l f, fun c o e d => let ⟨_, e1⟩ := a.slot c o e d; let ⟨sl, e2⟩ := b.slot c _ e1 d; ⟨sl, e2⟩⟩
theorem Kp.of (k : ∀ b o, h.get? b = some o → h1.get? b = some o) : Kp O fs h h1 := ⟨fun b o e _ _ => k b o e, fun b o e _ => ⟨o.slots, k b o e⟩⟩
theorem Kp.sub {fs' : List Addr} (a : Kp O fs h h1) (s : ∀ b ∈ fs, b ∈ fs') : Kp O fs' h h1 := ⟨fun b o e l f => a.keep b o e l fun z => f (s b z), a.slot⟩
theorem Kp.frames {base : Heap} {l : List Env} (a : Kp O fs h h1) (k : h.FunFrames base l) : h1.FunFrames base l := k.of_keeps fun b o e d => let ⟨_, e1⟩ := a.slot b o e d; ⟨_, e1, rfl⟩
end
section
variable {M : Model} {A : Around} {E : Value → Shared → Prop} {s : Shared} {O : Addr → Prop} {e L : Addr} {cls fl : Value} {env : Env} {outer : List Env} {base : Heap} {Q : Unit → Shared → Prop}
theorem Et {oe : Obj} {vs : Array Value} {head : Value} {hadNext : Bool} (hfr : A.frames = some (env :: outer)) (hl : s.heap.FunFrames base (env :: outer)) (hf : env.frame = some L)
    (he : s.heap.get? e = some oe) (hc : oe.cls = cls) (hd : oe.data = .fields vs) (hz : 1 < vs.size) (h2 : vs[2]? = some .none) (hO : ∀ b, O b → b < s.heap.objs.size) (hn : ¬ O e)
    (k : ∀ h', Kp O (frs (env :: outer)) s.heap h' → Fly O h' e cls (rawInt L) → Q () { s with heap := h' }) :
    wpAny M A (do let a ← frameOf env; let pl ← entryPlaceOf L hadNext; let b ← EntryCells.newEntry head a .none (rawInt L) .none pl; setField (.ref e) 1 b) Q E s := by
  have ene : e ∉ frs (env :: outer) := fun hm => by
    obtain ⟨_, o, ho, hnf⟩ := hl.mem hm
    rw [he] at ho
    exact hnf vs (by rw [← Option.some.inj ho]; exact hd)
  refine wpAny_bind (wpAny_frameOf_fun hfr hl hf fun g1 s1 => wpAny_bind (wpAny_entryPlaceOf fun pl hpl => ?_))
  unfold EntryCells.newEntry newFields; refine wpAny_bind (wpAny_newObj_type ?_ (hpl.sizeOk5 _ _ _ _ _))
  generalize hob : ({ cls := .type "traceback", dict := none, data := .fields ([head, .ref L, .none, rawInt L, .none] ++ (if pl.isEmpty then List.replicate 6 Value.none else pl)).toArray } : Obj) = ob
  have e1 : g1.get? e = some oe := (s1.2.1 e ene).trans he
  have e2 : (g1.push ob).get? e = some oe := Heap.get?_push_of_some ob e1
  have neT : g1.objs.size ≠ e := Nat.ne_of_gt (Heap.lt_size e1)
  have d3 := Obj.data_mapFields hd (·.setIfInBounds 1 (Value.ref g1.objs.size))
  have szs : ¬ O g1.objs.size := fun z => absurd (hO _ z) (by rw [s1.1]; exact Nat.lt_irrefl _)
  refine wpAny_setField e2 hd hz (k _ ⟨fun b o q l f => ?_, fun b o q d => ?_⟩ ?_)
  · have bne : e ≠ b := fun z => hn (by rw [z]; exact l)
    rw [Heap.get?_update_other _ _ bne]
    exact Heap.get?_push_of_some _ ((s1.2.1 b f).trans q)
  · have bne : e ≠ b := fun z => by rw [← z, he] at q; exact d vs (by rw [← Option.some.inj q]; exact hd)
    obtain ⟨sl, q1⟩ := s1.2.2 b o q
    exact ⟨sl, by rw [Heap.get?_update_other _ _ bne]; exact Heap.get?_push_of_some _ q1⟩
  · refine ⟨fun b z => Nat.lt_of_lt_of_le (hO b z) (by rw [Heap.size_after_update, Heap.size_push, s1.1]; exact Nat.le_succ _), _, _, g1.objs.size, ob, _, Heap.get?_update_self _ e2 (Obj.isFreed_of_fields d3), (Obj.cls_mapFields ..).trans hc, d3, by simp [hz], by rw [Array.getElem?_setIfInBounds_ne (by decide)]; exact h2, hn, szs, neT, ?_, by rw [← hob], ?_⟩
    · rw [Heap.get?_update_other _ _ (Ne.symm neT)]
      exact Heap.get?_push_size g1 (by rw [← hob]; rfl)
    · rcases hpl with z | ⟨_, _, _, _, _, _, _, z⟩ <;> (rw [z]; rfl)
theorem Gk {oe : Obj} {vs : Array Value} (hfr : A.frames = some (env :: outer)) (hl : s.heap.FunFrames base (env :: outer)) (hf : env.frame = some L)
    (he : s.heap.get? e = some oe) (hc : oe.cls = cls) (hd : oe.data = .fields vs) (h1 : vs[1]? = some .none) (h2 : vs[2]? = some .none) (hO : ∀ b, O b → b < s.heap.objs.size) (hn : ¬ O e)
    (k : ∀ h', Kp O (frs (env :: outer)) s.heap h' → Fly O h' e cls (rawInt L) → Q () { s with heap := h' }) : wpAny M A (noteFrame (.ref e) env) Q E s := by
  unfold noteFrame; simp only [hf]
  refine wpAny_bind (wpAny_field he hd h1 ?_)
  rw [if_neg (by decide)]
  exact Et hfr hl hf he hc hd (Array.getElem?_eq_some_iff.mp h1).1 h2 hO hn k
theorem Aw (hfr : A.frames = some (env :: outer)) (hl : s.heap.FunFrames base (env :: outer)) (hf : env.frame = some L) (F : Fly O s.heap e cls .none)
    (k : ∀ h', Kp O (frs (env :: outer)) s.heap h' → Fly O h' e cls (rawInt L) → Q () { s with heap := h' }) : wpAny M A (noteFrame (.ref e) env) Q E s := by
  obtain ⟨hO, oe, vs, T, oT, ts, he, hc, hd, h1, h2, hn, hT, nT, gT, dT, h3⟩ := F
  unfold noteFrame; simp only [hf]
  refine wpAny_bind (wpAny_field he hd h1 ?_)
  rw [if_pos (by simp)]
  refine wpAny_bind (wpAny_field gT dT h3 ?_)
  rw [if_neg (by simp [rawInt])]
  have oth : ∀ b, b ≠ T → (s.heap.update T (Obj.mapFields (·.setIfInBounds 3 Value.none))).get? b = s.heap.get? b := fun b hb => Heap.get?_update_other _ _ (Ne.symm hb)
  have kp : Kp O (frs (env :: outer)) s.heap (s.heap.update T (Obj.mapFields (·.setIfInBounds 3 Value.none))) :=
    ⟨fun b o q l _ => (oth b fun z => hT (by rw [← z]; exact l)).trans q, fun b o q d => ⟨o.slots, (oth b fun z => by rw [z, gT] at q; exact d ts (by rw [← Option.some.inj q]; exact dT)).trans q⟩⟩
  refine wpAny_bind (wpAny_setField gT dT (Array.getElem?_eq_some_iff.mp h3).1 ?_)
  exact Et (s := { s with heap := s.heap.update T (Obj.mapFields (·.setIfInBounds 3 Value.none)) }) hfr (kp.frames hl) hf ((oth e (Ne.symm nT)).trans he) hc hd (Array.getElem?_eq_some_iff.mp h1).1 h2 (fun b z => by rw [Heap.size_after_update]; exact hO b z) hn fun h' a b => k h' (kp.trans a) b
theorem ma {fs : List Addr} (F : Fly O s.heap e cls fl) (k : ∀ h', Kp O fs s.heap h' → Fly O h' e cls .none → Q () { s with heap := h' }) : wpAny M A (setFlight (.ref e) none) Q E s := by
  obtain ⟨hO, oe, vs, T, oT, ts, he, hc, hd, h1, h2, hn, hT, nT, gT, dT, h3⟩ := F
  have z3 : 3 < ts.size := (Array.getElem?_eq_some_iff.mp h3).1
  unfold setFlight
  refine wpAny_bind (wpAny_field he hd h1 ?_)
  rw [if_pos (by simp)]
  have oth : ∀ b, b ≠ T → (s.heap.update T (Obj.mapFields (·.setIfInBounds 3 ((none : Option Addr).elim Value.none fun f => rawInt f)))).get? b = s.heap.get? b := fun b hb => Heap.get?_update_other _ _ (Ne.symm hb)
  refine wpAny_setField gT dT z3 (k _ ⟨fun b o q l _ => (oth b fun z => hT (by rw [← z]; exact l)).trans q, fun b o q d => ⟨o.slots, (oth b fun z => by rw [z, gT] at q; exact d ts (by rw [← Option.some.inj q]; exact dT)).trans q⟩⟩ ?_)
  exact ⟨fun b z => by rw [Heap.size_after_update]; exact hO b z, oe, vs, T, _, _, (oth e (Ne.symm nT)).trans he, hc, hd, h1, h2, hn, hT, nT, Heap.get?_update_self _ gT (Obj.isFreed_of_fields (Obj.data_mapFields dT _)), Obj.data_mapFields dT _, by simp [z3]⟩
theorem Dy {oe : Obj} {vs : Array Value} (hfr : A.frames = some (env :: outer)) (hl : s.heap.FunFrames base (env :: outer)) (hf : env.frame = some L)
    (he : s.heap.get? e = some oe) (hc : oe.cls = cls) (hd : oe.data = .fields vs) (h1 : vs[1]? = some .none) (h2 : vs[2]? = some .none) (hO : ∀ b, O b → b < s.heap.objs.size) (hn : ¬ O e)
    (k : ∀ h', Kp O (frs (env :: outer)) s.heap h' → Fly O h' e cls .none → Q () { s with heap := h' }) : wpAny M A (leaving env (.ref e)) Q E s := by
  unfold leaving
  exact wpAny_bind (Gk hfr hl hf he hc hd h1 h2 hO hn fun h' a b => ma (s := { s with heap := h' }) b fun h'' a' b' => k h'' (a.trans a') b')
theorem Gn (hfr : A.frames = some (env :: outer)) (hl : s.heap.FunFrames base (env :: outer)) (hf : env.frame = some L) (F : Fly O s.heap e cls .none)
    (k : ∀ h', Kp O (frs (env :: outer)) s.heap h' → Fly O h' e cls .none → Q () { s with heap := h' }) : wpAny M A (leaving env (.ref e)) Q E s := by
  unfold leaving
  exact wpAny_bind (Aw hfr hl hf F fun h' a b => ma (s := { s with heap := h' }) b fun h'' a' b' => k h'' (a.trans a') b')
end
open PySem PySem.Spec PyProof.Rows
def CX1 (P : Program) (w : World) : CXT := fun outer H s E e s' => ∃ (O : Addr → Prop) (ea : Addr) (cls : Value) (H' : Hp), e = .ref ea ∧ s'.os = s.os ∧ AllBare s'.gens ∧ Un (frs outer) [] H H' s.heap s'.heap ∧ HOk P w H' s'.heap ∧
  (∀ b o, s.heap.get? b = some o → O b) ∧ (∀ b, H' b ≠ none → O b) ∧ Fly O s'.heap ea cls .none ∧ E cls none H'
theorem Un.fly {fs : List Addr} {L : Addr} {H H' : Hp} {h h1 h2 : Heap} {O : Addr → Prop} (u : Un fs [] H H' h h1) (k : Kp O (L :: fs) h1 h2) (hO : ∀ b o, h.get? b = some o → O b) (hL : ∀ o, h.get? L ≠ some o) (hd : ∀ b ∈ fs, ∀ o, h1.get? b = some o → ∀ vs, o.data ≠ .fields vs) : Un fs [] H H' h h2 where
  keep := fun b o e n f x => k.keep b o (u.keep b o e n f x) (hO b o e) fun z => by
    rcases List.mem_cons.mp z with z | z
    · exact hL o (by rw [← z]; exact e)
    · exact f z
  slot := fun b o e n f x => by
    obtain ⟨sl, e1⟩ := u.slot b o e n f x
    obtain ⟨sl', e2⟩ := k.slot b _ e1 (hd b f _ e1)
    exact ⟨sl', e2⟩
  free := u.free
  there := fun b o e x => by
    obtain ⟨o1, e1⟩ := u.there b o e x
    by_cases f : b ∈ fs
    · obtain ⟨sl, e2⟩ := k.slot b _ e1 (hd b f _ e1)
      exact ⟨_, e2⟩
    · exact ⟨o1, k.keep b o1 e1 (hO b o e) fun z => by
        rcases List.mem_cons.mp z with z | z
        · exact hL o (by rw [← z]; exact e)
        · exact f z⟩
  rS := u.rS
  pZ := u.pZ
  qx := u.qx
theorem HOk.fly {P : Program} {w : World} {H : Hp} {h h1 : Heap} {O : Addr → Prop} {fs : List Addr} (x : HOk P w H h) (k : Kp O fs h h1) (hO : ∀ b, H b ≠ none → O b) (hf : ∀ b ∈ fs, H b = none) : HOk P w H h1 := fun a o e => by
  refine (x a o e).xl (fun b u hb q => ?_) (fun _ q => q) fun _ _ q => q
  have hb' : H b ≠ none := by
    rcases hb with rfl | hb
    · rw [e]; exact fun z => nomatch z
    · rw [hb]; exact fun z => nomatch z
  exact k.keep b u q (hO b hb') fun z => hb' (hf b z)
theorem Il {P : Program} {w : World} {H : Hp} {h : Heap} {a : Addr} {o : HO} (x : lH P w H h a o) : ∃ u, h.get? a = some u := by
  cases o with
  | lst xs => obtain ⟨_, _, _, _, e⟩ := x; exact ⟨_, e⟩
  | tup xs => obtain ⟨_, _, _, _, e, _⟩ := x; exact ⟨_, e⟩
  | dK kvs => obtain ⟨_, _, _, _, _, _, _, e, _⟩ := x; exact ⟨_, e⟩
  | dT kvs => obtain ⟨_, _, _, _, _, _, _, e, _⟩ := x; exact ⟨_, e⟩
  | set S n => obtain ⟨_, _, _, _, e, _⟩ := x; exact ⟨_, e⟩
  | ins C dx fs => obtain ⟨_, _, _, e, _⟩ := x; exact ⟨_, e⟩
  | own y => exact x
  | xd fs => obtain ⟨_, ⟨_, _, _, e, _⟩, _⟩ := x; exact ⟨_, e⟩
  | rng lo hi => obtain ⟨_, _, _, e⟩ := x; exact ⟨_, e⟩
  | frz ob u => obtain ⟨e, _⟩ := x; exact ⟨_, e⟩
  | tbl ps => exact ⟨_, (show h.get? a = some _ from x)⟩
  | met f y => exact ⟨_, (show h.get? a = some _ from x)⟩
  | ext φ => obtain ⟨_, e, _⟩ := x; exact e
section
variable {X : Cx} {pins : List (Addr × Obj)} {σ : St} {H : Hp} {s : Shared} {O : Addr → Prop} {ea : Addr} {cls : Value} {E : XK} {base : Heap}
structure Frm (X : Cx) : Prop where
  stk : X.stack = X.env :: X.outer
  fr : X.env.frame = some X.env.locals
  ex : X.ex = []
theorem vx (hF : Frm X) : frs (X.env :: X.outer) = X.env.locals :: X.fs := by
  unfold Cx.fs frs
  rw [List.filterMap_cons, hF.fr]
theorem Ba (I : Inv X pins σ H s) : ∀ b ∈ X.fs, ∀ o, s.heap.get? b = some o → ∀ vs, o.data ≠ .fields vs := fun b hb o e vs => by
  obtain ⟨_, o', e', d⟩ := I.tV.mem hb
  rw [e] at e'
  rw [Option.some.inj e']
  exact d vs
theorem HG (I : Inv X pins σ H s) : ∀ o, X.s₀.heap.get? X.env.locals ≠ some o := fun o e => absurd (Heap.lt_size e) (Nat.not_lt.mpr I.ok.above)
theorem Dl (hF : Frm X) (I : Inv X pins σ H s) : ∀ b ∈ frs (X.env :: X.outer), H b = none := fun b hb => by
  rw [vx hF] at hb
  rcases List.mem_cons.mp hb with e | hb
  · rw [e]; exact I.free
  · exact I.uo b (by rw [hF.stk, vx hF]; exact List.mem_cons_of_mem _ hb)
theorem vP (hF : Frm X) (I : Inv X pins σ H s) : s.heap.FunFrames X.base (X.env :: X.outer) := by
  have := I.stack
  rw [hF.stk] at this
  exact this
theorem Lb (hF : Frm X) (I : Inv X pins σ H s) (hO : ∀ b o, X.s₀.heap.get? b = some o → O b) (ht : ∀ b, H b ≠ none → O b) {h' : Heap} (k : Kp O (frs (X.env :: X.outer)) s.heap h') (F : Fly O h' ea cls .none) (q : E cls none H) :
    CX1 X.prog X.w X.outer X.H₀ X.s₀ E (.ref ea) { s with heap := h' } := by
  refine ⟨O, ea, cls, H, rfl, I.os, I.bare, ?_, HOk.fly I.hok k ht (Dl hF I), hO, ht, F, q⟩
  rw [vx hF] at k
  have u := I.base
  rw [hF.ex] at u
  exact Un.fly u k hO (HG I) (Ba I)
theorem leave_new {vs : List Value} {h1 : Heap} {Qe : Value → Shared → Prop} (hF : Frm X) (I : Inv X pins σ H s) (hx : Heap.MadeExcOf s.heap h1 ea cls vs) (q : E cls none H) :
    wpAny (model X.prog X.w) X.A (leaving X.env (.ref ea)) (fun _ s'' => CX1 X.prog X.w X.outer X.H₀ X.s₀ E (.ref ea) s'') Qe { s with heap := h1 } := by
  obtain ⟨t, he, _, _⟩ := hx.there
  have I1 : Inv X pins σ H { s with heap := h1 } := I.kept (t' := s.toks) hx.keeps
  have fr : X.A.frames = some (X.env :: X.outer) := by rw [← hF.stk]; exact I.ok.frames
  have kp : Kp (fun b => ∃ o, s.heap.get? b = some o) (frs (X.env :: X.outer)) s.heap h1 := .of hx.keeps
  refine Dy (O := fun b => ∃ o, s.heap.get? b = some o) (s := { s with heap := h1 }) fr (vP hF I1) hF.fr he rfl rfl rfl rfl (fun b ⟨o, e⟩ => Heap.lt_size (hx.keeps b o e)) (fun ⟨o, e⟩ => by rw [hx.new] at e; cases e) fun h' k F => ?_
  have e := Lb (s := s) (X := X) hF I (fun b o e => I.base.there b o e (by rw [hF.ex]; exact fun z => nomatch z)) (fun b hb => by
    cases z : H b with
    | none => exact absurd z hb
    | some o => exact Il (I.hok b o z)) (kp.trans k) F q
  exact e
end
structure XOk (X : Cx) (E : XK) : Prop where
  new : ∀ (pins : List (Addr × Obj)) (σ : St) (H : Hp) (s : Shared) (ea : Addr) (cls : Value) (vs : List Value) (h1 : Heap), Inv X pins σ H s → Heap.MadeExcOf s.heap h1 ea cls vs → E cls none H → X.xe (.ref ea) { s with heap := h1 }
  pas : Passes (CX1 X.prog X.w) X E
theorem An {X : Cx} {pins : List (Addr × Obj)} {σ : St} {H : Hp} {s s' : Shared} {E : XK} {e : Value} {Qe : Value → Shared → Prop} (hF : Frm X) (I : Inv X pins σ H s) (h : CX1 X.prog X.w X.stack H s E e s') :
    wpAny (model X.prog X.w) X.A (leaving X.env e) (fun _ s'' => CX1 X.prog X.w X.outer X.H₀ X.s₀ E e s'') Qe s' := by
  obtain ⟨O, ea, cls, H', rfl, os, bare, un, hok, hO, ht, F, q⟩ := h
  have I' : Inv X pins σ H' s' := I.x5 (ch := []) os un hok bare (fun b z => nomatch z)
  have fr : X.A.frames = some (X.env :: X.outer) := by rw [← hF.stk]; exact I.ok.frames
  refine Gn (s := s') fr (vP hF I') hF.fr F fun h' k F' => ?_
  exact Lb (s := s') hF I' (fun b o e => by
    obtain ⟨o', e'⟩ := I.base.there b o e (by rw [hF.ex]; exact fun z => nomatch z)
    exact hO b o' e') ht k F' q
theorem rA {P : Program} {w : World} {K : PySem.W.Frag} {mg : Str → Option Value} {base : Heap} {N : List Str} {qual : Str} {scope : Scope} {f : Addr} {cd : Value} {A : Around} {outer : List Env} {s : Shared} {H : Hp} {E : XK} :
    XOk (lS (CX1 P w) P w K mg base N qual scope f cd A outer s H E) E where
  new := fun pins σ H1 s1 ea cls vs h1 I hx q => leave_new (X := lS (CX1 P w) P w K mg base N qual scope f cd A outer s H E) ⟨rfl, rfl, rfl⟩ I hx q
  pas := fun pins σ H1 s1 e s' I h => An (X := lS (CX1 P w) P w K mg base N qual scope f cd A outer s H E) ⟨rfl, rfl, rfl⟩ I h
abbrev DTX := Rho → Mu → (Mu → Prop) → Prop
abbrev XSp := List D → Mu → (Mu → Prop) → Prop
def Fj (K : PySem.W.Frag) (E : XK) (C : Value) (μ : Mu) (H : Hp) (Xk : Mu → Prop) : Prop := ∀ μ' H', Ext K μ H μ' H' → bY K μ' H' → Xk μ' → E C none H'
theorem Fj.on {K : PySem.W.Frag} {E : XK} {C : Value} {μ μ1 : Mu} {H H1 : Hp} {Xk : Mu → Prop} (w : Fj K E C μ H Xk) (e : Ext K μ H μ1 H1) : Fj K E C μ1 H1 Xk := fun μ' H' e' => w μ' H' (e.trans e')
def XE (X : Cx) (E : XK) (C : Value) (e : Expr) (tx : DTX) : Prop := ∃ t : TE, PE X e t ∧ ∀ σ H ρ μ Xk Q, St0 X.K H ρ μ σ → tx ρ μ Xk → Fj X.K E C μ H Xk → t σ H Q
def XS (X : Cx) (E : XK) (C : Value) (st : Stmt) (tx : DTX) : Prop := ∃ t : TS, PS X st t ∧ ∀ σ H ρ μ Xk D, St0 X.K H ρ μ σ → tx ρ μ Xk → Fj X.K E C μ H Xk → t D σ H
def XSs (X : Cx) (E : XK) (C : Value) (st : List Stmt) (tx : DTX) : Prop := ∃ t : TS, PSs X st t ∧ ∀ σ H ρ μ Xk D, St0 X.K H ρ μ σ → tx ρ μ Xk → Fj X.K E C μ H Xk → t D σ H
def spX (K : PySem.W.Frag) (C : Value) (dsp : XSp) : Sp := fun vs H _ E => ∃ (ds : List D) (μ : Mu) (Xk : Mu → Prop), bY K μ H ∧ jR K μ H ds vs ∧ dsp ds μ Xk ∧ Fj K E C μ H Xk
section
variable {X : Cx} {E : XK} {C : Value} {e : Expr} {es : List Expr} {t : DTA} {te : DTE} {tx ty : DTX} {p pos : Pos} {x : Str} {k : Nat} {f : Addr} {fd : FuncData} {ps : List Str} {dsp : XSp} {st : Stmt} {sts : List Stmt}
def pL (dsp : XSp) (t : DTA) : DTX := fun ρ μ Xk => t ρ μ fun ds μ1 => dsp ds μ1 Xk
theorem jI (F : bG X.prog X.w X.K X.mg X.base (CX1 X.prog X.w) k f fd ps (spX X.K C dsp)) (hr : fi k X.A) (hg : Gl X x) (hm : X.mg x = some (.ref f)) (hk : PySem.W.keepIn X.K (.ref f) = true) (hb : Binds X.K fd ps []) (hx : XOk X E)
    (ha : DA X (e :: es) t) (hdb : (x == ("__debug__" : Str)) = false := by decide) (he : starEach (e :: es) X.env = (false, eval e X.env) :: starEach es X.env := by rfl) (hpl : (backTo pos (starEach es X.env)).any (·.1) = false := by rfl) :
    XE X E C (.Call (.Name x p) (e :: es) [] pos) (pL dsp t) := by
  obtain ⟨t1, p1, l1⟩ := ha
  refine ⟨_, Gv F hr hg hm hk hb .nil hx.pas p1 hdb he hpl, fun σ H ρ μ Xk Q S h wsh => ?_⟩
  refine l1 σ H ρ μ _ _ S h fun ds us μ1 H1 e1 S1 rs len h1 => ?_
  exact ⟨ds, μ1, Xk, S1.mu, by rw [List.append_nil]; exact rs, h1, wsh.on e1⟩
theorem LC (h : XE X E C e tx) : XS X E C (.Return (some e) pos) tx := by
  obtain ⟨t1, p1, l1⟩ := h
  exact ⟨_, Gb p1, fun σ H ρ μ Xk D S h wsh => l1 σ H ρ μ Xk _ S h wsh⟩
theorem Gp (h : XE X E C e tx) (hs : swapsWith e none pos.line X.env = pure false := by rfl) : XS X E C (.Expr e pos) tx := by
  obtain ⟨t1, p1, l1⟩ := h
  exact ⟨_, GA p1 hs, fun σ H ρ μ Xk D S h wsh => l1 σ H ρ μ Xk _ S h wsh⟩
def FC : DTX := fun _ _ _ => False
theorem AB : XSs X E C sts FC := ⟨_, AF, fun _ _ _ _ _ _ _ h _ => h.elim⟩
def xIf (tc : DTT) (tx ty : DTX) : DTX := fun ρ μ Xk => tc ρ μ fun b μ1 => if b = true then tx ρ μ1 Xk else ty ρ μ1 Xk
theorem Nb {c : Expr} {a b : List Stmt} {tc : DTT} (hc : DT X c tc) (ha : XSs X E C a tx) (hb : XSs X E C b ty) : XS X E C (.If c a b pos) (xIf tc tx ty) := by
  obtain ⟨t0, p0, l0⟩ := hc
  obtain ⟨t1, p1, l1⟩ := ha
  obtain ⟨t2, p2, l2⟩ := hb
  refine ⟨_, NI p0 p1 p2, fun σ H ρ μ Xk D S h wsh => ?_⟩
  refine l0 σ H ρ μ _ _ S h fun c μ1 H1 e1 S1 h1 => ?_
  cases c with
  | true => exact zm (l1 σ H1 ρ μ1 Xk D S1 (by simpa using h1) (wsh.on e1))
  | false => exact By (l2 σ H1 ρ μ1 Xk D S1 (by simpa using h1) (wsh.on e1))
theorem jO (h : XS X E C st tx) : XSs X E C (st :: sts) tx := by
  obtain ⟨t1, p1, l1⟩ := h
  exact ⟨_, vf p1 AF, fun σ H ρ μ Xk D S h wsh => l1 σ H ρ μ Xk _ S h wsh⟩
def PJ (td : DTS) (tx : DTX) : DTX := fun ρ μ Xk => td { nx := fun ρ' μ' => tx ρ' μ' Xk, rt := fun _ _ => False } ρ μ
theorem JF {td : DTS} (h : DS X st td) (hr : XSs X E C sts tx) : XSs X E C (st :: sts) (PJ td tx) := by
  obtain ⟨t1, p1, l1⟩ := h
  obtain ⟨t2, p2, l2⟩ := hr
  refine ⟨_, vf p1 p2, fun σ H ρ μ Xk D S h wsh => ?_⟩
  refine l1 σ H ρ μ _ _ S h (fun σ' ρ' μ' H' e' S' q => ?_) (fun d u μ' H' e' ok r q => q.elim) (fun σ' ρ' μ' H' e' S' q => q.elim) (fun σ' ρ' μ' H' e' S' q => q.elim)
  exact l2 σ' H' ρ' μ' Xk D S' q (wsh.on e')
end
theorem _root_.L2.Fun.okX {P : Program} {w : World} {K : PySem.W.Frag} {mg : Str → Option Value} {base : Heap} {x qual : Str} {st : Stmt} {f : Addr} {fd : FuncData} {N ps : List Str} {k : Nat} {C : Value} {dsp : XSp} (F : Fun K x qual st f fd) (S : aD N ps (aq st)) (len : ∀ ds μ Xk, dsp ds μ Xk → ds.length = ps.length)
    (hbody : ∀ (cdv : Value) (A : Around) (outer : List Env) (s : Shared) (H : Hp) (E : XK), fi k (A.deeper (envOfC qual (aq st) s.heap.objs.size f cdv)) →
      ∃ tx, XSs (lS (CX1 P w) P w K mg base N qual (aq st) f cdv A outer s H E) E C (eW st) tx ∧ ∀ ds μ Xk, dsp ds μ Xk → tx (aH N ds) μ Xk) : bG P w K mg base (CX1 P w) (k + 1) f fd ps (spX K C dsp) := by
  obtain ⟨oc, od, kV, doc, pm, an, cdv, ct, osl, rfl, lk, hcd⟩ := F.ex
  refine Jg lk hcd S (fun vs H Q E h => ?_) fun A outer s H vs Q E hr hsp => ?_
  · obtain ⟨ds, μ, Xk, _, r, h, _⟩ := h
    rw [← r.length]; exact len ds μ Xk h
  · obtain ⟨tx, ⟨t, p, l⟩, q⟩ := hbody cdv A outer s H E hr
    obtain ⟨ds, μ, Xk, ok, r, h, wsh⟩ := hsp
    exact ⟨t, p, l (start N vs) H (aH N ds) μ Xk _ ⟨ok, vG r⟩ (q ds μ Xk h) wsh⟩
open PySem PySem.Spec PyProof.Rows
theorem Mj {K : PySem.W.Frag} {h : Heap} {C : Addr} {bmB : List Value} {newId : String} (X : K.In h) (q : PySem.W.excIn K C bmB newId = true) :
    ∃ bm N nm q bs hdct sn sub ab col dd k0 k1 k2 k3 k5 mN, h.get? C = some (excClassObj nm q C N bs bm hdct sn sub ab col dd k0 k1 k2 k3 k5 newId) ∧ h.Ns N mN ∧ mN "__init__" = none ∧ OwnTail h bmB bm := by
  unfold PySem.W.excIn at q
  split at q; rotate_left; · cases q
  rename_i dd cd sl ho; split at q; rotate_left; · cases q
  rename_i C' bm k0 k1 k2 k3 n k5 hm hs
  simp only [Bool.and_eq_true, beq_iff_eq, Bool.not_eq_true'] at q; obtain ⟨⟨⟨⟨⟨rfl, rfl⟩, hdel⟩, ht⟩, hok⟩, hni⟩ := q
  obtain ⟨nm, bs, mro, ns, qn, hd, sn, sub, ab, col, del⟩ := cd; dsimp only at hm hdel hok hni; subst hm hdel
  obtain rfl : sl = #[k0, k1, k2, k3, some (.builtin n), k5] := by obtain ⟨l⟩ := sl; exact congrArg Array.mk hs
  exact ⟨bm, ns, nm, qn, bs, hd, sn, sub, ab, col, dd, k0, k1, k2, k3, k5, _, X _ _ ho, .of_isNs (PySem.W.isNs_of_in X hok), PySem.W.nsMap_none_of_in X hok hni, PySem.W.tail_of_in X ht⟩
section
variable {X : Cx} {E : XK} {x : Str} {C : Addr}
theorem Di {txt : Str} {j} {np kp cpos pos : Pos} (hx : XOk X E) (hg : Gl X x) (hm : X.mg x = some (.ref C)) (hq : PySem.W.excIn X.K C bmV "ValueError.__new__" = true) (hc : X.calm = true := by rfl) (hdb : (x == ("__debug__" : Str)) = false := by decide)
    (hs : starEach [.Constant (.str txt) j kp] X.env = [(false, eval (.Constant (.str txt) j kp) X.env)] := by rfl) :
    XS X E (.ref C) (.Raise (some (.Call (.Name x np) [.Constant (.str txt) j kp] [] cpos)) none pos) (fun _ μ Xk => Xk μ) := by
  refine ⟨fun D σ H => E (.ref C) none H, fun pins s σ H D I h => ?_, fun σ H ρ μ Xk D S h wsh => wsh μ H .refl S.mu h⟩
  obtain ⟨tl, N, nm, q, bs, hdct, sn, sub, ab, col, dd, k0, k1, k2, k3, k5, mN, hC, hN, hni, T⟩ := Mj I.mod.kin hq
  refine wpAny_Raise_call_subT (C := C) (nm := nm) (q := q) (N := N) (bs := bs) (bm := tl) (hdct := hdct) (sn := sn) (sub := sub) (ab := ab) (col := col) (dd := dd) (k0 := k0) (k1 := k1) (k2 := k2) (k3 := k3) (k5 := k5)
    PySem.F.excBase_ValueError (mN := mN) (T.hasType PySem.F.excBase_ValueError.hasBase) (I.ok.hd hc) (by rw [hs]; rfl) hni (q9 I hg hm ⟨rfl, ?_⟩ hdb)
  have pa := gF (X := X) (es := []) (La (x := txt) (j := j) (pos := kp)) nX (by rw [hs]; rfl) cpos pins s σ H (fun vs H1 => vs.length = 1 ∧ H1 = H) I ⟨rfl, rfl⟩
  rw [hs] at pa ⊢
  refine Calls.evalArgs_plain (thn pa fun us s2 ⟨vs, H1, I1, r, l, e1⟩ => ?_)
  subst e1
  exact ⟨rfl, by rw [← r.length, l]; decide, I1.bk _ _ hC, hN.keeps I1.bk, T.keeps I1.bk, fun h' e hm' => hx.new pins σ H1 s2 e _ _ h' I1 hm' h⟩
end
open PySem PySem.Spec PyProof.Rows
structure xn (K : PySem.W.Frag) (C : Addr) : Prop where
  ga : PySem.W.findIn K (.ref C) "__getattribute__" = some (some (.builtin "BaseException.__getattribute__"))
  gx : PySem.W.findIn K (.ref C) "__getattr__" = some none
  cl : PySem.W.findIn K (.ref C) "__class__" = some (some (.builtin "object.__class__"))
  ob : PySem.W.mroIn K C (.type "object") = some true
  be : PySem.W.mroIn K C (.type "BaseException") = some true
  ci : (PySem.W.clsIn K C).isSome = true
section
variable {prog : Program} {w : World} {A : Around} {E : Value → Shared → Prop} {h : Heap} {g : Array GenState} {d : Drawn} {t : Nat} {os : OsState} {a C : Addr} {o : Obj} {K : PySem.W.Frag}
theorem Mg {R : Result → Shared → Prop} (X : K.In h) (Z : xn K C) (hx : h.get? a = some o) (hc : o.cls = .ref C) (hq : R (.ok (.ret (.ref C))) ⟨h, g, d, t, os⟩) :
    codeAny (model prog w) A (.call (.builtin "getset_descriptor.__get__") ⟨[.builtin "object.__class__", .ref a, .ref C], []⟩) R ⟨h, g, d, t, os⟩ := by
  have hT5 : (⟨h, g, d, t, os⟩ : Shared).TypeIs (.builtin "object.__class__") "getset_descriptor" := F.typeOf_object_class
  have sub : ∀ {A' : Around} {Q' : Bool → Shared → Prop} {E' : Value → Shared → Prop} {g' d' t' os'}, Q' true ⟨h, g', d', t', os'⟩ → wpAny (model prog w) A' (isSubtype (.ref C) (.type (".".intercalate ("object.__class__".cutAt '.').dropLast))) Q' E' ⟨h, g', d', t', os'⟩ := fun q => by
    rw [F.owner_object_class]; exact (PySem.W.looks_mroIn X Z.ob).here q
  refine codeAny_call_builtin F.slot_gs_get.plain F.entry_gs_get (F.slot_gs_get.check _ _ _ _ _ _ _ _ hT5 (F.args_gs_get _ _ _) ?_)
  repeat (any_goals (first | assumption | (with_reducible refine wpAny_loadPart_at hx ?_; rw [hc]) | with_reducible refine sub ?_ | wp_step))
  refine ⟨Code.quiet_builtin _ (by decide +kernel), codeAny_builtin F.entry_object_class ?_⟩
  repeat (any_goals (first | assumption | (with_reducible refine wpAny_loadPart_at hx ?_; rw [hc]) | wp_step))
theorem IF {tk : Tok} {Q : Fin → Shared → Prop} (X : K.In h) (Z : xn K C) (hx : h.get? a = some o) (hc : o.cls = .ref C) (hq : Q (.done (.ret (.ref C))) ⟨h, g, d, t, os⟩) :
    wpAny (model prog w) A (Builtin.«object.__getattribute__» ⟨[.ref a, .str "__class__" tk], []⟩) Q E ⟨h, g, d, t, os⟩ := by
  have hT5 : (⟨h, g, d, t, os⟩ : Shared).TypeIs (.builtin "object.__class__") "getset_descriptor" := F.typeOf_object_class
  have f5 := F.typeOf_object_class; have f6 := F.slot_gs_get.lookup; have f7 := F.slot_gs_set.lookup
  have lk : ∀ {A' : Around} {Q' : Option Value → Shared → Prop} {E' : Value → Shared → Prop} {g' d' t' os'}, Q' (some (.builtin "object.__class__")) ⟨h, g', d', t', os'⟩ → wpAny (model prog w) A' (typeLookup (.ref C) "__class__") Q' E' ⟨h, g', d', t', os'⟩ := fun q => (PySem.W.looks_findIn X Z.cl).here q
  repeat (any_goals (first | assumption | (with_reducible refine wpAny_loadPart_at hx ?_; rw [hc]) | with_reducible refine lk ?_ | wp_step))
  refine Mg X Z hx hc ?_
  repeat (any_goals (first | assumption | wp_step))
theorem Iv {nv : Value} {Q : Unit → Shared → Prop} (X : K.In h) (Z : xn K C) (hx : h.get? a = some o) (hc : o.cls = .ref C) (hq : Q () ⟨h, g, d, t, os⟩) : wpAny (model prog w) A (checkBuiltinCall "BaseException.__getattribute__" ⟨[.ref a, nv], []⟩) Q E ⟨h, g, d, t, os⟩ := by
  have hk : builtinKind "BaseException.__getattribute__" = some .slot := by decide +kernel
  have hsp : splitId "BaseException.__getattribute__" = some ("BaseException", "__getattribute__") := by decide +kernel
  have ha := F.args_bexc_ga (.ref a) nv
  have sub : ∀ {A' : Around} {Q' : Bool → Shared → Prop} {E' : Value → Shared → Prop} {g' d' t' os'}, Q' true ⟨h, g', d', t', os'⟩ → wpAny (model prog w) A' (isSubtype (.ref C) (.type "BaseException")) Q' E' ⟨h, g', d', t', os'⟩ := fun q => (PySem.W.looks_mroIn X Z.be).here q
  simp only [checkBuiltinCall, hk, hsp]
  refine wpAny_bind ?_
  unfold isInstance
  repeat (first | (with_reducible refine wpAny_loadPart_at hx ?_; rw [hc]) | with_reducible refine sub ?_ | wp_step)
  exact hq
theorem Lc {tk : Tok} {R : Result → Shared → Prop} (X : K.In h) (Z : xn K C) (hx : h.get? a = some o) (hc : o.cls = .ref C) (hq : R (.ok (.ret (.ref C))) ⟨h, g, d, t, os⟩) :
    codeAny (model prog w) A (.call (.builtin "BaseException.__getattribute__") ⟨[.ref a, .str "__class__" tk], []⟩) R ⟨h, g, d, t, os⟩ :=
  codeAny_call_builtin F.attr_ValueError.ga.plain F.entry_bexc_ga (Iv X Z hx hc (IF X Z hx hc hq))
theorem NY {tk : Tok} {Q : Value → Shared → Prop} (X : K.In h) (Z : xn K C) (hx : h.get? a = some o) (hc : o.cls = .ref C) (hq : Q (.ref C) ⟨h, g, d, t, os⟩) : wpAny (model prog w) A (getAttrBy (.ref a) (.str "__class__" tk) false) Q E ⟨h, g, d, t, os⟩ := by
  have f3 := F.attr_ValueError.ga.bind (.ref a)
  have hx2 : (Value.builtin "BaseException.__getattribute__" == Value.builtin "object.__getattribute__") = false := by decide +kernel
  have hx1 : (onTheHeap (Value.ref C) && Value.builtin "BaseException.__getattribute__" == Value.builtin "object.__getattribute__") = false := by rw [hx2]; rfl
  have lk : ∀ {A' : Around} {Q' : Option Value → Shared → Prop} {E' : Value → Shared → Prop} {g' d' t' os'}, Q' (some (.builtin "BaseException.__getattribute__")) ⟨h, g', d', t', os'⟩ → wpAny (model prog w) A' (typeLookup (.ref C) "__getattribute__") Q' E' ⟨h, g', d', t', os'⟩ := fun q => (PySem.W.looks_findIn X Z.ga).here q
  have lx : ∀ {A' : Around} {Q' : Option Value → Shared → Prop} {E' : Value → Shared → Prop} {g' d' t' os'}, Q' none ⟨h, g', d', t', os'⟩ → wpAny (model prog w) A' (typeLookup (.ref C) "__getattr__") Q' E' ⟨h, g', d', t', os'⟩ := fun q => (PySem.W.looks_findIn X Z.gx).here q
  repeat (any_goals (first | assumption | (with_reducible refine wpAny_loadPart_at hx ?_; rw [hc]) | with_reducible refine lk ?_ | with_reducible refine lx ?_ | wp_step))
  refine Lc X Z hx hc ?_
  repeat (any_goals (first | assumption | wp_step))
theorem JP {Q : Option Value → Shared → Prop} (X : K.In h) (Z : xn K C) (hx : h.get? a = some o) (hc : o.cls = .ref C) (hq : Q (some (.ref C)) ⟨h, g, d, t + 1, os⟩) : wpAny (model prog w) A (getAttr? (.ref a) "__class__") Q E ⟨h, g, d, t, os⟩ := by
  unfold getAttr? getAttrBy?
  repeat (any_goals (first | assumption | with_reducible apply NY X Z hx hc | wp_step))
theorem JG (Z : xn K C) : PySem.W.KitX K (.ref a) (.ref C) (fun h => ∃ o, h.get? a = some o ∧ o.cls = .ref C) where
  ty := fun M h X ⟨o, e, c⟩ => by
    intro A' Q' E' s' k q
    unfold typeOf
    refine wpAny_bind (wpAny_loadPart (k _ _ e) ?_)
    rw [c]
    exact wpAny_pure q
  it := fun M h X _ => by
    have z := Z.ci
    unfold PySem.W.clsIn at z
    split at z
    · rename_i ho
      intro A' Q' E' s' k q
      unfold isType loadHead
      exact wpAny_bind (wpAny_loadPart (k _ _ (X _ _ ho)) (wpAny_pure q))
    · cases z
  ne := fun h tp dd its n sl X htp => by
    refine Bool.eq_false_iff.mpr fun q => ?_
    obtain rfl : C = tp := Value.ref.inj (beq_iff_eq.mp q)
    have z := Z.ci
    unfold PySem.W.clsIn at z
    split at z
    · rename_i ho; have z' := (X _ _ ho).symm.trans htp; cases z'
    · cases z
  ca := fun {_ _ _ _ _ s} X ⟨o, e, c⟩ k => by obtain ⟨h, g, d, t, os⟩ := s; exact JP X Z e c k
end
open PySem PySem.Spec PyProof.Rows
theorem MV {K : PySem.W.Frag} {h : Heap} {c P : Addr} {o : Obj} {q : Str} (X : K.In h) (l : K.lookup c = some o) (e : bT o = some (P, q)) (ne : c ≠ P) : PySem.W.CodeHd h c P := by
  have ho := X _ _ l
  unfold bT at e
  split at e
  · rename_i cn vs hcls hd
    split at e
    · rename_i hcn
      subst hcn
      split at e
      · rename_i q' t' f1 f2 f3 f4 f5 f6 P' f7 f8 e1 e7 e9 e10 e11 e18
        split at e
        · cases e
          refine ⟨o, vs, f7, f8, f2, f3, f4, f5, f6, ho, hcls, hd, e11, ?_, ?_, ?_, ?_, ?_, ne⟩
          · rw [Array.getD_eq_getD_getElem?, e11]; rfl
          · rw [Array.getD_eq_getD_getElem?, e18]; rfl
          · rw [Array.getD_eq_getD_getElem?, e7]; rfl
          · rw [Array.getD_eq_getD_getElem?, e9]; rfl
          · rw [Array.getD_eq_getD_getElem?, e10]; rfl
        · cases e
      · cases e
    · cases e
  · cases e
def N9 (K : PySem.W.Frag) (mg : Str → Option Value) : Prop := ∃ bm ob, mg "__builtins__" = some (.ref bm) ∧ bm ≠ builtinsNs ∧ K.lookup bm = some ob ∧ ob.cls = .type "module" ∧ ob.dict = some builtinsNs ∧ ob.data = .plain
theorem Im {pos : Pos} {w : Value} {l3 : List Value} : ∀ {l : List Value}, TriplesOk l → codeAmong pos l = some w → codeAmong pos (l ++ l3) = some w := by
  intro l
  fun_induction TriplesOk l with
  | case1 => intro _ e; simp [codeAmong] at e
  | case2 a t b u x rest ih =>
    intro h e
    simp only [List.cons_append, codeAmong] at e ⊢
    split at e
    · rename_i hc; rw [if_pos hc]; exact e
    · rename_i hc; rw [if_neg hc]; exact ih h e
  | case3 l h1 h2 => intro h; exact h.elim
theorem IG {pos lpos : Pos} {cv : Value} {c : Value} : ∀ {l : List Value}, TriplesOk l → codeAmong pos l = none → codeAmong pos (l ++ [rawInt lpos.line, rawInt lpos.col, c]) = some cv → cv = c := by
  intro l
  fun_induction TriplesOk l with
  | case1 =>
    intro _ _ e
    simp only [List.nil_append, codeAmong, rawInt] at e
    split at e
    · exact (Option.some.inj e).symm
    · cases e
  | case2 a t b u x rest ih =>
    intro h n e
    simp only [List.cons_append, codeAmong] at n e
    split at n
    · cases n
    · rename_i hc; rw [if_neg hc] at e; exact ih h n e
  | case3 l h1 h2 => intro h; exact h.elim
section
variable {X : Cx} {pins : List (Addr × Obj)} {σ : St} {H : Hp} {s : Shared}
theorem Iu {P c' : Addr} {ps : Array Value} {l3 : List Value} {h' : Heap} {tk : Nat} {φ : Heap → Prop} (I : Inv X pins σ H s) (hP : H P = some (.tbl ps)) (hx : Heap.ExtBut P s.heap h') (ht : h'.get? P = some (PySem.W.tabObj (ps ++ l3.toArray))) (hc : s.heap.objs.size ≤ c') (hφ : φ h') (hc' : ∃ o, h'.get? c' = some o) (hst : ∀ h1 h2 : Heap, φ h1 → (∀ o, h1.get? c' = some o → h2.get? c' = some o) → φ h2) :
    Inv X pins σ (upd (upd H P (.tbl (ps ++ l3.toArray))) c' (.ext φ)) { s with heap := h', toks := tk } := by
  have fc : H c' = none := I.hok.fresh hc
  have nPc : P ≠ c' := aU hP fc
  have low : ∀ b o, s.heap.get? b = some o → b ≠ c' := fun b o e z => absurd (Heap.lt_size e) (by rw [z]; exact Nat.not_lt.mpr hc)
  have old : ∀ b, b ≠ P → b ≠ c' → upd (upd H P (.tbl (ps ++ l3.toArray))) c' (.ext φ) b = H b := fun b h1 h2 => by rw [bD h2, bD h1]
  have atP : upd (upd H P (.tbl (ps ++ l3.toArray))) c' (.ext φ) P = some (.tbl (ps ++ l3.toArray)) := by rw [bD nPc]; exact cP
  refine I.un (t' := tk) ⟨fun b o e n _ _ => hx b o (fun z => by rw [z, hP] at n; cases n) e, fun b o e n _ _ => ⟨o.slots, hx b o (fun z => by rw [z, hP] at n; cases n) e⟩, fun b o e n _ => ?_, fun b o e _ => ?_, fun b xs e => ?_, fun b o u e => ?_, fun b qs e => ?_⟩ fun b o e => ?_
  · rw [old b (fun z => by rw [z, hP] at n; cases n) (low b o e)]; exact n
  · by_cases z : b = P
    · exact ⟨_, by rw [z]; exact ht⟩
    · exact ⟨o, hx b o z e⟩
  · rw [old b (fun z => by rw [z, hP] at e; cases e) (aU e fc)]; exact e
  · rw [old b (fun z => by rw [z, hP] at e; cases e) (aU e fc)]; exact e
  · by_cases z : b = P
    · rw [z] at e; rw [hP] at e; cases e
      exact ⟨l3.toArray, by rw [z]; exact atP⟩
    · exact ⟨#[], by rw [old b z (aU e fc)]; simpa using e⟩
  · by_cases zc : b = c'
    · subst zc
      rw [cP] at e; cases e
      exact ⟨hφ, hc', hst⟩
    · by_cases z : b = P
      · subst z
        rw [atP] at e; cases e
        exact ht
      · rw [old b z zc] at e
        refine (I.hok b o e).xl (fun d u hd q => hx d u ?_ q) (fun d q => ?_) fun d xs q => ?_
        · rcases hd with rfl | hd
          · exact z
          · exact fun y => by rw [y, hP] at hd; cases hd
        · rw [old d (fun y => by rw [y, hP] at q; cases q) (aU q fc)]; exact q
        · rw [old d (fun y => by rw [y, hP] at q; cases q) (aU q fc)]; exact q
theorem K3 {K : PySem.W.Frag} {P c' : Addr} {ps : Array Value} {q : Str} {lpos : Pos} (t : zq K H) (hP : H P = some (.tbl ps)) (htr : TriplesOk ps.toList) (hcs : ∀ pos cv, codeAmong pos ps.toList = some cv → ∃ c, cv = .ref c ∧ H c = some (.ext (codeAt c (bC q)))) (hf : codeAmong lpos ps.toList = none) (fc : H c' = none)
    (hu : ∀ c2 o2 q2, K.lookup c2 = some o2 → bT o2 = some (P, q2) → q2 = q) :
    zq K (upd (upd H P (.tbl (ps ++ [rawInt lpos.line, rawInt lpos.col, .ref c'].toArray))) c' (.ext (codeAt c' (bC q)))) := fun c2 o2 P2 q2 l2 e2 => by
  have nPc : P ≠ c' := aU hP fc
  have old : ∀ b, b ≠ P → b ≠ c' → upd (upd H P (.tbl (ps ++ [rawInt lpos.line, rawInt lpos.col, .ref c'].toArray))) c' (.ext (codeAt c' (bC q))) b = H b := fun b h1 h2 => by rw [bD h2, bD h1]
  have cold : ∀ c qq, H c = some (.ext (codeAt c qq)) → upd (upd H P (.tbl (ps ++ [rawInt lpos.line, rawInt lpos.col, .ref c'].toArray))) c' (.ext (codeAt c' (bC q))) c = some (.ext (codeAt c qq)) := fun c qq h => by rw [old c (fun z => by rw [z, hP] at h; cases h) (aU h fc)]; exact h
  by_cases z : P2 = P
  · subst z
    obtain rfl := hu c2 o2 q2 l2 e2
    refine ⟨_, by rw [bD nPc]; exact cP, by rw [Array.toList_append]; exact TriplesOk_snoc _ _ _ _ htr, fun pos cv e => ?_⟩
    rw [Array.toList_append] at e
    cases hp : codeAmong pos ps.toList with
    | some w =>
      obtain ⟨c, hw, hc⟩ := hcs pos w hp
      have : codeAmong pos (ps.toList ++ [rawInt lpos.line, rawInt lpos.col, .ref c']) = some w := Im htr hp
      have e' : some w = some cv := this.symm.trans e
      cases e'
      exact ⟨c, hw, cold c _ hc⟩
    | none =>
      have := IG htr hp (show codeAmong pos (ps.toList ++ [rawInt lpos.line, rawInt lpos.col, .ref c']) = some cv from e)
      exact ⟨c', this, cP⟩
  · obtain ⟨qs, a1, a2, a3⟩ := t c2 o2 P2 q2 l2 e2
    exact ⟨qs, by rw [old P2 z (aU a1 fc)]; exact a1, a2, fun pos cv e => let ⟨c, w1, w2⟩ := a3 pos cv e; ⟨c, w1, cold c _ w2⟩⟩
end
open PySem PySem.Spec PyProof.Rows
def wL (lsc : Scope) (cl : List (Str × Addr)) (q : Str) (fa c1 L : Addr) : Env := { scope := lsc, locals := L, globals := mainGlobals, cells := cl, qual := q ++ ".<locals>.", func := some fa, code := .ref c1, frame := some L, builtins := builtinsNs }
def md (P : Program) (w : World) (K : PySem.W.Frag) (mg : Str → Option Value) (base : Heap) (N : List Str) (lsc : Scope) (cl : List (Str × Addr)) (q : Str) (fa c1 : Addr) (A : Around) (outer : List Env) (s : Shared) (H : Hp) (E : XK) : Cx where
  prog := P
  w := w
  K := K
  mg := mg
  base := base
  A := A.deeper (wL lsc cl q fa c1 s.heap.objs.size)
  N := N
  s₀ := s
  H₀ := H
  env := wL lsc cl q fa c1 s.heap.objs.size
  outer := outer
  stack := wL lsc cl q fa c1 s.heap.objs.size :: outer
  ex := []
  calm := true
  fn := fun _ => false
  pn := []
  xe := fun e s' => wpAny (model P w) (A.deeper (wL lsc cl q fa c1 s.heap.objs.size)) (leaving (wL lsc cl q fa c1 s.heap.objs.size) e) (fun _ s'' => CX1 P w outer H s E e s'') (fun e' s'' => CX1 P w outer H s E e' s'') s'
section
variable {P : Program} {w : World} {K : PySem.W.Frag} {mg : Str → Option Value} {base : Heap} {N : List Str} {lsc : Scope} {cl : List (Str × Addr)} {q : Str} {fa c1 : Addr} {A : Around} {outer : List Env} {s : Shared} {H : Hp} {E : XK} {σ : St} {k : Nat} {params : Arguments} {body : Expr} {pm ctv : Value} {t : TE}
theorem qZ : XOk (md P w K mg base N lsc cl q fa c1 A outer s H E) E where
  new := fun pins σ H1 s1 ea cls vs h1 I hx qq => leave_new (X := md P w K mg base N lsc cl q fa c1 A outer s H E) ⟨rfl, rfl, rfl⟩ I hx qq
  pas := fun pins σ H1 s1 e s' I h => An (X := md P w K mg base N lsc cl q fa c1 A outer s H E) ⟨rfl, rfl, rfl⟩ I h
structure Clo (lsc : Scope) (cl : List (Str × Addr)) (N : List Str) (σ : St) (h : Heap) (H : Hp) : Prop where
  cell : ∀ x c, cl.lookup x = some c → ∃ v, h.IsCell c v
  free : ∀ x c, cl.lookup x = some c → H c = none
  inj : ∀ x y c, cl.lookup x = some c → cl.lookup y = some c → x = y
  has : ∀ x, lsc.names.lookup x = some .cell ∨ lsc.names.lookup x = some .free → ∃ a, cl.lookup x = some a
  vals : ∀ (i : Nat) (x : Str) (v : V), N[i]? = some x → σ[i]? = some (some v) → Vis lsc x → ∃ u c, RelV v u ∧ lsc.names.lookup x = some .free ∧ cl.lookup x = some c ∧ h.IsCell c (some u)
  len : σ.length = N.length
theorem EI {Q : VK} (hk : lsc.kind = .function) (hco : lsc.isCoroutine = false) (hgen : lsc.isGenerator = false) (hcell : ∀ y ∈ lsc.names, y.2 ≠ .cell) (hr : fi (k + 1) A) (e0 : zP P w K mg base A outer s H)
    (ho : s.heap.get? fa = some { cls := .type "function", data := .func (PySem.W.kla_fn "<lambda>" q params body lsc cl pm (.ref c1) ctv) }) (hcd : H c1 = some (.ext (codeAt c1 q))) (hbind : bindArgs (PySem.W.kla_fn "<lambda>" q params body lsc cl pm (.ref c1) ctv) ⟨[], []⟩ = pure [])
    (C : Clo lsc cl N σ s.heap H) (pe : PE (md P w K mg base N lsc cl q fa c1 A outer s H E) body t) (ht : t σ H Q) :
    codeAny (model P w) A (.call (.ref fa) ⟨[], []⟩) (CR (CX1 P w) outer P w H s Q E) s := by
  have crec : s.heap.CodeRec (.ref c1) q := by
    obtain ⟨⟨o, vs, t, g, d, v⟩, _, _⟩ := e0.hok c1 _ hcd
    exact ⟨c1, o, vs, t, rfl, g, d, v⟩
  refine PySem.W.kla_callFunE hr.depth ho rfl hco hgen rfl crec ?_
  rw [hbind]
  refine wpAny_pure (wpAny_newFunctionEnv hcell (fun y hy => nomatch hy) (fun h₁ hns hsb => ?_) hk)
  have hk₁ : ∀ b o, s.heap.get? b = some o → h₁.get? b = some o := fun b o e => hsb.extBut b o (Nat.ne_of_lt (Heap.lt_size e)) (Heap.get?_push_of_some _ e)
  have lim : h₁.NoLimit := e0.mod.nolimit.keeps fun b o e => hk₁ b o (e0.bs b o e).1
  refine ⟨lim, ?_⟩
  have noA : ∀ b : Addr, b ∉ (md P w K mg base N lsc cl q fa c1 A outer s H E).ex := fun b z => nomatch z
  have I : Inv (md P w K mg base N lsc cl q fa c1 A outer s H E) [] σ H { s with heap := h₁, toks := s.toks + ([] : List (Str × Value)).length } := by
    refine ⟨⟨e0.mod, hk, rfl, rfl, Nat.le_refl _, C.inj, C.has, fun _ _ z => (nomatch z), fun _ => hr.hd, .inl hr.hd, Around.frames_deeper e0.frames, .inr ⟨rfl, rfl⟩, fun b z => absurd z (noA b), e0.bs, e0.bsz, fun b _ _ => noA b, fun b z => absurd z (noA b), e0.tV, e0.frf⟩,
      rfl, e0.bare, Un.kept hk₁, ⟨_, hns, fun i x v h1 h2 h3 => ?_⟩, fun x c h => ?_, e0.hok.fresh (Nat.le_refl _), C.free, fun p hp => (nomatch hp), e0.hok.kept hk₁, C.len⟩
    · obtain ⟨u, c, r, f1, f2, o, f3, f4⟩ := C.vals i x v h1 h2 h3
      exact ⟨u, r, .inr ⟨.inr f1, c, f2, o, hk₁ _ _ f3, f4⟩⟩
    · obtain ⟨v, o, f3, f4⟩ := C.cell x c h
      exact ⟨v, o, hk₁ _ _ f3, f4⟩
  show codeAny _ _ (.expr body (wL lsc cl q fa c1 s.heap.objs.size)) _ _
  refine PySem.W.kla_codeExpr (wpAny_mono (pe [] _ σ H Q I ht) (fun v s' hv => ?_) fun e s' hs => hs)
  obtain ⟨x, H', J, r, qq⟩ := hv
  exact ⟨x, H', J.os, J.bare, J.base, J.hok, r, qq⟩
end
open PySem PySem.Spec PyProof.Rows
def cxH (X : Cx) (ea : Addr) (oe : Obj) : Cx := { X with A := X.A.mark (some (.ref ea)), calm := false, pn := (ea, oe) :: X.pn, xe := fun _ _ => False }
section
variable {X : Cx} {pins : List (Addr × Obj)} {σ : St} {H : Hp} {s : Shared} {O : Addr → Prop} {ea : Addr} {oe : Obj} {vs : Array Value}
theorem CF {h' : Heap} (hF : Frm X) (I : Inv X pins σ H s) (k : Kp O (frs (X.env :: X.outer)) s.heap h') (hO : ∀ b o, X.s₀.heap.get? b = some o → O b) (ht : ∀ b, H b ≠ none → O b) (hp : ∀ p ∈ X.pn ++ pins, O p.1) : Inv X pins σ H { s with heap := h' } := by
  have cellK : ∀ c v, s.heap.IsCell c v → h'.IsCell c v := fun c v ⟨o, e, d⟩ => by
    obtain ⟨sl, e'⟩ := k.slot c o e fun vs z => by rw [d] at z; cases z
    exact ⟨_, e', d⟩
  refine ⟨I.ok, I.os, I.bare, ?_, ?_, fun x c e => let ⟨v, q⟩ := I.cell x c e; ⟨v, cellK c v q⟩, I.free, I.ik, fun p hp' => ?_, HOk.fly I.hok k ht (Dl hF I), I.len⟩
  · have k' := k
    rw [vx hF] at k'
    have u := I.base
    rw [hF.ex] at u ⊢
    exact Un.fly u k' hO (HG I) (Ba I)
  · obtain ⟨m, ⟨o, es, ep, e, d, r⟩, hl⟩ := I.loc
    obtain ⟨sl, e'⟩ := k.slot _ o e fun vs z => by rw [d] at z; cases z
    refine ⟨m, ⟨_, es, ep, e', d, r⟩, fun i x v h1 h2 h3 => ?_⟩
    obtain ⟨u, ru, lk⟩ := hl i x v h1 h2 h3
    refine ⟨u, ru, ?_⟩
    rcases lk with z | ⟨z, c, z1, z2⟩
    · exact .inl z
    · exact .inr ⟨z, c, z1, cellK _ _ z2⟩
  · obtain ⟨a1, a2, a3, a4, a5⟩ := I.pin p hp'
    exact ⟨k.keep _ _ a1 (hp p hp') fun z => by
      rw [vx hF] at z
      rcases List.mem_cons.mp z with z | z
      · exact a3 z
      · exact a4 z, a2, a3, a4, a5⟩
theorem Qu (I : Inv X pins σ H s) (he : s.heap.get? ea = some oe) (hH : H ea = none) (hL : ea ≠ X.env.locals) (hfs : ea ∉ X.fs) (hd : oe.data = .fields vs) (h2 : vs[2]? = some .none) : Inv (cxH X ea oe) pins σ H s :=
  ⟨⟨I.ok.mod, I.ok.kind, I.ok.glob, I.ok.blt, I.ok.above, I.ok.inj, I.ok.has, I.ok.cab, fun z => (nomatch z), .inr ⟨ea, oe, vs, rfl, List.mem_cons_self, hd, h2⟩, I.ok.frames, I.ok.stk, I.ok.exf, I.ok.bs, I.ok.bsz, I.ok.Dz, I.ok.Kk, I.ok.tV, I.ok.frf⟩,
    I.os, I.bare, I.base, I.loc, I.cell, I.free, I.ik, fun p hp => by
      rcases List.mem_cons.mp (show p ∈ (ea, oe) :: (X.pn ++ pins) from hp) with z | z
      · rw [z]; exact ⟨he, hH, hL, hfs, fun v y => by rw [hd] at y; cases y⟩
      · exact I.pin p z, I.hok, I.len⟩
theorem Kl {h' : Heap} {m' : Str → Option Value} {tk : Nat} (ok : X.Ok) (I : Inv (cxH X ea oe) pins σ H s) (hn : h'.Ns X.env.locals m') (hs : Heap.SameBut X.env.locals s.heap h') (hx : X.ex = []) : Inv X pins (List.replicate X.N.length none) H { s with heap := h', toks := tk } := by
  have kp : ∀ b o, b ≠ X.env.locals → s.heap.get? b = some o → h'.get? b = some o := fun b o hb e => (hs.2 b hb).trans e
  have low : ∀ b o, X.s₀.heap.get? b = some o → b ≠ X.env.locals := fun b o e => Nat.ne_of_lt (Nat.lt_of_lt_of_le (Heap.lt_size e) ok.above)
  have cne : ∀ x c, X.env.cells.lookup x = some c → c ≠ X.env.locals := I.cne
  have u : Un X.fs X.ex X.H₀ H X.s₀.heap s.heap := I.base
  have hneL : ∀ b ∈ X.fs, b ≠ X.env.locals := fun b hb z => by
    obtain ⟨_, o, e, _⟩ := ok.tV.mem hb
    exact low b o e z
  refine ⟨ok, I.os, I.bare, ⟨fun b o e n f x => kp b o (low b o e) (u.keep b o e n f x), fun b o e n f x => ?_, u.free, fun b o e x => ?_, u.rS, u.pZ, u.qx⟩, ⟨m', hn, fun i x v h1 h2 h3 => ?_⟩, fun x c e => ?_, I.free, I.ik, fun p hp => ?_, fun b o e => ?_, by simp⟩
  · obtain ⟨sl, e1⟩ := u.slot b o e n f x
    exact ⟨sl, kp b _ (low b o e) e1⟩
  · obtain ⟨o1, e1⟩ := u.there b o e x
    exact ⟨o1, kp b o1 (low b o e) e1⟩
  · rw [List.getElem?_replicate] at h2
    split at h2 <;> cases h2
  · obtain ⟨v, o, e1, d⟩ := I.cell x c e
    exact ⟨v, o, kp c o (cne x c e) e1, d⟩
  · obtain ⟨a1, a2, a3, a4, a5⟩ := I.pin p (List.mem_cons_of_mem _ hp)
    exact ⟨kp _ _ a3 a1, a2, a3, a4, a5⟩
  · refine (I.hok b o e).xl (fun d v hd q => kp d v ?_ q) (fun _ q => q) fun _ _ q => q
    have fr : H X.env.locals = none := I.free
    rintro rfl
    rcases hd with z | z
    · rw [← z, fr] at e; cases e
    · rw [fr] at z; cases z
def RN (X : Cx) (di ni : Nat) (C : Value) (tS : Addr → Obj → TS) : TS := fun D σ H => ∃ (fa : Addr) (Good : Hp → Prop), σ[di]? = some (some (.ref fa)) ∧
  (∀ s1, Inv X [] σ H s1 → PySem.W.FnAt fa s1.heap ∧ codeAny (model X.prog X.w) X.A (.call (.ref fa) ⟨[], []⟩) (CR (CX1 X.prog X.w) X.stack X.prog X.w H s1 (fun _ _ => False) (fun cls _ H' => cls = C ∧ Good H')) s1) ∧
  ∀ H' ea oe, Good H' → oe.cls = C → H' ea = none → tS ea oe { nx := fun _ _ => False, rt := D.rt } (σ.set ni (some (.ref ea))) H'
theorem Og {dn x n : Str} {dp cp ep np hp pos : Pos} {di ni : Nat} {b₀ : Stmt} {suite : List Stmt} {C FE : Addr} {tS : Addr → Obj → TS} (hF : Frm X) (hpn : X.pn = []) (hNd : X.N.Nodup) (hd : X.N[di]? = some dn) (hv : Vis X.env.scope dn) (hn : X.N[ni]? = some n) (hl : X.env.kindOf n = some .local) (hg : Gl X x) (hm : X.mg x = some (.ref FE))
    (hex : PySem.W.exmOne X.K (.ref C) (.ref FE) = some true) (hs : ∀ ea oe, PSs (cxH X ea oe) (b₀ :: suite) (tS ea oe)) (hdb : (dn == ("__debug__" : Str)) = false := by decide) (hdc : (dn == ("__classdict__" : Str)) = false := by decide) (hxb : (x == ("__debug__" : Str)) = false := by decide)
    (hsw : swapsWith (.Call (.Name dn dp) [] [] cp) none ep.line X.env = pure false := by rfl) (pins0 : List (Addr × Obj)) (s : Shared) (σ : St) (H : Hp) (D : Ends) (hp0 : pins0 = []) (I0 : Inv X pins0 σ H s) (h : RN X di ni (.ref C) tS D σ H) :
    wpAny (model X.prog X.w) X.A (exec (.Try [.Expr (.Call (.Name dn dp) [] [] cp) ep] [.ExceptHandler (some (.Name x np)) (some n) (b₀ :: suite) hp] [] [] pos) X.env) (SP X pins0 D) X.xe s := by
  subst hp0
  obtain ⟨fa, Good, hσ, deed, good⟩ := h
  refine wpAny_Try_except (wpAny_execs_cons (wpAny_Expr_any (wpAny_Call_Name_kw (wpAny_mono (xY (X := X.nox) hd hv hdb hdc [] s σ H (fun v H1 => v = .ref fa ∧ H1 = H) (I0.xo _) ⟨.ref fa, hσ, rfl, rfl⟩) (fun v s1 hv1 => ?_) fun _ _ z => z.elim)) I0.quiet hsw))
  obtain ⟨y, H1, I1, r, e1, e2⟩ := hv1
  subst e1 e2
  cases r
  have I1 := I1.mM
  obtain ⟨fn, code⟩ := deed s1 I1
  refine PySem.W.callWith_F0 fn (wpAny_call (codeAny_mono code fun r s' hr => ?_))
  cases r with
  | ok fl =>
    cases fl with
    | ret u => obtain ⟨_, _, _, _, _, _, _, z⟩ := hr; exact z.elim
    | next => exact hr.elim
    | brk => exact hr.elim
    | cont => exact hr.elim
  | error e =>
    obtain ⟨O, ea, cls, H', rfl, os, bare, un, hok, hO, ht, F, rfl, gd⟩ := hr
    have I' : Inv X [] σ H' s' := I1.x5 (ch := []) os un hok bare (fun b z => nomatch z)
    have fr : X.A.frames = some (X.env :: X.outer) := by rw [← hF.stk]; exact I0.ok.frames
    have hO0 : ∀ b o, X.s₀.heap.get? b = some o → O b := fun b o e => by
      obtain ⟨o', e'⟩ := I1.base.there b o e (by rw [hF.ex]; exact fun z => nomatch z)
      exact hO b o' e'
    have hpp : ∀ p ∈ X.pn ++ ([] : List (Addr × Obj)), O p.1 := fun p hp => by rw [hpn] at hp; exact nomatch hp
    have hLO : O X.env.locals := by
      obtain ⟨m, ⟨o, es, ep, e, _⟩, _⟩ := I1.loc
      exact hO _ o e
    refine Aw (s := s') fr (vP hF I') hF.fr F fun h2 k2 F2 => ?_
    have I2 := CF hF I' k2 hO0 ht hpp
    refine ma (s := { s' with heap := h2 }) (fs := frs (X.env :: X.outer)) F2 fun h3 k3 F3 => ?_
    have I3 := CF hF I2 k3 hO0 ht hpp
    have keyE : ∀ {h : Heap} {fl : Value}, Fly O h ea (.ref C) fl → ∀ {s4 : Shared}, s4.heap = h → Inv X [] σ H' s4 → ∃ oe, oe.cls = .ref C ∧ s4.heap.get? ea = some oe ∧ H' ea = none ∧ Inv (cxH X ea oe) [] σ H' s4 := fun {h fl} G {s4} e4 I4 => by
      obtain ⟨_, oe, vs, T, oT, ts, g1, g2, g3, g4, g5, g6, _⟩ := G
      have hH : H' ea = none := by
        cases z : H' ea with
        | none => rfl
        | some o => exact absurd (ht ea (by rw [z]; exact fun y => nomatch y)) g6
      refine ⟨oe, g2, by rw [e4]; exact g1, hH, Qu I4 (by rw [e4]; exact g1) hH (fun z => g6 (by rw [z]; exact hLO)) (fun z => ?_) g3 g5⟩
      exact Ba I4 ea z oe (by rw [e4]; exact g1) vs g3
    obtain ⟨oe3, c3, g3, n3, H3⟩ := keyE F3 rfl I3
    refine wpAny_handleBy_cons (codeAny_handlers_test (q9 (X := cxH X ea oe3) H3 hg hm ?_ hxb)) (by intro z; cases z)
    refine (PySem.W.exm_one (M := model X.prog X.w) (K := X.K) (h := h3) I3.kIn (fun A' Q' E' s4 kk q => ?_) hex).here ?_
    · have e3 := kk _ _ g3
      unfold typeOf
      refine wpAny_bind (wpAny_loadPart e3 ?_)
      rw [c3]
      exact wpAny_pure q
    · refine codeAny_handlers_suite_as (ma (s := { s' with heap := h3 }) (fs := frs (X.env :: X.outer)) F3 fun h4 k4 F4 => ?_)
      have I4 := CF hF I3 k4 hO0 ht hpp
      obtain ⟨oe, c4, g4, n4, H4⟩ := keyE F4 rfl I4
      refine mU (X := cxH X ea oe) (v := .ref ea) H4 hNd hn (Or.inl hl) rfl (fun s5 I5 => ?_) (Or.inr hl)
      refine wpAny_mono (hs ea oe [] s5 _ H' { nx := fun _ _ => False, rt := D.rt } I5 (good H' ea oe gd c4 n4)) (fun f s6 h6 => ?_) fun e s6 z => z.elim
      cases f with
      | next => obtain ⟨_, _, _, z⟩ := h6; exact z.elim
      | brk => obtain ⟨_, _, _, z⟩ := h6; exact z.elim
      | cont => obtain ⟨_, _, _, z⟩ := h6; exact z.elim
      | ret u =>
        obtain ⟨v, σ', H6, I6, r6, q6⟩ := h6
        obtain ⟨m6, hn6, _⟩ := I6.loc
        refine wpAny_nameGoes (env := X.env) hl hn6 (by rw [I0.ok.kind]; rfl) fun h7 m7 hn7 hs7 => ?_
        exact ⟨v, _, H6, Kl I0.ok I6 hn7 hs7 hF.ex, r6, q6⟩
end
open PySem PySem.Spec PyProof.Rows
theorem Ny {CX : CXT} {P : Program} {w : World} {K : PySem.W.Frag} {mg : Str → Option Value} {base : Heap} {k : Nat} {f : Addr} {name qual : Str} {params : Arguments} {body : List Stmt} {scope : Scope} {dV kV doc pm cdv ct oc : Value} {an od : Option Addr} {osl : Array (Option Value)} {N ps : List Str}
    {A : Around} {outer : List Env} {s : Shared} {H : Hp} {args : Args} {us : List Value} {vs : List V} {Q : VK} {E : XK} (lk : K.lookup f = some ⟨oc, od, .func (PySem.W.fnOf name qual params body scope dV kV doc pm an cdv ct), osl⟩) (hcd : PySem.W.codeIn K cdv qual = true) (S : aD N ps scope)
    (hl : vs.length = ps.length) (hr : fi (k + 1) A) (e0 : zP P w K mg base A outer s H) (hb : BindsTo s (PySem.W.fnOf name qual params body scope dV kV doc pm an cdv ct) args (ps.zip us)) (r : Vals vs us)
    (hq : ∀ s1, Inv (lS CX P w K mg base N qual scope f cdv A outer s H E) [] (start N vs) H s1 → wpAny (model P w) (A.deeper (envOfC qual scope s.heap.objs.size f cdv)) (execs body (envOfC qual scope s.heap.objs.size f cdv)) (SP (lS CX P w K mg base N qual scope f cdv A outer s H E) [] { nx := fun _ H' => Q .non H', rt := Q }) (lS CX P w K mg base N qual scope f cdv A outer s H E).xe s1) :
    codeAny (model P w) A (.call (.ref f) args) (CR CX outer P w H s Q E) s := by
  have KX : K.In s.heap := e0.mod.kin.keeps fun b o e => (e0.bs b o e).1
  have lim : s.heap.NoLimit := e0.mod.nolimit.keeps fun b o e => (e0.bs b o e).1
  have hkind : ∀ y ∈ ps.zip us, scope.names.lookup y.1 = some .local ∨ (scope.names.lookup y.1 = some .cell ∧ ((cellsFrom (s.heap.objs.size + 1) scope.names []).lookup y.1).isSome = true) := fun ⟨n, v⟩ hy => by
    rcases S.par n (List.of_mem_zip hy).1 with q | q
    · exact .inl q
    · exact .inr ⟨q, PySem.W.cellsFrom_some _ _ _ (.inl q)⟩
  refine codeAny_call_function hr.depth (KX _ _ lk) rfl S.co S.gen rfl (PySem.W.codeRec_of KX hcd) (hb _ _ _ _ ?_)
  refine wpAny_newFunctionEnv_cells S.kind hkind fun env he s1 x => ?_
  subst he
  refine ⟨lim.keeps x.toInCall.keep, codeAny_func ?_⟩
  have I : Inv (lS CX P w K mg base N qual scope f cdv A outer s H E) [] (start N vs) H s1 := Ak S hr.hd e0 hl r x
  refine wpAny_mono (hq s1 I) (fun fl s' hs => ?_) fun e s' hs => hs
  have fin : ∀ {σ' : St} {H' : Hp} {v : V} {u : Value}, Inv (lS CX P w K mg base N qual scope f cdv A outer s H E) [] σ' H' s' → RelV v u → Q v H' → CE outer P w H s Q u s' :=
    fun {σ' H' v u} J rv q => ⟨v, H', J.os, J.bare, J.base, J.hok, rv, q⟩
  cases fl with
  | ret u => obtain ⟨v, σ', H', J, rv, q⟩ := hs; exact fin J rv q
  | next => obtain ⟨σ', H', J, q⟩ := hs; exact fin (v := V.non) (u := Value.none) J rfl q
  | brk => obtain ⟨_, _, _, q⟩ := hs; exact False.elim q
  | cont => obtain ⟨_, _, _, q⟩ := hs; exact False.elim q
structure El (P : Program) (w : World) (K : PySem.W.Frag) (mg : Str → Option Value) (base : Heap) (k : Nat) (f : Addr) (fd : FuncData) (dn : Str) (C : Value) (nm : Str) : Prop where
  run : ∀ (A : Around) (outer : List Env) (s : Shared) (H : Hp) (fa : Addr) (Good : Hp → Prop) (Q : VK), fi (k + 1) A → zP P w K mg base A outer s H → BindsTo s fd ⟨[.ref fa], []⟩ ([dn].zip [.ref fa]) →
    (∀ (A' : Around) (outer' : List Env) (s' : Shared), fi k A' → zP P w K mg base A' outer' s' H → Un (frs outer) [] H H s.heap s'.heap → PySem.W.FnAt fa s'.heap ∧ codeAny (model P w) A' (.call (.ref fa) ⟨[], []⟩) (CR (CX1 P w) outer' P w H s' (fun _ _ => False) (fun cls _ H' => cls = C ∧ Good H')) s') →
    (∀ H', Good H' → ∃ μ, bY K μ H' ∧ ∀ H'', Ext K μ H' μ H'' → bY K μ H'' → Q (.str nm) H'') →
    codeAny (model P w) A (.call (.ref f) ⟨[.ref fa], []⟩) (CR CX0 outer P w H s Q E0) s
theorem Lm {P : Program} {w : World} {K : PySem.W.Frag} {mg : Str → Option Value} {base : Heap} {k : Nat} {f : Addr} {fd : FuncData} {fx qual : Str} {st : Stmt} {dn n y1 y2 x : Str} {dp cp ep np hp pos : Pos} {b₀ : Stmt} {suite rest : List Stmt} {C FE : Addr} {nm : Str} {td : Addr → DTS}
    (F : Fun K fx qual st f fd) (S : aD [dn, n, y1, y2] [dn] (aq st))
    (hbody : eW st = .Try [.Expr (.Call (.Name dn dp) [] [] cp) ep] [.ExceptHandler (some (.Name x np)) (some n) (b₀ :: suite) hp] [] [] pos :: rest)
    (hv : (aq st).names.lookup dn = some .local) (hl : (aq st).names.lookup n = some .local) (hg : (aq st).names.lookup x = some .globalImplicit) (hm : mg x = some (.ref FE)) (hex : PySem.W.exmOne K (.ref C) (.ref FE) = some true)
    (hdb : (dn == ("__debug__" : Str)) = false) (hdc : (dn == ("__classdict__" : Str)) = false) (hxb : (x == ("__debug__" : Str)) = false)
    (hsw : ∀ env : Env, swapsWith (.Call (.Name dn dp) [] [] cp) none ep.line env = pure false)
    (hs : ∀ (cdv : Value) (A : Around) (outer : List Env) (s : Shared) (H : Hp) (ea : Addr) (oe : Obj), oe.cls = .ref C → fi k (lS CX0 P w K mg base [dn, n, y1, y2] qual (aq st) f cdv A outer s H E0).A → DSs (cxH (lS CX0 P w K mg base [dn, n, y1, y2] qual (aq st) f cdv A outer s H E0) ea oe) (b₀ :: suite) (td ea))
    (hrd : ∀ (ea fa : Addr) (μ : Mu) (Qd : DK), Qd (.v (.str nm)) μ → td ea { nx := fun _ _ => False, rt := Qd } [some (.o fa), some (.o ea), none, none] μ) : El P w K mg base (k + 1) f fd dn (.ref C) nm where
  run := fun A outer s H fa Good Q hr e0 hb deed fin => by
    obtain ⟨oc, od, kV, doc, pm, an, cdv, ct, osl, rfl, lk, hcd⟩ := F.ex
    refine Ny (k := k + 1) (vs := [.ref fa]) (us := [.ref fa]) lk hcd S rfl hr e0 hb (.cons rfl .nil) fun s1 I => ?_
    show wpAny _ _ (execs (eW st) _) _ _ _
    rw [hbody]
    have hX : ∀ ea oe, PSs (cxH (lS CX0 P w K mg base [dn, n, y1, y2] qual (aq st) f cdv A outer s H E0) ea oe) (b₀ :: suite) (fun D σ' H' => oe.cls = .ref C ∧ H' ea = none ∧ σ' = (start [dn, n, y1, y2] [V.ref fa]).set 1 (some (.ref ea)) ∧ ∃ μ, bY K μ H' ∧ ∀ H'', Ext K μ H' μ H'' → bY K μ H'' → D.rt (.str nm) H'') := fun ea oe pins' s' σ' H' D I' h => by
      obtain ⟨hc, hH, rfl, μ, ok, q⟩ := h
      obtain ⟨t, p, l⟩ := hs cdv A outer s H ea oe hc ((hr.deeper _).mono (Nat.le_succ _))
      refine p pins' s' _ H' D I' (l _ H' [some (.o fa), some (.o ea), none, none] μ { nx := fun _ _ => False, rt := fun d μ' => d = .v (.str nm) ∧ μ' = μ } D ⟨ok, rfl, fun i d e => ?_⟩ (hrd ea fa μ _ ⟨rfl, rfl⟩) (fun _ _ _ _ _ _ z => z.elim) (fun d u μ' H'' e' ok' r ⟨z1, z2⟩ => ?_) (fun _ _ _ _ _ _ z => z.elim) (fun _ _ _ _ _ _ z => z.elim))
      · match i, e with
        | 0, e => cases e; exact ⟨.ref fa, rfl, rfl⟩
        | 1, e => cases e; exact ⟨.ref ea, rfl, rfl⟩
        | 2, e => cases e
        | 3, e => cases e
      · subst z1 z2
        cases r
        exact q H'' e' ok'
    refine wpAny_execs_cons (wpAny_mono (Og (X := lS CX0 P w K mg base [dn, n, y1, y2] qual (aq st) f cdv A outer s H E0) (C := C) (FE := FE) (di := 0) (ni := 1) ⟨rfl, rfl, rfl⟩ rfl S.nd rfl (Or.inl hv) rfl hl hg hm hex hX hdb hdc hxb (hsw _) [] s1 _ H { nx := fun _ _ => False, rt := Q } rfl I
      ⟨fa, Good, rfl, fun s2 I2 => deed _ _ s2 (hr.deeper _) I2.Lw I2.base, fun H' ea oe gd c hn => ⟨c, hn, rfl, fin H' gd⟩⟩) (fun fl s' hs' => ?_) fun _ _ z => z)
    cases fl with
    | ret u => exact hs'
    | next => obtain ⟨_, _, _, z⟩ := hs'; exact z.elim
    | brk => obtain ⟨_, _, _, z⟩ := hs'; exact z.elim
    | cont => obtain ⟨_, _, _, z⟩ := hs'; exact z.elim
open PySem PySem.Spec PyProof.Rows
section
variable {X : Cx} {e : Expr} {te : DTE} {p py pos : Pos} {y : Str} {C : Addr} {b : Bool} {ea : Addr} {oe : Obj}
def fZ (ea : Addr) (b : Bool) (te : DTE) : DTE := fun ρ μ Q => te ρ μ fun x μ1 => match x with
  | .o a => a = ea ∧ Q (.v (.bool b)) μ1
  | _ => False
theorem DJ {cv : V} {w : Value} (Z : xn X.K C) (hp : (ea, oe) ∈ X.pn) (hc : oe.cls = .ref C) (r : RelV cv w) (hw : ∀ u, RelV cv u → u = w) (ek : PySem.W.kitOne X.K (.ref C) w = some b) : i4 X (.builtin "isinstance") (fun xs H Q => xs = [.ref ea, cv] ∧ Q (.bl b) H) := by
  intro pins s σ H xs us Q I rr h
  obtain ⟨rfl, q⟩ := h
  obtain ⟨v, w', rfl, r1, r2⟩ := vals2 rr
  cases r1
  obtain rfl := hw w' r2
  exact PySem.W.kia_one (JG Z) I.kIn ⟨oe, (I.pin (ea, oe) (List.mem_append_left _ hp)).1, hc⟩ ek (fun z => nomatch z) fun tk => ⟨.bl b, H, I.tok _, rfl, q⟩
theorem cN {C' : Addr} (Z : xn X.K C) (hp : (ea, oe) ∈ X.pn) (hc : oe.cls = .ref C) (ek : PySem.W.kitOne X.K (.ref C) (.ref C') = some b) (hg : Gl X "isinstance") (hm : X.mg "isinstance" = none) (hgy : Gl X y) (hmy : X.mg y = some (.ref C')) (ha : DE X e te) (hdy : (y == ("__debug__" : Str)) = false := by decide)
    (he : starEach [e, .Name y py] X.env = (false, eval e X.env) :: starEach [.Name y py] X.env := by rfl) (he2 : starEach [.Name y py] X.env = [(false, eval (.Name y py) X.env)] := by rfl) (hpl : (backTo pos (starEach [.Name y py] X.env)).any (·.1) = false := by rfl) : DE X (.Call (.Name "isinstance" p) [e, .Name y py] [] pos) (fZ ea b te) := by
  obtain ⟨t1, p1, l1⟩ := ha
  refine ⟨_, uM (DJ (cv := .ref C') Z hp hc rfl (fun u h => h) ek) hg hm PyProof.Rows.Boot.«isinstance» (gF p1 (gF (GI (v := .ref C') hgy hmy rfl hdy) nX he2) he) (by decide) (by decide) he hpl, fun σ H ρ μ Qd Q S h k => ?_⟩
  refine l1 σ H ρ μ _ _ S h fun x ux μ1 H1 e1 S1 rx h1 => ?_
  split at h1
  · obtain ⟨rfl, h1⟩ := h1
    obtain rfl : ux = .ref _ := rx
    exact ⟨rfl, k (.v _) _ μ1 H1 e1 S1 (Rp.bool _) h1⟩
  · exact h1.elim
theorem HN {T : String} (Z : xn X.K C) (hp : (ea, oe) ∈ X.pn) (hc : oe.cls = .ref C) (ek : PySem.W.kitOne X.K (.ref C) (.type T) = some b) (hg : Gl X "isinstance") (hm : X.mg "isinstance" = none) (hgy : Gl X y) (hmy : X.mg y = none) (hvy : bootBuiltins y = some (.type T)) (ha : DE X e te) (hny : y ≠ "__name__" := by decide) (hdy : (y == ("__debug__" : Str)) = false := by decide)
    (he : starEach [e, .Name y py] X.env = (false, eval e X.env) :: starEach [.Name y py] X.env := by rfl) (he2 : starEach [.Name y py] X.env = [(false, eval (.Name y py) X.env)] := by rfl) (hpl : (backTo pos (starEach [.Name y py] X.env)).any (·.1) = false := by rfl) : DE X (.Call (.Name "isinstance" p) [e, .Name y py] [] pos) (fZ ea b te) := by
  obtain ⟨t1, p1, l1⟩ := ha
  refine ⟨_, uM (DJ (cv := .ty T) Z hp hc rfl (fun u h => h) ek) hg hm PyProof.Rows.Boot.«isinstance» (gF p1 (gF (GX (v := .ty T) hgy hmy hvy rfl hny hdy) nX he2) he) (by decide) (by decide) he hpl, fun σ H ρ μ Qd Q S h k => ?_⟩
  refine l1 σ H ρ μ _ _ S h fun x ux μ1 H1 e1 S1 rx h1 => ?_
  split at h1
  · obtain ⟨rfl, h1⟩ := h1
    obtain rfl : ux = .ref _ := rx
    exact ⟨rfl, k (.v _) _ μ1 H1 e1 S1 (Rp.bool _) h1⟩
  · exact h1.elim
end
structure Rm (K : PySem.W.Frag) (mg : Str → Option Value) (c P : Addr) (q : Str) : Prop where
  obj : ∃ o, K.lookup c = some o ∧ bT o = some (P, q)
  one : ∀ c2 o2 q2, K.lookup c2 = some o2 → bT o2 = some (P, q2) → q2 = q
  blt : N9 K mg
end L2.DL
set_option Elab.async false
set_option linter.all false
set_option maxRecDepth 100000
set_option maxHeartbeats 4000000
namespace L2
open PySem PySem.Spec PyProof.Rows DL
def P9 (tabs : List Addr) (H : Hp) : Prop := ∀ b, H b = none ∨ (∃ o xs, H b = some (.frz o (.lst xs))) ∨ (b ∈ tabs ∧ H b = some (.tbl #[]))
theorem IH {P : Program} {w : World} {K : PySem.W.Frag} {mg mb : Str → Option Value} {CX : CXT} {k : Nat} {fa a : Addr} {fd : FuncData} {x : Str} {sp : Sp} {s₁ : Shared} {vs : List Value} {ns : List Int} (tabs : List Addr)
    (hT : ∀ p ∈ tabs, s₁.heap.get? p = some (PySem.W.tabObj #[]) ∧ K.lookup p = none) (hA2 : ∀ c o p q, K.lookup c = some o → bT o = some (p, q) → p ∈ tabs) (hC : ∀ p ∈ tabs, isCodeTable s₁.heap p)
    (KX : K.In s₁.heap) (hns : s₁.heap.Ns mainGlobals mg) (hb : s₁.heap.Ns builtinsNs mb) (hbb : ∀ x : Str, x ≠ "__name__" → mb x = bootBuiltins x) (hlim : s₁.heap.NoLimit) (hg : s₁.gens = #[])
    (ha : s₁.heap.get? a = some { cls := .type "list", data := .seq vs.toArray }) (hi : IntsAre vs ns) (hl : ns.length ≤ sizeLine) (hr : fi k callerA)
    (F : ∀ base : Heap, K.In base → base.Ns mainGlobals mg → bG P w K mg base CX k fa fd [x] sp) (hbind : ∀ (s : Shared) (u : Value), BindsTo s fd ⟨[u], []⟩ [(x, u)])
    (hsp : ∀ H : Hp, zq K H → SqL K H a (ns.map V.int) → sp [.ref a] H (fun v _ => v = .bl true) fun _ _ _ => False)
    (hCX : ∀ H e s', CX [] H s₁ (fun _ _ _ => False) e s' → False) :
    codeAny (model P w) callerA (.call (.ref fa) ⟨[.ref a], []⟩) (fun r s' => r = .ok (.ret (.bool true)) ∧ OldK s₁.heap s'.heap ∧ s'.os = s₁.os ∧ AllBare s'.gens) s₁ := by
  have rv := Al hi
  have lenV := hi.length
  have ant : a ∉ tabs := fun z => by have := (hT a z).1; rw [ha] at this; cases this
  have core : ∀ H : Hp, P9 tabs H → SqL K H a (ns.map V.int) → HOk P w H s₁.heap → (∀ b, H b ≠ none → b = a ∨ b ∈ tabs) → (H a ≠ none → K.lookup a = none) → (∀ p ∈ tabs, H p = some (.tbl #[])) →
      codeAny (model P w) callerA (.call (.ref fa) ⟨[.ref a], []⟩) (fun r s' => r = .ok (.ret (.bool true)) ∧ OldK s₁.heap s'.heap ∧ s'.os = s₁.os ∧ AllBare s'.gens) s₁ := by
    intro H hO hS hok hA hK hP
    have base_of : ∀ {b : Addr} {o : Obj}, s₁.heap.get? b = some o → H b = none → (Cy s₁.heap H).get? b = some o := fun e n => Lf e n
    have noA : ∀ {b : Addr} {o : Obj} {es : Array DictEntry} {ep : Nat}, s₁.heap.get? b = some o → o.data = .dict es ep → H b = none := fun {b o es ep} e d => by
      cases q : H b with
      | none => rfl
      | some u =>
        rcases hA b (by rw [q]; simp) with e' | e'
        · subst e'
          rw [ha] at e; cases e
          have d' : Data.seq vs.toArray _ = Data.dict es ep := d
          cases d'
        · rw [(hT b e').1] at e; cases e
          have d' : Data.fields #[] = Data.dict es ep := d
          cases d'
    have nsK : ∀ {b : Addr} {m : Str → Option Value}, s₁.heap.Ns b m → (Cy s₁.heap H).Ns b m := fun {b m} ⟨o, es, ep, e, d, r⟩ => ⟨o, es, ep, base_of e (noA e d), d, r⟩
    have hKb : K.In (Cy s₁.heap H) := fun b o e => base_of (KX b o e) (by
      cases q : H b with
      | none => rfl
      | some u =>
        rcases hA b (by rw [q]; simp) with e' | e'
        · subst e'
          rw [hK (by rw [q]; simp)] at e; cases e
        · have e2 := e; rw [show K.lookup b = none from (hT b e').2] at e2; cases e2)
    have hM : Mod K mg (Cy s₁.heap H) := ⟨hKb, nsK hns, ⟨mb, nsK hb, hbb⟩, let ⟨mc, h1, h2⟩ := hlim; ⟨mc, nsK h1, h2⟩⟩
    have e0 : zP P w K mg (Cy s₁.heap H) callerA [] s₁ H := ⟨rfl, hM, fun b o e => MW e, Nat.le_of_eq (HV _ _), trivial, fun b hb => absurd (show b ∈ ([] : List Addr) from hb) (by simp), hok, .of_eq hg⟩
    have tb : zq K H := fun c o p q h1 h2 => ⟨#[], hP p (hA2 c o p q h1 h2), trivial, fun pos cv e => by simp [codeAmong] at e⟩
    refine codeAny_mono ((F _ hKb (nsK hns)).run callerA [] s₁ H ⟨[.ref a], []⟩ [.ref a] [.ref a] _ _ hr e0 (hbind s₁ (.ref a)) (.cons rfl .nil) (hsp H tb hS)) fun r s' h => ?_
    cases r with
    | error e => exact (hCX H e s' h).elim
    | ok fl =>
      cases fl with
      | next => exact False.elim h
      | brk => exact False.elim h
      | cont => exact False.elim h
      | ret u =>
        obtain ⟨v, H', os, bare, un, hok', r', q⟩ := h
        have q' : v = .bl true := q
        subst q'
        obtain rfl : u = Value.bool true := r'
        refine ⟨rfl, ⟨fun b o e => ?_, fun b o e => un.there b o e (by simp)⟩, os, bare⟩
        cases q : H b with
        | none => exact .inl (un.keep b o e q (by intro z; exact absurd (show b ∈ ([] : List Addr) from z) (by simp)) (by simp))
        | some u =>
          rcases hO b with z | ⟨ob, xs, z⟩ | ⟨zt, z⟩
          · rw [q] at z; cases z
          · have z2 := un.pZ b ob _ z
            obtain ⟨e1, _⟩ := hok b _ z
            obtain ⟨e2, _⟩ := hok' b _ z2
            rw [e] at e1; cases e1
            exact .inl e2
          · obtain ⟨more, z2⟩ := un.qx b _ z
            have e2 : s'.heap.get? b = some { cls := .none, data := .fields (#[] ++ more) } := hok' b _ z2
            have e1 := (hT b zt).1
            rw [e] at e1; cases e1
            exact .inr (.inl ⟨hC b zt, rfl, #[], more, rfl, e2⟩)
  have okT : ∀ p ∈ tabs, s₁.heap.get? p = some { cls := .none, data := .fields #[] } := fun p hp => (hT p hp).1
  cases hk : K.lookup a with
  | some o =>
    have e := KX a o hk
    rw [ha] at e
    cases e
    refine core (fun b => if b ∈ tabs then some (.tbl #[]) else none) (fun b => ?_) (.inr ⟨_, vs.toArray, _, hk, rfl, rfl, rfl, by rw [List.size_toArray, lenV]; exact hl, by simpa using rv⟩) (fun b u z => ?_) (fun b z => ?_) (fun z => absurd (if_neg ant) z) (fun p hp => if_pos hp)
    · by_cases hb : b ∈ tabs
      · exact .inr (.inr ⟨hb, if_pos hb⟩)
      · exact .inl (if_neg hb)
    · by_cases hb : b ∈ tabs
      · have z' := (if_pos hb).symm.trans z; cases z'; exact okT b hb
      · have z' := (if_neg hb).symm.trans z; cases z'
    · by_cases hb : b ∈ tabs
      · exact .inr hb
      · exact absurd (if_neg hb) z
  | none =>
    refine core (fun b => if b = a then some (.frz { cls := .type "list", data := .seq vs.toArray } (.lst (ns.map V.int))) else if b ∈ tabs then some (.tbl #[]) else none) (fun b => ?_) (.inl (.inr ⟨{ cls := .type "list", data := .seq vs.toArray }, if_pos rfl⟩)) (fun b u z => ?_) (fun b z => ?_) (fun _ => hk) (fun p hp => by
      have : p ≠ a := fun y => ant (by rw [← y]; exact hp)
      exact (if_neg this).trans (if_pos hp))
    · by_cases hb : b = a
      · exact .inr (.inl ⟨_, _, if_pos hb⟩)
      · by_cases hb2 : b ∈ tabs
        · exact .inr (.inr ⟨hb2, (if_neg hb).trans (if_pos hb2)⟩)
        · exact .inl ((if_neg hb).trans (if_neg hb2))
    · by_cases hb : b = a
      · have z' := (if_pos hb).symm.trans z
        cases z'
        subst hb
        exact ⟨ha, by rw [List.length_map]; exact hl, vs, _, rv, ha⟩
      · by_cases hb2 : b ∈ tabs
        · have z' := ((if_neg hb).trans (if_pos hb2)).symm.trans z; cases z'; exact okT b hb2
        · have z' := ((if_neg hb).trans (if_neg hb2)).symm.trans z; cases z'
    · by_cases hb : b = a
      · exact .inl hb
      · by_cases hb2 : b ∈ tabs
        · exact .inr hb2
        · exact absurd ((if_neg hb).trans (if_neg hb2)) z
theorem Ly {l : PySem.W.OpenLaw} {n k : Nat} {q : Program} {loose : List Str} {XP : (Str → Option Value) → Heap → Prop} {YP : World → Heap → Prop} {d : DefRec} {K : Params → PySem.W.Frag} {CX : World → CXT} {sp : World → Sp} {x : Str} (tabs : List Addr)
    (hn : l.most = some n) (hn2 : n ≤ sizeLine) (hdf : d.params.defaults = []) (hr : fi k callerA)
    (hY : ∀ (w : World) (h : Heap), YP w h → (K w.params).In h ∧ (∀ p ∈ tabs, h.get? p = some (PySem.W.tabObj #[]) ∧ (K w.params).lookup p = none) ∧ (∀ p ∈ tabs, isCodeTable h p))
    (hA2 : ∀ (w : World) c o p q, (K w.params).lookup c = some o → bT o = some (p, q) → p ∈ tabs)
    (F : ∀ (w : World) (mg : Str → Option Value) (fa : Addr) (h : Heap), (K w.params).In h → h.Ns mainGlobals mg → mg d.name = some (.ref fa) →
      ∃ fd : FuncData, (∀ (s : Shared) (u : Value), BindsTo s fd ⟨[u], []⟩ [(x, u)]) ∧
        ∀ base : Heap, (K w.params).In base → base.Ns mainGlobals mg → bG l.prog w (K w.params) mg base (CX w) k fa fd [x] (sp w))
    (hsp : ∀ (w : World) (H : Hp) (a : Addr) (ns : List Int), ns.length ≤ n → zq (K w.params) H → SqL (K w.params) H a (ns.map V.int) → sp w [.ref a] H (fun v _ => v = .bl true) fun _ _ _ => False)
    (hCX : ∀ (w : World) (H : Hp) (s : Shared) (e : Value) (s' : Shared), CX w [] H s (fun _ _ _ => False) e s' → False) :
    PySem.W.WalkO q loose XP YP l.row.toRowW d [] (fun f vs => PySem.call f vs) := by
  refine Att.D1 hn hdf fun w s₀ s₁ mg mb fa o pm cd doc a vs ns G Y ho hd hcd hmg hobj hints hlen hg => ?_
  obtain ⟨KX, hT, hC⟩ := hY w _ Y
  obtain ⟨fd, hb, hF⟩ := F w mg fa _ KX G.T.g hmg
  exact IH tabs hT (hA2 w) hC KX G.T.g G.T.b G.T.builtins G.T.nolimit hg hobj hints (Nat.le_trans hlen hn2) hr hF hb (fun H hO hS => hsp w H a ns hlen hO hS) fun H e s' => hCX w H s₁ e s'
end L2
namespace L2.DL
open PySem PySem.Spec PyProof.Rows
theorem _root_.L2.Fun.Rv {P : Program} {w : World} {K : PySem.W.Frag} {mg : Str → Option Value} {base : Heap} {x qual : Str} {st : Stmt} {f : Addr} {fd : FuncData} {N ps : List Str} {k : Nat} {dsp : DSp} (F : Fun K x qual st f fd) (S : aD N ps (aq st)) (len : ∀ ds μ Q, dsp ds μ Q → ds.length = ps.length)
    (hbody : ∀ (cdv : Value), fd.code = cdv → ∀ (A : Around) (outer : List Env) (s : Shared) (H : Hp) (E : XK), fi k (A.deeper (envOfC qual (aq st) s.heap.objs.size f cdv)) →
      ∃ td, DSs (lS CX0 P w K mg base N qual (aq st) f cdv A outer s H E).nox (eW st) td ∧ ∀ ds μ Qd, dsp ds μ Qd → td { nx := fun _ μ' => Qd (.v .none) μ', rt := Qd } (aH N ds) μ) : bG P w K mg base CX0 (k + 1) f fd ps (spD K dsp) := by
  obtain ⟨oc, od, kV, doc, pm, an, cdv, ct, osl, rfl, lk, hcd⟩ := F.ex
  refine Jg lk hcd S (fun vs H Q E h => ?_) fun A outer s H vs Q E hr h => ?_
  · obtain ⟨ds, μ, Qd, _, r, h, _⟩ := h
    rw [← r.length]; exact len ds μ Qd h
  · obtain ⟨ds, μ, Qd, ok, r, h, fin⟩ := h
    obtain ⟨td, ⟨t, p, l⟩, rd⟩ := hbody cdv rfl A outer s H E hr
    exact ⟨t, p.nox, l (start N vs) H (aH N ds) μ _ _ ⟨ok, vG r⟩ (rd ds μ Qd h) (fun σ' ρ' μ' H' e' S' q => fin (.v .none) .non μ' H' e' S'.mu Rp.none q) (fun d u μ' H' e' ok' r' q => fin d u μ' H' e' ok' r' q) (fun _ _ _ _ _ _ q => q) (fun _ _ _ _ _ _ q => q)⟩
def Nf (X : Cx) (lsc : Scope) : Option Nat → Str → Prop
  | some j, x => X.N[j]? = some x ∧ Vis X.env.scope x ∧ X.env.kindOf x ≠ some .local ∧ lsc.names.lookup x = some .free
  | none, _ => True
def Qz (X : Cx) (lsc : Scope) : List (Option Nat) → List Str → Prop
  | c :: r, x :: r' => Nf X lsc c x ∧ Qz X lsc r r'
  | _, _ => True
theorem l6 {X : Cx} {lsc : Scope} : ∀ {cap : List (Option Nat)} {N' : List Str}, Qz X lsc cap N' → ∀ (i j : Nat) (x : Str), cap[i]? = some (some j) → N'[i]? = some x → X.N[j]? = some x ∧ Vis X.env.scope x ∧ X.env.kindOf x ≠ some .local ∧ lsc.names.lookup x = some .free
  | [], _, _, i, j, x, h, _ => by simp at h
  | _ :: _, [], _, i, j, x, _, h => by simp at h
  | c :: r, y :: r', h, 0, j, x, h1, h2 => by
    simp at h1 h2; subst h1 h2; exact h.1
  | c :: r, y :: r', h, i + 1, j, x, h1, h2 => l6 h.2 i j x (by simpa using h1) (by simpa using h2)
theorem gn {X : Cx} {lsc : Scope} {j : Nat} {x : Str} (h1 : X.N[j]? = some x := by rfl) (h2 : X.env.kindOf x = some .cell := by rfl) (h3 : lsc.names.lookup x = some .free := by rfl) : Nf X lsc (some j) x :=
  ⟨h1, .inr (.inl h2), (by rw [h2]; decide), h3⟩
theorem GY {K : PySem.W.Frag} {l : List (Addr × Str)} (h : (K.filterMap fun p => bT p.2) = l) {c : Addr} {o : Obj} {P : Addr} {q : Str} (e : K.lookup c = some o) (e2 : bT o = some (P, q)) : (P, q) ∈ l := by
  rw [← h]
  have mem : ∀ (L : List (Addr × Obj)), List.lookup c L = some o → (c, o) ∈ L := fun L => by
    induction L with
    | nil => intro z; cases z
    | cons a r ih =>
      intro z
      rw [List.lookup_cons] at z
      by_cases y : c = a.1
      · rw [y] at z ⊢; simp at z; rw [← z]; exact List.mem_cons_self
      · rw [show (c == a.1) = false from by simpa using y] at z
        exact List.mem_cons_of_mem _ (ih z)
  exact List.mem_filterMap.mpr ⟨(c, o), mem K e, e2⟩
theorem AG {K : PySem.W.Frag} {h : Heap} {c P : Addr} {o : Obj} {q : Str} (X : K.In h) (l : K.lookup c = some o) (e : bT o = some (P, q)) : isCodeTable h P := by
  have ho := X _ _ l
  unfold bT at e
  split at e
  · rename_i cn vs hcls hd
    split at e
    · rename_i hcn
      subst hcn
      split at e
      · rename_i e11 e18
        split at e
        · cases e
          exact ⟨c, o, vs, ho, hcls, hd, by assumption⟩
        · cases e
      · cases e
    · cases e
  · cases e
theorem B0 {K : PySem.W.Frag} {c P : Addr} {q : Str} (h : (K.lookup c).bind bT = some (P, q)) : ∃ o, K.lookup c = some o ∧ bT o = some (P, q) := Option.bind_eq_some_iff.mp h
theorem B2 {K T : PySem.W.Frag} {h : Heap} (X : PySem.W.Frag.In (K ++ T) h) : K.In h := fun b o e => X b o (by
  show List.lookup b (K ++ T) = some o
  rw [List.lookup_append, show List.lookup b K = some o from e]; rfl)
theorem OA {K : PySem.W.Frag} {mg : Str → Option Value} {bm : Addr} {sl : Array (Option Value)} (h1 : mg "__builtins__" = some (.ref bm)) (h2 : bm ≠ builtinsNs) (h3 : K.lookup bm = some ⟨.type "module", some builtinsNs, .plain, sl⟩) : N9 K mg := ⟨bm, _, h1, h2, h3, rfl, rfl, rfl⟩
theorem xE {dsp : XSp} {t : DTA} {ρ : Rho} {μ : Mu} {Xk : Mu → Prop} : pL dsp t ρ μ Xk = t ρ μ (fun ds μ1 => dsp ds μ1 Xk) := propext Iff.rfl
theorem Nz {tc : DTT} {tx ty : DTX} {ρ : Rho} {μ : Mu} {Xk : Mu → Prop} : xIf tc tx ty ρ μ Xk = tc ρ μ (fun b μ1 => if b = true then tx ρ μ1 Xk else ty ρ μ1 Xk) := propext Iff.rfl
theorem NX {td : DTS} {tx : DTX} {ρ : Rho} {μ : Mu} {Xk : Mu → Prop} : PJ td tx ρ μ Xk = td { nx := fun ρ' μ' => tx ρ' μ' Xk, rt := fun _ _ => False } ρ μ := propext Iff.rfl
theorem Qi {ea : Addr} {b : Bool} {i : Nat} {ρ : Rho} {μ : Mu} {Q : DK} (h : ρ[i]? = some (some (.o ea))) : fZ ea b (af i) ρ μ Q = Q (.v (.bool b)) μ := by
  unfold fZ af
  rw [h]
  exact propext ⟨fun z => z.2, fun z => ⟨rfl, z⟩⟩
theorem BP {ea : Addr} {b : Bool} {x : Option D} {r : Rho} {μ : Mu} {Q : DK} : fZ ea b (af 1) (x :: some (.o ea) :: r) μ Q = Q (.v (.bool b)) μ := Qi rfl
def IS : PyData → Option PyData
  | .tuple [.str n, .bool b] => if b = true then some (.str n) else none
  | _ => none
theorem Dq {r : Rho} {μ : Mu} {Q : DK} {ns : List (Str × Bool)} {i : Nat} (hi : r[i]? = some (some (.v (.list (ns.map fun n => .tuple [.str n.1, .bool n.2]))))) (hl : ns.length ≤ 1000) (q : Q (.v (.list ((ns.map fun n => (.tuple [.str n.1, .bool n.2] : PyData)).filterMap IS))) μ) :
    qS [none, none] (yO (af i)) (mW 2 (cV (av 0) (cV (av 1) pJ))) (dB (af 1)) (af 0) r μ Q := by
  rw [BG]
  show (match r[i]? with | some (some d) => _ | _ => False)
  rw [hi]
  refine ⟨by rw [List.length_map]; exact hl, fun p hp => ⟨fun i acc μ' => acc = ((ns.map fun n => (.tuple [.str n.1, .bool n.2] : PyData)).take i).filterMap IS ∧ μ' = aI μ p acc, ⟨rfl, rfl⟩, ?_, ?_⟩⟩
  · rintro i x acc μ' hx hpa ⟨e0, e1⟩
    obtain ⟨n, hn, rfl⟩ := List.mem_map.mp (List.mem_of_getElem? hx)
    have st := xI (f := IS) hx
    obtain ⟨n, b⟩ := n
    refine ⟨rfl, ⟨trivial, ?_⟩⟩
    show if b = true then _ else _
    cases b with
    | true =>
      rw [if_pos rfl]
      refine ⟨hpa, ?_, ?_⟩
      · rw [st, ← e0]; rfl
      · rw [e1, rh]
    | false =>
      rw [if_neg (by decide)]
      refine ⟨hpa, ?_, e1⟩
      rw [st, ← e0]; simp [IS]
  · rintro acc μ' ⟨e0, e1⟩ hpa
    rw [List.take_length] at e0
    rw [e1, e0, AM hp]
    exact q
open PySem PySem.Spec PyProof.Rows
section
end
open PySem PySem.Spec PyProof.Rows
section
variable {X : Cx} {a b e : Expr} {es : List Expr} {ta tb te : DTE} {t : DTA} {p pos : Pos} {x : Str} {bid T : String}
end
open PySem PySem.Spec PyProof.Rows
section
variable {X : Cx} {es : List Expr} {x1 : Nat} {tpos : Pos}
end
open PySem PySem.Spec PyProof.Rows
section
variable {X : Cx} {e : Expr} {te : DTE} {p p2 pos pos2 : Pos}
end
open PySem PySem.Spec PyProof.Rows
def CS (fa c1 : Addr) (q : Str) (params : Arguments) (body : Expr) (lsc : Scope) (cl : List (Str × Addr)) (h : Heap) : Prop := ∃ pm ctv, h.get? fa = some { cls := .type "function", data := .func (PySem.W.kla_fn "<lambda>" (bC q) params body lsc cl pm (.ref c1) ctv) }
def Ia (q : Str) (params : Arguments) (body : Expr) (lsc : Scope) (cl : List (Str × Addr)) : PQ := fun _ u μ H => ∃ fa c1, u = .ref fa ∧ H fa = some (.ext (CS fa c1 q params body lsc cl)) ∧ H c1 = some (.ext (codeAt c1 (bC q))) ∧ μ fa = none ∧ μ c1 = none
def QL (ds : List D) : PQ := fun K u μ H => ∃ a us, u = .ref a ∧ H a = some (.lst us) ∧ μ a = none ∧ jR K μ H ds us
def QT (ds : List D) : PQ := fun K u μ H => ∃ a us, u = .ref a ∧ H a = some (.tup us) ∧ jR K μ H ds us
section
variable {X : Cx} {pins : List (Addr × Obj)} {σ : St} {H : Hp} {s : Shared}
theorem MY {μ : Mu} {params : Arguments} {body : Expr} {lsc : Scope} {lpos : Pos} {cl : List (Str × Addr)} {c P : Addr} {o : Obj} {q : Str} {Qd : Value → Shared → Prop} (I : Inv X pins σ H s) (ok : bY X.K μ H) (hcode : X.env.code = .ref c) (hl : X.K.lookup c = some o)
    (hlc : bT o = some (P, q)) (hu : ∀ c2 o2 q2, X.K.lookup c2 = some o2 → bT o2 = some (P, q2) → q2 = q) (hq : X.env.qual = q ++ ".<locals>.") (hB : N9 X.K X.mg) (hcl : closureFor lsc X.env = pure cl) (hdef : defaultsOf params X.env = ([], []))
    (k : ∀ (fa c1 : Addr) (H1 : Hp) (s1 : Shared), Inv X pins σ H1 s1 → Ext X.K μ H μ H1 → bY X.K μ H1 → H1 fa = some (.ext (CS fa c1 q params body lsc cl)) → H1 c1 = some (.ext (codeAt c1 (bC q))) → Qd (.ref fa) s1) :
    wpAny (model X.prog X.w) X.A (eval (.Lambda params body lsc lpos) X.env) Qd X.xe s := by
  refine PySem.W.kla_eval hdef ?_
  rw [hq]
  obtain ⟨ps, hP, htr, hcs⟩ := ok.tab c o P q hl hlc
  have getP : s.heap.get? P = some (PySem.W.tabObj ps) := I.hok P _ hP
  have nK : ∀ b ob, X.K.lookup b = some ob → b ≠ P := fun b ob e z => by
    have := (I.bs b ob (I.mod.kin b ob e)).2
    rw [z, hP] at this; cases this
  have C := MV I.kIn hl hlc (nK c o hl)
  have hg : s.heap.Ns mainGlobals X.mg := I.mod.glob.keeps I.bk
  have hgP : mainGlobals ≠ P := fun z => by
    obtain ⟨og, es, ep, e, d, _⟩ := hg
    rw [z, getP] at e; cases e; cases d
  have hb : s.heap.BuiltinsAt X.mg P := by
    obtain ⟨bm, ob, b1, b2, b3, b4, b5, b6⟩ := hB
    refine ⟨bm, ob, b1, b2, fun z => ?_, nK bm ob b3, I.kIn _ _ b3, b4, b5, b6⟩
    obtain ⟨og, es, ep, e, d, _⟩ := hg
    rw [← z, I.kIn _ _ b3] at e; cases e; rw [b6] at d; cases d
  have stk : ∀ b, s.heap.objs.size ≤ b → b ∉ frs X.stack := fun b hb hm => by
    obtain ⟨_, ob, e, _⟩ := I.stack.mem hm
    exact absurd (Heap.lt_size e) (Nat.not_lt.mpr hb)
  cases hf : codeAmong lpos ps.toList with
  | some cv =>
    obtain ⟨c1, rfl, hc1⟩ := hcs lpos cv hf
    refine PySem.W.kla_makeFunctionHit hcl I.ok.glob hg hcode C getP htr hf hb fun ctv h' tk hk hsz => ?_
    have fr := I.hok.fresh hsz
    have I2 := I.laid (t' := tk) (h' := h'.push { cls := .type "function", data := .func (PySem.W.kla_fn "<lambda>" (bC q) params body lsc cl ((X.mg "__name__").getD .none) (.ref c1) ctv) }) (a := h'.objs.size) (o := .ext (CS h'.objs.size c1 q params body lsc cl)) (fun b u e => Heap.get?_push_of_some _ (hk b u e)) hsz ⟨⟨_, _, Heap.get?_push_size _ rfl⟩, ⟨_, Heap.get?_push_size _ rfl⟩, fun h1 h2 ⟨pm, ct, e⟩ kk => ⟨pm, ct, kk _ e⟩⟩
    exact k h'.objs.size c1 _ _ I2 (de fr) (ok.new fr) cP (by rw [bD (aU hc1 fr)]; exact hc1)
  | none =>
    refine PySem.W.kla_makeFunction hcl I.ok.glob hg hcode C getP htr hf hgP hb fun c' ctv h' tk hx hge hlt hrec htb => ?_
    have hca : codeAt c' (bC q) h' := by
      obtain ⟨c2, oc, vs, t, e2, g2, d2, v2⟩ := hrec
      cases e2
      exact ⟨oc, vs, t, g2, d2, v2⟩
    have fc : H c' = none := I.hok.fresh hge
    have I1 : Inv X pins σ (upd (upd H P (.tbl (ps ++ [rawInt lpos.line, rawInt lpos.col, .ref c'].toArray))) c' (.ext (codeAt c' (bC q)))) { s with heap := h', toks := tk } := Iu (φ := codeAt c' (bC q)) I hP hx htb hge hca (let ⟨oc, _, _, g2, _⟩ := hca; ⟨oc, g2⟩) (fun h1 h2 ⟨oc, vs, t, g2, d2, v2⟩ kk => ⟨oc, vs, t, kk _ g2, d2, v2⟩)
    have old : ∀ b, b ≠ P → b ≠ c' → upd (upd H P (.tbl (ps ++ [rawInt lpos.line, rawInt lpos.col, .ref c'].toArray))) c' (.ext (codeAt c' (bC q))) b = H b := fun b h1 h2 => by rw [bD h2, bD h1]
    have nPc : P ≠ c' := aU hP fc
    have ex : Ext X.K μ H μ (upd (upd H P (.tbl (ps ++ [rawInt lpos.line, rawInt lpos.col, .ref c'].toArray))) c' (.ext (codeAt c' (bC q)))) := ⟨fun b u e n nt => by rw [old b (fun z => by rw [z, hP] at e; cases e; exact nt) (aU e fc)]; exact e, fun b qs e n => by
      by_cases z : b = P
      · exact ⟨_, by rw [z, bD nPc]; exact cP⟩
      · exact ⟨qs, by rw [old b z (aU e fc)]; exact e⟩, fun _ ds e => ⟨ds, e⟩, fun _ e _ => e⟩
    have mu : bY X.K μ (upd (upd H P (.tbl (ps ++ [rawInt lpos.line, rawInt lpos.col, .ref c'].toArray))) c' (.ext (codeAt c' (bC q)))) := ⟨fun a ds e => by
      obtain ⟨xs, h1, h2⟩ := ok a ds e
      exact ⟨xs, by rw [old a (fun z => by rw [z, hP] at h1; cases h1) (aU h1 fc)]; exact h1, h2.ext ok ex⟩, K3 ok.tab hP htr hcs hf fc hu⟩
    have hfr : s.heap.objs.size ≤ h'.objs.size := Nat.le_trans hge (Nat.le_of_lt hlt)
    have frn : (upd (upd H P (.tbl (ps ++ [rawInt lpos.line, rawInt lpos.col, .ref c'].toArray))) c' (.ext (codeAt c' (bC q)))) h'.objs.size = none := by
      have : h'.objs.size ≠ c' := Nat.ne_of_gt hlt
      by_cases z : h'.objs.size = P
      · exact absurd (Heap.lt_size getP) (by rw [← z]; exact Nat.not_lt.mpr hfr)
      · rw [old _ z this]; exact I.hok.fresh hfr
    have I2 := I1.laid (t' := tk) (h' := h'.push { cls := .type "function", data := .func (PySem.W.kla_fn "<lambda>" (bC q) params body lsc cl ((X.mg "__name__").getD .none) (.ref c') ctv) }) (a := h'.objs.size) (o := .ext (CS h'.objs.size c' q params body lsc cl)) (fun b u e => Heap.get?_push_of_some _ e) (Nat.le_refl _) ⟨⟨_, _, Heap.get?_push_size _ rfl⟩, ⟨_, Heap.get?_push_size _ rfl⟩, fun h1 h2 ⟨pm, ct, e⟩ kk => ⟨pm, ct, kk _ e⟩⟩
    have hc1 : (upd (upd H P (.tbl (ps ++ [rawInt lpos.line, rawInt lpos.col, .ref c'].toArray))) c' (.ext (codeAt c' (bC q)))) c' = some (.ext (codeAt c' (bC q))) := cP
    exact k h'.objs.size c' _ _ I2 (ex.trans (de frn)) (mu.new frn) cP (by rw [bD (aU hc1 frn)]; exact hc1)
end
section
variable {K : PySem.W.Frag} {μ : Mu} {H : Hp} {a : Addr} {us : List V} {ds : List D}
theorem QP (ok : bY K μ H) (ha : H a = some (.lst us)) (hn : μ a = none) (r : jR K μ H ds us) : RpD K μ H (.q (QL ds)) (.ref a) := fun μ' H' e => ⟨a, us, rfl, e.keep _ _ ha hn trivial, e.fresh _ hn (.inl (by rw [ha]; exact fun z => nomatch z)), r.ext ok e⟩
theorem QE (ok : bY K μ H) (ha : H a = some (.tup us)) (r : jR K μ H ds us) : RpD K μ H (.q (QT ds)) (.ref a) := fun μ' H' e => ⟨a, us, rfl, e.keep _ _ ha (ok.not ha fun _ z => nomatch z) trivial, r.ext ok e⟩
theorem Oo {fa c1 : Addr} {q : Str} {params : Arguments} {body : Expr} {lsc : Scope} {cl : List (Str × Addr)} (ok : bY K μ H) (h1 : H fa = some (.ext (CS fa c1 q params body lsc cl))) (h2 : H c1 = some (.ext (codeAt c1 (bC q)))) : RpD K μ H (.q (Ia q params body lsc cl)) (.ref fa) := fun μ' H' e => by
  have n1 := ok.not h1 fun _ z => nomatch z
  have n2 := ok.not h2 fun _ z => nomatch z
  exact ⟨fa, c1, rfl, e.keep _ _ h1 n1 trivial, e.keep _ _ h2 n2 trivial, e.fresh _ n1 (.inl (by rw [h1]; exact fun z => nomatch z)), e.fresh _ n2 (.inl (by rw [h2]; exact fun z => nomatch z))⟩
end
section
variable {X : Cx} {es : List Expr} {t : DTA} {pos : Pos}
def dKq (P : PQ) : DTE := fun _ μ Q => Q (.q P) μ
theorem tW {c P : Addr} {q : Str} {params : Arguments} {body : Expr} {lsc : Scope} {lpos : Pos} {cl : List (Str × Addr)} (L : Rm X.K X.mg c P q) (hcode : X.env.code = .ref c) (hq : X.env.qual = q ++ ".<locals>.") (hdef : defaultsOf params X.env = ([], [])) (hclos : closureFor lsc X.env = pure cl) :
    DE X (.Lambda params body lsc lpos) (dKq (Ia q params body lsc cl)) := by
  refine C1 fun pins s σ H ρ μ Qd Q I S h kk => ?_
  obtain ⟨o, hl, hlc⟩ := L.obj
  refine MY I S.mu hcode hl hlc L.one hq L.blt hclos hdef fun fa c1 H1 s1 I1 ex mu h1 h2 => ?_
  exact ⟨.ref fa, H1, I1, rfl, kk (.q _) (.ref fa) μ H1 ex ⟨mu, S.rho.ext S.mu ex⟩ (Oo mu h1 h2) h⟩
def Li (t : DTA) : DTE := fun ρ μ Q => t ρ μ fun ds μ1 => Q (.q (QL ds)) μ1
theorem L1 (h : DA X es t) (hl : es.length ≤ 1000 := by decide) : DE X (.List es pos) (Li t) := by
  obtain ⟨t1, p1, l1⟩ := h
  refine ⟨_, Ju p1, fun σ H ρ μ Qd Q S h k => ?_⟩
  refine l1 σ H ρ μ _ _ S h fun ds us μ1 H1 e1 S1 rs len h1 => ?_
  refine ⟨Nat.le_of_lt (eL (by rw [← rs.length, len]; exact hl)), fun p hp => ?_⟩
  have e2 := de (K := X.K) (μ := μ1) (o := .lst us) hp
  have S2 := S1.new (o := .lst us) hp
  exact k (.q (QL ds)) _ μ1 _ (e1.trans e2) S2 (QP S2.mu cP (S1.mu.free hp) (rs.ext S1.mu e2)) h1
def vD (t : DTA) : DTE := fun ρ μ Q => t ρ μ fun ds μ1 => Q (.q (QT ds)) μ1
theorem oP {x1} (h : DA X es t) (hl : es.length ≤ 1000 := by decide) : DE X (.Tuple es x1 pos) (vD t) := by
  obtain ⟨t1, p1, l1⟩ := h
  refine ⟨_, Lj p1, fun σ H ρ μ Qd Q S h k => ?_⟩
  refine l1 σ H ρ μ _ _ S h fun ds us μ1 H1 e1 S1 rs len h1 => ?_
  refine ⟨Nat.le_of_lt (eL (by rw [← rs.length, len]; exact hl)), fun p hp => ?_⟩
  have e2 := de (K := X.K) (μ := μ1) (o := .tup us) hp
  have S2 := S1.new (o := .tup us) hp
  exact k (.q (QT ds)) _ μ1 _ (e1.trans e2) S2 (QE S2.mu cP (rs.ext S1.mu e2)) h1
end
open PySem PySem.Spec PyProof.Rows
def Nu (K : PySem.W.Frag) (J : It) (xs : List D) (μ1 : Mu) (H1 : Hp) : Prop := ∀ μ2 H2, Ext K μ1 H1 μ2 H2 → bY K μ2 H2 → ∀ i, (i < xs.length → J.go i H2 ∧ ∀ x H', J.yld i H2 x H' → ∃ d, xs[i]? = some d ∧ qA H2 H' ∧ RpD K μ2 H' d x) ∧ (i = xs.length → J.stop i H2)
abbrev Qv := Rho → Mu → (List D → Mu → Prop) → Prop
def N2 (K : PySem.W.Frag) (wi : TI) (src : Qv) : Prop := ∀ (σ : St) (H : Hp) (ρ : Rho) (μ : Mu) (Qd : List D → Mu → Prop) (R : It → Hp → Prop), St0 K H ρ μ σ → src ρ μ Qd →
  (∀ xs μ1 H1 J, Ext K μ H μ1 H1 → St0 K H1 ρ μ1 σ → Nu K J xs μ1 H1 → Qd xs μ1 → R J H1) → wi σ H R
def diQ (te : DTE) : Qv := fun ρ μ Q => te ρ μ fun d μ1 => ∃ ds, d = .q (QL ds) ∧ Q ds μ1
theorem RC {X : Cx} {e tg : Expr} {te : DTE} (h : DE X e te) : ∃ wi, PI X tg e wi ∧ N2 X.K wi (diQ te) := by
  obtain ⟨t1, p1, l1⟩ := h
  refine ⟨_, G4 p1, fun σ H ρ μ Qd R S h k => ?_⟩
  refine l1 σ H ρ μ _ _ S h fun d u μ1 H1 e1 S1 r h1 => ?_
  obtain ⟨ds, rfl, h1⟩ := h1
  obtain ⟨a, us, rfl, ha, hn, ra⟩ := r μ1 H1 .refl
  refine ⟨a, rfl, ⟨us, SqL.of ha⟩, k ds μ1 H1 _ e1 S1 (fun μ2 H2 e2 ok2 i => ⟨fun hi => ?_, fun hi => ?_⟩) h1⟩
  · have ha2 := e2.keep _ _ ha hn trivial
    have hiu : i < us.length := by rw [← ra.length]; exact hi
    refine ⟨⟨us, us[i], SqL.of ha2, by simp [hiu]⟩, fun x H' ⟨eH, hx⟩ => ?_⟩
    subst eH
    obtain ⟨u', h1', h2'⟩ := (ra.ext S1.mu e2).get (i := i) (d := ds[i]) (by simp [hi])
    have := hx us (SqL.of ha2)
    rw [this] at h1'
    cases h1'
    exact ⟨ds[i], by simp [hi], qA.refl _, h2'⟩
  · have ha2 := e2.keep _ _ ha hn trivial
    exact ⟨us, SqL.of ha2, by rw [← ra.length]; omega⟩
theorem M5 {K : PySem.W.Frag} {μ : Mu} {H : Hp} {ρ : Rho} {σ : St} {d : D} {u : V} (r : el K μ H ρ σ) (h : RpD K μ H d u) : el K μ H (ρ ++ [some d]) (σ ++ [some u]) := by
  refine ⟨by simp [r.1], fun i x e => ?_⟩
  rcases Nat.lt_or_ge i ρ.length with z | z
  · rw [List.getElem?_append_left z] at e
    obtain ⟨v, h1, h2⟩ := r.2 i x e
    exact ⟨v, by rw [List.getElem?_append_left (by rw [← r.1]; exact z)]; exact h1, h2⟩
  · rw [List.getElem?_append_right z] at e
    have zi : i - ρ.length = 0 := by
      rcases Nat.eq_zero_or_pos (i - ρ.length) with q | q
      · exact q
      · rw [List.getElem?_eq_none (by simp; omega)] at e; cases e
    rw [zi] at e
    cases e
    exact ⟨u, by rw [List.getElem?_append_right (by rw [← r.1]; exact z), ← r.1, zi]; rfl, h⟩
def Co (cap : List (Option Nat)) (src : DTE) (g : DTG) (te : Rho → PQ → DTE) : DTE := fun ρ μ Q => diQ src ρ μ fun xs μ1 => xs.length ≤ 1000 ∧ ∃ f : Nat → PyData, (∀ (G : PQ) (i : Nat) (x : D), xs[i]? = some x → ∀ μ' : Mu, (∀ a ds, μ1 a = some ds → μ' a = some ds) → g x (bO cap ρ ++ [some (D.q G)]) μ' fun ρ2 μ2 => Le (bO cap ρ ++ [some (D.q G)]) ρ2 ∧ te ρ G ρ2 μ2 fun d μ4 => μ4 = μ' ∧ d = .v (f i)) ∧ Q (.v (.list ((List.range xs.length).map f))) μ1
theorem Jy {X : Cx} {N' : List Str} {gx : Str} {scope : Scope} {cl : List (Str × Addr)} {elt iter tg : Expr} {pos : Pos} {cap : List (Option Nat)} {src : DTE} {g : DTG} {te : Rho → PQ → DTE} (hc : X.calm = X.calm)
    (hi0 : DE X iter src) (hg : ∀ fp s₃ H₃, DG (aN X (N' ++ [gx]) scope cl fp s₃ H₃) tg g)
    (he : ∀ fp s₃ H₃ pins σ ρ μ₁ (G : PQ), Inv X pins σ H₃ s₃ → St0 X.K H₃ ρ μ₁ σ → (∀ b ∈ fp, ∀ x a, X.env.cells.lookup x = some a → a ≠ b) → (∀ u μ H, G X.K u μ H → el X.K μ H ρ σ) → DE (aN X (N' ++ [gx]) scope cl fp s₃ H₃) elt (te ρ G))
    (hclos : closureFor scope X.env = pure cl) (hcell : ∀ y ∈ scope.names, y.2 ≠ .cell) (hkind : scope.kind = .function) (hnames : ∀ y ∈ scope.names, y.2 = .local → scope.names.lookup y.1 = some .local)
    (hcl : ∀ x a, cl.lookup x = some a → X.env.cells.lookup x = some a) (hhas : ∀ x, (relabel scope X.env).names.lookup x = some .cell ∨ (relabel scope X.env).names.lookup x = some .free → ∃ a, cl.lookup x = some a)
    (hlen : cap.length = N'.length) (hcap : ∀ (i j : Nat) (x : Str), cap[i]? = some (some j) → N'[i]? = some x → X.N[j]? = some x ∧ Vis X.env.scope x ∧ X.env.kindOf x ≠ some .local ∧ ((relabel scope X.env).names.lookup x = some .cell ∨ (relabel scope X.env).names.lookup x = some .free))
    (hgx : (relabel scope X.env).names.lookup gx = none) (hs : ∀ x, foldedSetIterable iter X.env x = pure x := by intro _; rfl) : DE X (.ListComp elt [⟨tg, iter, [], 0⟩] scope pos) (Co cap src g te) := by
  refine C1 fun pins s σ H ρ μ Qd Q I S h k => ?_
  obtain ⟨wi, pw, li⟩ := RC (tg := tg) hi0
  rw [eval_ListComp]
  refine wpAny_comprehension_free (use := none) rfl hs hclos hkind hnames (thn (pw pins s σ H _ I (li σ H ρ μ _ (fun J H1 => ∃ xs μ1, Ext X.K μ H μ1 H1 ∧ St0 X.K H1 ρ μ1 σ ∧ Nu X.K J xs μ1 H1 ∧ xs.length ≤ 1000 ∧ ∃ f : Nat → PyData, (∀ (G : PQ) (i : Nat) (x : D), xs[i]? = some x → ∀ μ' : Mu, (∀ a ds, μ1 a = some ds → μ' a = some ds) → g x (bO cap ρ ++ [some (D.q G)]) μ' fun ρ2 μ2 => Le (bO cap ρ ++ [some (D.q G)]) ρ2 ∧ te ρ G ρ2 μ2 fun d μ4 => μ4 = μ' ∧ d = .v (f i)) ∧ Qd (.v (.list ((List.range xs.length).map f))) μ1) S h (fun xs μ1 H1 J e1 S1 it q => ⟨xs, μ1, e1, S1, it, q⟩)))
    fun v s1 h1 => thn h1 fun itv s2 h2 => ?_)
  obtain ⟨it, fp, tn, J, H2, rfl, I2, T, st2, f2, xs, μ1, e1, S1, itok, hxs, f, body, fin⟩ := h2
  refine wpAny_newObj_type (wpAny_newFunctionEnv hcell (by intro y hy; simp at hy) (fun h₁ hns₁ hsb₁ => ?_) hkind)
  dsimp only at hns₁ hsb₁ ⊢
  have hfree2 : H2 s2.heap.objs.size = none := I2.hok.fresh (Nat.le_refl _)
  have hK2 : X.K.lookup s2.heap.objs.size = none := by
    cases z : X.K.lookup s2.heap.objs.size with
    | none => rfl
    | some o => exact absurd (Heap.lt_size (I2.kIn _ _ z)) (Nat.lt_irrefl _)
  have I3 : Inv X pins σ (upd H2 s2.heap.objs.size (.lst [])) { s2 with heap := s2.heap.push { cls := .type "list", dict := none, data := .seq ([] : List Value).toArray } } :=
    I2.laid (t' := s2.toks) (fun b u e => Heap.get?_push_of_some _ e) (Nat.le_refl _) ⟨Nat.zero_le _, [], 0, .nil, Heap.get?_push_size _ rfl⟩
  generalize hH : s2.heap.push { cls := .type "list", dict := none, data := .seq ([] : List Value).toArray } = hp3 at hns₁ hsb₁ I3 ⊢
  have hsz3 : hp3.objs.size = s2.heap.objs.size + 1 := by rw [← hH, Heap.size_push]
  have kept3 : ∀ b o, hp3.get? b = some o → h₁.get? b = some o := fun b o e => hsb₁.extBut b o (Nat.ne_of_lt (Heap.lt_size e)) (Heap.get?_push_of_some _ e)
  have old3 : ∀ b o, s2.heap.get? b = some o → hp3.get? b = some o := fun b o e => by rw [← hH]; exact Heap.get?_push_of_some _ e
  have fplt : ∀ b ∈ fp, b < s2.heap.objs.size := fun b hb => by obtain ⟨o, e, _⟩ := T.obj 0 _ st2 b hb; exact Heap.lt_size e
  have fpst : ∀ b ∈ fp, b ∉ frs X.stack := fun b hb hz => by
    rcases List.mem_cons.mp (I2.qQ b hz) with e | e
    · exact (f2 b hb).2.1 e
    · exact (f2 b hb).2.2.1 e
  obtain ⟨s3, hs3⟩ : ∃ s3 : Shared, s3 = { s2 with heap := hp3 } := ⟨_, rfl⟩
  obtain ⟨H3, hH3⟩ : ∃ H3 : Hp, H3 = upd H2 s2.heap.objs.size (.lst []) := ⟨_, rfl⟩
  have heap3 : s3.heap = hp3 := by rw [hs3]
  rw [← hH3] at I3
  have I3' : Inv X pins σ H3 s3 := by rw [hs3]; exact I3
  have hloc : H3 hp3.objs.size = none := by have := I3'.hok.fresh (a := hp3.objs.size) (by rw [heap3]; exact Nat.le_refl _); exact this
  have okc : (aN X (N' ++ [gx]) scope cl fp s3 H3).Ok := by
    refine ⟨I3.ok.mod, ?_, I3.ok.glob, I3.ok.blt, Nat.le_refl _, fun x y a h1 h2 => I3.ok.inj x y a (hcl x a h1) (hcl y a h2), fun x hx => hhas x hx, fun x a h => (nomatch h), I3.ok.hd, I3.ok.qt, I3.ok.frames, .inl rfl, fun b hb => ⟨?_, fun x a h => (f2 b hb).2.2.2.2.1 x a (hcl x a h)⟩,
      I3'.bs, Nat.le_trans I3.ok.bsz I3'.sz, fun b o e hb => ?_, fun b hb => fpst b hb, I3'.stack, I3'.uo⟩
    · exact hkind
    · show b ≠ s3.heap.objs.size
      rw [heap3, hsz3]
      exact Nat.ne_of_lt (Nat.lt_succ_of_lt (fplt b hb))
    · rcases (f2 b hb).2.2.2.1 with z | z
      · exact I3.ok.Dz b o e z
      · exact absurd (Nat.lt_of_lt_of_le (Heap.lt_size (I3.ok.bs b o e).1) z) (Nat.lt_irrefl _)
  have I4 : Inv (aN X (N' ++ [gx]) scope cl fp s3 H3) [] (bO cap σ ++ [some .non]) H3 { s2 with heap := h₁, toks := s2.toks + ([] : List (Str × Value)).length } := by
    refine ⟨okc, by show s2.os = s3.os; rw [hs3], I3.bare, Un.kept (by show ∀ b o, s3.heap.get? b = some o → _; rw [heap3]; exact kept3), ⟨_, (by show h₁.Ns s3.heap.objs.size _; rw [heap3]; exact hns₁), fun i x v e1 e2 e3 => ?_⟩, fun x a h => ?_, (by show H3 s3.heap.objs.size = none; rw [heap3]; exact hloc), fun x a h => I3.ik x a (hcl x a h), fun p hp => ?_, I3.hok.kept kept3, ?_⟩
    · have lenS : (bO cap σ).length = N'.length := by unfold bO; rw [List.length_map]; exact hlen
      have hlt : i < N'.length := by
        rcases Nat.lt_trichotomy i N'.length with z | z | z
        · exact z
        · exfalso
          have e1' : (N' ++ [gx])[i]? = some x := e1
          rw [z, List.getElem?_append_right (Nat.le_refl _), Nat.sub_self] at e1'
          have : gx = x := by simpa using e1'
          subst this
          have e3' : Vis (relabel scope X.env) gx := e3
          rcases e3' with q | q | q <;> rw [hgx] at q <;> cases q
        · exfalso
          have e1' : (N' ++ [gx])[i]? = some x := e1
          rw [List.getElem?_eq_none (by simp; omega)] at e1'
          cases e1'
      have e1 : N'[i]? = some x := by have q : (N' ++ [gx])[i]? = some x := e1; rwa [List.getElem?_append_left hlt] at q
      have e2 : (bO cap σ)[i]? = some (some v) := by rwa [List.getElem?_append_left (by rw [lenS]; exact hlt)] at e2
      obtain ⟨j, h1, h2⟩ := nS e2
      obtain ⟨hN, hv, hnl, hk⟩ := hcap i j x h1 e1
      obtain ⟨m, _, hl⟩ := I3.loc
      obtain ⟨u, r, lk⟩ := hl j x v hN h2 hv
      refine ⟨u, r, .inr ⟨hk, ?_⟩⟩
      obtain ⟨a, ha⟩ := hhas x hk
      rcases lk with ⟨z, _⟩ | ⟨_, a', z1, z2⟩
      · exact absurd z hnl
      · have : a' = a := by have q := hcl x a ha; rw [z1] at q; exact Option.some.inj q
        subst this
        obtain ⟨o, ho, hd⟩ := z2
        exact ⟨a', ha, o, kept3 _ _ ho, hd⟩
    · obtain ⟨v, o, ho, hd⟩ := I3.cell x a (hcl x a h)
      exact ⟨v, o, kept3 _ _ ho, hd⟩
    · have hp' : p ∈ X.pn ++ pins := List.mem_append_left _ (by simpa using (show p ∈ X.pn ++ [] from hp))
      obtain ⟨z1, z2, z3, z4, z5⟩ := I3'.pin p hp'
      refine ⟨kept3 _ _ (by rw [← heap3]; exact z1), z2, (show p.1 ≠ s3.heap.objs.size from Nat.ne_of_lt (Heap.lt_size z1)), fun z => ?_, z5⟩
      rcases List.mem_cons.mp (I3'.qQ p.1 z) with e | e
      · exact z3 e
      · exact z4 e
    · show (bO cap σ ++ [some V.non]).length = (N' ++ [gx]).length
      unfold bO
      rw [List.length_append, List.length_append, List.length_map, hlen]
      rfl
  have hμ1 : μ1 s2.heap.objs.size = none := S1.mu.free hfree2
  have sub1 : ∀ ys a ds, μ1 a = some ds → aI μ1 s2.heap.objs.size ys a = some ds := fun ys a ds e => by
    have : a ≠ s2.heap.objs.size := fun z => by rw [z, hμ1] at e; cases e
    rw [dy this]; exact e
  obtain ⟨G, hG⟩ : ∃ G : PQ, G = fun K _ μ H => el K μ H ρ σ := ⟨_, rfl⟩
  have hGr : ∀ u μ H, G X.K u μ H → el X.K μ H ρ σ := fun u μ H h => by rw [hG] at h; exact h
  have S3r : St0 X.K H3 ρ μ1 σ := by rw [hH3]; exact S1.new hfree2
  have loop : codeAny (model X.prog X.w) X.A (.compLoop (.ListComp elt [⟨tg, iter, [], 0⟩] scope pos) 0 (.ref it) (.ref s2.heap.objs.size) (aN X (N' ++ [gx]) scope cl fp s3 H3).env)
      (compPost (model X.prog X.w) X.A X.xe none (EP X pins σ Q) (.ref s2.heap.objs.size) hp3.objs.size) { s2 with heap := h₁, toks := s2.toks + ([] : List (Str × Value)).length } := by
    refine ij (fun n s' => ∃ (i : Nat) (σc : St) (Hc : Hp), n = xs.length - i ∧ i ≤ xs.length ∧ Inv (aN X (N' ++ [gx]) scope cl fp s3 H3) [] σc Hc s' ∧ tn i s'.heap ∧ (∀ b ∈ fp, Hc b = none) ∧
      St0 X.K Hc (bO cap ρ ++ [some (D.q G)]) (aI μ1 s2.heap.objs.size ((List.range i).map f)) σc ∧ Ext X.K μ1 H2 (aI μ1 s2.heap.objs.size ((List.range i).map f)) Hc) ?_ xs.length
      ⟨0, bO cap σ ++ [some .non], H3, by simp, Nat.zero_le _, I4, T.keep 0 _ _ st2 (fun b hb o e => kept3 b o (old3 b o e)), fun b hb => ?_, ?_, ?_⟩
    · rintro n s' ⟨i, σc, Hc, rfl, hi, Ic, tc, frc, Sc, Ec⟩
      have stat : ∀ {Hd : Hp}, (∀ b ∈ fp, Hd b = none) → ∀ b ∈ fp, Ac (aN X (N' ++ [gx]) scope cl fp s3 H3) [] Hd b := fun hn b hb =>
        ⟨hn b hb, (okc.exf b hb).1, fpst b hb, .inl hb, fun x a h => (okc.exf b hb).2 x a h, fun p hp => (f2 b hb).2.2.2.2.2 p (List.mem_append_left _ (by simpa using (show p ∈ X.pn ++ [] from hp)))⟩
      obtain ⟨go, stop⟩ := itok _ Hc Ec Sc.mu i
      by_cases hlt : i < xs.length
      · obtain ⟨g1, y1⟩ := go hlt
        refine thn (T.item (aN X (N' ++ [gx]) scope cl fp s3 H3) rfl rfl rfl (fun z => z) i [] s' σc Hc (fun _ _ => False) Ic (stat frc) tc g1) fun r s4 ⟨u, hr, h4⟩ => ?_
        subst hr
        refine thn h4 fun _ s5 ⟨x, H5, I5, r5, y5, st5, fr5⟩ => ?_
        obtain ⟨d, hd, sm, rd⟩ := y1 x H5 y5
        have I5' := I5.pinned (stat fr5) (T.obj _ _ st5)
        have e5 : Ext X.K _ Hc _ H5 := .of_same (μ := aI μ1 s2.heap.objs.size ((List.range i).map f)) sm
        have S5 : St0 X.K H5 (bO cap ρ ++ [some (D.q G)]) (aI μ1 s2.heap.objs.size ((List.range i).map f)) σc := ⟨Sc.mu.Ld e5 sm, Sc.rho.ext Sc.mu e5⟩
        obtain ⟨gt, pg, lg⟩ := hg fp s3 H3
        have hmem : d ∈ xs := List.mem_of_getElem? hd
        refine thn (pg _ s5 σc H5 x u (fun σ' H' => ∃ ρ' μ', Ext X.K (aI μ1 s2.heap.objs.size ((List.range i).map f)) H5 μ' H' ∧ St0 X.K H' ρ' μ' σ' ∧ Le (bO cap ρ ++ [some (D.q G)]) ρ' ∧ te ρ G ρ' μ' fun d' μ4 => μ4 = aI μ1 s2.heap.objs.size ((List.range i).map f) ∧ d' = .v (f i)) I5' r5
          (lg σc H5 (bO cap ρ ++ [some (D.q G)]) _ d x _ _ S5 rd (body G i d hd _ (sub1 _)) fun σ' ρ' μ' H' e' S' q => ⟨ρ', μ', e', S', q⟩)) fun _ s6 ⟨σ6, H6, I6, ρ6, μ6, e6, S6, le6, q6⟩ => ?_
        have again : ∀ {H9 : Hp} {s9 : Shared}, Inv (aN X (N' ++ [gx]) scope cl fp s3 H3) ([] ++ sL fp s5.heap) σ6 H9 s9 → bY X.K (aI μ1 s2.heap.objs.size ((List.range (i + 1)).map f)) H9 → el X.K (aI μ1 s2.heap.objs.size ((List.range (i + 1)).map f)) H9 (bO cap ρ ++ [some (D.q G)]) σ6 →
            Ext X.K μ1 H2 (aI μ1 s2.heap.objs.size ((List.range (i + 1)).map f)) H9 → ∃ m, m < xs.length - i ∧ ∃ (i : Nat) (σc : St) (Hc : Hp), m = xs.length - i ∧ i ≤ xs.length ∧ Inv (aN X (N' ++ [gx]) scope cl fp s3 H3) [] σc Hc s9 ∧ tn i s9.heap ∧ (∀ b ∈ fp, Hc b = none) ∧
              St0 X.K Hc (bO cap ρ ++ [some (D.q G)]) (aI μ1 s2.heap.objs.size ((List.range i).map f)) σc ∧ Ext X.K μ1 H2 (aI μ1 s2.heap.objs.size ((List.range i).map f)) Hc := fun {H9 s9} I9 m9 r9 e9 => by
          refine ⟨xs.length - (i + 1), by omega, i + 1, σ6, H9, rfl, hlt, I9.lA, T.keep _ _ _ st5 fun b hb o e => (I9.pin (b, o) (List.mem_append_right _ (List.mem_append_right _ (eI hb e)))).1, fun b hb => ?_, ⟨m9, r9⟩, e9⟩
          obtain ⟨o, e, _⟩ := T.obj _ _ st5 b hb
          exact (I9.pin (b, o) (List.mem_append_right _ (List.mem_append_right _ (eI hb e)))).2.1
        refine wpAny_tests_nil (zm ?_)
        · skip
          obtain ⟨t8, p8, l8⟩ := he fp s3 H3 pins σ ρ μ1 G I3' S3r (fun b hb x a h => (f2 b hb).2.2.2.2.1 x a h) hGr
          refine thn (p8 _ s6 σ6 H6 (fun v H' => ∃ y, Ext X.K μ6 H6 (aI μ1 s2.heap.objs.size ((List.range i).map f)) H' ∧ St0 X.K H' ρ6 (aI μ1 s2.heap.objs.size ((List.range i).map f)) σ6 ∧ Rp X.K (aI μ1 s2.heap.objs.size ((List.range i).map f)) H' y v ∧ f i = y) I6
            (l8 σ6 H6 ρ6 μ6 _ _ S6 q6 fun d' v μ8 H8 e8 S8 r8 q8 => ?_)) fun v s8 ⟨v8, H8, I8, r8, y, e8, S8, ry, fy⟩ => ?_
          · obtain ⟨rfl, rfl⟩ := q8
            exact ⟨_, e8, S8, r8, rfl⟩
          · obtain ⟨us, hacc, rus⟩ := S8.mu s2.heap.objs.size _ bI
            have hle : ((List.range i).map f).length ≤ 1000 := by rw [List.length_map, List.length_range]; omega
            refine thn (rH (X := aN X (N' ++ [gx]) scope cl fp s3 H3) _ s8 σ6 H8 (.ref s2.heap.objs.size) [v8] (.ref s2.heap.objs.size) [v] (fun _ H' => H' = upd H8 s2.heap.objs.size (.lst (us ++ [v8]))) I8 rfl (.cons r8 .nil) ⟨_, us, v8, rfl, rfl, hacc, by rw [← rus.length]; exact eL hle, rfl⟩) fun _ s9 ⟨_, H9, I9, _, e9⟩ => ?_
            subst e9
            have et : (List.range (i + 1)).map f = (List.range i).map f ++ [y] := by rw [List.range_succ, List.map_append, ← fy]; rfl
            have mset : aI (aI μ1 s2.heap.objs.size ((List.range i).map f)) s2.heap.objs.size ((List.range (i + 1)).map f) = aI μ1 s2.heap.objs.size ((List.range (i + 1)).map f) := rh
            have ex : Ext X.K (aI μ1 s2.heap.objs.size ((List.range i).map f)) H8 (aI μ1 s2.heap.objs.size ((List.range (i + 1)).map f)) (upd H8 s2.heap.objs.size (.lst (us ++ [v8]))) := by
              rw [← mset]
              exact rq bI
            refine again I9 ?_ ((S8.rho.le le6).ext S8.mu ex) (Ec.trans (e5.trans (e6.trans (e8.trans ex))))
            rw [← mset]
            refine S8.mu.set bI ?_
            rw [et]
            exact rus.append (.cons ry .nil)
      · have ei : i = xs.length := by omega
        subst ei
        refine thn (T.done (aN X (N' ++ [gx]) scope cl fp s3 H3) rfl rfl rfl (fun z => z) _ [] s' σc Hc (fun _ _ => False) Ic (stat frc) tc (stop rfl)) fun r s4 ⟨hr, I5⟩ => ?_
        subst hr
        obtain ⟨m, hn, _⟩ := I5.loc
        refine ⟨m, (by have z : s4.heap.Ns s3.heap.objs.size m := hn; rw [heap3] at z; exact z), fun h' hs' => ?_⟩
        have kp : ∀ b o, b < s2.heap.objs.size → s4.heap.get? b = some o → h'.get? b = some o := fun b o hb e => hs'.extBut b o (by rw [hsz3]; exact Nat.ne_of_lt (Nat.lt_succ_of_lt hb)) e
        have hcC : Hc hp3.objs.size = none := by have z : Hc s3.heap.objs.size = none := I5.free; rw [heap3] at z; exact z
        have hok' : HOk X.prog X.w Hc h' := fun b ob e => by
          refine (I5.hok b ob e).xl (fun cc v hcc q => hs'.extBut cc v ?_ q) (fun _ q => q) fun _ _ q => q
          rintro rfl
          rcases hcc with z | z
          · rw [← z, hcC] at e; cases e
          · rw [hcC] at z; cases z
        have u1 : Un (frs X.stack) fp H2 H3 s2.heap s3.heap := by rw [heap3, hH3]; exact Un.laid old3 (Nat.le_refl _) hfree2
        have u2 : Un (frs X.stack) fp H3 Hc s3.heap s4.heap := I5.base
        have If : Inv X pins σ Hc { s4 with heap := h' } := I2.x5 (ch := fp) (by show s4.os = s2.os; have z : s4.os = s3.os := I5.os; rw [z, hs3]) (Un.after (u1.trans u2) kp) hok' I5.bare fun b hb => ⟨(f2 b hb).2.2.2.1, (f2 b hb).2.1, (f2 b hb).2.2.2.2.1, (f2 b hb).2.2.2.2.2⟩
        obtain ⟨us, hacc, rus⟩ := Sc.mu s2.heap.objs.size _ bI
        have shr : ∀ a, aI μ1 s2.heap.objs.size ((List.range xs.length).map f) a = none → μ1 a = none := fun a e => by
          by_cases ha : a = s2.heap.objs.size
          · rw [ha]; exact hμ1
          · rw [dy ha] at e; exact e
        have eF : Ext X.K μ1 H2 μ1 Hc := ⟨Ec.keep, Ec.tb, fun _ ds q => ⟨ds, q⟩, fun _ q _ => q⟩
        have mF : bY X.K μ1 Hc := ⟨fun a ds q => by
          obtain ⟨ys, z1, z2⟩ := Sc.mu a ds (sub1 _ a ds q)
          exact ⟨ys, z1, z2.shrink shr⟩, Sc.mu.tab⟩
        exact ⟨.ref s2.heap.objs.size, Hc, If, rfl, k (.v (.list ((List.range xs.length).map f))) _ μ1 Hc (e1.trans eF) ⟨mF, S1.rho.ext S1.mu eF⟩ (Rp.list hacc hμ1 (rus.shrink shr)) fin⟩
    · have z : b ≠ s2.heap.objs.size := Nat.ne_of_lt (fplt b hb)
      rw [hH3, bD z]
      exact (f2 b hb).1
    · have ex := ml (o := .lst []) (ds := []) S1.mu hfree2 hK2
      rw [hH3]
      exact ⟨S1.mu.mut .nil hfree2 hK2, M5 (S1.rho.ext S1.mu ex).cap (fun μ' H' e' => by rw [hG]; exact (S1.rho.ext S1.mu ex).ext (S1.mu.mut .nil hfree2 hK2) e')⟩
    · rw [hH3]
      exact ml (o := .lst []) (ds := []) S1.mu hfree2 hK2
  have envE : (aN X (N' ++ [gx]) scope cl fp s3 H3).env = compEnvC scope cl hp3.objs.size X.env := by show compEnvC scope cl s3.heap.objs.size X.env = _; rw [heap3]
  rw [envE] at loop
  exact codeAny_compStart_list loop (T.self X.A 0 _ _ _ (T.keep 0 _ _ st2 (fun b hb o e => kept3 b o (old3 b o e))) loop)
open PySem PySem.Spec PyProof.Rows
structure uF where
  P : PQ
  cap : List (Option Nat)
  tx : DTX
  nm : PyData
def Gu (ρo : Rho) (G : PQ) (gi vi : Nat) (tb : List uF) : DTE := fun ρ μ Q => ρ[gi]? = some (some (.q G)) ∧ ∃ e ∈ tb, ρ[vi]? = some (some (.q e.P)) ∧ e.tx (bO e.cap ρo) μ fun μ' => Q (.v e.nm) μ'
def yi (X : Cx) (k : Nat) (f : Addr) (fd : FuncData) (dn : Str) (e : uF) : Prop :=
  ∃ (C : Value) (q : Str) (params : Arguments) (body : Expr) (lsc : Scope) (cl : List (Str × Addr)) (N' : List Str) (nm : Str), e.nm = .str nm ∧ e.P = Ia q params body lsc cl ∧ El X.prog X.w X.K X.mg X.base k f fd dn C nm ∧
    (∀ (A' : Around) (outer' : List Env) (s' : Shared) (H' : Hp) (fa c1 : Addr) (E : XK), fi (k - 1) (md X.prog X.w X.K X.mg X.base N' lsc cl (bC q) fa c1 A' outer' s' H' E).A → XE (md X.prog X.w X.K X.mg X.base N' lsc cl (bC q) fa c1 A' outer' s' H' E) E C body e.tx) ∧
    (∀ (pm ctv : Value) (c1 : Addr), bindArgs (PySem.W.kla_fn "<lambda>" (bC q) params body lsc cl pm (.ref c1) ctv) ⟨[], []⟩ = pure []) ∧ lsc.kind = .function ∧ lsc.isCoroutine = false ∧ lsc.isGenerator = false ∧ (∀ y ∈ lsc.names, y.2 ≠ .cell) ∧
    (∀ x a, cl.lookup x = some a → X.env.cells.lookup x = some a) ∧ (∀ x, lsc.names.lookup x = some .cell ∨ lsc.names.lookup x = some .free → ∃ a, cl.lookup x = some a) ∧ e.cap.length = N'.length ∧
    (∀ (i j : Nat) (x : Str), e.cap[i]? = some (some j) → N'[i]? = some x → X.N[j]? = some x ∧ Vis X.env.scope x ∧ X.env.kindOf x ≠ some .local ∧ lsc.names.lookup x = some .free)
theorem Az {X : Cx} {k : Nat} {f : Addr} {fd : FuncData} {dn q nm : Str} {C : Value} {params : Arguments} {body : Expr} {lsc : Scope} {cl : List (Str × Addr)} {N' : List Str} {cap : List (Option Nat)} {tx : DTX}
    (R : El X.prog X.w X.K X.mg X.base k f fd dn C nm) (he : ∀ (A' : Around) (outer' : List Env) (s' : Shared) (H' : Hp) (fa c1 : Addr) (E : XK), fi (k - 1) (md X.prog X.w X.K X.mg X.base N' lsc cl (bC q) fa c1 A' outer' s' H' E).A → XE (md X.prog X.w X.K X.mg X.base N' lsc cl (bC q) fa c1 A' outer' s' H' E) E C body tx)
    (hbind : ∀ (pm ctv : Value) (c1 : Addr), bindArgs (PySem.W.kla_fn "<lambda>" (bC q) params body lsc cl pm (.ref c1) ctv) ⟨[], []⟩ = pure [])
    (hkind : lsc.kind = .function) (hco : lsc.isCoroutine = false) (hgen : lsc.isGenerator = false) (hcell : ∀ y ∈ lsc.names, y.2 ≠ .cell) (hcl : ∀ x a, cl.lookup x = some a → X.env.cells.lookup x = some a) (hhas : ∀ x, lsc.names.lookup x = some .cell ∨ lsc.names.lookup x = some .free → ∃ a, cl.lookup x = some a)
    (hlen : cap.length = N'.length) (hcap : ∀ (i j : Nat) (x : Str), cap[i]? = some (some j) → N'[i]? = some x → X.N[j]? = some x ∧ Vis X.env.scope x ∧ X.env.kindOf x ≠ some .local ∧ lsc.names.lookup x = some .free) :
    yi X k f fd dn ⟨Ia q params body lsc cl, cap, tx, .str nm⟩ := ⟨C, q, params, body, lsc, cl, N', nm, rfl, rfl, R, he, hbind, hkind, hco, hgen, hcell, hcl, hhas, hlen, hcap⟩
def A4 (X : Cx) (k : Nat) (f : Addr) (fd : FuncData) (dn : Str) (tb : List uF) : Prop := ∀ e ∈ tb, yi X k f fd dn e
theorem KI {X : Cx} {k : Nat} {f : Addr} {fd : FuncData} {dn : Str} : A4 X k f fd dn [] := fun _ h => nomatch h
theorem Jb {X : Cx} {k : Nat} {f : Addr} {fd : FuncData} {dn : Str} {e : uF} {tb : List uF} (h : yi X k f fd dn e) (t : A4 X k f fd dn tb) : A4 X k f fd dn (e :: tb) := fun x hx => by
  rcases List.mem_cons.mp hx with rfl | hx
  · exact h
  · exact t x hx
theorem E9 {X : Cx} {k : Nat} {f : Addr} {fd : FuncData} {dn rn vn : Str} {N₁ : List Str} {scope : Scope} {cl₀ : List (Str × Addr)} {fp : List Addr} {s₃ : Shared} {H₃ : Hp} {pins : List (Addr × Obj)} {σ : St} {ρo : Rho} {G : PQ} {gi vi : Nat} {tb : List uF} {p pv pos : Pos}
    (I3 : Inv X pins σ H₃ s₃) (hfp : ∀ b ∈ fp, ∀ x a, X.env.cells.lookup x = some a → a ≠ b) (hG : ∀ u μ H, G X.K u μ H → el X.K μ H ρo σ) (T : A4 X k f fd dn tb)
    (hr : fi (k + 1) X.A) (hk0 : 0 < k) (hg : Gl (aN X N₁ scope cl₀ fp s₃ H₃) rn) (hm : X.mg rn = some (.ref f)) (hk : PySem.W.keepIn X.K (.ref f) = true) (hb : Binds X.K fd [dn] [])
    (hN : N₁[vi]? = some vn) (hv : Vis (aN X N₁ scope cl₀ fp s₃ H₃).env.scope vn)
    (hdb : (rn == ("__debug__" : Str)) = false := by decide) (hd : (vn == ("__debug__" : Str)) = false := by decide) (hcd : (vn == ("__classdict__" : Str)) = false := by decide)
    (hst : starEach [.Name vn pv] (aN X N₁ scope cl₀ fp s₃ H₃).env = [(false, eval (.Name vn pv) (aN X N₁ scope cl₀ fp s₃ H₃).env)] := by rfl) :
    DE (aN X N₁ scope cl₀ fp s₃ H₃) (.Call (.Name rn p) [.Name vn pv] [] pos) (Gu ρo G gi vi tb) := by
  refine C1 fun pins' s' σ' H' ρ' μ' Qd Q I S h kk => ?_
  obtain ⟨hgi, e, he, hvi, htx⟩ := h
  obtain ⟨C, q, params, body, lsc, cl, N', nm, hnm, hP, R, hbody, hbind, hkind, hco, hgen, hcell, hcl, hhas, hlen, hcap⟩ := T e he
  obtain ⟨ug, hug, rg⟩ := S.rho.2 gi _ hgi
  have rr : el X.K μ' H' ρo σ := hG ug μ' H' (rg μ' H' .refl)
  obtain ⟨ul, hul, rl⟩ := S.rho.2 vi _ hvi
  rw [hP] at rl
  rw [hnm] at htx
  obtain ⟨fa, c1, rfl, hfa, hc1, n1, n2⟩ := rl μ' H' .refl
  refine wpAny_Call_Name_kw (q9 I hg hm ?_ hdb)
  have pa : PA (aN X N₁ scope cl₀ fp s₃ H₃) [.Name vn pv] (KQ (LZ vi) Pb) := gF (xY hN hv hd hcd) nX (by rw [hst]; rfl)
  refine PySem.W.callWith_K (h₀ := X.base) I.ok.mod.kin hk (thn (pa pos pins' s' σ' H' (fun xs H1 => xs = [.ref fa] ∧ H1 = H') I ⟨.ref fa, hul, rfl, rfl⟩) fun us s1 ⟨vs, H1, I1, r, z1, z2⟩ => ⟨I1.kIn, ?_⟩) (by rw [hst]; rfl) rfl
  subst z1 z2
  obtain rfl : us = [.ref fa] := by
    cases r with
    | cons r1 r2 => cases r2; cases r1; rfl
  refine wpAny_call (codeAny_mono (R.run X.A X.stack s1 H1 fa (fun H' => ∃ μ'', Ext X.K μ' H1 μ'' H' ∧ bY X.K μ'' H' ∧ Qd (.v (.str nm)) μ'') Q hr I1.Lw (hb s1 [.ref fa] I1.kIn rfl) (fun A' outer' s' hr' e0' un => ?_) fun H' ⟨μ'', e', ok', q'⟩ => ?_) fun r s' hq' => ?_)
  · obtain ⟨⟨pm, ctv, ho'⟩, _, _⟩ := e0'.hok fa _ hfa
    refine ⟨⟨_, _, _, _, ho'⟩, ?_⟩
    obtain ⟨k', rfl⟩ : ∃ k', k = k' + 1 := ⟨k - 1, by omega⟩
    obtain ⟨t, pe, l⟩ := hbody A' outer' s' H1 fa c1 (fun cls _ H' => cls = C ∧ ∃ μ'', Ext X.K μ' H1 μ'' H' ∧ bY X.K μ'' H' ∧ Qd (.v (.str nm)) μ'') (hr'.deeper _)
    have base : Un (aN X N₁ scope cl₀ fp s₃ H₃).fs fp H₃ H1 s₃.heap s1.heap := I1.base
    have nfp : ∀ x cc, X.env.cells.lookup x = some cc → cc ∉ fp := fun x cc hx z => hfp cc z x cc hx rfl
    have frC : ∀ x cc, X.env.cells.lookup x = some cc → H1 cc = none := fun x cc hx => by
      obtain ⟨v, oc, ec, dc⟩ := I3.cell x cc hx
      exact base.free cc oc ec (I3.ik x cc hx) (nfp x cc hx)
    have cellK : ∀ x cc v, X.env.cells.lookup x = some cc → s₃.heap.IsCell cc v → s'.heap.IsCell cc v := fun x cc v hx ⟨oc, ec, dc⟩ => by
      obtain ⟨sl, e2⟩ := base.any ec (I3.ik x cc hx) (nfp x cc hx)
      obtain ⟨sl', e3⟩ := un.any e2 (frC x cc hx) (fun z => nomatch z)
      exact ⟨_, e3, dc⟩
    refine EI (σ := bO e.cap σ) (N := N') hkind hco hgen hcell hr' e0' ho' hc1 (hbind pm ctv c1) ⟨fun x cc hx => ?_, fun x cc hx => frC x cc (hcl x cc hx), fun x y cc h1 h2 => I3.ok.inj x y cc (hcl x cc h1) (hcl y cc h2), hhas, fun i x v h1 h2 h3 => ?_, ?_⟩ pe (l _ H1 (bO e.cap ρo) μ' (fun μ'' => Qd (.v (.str nm)) μ'') _ ⟨S.mu, rr.cap⟩ htx fun μ'' H' e' ok' q' => ⟨rfl, μ'', e', ok', q'⟩)
    · obtain ⟨v, hv⟩ := I3.cell x cc (hcl x cc hx)
      exact ⟨v, cellK x cc v (hcl x cc hx) hv⟩
    · obtain ⟨j, j1, j2⟩ := nS h2
      obtain ⟨hN, hv, hnl, hfree⟩ := hcap i j x j1 h1
      obtain ⟨m, _, hll⟩ := I3.loc
      obtain ⟨u, ru, lk⟩ := hll j x v hN j2 hv
      obtain ⟨a, ha⟩ := hhas x (.inr hfree)
      rcases lk with ⟨z, _⟩ | ⟨_, a', z1, z2⟩
      · exact absurd z hnl
      · obtain rfl : a' = a := by have qq := hcl x a ha; rw [z1] at qq; exact Option.some.inj qq
        exact ⟨u, a', ru, hfree, ha, cellK x a' _ z1 z2⟩
    · unfold bO; rw [List.length_map]; exact hlen
  · exact ⟨μ'', ok', fun H'' e'' ok'' => kk (.v (.str nm)) (.str nm) μ'' H'' (e'.trans e'') ⟨ok'', S.rho.ext S.mu (e'.trans e'')⟩ (Rp.str nm) q'⟩
  · cases r with
    | error e => exact hq'.elim
    | ok fl =>
      cases fl with
      | ret u => exact I1.after hq'
      | next => exact hq'.elim
      | brk => exact hq'.elim
      | cont => exact hq'.elim
abbrev Eo := List D → Rho → Mu → (Rho → Mu → Prop) → Prop
def Oi (K : PySem.W.Frag) (g : TGs) (gd : Eo) : Prop := ∀ (σ : St) (H : Hp) (ρ : Rho) (μ : Mu) (ds : List D) (us : List V) (Qd : Rho → Mu → Prop) (Q : St → Hp → Prop), St0 K H ρ μ σ → jR K μ H ds us → gd ds ρ μ Qd →
  (∀ σ' ρ' μ' H', Ext K μ H μ' H' → St0 K H' ρ' μ' σ' → Qd ρ' μ' → Q σ' H') → g us σ H Q
def DGq (X : Cx) (tg : List Expr) (gd : Eo) : Prop := ∃ g, PGs X tg g ∧ Oi X.K g gd
def JS : Eo := fun ds ρ μ Q => match ds with
  | [] => Q ρ μ
  | _ => False
def yX (g : DTG) (gs : Eo) : Eo := fun ds ρ μ Q => match ds with
  | d :: r => g d ρ μ fun ρ1 μ1 => gs r ρ1 μ1 Q
  | _ => False
theorem M6 {X : Cx} : DGq X [] JS := ⟨_, GO, fun σ H ρ μ ds us Qd Q S r h k => by
  cases r with
  | nil => exact ⟨rfl, k σ ρ μ H .refl S h⟩
  | cons _ _ => exact h.elim⟩
theorem EJ {X : Cx} {e : Expr} {es : List Expr} {g : DTG} {gs : Eo} (h1 : DG X e g) (h2 : DGq X es gs) (hs : (assignEach (e :: es) X.env).map (·.2) = assign e X.env :: (assignEach es X.env).map (·.2) := by rfl) : DGq X (e :: es) (yX g gs) := by
  obtain ⟨t1, p1, l1⟩ := h1
  obtain ⟨t2, p2, l2⟩ := h2
  refine ⟨_, DB p1 p2 hs, fun σ H ρ μ ds us Qd Q S r h k => ?_⟩
  cases r with
  | nil => exact h.elim
  | @cons d u ds us r1 r2 =>
    refine ⟨u, us, rfl, l1 σ H ρ μ d u _ _ S r1 h fun σ' ρ' μ' H' e1 S' h1 => ?_⟩
    exact l2 σ' H' ρ' μ' ds us _ _ S' (r2.ext S.mu e1) h1 fun a b c d e2 => k a b c d (e1.trans e2)
def Jh (n : Nat) (gs : Eo) : DTG := fun d ρ μ Q => ∃ ds, d = .q (QT ds) ∧ ds.length = n ∧ gs ds ρ μ Q
theorem Mm {X : Cx} {es : List Expr} {pos : Pos} {k n : Nat} {gs : Eo} (hc : X.calm = X.calm) (h : DGq X es gs)
    (hn : (assignEach es X.env).length = n := by rfl) (hst : (assignEach es X.env).findIdx? (·.1) = none := by rfl) : DG X (.Tuple es k pos) (Jh n gs) := by
  obtain ⟨t1, p1, l1⟩ := h
  refine ⟨_, KC hc p1 hn hst, fun σ H ρ μ d u Qd Q S r h k => ?_⟩
  obtain ⟨ds, rfl, hl, h⟩ := h
  obtain ⟨a, us, rfl, ha, ra⟩ := r μ H .refl
  exact ⟨a, us, rfl, .inl (.inl ha), by rw [← ra.length]; exact hl, l1 σ H ρ μ _ us _ _ S ra h k⟩
theorem FY {ρ : Rho} {μ : Mu} {Q : DK} {i : Nat} {tb : List uF} (hi : ρ[i]? = some (some (.q (QL (tb.map fun e => .q (QT [.v e.nm, .q e.P])))))) (hl : tb.length ≤ 1000) (hs : ∀ e ∈ tb, SeqAt.shaped e.nm = true)
    (htx : ∀ e ∈ tb, ∀ μ' : Mu, (∀ a es, μ a = some es → μ' a = some es) → ∀ Xk : Mu → Prop, Xk μ' → e.tx (bO e.cap ρ) μ' Xk) (q : Q (.v (.list ((List.range tb.length).map fun _ => .bool true))) μ) :
    Co [none, none] (af i) (Jh 2 (yX (av 0) (yX (av 1) JS))) (fun ρo G => dOp (fe false) (Gu ρo G 2 1 tb) (af 0)) ρ μ Q := by
  unfold Co diQ af
  rw [hi]
  refine ⟨_, rfl, by rw [List.length_map]; exact hl, fun _ => .bool true, fun G j x hx μ' sub => ?_, by rw [List.length_map]; exact q⟩
  rw [List.getElem?_map] at hx
  cases he : tb[j]? with
  | none => rw [he] at hx; cases hx
  | some e =>
    rw [he] at hx
    cases hx
    have hm := List.mem_of_getElem? he
    have hs := hs e hm
    refine ⟨_, rfl, rfl, ⟨rfl, trivial⟩, rfl, e, hm, rfl, htx e hm μ' sub _ ?_⟩
    exact ⟨hs, hs, rfl, by rw [SeqAt.eqv_refl _ (SeqAt.canLay_of_shaped hs)]; rfl⟩
theorem RT {P : PQ} {ρ : Rho} {μ : Mu} {Q : DK} : dKq P ρ μ Q = Q (.q P) μ := propext Iff.rfl
theorem Ov {t : DTA} {ρ : Rho} {μ : Mu} {Q : DK} : Li t ρ μ Q = t ρ μ fun ds μ1 => Q (.q (QL ds)) μ1 := propext Iff.rfl
theorem PD {t : DTA} {ρ : Rho} {μ : Mu} {Q : DK} : vD t ρ μ Q = t ρ μ fun ds μ1 => Q (.q (QT ds)) μ1 := propext Iff.rfl
open PySem PySem.Spec PyProof.Rows
def yj (k : Int) : List Int → Option Nat
  | [] => none
  | x :: r => if x = k then some 0 else (yj k r).map (· + 1)
theorem yT : ∀ {is : List Int} {its : List Value}, Vals (is.map V.int) its → PySem.W.kf_ints its = true
  | [], _, .nil => rfl
  | i :: is, _, .cons r rs => by
    obtain ⟨t, rfl⟩ := r
    unfold PySem.W.kf_ints
    exact yT rs
theorem C5 {k : Int} : ∀ {is : List Int} {its : List Value} {j : Nat}, Vals (is.map V.int) its → yj k is = some j → PySem.W.kf_at k its = some j
  | [], _, _, .nil, h => by cases h
  | i :: is, _, j, .cons r rs, h => by
    obtain ⟨t, rfl⟩ := r
    unfold yj at h
    unfold PySem.W.kf_at
    by_cases e : i = k
    · rw [if_pos e] at h
      cases h
      have : isInt k (.int i t) = true := by rw [e]; simp [isInt]
      rw [this]
      rfl
    · rw [if_neg e] at h
      have : isInt k (.int i t) = false := by simp [isInt]; exact e
      rw [this]
      cases q : yj k is with
      | none => rw [q] at h; cases h
      | some z =>
        rw [q] at h
        cases h
        have := C5 rs q
        rw [this]
        rfl
def Ox : V → List V → Hp → VK → Prop := fun x vs H Q => ∃ l is k j, x = .ref l ∧ vs = [.int k] ∧ H l = some (.lst (is.map V.int)) ∧ yj k is = some j ∧ Q (.int (j : Nat)) H
theorem LH {X : Cx} : MtR X "list.index" Ox := by
  intro pins s σ H x vs v us Q I rx rv h
  obtain ⟨l, is, k, j, rfl, rfl, hH, hj, q⟩ := h
  cases rx
  obtain ⟨u, rfl, ru⟩ := rv.one
  obtain ⟨t, rfl⟩ := ru
  obtain ⟨z, its, n, r, hl, e⟩ := I.IM hH
  have a := yT r
  have b := C5 r hj
  obtain ⟨c1, c2, c3⟩ := PySem.W.kf_at_spec b
  have hz : its.length ≤ sizeLine := by rw [← r.length]; exact z
  rw [sizeLine_eq] at hz
  refine call_meets PySem.F.slot_list_index ⟨_, e, rfl⟩ PySem.F.entry_list_index (PySem.F.args_list_index_2 _ _)
    (MeetsSeq.list_index l its.toArray n (.int k t) (isInt k) (fun y hy => PySem.W.kf_eq a y (by simpa using hy)) j (by simpa using c1) (by omega) (by simpa using c2) (fun i hi hlt => by simpa using c3 i (by simpa using hi) hlt)) ⟨e, ?_⟩
  exact ⟨.int j, H, I.tok _, ⟨_, rfl⟩, q⟩
section
variable {X : Cx} {o e : Expr} {to te : DTE} {apos cpos : Pos}
def Cz (to te : DTE) : DTE := fun ρ μ Q => to ρ μ fun x μ1 => match x with
  | .v (.list xs) => te ρ μ1 fun y μ2 => (match y with
    | .v (.int k) => ∃ is j, xs = is.map PyData.int ∧ yj k is = some j ∧ Q (.v (.int (j : Nat))) μ2
    | _ => False)
  | _ => False
theorem GG {to te : DTE} {ρ : Rho} {μ : Mu} {Q : DK} : Cz to te ρ μ Q = to ρ μ fun x μ1 => match x with
  | .v (.list xs) => te ρ μ1 fun y μ2 => (match y with
    | .v (.int k) => ∃ is j, xs = is.map PyData.int ∧ yj k is = some j ∧ Q (.v (.int (j : Nat))) μ2
    | _ => False)
  | _ => False := propext Iff.rfl
theorem CK {K : PySem.W.Frag} {μ : Mu} {H : Hp} : ∀ {is : List Int} {us : List V}, RpL K μ H (is.map PyData.int) us → us = is.map V.int
  | [], _, .nil => rfl
  | i :: is, _, .cons r rs => by cases r; rw [CK rs]; rfl
theorem Ef (ho : DE X o to) (ha : DE X e te) (hbase : attributeBase o "index" X.env (eval o X.env) = eval o X.env := by rfl)
    (hfew : ((backTo cpos (starEach [e] X.env)).all (fun x => !x.1) && (backToKw cpos (keywordEach [] X.env)).all (fun x => x.1.isSome)
      && decide ([e].length + ([] : List Keyword).length + (if ([] : List Keyword).isEmpty then 0 else 1) < 30)) = true := by rfl)
    (hline : (apos.endLine == cpos.line) = true := by rfl) (hs : starEach [e] X.env = (false, eval e X.env) :: starEach [] X.env := by rfl) (hplain : (backTo cpos (starEach [] X.env)).any (·.1) = false := by rfl) :
    DE X (.Call (.Attribute o "index" apos) [e] [] cpos) (Cz to te) := by
  obtain ⟨t1, p1, l1⟩ := ho
  obtain ⟨t2, p2, l2⟩ := ha
  refine ⟨_, Nk PySem.F.plainAttrs_list PySem.F.slot_list_index PySem.F.type_list_index LH p1 (gF p2 nX hs) hbase hfew hline hs hplain, fun σ H ρ μ Qd Q S h k => ?_⟩
  refine l1 σ H ρ μ _ _ S h fun x ux μ1 H1 e1 S1 rx h1 => ?_
  split at h1
  · rename_i xs
    cases rx with
    | @list a us _ ha hn ra =>
      refine ⟨.inl ⟨rfl, us, SqL.of ha⟩, l2 σ H1 ρ μ1 _ _ S1 h1 fun y uy μ2 H2 e2 S2 ry h2 => ?_⟩
      split at h2
      · rename_i kk
        obtain ⟨is, j, rfl, hj, h3⟩ := h2
        cases ry
        have ha2 := e2.keep _ _ ha hn trivial
        obtain rfl := CK ra
        exact ⟨a, is, kk, j, rfl, rfl, ha2, hj, k (.v (.int (j : Nat))) _ μ2 H2 (e1.trans e2) S2 (Rp.int _) h3⟩
      · exact h2.elim
  · exact h1.elim
end
section
variable {X : Cx} {E : XK} {C : Value} {a b : Expr} {tx : DTX} {pos : Pos}
theorem Ar : PE X b (fun _ _ _ => False) := fun _ _ _ _ _ _ h => h.elim
theorem NQ (ha : XE X E C a tx) (hs : Cw b) : XE X E C (.Subscript a b pos) tx := by
  obtain ⟨t1, p1, l1⟩ := ha
  exact ⟨_, Nn JJ p1 Ar hs, fun σ H ρ μ Xk Q S h wsh => l1 σ H ρ μ Xk _ S h wsh⟩
theorem Jx {op : CmpOp} {rr : R2} (ho : OpR X (compareOp op) rr) (ha : XE X E C a tx) (hm : behindInMarks op b = false) : XE X E C (.Compare a [op] [b] pos) tx := by
  obtain ⟨t1, p1, l1⟩ := ha
  exact ⟨_, GH ho p1 Ar hm, fun σ H ρ μ Xk Q S h wsh => l1 σ H ρ μ Xk _ S h wsh⟩
end
section
variable {X : Cx}
def QN : R2 := fun x y H Q => y = .non ∧ ((x = .non ∧ Q (.bl true) H) ∨ (∃ i, x = .int i ∧ Q (.bl false) H))
theorem MP : OpR X (compareOp .Is) QN := by
  intro pins s σ H x y v u Q I rx ry h
  obtain ⟨rfl, ⟨rfl, q⟩ | ⟨i, rfl, q⟩⟩ := h
  · cases rx; cases ry
    exact wpAny_is_plain rfl ⟨.bl true, H, I, rfl, q⟩
  · obtain ⟨t, rfl⟩ := rx
    cases ry
    exact wpAny_is_plain rfl ⟨.bl false, H, I, rfl, q⟩
def CV : D → D → Mu → DK → Prop := fun x y μ Q => match x, y with
  | .v .none, .v .none => Q (.v (.bool true)) μ
  | .v (.int _), .v .none => Q (.v (.bool false)) μ
  | _, _ => False
theorem Po {K : PySem.W.Frag} : l5 K QN CV := by
  intro x y ux uy H μ Qd Q ok rx ry h k
  unfold CV at h
  split at h
  · cases rx; cases ry; exact ⟨rfl, .inl ⟨rfl, k (.v _) _ μ H .refl ok (Rp.bool _) h⟩⟩
  · cases rx; cases ry; exact ⟨rfl, .inr ⟨_, rfl, k (.v _) _ μ H .refl ok (Rp.bool _) h⟩⟩
  · exact h.elim
theorem Jd {μ : Mu} {Q : DK} : CV (.v .none) (.v .none) μ Q = Q (.v (.bool true)) μ := propext Iff.rfl
theorem Mp {μ : Mu} {Q : DK} {i : Int} : CV (.v (.int i)) (.v .none) μ Q = Q (.v (.bool false)) μ := propext Iff.rfl
end
open PySem PySem.Spec PyProof.Rows
section
variable {X : Cx}
theorem Ma {dn x n : Str} {dp cp ep np hp pos : Pos} {di : Nat} {b₀ : Stmt} {suite : List Stmt} (hd : X.N[di]? = some dn) (hv : Vis X.env.scope dn) (hdb : (dn == ("__debug__" : Str)) = false := by decide) (hdc : (dn == ("__classdict__" : Str)) = false := by decide)
    (hsw : swapsWith (.Call (.Name dn dp) [] [] cp) none ep.line X.env = pure false := by rfl) (s : Shared) (σ : St) (H : Hp) (D : Ends) (I0 : Inv X [] σ H s) {fa : Addr} (hσ : σ[di]? = some (some (.ref fa)))
    (deed : ∀ s1, Inv X [] σ H s1 → PySem.W.FnAt fa s1.heap ∧ codeAny (model X.prog X.w) X.A (.call (.ref fa) ⟨[], []⟩) (CR CX0 X.stack X.prog X.w H s1 (fun _ H' => D.nx σ H') E0) s1) :
    wpAny (model X.prog X.w) X.A (exec (.Try [.Expr (.Call (.Name dn dp) [] [] cp) ep] [.ExceptHandler (some (.Name x np)) (some n) (b₀ :: suite) hp] [] [] pos) X.env) (SP X [] D) X.xe s := by
  refine wpAny_Try_except (wpAny_execs_cons (wpAny_Expr_any (wpAny_Call_Name_kw (wpAny_mono (xY (X := X.nox) hd hv hdb hdc [] s σ H (fun v H1 => v = .ref fa ∧ H1 = H) (I0.xo _) ⟨.ref fa, hσ, rfl, rfl⟩) (fun v s1 hv1 => ?_) fun _ _ z => z.elim)) I0.quiet hsw))
  obtain ⟨y, H1, I1, r, e1, e2⟩ := hv1
  subst e1 e2
  cases r
  have I1 := I1.mM
  obtain ⟨fn, code⟩ := deed s1 I1
  refine PySem.W.callWith_F0 fn (wpAny_call (codeAny_mono code fun r s' hr => ?_))
  cases r with
  | ok fl =>
    cases fl with
    | ret u =>
      obtain ⟨v, H', os, bare, un, hok, rv, q⟩ := hr
      have I' : Inv X [] σ H' s' := I1.x5 (ch := []) os un hok bare (fun b z => nomatch z)
      exact wpAny_execs_nil (wpAny_execs_nil ⟨σ, H', I', q⟩)
    | next => exact hr.elim
    | brk => exact hr.elim
    | cont => exact hr.elim
  | error e => exact hr.elim
end
structure LS (P : Program) (w : World) (K : PySem.W.Frag) (mg : Str → Option Value) (base : Heap) (k : Nat) (f : Addr) (fd : FuncData) (dn : Str) : Prop where
  run : ∀ (A : Around) (outer : List Env) (s : Shared) (H : Hp) (fa : Addr) (Q : VK), fi (k + 1) A → zP P w K mg base A outer s H → BindsTo s fd ⟨[.ref fa], []⟩ ([dn].zip [.ref fa]) →
    (∀ (A' : Around) (outer' : List Env) (s' : Shared), fi k A' → zP P w K mg base A' outer' s' H → Un (frs outer) [] H H s.heap s'.heap → PySem.W.FnAt fa s'.heap ∧ codeAny (model P w) A' (.call (.ref fa) ⟨[], []⟩) (CR CX0 outer' P w H s' (fun _ H' => Q .non H') E0) s') →
    codeAny (model P w) A (.call (.ref f) ⟨[.ref fa], []⟩) (CR CX0 outer P w H s Q E0) s
theorem MT {P : Program} {w : World} {K : PySem.W.Frag} {mg : Str → Option Value} {base : Heap} {k : Nat} {f : Addr} {fd : FuncData} {fx qual : Str} {st : Stmt} {dn n y1 y2 x : Str} {dp cp ep np hp pos p1 p2 : Pos} {b₀ : Stmt} {suite : List Stmt} {j}
    (F : Fun K fx qual st f fd) (S : aD [dn, n, y1, y2] [dn] (aq st))
    (hbody : eW st = [.Try [.Expr (.Call (.Name dn dp) [] [] cp) ep] [.ExceptHandler (some (.Name x np)) (some n) (b₀ :: suite) hp] [] [] pos, .Return (some (.Constant .none j p1)) p2])
    (hv : (aq st).names.lookup dn = some .local) (hdb : (dn == ("__debug__" : Str)) = false) (hdc : (dn == ("__classdict__" : Str)) = false)
    (hsw : ∀ env : Env, swapsWith (.Call (.Name dn dp) [] [] cp) none ep.line env = pure false) : LS P w K mg base k f fd dn where
  run := fun A outer s H fa Q hr e0 hb deed => by
    obtain ⟨oc, od, kV, doc, pm, an, cdv, ct, osl, rfl, lk, hcd⟩ := F.ex
    refine Ny (k := k) (vs := [.ref fa]) (us := [.ref fa]) lk hcd S rfl hr e0 hb (.cons rfl .nil) fun s1 I => ?_
    show wpAny _ _ (execs (eW st) _) _ _ _
    rw [hbody]
    refine wpAny_execs_cons (wpAny_mono (Ma (X := lS CX0 P w K mg base [dn, n, y1, y2] qual (aq st) f cdv A outer s H E0) (di := 0) (fa := fa) (x := x) (n := n) (np := np) (hp := hp) (pos := pos) (b₀ := b₀) (suite := suite) rfl (Or.inl hv) hdb hdc (hsw _) s1 _ H { nx := fun _ H' => Q .non H', rt := Q } I rfl
      (fun s2 I2 => deed _ _ s2 (hr.deeper _) I2.Lw I2.base)) (fun fl s' hs' => ?_) fun _ _ z => z)
    cases fl with
    | next =>
      obtain ⟨σ', H', I', q⟩ := hs'
      exact (vf (Gb J6) Gx) [] s' σ' H' { nx := fun _ H' => Q .non H', rt := Q } I' q
    | ret u => exact hs'
    | brk => exact hs'
    | cont => exact hs'
def JO (X : Cx) (k : Nat) (f : Addr) (fd : FuncData) (dn : Str) (e : uF) : Prop :=
  ∃ (q : Str) (params : Arguments) (body : Expr) (lsc : Scope) (cl : List (Str × Addr)) (N' : List Str) (te : DTE), e.nm = .none ∧ e.P = Ia q params body lsc cl ∧ (e.tx = fun ρ μ Xk => te ρ μ fun _ μ' => Xk μ') ∧ LS X.prog X.w X.K X.mg X.base k f fd dn ∧
    (∀ (A' : Around) (outer' : List Env) (s' : Shared) (H' : Hp) (fa c1 : Addr) (E : XK), fi (k - 1) (md X.prog X.w X.K X.mg X.base N' lsc cl (bC q) fa c1 A' outer' s' H' E).A → DE (md X.prog X.w X.K X.mg X.base N' lsc cl (bC q) fa c1 A' outer' s' H' E) body te) ∧
    (∀ (pm ctv : Value) (c1 : Addr), bindArgs (PySem.W.kla_fn "<lambda>" (bC q) params body lsc cl pm (.ref c1) ctv) ⟨[], []⟩ = pure []) ∧ lsc.kind = .function ∧ lsc.isCoroutine = false ∧ lsc.isGenerator = false ∧ (∀ y ∈ lsc.names, y.2 ≠ .cell) ∧
    (∀ x a, cl.lookup x = some a → X.env.cells.lookup x = some a) ∧ (∀ x, lsc.names.lookup x = some .cell ∨ lsc.names.lookup x = some .free → ∃ a, cl.lookup x = some a) ∧ e.cap.length = N'.length ∧
    (∀ (i j : Nat) (x : Str), e.cap[i]? = some (some j) → N'[i]? = some x → X.N[j]? = some x ∧ Vis X.env.scope x ∧ X.env.kindOf x ≠ some .local ∧ lsc.names.lookup x = some .free)
def AD (X : Cx) (k : Nat) (f : Addr) (fd : FuncData) (dn : Str) (tb : List uF) : Prop := ∀ e ∈ tb, yi X k f fd dn e ∨ JO X k f fd dn e
def Qh (te : DTE) : DTX := fun ρ μ Xk => te ρ μ fun _ μ' => Xk μ'
theorem QW {X : Cx} {k : Nat} {f : Addr} {fd : FuncData} {dn q : Str} {params : Arguments} {body : Expr} {lsc : Scope} {cl : List (Str × Addr)} {N' : List Str} {cap : List (Option Nat)} {te : DTE}
    (R : LS X.prog X.w X.K X.mg X.base k f fd dn) (he : ∀ (A' : Around) (outer' : List Env) (s' : Shared) (H' : Hp) (fa c1 : Addr) (E : XK), fi (k - 1) (md X.prog X.w X.K X.mg X.base N' lsc cl (bC q) fa c1 A' outer' s' H' E).A → DE (md X.prog X.w X.K X.mg X.base N' lsc cl (bC q) fa c1 A' outer' s' H' E) body te)
    (hbind : ∀ (pm ctv : Value) (c1 : Addr), bindArgs (PySem.W.kla_fn "<lambda>" (bC q) params body lsc cl pm (.ref c1) ctv) ⟨[], []⟩ = pure [])
    (hkind : lsc.kind = .function) (hco : lsc.isCoroutine = false) (hgen : lsc.isGenerator = false) (hcell : ∀ y ∈ lsc.names, y.2 ≠ .cell) (hcl : ∀ x a, cl.lookup x = some a → X.env.cells.lookup x = some a) (hhas : ∀ x, lsc.names.lookup x = some .cell ∨ lsc.names.lookup x = some .free → ∃ a, cl.lookup x = some a)
    (hlen : cap.length = N'.length) (hcap : ∀ (i j : Nat) (x : Str), cap[i]? = some (some j) → N'[i]? = some x → X.N[j]? = some x ∧ Vis X.env.scope x ∧ X.env.kindOf x ≠ some .local ∧ lsc.names.lookup x = some .free) :
    JO X k f fd dn ⟨Ia q params body lsc cl, cap, Qh te, .none⟩ := ⟨q, params, body, lsc, cl, N', te, rfl, rfl, rfl, R, he, hbind, hkind, hco, hgen, hcell, hcl, hhas, hlen, hcap⟩
theorem K2 {X : Cx} {k : Nat} {f : Addr} {fd : FuncData} {dn : Str} : AD X k f fd dn [] := fun _ h => nomatch h
theorem vV {X : Cx} {k : Nat} {f : Addr} {fd : FuncData} {dn : Str} {e : uF} {tb : List uF} (h : yi X k f fd dn e) (t : AD X k f fd dn tb) : AD X k f fd dn (e :: tb) := fun x hx => by
  rcases List.mem_cons.mp hx with rfl | hx
  · exact .inl h
  · exact t x hx
theorem O8 {X : Cx} {k : Nat} {f : Addr} {fd : FuncData} {dn : Str} {e : uF} {tb : List uF} (h : JO X k f fd dn e) (t : AD X k f fd dn tb) : AD X k f fd dn (e :: tb) := fun x hx => by
  rcases List.mem_cons.mp hx with rfl | hx
  · exact .inr h
  · exact t x hx
theorem FU {X : Cx} {k : Nat} {f : Addr} {fd : FuncData} {dn rn vn : Str} {N₁ : List Str} {scope : Scope} {cl₀ : List (Str × Addr)} {fp : List Addr} {s₃ : Shared} {H₃ : Hp} {pins : List (Addr × Obj)} {σ : St} {ρo : Rho} {G : PQ} {gi vi : Nat} {tb : List uF} {p pv pos : Pos}
    (I3 : Inv X pins σ H₃ s₃) (hfp : ∀ b ∈ fp, ∀ x a, X.env.cells.lookup x = some a → a ≠ b) (hG : ∀ u μ H, G X.K u μ H → el X.K μ H ρo σ) (T : AD X k f fd dn tb)
    (hr : fi (k + 1) X.A) (hk0 : 0 < k) (hg : Gl (aN X N₁ scope cl₀ fp s₃ H₃) rn) (hm : X.mg rn = some (.ref f)) (hk : PySem.W.keepIn X.K (.ref f) = true) (hb : Binds X.K fd [dn] [])
    (hN : N₁[vi]? = some vn) (hv : Vis (aN X N₁ scope cl₀ fp s₃ H₃).env.scope vn)
    (hdb : (rn == ("__debug__" : Str)) = false := by decide) (hd : (vn == ("__debug__" : Str)) = false := by decide) (hcd : (vn == ("__classdict__" : Str)) = false := by decide)
    (hst : starEach [.Name vn pv] (aN X N₁ scope cl₀ fp s₃ H₃).env = [(false, eval (.Name vn pv) (aN X N₁ scope cl₀ fp s₃ H₃).env)] := by rfl) :
    DE (aN X N₁ scope cl₀ fp s₃ H₃) (.Call (.Name rn p) [.Name vn pv] [] pos) (Gu ρo G gi vi tb) := by
  refine C1 fun pins' s' σ' H' ρ' μ' Qd Q I S h kk => ?_
  obtain ⟨hgi, e, he, hvi, htx⟩ := h
  rcases T e he with te | ⟨q, params, body, lsc, cl, N', tb', hnm, hP, htxe, R, hbody, hbind, hkind, hco, hgen, hcell, hcl, hhas, hlen, hcap⟩
  · obtain ⟨t, p, l⟩ := E9 (tb := [e]) (gi := gi) (vi := vi) (pos := pos) (p := p) I3 hfp hG (Jb te KI) hr hk0 hg hm hk hb hN hv hdb hd hcd hst
    exact p pins' s' σ' H' Q I (l σ' H' ρ' μ' Qd Q S ⟨hgi, e, List.mem_singleton.mpr rfl, hvi, htx⟩ kk)
  obtain ⟨ug, hug, rg⟩ := S.rho.2 gi _ hgi
  have rr : el X.K μ' H' ρo σ := hG ug μ' H' (rg μ' H' .refl)
  obtain ⟨ul, hul, rl⟩ := S.rho.2 vi _ hvi
  rw [hP] at rl
  rw [hnm, htxe] at htx
  obtain ⟨fa, c1, rfl, hfa, hc1, n1, n2⟩ := rl μ' H' .refl
  refine wpAny_Call_Name_kw (q9 I hg hm ?_ hdb)
  have pa : PA (aN X N₁ scope cl₀ fp s₃ H₃) [.Name vn pv] (KQ (LZ vi) Pb) := gF (xY hN hv hd hcd) nX (by rw [hst]; rfl)
  refine PySem.W.callWith_K (h₀ := X.base) I.ok.mod.kin hk (thn (pa pos pins' s' σ' H' (fun xs H1 => xs = [.ref fa] ∧ H1 = H') I ⟨.ref fa, hul, rfl, rfl⟩) fun us s1 ⟨vs, H1, I1, r, z1, z2⟩ => ⟨I1.kIn, ?_⟩) (by rw [hst]; rfl) rfl
  subst z1 z2
  obtain rfl : us = [.ref fa] := by
    cases r with
    | cons r1 r2 => cases r2; cases r1; rfl
  refine wpAny_call (codeAny_mono (R.run X.A X.stack s1 H1 fa Q hr I1.Lw (hb s1 [.ref fa] I1.kIn rfl) (fun A' outer' s' hr' e0' un => ?_)) fun r s' hq' => ?_)
  · obtain ⟨⟨pm, ctv, ho'⟩, _, _⟩ := e0'.hok fa _ hfa
    refine ⟨⟨_, _, _, _, ho'⟩, ?_⟩
    obtain ⟨k', rfl⟩ : ∃ k', k = k' + 1 := ⟨k - 1, by omega⟩
    obtain ⟨t, pe, l⟩ := hbody A' outer' s' H1 fa c1 (fun _ _ _ => False) (hr'.deeper _)
    have base : Un (aN X N₁ scope cl₀ fp s₃ H₃).fs fp H₃ H1 s₃.heap s1.heap := I1.base
    have nfp : ∀ x cc, X.env.cells.lookup x = some cc → cc ∉ fp := fun x cc hx z => hfp cc z x cc hx rfl
    have frC : ∀ x cc, X.env.cells.lookup x = some cc → H1 cc = none := fun x cc hx => by
      obtain ⟨v, oc, ec, dc⟩ := I3.cell x cc hx
      exact base.free cc oc ec (I3.ik x cc hx) (nfp x cc hx)
    have cellK : ∀ x cc v, X.env.cells.lookup x = some cc → s₃.heap.IsCell cc v → s'.heap.IsCell cc v := fun x cc v hx ⟨oc, ec, dc⟩ => by
      obtain ⟨sl, e2⟩ := base.any ec (I3.ik x cc hx) (nfp x cc hx)
      obtain ⟨sl', e3⟩ := un.any e2 (frC x cc hx) (fun z => nomatch z)
      exact ⟨_, e3, dc⟩
    refine codeAny_mono (EI (σ := bO e.cap σ) (N := N') (E := fun _ _ _ => False) (Q := fun _ H' => Q .non H') hkind hco hgen hcell hr' e0' ho' hc1 (hbind pm ctv c1) ⟨fun x cc hx => ?_, fun x cc hx => frC x cc (hcl x cc hx), fun x y cc h1 h2 => I3.ok.inj x y cc (hcl x cc h1) (hcl y cc h2), hhas, fun i x v h1 h2 h3 => ?_, ?_⟩ pe (l _ H1 (bO e.cap ρo) μ' _ _ ⟨S.mu, rr.cap⟩ htx fun d u μ'' H' e' S' r' q' => kk (.v .none) .non μ'' H' e' ⟨S'.mu, S.rho.ext S.mu e'⟩ Rp.none q')) fun r s2 hr2 => ?_
    · obtain ⟨v, hv⟩ := I3.cell x cc (hcl x cc hx)
      exact ⟨v, cellK x cc v (hcl x cc hx) hv⟩
    · obtain ⟨j, j1, j2⟩ := nS h2
      obtain ⟨hN, hv, hnl, hfree⟩ := hcap i j x j1 h1
      obtain ⟨m, _, hll⟩ := I3.loc
      obtain ⟨u, ru, lk⟩ := hll j x v hN j2 hv
      obtain ⟨a, ha⟩ := hhas x (.inr hfree)
      rcases lk with ⟨z, _⟩ | ⟨_, a', z1, z2⟩
      · exact absurd z hnl
      · obtain rfl : a' = a := by have qq := hcl x a ha; rw [z1] at qq; exact Option.some.inj qq
        exact ⟨u, a', ru, hfree, ha, cellK x a' _ z1 z2⟩
    · unfold bO; rw [List.length_map]; exact hlen
    · cases r with
      | ok fl =>
        cases fl with
        | ret u => exact hr2
        | next => exact hr2
        | brk => exact hr2
        | cont => exact hr2
      | error e =>
        obtain ⟨O, ea, cls, H', _, _, _, _, _, _, _, _, z⟩ := hr2
        exact z.elim
  · cases r with
    | error e => exact hq'.elim
    | ok fl =>
      cases fl with
      | ret u => exact I1.after hq'
      | next => exact hq'.elim
      | brk => exact hq'.elim
      | cont => exact hq'.elim
end L2.DL
set_option linter.all false
set_option maxRecDepth 100000
set_option maxHeartbeats 1000000
namespace NM
section
variable {d : Int} {x y z k s o : N3} {A B C A' B' C' P Q R E F G : Int}
theorem Rep.conv (h : Rep x A B C) (hc : C' ≠ 0) (e1 : A * C' = A' * C) (e2 : B * C' = B' * C) : Rep x A' B' C' := by
  obtain ⟨h0, h1, h2⟩ := h
  refine ⟨hc, Int.eq_of_mul_eq_mul_right h0 ?_, Int.eq_of_mul_eq_mul_right h0 ?_⟩
  · have : x.a * C' * C = (x.a * C) * C' := by grind
    rw [this, h1]
    have : A * x.c * C' = (A * C') * x.c := by grind
    rw [this, e1]
    grind
  · have : x.b * C' * C = (x.b * C) * C' := by grind
    rw [this, h2]
    have : B * x.c * C' = (B * C') * x.c := by grind
    rw [this, e2]
    grind
theorem yM (h : Rep x A B C) (ox : Ok x) : x.b = 0 ↔ B = 0 := by
  have e := h.b
  constructor
  · intro z
    rw [z, Int.zero_mul] at e
    exact (Int.mul_eq_zero.mp e.symm).resolve_right ox.cn
  · intro z
    rw [z, Int.zero_mul] at e
    exact (Int.mul_eq_zero.mp e).resolve_right h.c
theorem sF {u v : Int} (hv : v ≠ 0) : 0 ≤ u * (v * v) ↔ 0 ≤ u := by
  have h := sq_pos hv
  constructor
  · intro z
    rcases Int.lt_or_le u 0 with w | w
    · have := Int.mul_neg_of_neg_of_pos w h; omega
    · exact w
  · intro z; exact Int.mul_nonneg z (Int.le_of_lt h)
theorem uG {u v : Int} (hv : 0 < v) : 0 ≤ u * v ↔ 0 ≤ u := by
  constructor
  · intro z
    rcases Int.lt_or_le u 0 with w | w
    · have := Int.mul_neg_of_neg_of_pos w hv; omega
    · exact w
  · intro z; exact Int.mul_nonneg z (Int.le_of_lt hv)
theorem L3 {u v : Int} (hv : v < 0) : 0 ≤ u * v ↔ u ≤ 0 := by
  have := uG (u := -u) (v := -v) (by omega)
  rw [Int.neg_mul_neg] at this
  omega
def dE (d : Int) (x : N3) : Bool := decide (x.b = 0) && decide (0 ≤ sg d x.a x.b)
theorem sg0 {n : Int} : 0 ≤ sg d n 0 ↔ 0 ≤ n := by
  rw [vL]
  split
  · omega
  · split <;> omega
theorem As (ox : Ok x) (h : Rep x A 0 C) : dE d x = true ↔ 0 ≤ A * C := by
  have hb := (yM h ox).mpr rfl
  unfold dE
  rw [hb]
  simp only [decide_true, Bool.true_and, decide_eq_true_eq, sg0]
  have e := h.a
  rw [← uG ox.c, ← sF (u := x.a * x.c) h.c]
  have e2 : x.a * x.c * (C * C) = (A * C) * (x.c * x.c) := by
    have : x.a * x.c * (C * C) = (x.a * C) * (x.c * C) := by grind
    rw [this, e]; grind
  rw [e2, sF ox.cn]
def shA (d : Int) (k s : N3) : N3 := times d s (az d k)
def prt (d : Int) (k : N3) : N3 := times d (az d k) (az d k)
def shV (d : Int) (k s : N3) : N3 := low ((shA d k s).b * (prt d k).c) 0 ((shA d k s).c * (prt d k).b)
def shU (d : Int) (k s : N3) : N3 := less (shA d k s) (times d (shV d k s) (prt d k))
def xi (d : Int) (k s : N3) : N3 := if (times d k k).b = 0 then shA d k s else shU d k s
def xm (d : Int) (k s : N3) : N3 := if (times d k k).b = 0 then aA else shV d k s
def i5 (d : Int) (k s : N3) : Bool := dE d (xi d k s) && dE d (xm d k s)
theorem Qc {a b c : Int} (hc : c ≠ 0) : (low a b c).b = 0 ↔ b = 0 := yM (kv hc) (j8 _ _ hc)
theorem jQ (ok : Ok k) : (times d k k).b = 0 ↔ k.a * k.b = 0 := by
  unfold times
  rw [Qc (vJ ok ok)]
  have : k.a * k.b + k.b * k.a = 2 * (k.a * k.b) := by grind
  omega
theorem HH (ok : Ok k) (hn : norm d k ≠ 0) (rk : Rep k P Q R) : P * P - d * Q * Q ≠ 0 := fun z => by
  have h := rk.norm (d := d)
  rw [z, Int.zero_mul] at h
  rcases Int.mul_eq_zero.mp h with w | w
  · exact hn w
  · rcases Int.mul_eq_zero.mp w with w | w <;> exact rk.c w
theorem lL (os : Ok s) (hn : norm d k ≠ 0) : Ok (shA d k s) := aQ os (aK hn)
theorem xW (hn : norm d k ≠ 0) : Ok (prt d k) := aQ (aK hn) (aK hn)
theorem G3 (ok : Ok k) (os : Ok s) (hn : norm d k ≠ 0) (rk : Rep k P Q R) (rs : Rep s E F G) : Rep (shA d k s) (R * (E * P - d * F * Q)) (R * (F * P - E * Q)) (G * (P * P - d * Q * Q)) :=
  (Rep.times os (aK hn) rs (rk.az ok hn)).congr (by grind) (by grind) rfl
theorem J8 (ok : Ok k) (hn : norm d k ≠ 0) (rk : Rep k P Q R) : Rep (prt d k) (R * R * (P * P + d * Q * Q)) (-(2 * (R * R * (P * Q)))) ((P * P - d * Q * Q) * (P * P - d * Q * Q)) :=
  (Rep.times (aK hn) (aK hn) (rk.az ok hn) (rk.az ok hn)).congr (by grind) (by grind) rfl
theorem CN (ok : Ok k) (hn : norm d k ≠ 0) (rk : Rep k P Q R) (hab : P * Q ≠ 0) : (prt d k).b ≠ 0 := fun z => by
  have := (yM (J8 ok hn rk) (xW hn)).mp z
  have h2 : R * R * (P * Q) = 0 := by omega
  exact (Int.mul_ne_zero (Int.mul_ne_zero rk.c rk.c) hab) h2
theorem Jp (ok : Ok k) (rk : Rep k P Q R) : P * Q = 0 ↔ k.a * k.b = 0 := by
  have e : (k.a * k.b) * (R * R) = (P * Q) * (k.c * k.c) := by
    have h1 := rk.a
    have h2 := rk.b
    have : (k.a * k.b) * (R * R) = (k.a * R) * (k.b * R) := by grind
    rw [this, h1, h2]; grind
  constructor
  · intro z
    rw [z, Int.zero_mul] at e
    exact (Int.mul_eq_zero.mp e).resolve_right (Int.mul_ne_zero rk.c rk.c)
  · intro z
    rw [z, Int.zero_mul] at e
    exact (Int.mul_eq_zero.mp e.symm).resolve_right (Int.mul_ne_zero ok.cn ok.cn)
theorem vv {wb wc pb pc r D g M N : Int} (e1 : wb * (g * N) = r * D * wc) (e2 : pb * (N * N) = -(2 * (r * r * M)) * pc) (hK : g * N * (N * N) ≠ 0) : wb * pc * (2 * (g * r * M)) = N * -D * (wc * pb) := by
  apply Int.eq_of_mul_eq_mul_right hK
  have a1 : wb * pc * (2 * (g * r * M)) * (g * N * (N * N)) = (wb * (g * N)) * (pc * (2 * (g * r * M)) * (N * N)) := by grind
  have a2 : N * -D * (wc * pb) * (g * N * (N * N)) = (N * -D * wc * (g * N)) * (pb * (N * N)) := by grind
  rw [a1, a2, e1, e2]
  grind
theorem NK (ok : Ok k) (os : Ok s) (hn : norm d k ≠ 0) (rk : Rep k P Q R) (rs : Rep s E F G) (hab : P * Q ≠ 0) : Rep (shV d k s) ((P * P - d * Q * Q) * (E * Q - F * P)) 0 (2 * (G * R * (P * Q))) := by
  have ra := G3 ok os hn rk rs
  have rp := J8 ok hn rk
  have hN := HH ok hn rk
  have h1 := ra.b
  have h2 := rp.b
  have hc : (shA d k s).c * (prt d k).b ≠ 0 := Int.mul_ne_zero (lL os hn).cn (CN ok hn rk hab)
  have h0 := kv (a := (shA d k s).b * (prt d k).c) (b := 0) hc
  have hC : 2 * (G * R * (P * Q)) ≠ 0 := Int.mul_ne_zero (by decide) (Int.mul_ne_zero (Int.mul_ne_zero rs.c rk.c) hab)
  refine Rep.conv h0 hC ?_ (by simp)
  have := vv h1 h2 (Int.mul_ne_zero (Int.mul_ne_zero rs.c hN) (Int.mul_ne_zero hN hN))
  rw [this]
  grind
theorem vN (ok : Ok k) (os : Ok s) (hn : norm d k ≠ 0) (hab : k.a * k.b ≠ 0) : Ok (shV d k s) := j8 _ _ (Int.mul_ne_zero (lL os hn).cn (CN ok hn (aP ok) hab))
theorem uu {e f g p q r d N : Int} (hN : N = p * p - d * q * q) : (r * (e * p - d * f * q) * (2 * (g * (p * q) * N)) - r * (e * q - f * p) * (p * p + d * q * q) * (g * N)) * (2 * (g * (p * q))) = r * (e * q + f * p) * (g * N * (2 * (g * (p * q) * N))) := by
  have key : (e * p - d * f * q) * (2 * (p * q)) - (e * q - f * p) * (p * p + d * q * q) = (e * q + f * p) * N := by subst hN; grind
  have : (r * (e * p - d * f * q) * (2 * (g * (p * q) * N)) - r * (e * q - f * p) * (p * p + d * q * q) * (g * N)) = r * g * N * ((e * p - d * f * q) * (2 * (p * q)) - (e * q - f * p) * (p * p + d * q * q)) := by grind
  rw [this, key]
  grind
theorem Rl (ok : Ok k) (os : Ok s) (hn : norm d k ≠ 0) (rk : Rep k P Q R) (rs : Rep s E F G) (hab : P * Q ≠ 0) : Rep (shU d k s) (R * (E * Q + F * P)) 0 (2 * (G * (P * Q))) := by
  have ra := G3 ok os hn rk rs
  have rp := J8 ok hn rk
  have rv := NK ok os hn rk rs hab
  have hN := HH ok hn rk
  have hab' : k.a * k.b ≠ 0 := fun z => hab ((Jp ok rk).mpr z)
  have oa := lL (s := s) os hn
  have op := xW (k := k) hn
  have ov := vN ok os hn hab'
  have rt := Rep.times (d := d) ov op rv rp
  generalize hM : P * P - d * Q * Q = N at *
  have hC2 : 2 * (G * (P * Q) * N) ≠ 0 := Int.mul_ne_zero (by decide) (Int.mul_ne_zero (Int.mul_ne_zero rs.c hab) hN)
  have rt2 : Rep (times d (shV d k s) (prt d k)) (R * (E * Q - F * P) * (P * P + d * Q * Q)) (-(2 * (R * (E * Q - F * P) * (P * Q)))) (2 * (G * (P * Q) * N)) := by
    refine rt.conv hC2 ?_ ?_
    · generalize E * Q - F * P = T
      generalize P * P + d * Q * Q = S
      generalize P * Q = M
      grind
    · generalize E * Q - F * P = T
      generalize P * P + d * Q * Q = S
      generalize P * Q = M
      grind
  have rl := Rep.less oa (aQ ov op) ra rt2
  have hC : 2 * (G * (P * Q)) ≠ 0 := Int.mul_ne_zero (by decide) (Int.mul_ne_zero rs.c hab)
  refine rl.conv hC ?_ ?_
  · exact uu hM.symm
  · rw [Int.zero_mul]
    have : R * (F * P - E * Q) * (2 * (G * (P * Q) * N)) - -(2 * (R * (E * Q - F * P) * (P * Q))) * (G * N) = 0 := by grind
    rw [this, Int.zero_mul]
end
end NM
set_option linter.all false
set_option maxRecDepth 100000
set_option maxHeartbeats 4000000
namespace NM
section
variable {d : Int} {x y z : N3}
theorem ry1 (d a b a' b' p q : Int) (h1 : a' * p = a * q) (h2 : b' * p = b * q ∨ b' * p = -b * q) : (a' * a' - d * b' * b') * (p * p) = (a * a - d * b * b) * (q * q) := by
  have e1 : a' * a' * (p * p) = a * a * (q * q) := by
    have : (a' * p) * (a' * p) = (a * q) * (a * q) := by rw [h1]
    grind
  have e2 : b' * b' * (p * p) = b * b * (q * q) := by
    have : (b' * p) * (b' * p) = (b * q) * (b * q) := by
      rcases h2 with h | h <;> rw [h] <;> grind
    grind
  have : (a' * a' - d * b' * b') * (p * p) = a' * a' * (p * p) - d * (b' * b' * (p * p)) := by grind
  rw [this, e1, e2]
  grind
theorem P7 (ox : Ok x) (hn : norm d x ≠ 0) : (az d x).a * norm d x = x.a * (x.c * (az d x).c) := by
  have := ((aP ox).az ox hn).a
  have e : x.a * x.a - d * x.b * x.b = norm d x := rfl
  rw [e] at this
  rw [this]; grind
theorem Qq (ox : Ok x) (hn : norm d x ≠ 0) : (az d x).b * norm d x = -x.b * (x.c * (az d x).c) := by
  have := ((aP ox).az ox hn).b
  have e : x.a * x.a - d * x.b * x.b = norm d x := rfl
  rw [e] at this
  rw [this]; grind
section
variable {f : N3}
theorem HQ (h : 0 < f.a) (fb : f.b = 0) : sg d f.a f.b = 1 := by rw [fb, vL, if_neg (by omega), if_pos h]
end
end
end NM
set_option linter.all false
set_option maxRecDepth 100000
set_option maxHeartbeats 4000000
namespace NM
def Ht (d : Int) (n : Nat) (x : N3) : Prop := ∃ a b e f : Int, Sz n a ∧ Sz n b ∧ Sz n e ∧ Sz n f ∧ e * e - d * f * f ≠ 0 ∧ x.a * e + d * x.b * f = a * x.c ∧ x.a * f + x.b * e = b * x.c
section
variable {d : Int} {n m : Nat} {x y : N3}
theorem Ht.mono (h : Ht d n x) (l : n ≤ m) : Ht d m x := by
  obtain ⟨a, b, e, f, h1, h2, h3, h4, r⟩ := h
  exact ⟨a, b, e, f, h1.mono l, h2.mono l, h3.mono l, h4.mono l, r⟩
theorem sz0 : Sz n 0 := Sz.of (by simp; exact Nat.pos_of_ne_zero (by simp))
end
end NM
set_option linter.all false
set_option maxRecDepth 100000
set_option maxHeartbeats 4000000
namespace NM
section
variable {d : Int} {x y z : N3}
def gtL (d : Int) (k o : N3) : Prop := ((nD d o).a.natAbs : Int) * (nD d k).c < ((nD d k).a.natAbs : Int) * (nD d o).c
instance : Decidable (gtL d x y) := by unfold gtL; infer_instance
theorem lt3 {a b c p q r : Int} (hp : 0 < p) (hq : 0 < q) (hr : 0 < r) (h1 : a * q ≤ b * p) (h2 : b * r < c * q) : a * r < c * p := by
  refine Int.lt_of_mul_lt_mul_right (a := q) ?_ (Int.le_of_lt hq)
  have e1 : a * q * r ≤ b * p * r := Int.mul_le_mul_of_nonneg_right h1 (Int.le_of_lt hr)
  have e2 : b * r * p < c * q * p := Int.mul_lt_mul_of_pos_right h2 hp
  have f1 : a * r * q = a * q * r := by grind
  have f2 : c * p * q = c * q * p := by grind
  have f3 : b * p * r = b * r * p := by grind
  omega
theorem gt_trans (cx : 0 < (nD d x).c) (cy : 0 < (nD d y).c) (cz : 0 < (nD d z).c) (h1 : ¬ gtL d y z) (h2 : gtL d x z) : gtL d x y := by
  unfold gtL at *
  exact lt3 cy cz cx (Int.not_lt.mp h1) h2
theorem JZ : ¬ gtL d x x := by unfold gtL; omega
def d7 (d : Int) (ks : List N3) : Nat → Nat
  | 0 => 0
  | n + 1 => if gtL d (ks.getD (n + 1) aA) (ks.getD (d7 d ks n) aA) then n + 1 else d7 d ks n
theorem wt {ks : List N3} (hc : ∀ i, i < ks.length → 0 < (nD d (ks.getD i aA)).c) : ∀ n, n < ks.length → d7 d ks n ≤ n ∧ (∀ j, j ≤ n → ¬ gtL d (ks.getD j aA) (ks.getD (d7 d ks n) aA)) ∧ (∀ j, j < d7 d ks n → gtL d (ks.getD (d7 d ks n) aA) (ks.getD j aA))
  | 0, h => ⟨Nat.le_refl _, fun j hj => by cases Nat.le_zero.mp hj; exact JZ, fun j hj => absurd hj (by unfold d7; omega)⟩
  | n + 1, h => by
    obtain ⟨h1, h2, h3⟩ := wt hc n (by omega)
    unfold d7
    by_cases g : gtL d (ks.getD (n + 1) aA) (ks.getD (d7 d ks n) aA)
    · rw [if_pos g]
      have all : ∀ j, j ≤ n → gtL d (ks.getD (n + 1) aA) (ks.getD j aA) := fun j hj => gt_trans (hc _ h) (hc _ (by omega)) (hc _ (by omega)) (h2 j hj) g
      refine ⟨Nat.le_refl _, fun j hj => ?_, fun j hj => all j (by omega)⟩
      by_cases e : j = n + 1
      · subst e; exact JZ
      · have := all j (by omega)
        unfold gtL at this ⊢
        omega
    · rw [if_neg g]
      refine ⟨by omega, fun j hj => ?_, h3⟩
      by_cases e : j = n + 1
      · subst e; exact g
      · exact h2 j (by omega)
end
end NM
set_option linter.all false
set_option maxRecDepth 100000
set_option maxHeartbeats 400000
namespace NM
section
variable {d : Int} {x y z k s o f : N3}
def Lay (d : Int) (k s : N3) : Prop := (0 < norm d k ∧ 0 < norm d s ∧ s.b * s.b * (k.a * k.a) ≤ s.a * s.a * (k.b * k.b)) ∨ (norm d k < 0 ∧ norm d s < 0 ∧ s.a * s.a * (k.b * k.b) ≤ s.b * s.b * (k.a * k.a))
theorem KJ {u v : Int} (hv : 0 ≤ v) (h : u * u ≤ v * v) : 0 ≤ v + u ∧ 0 ≤ v - u := by
  rcases Int.lt_or_le u 0 with w | w
  · have := G9 (u := -u) (v := v) (by omega) (by rw [Int.neg_mul_neg]; exact h) hv
    omega
  · have := G9 w h hv
    omega
theorem ly1 {d P Q E F : Int} (hd : 0 < d) (hQ : Q ≠ 0) (hP : P ≠ 0) (hN : d * Q * Q < P * P) (h1 : 0 ≤ (E * Q + F * P) * (P * Q)) (h2 : 0 ≤ (E * Q - F * P) * (P * Q)) : F * F * (P * P) ≤ E * E * (Q * Q) ∧ d * F * F ≤ E * E := by
  have h := Int.mul_nonneg h1 h2
  have e : (E * Q + F * P) * (P * Q) * ((E * Q - F * P) * (P * Q)) = (E * E * (Q * Q) - F * F * (P * P)) * ((P * Q) * (P * Q)) := by grind
  rw [e, sF (Int.mul_ne_zero hP hQ)] at h
  refine ⟨by omega, ?_⟩
  have h3 : 0 ≤ (P * P - d * Q * Q) * (F * F) := Int.mul_nonneg (by omega) (sq_nonneg F)
  have e2 : (P * P - d * Q * Q) * (F * F) = F * F * (P * P) - d * F * F * (Q * Q) := by grind
  have h4 : 0 ≤ (E * E - d * F * F) * (Q * Q) := by
    have : (E * E - d * F * F) * (Q * Q) = E * E * (Q * Q) - d * F * F * (Q * Q) := by grind
    rw [this]; omega
  rw [sF hQ] at h4
  omega
theorem ly2 {P Q E F : Int} (hP : 0 < P) (hE : 0 ≤ E) (h : F * F * (P * P) ≤ E * E * (Q * Q)) : 0 ≤ (E * Q + F * P) * (P * Q) ∧ 0 ≤ (E * Q - F * P) * (P * Q) := by
  have hX : 0 ≤ E * P * (Q * Q) := Int.mul_nonneg (Int.mul_nonneg hE (by omega)) (sq_nonneg Q)
  have hs : (F * (P * P) * Q) * (F * (P * P) * Q) ≤ (E * P * (Q * Q)) * (E * P * (Q * Q)) := by
    have h1 := Int.mul_nonneg (show 0 ≤ E * E * (Q * Q) - F * F * (P * P) by omega) (sq_nonneg (P * Q))
    have e1 : (E * E * (Q * Q) - F * F * (P * P)) * (P * Q * (P * Q)) = (E * P * (Q * Q)) * (E * P * (Q * Q)) - (F * (P * P) * Q) * (F * (P * P) * Q) := by grind
    omega
  obtain ⟨a1, a2⟩ := KJ hX hs
  have e1 : (E * Q + F * P) * (P * Q) = E * P * (Q * Q) + F * (P * P) * Q := by grind
  have e2 : (E * Q - F * P) * (P * Q) = E * P * (Q * Q) - F * (P * P) * Q := by grind
  rw [e1, e2]
  exact ⟨a1, a2⟩
theorem ly3 {d P Q E F : Int} (hd : 0 < d) (hQ : Q ≠ 0) (hP : P ≠ 0) (hN : P * P < d * Q * Q) (h1 : 0 ≤ (E * Q + F * P) * (P * Q)) (h2 : (E * Q - F * P) * (P * Q) ≤ 0) : E * E * (Q * Q) ≤ F * F * (P * P) ∧ E * E ≤ d * F * F := by
  have h := Int.mul_nonneg h1 (show 0 ≤ -((E * Q - F * P) * (P * Q)) by omega)
  have e : (E * Q + F * P) * (P * Q) * -((E * Q - F * P) * (P * Q)) = (F * F * (P * P) - E * E * (Q * Q)) * ((P * Q) * (P * Q)) := by grind
  rw [e, sF (Int.mul_ne_zero hP hQ)] at h
  refine ⟨by omega, ?_⟩
  have h3 : 0 ≤ (d * Q * Q - P * P) * (F * F) := Int.mul_nonneg (by omega) (sq_nonneg F)
  have e2 : (d * Q * Q - P * P) * (F * F) = d * F * F * (Q * Q) - F * F * (P * P) := by grind
  have h4 : 0 ≤ (d * F * F - E * E) * (Q * Q) := by
    have : (d * F * F - E * E) * (Q * Q) = d * F * F * (Q * Q) - E * E * (Q * Q) := by grind
    rw [this]; omega
  rw [sF hQ] at h4
  omega
theorem ly4 {P Q E F : Int} (hQ : 0 < Q) (hF : 0 ≤ F) (h : E * E * (Q * Q) ≤ F * F * (P * P)) : 0 ≤ (E * Q + F * P) * (P * Q) ∧ (E * Q - F * P) * (P * Q) ≤ 0 := by
  have hY : 0 ≤ F * (P * P) * Q := Int.mul_nonneg (Int.mul_nonneg hF (sq_nonneg P)) (by omega)
  have hs : (E * P * (Q * Q)) * (E * P * (Q * Q)) ≤ (F * (P * P) * Q) * (F * (P * P) * Q) := by
    have h1 := Int.mul_nonneg (show 0 ≤ F * F * (P * P) - E * E * (Q * Q) by omega) (sq_nonneg (P * Q))
    have e1 : (F * F * (P * P) - E * E * (Q * Q)) * (P * Q * (P * Q)) = (F * (P * P) * Q) * (F * (P * P) * Q) - (E * P * (Q * Q)) * (E * P * (Q * Q)) := by grind
    omega
  obtain ⟨a1, a2⟩ := KJ hY hs
  have e1 : (E * Q + F * P) * (P * Q) = F * (P * P) * Q + E * P * (Q * Q) := by grind
  have e2 : (E * Q - F * P) * (P * Q) = -(F * (P * P) * Q - E * P * (Q * Q)) := by grind
  rw [e1, e2]
  exact ⟨a1, by omega⟩
theorem NO (hd : aF d) (hs : sg d s.a s.b = 1) (hn : 0 < norm d s) : 0 < s.a := by
  have h : d * s.b * s.b < s.a * s.a := by have : norm d s = s.a * s.a - d * s.b * s.b := rfl; omega
  exact (pA hd h).mp ((ke hd).mp hs)
theorem Nx (hd : aF d) (hs : sg d s.a s.b = 1) (hn : norm d s < 0) : 0 < s.b := by
  have h : s.a * s.a < d * s.b * s.b := by have : norm d s = s.a * s.a - d * s.b * s.b := rfl; omega
  exact (lB hd h).mp ((ke hd).mp hs)
theorem Bz : dE d aA = true := by
  unfold dE
  rw [show aA.b = 0 from rfl, show aA.a = 0 from rfl, show sg d 0 0 = 0 from ey.mpr ⟨rfl, rfl⟩]
  rfl
theorem sgA (hd : aF d) (ok : Ok k) (os : Ok s) (hk : sg d k.a k.b = 1) (hs : sg d s.a s.b = 1) : sg d (shA d k s).a (shA d k s).b = 1 := by
  have hn := bV hd ok hk
  unfold shA
  rw [eN hd os (aK hn), hs, me hd ok hk]
  rfl
theorem Jv (hd : aF d) (ok : Ok k) (os : Ok s) (hk : sg d k.a k.b = 1) (hs : sg d s.a s.b = 1) (hl : k.a * k.b = 0) : i5 d k s = true ↔ s.b * k.a = s.a * k.b := by
  have hn := bV hd ok hk
  unfold i5 xi xm
  rw [if_pos ((jQ ok).mpr hl), if_pos ((jQ ok).mpr hl), Bz, Bool.and_true]
  unfold dE
  rw [sgA hd ok os hk hs]
  simp only [show decide ((0 : Int) ≤ 1) = true from rfl, Bool.and_true, decide_eq_true_eq]
  rw [yM (G3 ok os hn (aP ok) (aP os)) (lL os hn)]
  constructor
  · intro h
    have := (Int.mul_eq_zero.mp h).resolve_left ok.cn
    omega
  · intro h
    rw [show s.b * k.a - s.a * k.b = 0 by omega, Int.mul_zero]
theorem MG (hd : aF d) (ok : Ok k) (os : Ok s) (hk : sg d k.a k.b = 1) (hl : k.a * k.b ≠ 0) : i5 d k s = true ↔ 0 ≤ (s.a * k.b + s.b * k.a) * (k.a * k.b) ∧ 0 ≤ norm d k * ((s.a * k.b - s.b * k.a) * (k.a * k.b)) := by
  have hn := bV hd ok hk
  have hl' : ¬ (times d k k).b = 0 := fun z => hl ((jQ ok).mp z)
  unfold i5 xi xm
  rw [if_neg hl', if_neg hl', Bool.and_eq_true]
  have ru := Rl ok os hn (aP ok) (aP os) hl
  have rv := NK ok os hn (aP ok) (aP os) hl
  have ou : Ok (shU d k s) := pj (lL os hn) (aQ (vN ok os hn hl) (xW hn))
  rw [As ou ru, As (vN ok os hn hl) rv]
  have hc := ok.c
  have hg := os.c
  have e1 : k.c * (s.a * k.b + s.b * k.a) * (2 * (s.c * (k.a * k.b))) = (s.a * k.b + s.b * k.a) * (k.a * k.b) * (2 * (k.c * s.c)) := by grind
  have e2 : (k.a * k.a - d * k.b * k.b) * (s.a * k.b - s.b * k.a) * (2 * (s.c * k.c * (k.a * k.b))) = norm d k * ((s.a * k.b - s.b * k.a) * (k.a * k.b)) * (2 * (k.c * s.c)) := by
    show norm d k * _ * _ = _
    grind
  have hp : 0 < 2 * (k.c * s.c) := Int.mul_pos (by decide) (Int.mul_pos hc hg)
  rw [e1, e2, uG hp, uG hp]
theorem M3 (hd : aF d) (ok : Ok k) (os : Ok s) (hk : sg d k.a k.b = 1) (hs : sg d s.a s.b = 1) : i5 d k s = true ↔ Lay d k s := by
  have hn := bV hd ok hk
  have hm := bV hd os hs
  have d0 : 0 < d := by have := hd.1; omega
  have nk : norm d k = k.a * k.a - d * k.b * k.b := rfl
  have ns : norm d s = s.a * s.a - d * s.b * s.b := rfl
  by_cases hl : k.a * k.b = 0
  · rw [Jv hd ok os hk hs hl]
    rcases Int.mul_eq_zero.mp hl with h0 | h0
    · have kb : k.b ≠ 0 := fun z => by rw [h0, z] at nk; simp at nk; exact hn nk
      have n1 : norm d k < 0 := by
        have := Int.mul_pos d0 (sq_pos kb)
        rw [nk, h0, Int.mul_assoc]; simp; omega
      rw [h0, Int.mul_zero]
      constructor
      · intro h
        have hE : s.a = 0 := (Int.mul_eq_zero.mp h.symm).resolve_right kb
        have sb : s.b ≠ 0 := fun z => by rw [hE, z] at ns; simp at ns; exact hm ns
        refine .inr ⟨n1, ?_, ?_⟩
        · have := Int.mul_pos d0 (sq_pos sb)
          rw [ns, hE, Int.mul_assoc]; simp; omega
        · rw [hE]; simp [h0]
      · rintro (⟨z, _⟩ | ⟨_, _, h⟩)
        · omega
        · rw [h0] at h
          simp only [Int.mul_zero] at h
          have h2 := Int.mul_nonneg (sq_nonneg s.a) (sq_nonneg k.b)
          have h3 : s.a * s.a * (k.b * k.b) = 0 := by omega
          have h4 := (Int.mul_eq_zero.mp h3).resolve_right (Int.mul_ne_zero kb kb)
          have h5 : s.a = 0 := by rcases Int.mul_eq_zero.mp h4 with w | w <;> exact w
          rw [h5]; simp
    · have ka : k.a ≠ 0 := fun z => by rw [h0, z] at nk; simp at nk; exact hn nk
      have n1 : 0 < norm d k := by
        have := sq_pos ka
        rw [nk, h0]; simp; omega
      rw [h0, Int.mul_zero]
      constructor
      · intro h
        have hF : s.b = 0 := (Int.mul_eq_zero.mp h).resolve_right ka
        have sa : s.a ≠ 0 := fun z => by rw [hF, z] at ns; simp at ns; exact hm ns
        refine .inl ⟨n1, ?_, ?_⟩
        · have := sq_pos sa
          rw [ns, hF]; simp; omega
        · rw [hF]; simp [h0]
      · rintro (⟨_, _, h⟩ | ⟨z, _⟩)
        · rw [h0] at h
          simp only [Int.mul_zero] at h
          have h2 := Int.mul_nonneg (sq_nonneg s.b) (sq_nonneg k.a)
          have h3 : s.b * s.b * (k.a * k.a) = 0 := by omega
          have h4 := (Int.mul_eq_zero.mp h3).resolve_right (Int.mul_ne_zero ka ka)
          have h5 : s.b = 0 := by rcases Int.mul_eq_zero.mp h4 with w | w <;> exact w
          rw [h5]; simp
        · omega
  · rw [MG hd ok os hk hl]
    have ka : k.a ≠ 0 := fun z => hl (by rw [z, Int.zero_mul])
    have kb : k.b ≠ 0 := fun z => hl (by rw [z, Int.mul_zero])
    rcases Int.lt_or_le 0 (norm d k) with n1 | n1
    · have hk' := NO hd hk n1
      rw [show (0 ≤ norm d k * ((s.a * k.b - s.b * k.a) * (k.a * k.b))) ↔ 0 ≤ (s.a * k.b - s.b * k.a) * (k.a * k.b) from by rw [Int.mul_comm]; exact uG n1]
      constructor
      · rintro ⟨h1, h2⟩
        obtain ⟨a1, a2⟩ := ly1 d0 kb ka (by omega) h1 h2
        exact .inl ⟨n1, by omega, a1⟩
      · rintro (⟨_, n2, h⟩ | ⟨z, _⟩)
        · have := NO hd hs n2
          exact ly2 hk' (by omega) h
        · omega
    · have n1 : norm d k < 0 := by omega
      have hk' := Nx hd hk n1
      rw [show (0 ≤ norm d k * ((s.a * k.b - s.b * k.a) * (k.a * k.b))) ↔ (s.a * k.b - s.b * k.a) * (k.a * k.b) ≤ 0 from by rw [Int.mul_comm]; exact L3 n1]
      constructor
      · rintro ⟨h1, h2⟩
        obtain ⟨a1, a2⟩ := ly3 d0 kb ka (by omega) h1 h2
        exact .inr ⟨n1, by omega, a1⟩
      · rintro (⟨z, _⟩ | ⟨_, n2, h⟩)
        · omega
        · have := Nx hd hs n2
          exact ly4 hk' (by omega) h
end
end NM
set_option linter.all false
set_option maxRecDepth 100000
set_option maxHeartbeats 400000
namespace NM
section
variable {d : Int} {x y z k s o f : N3}
structure Ray (d : Int) (s t : N3) : Prop where
  ex : ∃ p q : Int, p ≠ 0 ∧ q ≠ 0 ∧ t.a * p = s.a * q ∧ (t.b * p = s.b * q ∨ t.b * p = -s.b * q)
theorem JI {t : N3} (h : Ray d s t) : (0 < norm d t ↔ 0 < norm d s) ∧ (norm d t < 0 ↔ norm d s < 0) := by
  obtain ⟨p, q, hp, hq, h1, h2⟩ := h.ex
  have e := ry1 d _ _ _ _ p q h1 h2
  change norm d t * (p * p) = norm d s * (q * q) at e
  have a1 := sF (u := norm d t) hp
  have a2 := sF (u := norm d s) hq
  have b1 := sF (u := -norm d t) hp
  have b2 := sF (u := -norm d s) hq
  rw [Int.neg_mul] at b1 b2
  rw [e] at a1 b1
  omega
theorem Bt (ox : Ok s) (hn : norm d s ≠ 0) : Ray d s (az d s) :=
  ⟨_, _, hn, Int.mul_ne_zero ox.cn (aK hn).cn, P7 ox hn, .inr (Qq ox hn)⟩
theorem Rw (ok : Ok k) (os : Ok s) (hn : norm d k ≠ 0) : Ok (xi d k s) := by
  unfold xi
  split
  · exact lL os hn
  · rename_i h
    exact pj (lL os hn) (aQ (vN ok os hn (fun z => h ((jQ ok).mpr z))) (xW hn))
theorem RL (ok : Ok k) (os : Ok s) (hn : norm d k ≠ 0) : Ok (xm d k s) := by
  unfold xm
  split
  · exact vM
  · rename_i h
    exact vN ok os hn (fun z => h ((jQ ok).mpr z))
theorem KW (hl : (times d k k).b = 0) : xi d k s = shA d k s := if_pos hl
theorem Ls (hl : (times d k k).b = 0) : xm d k s = aA := if_pos hl
theorem Nl (hl : ¬ (times d k k).b = 0) : xi d k s = shU d k s := if_neg hl
theorem NL (hl : ¬ (times d k k).b = 0) : xm d k s = shV d k s := if_neg hl
end
end NM
set_option Elab.async false
set_option linter.all false
set_option maxRecDepth 100000
set_option maxHeartbeats 4000000
namespace L2.DL
open PySem PySem.Spec PyProof.Rows NM
theorem fU {n m : Nat} {i j : Int} (h : Sz n i) (g : Sz m j) (l : n + m ≤ 100000) : IntMulOk i j := by
  have b1 : ∀ {k : Nat} {z : Int}, Sz k z → Builtin.Int.intBits z ≤ k := fun {k z} hz => by
    unfold Builtin.Int.intBits
    split
    · exact Nat.zero_le _
    · rename_i q
      have hz' : z.natAbs ≠ 0 := by simp at q; omega
      have := (Nat.log2_lt hz').mpr hz.lt
      omega
  have e1 := b1 h
  have e2 := b1 g
  unfold IntMulOk
  intro z
  simp only [Bool.and_eq_true] at z
  have z3 := z.2
  unfold Builtin.Int.intTooBig at z3
  simp only [decide_eq_true_eq] at z3
  have : (100000 : Int) ≤ bitsLine := by decide
  omega
theorem GK {n : Nat} {i j : Int} (h0 : j ≠ 0) (h : Sz n j) (l : n ≤ 8900) : xh i j := by
  refine ⟨h0, PyProof.noPylong_of_log2 ?_⟩
  have hz' : j.natAbs ≠ 0 := by omega
  have := (Nat.log2_lt hz').mpr h.lt
  omega
theorem divC {i j : Int} (h0 : j ≠ 0) (h1 : j.natAbs < 1073741824) : xh i j := ⟨h0, PyProof.noPylong_small h1⟩
theorem mulL {i j : Int} (h : i.natAbs < 2 ^ 64) : IntMulOk i j := MI.ok (.inl (by omega))
theorem mulR {i j : Int} (h : j.natAbs < 2 ^ 64) : IntMulOk i j := MI.ok (.inr (by omega))
def dN (x : N3) : PyData := .tuple [.int x.a, .int x.b, .int x.c]
def isWhole (d : PyData) : Bool := isT "int" d && !isT "bool" d
def isNum : PyData → Bool
  | .tuple [.int a, .int b, .int c] => decide (1 ≤ c) && (g3 a b c == 1)
  | _ => false
def rj : DSp := fun ds μ Q => ∃ d, ds = [.v d] ∧ Q (.v (.bool (isWhole d))) μ
def tZ : DSp := fun ds μ Q => ∃ a b : Int, ds = [.v (.int a), .v (.int b)] ∧ Q (.v (.int (Int.gcd a b : Nat))) μ
def ya : DSp := fun ds μ Q => ∃ a b c : Int, ds = [.v (.int a), .v (.int b), .v (.int c)] ∧ Q (.v (.int (g3 a b c : Nat))) μ
def Few : PyData → Prop
  | .tuple xs => xs.length ≤ 1000
  | _ => True
def Bh : DSp := fun ds μ Q => ∃ d, ds = [.v d] ∧ Few d ∧ Q (.v (.bool (isNum d))) μ
def cX : DSp := fun ds μ Q => ∃ a b c : Int, ds = [.v (.int a), .v (.int b), .v (.int c)] ∧ c ≠ 0 ∧ Sz 8800 c ∧ Q (.v (dN (low a b c))) μ
def kc : DSp := fun ds μ Q => ∃ x : N3, ds = [.v (dN x)] ∧ Q (.v (dN (bZ x))) μ
def vp : DSp := fun ds μ Q => ∃ x : N3, ds = [.v (dN x)] ∧ Q (.v (dN (minus x))) μ
def sp2 (f : N3 → N3 → N3) : DSp := fun ds μ Q => ∃ x y : N3, ds = [.v (dN x), .v (dN y)] ∧ Ok x ∧ Ok y ∧ Bd 4300 x ∧ Bd 4300 y ∧ Q (.v (dN (f x y))) μ
abbrev kT : DSp := sp2 plus
abbrev xZ : DSp := sp2 less
def bW : DSp := fun ds μ Q => ∃ (d : Int) (x y : N3), ds = [.v (.int d), .v (dN x), .v (dN y)] ∧ Sz 5 d ∧ Ok x ∧ Ok y ∧ Bd 4300 x ∧ Bd 4300 y ∧ Q (.v (dN (times d x y))) μ
def cW : DSp := fun ds μ Q => ∃ (d : Int) (x : N3), ds = [.v (.int d), .v (dN x)] ∧ Sz 5 d ∧ norm d x ≠ 0 ∧ Bd 4300 x ∧ Q (.v (dN (az d x))) μ
def mI : DSp := fun ds μ Q => ∃ (d : Int) (x y : N3), ds = [.v (.int d), .v (dN x), .v (dN y)] ∧ aF d ∧ Ok x ∧ Ok y ∧ y ≠ aA ∧ Bd 2100 x ∧ Bd 2100 y ∧ Q (.v (dN (times d x (az d y)))) μ
def xN : DSp := fun ds μ Q => ∃ d a b : Int, ds = [.v (.int d), .v (.int a), .v (.int b)] ∧ Sz 5 d ∧ Sz 9900 a ∧ Sz 9900 b ∧ Q (.v (.int (sg d a b))) μ
def kf : DSp := fun ds μ Q => ∃ (d : Int) (x : N3), ds = [.v (.int d), .v (dN x)] ∧ aF d ∧ Bd 8900 x ∧ Q (.v (.int (sg d x.a x.b))) μ
def Bag (μ : Mu) (a : Addr) : Prop := ∃ g m : Int, μ a = some [.int g, .int m] ∧ 0 ≤ g ∧ 0 ≤ m ∧ m < 2147483648
def Step (a : Addr) (μ μ' : Mu) : Prop := Bag μ' a ∧ ∀ b, b ≠ a → μ' b = μ b
def HP : DSp := fun ds μ Q => ∃ (ns : List Int) (k : Int), ds = [.s ns, .v (.int k)] ∧ 0 ≤ k ∧ k ≤ 1000 ∧ ∀ p μ', μ p = none → Step p μ μ' → Q (.m p) μ'
def cO : DSp := fun ds μ Q => ∃ (a : Addr) (n : Int), ds = [.m a, .v (.int n)] ∧ 1 ≤ n ∧ n ≤ 1000000000 ∧ Bag μ a ∧ ∀ r μ', 0 ≤ r → r < n → Step a μ μ' → Q (.v (.int r)) μ'
def rM : DSp := fun ds μ Q => ∃ a : Addr, ds = [.m a] ∧ Bag μ a ∧ ∀ x μ', Ok x → Bd 20 x → Step a μ μ' → Q (.v (dN x)) μ'
def xJ : DSp := fun ds μ Q => ∃ a : Addr, ds = [.m a] ∧ Bag μ a ∧ ∀ d μ', aF d → Step a μ μ' → Q (.v (.int d)) μ'
theorem Step.trans {a : Addr} {μ μ1 μ2 : Mu} (h : Step a μ μ1) (g : Step a μ1 μ2) : Step a μ μ2 := ⟨g.1, fun b n => (g.2 b n).trans (h.2 b n)⟩
theorem Step.set {a : Addr} {μ : Mu} {g m : Int} (h1 : 0 ≤ g) (h2 : 0 ≤ m) (h3 : m < 2147483648) : Step a μ (aI μ a [.int g, .int m]) := ⟨⟨g, m, bI, h1, h2, h3⟩, fun b n => dy n⟩
local macro_rules | `(tactic| walk_at "rd") => `(tactic| simp only [↓Lu, ↓JX, ↓Kz, ↓A3, ↓LI, ↓J3, ↓K9, ↓Ke, ↓JU, ↓J0, ↓HB, ↓q_c, ↓Mc, ↓q_B, ↓Qr, ↓NH, ↓Np, ↓CH, ↓NS, ↓LD, ↓KO, ↓Nj, ↓LO, ↓Rk, ↓yq, ↓tX, ↓Hg, ↓Hz, ↓JC, ↓G6, ↓Gw, ↓Hj, ↓Ng, ↓M8, ↓NG, ↓NU, ↓Cs, ↓Lg, ↓Kt, ↓FK, ↓Gg, ↓E1, ↓Lp, ↓Ep, ↓Aq, ↓Nm, ↓NR, ↓Nv, ↓K0, ↓LG, ↓LF, ↓KL, ↓Jc, ↓Ri, ↓Ei, ↓J1, ↓NB, ↓NW, ↓Nh, ↓MQ, ↓Cp, ↓Ku, ↓JT, ↓JV, ↓NN, ↓Qy, ↓JE, ↓Lr, ↓HI, ↓Hh, ↓KP, ↓NJ, ↓M9, ↓Nd, ↓rD, ↓Jr, ↓Ho, ↓Jq, ↓J5, ↓Hb, ↓ND, ↓K4, ↓yE, ↓GC, ↓KZ, ↓GU, ↓G7, ↓Kh, ↓M7, ↓Nc, ↓Je, ↓Hm, ↓JH, ↓Es, ↓G8, ↓Ee, ↓D8, ↓GB, ↓C6, ↓C4, ↓CP, ↓NA, Ll, ↓K8, ↓BG, JN, J7, Nr, Nq, Ni, Option.bind_none, Option.bind_some, Option.join_some, List.getElem?_cons_zero, List.getElem?_cons_succ, aH, dN, w8, Ek, EA, Hx, K7, List.map, List.append, List.replicate, List.length_cons, List.length_nil, Nat.reduceAdd, Nat.reduceSub, List.nil_append, List.cons_append, List.set_cons_zero, List.set_cons_succ, Option.map_some, ↓reduceIte, Bool.not_true, Bool.not_false, Bool.false_eq_true, Bool.true_eq_false, Bool.xor_false, Bool.false_xor])
def qG : DTS :=
  (bB (AK (H0 "int" (af 0)) (Kg (H0 "bool" (af 0)))))
def iO : DTS :=
  (aL (Fd (dB (dOp (fe true) (af 1) (dC (.int 0)))) (zC 0 1 (ae (af 1) (ae (yt (af 0) (af 1)) ak))))
  (bB (dCB p6 (ae (af 0) ak))))
def iw : DTS :=
  (bB (ao tZ (ae (ao tZ (ae (af 2) (ae (af 0) ak))) (ae (af 1) ak))))
def lD : DTS :=
  (aL (zC 0 1 (ae (dCB p6 (ae (af 0) ak)) (ae (dCB p6 (ae (af 1) ak)) ak)))
  (aL (Fd (dB (dOp rGt (af 1) (dC (.int 0)))) (zC 0 1 (ae (af 1) (ae (yt (af 0) (af 1)) ak))))
  (bB (af 0))))
section
theorem GW (x : Int) {y : Int} (h : y ≠ 0) : (x.fmod y).natAbs < y.natAbs := by
  have e := Int.mul_fdiv_add_fmod x y
  have := Int.fmod_def x y
  rcases Int.lt_or_gt_of_ne h with h | h
  · have k := Int.neg_fmod_neg (a := x) (b := y)
    have h1 := Int.fmod_nonneg_of_pos (-x) (show 0 < -y by omega)
    have h2 := Int.fmod_lt_of_pos (-x) (show 0 < -y by omega)
    omega
  · have h1 := Int.fmod_nonneg_of_pos x h
    have h2 := Int.fmod_lt_of_pos x h
    omega
theorem Eb (x y : Int) : Int.gcd y (x.fmod y) = Int.gcd x y := by
  have e := Int.mul_fdiv_add_fmod x y
  have e' : x.fmod y = x + y * (-(x.fdiv y)) := by rw [Int.mul_neg]; omega
  rw [e', Int.gcd_add_mul_left_right, Int.gcd_comm]
theorem Eg {μ Qd ds} (h : rj ds μ Qd) : qG { nx := fun _ μ' => Qd (.v .none) μ', rt := Qd } (aH ["thing"] ds) μ := by
  obtain ⟨d, rfl, q⟩ := h
  unfold qG
  walk_at "rd"
  unfold isWhole at q
  cases hb : isT "int" d <;> simp_all
theorem u5 {μ Qd ds} (h : tZ ds μ Qd) : iO { nx := fun _ μ' => Qd (.v .none) μ', rt := Qd } (aH ["a", "b"] ds) μ := by
  obtain ⟨a, b, rfl, q⟩ := h
  unfold iO
  walk_at "rd"
  refine ⟨fun m ρ μ' => ∃ x y : Int, ρ = [some (.v (.int x)), some (.v (.int y))] ∧ m = y.natAbs ∧ Int.gcd x y = Int.gcd a b ∧ μ' = μ, ⟨_, a, b, rfl, rfl, rfl, rfl⟩, ?_⟩
  rintro m ρ μ' ⟨x, y, rfl, rfl, hg, rfl⟩
  walk_at "rd"
  by_cases hy : y = 0
  · subst hy
    have e : Int.gcd x 0 = x.natAbs := Int.gcd_zero_right x
    rw [← hg, e] at q
    simpa using q
  · have z : (true ^^ decide (y = 0)) = true := by simp [hy]
    rw [if_pos z]
    exact ⟨hy, _, GW x hy, y, x.fmod y, rfl, rfl, (Eb x y).trans hg, trivial⟩
theorem yk {μ Qd ds} (h : tZ ds μ Qd) : lD { nx := fun _ μ' => Qd (.v .none) μ', rt := Qd } (aH ["_law_one", "_law_other"] ds) μ := by
  obtain ⟨a, b, rfl, q⟩ := h
  unfold lD
  walk_at "rd"
  refine ⟨fun m ρ μ' => ∃ x y : Int, ρ = [some (.v (.int x)), some (.v (.int y))] ∧ m = y.natAbs ∧ 0 ≤ x ∧ 0 ≤ y ∧ Int.gcd x y = Int.gcd a b ∧ μ' = μ, ⟨_, _, _, rfl, rfl, by omega, by omega, by simp [Int.gcd], rfl⟩, ?_⟩
  rintro m ρ μ' ⟨x, y, rfl, rfl, hx, hy, hg, rfl⟩
  walk_at "rd"
  by_cases h0 : 0 < y
  · rw [if_pos (by simpa using h0)]
    have hy' : y ≠ 0 := by omega
    exact ⟨hy', _, GW x hy', y, x.fmod y, rfl, rfl, by omega, Int.fmod_nonneg_of_pos x h0, (Eb x y).trans hg, trivial⟩
  · rw [if_neg (by simpa using h0)]
    have e : y = 0 := by omega
    subst e
    rw [Int.gcd_zero_right] at hg
    have : x = ((Int.gcd a b : Nat) : Int) := by omega
    rw [this]
    exact q
theorem vw {μ Qd ds} (h : ya ds μ Qd) : iw { nx := fun _ μ' => Qd (.v .none) μ', rt := Qd } (aH ["a", "b", "c"] ds) μ := by
  obtain ⟨a, b, c, rfl, q⟩ := h
  unfold iw
  walk_at "rd"
  rw [← Ml] at q
  exact ⟨c, a, rfl, _, b, rfl, q⟩
end
open PySem PySem.Spec PyProof.Rows NM
def wG : DTS :=
  (aL (eu (dB (dOp (fe false) (af 2) (dC (.int 0)))) vH cD)
  (aL (bA (ao ya (ae (af 0) (ae (af 1) (ae (af 2) ak)))) (av 3))
  (aL (eu (dB (dOp rLt (af 2) (dC (.int 0)))) (bA (vR (af 3)) (av 3)) cD)
  (bB (bE (ae (yn (af 0) (af 3)) (ae (yn (af 1) (af 3)) (ae (yn (af 2) (af 3)) ak))))))))
def qo : DTS :=
  (aL (bA (cb (ao tZ (ae (ao tZ (ae (af 0) (ae (af 1) ak))) (ae (af 2) ak))) (dOp aB (j4 (ae (dC (.int 1)) (ae (vR (dC (.int 1))) ak))) (dCB ql (ae (dOp rLt (af 2) (dC (.int 0))) ak)))) (av 3))
  (bB (bE (ae (yn (af 0) (af 3)) (ae (yn (af 1) (af 3)) (ae (yn (af 2) (af 3)) ak))))))
def mP : DTS :=
  (bB (bE (ae (tT (dC (.int 0)) (dOp aB (af 0) (dC (.int 0)))) (ae (tT (dC (.int 0)) (dOp aB (af 0) (dC (.int 1)))) (ae (dOp aB (af 0) (dC (.int 2))) ak)))))
def Ce : DTS :=
  (bB (ao cX (ae (nW (cb (dOp aB (af 0) (dC (.int 0))) (dOp aB (af 1) (dC (.int 2)))) (cb (dOp aB (af 1) (dC (.int 0))) (dOp aB (af 0) (dC (.int 2))))) (ae (nW (cb (dOp aB (af 0) (dC (.int 1))) (dOp aB (af 1) (dC (.int 2)))) (cb (dOp aB (af 1) (dC (.int 1))) (dOp aB (af 0) (dC (.int 2))))) (ae (cb (dOp aB (af 0) (dC (.int 2))) (dOp aB (af 1) (dC (.int 2)))) ak)))))
def uJ : DTS :=
  (bB (ao cX (ae (nW (cb (dOp aB (af 0) (dC (.int 0))) (dOp aB (af 1) (dC (.int 2)))) (cb (dOp aB (af 1) (dC (.int 0))) (dOp aB (af 0) (dC (.int 2))))) (ae (nW (cb (dOp aB (af 0) (dC (.int 1))) (dOp aB (af 1) (dC (.int 2)))) (cb (dOp aB (af 1) (dC (.int 1))) (dOp aB (af 0) (dC (.int 2))))) (ae (cb (dOp aB (af 0) (dC (.int 2))) (dOp aB (af 1) (dC (.int 2)))) ak)))))
def Cv : DTS :=
  (bB (ao cX (ae (tT (cb (dOp aB (af 0) (dC (.int 0))) (dOp aB (af 1) (dC (.int 2)))) (cb (dOp aB (af 1) (dC (.int 0))) (dOp aB (af 0) (dC (.int 2))))) (ae (tT (cb (dOp aB (af 0) (dC (.int 1))) (dOp aB (af 1) (dC (.int 2)))) (cb (dOp aB (af 1) (dC (.int 1))) (dOp aB (af 0) (dC (.int 2))))) (ae (cb (dOp aB (af 0) (dC (.int 2))) (dOp aB (af 1) (dC (.int 2)))) ak)))))
def yJ : DTS :=
  (bB (ao cX (ae (nW (cb (dOp aB (af 1) (dC (.int 0))) (dOp aB (af 2) (dC (.int 0)))) (cb (cb (af 0) (dOp aB (af 1) (dC (.int 1)))) (dOp aB (af 2) (dC (.int 1))))) (ae (nW (cb (dOp aB (af 1) (dC (.int 0))) (dOp aB (af 2) (dC (.int 1)))) (cb (dOp aB (af 1) (dC (.int 1))) (dOp aB (af 2) (dC (.int 0))))) (ae (cb (dOp aB (af 1) (dC (.int 2))) (dOp aB (af 2) (dC (.int 2)))) ak)))))
def si : DTS :=
  (bB (ao cX (ae (nW (cb (dOp aB (af 1) (dC (.int 0))) (dOp aB (af 2) (dC (.int 0)))) (cb (cb (af 0) (dOp aB (af 1) (dC (.int 1)))) (dOp aB (af 2) (dC (.int 1))))) (ae (nW (cb (dOp aB (af 1) (dC (.int 0))) (dOp aB (af 2) (dC (.int 1)))) (cb (dOp aB (af 1) (dC (.int 1))) (dOp aB (af 2) (dC (.int 0))))) (ae (cb (dOp aB (af 1) (dC (.int 2))) (dOp aB (af 2) (dC (.int 2)))) ak)))))
def qC : DTS :=
  (aL (bA (tT (cb (dOp aB (af 1) (dC (.int 0))) (dOp aB (af 1) (dC (.int 0)))) (cb (cb (af 0) (dOp aB (af 1) (dC (.int 1)))) (dOp aB (af 1) (dC (.int 1))))) (av 2))
  (bB (ao cX (ae (cb (dOp aB (af 1) (dC (.int 2))) (dOp aB (af 1) (dC (.int 0)))) (ae (cb (vR (dOp aB (af 1) (dC (.int 2)))) (dOp aB (af 1) (dC (.int 1)))) (ae (af 2) ak))))))
def i8 : DTS :=
  (bB (ao cX (ae (cb (dOp aB (af 1) (dC (.int 0))) (dOp aB (af 1) (dC (.int 2)))) (ae (tT (dC (.int 0)) (cb (dOp aB (af 1) (dC (.int 1))) (dOp aB (af 1) (dC (.int 2))))) (ae (tT (cb (dOp aB (af 1) (dC (.int 0))) (dOp aB (af 1) (dC (.int 0)))) (cb (cb (af 0) (dOp aB (af 1) (dC (.int 1)))) (dOp aB (af 1) (dC (.int 1))))) ak)))))
def Cr : DTS :=
  (aL (eu (dB (dOp (fe false) (af 2) (dC (.tuple [.int 0, .int 0, .int 1])))) vH cD)
  (bB (ao bW (ae (af 0) (ae (af 1) (ae (ao cW (ae (af 0) (ae (af 2) ak))) ak))))))
def Cn : DTS :=
  (bB (bE (ae (dOp aB (af 0) (dC (.int 0))) (ae (vR (dOp aB (af 0) (dC (.int 1)))) (ae (dOp aB (af 0) (dC (.int 2))) ak)))))
section
variable {μ : Mu} {Qd : DK} {ds : List D}
theorem RV (i j : Int) : PyData.eqv (.int i) (.int j) = decide (i = j) := by simp [PyData.eqv]; rfl
theorem gdv {a b c : Int} (h : Sz 8800 c) (hc : c ≠ 0) : Sz 8800 ((g3 a b c : Nat) : Int) := by
  have h1 := (Kj a b c).2.2
  have h2 := Int.natAbs_dvd_natAbs.mpr h1
  exact h.le (Nat.le_of_dvd (by omega) h2)
theorem IC (h : cX ds μ Qd) : wG { nx := fun _ μ' => Qd (.v .none) μ', rt := Qd } (aH ["a", "b", "c", "divisor"] ds) μ := by
  obtain ⟨a, b, c, rfl, hc, hz, q⟩ := h
  unfold wG
  walk_at "rd"
  rw [decide_eq_false hc]
  simp only [Bool.xor_false, Bool.false_eq_true, ↓reduceIte]
  refine ⟨a, b, c, rfl, ?_⟩
  walk_at "rd"
  have hp := B3 (a := a) (b := b) hc
  have hg := gdv (a := a) (b := b) hz hc
  unfold low NM.dv dN at q
  simp only at q
  by_cases hn : c < 0
  · rw [if_pos (by simpa using hn)]
    rw [if_pos hn] at q
    have o : ∀ i : Int, xh i (-((g3 a b c : Nat) : Int)) := fun i => GK (by omega) hg.neg (by decide)
    exact ⟨o _, o _, o _, q⟩
  · rw [if_neg (by simpa using hn)]
    rw [if_neg hn] at q
    have o : ∀ i : Int, xh i ((g3 a b c : Nat) : Int) := fun i => GK (by omega) hg (by decide)
    exact ⟨o _, o _, o _, q⟩
theorem C8 (h : cX ds μ Qd) : qo { nx := fun _ μ' => Qd (.v .none) μ', rt := Qd } (aH ["_law_a", "_law_b", "_law_c", "_law_common"] ds) μ := by
  obtain ⟨a, b, c, rfl, hc, hz, q⟩ := h
  unfold qo
  walk_at "rd"
  refine ⟨a, b, rfl, _, c, rfl, ?_⟩
  walk_at "rd"
  have hp := B3 (a := a) (b := b) hc
  have hg := gdv (a := a) (b := b) hz hc
  unfold low NM.dv dN at q
  simp only at q
  by_cases hn : c < 0
  · simp only [hn, decide_true, ↓reduceIte, EA]
    rw [if_pos hn] at q
    have e : ((Int.gcd (Int.gcd a b : Nat) c : Nat) : Int) * -1 = -((g3 a b c : Nat) : Int) := by unfold g3; omega
    walk_at "rd"
    rw [e]
    have o : ∀ i : Int, xh i (-((g3 a b c : Nat) : Int)) := fun i => GK (by omega) hg.neg (by decide)
    exact ⟨mulR (by decide), o _, o _, o _, q⟩
  · simp only [hn, decide_false, Bool.false_eq_true, ↓reduceIte, Ek]
    rw [if_neg hn] at q
    have e : ((Int.gcd (Int.gcd a b : Nat) c : Nat) : Int) * 1 = ((g3 a b c : Nat) : Int) := by unfold g3; omega
    walk_at "rd"
    rw [e]
    have o : ∀ i : Int, xh i ((g3 a b c : Nat) : Int) := fun i => GK (by omega) hg (by decide)
    exact ⟨mulR (by decide), o _, o _, o _, q⟩
theorem MZ (h : kc ds μ Qd) : Cn { nx := fun _ μ' => Qd (.v .none) μ', rt := Qd } (aH ["x"] ds) μ := by
  obtain ⟨x, rfl, q⟩ := h
  unfold Cn
  walk_at "rd"
  exact q
theorem zX (h : vp ds μ Qd) : mP { nx := fun _ μ' => Qd (.v .none) μ', rt := Qd } (aH ["_law_x"] ds) μ := by
  obtain ⟨x, rfl, q⟩ := h
  unfold mP
  walk_at "rd"
  simp only [Int.zero_sub]
  exact q
theorem GP (h : kT ds μ Qd) : Ce { nx := fun _ μ' => Qd (.v .none) μ', rt := Qd } (aH ["x", "y"] ds) μ := by
  obtain ⟨x, y, rfl, ox, oy, bx, by', q⟩ := h
  unfold Ce
  walk_at "rd"
  have m : ∀ {i j : Int}, Sz 4300 i → Sz 4300 j → IntMulOk i j := fun h g => fU h g (by decide)
  exact ⟨m bx.a by'.c, m by'.a bx.c, m bx.b by'.c, m by'.b bx.c, m bx.c by'.c, _, _, _, rfl, vJ ox oy, (bx.c.mul by'.c).mono (by decide), q⟩
theorem Cc (h : kT ds μ Qd) : uJ { nx := fun _ μ' => Qd (.v .none) μ', rt := Qd } (aH ["_law_x", "_law_y"] ds) μ := GP h
theorem LV (h : xZ ds μ Qd) : Cv { nx := fun _ μ' => Qd (.v .none) μ', rt := Qd } (aH ["x", "y"] ds) μ := by
  obtain ⟨x, y, rfl, ox, oy, bx, by', q⟩ := h
  unfold Cv
  walk_at "rd"
  have m : ∀ {i j : Int}, Sz 4300 i → Sz 4300 j → IntMulOk i j := fun h g => fU h g (by decide)
  exact ⟨m bx.a by'.c, m by'.a bx.c, m bx.b by'.c, m by'.b bx.c, m bx.c by'.c, _, _, _, rfl, vJ ox oy, (bx.c.mul by'.c).mono (by decide), q⟩
theorem CM (h : bW ds μ Qd) : yJ { nx := fun _ μ' => Qd (.v .none) μ', rt := Qd } (aH ["d", "x", "y"] ds) μ := by
  obtain ⟨d, x, y, rfl, hd, ox, oy, bx, by', q⟩ := h
  unfold yJ
  walk_at "rd"
  have m : ∀ {i j : Int}, Sz 4300 i → Sz 4300 j → IntMulOk i j := fun h g => fU h g (by decide)
  exact ⟨m bx.a by'.a, fU hd bx.b (by decide), fU (hd.mul bx.b) by'.b (by decide), m bx.a by'.b, m bx.b by'.a, m bx.c by'.c, _, _, _, rfl, vJ ox oy, (bx.c.mul by'.c).mono (by decide), q⟩
theorem zT (h : bW ds μ Qd) : si { nx := fun _ μ' => Qd (.v .none) μ', rt := Qd } (aH ["_law_d", "_law_x", "_law_y"] ds) μ := CM h
theorem C7 (h : cW ds μ Qd) : qC { nx := fun _ μ' => Qd (.v .none) μ', rt := Qd } (aH ["d", "x", "norm"] ds) μ := by
  obtain ⟨d, x, rfl, hd, hn, bx, q⟩ := h
  unfold qC
  walk_at "rd"
  have m : ∀ {i j : Int}, Sz 4300 i → Sz 4300 j → IntMulOk i j := fun h g => fU h g (by decide)
  exact ⟨m bx.a bx.a, fU hd bx.b (by decide), fU (hd.mul bx.b) bx.b (by decide), m bx.c bx.a, m bx.c.neg bx.b, _, _, _, rfl, hn, (xF hd bx).mono (by decide), q⟩
theorem vT (h : cW ds μ Qd) : i8 { nx := fun _ μ' => Qd (.v .none) μ', rt := Qd } (aH ["_law_d", "_law_x"] ds) μ := by
  obtain ⟨d, x, rfl, hd, hn, bx, q⟩ := h
  unfold i8
  walk_at "rd"
  have m : ∀ {i j : Int}, Sz 4300 i → Sz 4300 j → IntMulOk i j := fun h g => fU h g (by decide)
  refine ⟨m bx.a bx.c, m bx.b bx.c, m bx.a bx.a, fU hd bx.b (by decide), fU (hd.mul bx.b) bx.b (by decide), _, _, _, rfl, hn, (xF hd bx).mono (by decide), ?_⟩
  have e1 : x.a * x.c = x.c * x.a := Int.mul_comm ..
  have e2 : 0 - x.b * x.c = -x.c * x.b := by grind
  rw [e1, e2]
  exact q
theorem Qx (a b c a' b' c' : Int) : PyData.eqv (.tuple [.int a, .int b, .int c]) (.tuple [.int a', .int b', .int c']) = decide (a = a' ∧ b = b' ∧ c = c') := by
  simp [PyData.eqv, PyData.eqvAll]
  rfl
theorem L5 (h : mI ds μ Qd) : Cr { nx := fun _ μ' => Qd (.v .none) μ', rt := Qd } (aH ["d", "x", "y"] ds) μ := by
  obtain ⟨d, x, y, rfl, hd, ox, oy, hy, bx, by', q⟩ := h
  unfold Cr
  walk_at "rd"
  refine ⟨rfl, rfl, ?_⟩
  have hn : ¬ (y.a = 0 ∧ y.b = 0 ∧ y.c = 1) := fun z => hy (N3.ext' z.1 z.2.1 z.2.2)
  rw [Qx, decide_eq_false hn]
  simp only [Bool.xor_false, Bool.false_eq_true, ↓reduceIte]
  have s5 := sM hd.1 hd.2.1
  have nz := hd.norm oy hy
  exact ⟨d, y, rfl, s5, nz, by'.mono (by decide), d, x, _, rfl, s5, ox, aK nz, bx.mono (by decide), (cC s5 nz by').mono (by decide), q⟩
end
open PySem PySem.Spec PyProof.Rows NM
def jh : DTS :=
  (aL (eu (wU (dB (dOp (fe false) (af 1) (dC (.int 0)))) (dB (dOp (fe false) (af 2) (dC (.int 0))))) (bB (dC (.int 0))) cD)
  (aL (eu (wU (dB (dOp rGe (af 1) (dC (.int 0)))) (dB (dOp rGe (af 2) (dC (.int 0))))) (bB (dC (.int 1))) cD)
  (aL (eu (wU (dB (dOp rLe (af 1) (dC (.int 0)))) (dB (dOp rLe (af 2) (dC (.int 0))))) (bB (vR (dC (.int 1)))) cD)
  (aL (bA (dIf (dB (dOp rGt (cb (af 1) (af 1)) (cb (cb (af 0) (af 2)) (af 2)))) (af 1) (af 2)) (av 3))
  (bB (dIf (dB (dOp rGt (af 3) (dC (.int 0)))) (dC (.int 1)) (vR (dC (.int 1)))))))))
def sY : DTS :=
  (bB (ao xN (ae (af 0) (ae (dOp aB (af 1) (dC (.int 0))) (ae (dOp aB (af 1) (dC (.int 1))) ak)))))
def nZ : DTS :=
  (aL (zC 2 3 (ae (cb (dOp aB (af 1) (dC (.int 0))) (dOp aB (af 1) (dC (.int 0)))) (ae (cb (cb (af 0) (dOp aB (af 1) (dC (.int 1)))) (dOp aB (af 1) (dC (.int 1)))) ak)))
  (aL (bA (j4 (ae (tT (dCB ql (ae (dOp rGt (dOp aB (af 1) (dC (.int 0))) (dC (.int 0))) ak)) (dCB ql (ae (dOp rLt (dOp aB (af 1) (dC (.int 0))) (dC (.int 0))) ak))) (ae (tT (dCB ql (ae (dOp rGt (dOp aB (af 1) (dC (.int 1))) (dC (.int 0))) ak)) (dCB ql (ae (dOp rLt (dOp aB (af 1) (dC (.int 1))) (dC (.int 0))) ak))) ak))) (av 4))
  (aL (eu (dB (dOp rGe (cb (dOp aB (af 4) (dC (.int 0))) (dOp aB (af 4) (dC (.int 1)))) (dC (.int 0)))) (bB (dIf (dB (dOp (fe true) (dOp aB (af 4) (dC (.int 0))) (dC (.int 0)))) (dOp aB (af 4) (dC (.int 0))) (dOp aB (af 4) (dC (.int 1))))) cD)
  (bB (dIf (dB (dOp rGt (af 2) (af 3))) (dOp aB (af 4) (dC (.int 0))) (dOp aB (af 4) (dC (.int 1))))))))
section
variable {μ : Mu} {Qd : DK} {ds : List D}
theorem wg (h : xN ds μ Qd) : jh { nx := fun _ μ' => Qd (.v .none) μ', rt := Qd } (aH ["d", "a", "b", "prevailing"] ds) μ := by
  obtain ⟨d, a, b, rfl, hd, ha, hb, q⟩ := h
  unfold jh
  walk_at "rd"
  have m1 : MulOk a a := fU ha ha (by decide)
  have m2 : MulOk d b := fU hd hb (by decide)
  have m3 : MulOk (d * b) b := fU (hd.mul hb) hb (by decide)
  unfold sg at q
  by_cases h1 : a = 0
  · by_cases h2 : b = 0
    · subst h1 h2; simpa using q
    · subst h1
      rcases Int.lt_or_gt_of_ne h2 with h3 | h3
      · have e : ¬ (0 ≤ b) := by omega
        have e' : b ≤ 0 := by omega
        simp only [h2, e, e', and_false, true_and, if_true, if_false, decide_true, decide_false, Int.le_refl, ↓reduceIte, Bool.false_eq_true] at q ⊢
        exact q
      · have e : (0 ≤ b) := by omega
        simp only [h2, e, and_false, true_and, if_true, if_false, decide_true, decide_false, Int.le_refl, ↓reduceIte, Bool.false_eq_true] at q ⊢
        exact q
  · by_cases h3 : 0 ≤ a <;> by_cases h4 : 0 ≤ b <;> by_cases h5 : a ≤ 0 <;> by_cases h6 : b ≤ 0 <;> by_cases h7 : d * b * b < a * a <;> (try (exfalso; omega)) <;>
      simp only [h1, h3, h4, h5, h6, h7, and_false, false_and, and_true, true_and, if_true, if_false, decide_true, decide_false, ↓reduceIte, Bool.false_eq_true, and_self, m1, m2, m3, gt_iff_lt] at q ⊢ <;> (try exact q)
    all_goals
      first
      | (by_cases h8 : 0 < a <;> simp only [h8, if_true, if_false, decide_true, decide_false, ↓reduceIte, Bool.false_eq_true] at q ⊢ <;> exact q)
      | (by_cases h8 : 0 < b <;> simp only [h8, if_true, if_false, decide_true, decide_false, ↓reduceIte, Bool.false_eq_true] at q ⊢ <;> exact q)
theorem FF (h : kf ds μ Qd) : sY { nx := fun _ μ' => Qd (.v .none) μ', rt := Qd } (aH ["d", "x"] ds) μ := by
  obtain ⟨d, x, rfl, hd, bx, q⟩ := h
  unfold sY
  walk_at "rd"
  exact ⟨d, x.a, x.b, rfl, sM hd.1 hd.2.1, bx.a.mono (by decide), bx.b.mono (by decide), q⟩
theorem N0 {d a b sa sb : Int} (ha : (a < 0 ∧ sa = -1) ∨ (a = 0 ∧ sa = 0) ∨ (0 < a ∧ sa = 1)) (hb : (b < 0 ∧ sb = -1) ∨ (b = 0 ∧ sb = 0) ∨ (0 < b ∧ sb = 1)) :
    sg d a b = if 0 ≤ sa * sb then (if sa ≠ 0 then sa else sb) else if d * b * b < a * a then sa else sb := by
  unfold sg
  by_cases h7 : d * b * b < a * a <;> rcases ha with ⟨h1, rfl⟩ | ⟨h1, rfl⟩ | ⟨h1, rfl⟩ <;> rcases hb with ⟨h2, rfl⟩ | ⟨h2, rfl⟩ | ⟨h2, rfl⟩ <;> simp only [h7, ↓reduceIte] <;> (repeat' split) <;> omega
theorem CD (h : kf ds μ Qd) : nZ { nx := fun _ μ' => Qd (.v .none) μ', rt := Qd } (aH ["_law_d", "_law_x", "_law_first", "_law_second", "_law_sides"] ds) μ := by
  obtain ⟨d, x, rfl, hd, bx, q⟩ := h
  unfold nZ
  walk_at "rd"
  have s5 := sM hd.1 hd.2.1
  refine ⟨fU bx.a bx.a (by decide), fU s5 bx.b (by decide), fU (s5.mul bx.b) bx.b (by decide), ?_⟩
  have sd : ∀ u : Int, (u < 0 ∧ ((if decide (0 < u) = true then 1 else 0) - if decide (u < 0) = true then 1 else 0 : Int) = -1) ∨ (u = 0 ∧ ((if decide (0 < u) = true then 1 else 0) - if decide (u < 0) = true then 1 else 0 : Int) = 0) ∨ (0 < u ∧ ((if decide (0 < u) = true then 1 else 0) - if decide (u < 0) = true then 1 else 0 : Int) = 1) := fun u => by
    simp only [decide_eq_true_eq]
    split <;> split <;> omega
  have ha := sd x.a
  have hb := sd x.b
  generalize ((if decide (0 < x.a) = true then 1 else 0) - if decide (x.a < 0) = true then 1 else 0 : Int) = sa at ha ⊢
  generalize ((if decide (0 < x.b) = true then 1 else 0) - if decide (x.b < 0) = true then 1 else 0 : Int) = sb at hb ⊢
  rw [N0 ha hb] at q
  refine ⟨mulL (by omega), ?_⟩
  by_cases c1 : 0 ≤ sa * sb <;> by_cases c2 : sa = 0 <;> by_cases c3 : d * x.b * x.b < x.a * x.a <;> simp only [c1, c2, c3, decide_true, decide_false, ↓reduceIte, Bool.false_eq_true, Bool.xor_false, Bool.xor_true, Bool.not_true, ne_eq, not_true_eq_false, not_false_eq_true, Int.zero_mul, Int.le_refl] at q ⊢ <;> exact q
end
open PySem PySem.Spec PyProof.Rows NM
def qp : DTS :=
  (aL (bA (dC (.int 0)) (av 2))
  (aL (eu (dB (dOp rLt (af 1) (dCB iC (ae (af 0) ak)))) (bA (dOp aB (af 0) (af 1)) (av 2)) cD)
  (aL (bA (dC (.int 0)) (av 3))
  (aL (eu (dB (dOp rGe (dCB p6 (ae (af 2) ak)) (MU (dC (.int 10)) (dC (.int 18))))) (bA (dCB p6 (ae (af 2) ak)) (av 3)) cD)
  (aL (bA (j4 (ae (dC (.int 2147483647)) (ae (dC (.int 2147483629)) (ae (dC (.int 2147483587)) (ae (dC (.int 2147483579)) (ae (dC (.int 2147483563)) (ae (dC (.int 2147483549)) (ae (dC (.int 2147483543)) (ae (dC (.int 2147483497)) ak))))))))) (av 4))
  (aL (bA (nW (nW (nW (cb (yt (af 2) (dC (.int 2147483647))) (dC (.int 69623))) (cb (cb (dC (.int 104729)) (af 1)) (af 1))) (cb (dC (.int 7919)) (af 1))) (dC (.int 12345))) (av 5))
  (bB (Gs (ae (af 3) (ae (yt (af 5) (dOp aB (af 4) (yt (af 1) (dC (.int 8))))) ak))))))))))
def oA : DTS :=
  (aL (eu (dB (dOp rGt (dOp aB (af 0) (dC (.int 0))) (dC (.int 0)))) (aL (bA (yt (dOp aB (af 0) (dC (.int 0))) (af 1)) (av 2))
  (aL (bA (yn (dOp aB (af 0) (dC (.int 0))) (af 1)) (Hr (af 0) (dC (.int 0))))
  (bB (af 2)))) cD)
  (aL (bA (yt (nW (cb (dOp aB (af 0) (dC (.int 1))) (dC (.int 48271))) (dC (.int 2531011))) (dC (.int 2147483647))) (Hr (af 0) (dC (.int 1))))
  (bB (yt (yn (yt (MU (dOp aB (af 0) (dC (.int 1))) (dC (.int 3))) (dC (.int 2147483629))) (dC (.int 64))) (af 1)))))
section
variable {μ : Mu} {Qd : DK} {ds : List D}
theorem vy {α : Type} {xs : List α} {i : Int} (h0 : 0 ≤ i) (h : i < (xs.length : Nat)) : ∃ d, atI xs i = some d ∧ d ∈ xs := by
  have hj : i.toNat < xs.length := by omega
  have e := mm (xs := xs) (j := i.toNat) (v := xs[i.toNat]) (by simp [hj])
  rw [show ((i.toNat : Nat) : Int) = i by omega] at e
  exact ⟨_, e, List.getElem_mem _⟩
theorem mV (x : Int) {y : Int} (h : 0 < y) : 0 ≤ x.fmod y ∧ x.fmod y < y := ⟨Int.fmod_nonneg_of_pos x h, Int.fmod_lt_of_pos x h⟩
theorem Mt {x y : Int} (hx : 0 ≤ x) (hy : 0 < y) : 0 ≤ x.fdiv y := by rw [Int.fdiv_eq_ediv_of_nonneg _ (by omega)]; exact Int.ediv_nonneg hx (by omega)
def q5 : List PyData := [.int 2147483647, .int 2147483629, .int 2147483587, .int 2147483579, .int 2147483563, .int 2147483549, .int 2147483543, .int 2147483497]
theorem EO (h : HP ds μ Qd) : qp { nx := fun _ μ' => Qd (.v .none) μ', rt := Qd } (aH ["_law_script", "_law_at", "_law_cell", "_law_great", "_law_primes", "_law_mixed"] ds) μ := by
  obtain ⟨ns, k, rfl, h0, h1, q⟩ := h
  unfold qp
  have hp : ∃ pr : Int, atI q5 (k.fmod 8) = some (.int pr) ∧ 0 < pr ∧ pr < 2147483648 := by
    obtain ⟨h2, h3⟩ := mV k (show (0 : Int) < 8 by decide)
    obtain ⟨p, e, hm⟩ := vy (xs := q5) h2 (by exact h3)
    simp only [q5, List.mem_cons, List.not_mem_nil, or_false] at hm
    rcases hm with rfl | rfl | rfl | rfl | rfl | rfl | rfl | rfl <;> exact ⟨_, e, by decide, by decide⟩
  obtain ⟨pr, hpe, hp0, hp1⟩ := hp
  unfold q5 at hpe
  walk_at "rd"
  rw [hpe]
  walk_at "rd"
  have c1 : OE 10 18 := ⟨by decide, by decide, by decide⟩
  have z1 : (2147483647 : Int) ≠ 0 := by decide
  have z2 : (8 : Int) ≠ 0 := by decide
  have m1 : ∀ i : Int, MulOk i 69623 := fun i => mulR (by decide)
  have m2 : MulOk 104729 k := mulL (by decide)
  have m3 : MulOk (104729 * k) k := mulR (by omega)
  have m4 : MulOk 7919 k := mulL (by decide)
  have z3 : pr ≠ 0 := by omega
  have fin : ∀ G x : Int, 0 ≤ G → ∀ p, μ p = none → Qd (.m p) (aI μ p [.int G, .int (x.fmod pr)]) := fun G x hG p hp => by
    obtain ⟨h2, h3⟩ := mV x hp0
    exact q p _ hp (Step.set hG h2 (by omega))
  by_cases hk : k < (ns.length : Nat)
  · rw [if_pos (by simpa using hk)]
    obtain ⟨c, hc, _⟩ := vy h0 hk
    rw [hc]
    walk_at "rd"
    refine ⟨c1, ?_⟩
    split
    · exact ⟨z1, m1 _, m2, m3, m4, z2, z3, fin _ _ (by omega)⟩
    · exact ⟨z1, m1 _, m2, m3, m4, z2, z3, fin _ _ (by omega)⟩
  · rw [if_neg (by simpa using hk)]
    refine ⟨c1, ?_⟩
    split
    · exact ⟨z1, m1 _, m2, m3, m4, z2, z3, fin _ _ (by omega)⟩
    · exact ⟨z1, m1 _, m2, m3, m4, z2, z3, fin _ _ (by omega)⟩
theorem BU (h : cO ds μ Qd) : oA { nx := fun _ μ' => Qd (.v .none) μ', rt := Qd } (aH ["_law_bag_here", "_law_many", "_law_digit"] ds) μ := by
  obtain ⟨a, n, rfl, h0, h1, ⟨g, m, hb, hg, hm, hm'⟩, q⟩ := h
  unfold oA
  walk_at "rd"
  rw [hb]
  walk_at "rd"
  rw [hb]
  walk_at "rd"
  have n0 : n ≠ 0 := by omega
  have i0 : ixN 2 0 = some 0 := by rfl
  have i1 : ixN 2 1 = some 1 := by rfl
  by_cases hg0 : 0 < g
  · rw [if_pos (by simpa using hg0)]
    simp only [hb]
    walk_at "rd"
    obtain ⟨r0, r1⟩ := mV g (show 0 < n by omega)
    refine ⟨n0, ?_⟩
    simp only [hb]
    walk_at "rd"
    refine ⟨divC n0 (by omega), ?_⟩
    simp only [hb, List.length_cons, List.length_nil, Nat.reduceAdd, i0, List.set_cons_zero]
    exact q _ _ r0 r1 (Step.set (Mt hg (by omega)) hm hm')
  · rw [if_neg (by simpa using hg0)]
    simp only [hb, i1, bI]
    walk_at "rd"
    obtain ⟨s0, s1⟩ := mV (m * 48271 + 2531011) (show (0 : Int) < 2147483647 by decide)
    generalize (m * 48271 + 2531011).fmod 2147483647 = w at s0 s1 ⊢
    obtain ⟨r0, r1⟩ := mV ((((w ^ Int.toNat 3).fmod 2147483629).fdiv 64)) (show 0 < n by omega)
    refine ⟨mulL (by omega), by decide, ?_⟩
    refine ⟨⟨by decide, by decide, by omega⟩, (by show (2147483629 : Int) ≠ 0; decide), divC (by decide) (by decide), n0, ?_⟩
    exact q _ _ r0 r1 (Step.set hg s0 (by omega))
end
open PySem PySem.Spec PyProof.Rows NM
section
variable {μ : Mu} {Qd : DK} {ds : List D}
end
open PySem PySem.Spec PyProof.Rows NM
def oJ : DTS :=
  (aL (eu (EN (nH (dB (H0 "tuple" (af 0)))) (dB (dOp (fe true) (dCB iC (ae (af 0) ak)) (dC (.int 3))))) (bB (dC (.bool false))) cD)
  (aL (bA (af 0) (mW 3 (cV (av 1) (cV (av 2) (cV (av 3) pJ)))))
  (aL (eu (EN (nH (dB (ao rj (ae (af 1) ak)))) (EN (nH (dB (ao rj (ae (af 2) ak)))) (nH (dB (ao rj (ae (af 3) ak)))))) (bB (dC (.bool false))) cD)
  (bB (AK (dOp rGe (af 3) (dC (.int 1))) (dOp (fe false) (ao ya (ae (af 1) (ae (af 2) (ae (af 3) ak)))) (dC (.int 1))))))))
section
variable {μ : Mu} {Qd : DK} {ds : List D}
def Ha (i : Int) : Bool := decide (2 ≤ i) && decide (i ≤ 30) && !(decide (i = 4) || decide (i = 9) || decide (i = 16) || decide (i = 25))
theorem mQ (d : PyData) : (∃ i, d = .int i ∧ isWhole d = true) ∨ ((∀ i, d ≠ .int i) ∧ isWhole d = false) := by
  cases d <;> first | exact .inl ⟨_, rfl, rfl⟩ | exact .inr ⟨fun _ z => (by cases z), rfl⟩
theorem Hu (d : PyData) : (∃ xs, d = .tuple xs ∧ isT "tuple" d = true) ∨ ((∀ xs, d ≠ .tuple xs) ∧ isT "tuple" d = false) := by
  cases d <;> first | exact .inl ⟨_, rfl, rfl⟩ | exact .inr ⟨fun _ z => (by cases z), rfl⟩
theorem II {d : PyData} (h : ∀ xs, d ≠ .tuple xs) : isNum d = false := by cases d <;> first | rfl | exact absurd rfl (h _)
theorem IV {xs : List PyData} (h : xs.length ≠ 3) : isNum (.tuple xs) = false := by
  unfold isNum
  split
  · rename_i e; cases e; exact absurd rfl h
  · rfl
theorem three {α : Type} {xs : List α} (h : xs.length = 3) : ∃ a b c, xs = [a, b, c] := by
  match xs, h with
  | [a, b, c], _ => exact ⟨a, b, c, rfl⟩
theorem BA (h : Bh ds μ Qd) : oJ { nx := fun _ μ' => Qd (.v .none) μ', rt := Qd } (aH ["thing", "a", "b", "c"] ds) μ := by
  obtain ⟨d, rfl, _, q⟩ := h
  unfold oJ
  walk_at "rd"
  rcases Hu d with ⟨xs, rfl, e⟩ | ⟨hn, e⟩
  · rw [e]
    walk_at "rd"
    by_cases hl : xs.length = 3
    · obtain ⟨a, b, c, rfl⟩ := three hl
      have e3 : decide ((([a, b, c].length : Nat) : Int) = 3) = true := rfl
      have e3' : [a, b, c].length = 3 := rfl
      simp only [e3, Bool.xor_self, Bool.false_eq_true, ↓reduceIte]
      refine ⟨rfl, ?_⟩
      walk_at "rd"
      refine ⟨a, rfl, ?_⟩
      rcases mQ a with ⟨i, rfl, e⟩ | ⟨hn, e⟩
      · rw [e]
        walk_at "rd"
        refine ⟨b, rfl, ?_⟩
        rcases mQ b with ⟨j, rfl, e⟩ | ⟨hn, e⟩
        · rw [e]
          walk_at "rd"
          refine ⟨c, rfl, ?_⟩
          rcases mQ c with ⟨k, rfl, e⟩ | ⟨hn, e⟩
          · rw [e]
            walk_at "rd"
            have q' : Qd (.v (.bool (decide (1 ≤ k) && (g3 i j k == 1)))) μ := q
            by_cases hk : 1 ≤ k
            · rw [if_pos (by simpa using hk)]
              refine ⟨i, j, k, rfl, ?_⟩
              walk_at "rd"
              have ee : decide (((g3 i j k : Nat) : Int) = 1) = (decide (1 ≤ k) && (g3 i j k == 1)) := by
                rw [decide_eq_true hk, Bool.true_and, Bool.eq_iff_iff]; simp; omega
              rw [ee]
              exact q'
            · rw [if_neg (by simpa using hk)]
              rw [decide_eq_false hk] at q'
              exact q'
          · rw [e]
            walk_at "rd"
            have : isNum (.tuple [.int i, .int j, c]) = false := by cases c <;> first | rfl | exact absurd rfl (hn _)
            rw [this] at q
            exact q
        · rw [e]
          walk_at "rd"
          have : isNum (.tuple [.int i, b, c]) = false := by cases b <;> first | rfl | exact absurd rfl (hn _)
          rw [this] at q
          exact q
      · rw [e]
        walk_at "rd"
        have : isNum (.tuple [a, b, c]) = false := by cases a <;> first | rfl | exact absurd rfl (hn _)
        rw [this] at q
        exact q
    · rw [IV hl] at q
      have : decide (((xs.length : Nat) : Int) = 3) = false := by simp; omega
      rw [this]
      simp only [Bool.xor_false, ↓reduceIte]
      exact q
  · rw [e]
    rw [II hn] at q
    walk_at "rd"
    exact q
end
open PySem PySem.Spec PyProof.Rows NM
def kX : DTS :=
  (aL (bA (dOp aB (j4 (ae (dC (.int 4)) (ae (dC (.int 10)) (ae (dC (.int 100)) (ae (dC (.int 1000000)) ak))))) (ao cO (ae (af 0) (ae (dC (.int 4)) ak)))) (av 1))
  (aL (zC 2 3 (ae (tT (ao cO (ae (af 0) (ae (af 1) ak))) (yn (af 1) (dC (.int 2)))) (ae (tT (ao cO (ae (af 0) (ae (af 1) ak))) (yn (af 1) (dC (.int 2)))) ak)))
  (aL (bA (nW (dC (.int 1)) (ao cO (ae (af 0) (ae (tT (af 1) (dC (.int 1))) ak)))) (av 4))
  (aL (bA (ao cO (ae (af 0) (ae (dC (.int 8)) ak))) (av 5))
  (bB (ao cX (ae (dOp aB (j4 (ae (af 2) (ae (af 2) (ae (af 2) (ae (af 2) (ae (af 2) (ae (af 2) (ae (af 2) (ae (dC (.int 0)) ak))))))))) (af 5)) (ae (dOp aB (j4 (ae (af 3) (ae (af 3) (ae (af 3) (ae (af 3) (ae (af 3) (ae (dC (.int 0)) (ae (dC (.int 0)) (ae (af 3) ak))))))))) (af 5)) (ae (dOp aB (j4 (ae (af 4) (ae (af 4) (ae (dC (.int 1)) (ae (af 4) (ae (dC (.int 1)) (ae (af 4) (ae (dC (.int 1)) (ae (af 4) ak))))))))) (af 5)) ak)))))))))
section
variable {μ : Mu} {Qd : DK} {ds : List D}
theorem pick {P : PyData → Prop} {xs : List PyData} {i : Int} (h0 : 0 ≤ i) (h1 : i < (xs.length : Nat)) (h : ∀ x ∈ xs, P x) : ∃ d, atI xs i = some d ∧ P d := let ⟨d, e, m⟩ := vy h0 h1; ⟨d, e, h d m⟩
theorem Step.refl {a : Addr} (h : Bag μ a) : Step a μ μ := ⟨h, fun _ _ => rfl⟩
theorem CT {i : Int} (h1 : -1048576 < i) (h2 : i < 1048576) : Sz 20 i := Sz.of (by show i.natAbs < 1048576; omega)
theorem yx (h : rM ds μ Qd) : kX { nx := fun _ μ' => Qd (.v .none) μ', rt := Qd } (aH ["_law_bag_here", "_law_wide", "_law_a", "_law_b", "_law_c", "_law_way"] ds) μ := by
  obtain ⟨a, rfl, hb, q⟩ := h
  unfold kX
  walk_at "rd"
  refine ⟨a, 4, rfl, by decide, by decide, hb, fun r0 μ1 h0 h1 s1 => ?_⟩
  walk_at "rd"
  obtain ⟨w, e, i, rfl, w0, w1⟩ := pick (P := fun d => ∃ i : Int, d = .int i ∧ 4 ≤ i ∧ i ≤ 1000000) (xs := [PyData.int 4, PyData.int 10, PyData.int 100, PyData.int 1000000]) h0 (by exact h1) (by
    intro x hx
    simp only [List.mem_cons, List.not_mem_nil, or_false] at hx
    rcases hx with rfl | rfl | rfl | rfl <;> exact ⟨_, rfl, by decide, by decide⟩)
  rw [e]
  walk_at "rd"
  refine ⟨a, i, rfl, by omega, by omega, s1.1, fun r1 μ2 h2 h3 s2 => ?_⟩
  walk_at "rd"
  refine ⟨divC (by decide) (by decide), a, i, rfl, by omega, by omega, s2.1, fun r2 μ3 h4 h5 s3 => ?_⟩
  walk_at "rd"
  refine ⟨divC (by decide) (by decide), a, i - 1, rfl, by omega, by omega, s3.1, fun r3 μ4 h6 h7 s4 => ?_⟩
  walk_at "rd"
  refine ⟨a, 8, rfl, by decide, by decide, s4.1, fun r4 μ5 h8 h9 s5 => ?_⟩
  walk_at "rd"
  have ef : i.fdiv 2 = i / 2 := Int.fdiv_eq_ediv_of_nonneg _ (by omega)
  rw [ef]
  have za : Sz 20 (r1 - i / 2) := CT (by omega) (by omega)
  have zb : Sz 20 (r2 - i / 2) := CT (by omega) (by omega)
  have zc : Sz 20 (1 + r3) := CT (by omega) (by omega)
  have z0 : Sz 20 0 := CT (by omega) (by omega)
  have z1 : Sz 20 1 := CT (by omega) (by omega)
  obtain ⟨d1, e1, i1, rfl, b1⟩ := pick (P := fun d => ∃ i : Int, d = .int i ∧ Sz 20 i) (xs := [PyData.int (r1 - i / 2), PyData.int (r1 - i / 2), PyData.int (r1 - i / 2), PyData.int (r1 - i / 2), PyData.int (r1 - i / 2), PyData.int (r1 - i / 2), PyData.int (r1 - i / 2), PyData.int 0]) h8 (by exact h9) (by
    intro x hx
    simp only [List.mem_cons, List.not_mem_nil, or_false] at hx
    rcases hx with rfl | rfl | rfl | rfl | rfl | rfl | rfl | rfl <;> exact ⟨_, rfl, by assumption⟩)
  rw [e1]
  walk_at "rd"
  obtain ⟨d2, e2, i2, rfl, b2⟩ := pick (P := fun d => ∃ i : Int, d = .int i ∧ Sz 20 i) (xs := [PyData.int (r2 - i / 2), PyData.int (r2 - i / 2), PyData.int (r2 - i / 2), PyData.int (r2 - i / 2), PyData.int (r2 - i / 2), PyData.int 0, PyData.int 0, PyData.int (r2 - i / 2)]) h8 (by exact h9) (by
    intro x hx
    simp only [List.mem_cons, List.not_mem_nil, or_false] at hx
    rcases hx with rfl | rfl | rfl | rfl | rfl | rfl | rfl | rfl <;> exact ⟨_, rfl, by assumption⟩)
  rw [e2]
  walk_at "rd"
  obtain ⟨d3, e3, i3, rfl, b3, p3⟩ := pick (P := fun d => ∃ i : Int, d = .int i ∧ Sz 20 i ∧ 0 < i) (xs := [PyData.int (1 + r3), PyData.int (1 + r3), PyData.int 1, PyData.int (1 + r3), PyData.int 1, PyData.int (1 + r3), PyData.int 1, PyData.int (1 + r3)]) h8 (by exact h9) (by
    intro x hx
    simp only [List.mem_cons, List.not_mem_nil, or_false] at hx
    rcases hx with rfl | rfl | rfl | rfl | rfl | rfl | rfl | rfl <;> exact ⟨_, rfl, by assumption, by omega⟩)
  rw [e3]
  walk_at "rd"
  have n3 : i3 ≠ 0 := by omega
  exact ⟨i1, i2, i3, rfl, n3, b3.mono (by decide), q _ _ (j8 _ _ n3) (mR n3 b1 b2 b3) (s1.trans (s2.trans (s3.trans (s4.trans s5))))⟩
end
open PySem PySem.Spec PyProof.Rows NM
def oZ : DTS :=
  (aL (eu (dB (dOp (fe false) (ao cO (ae (af 0) (ae (dC (.int 2)) ak))) (dC (.int 0)))) (bB (dOp aB (j4 (ae (dC (.int 2)) (ae (dC (.int 3)) (ae (dC (.int 5)) ak)))) (ao cO (ae (af 0) (ae (dC (.int 3)) ak))))) cD)
  (aL (bA (qS [none] (yw (ae (dC (.int 2)) (ae (dC (.int 31)) ak))) (av 0) (dB (dOp (Ie true) (af 0) (j4 (ae (dC (.int 4)) (ae (dC (.int 9)) (ae (dC (.int 16)) (ae (dC (.int 25)) ak))))))) (af 0)) (av 1))
  (bB (dOp aB (af 1) (ao cO (ae (af 0) (ae (dC (.int 25)) ak)))))))
def qi : DTS :=
  (aL (bA (j4 (ae (dC .none) (ae (dC (.bool true)) (ae (dC (.bool false)) (ae (dC (.str "1")) (ae (dC (.str "")) (ae (vR (dC (.int 1))) (ae (dC (.int 0)) (ae (dC (.int 1)) (ae (MU (dC (.int 10)) (dC (.int 59))) (ae (bE ak) (ae (j4 ak) (ae (j4 (ae (dC (.int 0)) ak)) (ae (bE (ae (dC (.int 0)) (ae (dC (.int 0)) ak))) (ae (bE (ae (dC (.int 1)) (ae (dC (.int 0)) (ae (dC (.int 0)) ak)))) (ae (bE (ae (dC (.int 2)) (ae (dC (.int 0)) (ae (dC (.int 2)) ak)))) (ae (bE (ae (dC (.int 1)) (ae (dC (.bool true)) (ae (dC (.int 1)) ak)))) (ae (bE (ae (dC (.int 1)) (ae (dC (.int 1)) (ae (vR (dC (.int 1))) ak)))) (ae (j4 (ae (dC (.int 1)) (ae (dC (.int 0)) (ae (dC (.int 1)) ak)))) (ae (bE (ae (dC (.int 1)) (ae (dC (.int 0)) ak))) (ae (dC (.str "a")) ak))))))))))))))))))))) (av 1))
  (bB (dOp aB (af 1) (ao cO (ae (af 0) (ae (dC (.int 20)) ak))))))
def mC : DTS :=
  (aL (bA (ao rM (ae (af 0) ak)) (av 2))
  (aL (bA (ao kf (ae (af 1) (ae (af 2) ak))) (av 3))
  (aL (eu (dB (dOp (fe false) (af 3) (dC (.int 0)))) (bB (bE (ae (nW (dC (.int 1)) (ao cO (ae (af 0) (ae (dC (.int 5)) ak)))) (ae (dC (.int 0)) (ae (dC (.int 1)) ak))))) cD)
  (bB (dIf (dB (dOp rGt (af 3) (dC (.int 0)))) (af 2) (ao vp (ae (af 2) ak)))))))
section
variable {μ : Mu} {Qd : DK} {ds : List D}
theorem Mb {lo : Int} {n : Nat} {x : PyData} (h : x ∈ qr lo n) : ∃ i : Int, x = .int i ∧ lo ≤ i ∧ i < lo + n := by
  unfold qr at h
  obtain ⟨k, hk, rfl⟩ := List.mem_map.mp h
  have := List.mem_range.mp hk
  exact ⟨_, rfl, by omega, by omega⟩
def D6 : PyData → Option PyData
  | .int i => if Ha i then some (.int i) else none
  | _ => none
def CC : List PyData := [2, 3, 5, 6, 7, 8, 10, 11, 12, 13, 14, 15, 17, 18, 19, 20, 21, 22, 23, 24, 26, 27, 28, 29, 30].map PyData.int
theorem in4 (i : Int) : (List.any [PyData.int 4, PyData.int 9, PyData.int 16, PyData.int 25] fun b => PyData.eqv b (.int i)) = (decide (i = 4) || decide (i = 9) || decide (i = 16) || decide (i = 25)) := by
  have ev : ∀ j : Int, PyData.eqv (.int j) (.int i) = decide (i = j) := fun j => by rw [RV]; simp [eq_comm]
  simp only [List.any_cons, List.any_nil, ev, Bool.or_false, Bool.or_assoc]
theorem Cm (h : xJ ds μ Qd) : oZ { nx := fun _ μ' => Qd (.v .none) μ', rt := Qd } (aH ["_law_bag_here", "_law_some"] ds) μ := by
  obtain ⟨a, rfl, hb, q⟩ := h
  unfold oZ
  walk_at "rd"
  refine ⟨a, 2, rfl, by decide, by decide, hb, fun r0 μ1 h0 h1 s1 => ?_⟩
  walk_at "rd"
  by_cases hr : r0 = 0
  · rw [if_pos (by simpa using hr)]
    refine ⟨a, 3, rfl, by decide, by decide, s1.1, fun r1 μ2 h2 h3 s2 => ?_⟩
    walk_at "rd"
    obtain ⟨w, e, i, rfl, w0⟩ := pick (P := fun d => ∃ i : Int, d = .int i ∧ aF i) (xs := [PyData.int 2, PyData.int 3, PyData.int 5]) h2 (by exact h3) (by
      intro x hx
      simp only [List.mem_cons, List.not_mem_nil, or_false] at hx
      rcases hx with rfl | rfl | rfl <;> exact ⟨_, rfl, by unfold aF; omega⟩)
    rw [e]
    exact q _ _ w0 (s1.trans s2)
  · rw [if_neg (by simpa using hr)]
    refine ⟨⟨by decide, by decide, by decide, by decide⟩, by decide, fun p hp => ⟨fun i acc μ' => acc = ((qr 2 29).take i).filterMap D6 ∧ μ' = aI μ1 p acc, ⟨rfl, rfl⟩, ?_, ?_⟩⟩
    · rintro i x acc μ' hx hpa ⟨e0, e1⟩
      obtain ⟨k, rfl, i0, i1⟩ := Mb (List.mem_of_getElem? hx)
      refine ⟨trivial, rfl, rfl, by show 0 ≤ 60; decide, ?_⟩
      rw [in4]
      have i1' : k < 31 := by simpa using i1
      have e : D6 (.int k) = if Ha k then some (.int k) else none := rfl
      have e2 : Ha k = !(decide (k = 4) || decide (k = 9) || decide (k = 16) || decide (k = 25)) := by
        unfold Ha
        rw [decide_eq_true i0, decide_eq_true (show k ≤ 30 by omega)]
        rfl
      have ft : ((qr 2 29).take (i + 1)).filterMap D6 = ((qr 2 29).take i).filterMap D6 ++ (D6 (.int k)).toList := Pz hx
      rw [e, e2] at ft
      cases hh : (decide (k = 4) || decide (k = 9) || decide (k = 16) || decide (k = 25))
      · rw [hh] at ft
        simp only [Bool.true_xor, Bool.not_false, ↓reduceIte] at ft ⊢
        refine ⟨hpa, ?_, ?_⟩
        · rw [ft, e0]; rfl
        · rw [e1, rh]
      · rw [hh] at ft
        simp only [Bool.true_xor, Bool.not_true, ↓reduceIte, Bool.false_eq_true] at ft ⊢
        refine ⟨hpa, ?_, e1⟩
        rw [ft, e0]; simp
    rintro acc μ' ⟨e0, e1⟩ _
    have ed : lu μ' p = μ1 := by rw [e1]; exact AM hp
    rw [ed]
    have e0' : acc = CC := by rw [e0]; rfl
    rw [e0']
    refine ⟨a, 25, rfl, by decide, by decide, s1.1, fun r1 μ2 h2 h3 s2 => ?_⟩
    walk_at "rd"
    obtain ⟨w, e, i, rfl, w0⟩ := pick (P := fun d => ∃ i : Int, d = .int i ∧ aF i) (xs := CC) h2 (by exact h3) (by
      intro x hx
      unfold CC at hx
      obtain ⟨k, hk, rfl⟩ := List.mem_map.mp hx
      refine ⟨_, rfl, ?_⟩
      simp only [List.mem_cons, List.not_mem_nil, or_false] at hk
      unfold aF
      omega)
    rw [e]
    exact q _ _ w0 (s1.trans s2)
def uC : List PyData := [.none, .bool true, .bool false, .str "1", .str "", .int (-1), .int 0, .int 1, .int (10 ^ Int.toNat 59), .tuple [], .list [], .list [.int 0], .tuple [.int 0, .int 0], .tuple [.int 1, .int 0, .int 0], .tuple [.int 2, .int 0, .int 2], .tuple [.int 1, .bool true, .int 1], .tuple [.int 1, .int 1, .int (-1)], .list [.int 1, .int 0, .int 1], .tuple [.int 1, .int 0], .str "a"]
def HE : DSp := fun ds μ Q => ∃ a : Addr, ds = [.m a] ∧ Bag μ a ∧ ∀ d μ', d ∈ uC → Step a μ μ' → Q (.v d) μ'
theorem DZ (h : HE ds μ Qd) : qi { nx := fun _ μ' => Qd (.v .none) μ', rt := Qd } (aH ["_law_bag_here", "_law_some"] ds) μ := by
  obtain ⟨a, rfl, hb, q⟩ := h
  unfold qi
  walk_at "rd"
  refine ⟨⟨by decide, by decide, by decide⟩, a, 20, rfl, by decide, by decide, hb, fun r0 μ1 h0 h1 s1 => ?_⟩
  walk_at "rd"
  obtain ⟨d, e, m⟩ := vy (xs := uC) h0 (by exact h1)
  unfold uC at e
  rw [e]
  exact q d _ m s1
def jT : DSp := fun ds μ Q => ∃ (a : Addr) (d : Int), ds = [.m a, .v (.int d)] ∧ aF d ∧ Bag μ a ∧ ∀ x μ', Ok x → Bd 20 x → sg d x.a x.b = 1 → Step a μ μ' → Q (.v (dN x)) μ'
theorem zV (h : jT ds μ Qd) : mC { nx := fun _ μ' => Qd (.v .none) μ', rt := Qd } (aH ["_law_bag_here", "_law_d", "_law_x", "_law_sign_here"] ds) μ := by
  obtain ⟨a, d, rfl, hd, hb, q⟩ := h
  unfold mC
  walk_at "rd"
  refine ⟨a, rfl, hb, fun x μ1 ox bx s1 => ?_⟩
  walk_at "rd"
  refine ⟨d, x, rfl, hd, bx.mono (by decide), ?_⟩
  walk_at "rd"
  have t := tD d x.a x.b
  by_cases h0 : sg d x.a x.b = 0
  · rw [if_pos (by simpa using h0)]
    refine ⟨a, 5, rfl, by decide, by decide, s1.1, fun r μ2 r0 r1 s2 => ?_⟩
    walk_at "rd"
    have ok : Ok ⟨1 + r, 0, 1⟩ := ⟨by show (0 : Int) < 1; decide, by unfold g3; simp⟩
    refine q ⟨1 + r, 0, 1⟩ μ2 ok ⟨CT (by show -1048576 < 1 + r; omega) (by show 1 + r < 1048576; omega), CT (by show -1048576 < (0 : Int); decide) (by show (0 : Int) < 1048576; decide), CT (by show -1048576 < (1 : Int); decide) (by show (1 : Int) < 1048576; decide)⟩ ?_ (s1.trans s2)
    show sg d (1 + r) 0 = 1
    unfold sg
    rw [if_neg (by omega), if_pos (by omega)]
  · rw [if_neg (by simpa using h0)]
    by_cases h1 : 0 < sg d x.a x.b
    · rw [if_pos (by simpa using h1)]
      exact q x μ1 ox bx (by omega) s1
    · rw [if_neg (by simpa using h1)]
      refine ⟨x, rfl, ?_⟩
      refine q (minus x) μ1 (Dn ox) (DR bx) ?_ s1
      show sg d (-x.a) (-x.b) = 1
      rw [Bo hd]
      omega
end
open PySem PySem.Spec PyProof.Rows NM
section
variable {μ : Mu} {Q : DK} {ds : List D}
def yB : DSp := fun ds μ Q => ∃ ns : List Int, ds = [.s ns] ∧ ns.length ≤ 63 ∧ ∀ μ', Q (.v (.bool true)) μ'
theorem Ds (h : rj ds μ Q) : ds.length = 1 := by obtain ⟨_, rfl, _⟩ := h; rfl
theorem AI (h : tZ ds μ Q) : ds.length = 2 := by obtain ⟨_, _, rfl, _⟩ := h; rfl
theorem FJ (h : ya ds μ Q) : ds.length = 3 := by obtain ⟨_, _, _, rfl, _⟩ := h; rfl
theorem Fc (h : Bh ds μ Q) : ds.length = 1 := by obtain ⟨_, rfl, _⟩ := h; rfl
theorem uX (h : cX ds μ Q) : ds.length = 3 := by obtain ⟨_, _, _, rfl, _⟩ := h; rfl
theorem FO (h : kc ds μ Q) : ds.length = 1 := by obtain ⟨_, rfl, _⟩ := h; rfl
theorem CL (h : vp ds μ Q) : ds.length = 1 := by obtain ⟨_, rfl, _⟩ := h; rfl
theorem yo (h : kT ds μ Q) : ds.length = 2 := by obtain ⟨_, _, rfl, _⟩ := h; rfl
theorem Fp (h : xZ ds μ Q) : ds.length = 2 := by obtain ⟨_, _, rfl, _⟩ := h; rfl
theorem w4 (h : bW ds μ Q) : ds.length = 3 := by obtain ⟨_, _, _, rfl, _⟩ := h; rfl
theorem qm (h : cW ds μ Q) : ds.length = 2 := by obtain ⟨_, _, rfl, _⟩ := h; rfl
theorem FR (h : mI ds μ Q) : ds.length = 3 := by obtain ⟨_, _, _, rfl, _⟩ := h; rfl
theorem EF (h : xN ds μ Q) : ds.length = 3 := by obtain ⟨_, _, _, rfl, _⟩ := h; rfl
theorem yW (h : kf ds μ Q) : ds.length = 2 := by obtain ⟨_, _, rfl, _⟩ := h; rfl
theorem HU (h : HP ds μ Q) : ds.length = 2 := by obtain ⟨_, _, rfl, _⟩ := h; rfl
theorem FT (h : cO ds μ Q) : ds.length = 2 := by obtain ⟨_, _, rfl, _⟩ := h; rfl
theorem zH (h : rM ds μ Q) : ds.length = 1 := by obtain ⟨_, rfl, _⟩ := h; rfl
theorem Dx (h : xJ ds μ Q) : ds.length = 1 := by obtain ⟨_, rfl, _⟩ := h; rfl
theorem HS (h : HE ds μ Q) : ds.length = 1 := by obtain ⟨_, rfl, _⟩ := h; rfl
theorem Ck (h : jT ds μ Q) : ds.length = 2 := by obtain ⟨_, _, rfl, _⟩ := h; rfl
theorem IY (h : yB ds μ Q) : ds.length = 1 := by obtain ⟨_, rfl, _⟩ := h; rfl
end
structure N8 (K : PySem.W.Frag) (mg : Str → Option Value) (x : Str) (g : Addr) (a b c : Int) : Prop where
  m : mg x = some (.ref g)
  l : ∃ (od : Option Addr) (n : Nat) (sl : Array (Option Value)) (t u v : Tok), K.lookup g = some ⟨.type "tuple", od, .seq #[.int a t, .int b u, .int c v] n, sl⟩
theorem gu {X : Cx} {x : Str} {g : Addr} {a b c : Int} {pos : Pos} (hg : Gl X x) (h : N8 X.K X.mg x g a b c) (hd : (x == ("__debug__" : Str)) = false := by decide) : DE X (.Name x pos) (dC (.tuple [.int a, .int b, .int c])) := by
  obtain ⟨od, n, sl, t, u, v, e⟩ := h.l
  refine Hw (u := .ref g) hg h.m rfl (fun μ H _ => Rp.tuple (xs := [.int a, .int b, .int c]) (.inr ⟨_, _, _, e, rfl, rfl, (by show 3 ≤ sizeLine; decide), .cons ⟨t, rfl⟩ (.cons ⟨u, rfl⟩ (.cons ⟨v, rfl⟩ .nil))⟩) (.cons (.int a) (.cons (.int b) (.cons (.int c) .nil)))) hd
theorem IW {K : PySem.W.Frag} {H : Hp} {a : Addr} {ns : List Int} (hl : ns.length ≤ 63) (hT : zq K H) (hS : SqL K H a (ns.map V.int)) : spD K yB [.ref a] H (fun v _ => v = .bl true) fun _ _ _ => False := by
  refine ⟨[.s ns], fun _ => none, fun d _ => d = .v (.bool true), ⟨fun a ds h => (by cases h), hT⟩, .cons ⟨a, rfl, hS, rfl⟩ .nil, ⟨ns, rfl, hl, fun _ => rfl⟩, fun d u μ' H' _ _ r q => ?_⟩
  subst q
  cases r
  rfl
open PySem PySem.Spec PyProof.Rows NM
section
variable {μ : Mu} {Q : DK} {ds : List D} {x y : N3}
theorem QJ (a b c : Int) : PyData.tuple [.int a, .int b, .int c] = dN ⟨a, b, c⟩ := rfl
theorem Pn : aB (.v (dN x)) (.v (.int 0)) μ Q = Q (.v (.int x.a)) μ := by unfold dN; rw [FK]
theorem OU : aB (.v (dN x)) (.v (.int 1)) μ Q = Q (.v (.int x.b)) μ := by unfold dN; rw [Gg]
theorem Pm : aB (.v (dN x)) (.v (.int 2)) μ Q = Q (.v (.int x.c)) μ := by unfold dN; rw [E1]
theorem eqN : PyData.eqv (dN x) (dN y) = decide (x = y) := by
  unfold dN
  rw [Qx, Bool.eq_iff_iff]
  simp only [decide_eq_true_eq]
  exact ⟨fun h => N3.ext' h.1 h.2.1 h.2.2, fun h => by subst h; exact ⟨rfl, rfl, rfl⟩⟩
theorem Rf {neg : Bool} : fe neg (.v (dN x)) (.v (dN y)) μ Q = Q (.v (.bool (neg ^^ decide (x = y)))) μ := by
  rw [HA, eqN]
  exact propext ⟨fun h => h.2.2, fun h => ⟨rfl, rfl, h⟩⟩
theorem Jo (h : Ok x) : isNum (dN x) = true := by
  have := h.c
  show (decide (1 ≤ x.c) && (g3 x.a x.b x.c == 1)) = true
  rw [h.g]
  simp; omega
theorem Gy : Few (dN x) := by simp [dN, Few]
theorem NZ {d a b c : Int} (h : aF d) (hc : 0 < c) : sg d (low a b c).a (low a b c).b = sg d a b := by
  obtain ⟨k, hk, hs, p1, p2, p3, _⟩ := lh a b (show c ≠ 0 by omega)
  have e := qv (a := (low a b c).a) (b := (low a b c).b) h (hs.mpr hc)
  rw [← p1, ← p2] at e
  exact e.symm
theorem LB {d : Int} (h : aF d) (ox : Ok x) (oy : Ok y) : sg d (times d x y).a (times d x y).b = sg d x.a x.b * sg d y.a y.b := by
  unfold times
  rw [NZ h (Int.mul_pos ox.c oy.c), CI h]
theorem KR {d a b : Int} : (sg d a b).natAbs < 2 ^ 64 := by have := tD d a b; omega
theorem Hv {lo : Int} {n i : Nat} {x : PyData} (h : (qr lo n)[i]? = some x) : x = .int (lo + i) ∧ i < n := by
  unfold qr at h
  rw [List.getElem?_map] at h
  by_cases hi : i < n
  · rw [List.getElem?_range hi] at h
    cases h
    exact ⟨rfl, hi⟩
  · rw [List.getElem?_eq_none (by simpa using hi)] at h
    cases h
theorem Kq {lo : Int} {n : Nat} : (qr lo n).length = n := by unfold qr; simp
theorem L9 (a : Int) : Ok ⟨a, 0, 1⟩ := ⟨by show (0 : Int) < 1; decide, by unfold g3; simp⟩
end
open PySem PySem.Spec PyProof.Rows NM
local macro_rules | `(tactic| walk_at "rn") => `(tactic| simp only [↓Lu, ↓JX, ↓Kz, ↓A3, ↓LI, ↓J3, ↓K9, ↓Ke, ↓JU, ↓J0, ↓HB, ↓q_c, ↓Mc, ↓q_B, ↓Qr, ↓NH, ↓Np, ↓CH, ↓NS, ↓LD, ↓KO, ↓Nj, ↓LO, ↓Rk, ↓yq, ↓tX, ↓Hg, ↓Hz, ↓JC, ↓G6, ↓Gw, ↓Hj, ↓Ng, ↓M8, ↓NG, ↓NU, ↓Cs, ↓Lg, ↓Kt, ↓FK, ↓Gg, ↓E1, ↓Lp, ↓Ep, ↓Aq, ↓Nm, ↓NR, ↓Nv, ↓K0, ↓LG, ↓LF, ↓KL, ↓Jc, ↓Ri, ↓Ei, ↓J1, ↓NB, ↓NW, ↓Nh, ↓MQ, ↓Cp, ↓Ku, ↓JT, ↓JV, ↓NN, ↓Qy, ↓JE, ↓Lr, ↓HI, ↓Hh, ↓KP, ↓NJ, ↓M9, ↓Nd, ↓rD, ↓Jr, ↓Ho, ↓Jq, ↓J5, ↓Hb, ↓ND, ↓K4, ↓yE, ↓GC, ↓KZ, ↓GU, ↓G7, ↓Kh, ↓M7, ↓Nc, ↓Je, ↓Hm, ↓JH, ↓Es, ↓G8, ↓Ee, ↓D8, ↓GB, ↓C6, ↓C4, ↓CP, ↓NA, Ll, ↓K8, ↓BG, JN, J7, Nr, Nq, Ni, Option.bind_none, Option.bind_some, Option.join_some, List.getElem?_cons_zero, List.getElem?_cons_succ, aH, QJ, Pn, OU, Pm, Rf, w8, Ek, EA, Hx, K7, List.map, List.append, List.replicate, List.length_cons, List.length_nil, Nat.reduceAdd, Nat.reduceSub, List.nil_append, List.cons_append, List.set_cons_zero, List.set_cons_succ, Option.map_some, ↓reduceIte, Bool.not_true, Bool.not_false, Bool.false_eq_true, Bool.true_eq_false, Bool.xor_false, Bool.false_xor])
def fY (d : Int) : PyData → Bool
  | .tuple [.int a, .int b, .int c] => isNum (.tuple [.int a, .int b, .int c]) && decide (sg d a b = 1)
  | _ => false
def nO : DSp := fun ds μ Q => ∃ (d : Int) (t : PyData), ds = [.v (.int d), .v t] ∧ aF d ∧ Few t ∧ (∀ x, t = dN x → Bd 8900 x) ∧ Q (.v (.bool (fY d t))) μ
theorem Bi {μ : Mu} {Q : DK} {ds : List D} (h : nO ds μ Q) : ds.length = 2 := by obtain ⟨_, _, rfl, _⟩ := h; rfl
def ff : DSp := fun ds μ Q => ∃ (d : Int) (x : N3), ds = [.v (.int d), .v (dN x)] ∧ aF d ∧ Ok x ∧ Bd 8900 x ∧ sg d x.a x.b = 1 ∧ Q (.v .none) μ
theorem xy {μ : Mu} {Q : DK} {ds : List D} (h : ff ds μ Q) : ds.length = 2 := by obtain ⟨_, _, rfl, _⟩ := h; rfl
def uR : DSp := fun ds μ Q => ∃ (d : Int) (x : N3), ds = [.v (.int d), .v (dN x)] ∧ aF d ∧ Ok x ∧ Bd 450 x ∧ sg d x.a x.b = 1 ∧ Q (.v (dN (nD d x))) μ
theorem Dh {μ : Mu} {Q : DK} {ds : List D} (h : uR ds μ Q) : ds.length = 2 := by obtain ⟨_, _, rfl, _⟩ := h; rfl
def qX : XSp := fun ds μ Xk => ∃ (d : Int) (t : PyData), ds = [.v (.int d), .v t] ∧ aF d ∧ Few t ∧ (∀ x, t = dN x → Bd 8900 x) ∧ fY d t = false ∧ Xk μ
theorem xR {ds : List D} {μ : Mu} {Xk : Mu → Prop} (h : qX ds μ Xk) : ds.length = 2 := by obtain ⟨_, _, rfl, _⟩ := h; rfl
def lC : DSp := fun ds μ Q => ∃ (a : Addr) (d : Int), ds = [.m a, .v (.int d)] ∧ aF d ∧ Bag μ a ∧ ∀ t μ', Few t → (∀ x, t = dN x → Bd 8900 x) → fY d t = false → Step a μ μ' → Q (.v t) μ'
theorem xV {ds : List D} {μ : Mu} {Q : DK} (h : lC ds μ Q) : ds.length = 2 := by obtain ⟨_, _, rfl, _⟩ := h; rfl
def Ax (a : Addr) (μ μ' : Mu) : Prop := Bag μ' a ∧ ∀ b, b ≠ a → ∀ ds, μ b = some ds → μ' b = some ds
structure KindsOk (d : Int) (ks : List N3) : Prop where
  l1 : 1 ≤ ks.length
  l3 : ks.length ≤ 3
  ok : ∀ k ∈ ks, Ok k ∧ Bd 60 k ∧ sg d k.a k.b = 1
def qk : DSp := fun ds μ Q => ∃ (a : Addr) (d : Int), ds = [.m a, .v (.int d)] ∧ aF d ∧ Bag μ a ∧ ∀ ks μ', KindsOk d ks → Ax a μ μ' → Q (.v (.tuple (ks.map dN))) μ'
theorem B6 {μ : Mu} {Q : DK} {ds : List D} (h : qk ds μ Q) : ds.length = 2 := by obtain ⟨_, _, rfl, _⟩ := h; rfl
structure Fr0 (x : N3) : Prop where
  ok : Ok x
  b : x.b = 0
  a0 : 0 ≤ x.a
  a1 : x.a < 16384
  c1 : x.c < 16384
def vj : DSp := fun ds μ Q => ∃ a : Addr, ds = [.m a] ∧ Bag μ a ∧ ∀ x μ', Fr0 x → 0 < x.a → Step a μ μ' → Q (.v (dN x)) μ'
theorem Dk {μ : Mu} {Q : DK} {ds : List D} (h : vj ds μ Q) : ds.length = 1 := by obtain ⟨_, rfl, _⟩ := h; rfl
def qV : DSp := fun ds μ Q => ∃ (a : Addr) (d : Int) (ks : List N3), ds = [.m a, .v (.int d), .v (.tuple (ks.map dN))] ∧ aF d ∧ KindsOk d ks ∧ Bag μ a ∧ ∀ x μ', Ok x → Bd 230 x → sg d x.a x.b = 1 → Step a μ μ' → Q (.v (dN x)) μ'
theorem BZ {μ : Mu} {Q : DK} {ds : List D} (h : qV ds μ Q) : ds.length = 3 := by obtain ⟨_, _, _, rfl, _⟩ := h; rfl
def gL : DTS :=
  (bB (AK (ao Bh (ae (af 1) ak)) (dOp (fe false) (ao kf (ae (af 0) (ae (af 1) ak))) (dC (.int 1)))))
def d5 : DTS :=
  (eu (nH (dB (ao nO (ae (af 0) (ae (af 1) ak))))) vH cD)
def mz : DTS :=
  (aL (bA (Gs (ae (ao jT (ae (af 0) (ae (af 1) ak))) ak)) (av 2))
  (aL (EU (yz (ae (ao cO (ae (af 0) (ae (dC (.int 3)) ak))) ak)) (av 3) (aL (bA (ao cO (ae (af 0) (ae (dC (.int 6)) ak))) (av 4))
  (aL (bA (bE (ae (nW (dC (.int 1)) (ao cO (ae (af 0) (ae (dC (.int 9)) ak)))) (ae (dC (.int 0)) (ae (nW (dC (.int 1)) (ao cO (ae (af 0) (ae (dC (.int 9)) ak)))) ak)))) (av 5))
  (aL (bA (dOp aB (j4 (ae (dOp aB (af 2) (dC (.int 0))) (ae (ao cW (ae (af 1) (ae (dOp aB (af 2) (dC (.int 0))) ak))) ak))) (yt (af 4) (dC (.int 2)))) (av 6))
  (aL (eu (dB (dOp rGt (af 4) (dC (.int 3)))) (bA (ao jT (ae (af 0) (ae (af 1) ak))) (av 6)) (eu (dB (dOp rGt (af 4) (dC (.int 1)))) (bA (ao bW (ae (af 1) (ae (af 6) (ae (ao cX (ae (dOp aB (af 5) (dC (.int 0))) (ae (dOp aB (af 5) (dC (.int 1))) (ae (dOp aB (af 5) (dC (.int 2))) ak)))) ak)))) (av 6)) cD))
  (sh (LP (af 2) (af 6))))))))
  (bB (dCB ph (ae (af 2) ak)))))
def jk : DTS :=
  (aL (bA (dOp aB (j4 (ae (dC (.int 2)) (ae (dC (.int 9)) (ae (dC (.int 9)) (ae (dC (.int 9999)) ak))))) (ao cO (ae (af 0) (ae (dC (.int 4)) ak)))) (av 1))
  (bB (ao cX (ae (nW (dC (.int 1)) (ao cO (ae (af 0) (ae (af 1) ak)))) (ae (dC (.int 0)) (ae (nW (dC (.int 1)) (ao cO (ae (af 0) (ae (af 1) ak)))) ak))))))
def mJ : DTS :=
  (aL (bA (dOp aB (af 2) (ao cO (ae (af 0) (ae (dCB iC (ae (af 2) ak)) ak)))) (av 3))
  (aL (bA (dOp aB (af 2) (ao cO (ae (af 0) (ae (dCB iC (ae (af 2) ak)) ak)))) (av 4))
  (aL (zC 5 6 (ae (ao vj (ae (af 0) ak)) (ae (ao vj (ae (af 0) ak)) ak)))
  (aL (bA (ao cO (ae (af 0) (ae (dC (.int 10)) ak))) (av 7))
  (aL (bA (ao cW (ae (af 1) (ae (af 3) ak))) (av 8))
  (aL (bA (j4 (ae (ao jT (ae (af 0) (ae (af 1) ak))) (ae (ao bW (ae (af 1) (ae (af 3) (ae (af 5) ak)))) (ae (ao bW (ae (af 1) (ae (af 8) (ae (af 5) ak)))) (ae (ao kT (ae (ao bW (ae (af 1) (ae (af 3) (ae (af 5) ak)))) (ae (ao bW (ae (af 1) (ae (af 8) (ae (af 6) ak)))) ak))) (ae (ao kT (ae (af 3) (ae (ao bW (ae (af 1) (ae (af 4) (ae (af 6) ak)))) ak))) (ae (af 5) (ae (ao bW (ae (af 1) (ae (bE (ae (dC (.int 0)) (ae (dC (.int 1)) (ae (dC (.int 1)) ak)))) (ae (af 5) ak)))) (ae (ao kT (ae (ao bW (ae (af 1) (ae (af 8) (ae (af 5) ak)))) (ae (bE (ae (dC (.int 0)) (ae (dC (.int 1)) (ae (dC (.int 999999)) ak)))) ak))) (ae (ao kT (ae (ao bW (ae (af 1) (ae (af 3) (ae (af 5) ak)))) (ae (ao bW (ae (af 1) (ae (af 6) (ae (bE (ae (dC (.int 1)) (ae (dC (.int 0)) (ae (dC (.int 99999)) ak)))) ak)))) ak))) (ae (ao jT (ae (af 0) (ae (af 1) ak))) ak))))))))))) (av 9))
  (bB (dOp aB (af 9) (af 7)))))))))
def bX : DTX :=
  (xIf (nH (dB (ao nO (ae (af 0) (ae (af 1) ak))))) (fun _ μ Xk => Xk μ) FC)
def gp (ea : Addr) : DTS :=
  (aL (bA (j4 (ae (bE (ae (dC (.str "NoRoot")) (ae (fZ ea false (af 1)) ak))) (ae (bE (ae (dC (.str "NoNumber")) (ae (fZ ea true (af 1)) ak))) (ae (bE (ae (dC (.str "NoLaying")) (ae (fZ ea false (af 1)) ak))) (ae (bE (ae (dC (.str "NoTile")) (ae (fZ ea false (af 1)) ak))) (ae (bE (ae (dC (.str "NoFit")) (ae (fZ ea false (af 1)) ak))) (ae (bE (ae (dC (.str "NoKinds")) (ae (fZ ea false (af 1)) ak))) (ae (bE (ae (dC (.str "NoPlan")) (ae (fZ ea false (af 1)) ak))) (ae (bE (ae (dC (.str "NoSpot")) (ae (fZ ea false (af 1)) ak))) (ae (bE (ae (dC (.str "NoNet")) (ae (fZ ea false (af 1)) ak))) (ae (bE (ae (dC (.str "NoText")) (ae (fZ ea false (af 1)) ak))) (ae (bE (ae (dC (.str "NoSaying")) (ae (fZ ea false (af 1)) ak))) (ae (bE (ae (dC (.str "NoName")) (ae (fZ ea false (af 1)) ak))) (ae (bE (ae (dC (.str "TooMany")) (ae (fZ ea false (af 1)) ak))) ak)))))))))))))) (av 2))
  (aL (bA (qS [none, none] (yO (af 2)) (mW 2 (cV (av 0) (cV (av 1) pJ))) (dB (af 1)) (af 0)) (av 3))
  (aL (eu (wU (dB (dOp (fe false) (dCB iC (ae (af 3) ak)) (dC (.int 1)))) (dB (fZ ea true (af 1)))) (bB (dOp aB (af 3) (dC (.int 0)))) cD)
  (bB (dC (.str "several"))))))
def iE : DTS :=
  (aL (bA (ao jT (ae (af 0) (ae (af 1) ak))) (av 2))
  (aL (bA (j4 (ae (ao HE (ae (af 0) ak)) (ae (ao vp (ae (af 2) ak)) (ae (bE (ae (dC (.int 0)) (ae (dC (.int 0)) (ae (dC (.int 1)) ak)))) (ae (bE (ae (cb (dOp aB (af 2) (dC (.int 0))) (dC (.int 2))) (ae (cb (dOp aB (af 2) (dC (.int 1))) (dC (.int 2))) (ae (cb (dOp aB (af 2) (dC (.int 2))) (dC (.int 2))) ak)))) (ae (bE (ae (dOp aB (af 2) (dC (.int 0))) (ae (dOp aB (af 2) (dC (.int 1))) (ae (tT (dC (.int 0)) (dOp aB (af 2) (dC (.int 2)))) ak)))) (ae (dCB p4 (ae (af 2) ak)) (ae (dSl (af 2) rG (AE (dC (.int 2)))) (ae (dOp lK (af 2) (bE (ae (dC (.int 1)) ak))) (ae (bE (ae (dOp aB (af 2) (dC (.int 0))) (ae (dC .none) (ae (dOp aB (af 2) (dC (.int 2))) ak)))) (ae (bE (ae (dC (.bool true)) (ae (dC (.int 0)) (ae (dC (.int 1)) ak)))) (ae (bE (ae (dC (.int 1)) (ae (dC (.int 0)) (ae (dC (.bool true)) ak)))) (ae (bE (ae (af 2) ak)) ak))))))))))))) (av 3))
  (bB (dOp aB (af 3) (ao cO (ae (af 0) (ae (dC (.int 12)) ak)))))))
def jz : DTS :=
  (aL (sh (ao ff (ae (af 0) (ae (af 1) ak))))
  (aL (bA (ao kT (ae (af 1) (ae (ao kc (ae (af 1) ak)) ak))) (av 2))
  (bB (ao mI (ae (af 0) (ae (ao bW (ae (af 0) (ae (af 2) (ae (af 2) ak)))) (ae (ao bW (ae (af 0) (ae (af 1) (ae (ao kc (ae (af 1) ak)) ak)))) ak)))))))
section
variable {μ : Mu} {Qd : DK} {ds : List D}
theorem Q6 {x y : Int} (h : 0 < x * y) (hy : 0 < y) : 0 < x := by
  rcases Int.lt_trichotomy 0 x with z | z | z
  · exact z
  · rw [← z, Int.zero_mul] at h; omega
  · have := Int.mul_neg_of_neg_of_pos z hy; omega
theorem qU {d : Int} {x : N3} (ox : Ok x) : fY d (dN x) = decide (sg d x.a x.b = 1) := by
  show (isNum (dN x) && decide (sg d x.a x.b = 1)) = _
  rw [Jo ox, Bool.true_and]
theorem lq {d : Int} {t : PyData} (h : isNum t = false) : fY d t = false := by
  unfold fY
  split
  · rw [h, Bool.false_and]
  · rfl
theorem Ft {t : PyData} (h : isNum t = true) : ∃ x : N3, t = dN x ∧ Ok x := by
  unfold isNum at h
  split at h
  · rename_i a b c
    simp only [Bool.and_eq_true, decide_eq_true_eq, beq_iff_eq] at h
    exact ⟨⟨a, b, c⟩, rfl, by show 0 < c; omega, h.2⟩
  · cases h
theorem sO (h : nO ds μ Qd) : gL { nx := fun _ μ' => Qd (.v .none) μ', rt := Qd } (aH ["d", "thing"] ds) μ := by
  obtain ⟨d, t, rfl, hd, ft, bt, q⟩ := h
  unfold gL
  walk_at "rn"
  refine ⟨t, rfl, ft, ?_⟩
  walk_at "rn"
  cases e : isNum t with
  | true =>
    walk_at "rn"
    obtain ⟨x, rfl, ox⟩ := Ft e
    refine ⟨d, x, rfl, hd, bt x rfl, ?_⟩
    walk_at "rn"
    rw [qU ox] at q
    exact q
  | false =>
    walk_at "rn"
    rw [lq e] at q
    exact q
theorem nB (h : ff ds μ Qd) : d5 { nx := fun _ μ' => Qd (.v .none) μ', rt := Qd } (aH ["d", "thing"] ds) μ := by
  obtain ⟨d, x, rfl, hd, ox, bx, hx, q⟩ := h
  unfold d5
  walk_at "rn"
  refine ⟨d, dN x, rfl, hd, Gy, fun y e => ?_, ?_⟩
  · have : y = x := by
      simp only [dN, PyData.tuple.injEq, List.cons.injEq, PyData.int.injEq, and_true] at e
      exact N3.ext' e.1.symm e.2.1.symm e.2.2.symm
    rw [this]; exact bx
  · walk_at "rn"
    rw [qU ox, hx]
    simp only [decide_true, Bool.not_true, Bool.false_eq_true, ↓reduceIte]
    exact q
theorem wR (h : uR ds μ Qd) : jz { nx := fun _ μ' => Qd (.v .none) μ', rt := Qd } (aH ["d", "shape", "together"] ds) μ := by
  obtain ⟨d, x, rfl, hd, ox, bx, hx, q⟩ := h
  have s5 := sM hd.1 hd.2.1
  have omx := aZ ox
  have bmx := jL bx
  have op := fI ox omx
  have bp := rz ox omx bx bmx
  have nx := bV hd ox hx
  have ot := aQ (d := d) ox omx
  unfold jz
  walk_at "rn"
  refine ⟨d, x, rfl, hd, ox, bx.mono (by decide), hx, ?_⟩
  walk_at "rn"
  refine ⟨x, rfl, x, bZ x, rfl, ox, omx, bx.mono (by decide), bmx.mono (by decide), ?_⟩
  walk_at "rn"
  refine ⟨d, _, _, rfl, s5, op, op, bp.mono (by decide), bp.mono (by decide), ?_⟩
  walk_at "rn"
  have hy : times d x (bZ x) ≠ aA := fun e => by
    have := vK hd ox nx
    rw [e] at this
    exact this (by unfold norm aA; simp)
  exact ⟨x, rfl, d, x, bZ x, rfl, s5, ox, omx, bx.mono (by decide), bmx.mono (by decide), d, _, _, rfl, hd, aQ op op, ot, hy, (bM s5 op op bp bp).mono (by decide), (bM s5 ox omx bx bmx).mono (by decide), q⟩
theorem ie {Xk : Mu → Prop} (h : qX ds μ Xk) : bX (aH ["d", "thing"] ds) μ Xk := by
  obtain ⟨d, t, rfl, hd, ft, bt, ht, q⟩ := h
  unfold bX
  rw [Nz]
  walk_at "rn"
  refine ⟨d, t, rfl, hd, ft, bt, ?_⟩
  rw [ht]
  exact q
theorem mv {ea fa : Addr} (q : Qd (.v (.str "NoNumber")) μ) : gp ea { nx := fun _ _ => False, rt := Qd } [some (.o fa), some (.o ea), none, none] μ := by
  unfold gp
  simp only [↓yE, ↓Hb, ↓Hz, ↓Hg, ↓tX, ↓yq, ↓q_c, ↓BP, ↓G6, ↓Gw, ↓rD, Option.map_some, List.set_cons_zero, List.set_cons_succ]
  refine Dq (ns := [("NoRoot", false), ("NoNumber", true), ("NoLaying", false), ("NoTile", false), ("NoFit", false), ("NoKinds", false), ("NoPlan", false), ("NoSpot", false), ("NoNet", false), ("NoText", false), ("NoSaying", false), ("NoName", false), ("TooMany", false)]) rfl (by decide) ?_
  simp only [↓rD, ↓yE, List.set_cons_zero, List.set_cons_succ, List.map_cons, List.map_nil, List.filterMap_cons, List.filterMap_nil, IS, Bool.false_eq_true, ↓reduceIte]
  simp only [↓GU, ↓CH, ↓q_B, ↓Mc, ↓MQ, ↓tX, ↓yq, ↓A3, ↓Cp, ↓q_c, ↓Hj, ↓BP, ↓GC, ↓Cs, List.getElem?_cons_zero, List.getElem?_cons_succ, List.length_cons, List.length_nil]
  exact q
theorem EB {x : PyData} (h : SeqAt.shaped x = true) : x.eqv x = true := SeqAt.eqv_refl _ (SeqAt.canLay_of_shaped h)
theorem ne_str {μ : Mu} {Qd : DK} {s : Str} (h : SeqAt.shaped (.str s) = true) (q : Qd (.v (.bool false)) μ) : fe true (.v (.str s)) (.v (.str s)) μ Qd := ⟨h, h, by rw [EB h]; exact q⟩
theorem Fo {x y : N3} (e : dN x = dN y) : x = y := by
  simp only [dN, PyData.tuple.injEq, List.cons.injEq, PyData.int.injEq, and_true] at e
  exact N3.ext' e.1 e.2.1 e.2.2
theorem Em {n : Nat} {d : Int} {x : N3} (s5 : Sz 5 d) (hd : aF d) (ox : Ok x) (nx : norm d x ≠ 0) (bx : Bd n x) : Bd ((n + n + 1) + (n + n + 1) + 6 + (2 * (n + n + 6) + 6) + 6) (nD d x) := by
  have omx := aZ ox
  have bmx := jL bx
  have op := fI ox omx
  have bp := rz ox omx bx bmx
  have np := vK hd ox nx
  exact bM s5 (aQ op op) (aK np) (bM s5 op op bp bp) (cC s5 np (bM s5 ox omx bx bmx))
def Jm (d : Int) (t : PyData) : Prop := Few t ∧ (∀ x, t = dN x → Bd 8900 x) ∧ fY d t = false
theorem Mz {d : Int} {t : PyData} (h : t ∈ uC) : Jm d t := by
  unfold uC at h
  simp only [List.mem_cons, List.not_mem_nil, or_false] at h
  rcases h with rfl | rfl | rfl | rfl | rfl | rfl | rfl | rfl | rfl | rfl | rfl | rfl | rfl | rfl | rfl | rfl | rfl | rfl | rfl | rfl
  all_goals
    refine ⟨by simp [Few], ?_, by first | rfl | exact lq (by decide +kernel)⟩
    (intro x e
     simp only [dN, PyData.tuple.injEq, List.cons.injEq, PyData.int.injEq, and_true, reduceCtorEq, false_and, and_false, List.nil_eq] at e
     try (obtain ⟨e1, e2, e3⟩ := e
          exact ⟨Sz.of (by rw [← e1]; decide +kernel), Sz.of (by rw [← e2]; decide +kernel), Sz.of (by rw [← e3]; decide +kernel)⟩))
theorem Hs {d : Int} {x : N3} (b : Bd 8900 x) (h : fY d (dN x) = false) : Jm d (dN x) := ⟨Gy, fun y e => by rw [← Fo e]; exact b, h⟩
theorem oY {d : Int} {t : PyData} (f : Few t) (h : ∀ x, t ≠ dN x) (n : isNum t = false) : Jm d t := ⟨f, fun x e => absurd e (h x), lq n⟩
theorem vq (h : lC ds μ Qd) : iE { nx := fun _ μ' => Qd (.v .none) μ', rt := Qd } (aH ["_law_bag_here", "_law_d", "_law_x", "_law_some"] ds) μ := by
  obtain ⟨a, d, rfl, hd, hb, q⟩ := h
  unfold iE
  walk_at "rn"
  refine ⟨a, d, rfl, hd, hb, fun x μ1 ox bx hx s1 => ?_⟩
  walk_at "rn"
  refine ⟨a, rfl, s1.1, fun o μ2 ho s2 => ?_⟩
  have m2 : ∀ z : Int, MulOk z 2 := fun z => mulR (by decide)
  refine ⟨x, rfl, m2 _, m2 _, m2 _, ?_⟩
  simp only [p4, dN]
  walk_at "rn"
  refine ⟨by decide, a, 12, rfl, by decide, by decide, s2.1, fun r μ3 r0 r1 s3 => ?_⟩
  walk_at "rn"
  have om := Dn ox
  have b2 : Bd 30 ⟨x.a * 2, x.b * 2, x.c * 2⟩ := ⟨(bx.a.mul (Sz.of (n := 2) (by decide))).mono (by decide), (bx.b.mul (Sz.of (n := 2) (by decide))).mono (by decide), (bx.c.mul (Sz.of (n := 2) (by decide))).mono (by decide)⟩
  have bn : Bd 30 ⟨x.a, x.b, 0 - x.c⟩ := ⟨bx.a.mono (by decide), bx.b.mono (by decide), by rw [show 0 - x.c = -x.c by omega]; exact bx.c.neg.mono (by decide)⟩
  obtain ⟨t, e, f1, f2, f3⟩ := pick (P := Jm d) (xs := [o, dN { a := (minus x).a, b := (minus x).b, c := (minus x).c }, dN { a := 0, b := 0, c := 1 },
              dN { a := x.a * 2, b := x.b * 2, c := x.c * 2 }, dN { a := x.a, b := x.b, c := 0 - x.c },
              PyData.list [PyData.int x.a, PyData.int x.b, PyData.int x.c],
              PyData.tuple (oS [PyData.int x.a, PyData.int x.b, PyData.int x.c] none (some 2)),
              PyData.tuple [PyData.int x.a, PyData.int x.b, PyData.int x.c, PyData.int 1],
              PyData.tuple [PyData.int x.a, PyData.none, PyData.int x.c],
              PyData.tuple [PyData.bool true, PyData.int 0, PyData.int 1],
              PyData.tuple [PyData.int 1, PyData.int 0, PyData.bool true],
              PyData.tuple [dN { a := x.a, b := x.b, c := x.c }]]) r0 (by exact r1) (by
    intro u hu
    simp only [List.mem_cons, List.not_mem_nil, or_false] at hu
    rcases hu with rfl | rfl | rfl | rfl | rfl | rfl | rfl | rfl | rfl | rfl | rfl | rfl
    · exact Mz ho
    · refine Hs ((DR bx).mono (by decide)) ?_
      have es : sg d (minus x).a (minus x).b = -1 := by show sg d (-x.a) (-x.b) = -1; rw [Bo hd, hx]
      rw [show ({ a := (minus x).a, b := (minus x).b, c := (minus x).c } : N3) = minus x from rfl, qU om, es]
      decide
    · refine Hs ⟨Sz.of (by decide +kernel), Sz.of (by decide +kernel), Sz.of (by decide +kernel)⟩ ?_
      rw [show dN ⟨0, 0, 1⟩ = dN aA from rfl, qU vM, show sg d aA.a aA.b = 0 from ey.mpr ⟨rfl, rfl⟩]
      decide
    · refine Hs (b2.mono (by decide)) (lq ?_)
      have g := FL x.a x.b x.c 2
      rw [ox.g] at g
      simp [dN, isNum, g]
    · refine Hs (bn.mono (by decide)) (lq ?_)
      have := ox.c
      have h : ¬ (1 ≤ 0 - x.c) := by omega
      simp only [dN, isNum, decide_eq_false h, Bool.false_and]
    · exact oY trivial (fun y e => by cases e) rfl
    · exact oY (by show 2 ≤ 1000; decide) (fun y e => by have e2 : PyData.tuple [PyData.int x.a, PyData.int x.b] = dN y := e; simp [dN] at e2) rfl
    · exact oY (by show 4 ≤ 1000; decide) (fun y e => by simp [dN] at e) rfl
    · exact oY (by show 3 ≤ 1000; decide) (fun y e => by simp [dN] at e) rfl
    · exact oY (by show 3 ≤ 1000; decide) (fun y e => by simp [dN] at e) rfl
    · exact oY (by show 3 ≤ 1000; decide) (fun y e => by simp [dN] at e) rfl
    · exact oY (by show 1 ≤ 1000; decide) (fun y e => by simp [dN] at e) rfl)
  rw [e]
  exact q t _ f1 f2 f3 (s1.trans (s2.trans s3))
theorem Ax.trans {a : Addr} {μ μ1 μ2 : Mu} (h : Ax a μ μ1) (g : Ax a μ1 μ2) : Ax a μ μ2 := ⟨g.1, fun b n ds e => g.2 b n ds (h.2 b n ds e)⟩
theorem Step.w {a : Addr} {μ μ' : Mu} (h : Step a μ μ') : Ax a μ μ' := ⟨h.1, fun b n ds e => by rw [h.2 b n]; exact e⟩
def C2 (a p : Addr) (d : Int) (x : N3) (μ : Mu) (i : Nat) (ρ : Rho) (μ' : Mu) : Prop := ∃ (ks : List N3) (r3 r4 r5 r6 : Option D), ρ = [some (.m a), some (.v (.int d)), some (.m p), r3, r4, r5, r6] ∧ Bag μ' a ∧ (∀ b, b ≠ a → ∀ ds, μ b = some ds → μ' b = some ds) ∧ μ' p = some ((x :: ks).map dN) ∧ ks.length = i ∧ (∀ k ∈ x :: ks, Ok k ∧ Bd 60 k ∧ sg d k.a k.b = 1)
theorem zS (h : qk ds μ Qd) : mz { nx := fun _ μ' => Qd (.v .none) μ', rt := Qd } (aH ["_law_bag_here", "_law_d", "_law_found", "_law_turn", "_law_way", "_law_part", "_law_kind"] ds) μ := by
  obtain ⟨a, d, rfl, hd, hb, q⟩ := h
  have s5 := sM hd.1 hd.2.1
  unfold mz
  walk_at "rn"
  refine ⟨a, d, rfl, hd, hb, fun x μ1 ox bx sx s1 => ?_⟩
  walk_at "rn"
  intro p hp
  have hap : a ≠ p := fun z => by obtain ⟨g, m, e, _⟩ := s1.1; rw [z, hp] at e; cases e
  have sb : Bag (aI μ1 p [dN x]) a := by obtain ⟨g, m, e, z⟩ := s1.1; exact ⟨g, m, by rw [dy hap]; exact e, z⟩
  rw [G2]
  walk_at "rn"
  refine ⟨a, 3, rfl, by decide, by decide, sb, fun n μ2 n0 n1 s2 => ?_⟩
  walk_at "rn"
  have keep2 : ∀ b, b ≠ a → ∀ ds, μ b = some ds → μ2 b = some ds := fun b hb' ds e => by
    have e1 := (s1.2 b hb').trans e
    have : b ≠ p := fun z => by rw [z, hp] at e1; cases e1
    rw [s2.2 b hb', dy this]; exact e1
  have hp2 : μ2 p = some ([x].map dN) := by rw [s2.2 p (fun z => hap z.symm)]; exact bI
  refine ⟨⟨by omega, by omega⟩, C2 a p d x μ, ⟨[], _, _, _, _, rfl, s2.1, keep2, hp2, rfl, fun k hk => by rw [List.mem_singleton.mp hk]; exact ⟨ox, bx.mono (by decide), sx⟩⟩, ?_, ?_⟩
  · rintro i v ρ μ3 hv ⟨ks, r3, r4, r5, r6, rfl, hb3, kp, hpk, hl, hok⟩
    obtain ⟨rfl, hi⟩ := Hv hv
    have hi2 : i < 2 := by omega
    walk_at "rn"
    refine ⟨a, 6, rfl, by decide, by decide, hb3, fun way μ4 w0 w1 s4 => ?_⟩
    walk_at "rn"
    refine ⟨a, 9, rfl, by decide, by decide, s4.1, fun t μ5 t0 t1 s5' => ?_⟩
    walk_at "rn"
    refine ⟨a, 9, rfl, by decide, by decide, s5'.1, fun u μ6 u0 u1 s6 => ?_⟩
    walk_at "rn"
    have s46 := s4.trans (s5'.trans s6)
    have hp6 : μ6 p = some (dN x :: ks.map dN) := by rw [s46.2 p (fun z => hap z.symm)]; exact hpk
    simp only [hp6]
    walk_at "rn"
    have nx := bV hd ox sx
    have ocx := aK nx
    have bcx := cC s5 nx bx
    refine ⟨d, x, rfl, s5, nx, bx.mono (by decide), ?_⟩
    walk_at "rn"
    obtain ⟨m0, m1⟩ := mV way (show (0 : Int) < 2 by decide)
    obtain ⟨_, e1, k1, rfl, ok1, bk1, sk1⟩ := pick (P := fun v => ∃ k, v = dN k ∧ Ok k ∧ Bd 46 k ∧ sg d k.a k.b = 1) (xs := [dN x, dN (az d x)]) m0 (by exact m1) (by
      intro v hv
      simp only [List.mem_cons, List.not_mem_nil, or_false] at hv
      rcases hv with rfl | rfl
      · exact ⟨_, rfl, ox, bx.mono (by decide), sx⟩
      · exact ⟨_, rfl, ocx, bcx.mono (by decide), me hd ox sx⟩)
    rw [e1]
    refine ⟨by decide, ?_⟩
    walk_at "rn"
    have fin : ∀ (μ7 : Mu) (k : N3) (r3 r4 r5 : Option D), Step a μ6 μ7 → Ok k → Bd 60 k → sg d k.a k.b = 1 → LP (af 2) (af 6) [some (.m a), some (.v (.int d)), some (.m p), r3, r4, r5, some (.v (dN k))] μ7 (fun _ μ' => C2 a p d x μ (i + 1) [some (.m a), some (.v (.int d)), some (.m p), r3, r4, r5, some (.v (dN k))] μ') := fun μ7 k r3 r4 r5 s7 ok bk sk => by
      have s47 := s46.trans s7
      have hp7 : μ7 p = some (dN x :: ks.map dN) := by rw [s47.2 p (fun z => hap z.symm)]; exact hpk
      walk_at "rn"
      simp only [hp7]
      refine ⟨by simp; omega, ks ++ [k], _, _, _, _, rfl, ?_, fun b hb' ds e => ?_, ?_, by simp [hl], fun z hz => ?_⟩
      · obtain ⟨g, m, e, z⟩ := s47.1; exact ⟨g, m, by rw [dy hap]; exact e, z⟩
      · have h3 := kp b hb' ds e
        by_cases hbp : b = p
        · subst hbp
          exfalso
          have e1 := (s1.2 b hb').trans e
          rw [hp] at e1; cases e1
        · rw [dy hbp, s47.2 b hb']; exact h3
      · rw [bI]; simp
      · rcases List.mem_cons.mp hz with z' | z'
        · exact hok z (by rw [z']; exact List.mem_cons_self)
        · rcases List.mem_append.mp z' with z'' | z''
          · exact hok z (List.mem_cons_of_mem _ z'')
          · rw [List.mem_singleton.mp z'']; exact ⟨ok, bk, sk⟩
    by_cases c1 : 3 < way
    · rw [if_pos (by simpa using c1)]
      refine ⟨a, d, rfl, hd, s6.1, fun k μ7 ok bk sk s7 => ?_⟩
      have := fin μ7 k (some (.v (.int (0 + (i : Int))))) (some (.v (.int way))) (some (.v (dN ⟨1 + t, 0, 1 + u⟩))) s7 ok (bk.mono (by decide)) sk
      walk_at "rn"
      exact this
    · rw [if_neg (by simpa using c1)]
      by_cases c2 : 1 < way
      · rw [if_pos (by simpa using c2)]
        have un : 1 + u ≠ 0 := by omega
        have z4 : ∀ v : Int, 0 ≤ v → v < 9 → Sz 4 (1 + v) := fun v h1 h2 => Sz.of (by show (1 + v).natAbs < 16; omega)
        have op := j8 (1 + t) 0 un
        have bp : Bd 4 (low (1 + t) 0 (1 + u)) := mR un (z4 t t0 t1) (Sz.of (by show (0 : Int).natAbs < 16; decide)) (z4 u u0 u1)
        have hp' : sg d (low (1 + t) 0 (1 + u)).a (low (1 + t) 0 (1 + u)).b = 1 := by
          rw [GZ hd (by omega)]
          unfold sg
          rw [if_neg (by omega), if_pos (by omega)]
        refine ⟨_, _, _, rfl, un, (z4 u u0 u1).mono (by decide), d, k1, _, rfl, s5, ok1, op, bk1.mono (by decide), bp.mono (by decide), ?_⟩
        exact fin μ6 _ _ _ _ (Step.refl s6.1) (aQ ok1 op) ((bM s5 ok1 op bk1 bp).mono (by decide)) (by rw [LB hd ok1 op, sk1, hp']; rfl)
      · rw [if_neg (by simpa using c2)]
        exact fin μ6 k1 _ _ _ (Step.refl s6.1) ok1 (bk1.mono (by decide)) sk1
  · rintro ρ μ3 ⟨ks, r3, r4, r5, r6, rfl, hb3, kp, hpk, hl, hok⟩
    rw [Kq] at hl
    walk_at "rn"
    simp only [hpk]
    exact q (x :: ks) μ3 ⟨by simp, by simp; omega, hok⟩ ⟨hb3, kp⟩
theorem wo (h : vj ds μ Qd) : jk { nx := fun _ μ' => Qd (.v .none) μ', rt := Qd } (aH ["_law_bag_here", "_law_wide"] ds) μ := by
  obtain ⟨a, rfl, hb, q⟩ := h
  unfold jk
  walk_at "rn"
  refine ⟨a, 4, rfl, by decide, by decide, hb, fun r μ1 r0 r1 s1 => ?_⟩
  walk_at "rn"
  obtain ⟨_, e1, w, rfl, w0, w1⟩ := pick (P := fun v => ∃ w : Int, v = .int w ∧ 2 ≤ w ∧ w ≤ 9999) (xs := [.int 2, .int 9, .int 9, .int 9999]) r0 (by exact r1) (by
    intro v hv
    simp only [List.mem_cons, List.not_mem_nil, or_false] at hv
    rcases hv with rfl | rfl | rfl | rfl <;> exact ⟨_, rfl, by decide, by decide⟩)
  rw [e1]
  walk_at "rn"
  refine ⟨a, w, rfl, by omega, by omega, s1.1, fun t μ2 t0 t1 s2 => ?_⟩
  walk_at "rn"
  refine ⟨a, w, rfl, by omega, by omega, s2.1, fun u μ3 u0 u1 s3 => ?_⟩
  walk_at "rn"
  have un : 1 + u ≠ 0 := by omega
  have z : ∀ v : Int, 0 ≤ v → v < w → Sz 14 (1 + v) := fun v h1 h2 => Sz.of (by show (1 + v).natAbs < 16384; omega)
  refine ⟨_, _, _, rfl, un, (z u u0 u1).mono (by decide), q _ μ3 ?_ ?_ (s1.trans (s2.trans s3))⟩
  · have r := kv (a := 1 + t) (b := 0) un
    have ok := j8 (1 + t) 0 un
    obtain ⟨l1, l2, l3⟩ := K1 (1 + t) 0 un
    have hp : 0 < (low (1 + t) 0 (1 + u)).a := by
      have e := r.a
      have hc := ok.c
      have : 0 < (low (1 + t) 0 (1 + u)).a * (1 + u) := by rw [e]; exact Int.mul_pos (by omega) hc
      exact Q6 this (by omega)
    exact ⟨ok, (by have := l2; omega), by omega, by omega, by have := ok.c; omega⟩
  · have r := kv (a := 1 + t) (b := 0) un
    have ok := j8 (1 + t) 0 un
    have e := r.a
    have hc := ok.c
    have : 0 < (low (1 + t) 0 (1 + u)).a * (1 + u) := by rw [e]; exact Int.mul_pos (by omega) hc
    exact Q6 this (by omega)
theorem Fr0.bd {x : N3} (h : Fr0 x) : Bd 14 x := by
  have hc := h.ok.c
  have a0 := h.a0
  have a1 := h.a1
  have c1 := h.c1
  exact ⟨Sz.of (by show x.a.natAbs < 16384; omega), by rw [h.b]; exact Sz.of (by show (0 : Int).natAbs < 16384; decide), Sz.of (by show x.c.natAbs < 16384; omega)⟩
theorem Kr {d : Int} {ks : List N3} (ho : KindsOk d ks) {r : Int} (r0 : 0 ≤ r) (r1 : r < (ks.length : Nat)) : ∃ k ∈ ks, atI (ks.map dN) r = some (dN k) := by
  obtain ⟨v, e, m⟩ := vy (xs := ks.map dN) r0 (by rw [List.length_map]; exact r1)
  obtain ⟨k, hk, rfl⟩ := List.mem_map.mp m
  exact ⟨k, hk, e⟩
theorem Cg {d : Int} {x y : N3} (hd : aF d) (ox : Ok x) (oy : Ok y) (hx : sg d x.a x.b = 1) (hy : sg d y.a y.b = 1) : sg d (plus x y).a (plus x y).b = 1 := Ms.pos hd (fI ox oy) (IB ox oy) hx hy
theorem Ab (h : qV ds μ Qd) : mJ { nx := fun _ μ' => Qd (.v .none) μ', rt := Qd } (aH ["_law_bag_here", "_law_d", "_law_kinds_here", "_law_kind", "_law_other", "_law_u", "_law_v", "_law_way", "_law_turned_kind", "_law_some"] ds) μ := by
  obtain ⟨a, d, ks, rfl, hd, ho, hb, q⟩ := h
  have s5 := sM hd.1 hd.2.1
  have l1 := ho.l1
  have l3 := ho.l3
  unfold mJ
  walk_at "rn"
  rw [List.length_map]
  refine ⟨a, _, rfl, by omega, by omega, hb, fun r μ1 r0 r1 s1 => ?_⟩
  obtain ⟨k, hk, e1⟩ := Kr ho r0 r1
  walk_at "rn"
  rw [e1]
  obtain ⟨ok, bk, sk⟩ := ho.ok k hk
  walk_at "rn"
  refine ⟨a, _, rfl, by omega, by omega, s1.1, fun r' μ2 r0' r1' s2 => ?_⟩
  obtain ⟨o, ho', e2⟩ := Kr ho r0' r1'
  walk_at "rn"
  rw [e2]
  obtain ⟨oo, bo, so⟩ := ho.ok o ho'
  walk_at "rn"
  refine ⟨a, rfl, s2.1, fun u μ3 fu u0 s3 => ?_⟩
  walk_at "rn"
  refine ⟨a, rfl, s3.1, fun v μ4 fv v0 s4 => ?_⟩
  walk_at "rn"
  refine ⟨a, 10, rfl, by decide, by decide, s4.1, fun w μ5 w0 w1 s5' => ?_⟩
  walk_at "rn"
  have nk := bV hd ok sk
  refine ⟨d, k, rfl, s5, nk, bk.mono (by decide), ?_⟩
  walk_at "rn"
  refine ⟨a, d, rfl, hd, s5'.1, fun x μ6 ox bx sx s6 => ?_⟩
  have oc := aK nk
  have bc := cC s5 nk bk
  have sc := me hd ok sk
  have bu := fu.bd
  have bv := fv.bd
  have su : sg d u.a u.b = 1 := HQ u0 fu.b
  have sv : sg d v.a v.b = 1 := HQ v0 fv.b
  have o2 := aQ (d := d) ok fu.ok
  have b2 := bM s5 ok fu.ok bk bu
  have g2 : sg d (times d k u).a (times d k u).b = 1 := by rw [eN hd ok fu.ok, sk, su]; rfl
  have o3 := aQ (d := d) oc fu.ok
  have b3 := bM s5 oc fu.ok bc bu
  have g3 : sg d (times d (az d k) u).a (times d (az d k) u).b = 1 := by rw [eN hd oc fu.ok, sc, su]; rfl
  have o4 := aQ (d := d) oc fv.ok
  have b4 := bM s5 oc fv.ok bc bv
  have g4 : sg d (times d (az d k) v).a (times d (az d k) v).b = 1 := by rw [eN hd oc fv.ok, sc, sv]; rfl
  have o5 := aQ (d := d) oo fv.ok
  have b5 := bM s5 oo fv.ok bo bv
  have g5 : sg d (times d o v).a (times d o v).b = 1 := by rw [eN hd oo fv.ok, so, sv]; rfl
  have or' : Ok ⟨0, 1, 1⟩ := ⟨by decide, by decide⟩
  have br : Bd 2 ⟨0, 1, 1⟩ := ⟨Sz.of (by decide), Sz.of (by decide), Sz.of (by decide)⟩
  have gr : sg d (⟨0, 1, 1⟩ : N3).a (⟨0, 1, 1⟩ : N3).b = 1 := by show sg d 0 1 = 1; rw [GD]; rfl
  have ot : Ok ⟨0, 1, 999999⟩ := ⟨by decide, by decide⟩
  have bt : Bd 20 ⟨0, 1, 999999⟩ := ⟨Sz.of (by decide), Sz.of (by decide), Sz.of (by decide)⟩
  have gt : sg d (⟨0, 1, 999999⟩ : N3).a (⟨0, 1, 999999⟩ : N3).b = 1 := by show sg d 0 1 = 1; rw [GD]; rfl
  have oh : Ok ⟨1, 0, 99999⟩ := ⟨by decide, by decide⟩
  have bh : Bd 20 ⟨1, 0, 99999⟩ := ⟨Sz.of (by decide), Sz.of (by decide), Sz.of (by decide)⟩
  have gh : sg d (⟨1, 0, 99999⟩ : N3).a (⟨1, 0, 99999⟩ : N3).b = 1 := by show sg d 1 0 = 1; rw [vL]; rfl
  have o6 := aQ (d := d) or' fu.ok
  have b6 := bM s5 or' fu.ok br bu
  have g6 : sg d (times d ⟨0, 1, 1⟩ u).a (times d ⟨0, 1, 1⟩ u).b = 1 := by rw [eN hd or' fu.ok, gr, su]; rfl
  have o7 := aQ (d := d) fv.ok oh
  have b7 := bM s5 fv.ok oh bv bh
  have g7 : sg d (times d v ⟨1, 0, 99999⟩).a (times d v ⟨1, 0, 99999⟩).b = 1 := by rw [eN hd fv.ok oh, sv, gh]; rfl
  refine ⟨d, k, u, rfl, s5, ok, fu.ok, bk.mono (by decide), bu.mono (by decide), d, _, u, rfl, s5, oc, fu.ok, bc.mono (by decide), bu.mono (by decide), d, k, u, rfl, s5, ok, fu.ok, bk.mono (by decide), bu.mono (by decide), d, _, v, rfl, s5, oc, fv.ok, bc.mono (by decide), bv.mono (by decide), _, _, rfl, o2, o4, b2.mono (by decide), b4.mono (by decide), d, o, v, rfl, s5, oo, fv.ok, bo.mono (by decide), bv.mono (by decide), k, _, rfl, ok, o5, bk.mono (by decide), b5.mono (by decide), d, ⟨0, 1, 1⟩, u, rfl, s5, or', fu.ok, br.mono (by decide), bu.mono (by decide), d, _, u, rfl, s5, oc, fu.ok, bc.mono (by decide), bu.mono (by decide), _, ⟨0, 1, 999999⟩, rfl, o3, ot, b3.mono (by decide), bt.mono (by decide), d, k, u, rfl, s5, ok, fu.ok, bk.mono (by decide), bu.mono (by decide), d, v, ⟨1, 0, 99999⟩, rfl, s5, fv.ok, oh, bv.mono (by decide), bh.mono (by decide), _, _, rfl, o2, o7, b2.mono (by decide), b7.mono (by decide), a, d, rfl, hd, s6.1, fun y μ7 oy by' sy s7 => ?_⟩
  walk_at "rn"
  have hst := s1.trans (s2.trans (s3.trans (s4.trans (s5'.trans (s6.trans s7)))))
  obtain ⟨_, e, z, rfl, oz, bz, sz⟩ := pick (P := fun t => ∃ z, t = dN z ∧ Ok z ∧ Bd 230 z ∧ sg d z.a z.b = 1) (xs := [dN x, dN (times d k u), dN (times d (az d k) u), dN (plus (times d k u) (times d (az d k) v)), dN (plus k (times d o v)), dN u, dN (times d ⟨0, 1, 1⟩ u), dN (plus (times d (az d k) u) ⟨0, 1, 999999⟩), dN (plus (times d k u) (times d v ⟨1, 0, 99999⟩)), dN y]) w0 (by exact w1) (by
    intro t ht
    simp only [List.mem_cons, List.not_mem_nil, or_false] at ht
    rcases ht with rfl | rfl | rfl | rfl | rfl | rfl | rfl | rfl | rfl | rfl
    · exact ⟨_, rfl, ox, bx.mono (by decide), sx⟩
    · exact ⟨_, rfl, o2, b2.mono (by decide), g2⟩
    · exact ⟨_, rfl, o3, b3.mono (by decide), g3⟩
    · exact ⟨_, rfl, fI o2 o4, (rz o2 o4 b2 b4).mono (by decide), Cg hd o2 o4 g2 g4⟩
    · exact ⟨_, rfl, fI ok o5, (rz ok o5 bk b5).mono (by decide), Cg hd ok o5 sk g5⟩
    · exact ⟨_, rfl, fu.ok, bu.mono (by decide), su⟩
    · exact ⟨_, rfl, o6, b6.mono (by decide), g6⟩
    · exact ⟨_, rfl, fI o3 ot, (rz o3 ot b3 bt).mono (by decide), Cg hd o3 ot g3 gt⟩
    · exact ⟨_, rfl, fI o2 o7, (rz o2 o7 b2 b7).mono (by decide), Cg hd o2 o7 g2 g7⟩
    · exact ⟨_, rfl, oy, by'.mono (by decide), sy⟩)
  rw [e]
  exact q z _ oz bz sz hst
end
open PySem PySem.Spec PyProof.Rows NM
def HX (d : Int) (f g s : N3) : N3 := low ((shA d f s).b * (shA d f g).c) 0 ((shA d f s).c * (shA d f g).b)
def QM (d : Int) (f g s : N3) : N3 := less (shA d f s) (times d (HX d f g s) (shA d f g))
def p7 : DSp := fun ds μ Q => ∃ (d : Int) (f g s : N3), ds = [.v (.int d), .v (dN f), .v (dN g), .v (dN s)] ∧ aF d ∧ Ok f ∧ f ≠ aA ∧ Ok g ∧ Ok s ∧ (∃ n m p : Nat, Bd n f ∧ Bd m g ∧ Bd p s ∧ n ≤ 2000 ∧ m ≤ 2000 ∧ p ≤ 2000 ∧ (p + (2 * n + 12)) + 2 * (m + (2 * n + 12)) + 6 ≤ 4300) ∧ (shA d f g).b ≠ 0 ∧ Q (.v (.tuple [dN (QM d f g s), dN (HX d f g s)])) μ
theorem A1 {μ : Mu} {Q : DK} {ds : List D} (h : p7 ds μ Q) : ds.length = 4 := by obtain ⟨_, _, _, _, rfl, _⟩ := h; rfl
def rB : DSp := fun ds μ Q => ∃ (d : Int) (x : N3), ds = [.v (.int d), .v (dN x)] ∧ aF d ∧ Bd 8900 x ∧ Q (.v (.bool (dE d x))) μ
theorem zx {μ : Mu} {Q : DK} {ds : List D} (h : rB ds μ Q) : ds.length = 2 := by obtain ⟨_, _, rfl, _⟩ := h; rfl
def pU (x : N3) (w : Int) : N3 := if 0 < w then less x (bZ x) else plus x (bZ x)
def xS : DSp := fun ds μ Q => ∃ (x : N3) (w : Int), ds = [.v (dN x), .v (.int w)] ∧ Ok x ∧ Bd 2100 x ∧ Q (.v (dN (pU x w))) μ
theorem Fu {μ : Mu} {Q : DK} {ds : List D} (h : xS ds μ Q) : ds.length = 2 := by obtain ⟨_, _, rfl, _⟩ := h; rfl
def wY (d : Int) (s : N3) (w : Int) : Int := sg d (pU s w).a (pU s w).b
def bLast (d : Int) (s : N3) (w : Int) : N3 := times d (times d ⟨wY d s w, 0, 2⟩ (pU s w)) (az d (bZ s))
def GL (d : Int) (k : N3) (w : Int) : N3 := times d (times d (pU k w) (pU k w)) (az d (times d ⟨4, 0, 1⟩ (times d k (bZ k))))
def dg (d : Int) (k : N3) : Int := sg d (bZ k).a (bZ k).b
def Mi (d : Int) (k s : N3) : PyData :=
  if dg d s = dg d k then .tuple [dN one, .tuple [dN (times d (GL d k (dg d k)) (az d (bLast d s (dg d k)))), dN ⟨dg d k * wY d s (dg d k), 0, 1⟩, dN ⟨-wY d s (dg d k), 0, 1⟩, dN (bLast d s (dg d k))]]
  else .tuple [dN one, .tuple [dN aA, dN aA, dN aA, dN ⟨dg d k, 0, 1⟩]]
def L7 (d : Int) (k s : N3) : PyData := if i5 d k s = true then .tuple [.str "mixture", dN (xi d k s), dN (xm d k s)] else .tuple [.str "bar", Mi d k s]
def uZ : DSp := fun ds μ Q => ∃ (d : Int) (k s : N3), ds = [.v (.int d), .v (dN k), .v (dN s)] ∧ aF d ∧ Ok k ∧ Bd 230 k ∧ sg d k.a k.b = 1 ∧ Ok s ∧ Bd 1000 s ∧ sg d s.a s.b = 1 ∧ i5 d k s = false ∧ Q (.v (Mi d k s)) μ
theorem Bw {μ : Mu} {Q : DK} {ds : List D} (h : uZ ds μ Q) : ds.length = 3 := by obtain ⟨_, _, _, rfl, _⟩ := h; rfl
def rK : DSp := fun ds μ Q => ∃ (d : Int) (k s : N3), ds = [.v (.int d), .v (dN k), .v (dN s)] ∧ aF d ∧ Ok k ∧ Bd 230 k ∧ sg d k.a k.b = 1 ∧ Ok s ∧ Bd 1000 s ∧ sg d s.a s.b = 1 ∧ Q (.v (L7 d k s)) μ
theorem zQ {μ : Mu} {Q : DK} {ds : List D} (h : rK ds μ Q) : ds.length = 3 := by obtain ⟨_, _, _, rfl, _⟩ := h; rfl
def pd : DTS :=
  (aL (bA (ao mI (ae (af 0) (ae (af 3) (ae (af 1) ak)))) (av 4))
  (aL (bA (ao mI (ae (af 0) (ae (af 2) (ae (af 1) ak)))) (av 5))
  (aL (bA (ao cX (ae (cb (dOp aB (af 4) (dC (.int 1))) (dOp aB (af 5) (dC (.int 2)))) (ae (dC (.int 0)) (ae (cb (dOp aB (af 4) (dC (.int 2))) (dOp aB (af 5) (dC (.int 1)))) ak)))) (av 6))
  (aL (bA (ao xZ (ae (af 4) (ae (ao bW (ae (af 0) (ae (af 6) (ae (af 5) ak)))) ak))) (av 7))
  (bB (bE (ae (af 7) (ae (af 6) ak))))))))
def qg : DTS :=
  (bB (AK (dOp (fe false) (dOp aB (af 1) (dC (.int 1))) (dC (.int 0))) (dOp rGe (ao kf (ae (af 0) (ae (af 1) ak))) (dC (.int 0)))))
def Bg : DTS :=
  (bB (dIf (dB (dOp rGt (af 1) (dC (.int 0)))) (ao xZ (ae (af 0) (ae (ao kc (ae (af 0) ak)) ak))) (ao kT (ae (af 0) (ae (ao kc (ae (af 0) ak)) ak)))))
def tG : DTS :=
  (aL (bA (ao kf (ae (af 0) (ae (ao kc (ae (af 1) ak)) ak))) (av 3))
  (aL (eu (dB (dOp (fe true) (ao kf (ae (af 0) (ae (ao kc (ae (af 2) ak)) ak))) (af 3))) (bB (bE (ae (dC (.tuple [.int 1, .int 0, .int 1])) (ae (bE (ae (dC (.tuple [.int 0, .int 0, .int 1])) (ae (dC (.tuple [.int 0, .int 0, .int 1])) (ae (dC (.tuple [.int 0, .int 0, .int 1])) (ae (bE (ae (af 3) (ae (dC (.int 0)) (ae (dC (.int 1)) ak)))) ak))))) ak)))) cD)
  (aL (bA (ao xS (ae (af 1) (ae (af 3) ak))) (av 4))
  (aL (bA (ao xS (ae (af 2) (ae (af 3) ak))) (av 5))
  (aL (bA (ao kf (ae (af 0) (ae (af 5) ak))) (av 6))
  (aL (bA (ao mI (ae (af 0) (ae (ao bW (ae (af 0) (ae (bE (ae (af 6) (ae (dC (.int 0)) (ae (dC (.int 2)) ak)))) (ae (af 5) ak)))) (ae (ao kc (ae (af 2) ak)) ak)))) (av 7))
  (aL (bA (ao mI (ae (af 0) (ae (ao bW (ae (af 0) (ae (af 4) (ae (af 4) ak)))) (ae (ao bW (ae (af 0) (ae (bE (ae (dC (.int 4)) (ae (dC (.int 0)) (ae (dC (.int 1)) ak)))) (ae (ao bW (ae (af 0) (ae (af 1) (ae (ao kc (ae (af 1) ak)) ak)))) ak)))) ak)))) (av 8))
  (bB (bE (ae (dC (.tuple [.int 1, .int 0, .int 1])) (ae (bE (ae (ao mI (ae (af 0) (ae (af 8) (ae (af 7) ak)))) (ae (bE (ae (cb (af 3) (af 6)) (ae (dC (.int 0)) (ae (dC (.int 1)) ak)))) (ae (bE (ae (vR (af 6)) (ae (dC (.int 0)) (ae (dC (.int 1)) ak)))) (ae (af 7) ak))))) ak)))))))))))
def mH : DTS :=
  (aL (sh (ao ff (ae (af 0) (ae (af 1) ak))))
  (aL (sh (ao ff (ae (af 0) (ae (af 2) ak))))
  (aL (eu (dB (dOp (fe false) (dOp aB (ao bW (ae (af 0) (ae (af 1) (ae (af 1) ak)))) (dC (.int 1))) (dC (.int 0)))) (bA (bE (ae (ao mI (ae (af 0) (ae (af 2) (ae (af 1) ak)))) (ae (dC (.tuple [.int 0, .int 0, .int 1])) ak))) (av 3)) (bA (ao p7 (ae (af 0) (ae (af 1) (ae (ao cW (ae (af 0) (ae (af 1) ak))) (ae (af 2) ak))))) (av 3)))
  (aL (eu (dB (dCB yf (ae (C9 [none, some 0] (Dp (af 3)) (av 0) DX (ao rB (ae (af 1) (ae (af 0) ak)))) ak))) (bB (bE (ae (dC (.str "mixture")) (ae (dOp aB (af 3) (dC (.int 0))) (ae (dOp aB (af 3) (dC (.int 1))) ak))))) cD)
  (bB (bE (ae (dC (.str "bar")) (ae (ao uZ (ae (af 0) (ae (af 1) (ae (af 2) ak)))) ak))))))))
section
variable {μ : Mu} {Qd : DK} {ds : List D}
theorem jw {d : Int} {x : N3} (h : sg d x.a x.b = 1) : x ≠ aA := fun e => by subst e; have : sg d aA.a aA.b = 0 := ey.mpr ⟨rfl, rfl⟩; omega
theorem Bc (h : p7 ds μ Qd) : pd { nx := fun _ μ' => Qd (.v .none) μ', rt := Qd } (aH ["d", "first", "second", "shape", "whole", "part", "of_second", "of_first"] ds) μ := by
  obtain ⟨d, f, g, s, rfl, hd, of, nf, og, os, ⟨n, m, p, bf, bg, bs, ln, lm, lp, lt⟩, hp, q⟩ := h
  have s5 := sM hd.1 hd.2.1
  have hn := hd.norm of nf
  have oa : Ok (shA d f s) := lL os hn
  have op : Ok (shA d f g) := lL og hn
  have ba : Bd (p + (2 * n + 6) + 6) (shA d f s) := bM s5 os (aK hn) bs (cC s5 hn bf)
  have bp : Bd (m + (2 * n + 6) + 6) (shA d f g) := bM s5 og (aK hn) bg (cC s5 hn bf)
  unfold pd
  walk_at "rn"
  refine ⟨d, s, f, rfl, hd, os, of, nf, bs.mono (by omega), bf.mono (by omega), ?_⟩
  walk_at "rn"
  refine ⟨d, g, f, rfl, hd, og, of, nf, bg.mono (by omega), bf.mono (by omega), ?_⟩
  walk_at "rn"
  have hc : (shA d f s).c * (shA d f g).b ≠ 0 := Int.mul_ne_zero oa.cn hp
  have sc := ba.c.mul bp.b
  have sb := ba.b.mul bp.c
  refine ⟨fU ba.b bp.c (by omega), fU ba.c bp.b (by omega), _, _, _, rfl, hc, sc.mono (by omega), ?_⟩
  have ov : Ok (HX d f g s) := j8 _ _ hc
  have bv : Bd (p + (2 * n + 6) + 6 + (m + (2 * n + 6) + 6)) (HX d f g s) := mR hc sb (sz0) sc
  walk_at "rn"
  refine ⟨d, HX d f g s, shA d f g, rfl, s5, ov, op, bv.mono (by omega), bp.mono (by omega), shA d f s, _, rfl, oa, aQ ov op, ba.mono (by omega), (bM s5 ov op bv bp).mono (by omega), ?_⟩
  exact q
theorem CW (h : rB ds μ Qd) : qg { nx := fun _ μ' => Qd (.v .none) μ', rt := Qd } (aH ["d", "x"] ds) μ := by
  obtain ⟨d, x, rfl, hd, bx, q⟩ := h
  unfold qg
  walk_at "rn"
  unfold dE at q
  cases e : decide (x.b = 0) with
  | true =>
    rw [e, Bool.true_and] at q
    exact ⟨d, x, rfl, hd, bx, q⟩
  | false =>
    rw [e, Bool.false_and] at q
    exact q
theorem M4 (h : xS ds μ Qd) : Bg { nx := fun _ μ' => Qd (.v .none) μ', rt := Qd } (aH ["shape", "way"] ds) μ := by
  obtain ⟨x, w, rfl, ox, bx, q⟩ := h
  unfold Bg
  walk_at "rn"
  unfold pU at q
  by_cases hw : 0 < w
  · rw [if_pos hw] at q
    rw [if_pos (by simpa using hw)]
    exact ⟨x, rfl, x, bZ x, rfl, ox, aZ ox, bx.mono (by decide), (jL bx).mono (by decide), q⟩
  · rw [if_neg hw] at q
    rw [if_neg (by simpa using hw)]
    exact ⟨x, rfl, x, bZ x, rfl, ox, aZ ox, bx.mono (by decide), (jL bx).mono (by decide), q⟩
theorem rC {x : N3} {w : Int} (ox : Ok x) : Ok (pU x w) := by
  unfold pU
  split
  · exact pj ox (aZ ox)
  · exact fI ox (aZ ox)
theorem _root_.NM.Rep.bd {x : N3} {A B C : Int} {n : Nat} (ox : Ok x) (r : Rep x A B C) (ha : Sz n A) (hb : Sz n B) (hc : Sz n C) : Bd n x := by
  have e : x = NM.low A B C := ox.OQ r.c r.a r.b
  rw [e]
  exact mR r.c ha hb hc
theorem J4 {n : Nat} {i : Int} (h : Sz n i) : Sz (n + 1) (2 * i) := by
  have := h.add h
  rw [show i + i = 2 * i by omega] at this
  exact this
theorem GQ {x : N3} {w : Int} {n : Nat} (ox : Ok x) (bx : Bd n x) : Bd (n + 1) (pU x w) := by
  unfold pU
  split
  · have r := Rep.less ox (aZ ox) (aP ox) (aP (aZ ox))
    have r2 : Rep (less x (bZ x)) 0 (2 * x.b) x.c := r.conv ox.cn (by show (x.a * x.c - x.a * x.c) * x.c = 0 * _; grind) (by show (x.b * x.c - -x.b * x.c) * x.c = 2 * x.b * (x.c * x.c); grind)
    exact r2.bd (pj ox (aZ ox)) sz0 (J4 bx.b) (bx.c.mono (by omega))
  · have r := Rep.plus ox (aZ ox) (aP ox) (aP (aZ ox))
    have r2 : Rep (plus x (bZ x)) (2 * x.a) 0 x.c := r.conv ox.cn (by show (x.a * x.c + x.a * x.c) * x.c = 2 * x.a * (x.c * x.c); grind) (by show (x.b * x.c + -x.b * x.c) * x.c = 0 * _; grind)
    exact r2.bd (fI ox (aZ ox)) (J4 bx.a) sz0 (bx.c.mono (by omega))
theorem O3 {d : Int} {k : N3} (hd : aF d) (ok : Ok k) (hk : sg d k.a k.b = 1) : dg d k = sg d (norm d k) 0 := Hl hd ok hk
theorem LK {d : Int} {k : N3} (hd : aF d) (ok : Ok k) (hk : sg d k.a k.b = 1) : (dg d k = 1 ∧ 0 < norm d k) ∨ (dg d k = -1 ∧ norm d k < 0) := by
  have hn := bV hd ok hk
  rw [O3 hd ok hk, vL, if_neg hn]
  by_cases h : 0 < norm d k
  · rw [if_pos h]; exact .inl ⟨rfl, h⟩
  · rw [if_neg h]; exact .inr ⟨rfl, by omega⟩
theorem MB {d : Int} {k s : N3} (hd : aF d) (ok : Ok k) (hk : sg d k.a k.b = 1) (os : Ok s) (hs : sg d s.a s.b = 1) (hm : i5 d k s = false) (hw : dg d s = dg d k) : pU s (dg d k) ≠ aA := fun e => by
  have hl : ¬ Lay d k s := fun z => by rw [(M3 hd ok os hk hs).mpr z] at hm; cases hm
  rcases LK hd ok hk with ⟨w1, n1⟩ | ⟨w1, n1⟩ <;> rcases LK hd os hs with ⟨w2, n2⟩ | ⟨w2, n2⟩
  · rw [w1] at e
    unfold pU at e
    rw [if_pos (by decide)] at e
    have r := Rep.less os (aZ os) (aP os) (aP (aZ os))
    rw [e] at r
    have rb := r.b
    have h0 : s.b * (bZ s).c - (bZ s).b * s.c = 0 := by
      have e1 : aA.b = 0 := rfl
      have e2 : aA.c = 1 := rfl
      rw [e1, e2] at rb; omega
    have h1 : s.b * s.c - -s.b * s.c = 0 := h0
    have h2 : s.b * s.c = 0 := by rw [Int.neg_mul] at h1; omega
    have h3 : s.b = 0 := (Int.mul_eq_zero.mp h2).resolve_right os.cn
    refine hl (.inl ⟨n1, n2, ?_⟩)
    rw [h3, Int.zero_mul, Int.zero_mul]
    exact Int.mul_nonneg (sq_nonneg _) (sq_nonneg _)
  · rw [w1, w2] at hw; exact absurd hw (by decide)
  · rw [w1, w2] at hw; exact absurd hw (by decide)
  · rw [w1] at e
    unfold pU at e
    rw [if_neg (by decide)] at e
    have r := Rep.plus os (aZ os) (aP os) (aP (aZ os))
    rw [e] at r
    have ra := r.a
    have h0 : s.a * (bZ s).c + (bZ s).a * s.c = 0 := by
      have e1 : aA.a = 0 := rfl
      have e2 : aA.c = 1 := rfl
      rw [e1, e2] at ra; omega
    have h1 : s.a * s.c + s.a * s.c = 0 := h0
    have h2 : s.a * s.c = 0 := by omega
    have h3 : s.a = 0 := (Int.mul_eq_zero.mp h2).resolve_right os.cn
    refine hl (.inr ⟨n1, n2, ?_⟩)
    rw [h3, Int.zero_mul, Int.zero_mul]
    exact Int.mul_nonneg (sq_nonneg _) (sq_nonneg _)
theorem HC {d : Int} {x : N3} (ox : Ok x) (h : x ≠ aA) : sg d x.a x.b = 1 ∨ sg d x.a x.b = -1 := by
  rcases tD d x.a x.b with z | z | z
  · exfalso
    obtain ⟨h1, h2⟩ := ey.mp z
    have g := ox.g
    rw [h1, h2] at g
    have hc := ox.c
    refine h (N3.ext' h1 h2 ?_)
    show x.c = 1
    simp [g3] at g
    omega
  · exact .inl z
  · exact .inr z
theorem uU {d : Int} {x y : N3} (hd : aF d) (ox : Ok x) (oy : Ok y) (hx : x ≠ aA) (hy : y ≠ aA) : times d x y ≠ aA := fun e => by
  have h := eN hd ox oy
  rw [e] at h
  have z : sg d aA.a aA.b = 0 := ey.mpr ⟨rfl, rfl⟩
  rw [z] at h
  rcases HC (d := d) ox hx with a | a <;> rcases HC (d := d) oy hy with b | b <;> rw [a, b] at h <;> exact absurd h (by decide)
theorem Oh {d : Int} {x : N3} (hd : aF d) (ox : Ok x) (hx : x ≠ aA) : az d x ≠ aA := fun e => by
  have hn := hd.norm ox hx
  have t := qu ox hn
  rw [e] at t
  have h := eN hd ox vM
  rw [t, show sg d aA.a aA.b = 0 from ey.mpr ⟨rfl, rfl⟩, GN] at h
  simp at h
theorem xG {x : N3} (hx : x ≠ aA) : bZ x ≠ aA := fun e => hx (by
  have h1 : x.a = 0 := congrArg N3.a e
  have h2 : -x.b = 0 := congrArg N3.b e
  have h3 : x.c = 1 := congrArg N3.c e
  exact N3.ext' h1 (show x.b = 0 by omega) h3)
theorem rf {t : Int} (h : t = 1 ∨ t = -1) : Ok ⟨t, 0, 2⟩ := by
  rcases h with rfl | rfl
  · exact ⟨by decide, by decide⟩
  · exact ⟨by decide, by decide⟩
theorem G5 {t : Int} (h : t = 1 ∨ t = -1) : Bd 3 ⟨t, 0, 2⟩ := ⟨Sz.of (by show t.natAbs < 8; omega), Sz.of (by show (0 : Int).natAbs < 8; decide), Sz.of (by show (2 : Int).natAbs < 8; decide)⟩
theorem ME {t : Int} (h : t = 1 ∨ t = -1) : (⟨t, 0, 2⟩ : N3) ≠ aA := fun e => by
  have : (2 : Int) = 1 := congrArg N3.c e
  exact absurd this (by decide)
structure LastOk (d : Int) (s : N3) (w : Int) : Prop where
  ok : Ok (bLast d s w)
  bd : Bd 2090 (bLast d s w)
  ne : bLast d s w ≠ aA
theorem A9 {n : Nat} {d : Int} {s : N3} {w : Int} (hd : Sz 5 d) (os : Ok s) (bs : Bd n s) (nm : norm d (bZ s) ≠ 0) {t : Int} (ht : t = 1 ∨ t = -1) : Bd (2 * n + 10) (times d (times d ⟨t, 0, 2⟩ (pU s w)) (az d (bZ s))) := by
  have oh := rf ht
  have of := rC (w := w) os
  have oc := aK nm
  have o1 := aQ (d := d) oh of
  have hmc : (bZ s).c = s.c := rfl
  have hma : (bZ s).a = s.a := rfl
  have hmb : (bZ s).b = -s.b := rfl
  have nn : norm d (bZ s) = norm d s := Ij
  have hN : Sz (2 * n + 6) (norm d s) := xF hd bs
  have tb : t.natAbs = 1 := by omega
  have st : ∀ {k : Nat} {i : Int}, Sz k i → Sz k (t * i) := fun h => h.le (by rw [Int.natAbs_mul, tb]; omega)
  unfold pU at *
  split
  · have r0 := Rep.less os (aZ os) (aP os) (aP (aZ os))
    have r2 : Rep (less s (bZ s)) 0 (2 * s.b) s.c := r0.conv os.cn (by show (s.a * s.c - s.a * s.c) * s.c = 0 * _; grind) (by show (s.b * s.c - -s.b * s.c) * s.c = 2 * s.b * (s.c * s.c); grind)
    have olm := pj os (aZ os)
    have r3 := Rep.times (d := d) (aQ (d := d) oh olm) oc (Rep.times (d := d) oh olm (aP oh) r2) ((aP (aZ os)).az (d := d) (aZ os) nm)
    have r4 : Rep (times d (times d ⟨t, 0, 2⟩ (less s (bZ s))) (az d (bZ s))) (t * (d * s.b * s.b)) (t * (s.b * s.a)) (norm d s) := by
      refine r3.conv (by rw [← nn]; exact nm) ?_ ?_
      · show ((t * 0 + d * 0 * (2 * s.b)) * (s.c * s.a) + d * (t * (2 * s.b) + 0 * 0) * (-s.c * -s.b)) * norm d s = t * (d * s.b * s.b) * (2 * s.c * (s.a * s.a - d * -s.b * -s.b))
        unfold norm; grind
      · show ((t * 0 + d * 0 * (2 * s.b)) * (-s.c * -s.b) + (t * (2 * s.b) + 0 * 0) * (s.c * s.a)) * norm d s = t * (s.b * s.a) * (2 * s.c * (s.a * s.a - d * -s.b * -s.b))
        unfold norm; grind
    refine r4.bd (aQ (aQ oh olm) oc) (st ?_) (st ?_) (hN.mono (by omega))
    · exact ((hd.mul bs.b).mul bs.b).mono (by omega)
    · exact (bs.b.mul bs.a).mono (by omega)
  · have r0 := Rep.plus os (aZ os) (aP os) (aP (aZ os))
    have r2 : Rep (plus s (bZ s)) (2 * s.a) 0 s.c := r0.conv os.cn (by show (s.a * s.c + s.a * s.c) * s.c = 2 * s.a * (s.c * s.c); grind) (by show (s.b * s.c + -s.b * s.c) * s.c = 0 * _; grind)
    have olm := fI os (aZ os)
    have r3 := Rep.times (d := d) (aQ (d := d) oh olm) oc (Rep.times (d := d) oh olm (aP oh) r2) ((aP (aZ os)).az (d := d) (aZ os) nm)
    have r4 : Rep (times d (times d ⟨t, 0, 2⟩ (plus s (bZ s))) (az d (bZ s))) (t * (s.a * s.a)) (t * (s.a * s.b)) (norm d s) := by
      refine r3.conv (by rw [← nn]; exact nm) ?_ ?_
      · show ((t * (2 * s.a) + d * 0 * 0) * (s.c * s.a) + d * (t * 0 + 0 * (2 * s.a)) * (-s.c * -s.b)) * norm d s = t * (s.a * s.a) * (2 * s.c * (s.a * s.a - d * -s.b * -s.b))
        unfold norm; grind
      · show ((t * (2 * s.a) + d * 0 * 0) * (-s.c * -s.b) + (t * 0 + 0 * (2 * s.a)) * (s.c * s.a)) * norm d s = t * (s.a * s.b) * (2 * s.c * (s.a * s.a - d * -s.b * -s.b))
        unfold norm; grind
    refine r4.bd (aQ (aQ oh olm) oc) (st ?_) (st ?_) (hN.mono (by omega))
    · exact (bs.a.mul bs.a).mono (by omega)
    · exact (bs.a.mul bs.b).mono (by omega)
theorem MX {d : Int} {s : N3} {w : Int} (hd : aF d) (os : Ok s) (bs : Bd 1000 s) (ns : s ≠ aA) (hk : pU s w ≠ aA) : LastOk d s w := by
  have s5 := sM hd.1 hd.2.1
  have of := rC (w := w) os
  have ht : wY d s w = 1 ∨ wY d s w = -1 := HC of hk
  have nm := hd.norm (aZ os) (xG ns)
  have oc := aK nm
  have o1 := aQ (d := d) (rf ht) of
  exact ⟨aQ o1 oc, (A9 s5 os bs nm ht).mono (by decide), uU hd o1 oc (uU hd (rf ht) of (ME ht) hk) (Oh hd (aZ os) (xG ns))⟩
theorem EZ (h : uZ ds μ Qd) : tG { nx := fun _ μ' => Qd (.v .none) μ', rt := Qd } (aH ["d", "kind", "shape", "way", "own", "floor", "turn", "last", "both"] ds) μ := by
  obtain ⟨d, k, s, rfl, hd, ok, bk, hk, os, bs, hs, hm, q⟩ := h
  have s5 := sM hd.1 hd.2.1
  have nk := bV hd ok hk
  have ns := jw hs
  unfold tG
  walk_at "rn"
  refine ⟨k, rfl, d, bZ k, rfl, hd, (jL bk).mono (by decide), ?_⟩
  walk_at "rn"
  refine ⟨s, rfl, d, bZ s, rfl, hd, (jL bs).mono (by decide), ?_⟩
  unfold Mi at q
  by_cases hw : dg d s = dg d k
  · rw [if_pos hw] at q
    have hw' : sg d (bZ s).a (bZ s).b = sg d (bZ k).a (bZ k).b := hw
    walk_at "rn"
    rw [if_neg (by rw [hw']; simp)]
    have of := rC (w := dg d k) os
    have bf := GQ (w := dg d k) os bs
    have oo := rC (w := dg d k) ok
    have bo := GQ (w := dg d k) ok bk
    have hf := MB hd ok hk os hs hm hw
    have ht : wY d s (dg d k) = 1 ∨ wY d s (dg d k) = -1 := HC of hf
    have L := MX (w := dg d k) hd os bs ns hf
    refine ⟨k, dg d k, rfl, ok, bk.mono (by decide), ?_⟩
    walk_at "rn"
    refine ⟨s, dg d k, rfl, os, bs.mono (by decide), ?_⟩
    walk_at "rn"
    refine ⟨d, _, rfl, hd, bf.mono (by decide), ?_⟩
    walk_at "rn"
    have o1 := aQ (d := d) (rf ht) of
    have b1 := bM s5 (rf ht) of (G5 ht) bf
    refine ⟨d, ⟨wY d s (dg d k), 0, 2⟩, pU s (dg d k), rfl, s5, rf ht, of, (G5 ht).mono (by decide), bf.mono (by decide), s, rfl, d, _, bZ s, rfl, hd, o1, aZ os, xG ns, b1.mono (by decide), (jL bs).mono (by decide), ?_⟩
    walk_at "rn"
    have o2 := aQ (d := d) oo oo
    have b2 := bM s5 oo oo bo bo
    have o3 := aQ (d := d) ok (aZ ok)
    have b3 := bM s5 ok (aZ ok) bk (jL bk)
    have n3 : times d k (bZ k) ≠ aA := uU hd ok (aZ ok) (jw hk) (xG (jw hk))
    have o4 : Ok ⟨4, 0, 1⟩ := L9 4
    have b4 : Bd 4 ⟨4, 0, 1⟩ := ⟨Sz.of (by decide), Sz.of (by decide), Sz.of (by decide)⟩
    have o5 := aQ (d := d) o4 o3
    have b5 := bM s5 o4 o3 b4 b3
    have n5 : times d ⟨4, 0, 1⟩ (times d k (bZ k)) ≠ aA := uU hd o4 o3 (fun e => absurd (congrArg N3.a e) (by decide)) n3
    refine ⟨d, _, _, rfl, s5, oo, oo, bo.mono (by decide), bo.mono (by decide), k, rfl, d, k, bZ k, rfl, s5, ok, aZ ok, bk.mono (by decide), (jL bk).mono (by decide), d, ⟨4, 0, 1⟩, _, rfl, s5, o4, o3, b4.mono (by decide), b3.mono (by decide), d, _, _, rfl, hd, o2, o5, n5, b2.mono (by decide), b5.mono (by decide), ?_⟩
    walk_at "rn"
    have nn5 := hd.norm o5 n5
    have ob : Ok (GL d k (dg d k)) := aQ o2 (aK nn5)
    have bb : Bd 1902 (GL d k (dg d k)) := (bM s5 o2 (aK nn5) b2 (cC s5 nn5 b5)).mono (by decide)
    refine ⟨d, GL d k (dg d k), bLast d s (dg d k), rfl, hd, ob, L.ok, L.ne, bb.mono (by decide), L.bd.mono (by decide), ?_⟩
    refine ⟨mulR KR, ?_⟩
    exact q
  · rw [if_neg hw] at q
    have hw' : ¬ sg d (bZ s).a (bZ s).b = sg d (bZ k).a (bZ k).b := hw
    walk_at "rn"
    rw [if_pos (by simpa using hw')]
    exact q
structure QU (d : Int) (k s : N3) (n : Nat) : Prop where
  ou : Ok (xi d k s)
  ov : Ok (xm d k s)
  bu : Bd n (xi d k s)
  bv : Bd n (xm d k s)
theorem Pj {d : Int} {k s : N3} {n m : Nat} (hd : aF d) (ok : Ok k) (bk : Bd n k) (hk : sg d k.a k.b = 1) (os : Ok s) (bs : Bd m s) : QU d k s ((m + (2 * n + 6) + 6) + ((m + (2 * n + 6) + 6) + ((2 * n + 6) + (2 * n + 6) + 6) + ((2 * n + 6) + (2 * n + 6) + 6) + 6) + 1) := by
  have s5 := sM hd.1 hd.2.1
  have hn := bV hd ok hk
  have oc := aK hn
  have bc := cC s5 hn bk
  have oa := lL (s := s) os hn
  have ba : Bd (m + (2 * n + 6) + 6) (shA d k s) := bM s5 os oc bs bc
  have op := xW (k := k) hn
  have bp : Bd ((2 * n + 6) + (2 * n + 6) + 6) (prt d k) := bM s5 oc oc bc bc
  refine ⟨Rw ok os hn, RL ok os hn, ?_, ?_⟩
  · unfold xi
    split
    · exact ba.mono (by omega)
    · rename_i hl
      have h' : k.a * k.b ≠ 0 := fun z => hl ((jQ ok).mpr z)
      have hc : (shA d k s).c * (prt d k).b ≠ 0 := Int.mul_ne_zero oa.cn (CN ok hn (aP ok) h')
      have bv : Bd ((m + (2 * n + 6) + 6) + ((2 * n + 6) + (2 * n + 6) + 6)) (shV d k s) := mR hc (ba.b.mul bp.c) sz0 (ba.c.mul bp.b)
      have ov := vN ok os hn h'
      exact (Mr oa (aQ ov op) ba (bM s5 ov op bv bp)).mono (by omega)
  · unfold xm
    split
    · exact ⟨Sz.of (by show (0 : Int).natAbs < _; exact Nat.pos_of_ne_zero (by simp)), Sz.of (by show (0 : Int).natAbs < _; exact Nat.pos_of_ne_zero (by simp)), Sz.of (by show (1 : Int).natAbs < _; exact Nat.one_lt_two_pow (by omega))⟩
    · rename_i hl
      have h' : k.a * k.b ≠ 0 := fun z => hl ((jQ ok).mpr z)
      have hc : (shA d k s).c * (prt d k).b ≠ 0 := Int.mul_ne_zero oa.cn (CN ok hn (aP ok) h')
      exact (mR hc (ba.b.mul bp.c) sz0 (ba.c.mul bp.b)).mono (by omega)
def Jl (d : Int) : PyData → Option PyData
  | .tuple [.int a, .int b, .int c] => some (.bool (dE d ⟨a, b, c⟩))
  | _ => none
theorem Aa (h : rK ds μ Qd) : mH { nx := fun _ μ' => Qd (.v .none) μ', rt := Qd } (aH ["d", "kind", "shape", "shares"] ds) μ := by
  obtain ⟨d, k, s, rfl, hd, ok, bk, hk, os, bs, hs, q⟩ := h
  have s5 := sM hd.1 hd.2.1
  have nk := bV hd ok hk
  have M := Pj (s := s) hd ok bk hk os bs
  unfold mH
  walk_at "rn"
  refine ⟨d, k, rfl, hd, ok, bk.mono (by decide), hk, d, s, rfl, hd, os, bs.mono (by decide), hs, d, k, k, rfl, s5, ok, ok, bk.mono (by decide), bk.mono (by decide), ?_⟩
  walk_at "rn"
  by_cases hl : (times d k k).b = 0
  · rw [if_pos (by simpa using hl)]
    have bu := M.bu
    have bv := M.bv
    unfold L7 at q
    rw [KW hl] at bu q
    rw [Ls hl] at bv q
    refine ⟨d, s, k, rfl, hd, os, ok, jw hk, bs.mono (by decide), bk.mono (by decide), ?_⟩
    refine ⟨(by show 2 ≤ 1000; decide), Jl d, fun x hx μ2 h2 => ⟨⟨trivial, trivial⟩, ?_⟩, ?_⟩
    · simp only [List.mem_cons, List.not_mem_nil, or_false] at hx
      rcases hx with rfl | rfl
      · exact ⟨d, _, rfl, hd, bu.mono (by decide), rfl, rfl⟩
      · exact ⟨d, _, rfl, hd, bv.mono (by decide), rfl, rfl⟩
    · show (if List.all [dE d (shA d k s), dE d aA] id = true then _ else _)
      have e3 : List.all [dE d (shA d k s), dE d aA] id = i5 d k s := by simp [i5, KW hl, Ls hl]
      rw [e3]
      cases hm : i5 d k s with
      | true =>
        rw [hm, if_pos rfl] at q
        exact q
      | false =>
        rw [hm, if_neg (by decide)] at q
        exact ⟨d, k, s, rfl, hd, ok, bk, hk, os, bs, hs, hm, q⟩
  · rw [if_neg (by simpa using hl)]
    have h' : k.a * k.b ≠ 0 := fun z => hl ((jQ ok).mpr z)
    have bu := M.bu
    have bv := M.bv
    unfold L7 at q
    rw [Nl hl] at bu q
    rw [NL hl] at bv q
    refine ⟨d, k, rfl, s5, nk, bk.mono (by decide), d, k, az d k, s, rfl, hd, ok, jw hk, aK nk, os, ⟨230, 2 * 230 + 6, 1000, bk, cC s5 nk bk, bs, by decide, by decide, by decide, by decide⟩, CN ok nk (aP ok) h', ?_⟩
    refine ⟨(by show 2 ≤ 1000; decide), Jl d, fun x hx μ2 h2 => ⟨⟨trivial, trivial⟩, ?_⟩, ?_⟩
    · simp only [List.mem_cons, List.not_mem_nil, or_false] at hx
      rcases hx with rfl | rfl
      · exact ⟨d, _, rfl, hd, bu.mono (by decide), rfl, rfl⟩
      · exact ⟨d, _, rfl, hd, bv.mono (by decide), rfl, rfl⟩
    · show (if List.all [dE d (shU d k s), dE d (shV d k s)] id = true then _ else _)
      have e3 : List.all [dE d (shU d k s), dE d (shV d k s)] id = i5 d k s := by simp [i5, Nl hl, NL hl]
      rw [e3]
      cases hm : i5 d k s with
      | true =>
        rw [hm, if_pos rfl] at q
        exact q
      | false =>
        rw [hm, if_neg (by decide)] at q
        exact ⟨d, k, s, rfl, hd, ok, bk, hk, os, bs, hs, hm, q⟩
end
open PySem PySem.Spec PyProof.Rows NM
structure kd (d : Int) (ks : List N3) : Prop where
  l1 : 1 ≤ ks.length
  l3 : ks.length ≤ 3
  ok : ∀ k ∈ ks, Ok k ∧ Bd 130 k ∧ sg d k.a k.b = 1
theorem KindsOk.wide {d : Int} {ks : List N3} (h : KindsOk d ks) : kd d ks := ⟨h.l1, h.l3, fun k hk => ⟨(h.ok k hk).1, (h.ok k hk).2.1.mono (by decide), (h.ok k hk).2.2⟩⟩
def hV : DSp := fun ds μ Q => ∃ (d : Int) (ks : List N3), ds = [.v (.int d), .v (.tuple (ks.map dN))] ∧ aF d ∧ 1 ≤ ks.length ∧ ks.length ≤ 3 ∧ (∀ k ∈ ks, Ok k ∧ Bd 130 k ∧ sg d k.a k.b = 1) ∧ Q (.v .none) μ
theorem xj {μ : Mu} {Q : DK} {ds : List D} (h : hV ds μ Q) : ds.length = 2 := by obtain ⟨_, _, rfl, _⟩ := h; rfl
def NV (d : Int) (t : PyData) : Prop := Few t ∧ ∀ x, t = dN x → Bd 8900 x
def KT (d : Int) : PyData → Prop
  | .tuple xs => xs.length ≤ 1000 ∧ (xs.length ≤ 3 → ∀ x ∈ xs, NV d x)
  | _ => True
def sX (d : Int) : PyData → Bool
  | .tuple xs => decide (1 ≤ xs.length) && (decide (xs.length ≤ 3) && xs.all (fY d))
  | _ => false
def qM : DSp := fun ds μ Q => ∃ (d : Int) (t : PyData), ds = [.v (.int d), .v t] ∧ aF d ∧ KT d t ∧ Q (.v (.bool (sX d t))) μ
theorem Bl {μ : Mu} {Q : DK} {ds : List D} (h : qM ds μ Q) : ds.length = 2 := by obtain ⟨_, _, rfl, _⟩ := h; rfl
def u7 : XSp := fun ds μ Xk => ∃ (d : Int) (t : PyData), ds = [.v (.int d), .v t] ∧ aF d ∧ KT d t ∧ sX d t = false ∧ Xk μ
theorem zj {ds : List D} {μ : Mu} {Xk : Mu → Prop} (h : u7 ds μ Xk) : ds.length = 2 := by obtain ⟨_, _, rfl, _⟩ := h; rfl
def sgN (d : Int) (k : N3) : Int := sg d (norm d k) 0
def tY : DSp := fun ds μ Q => ∃ (d : Int) (ks : List N3), ds = [.v (.int d), .v (.tuple (ks.map dN))] ∧ aF d ∧ kd d ks ∧ Q (.v (.list ((ks.map (sgN d)).map .int))) μ
theorem D4 {μ : Mu} {Q : DK} {ds : List D} (h : tY ds μ Q) : ds.length = 2 := by obtain ⟨_, _, rfl, _⟩ := h; rfl
def yP : DSp := fun ds μ Q => ∃ (d : Int) (k o : N3), ds = [.v (.int d), .v (dN k), .v (dN o)] ∧ aF d ∧ Ok k ∧ Bd 130 k ∧ sg d k.a k.b = 1 ∧ Ok o ∧ Bd 130 o ∧ sg d o.a o.b = 1 ∧ Q (.v (.bool (decide (gtL d k o)))) μ
theorem Fq {μ : Mu} {Q : DK} {ds : List D} (h : yP ds μ Q) : ds.length = 3 := by obtain ⟨_, _, _, rfl, _⟩ := h; rfl
def ll (d : Int) (ks : List N3) : Bool := ks.any (fun k => decide (sgN d k = 1)) && ks.any (fun k => decide (sgN d k = -1))
def AJ (d : Int) (ks : List N3) : PyData := if ll d ks = true then .none else .int (d7 d ks (ks.length - 1) : Nat)
def Bj : DSp := fun ds μ Q => ∃ (d : Int) (ks : List N3), ds = [.v (.int d), .v (.tuple (ks.map dN))] ∧ aF d ∧ kd d ks ∧ Q (.v (AJ d ks)) μ
theorem Fe {μ : Mu} {Q : DK} {ds : List D} (h : Bj ds μ Q) : ds.length = 2 := by obtain ⟨_, _, rfl, _⟩ := h; rfl
def oj : DSp := fun ds μ Q => ∃ (a : Addr) (d : Int) (ks : List N3), ds = [.m a, .v (.int d), .v (.tuple (ks.map dN))] ∧ aF d ∧ KindsOk d ks ∧ Bag μ a ∧ ∀ t μ', KT d t → sX d t = false → Step a μ μ' → Q (.v t) μ'
theorem xT {μ : Mu} {Q : DK} {ds : List D} (h : oj ds μ Q) : ds.length = 3 := by obtain ⟨_, _, _, rfl, _⟩ := h; rfl
def Hf (i : Int) : PyData := .tuple [.str "kind", .int i]
def Jk (i : Int) : PyData := .tuple [.str "turn", Hf i]
def wK (x : N3) (P : PyData) : PyData := if x = one then P else .tuple [.str "grid", .int x.c, .int x.a, P]
def Er (u v : N3) (F S : PyData) : PyData := if v = aA then wK u F else if u = aA then wK v S else .tuple [.str "upon", .tuple [wK u F, wK v S]]
def lr : DSp := fun ds μ Q => ∃ (x : N3) (P : PyData), ds = [.v (dN x), .v P] ∧ Q (.v (wK x P)) μ
theorem Bs {μ : Mu} {Q : DK} {ds : List D} (h : lr ds μ Q) : ds.length = 2 := by obtain ⟨_, _, rfl, _⟩ := h; rfl
def qe : DSp := fun ds μ Q => ∃ (u v : N3) (F S : PyData), ds = [.v (dN u), .v F, .v (dN v), .v S] ∧ Q (.v (Er u v F S)) μ
theorem BS {μ : Mu} {Q : DK} {ds : List D} (h : qe ds μ Q) : ds.length = 4 := by obtain ⟨_, _, _, _, rfl, _⟩ := h; rfl
def qY : DSp := fun ds μ Q => ∃ (u v : N3) (i : Int), ds = [.v (dN u), .v (dN v), .v (.int i)] ∧ Q (.v (Er u v (Hf i) (Jk i))) μ
theorem zf {μ : Mu} {Q : DK} {ds : List D} (h : qY ds μ Q) : ds.length = 3 := by obtain ⟨_, _, _, rfl, _⟩ := h; rfl
def qD : DTS :=
  (aL (eu (EN (nH (dB (H0 "tuple" (af 1)))) (EN (dB (dOp rLt (dCB iC (ae (af 1) ak)) (dC (.int 1)))) (dB (dOp rGt (dCB iC (ae (af 1) ak)) (dC (.int 3)))))) (bB (dC (.bool false))) cD)
  (bB (dCB yf (ae (C9 [none, some 0] (Dp (af 1)) (av 0) DX (ao nO (ae (af 1) (ae (af 0) ak)))) ak))))
def jf : DTS :=
  (eu (nH (dB (ao qM (ae (af 0) (ae (af 1) ak))))) vH cD)
def dG : DTX :=
  (xIf (nH (dB (ao qM (ae (af 0) (ae (af 1) ak))))) (fun _ μ Xk => Xk μ) FC)
def gR (ea : Addr) : DTS :=
  (aL (bA (j4 (ae (bE (ae (dC (.str "NoRoot")) (ae (fZ ea false (af 1)) ak))) (ae (bE (ae (dC (.str "NoNumber")) (ae (fZ ea false (af 1)) ak))) (ae (bE (ae (dC (.str "NoLaying")) (ae (fZ ea false (af 1)) ak))) (ae (bE (ae (dC (.str "NoTile")) (ae (fZ ea false (af 1)) ak))) (ae (bE (ae (dC (.str "NoFit")) (ae (fZ ea false (af 1)) ak))) (ae (bE (ae (dC (.str "NoKinds")) (ae (fZ ea true (af 1)) ak))) (ae (bE (ae (dC (.str "NoPlan")) (ae (fZ ea false (af 1)) ak))) (ae (bE (ae (dC (.str "NoSpot")) (ae (fZ ea false (af 1)) ak))) (ae (bE (ae (dC (.str "NoNet")) (ae (fZ ea false (af 1)) ak))) (ae (bE (ae (dC (.str "NoText")) (ae (fZ ea false (af 1)) ak))) (ae (bE (ae (dC (.str "NoSaying")) (ae (fZ ea false (af 1)) ak))) (ae (bE (ae (dC (.str "NoName")) (ae (fZ ea false (af 1)) ak))) (ae (bE (ae (dC (.str "TooMany")) (ae (fZ ea false (af 1)) ak))) ak)))))))))))))) (av 2))
  (aL (bA (qS [none, none] (yO (af 2)) (mW 2 (cV (av 0) (cV (av 1) pJ))) (dB (af 1)) (af 0)) (av 3))
  (aL (eu (wU (dB (dOp (fe false) (dCB iC (ae (af 3) ak)) (dC (.int 1)))) (dB (fZ ea true (af 1)))) (bB (dOp aB (af 3) (dC (.int 0)))) cD)
  (bB (dC (.str "several"))))))
def mG : DTS :=
  (bB (C9 [none, some 0] (Dp (af 1)) (av 0) DX (ao kf (ae (af 1) (ae (ao kc (ae (af 0) ak)) ak)))))
def mB : DTS :=
  (aL (bA (ao uR (ae (af 0) (ae (af 1) ak))) (mW 3 (cV (av 3) (cV (av 4) (cV (av 5) pJ)))))
  (aL (bA (ao uR (ae (af 0) (ae (af 2) ak))) (mW 3 (cV (av 6) (cV (av 7) (cV (av 8) pJ)))))
  (bB (dOp rGt (cb (dCB p6 (ae (af 3) ak)) (af 8)) (cb (dCB p6 (ae (af 6) ak)) (af 5))))))
def my : DTS :=
  (aL (sh (ao hV (ae (af 0) (ae (af 1) ak))))
  (aL (bA (ao tY (ae (af 0) (ae (af 1) ak))) (av 2))
  (aL (eu (wU (dB (dOp (Ie false) (dC (.int 1)) (af 2))) (dB (dOp (Ie false) (vR (dC (.int 1))) (af 2)))) (bB (dC .none)) cD)
  (aL (bA (dC (.int 0)) (av 3))
  (aL (EU (yw (ae (dC (.int 1)) (ae (dCB iC (ae (af 1) ak)) ak))) (av 4) (eu (dB (ao yP (ae (af 0) (ae (dOp aB (af 1) (af 4)) (ae (dOp aB (af 1) (af 3)) ak))))) (bA (af 4) (av 3)) cD))
  (bB (af 3)))))))
def iI : DTS :=
  (aL (bA (ao cO (ae (af 0) (ae (dCB iC (ae (af 2) ak)) ak))) (av 3))
  (aL (bA (ao cO (ae (af 0) (ae (dC (.int 8)) ak))) (av 4))
  (aL (eu (dB (dOp rLt (af 4) (dC (.int 5)))) (bB (dOp lK (dOp lK (dSl (af 2) rG (AE (af 3))) (bE (ae (ao lC (ae (af 0) (ae (af 1) ak))) ak))) (dSl (af 2) (AE (dOp lK (af 3) (dC (.int 1)))) rG))) cD)
  (bB (dOp aB (j4 (ae (bE ak) (ae (dSl (dOp lK (dOp lK (dOp lK (af 2) (af 2)) (af 2)) (af 2)) rG (AE (dOp lK (dC (.int 4)) (af 3)))) (ae (dCB p4 (ae (af 2) ak)) ak)))) (tT (af 4) (dC (.int 5))))))))
def mw : DTS :=
  (aL (eu (dB (dOp (fe false) (af 0) (dC (.tuple [.int 1, .int 0, .int 1])))) (bB (af 1)) cD)
  (bB (bE (ae (dC (.str "grid")) (ae (dOp aB (af 0) (dC (.int 2))) (ae (dOp aB (af 0) (dC (.int 0))) (ae (af 1) ak)))))))
def ir : DTS :=
  (aL (eu (dB (dOp (fe false) (af 2) (dC (.tuple [.int 0, .int 0, .int 1])))) (bB (ao lr (ae (af 0) (ae (af 1) ak)))) cD)
  (aL (eu (dB (dOp (fe false) (af 0) (dC (.tuple [.int 0, .int 0, .int 1])))) (bB (ao lr (ae (af 2) (ae (af 3) ak)))) cD)
  (bB (bE (ae (dC (.str "upon")) (ae (bE (ae (ao lr (ae (af 0) (ae (af 1) ak))) (ae (ao lr (ae (af 2) (ae (af 3) ak))) ak))) ak))))))
def gK : DTS :=
  (aL (bA (bE (ae (dC (.str "kind")) (ae (af 2) ak))) (av 3))
  (bB (ao qe (ae (af 0) (ae (af 3) (ae (af 1) (ae (bE (ae (dC (.str "turn")) (ae (af 3) ak))) ak)))))))
section
variable {μ : Mu} {Qd : DK} {ds : List D}
theorem nN {μ : Mu} {Qd : DK} {ea fa : Addr} (q : Qd (.v (.str "NoKinds")) μ) : gR ea { nx := fun _ _ => False, rt := Qd } [some (.o fa), some (.o ea), none, none] μ := by
  unfold gR
  simp only [↓yE, ↓Hb, ↓Hz, ↓Hg, ↓tX, ↓yq, ↓q_c, ↓BP, ↓G6, ↓Gw, ↓rD, Option.map_some, List.set_cons_zero, List.set_cons_succ]
  refine Dq (ns := [("NoRoot", false), ("NoNumber", false), ("NoLaying", false), ("NoTile", false), ("NoFit", false), ("NoKinds", true), ("NoPlan", false), ("NoSpot", false), ("NoNet", false), ("NoText", false), ("NoSaying", false), ("NoName", false), ("TooMany", false)]) rfl (by decide) ?_
  simp only [↓rD, ↓yE, List.set_cons_zero, List.set_cons_succ, List.map_cons, List.map_nil, List.filterMap_cons, List.filterMap_nil, IS, Bool.false_eq_true, ↓reduceIte]
  simp only [↓GU, ↓CH, ↓q_B, ↓Mc, ↓MQ, ↓tX, ↓yq, ↓A3, ↓Cp, ↓q_c, ↓Hj, ↓BP, ↓GC, ↓Cs, List.getElem?_cons_zero, List.getElem?_cons_succ, List.length_cons, List.length_nil]
  exact q
theorem OS {xs : List PyData} (g : PyData → Bool) : dW (xs.filterMap fun x => some (.bool (g x))) = some (xs.map g) := by
  induction xs with
  | nil => rfl
  | cons x xs ih =>
    rw [List.filterMap_cons]
    show dW (PyData.bool (g x) :: _) = _
    unfold dW
    rw [ih]
    rfl
theorem Dr (h : qM ds μ Qd) : qD { nx := fun _ μ' => Qd (.v .none) μ', rt := Qd } (aH ["d", "thing"] ds) μ := by
  obtain ⟨d, t, rfl, hd, kt, q⟩ := h
  unfold qD
  walk_at "rn"
  rcases Hu t with ⟨xs, rfl, e⟩ | ⟨hn, e⟩
  · rw [e]
    walk_at "rn"
    have q' : Qd (.v (.bool (decide (1 ≤ xs.length) && (decide (xs.length ≤ 3) && xs.all (fY d))))) μ := q
    by_cases h1 : ((xs.length : Nat) : Int) < 1
    · rw [if_pos (by simpa using h1)]
      rw [decide_eq_false (show ¬ 1 ≤ xs.length by omega), Bool.false_and] at q'
      exact q'
    · rw [if_neg (by simpa using h1)]
      by_cases h3 : (3 : Int) < ((xs.length : Nat) : Int)
      · rw [if_pos (by simpa using h3)]
        rw [decide_eq_false (show ¬ xs.length ≤ 3 by omega), Bool.false_and, Bool.and_false] at q'
        exact q'
      · rw [if_neg (by simpa using h3)]
        rw [decide_eq_true (show 1 ≤ xs.length by omega), decide_eq_true (show xs.length ≤ 3 by omega), Bool.true_and, Bool.true_and] at q'
        refine ⟨by omega, fun x => some (.bool (fY d x)), fun x hx μ' hs => ⟨⟨trivial, trivial⟩, ?_⟩, ?_⟩
        · have p := kt.2 (by omega) x hx
          exact ⟨d, x, rfl, hd, p.1, p.2, rfl, rfl⟩
        · rw [OS]
          dsimp only
          rw [List.all_map]
          exact q'
  · rw [e]
    walk_at "rn"
    have : sX d t = false := by cases t <;> first | rfl | exact absurd rfl (hn _)
    rw [this] at q
    exact q
theorem Iy {d : Int} {ks : List N3} (h : kd d ks) : sX d (.tuple (ks.map dN)) = true := by
  show (decide (1 ≤ (ks.map dN).length) && (decide ((ks.map dN).length ≤ 3) && (ks.map dN).all (fY d))) = true
  rw [List.length_map, decide_eq_true h.l1, decide_eq_true h.l3, Bool.true_and, Bool.true_and, List.all_map, List.all_eq_true]
  intro k hk
  obtain ⟨ok, _, sk⟩ := h.ok k hk
  show fY d (dN k) = true
  rw [qU ok, sk]
  rfl
theorem Qg {d : Int} {ks : List N3} (h : kd d ks) : KT d (.tuple (ks.map dN)) := by
  refine ⟨by rw [List.length_map]; have := h.l3; omega, fun _ x hx => ?_⟩
  obtain ⟨k, hk, rfl⟩ := List.mem_map.mp hx
  exact ⟨Gy, fun y e => by rw [← Fo e]; exact (h.ok k hk).2.1.mono (by decide)⟩
theorem wF (h : hV ds μ Qd) : jf { nx := fun _ μ' => Qd (.v .none) μ', rt := Qd } (aH ["d", "thing"] ds) μ := by
  obtain ⟨d, ks, rfl, hd, l1, l3, hk, q⟩ := h
  have ho : kd d ks := ⟨l1, l3, hk⟩
  unfold jf
  walk_at "rn"
  refine ⟨d, _, rfl, hd, Qg ho, ?_⟩
  rw [Iy ho]
  exact q
theorem lT {Xk : Mu → Prop} (h : u7 ds μ Xk) : dG (aH ["d", "thing"] ds) μ Xk := by
  obtain ⟨d, t, rfl, hd, kt, hf, q⟩ := h
  unfold dG
  rw [Nz]
  walk_at "rn"
  refine ⟨d, t, rfl, hd, kt, ?_⟩
  rw [hf]
  exact q
theorem Lq {d : Int} {k : N3} (hd : aF d) (ok : Ok k) (sk : sg d k.a k.b = 1) : sg d (bZ k).a (bZ k).b = sgN d k := Hl hd ok sk
def signOf (d : Int) : PyData → Option PyData
  | .tuple [.int a, .int b, .int c] => some (.int (sgN d ⟨a, b, c⟩))
  | _ => none
theorem Mv {d : Int} (ks : List N3) : (ks.map dN).filterMap (signOf d) = (ks.map (sgN d)).map .int := by
  induction ks with
  | nil => rfl
  | cons k ks ih =>
    rw [List.map_cons, List.filterMap_cons]
    show (PyData.int (sgN d k)) :: _ = _
    rw [ih]
    rfl
theorem zW (h : tY ds μ Qd) : mG { nx := fun _ μ' => Qd (.v .none) μ', rt := Qd } (aH ["d", "kinds"] ds) μ := by
  obtain ⟨d, ks, rfl, hd, ho, q⟩ := h
  unfold mG
  walk_at "rn"
  refine ⟨by rw [List.length_map]; have := ho.l3; omega, signOf d, fun x hx μ' hs => ⟨⟨trivial, trivial⟩, ?_⟩, ?_⟩
  · obtain ⟨k, hk, rfl⟩ := List.mem_map.mp hx
    obtain ⟨ok, bk, sk⟩ := ho.ok k hk
    refine ⟨k, rfl, d, bZ k, rfl, hd, (jL bk).mono (by decide), rfl, ?_⟩
    rw [Lq hd ok sk]
    rfl
  · rw [Mv]
    exact q
theorem Ae (h : yP ds μ Qd) : mB { nx := fun _ μ' => Qd (.v .none) μ', rt := Qd } (aH ["d", "kind", "other", "a", "b", "c", "other_a", "other_b", "other_c"] ds) μ := by
  obtain ⟨d, k, o, rfl, hd, ok, bk, sk, oo, bo, so, q⟩ := h
  have s5 := sM hd.1 hd.2.1
  have bl := Em s5 hd ok (bV hd ok sk) bk
  have bm := Em s5 hd oo (bV hd oo so) bo
  unfold mB
  walk_at "rn"
  refine ⟨d, k, rfl, hd, ok, bk.mono (by decide), sk, ?_⟩
  walk_at "rn"
  refine ⟨rfl, d, o, rfl, hd, oo, bo.mono (by decide), so, ?_⟩
  walk_at "rn"
  refine ⟨rfl, ?_⟩
  have sa : ∀ {n : Nat} {i : Int}, Sz n i → Sz n ((i.natAbs : Nat) : Int) := fun h => h.le (by simp)
  refine ⟨fU (sa bl.a) bm.c (by decide), fU (sa bm.a) bl.c (by decide), ?_⟩
  exact q
theorem DQ {d : Int} {ks : List N3} (v : Int) : (((ks.map (sgN d)).map PyData.int).any fun b => PyData.eqv b (.int v)) = ks.any (fun k => decide (sgN d k = v)) := by
  induction ks with
  | nil => rfl
  | cons k ks ih =>
    rw [List.map_cons, List.map_cons, List.any_cons, List.any_cons, ih]
    rfl
theorem HZ (l : List Int) : PyData.canLayAll0 (l.map PyData.int) = true := by
  induction l with
  | nil => rfl
  | cons k l ih => rw [List.map_cons]; show (PyData.canLay0 (.int k) && PyData.canLayAll0 _) = true; rw [ih]; rfl
theorem iB {ks : List N3} {i : Nat} (h : i < ks.length) : (ks.map dN)[i]? = some (dN (ks.getD i aA)) ∧ ks.getD i aA ∈ ks := by
  have e : ks[i]? = some (ks.getD i aA) := by
    rw [List.getD_eq_getElem?_getD, List.getElem?_eq_getElem h]; rfl
  exact ⟨by rw [List.getElem?_map, e]; rfl, List.mem_of_getElem? e⟩
theorem zu (h : Bj ds μ Qd) : my { nx := fun _ μ' => Qd (.v .none) μ', rt := Qd } (aH ["d", "kinds", "signs", "most", "place"] ds) μ := by
  obtain ⟨d, ks, rfl, hd, ho, q⟩ := h
  unfold my
  walk_at "rn"
  refine ⟨d, ks, rfl, hd, ho.l1, ho.l3, ho.ok, d, ks, rfl, hd, ho, ?_⟩
  walk_at "rn"
  have tail : ll d ks = false → EU (yw (ae (dC (PyData.int 1)) (ae (dCB iC (ae (af 1) ak)) ak))) (av 4)
      (eu (dB (ao yP (ae (af 0) (ae (dOp aB (af 1) (af 4)) (ae (dOp aB (af 1) (af 3)) ak))))) (bA (af 4) (av 3)) cD)
      { nx := bB (af 3) { nx := fun x μ' => Qd (D.v PyData.none) μ', rt := Qd }, rt := Qd }
      [some (D.v (PyData.int d)), some (D.v (PyData.tuple (List.map dN ks))), some (D.v (PyData.list (List.map PyData.int (List.map (sgN d) ks)))), some (D.v (PyData.int 0)), none] μ := fun hm => by
    have q' : Qd (D.v (.int (d7 d ks (ks.length - 1) : Nat))) μ := by
      have : AJ d ks = .int (d7 d ks (ks.length - 1) : Nat) := by unfold AJ; rw [hm]; rfl
      rw [this] at q; exact q
    have l1 := ho.l1
    have l3 := ho.l3
    rw [G2]
    walk_at "rn"
    rw [List.length_map]
    have hc : ∀ i, i < ks.length → 0 < (nD d (ks.getD i aA)).c := fun i hi => by
      obtain ⟨ok, _, sk⟩ := ho.ok _ (iB hi).2
      exact (D7 hd (bV hd ok sk) ok).c
    refine ⟨by omega, fun i ρ' μ' => μ' = μ ∧ ∃ r4, ρ' = [some (D.v (PyData.int d)), some (D.v (PyData.tuple (List.map dN ks))), some (D.v (PyData.list (List.map PyData.int (List.map (sgN d) ks)))), some (D.v (PyData.int (d7 d ks i : Nat))), r4], ⟨rfl, _, rfl⟩, ?_, ?_⟩
    · rintro i x ρ' μ' hx ⟨rfl, r4, rfl⟩
      obtain ⟨rfl, hi⟩ := Hv hx
      have hi' : i + 1 < ks.length := by omega
      obtain ⟨m1, m2, m3⟩ := wt hc i (by omega)
      have g1 := iB hi'
      have g2 := iB (ks := ks) (i := d7 d ks i) (by omega)
      walk_at "rn"
      rw [show (1 + (i : Int)) = ((i + 1 : Nat) : Int) by omega]
      rw [mm g1.1, mm g2.1]
      obtain ⟨o1, b1, s1⟩ := ho.ok _ g1.2
      obtain ⟨o2, b2, s2⟩ := ho.ok _ g2.2
      refine ⟨d, _, _, rfl, hd, o1, b1, s1, o2, b2, s2, ?_⟩
      walk_at "rn"
      by_cases g : gtL d (ks.getD (i + 1) aA) (ks.getD (d7 d ks i) aA)
      · rw [if_pos (by simpa using g)]
        have em : d7 d ks (i + 1) = i + 1 := by show (if _ then _ else _) = _; rw [if_pos g]
        exact ⟨trivial, _, by rw [em]⟩
      · rw [if_neg (by simpa using g)]
        have em : d7 d ks (i + 1) = d7 d ks i := by show (if _ then _ else _) = _; rw [if_neg g]
        exact ⟨trivial, _, by rw [em]⟩
    · rintro ρ' μ' ⟨rfl, r4, rfl⟩
      rw [Kq]
      walk_at "rn"
      rw [show (((ks.length : Nat) : Int) - 1).toNat = ks.length - 1 by omega]
      exact q'
  have l1 := HZ (ks.map (sgN d))
  refine ⟨l1, rfl, by decide, ?_⟩
  rw [DQ]
  cases e1 : ks.any (fun k => decide (sgN d k = 1)) with
  | false =>
    simp only [Bool.false_eq_true, ↓reduceIte]
    exact tail (by unfold ll; rw [e1]; rfl)
  | true =>
    simp only [↓reduceIte]
    refine ⟨l1, rfl, by decide, ?_⟩
    rw [DQ]
    cases e2 : ks.any (fun k => decide (sgN d k = -1)) with
    | false =>
      simp only [Bool.false_eq_true, ↓reduceIte]
      exact tail (by unfold ll; rw [e1, e2]; rfl)
    | true =>
      simp only [↓reduceIte]
      have : AJ d ks = .none := by unfold AJ ll; rw [e1, e2]; rfl
      rw [this] at q
      exact q
theorem GV {α : Type} (xs : List α) (lo hi : Option Int) : (oS xs lo hi).length ≤ xs.length := by
  unfold oS
  rw [List.length_take, List.length_drop]
  omega
theorem G1 {xs : List PyData} {lo hi : Option Int} {x : PyData} (h : x ∈ oS xs lo hi) : x ∈ xs := by
  unfold oS at h
  exact List.mem_of_mem_drop (List.mem_of_mem_take h)
theorem Gz {d : Int} {ks : List N3} (ho : KindsOk d ks) {x : PyData} (h : x ∈ ks.map dN) : NV d x := by
  obtain ⟨k, hk, rfl⟩ := List.mem_map.mp h
  exact ⟨Gy, fun y e => by rw [← Fo e]; exact (ho.ok k hk).2.1.mono (by decide)⟩
theorem J2 {d : Int} {xs : List PyData} (h : 3 < xs.length) (h2 : xs.length ≤ 1000) : KT d (.tuple xs) ∧ sX d (.tuple xs) = false := by
  refine ⟨⟨h2, fun z => absurd z (by omega)⟩, ?_⟩
  show (decide (1 ≤ xs.length) && (decide (xs.length ≤ 3) && xs.all (fY d))) = false
  rw [decide_eq_false (show ¬ xs.length ≤ 3 by omega), Bool.false_and, Bool.and_false]
theorem RB {ks : List PyData} {r : Int} (l1 : 1 ≤ ks.length) (l3 : ks.length ≤ 3) (r0 : 0 ≤ r) (r1 : r < (ks.length : Nat)) : 3 < (oS (ks ++ ks ++ ks ++ ks) none (some (4 + r))).length := by
  have hr : r = 0 ∨ r = 1 ∨ r = 2 := by omega
  match ks, l1, l3 with
  | [a], _, _ => rcases hr with rfl | rfl | rfl <;> first | (simp at r1; done) | exact (by decide : 3 < 4)
  | [a, b], _, _ => rcases hr with rfl | rfl | rfl <;> first | (simp at r1; done) | exact (by decide : 3 < 4) | exact (by decide : 3 < 5)
  | [a, b, c], _, _ => rcases hr with rfl | rfl | rfl <;> first | exact (by decide : 3 < 4) | exact (by decide : 3 < 5) | exact (by decide : 3 < 6)
theorem u6 (h : oj ds μ Qd) : iI { nx := fun _ μ' => Qd (.v .none) μ', rt := Qd } (aH ["_law_bag_here", "_law_d", "_law_kinds_here", "_law_at", "_law_way"] ds) μ := by
  obtain ⟨a, d, ks, rfl, hd, ho, hb, q⟩ := h
  have l1 := ho.l1
  have l3 := ho.l3
  unfold iI
  walk_at "rn"
  rw [List.length_map]
  refine ⟨a, _, rfl, by omega, by omega, hb, fun r μ1 r0 r1 s1 => ?_⟩
  walk_at "rn"
  refine ⟨a, 8, rfl, by decide, by decide, s1.1, fun w μ2 w0 w1 s2 => ?_⟩
  walk_at "rn"
  by_cases hw : w < 5
  · rw [if_pos (by simpa using hw)]
    refine ⟨a, d, rfl, hd, s2.1, fun t μ3 t1 t2 t3 s3 => ?_⟩
    walk_at "rn"
    have L : ∀ lo hi : Option Int, (oS (List.map dN ks) lo hi).length ≤ 3 := fun lo hi => Nat.le_trans (GV _ lo hi) (by rw [List.length_map]; exact l3)
    have c1 := L none (some r)
    have c2 := L (some (r + 1)) none
    refine ⟨by omega, by simp; omega, ?_⟩
    refine q _ _ ⟨by simp; omega, fun _ x hx => ?_⟩ ?_ (s1.trans (s2.trans s3))
    · rcases List.mem_append.mp hx with hx | hx
      · rcases List.mem_append.mp hx with hx | hx
        · exact Gz ho (G1 hx)
        · cases List.mem_singleton.mp hx
          exact ⟨t1, t2⟩
      · exact Gz ho (G1 hx)
    · have e : (oS (List.map dN ks) none (some r) ++ [t] ++ oS (List.map dN ks) (some (r + 1)) none).all (fY d) = false := by
        rw [List.all_append, List.all_append]
        show ((_ && (fY d t && true)) && _) = false
        rw [t3, Bool.false_and, Bool.and_false, Bool.false_and]
      show (_ && (_ && _)) = false
      rw [e, Bool.and_false, Bool.and_false]
  · rw [if_neg (by simpa using hw)]
    have e4 : (List.map dN ks ++ List.map dN ks ++ List.map dN ks ++ List.map dN ks).length ≤ 12 := by simp; omega
    have b4 := J2 (d := d) (RB (ks := List.map dN ks) (r := r) (by rw [List.length_map]; exact l1) (by rw [List.length_map]; exact l3) r0 (by rw [List.length_map]; exact r1)) (Nat.le_trans (GV _ none (some (4 + r))) (by omega))
    refine ⟨by omega, by simp; omega, by simp; omega, ?_⟩
    have hw3 : w = 5 ∨ w = 6 ∨ w = 7 := by omega
    rcases hw3 with rfl | rfl | rfl
    · exact q _ _ ⟨by decide, fun _ x hx => nomatch hx⟩ rfl (s1.trans s2)
    · exact q _ _ b4.1 b4.2 (s1.trans s2)
    · exact q _ _ trivial rfl (s1.trans s2)
theorem zA (h : lr ds μ Qd) : mw { nx := fun _ μ' => Qd (.v .none) μ', rt := Qd } (aH ["share", "plan"] ds) μ := by
  obtain ⟨x, P, rfl, q⟩ := h
  unfold mw
  walk_at "rn"
  unfold wK at q
  by_cases c : x = one
  · rw [if_pos c] at q
    rw [if_pos (by simpa [one] using c)]
    exact q
  · rw [if_neg c] at q
    rw [if_neg (by simpa [one] using c)]
    exact q
theorem ua (h : qe ds μ Qd) : ir { nx := fun _ μ' => Qd (.v .none) μ', rt := Qd } (aH ["u", "first", "v", "second"] ds) μ := by
  obtain ⟨u, v, F, S, rfl, q⟩ := h
  unfold ir
  walk_at "rn"
  unfold Er at q
  by_cases c : v = aA
  · rw [if_pos c] at q
    rw [if_pos (by simpa [aA] using c)]
    exact ⟨u, F, rfl, q⟩
  · rw [if_neg c] at q
    rw [if_neg (by simpa [aA] using c)]
    by_cases c2 : u = aA
    · rw [if_pos c2] at q
      rw [if_pos (by simpa [aA] using c2)]
      exact ⟨v, S, rfl, q⟩
    · rw [if_neg c2] at q
      rw [if_neg (by simpa [aA] using c2)]
      refine ⟨u, F, rfl, ?_⟩
      walk_at "rn"
      refine ⟨v, S, rfl, ?_⟩
      walk_at "rn"
      exact q
theorem tj (h : qY ds μ Qd) : gK { nx := fun _ μ' => Qd (.v .none) μ', rt := Qd } (aH ["u", "v", "place", "kind"] ds) μ := by
  obtain ⟨u, v, i, rfl, q⟩ := h
  unfold gK
  walk_at "rn"
  exact ⟨u, v, _, _, rfl, q⟩
end
open PySem PySem.Spec PyProof.Rows NM
def grB (x : N3) : Bool := decide (x.a * x.b < 0)
def ue : DSp := fun ds μ Q => ∃ x : N3, ds = [.v (dN x)] ∧ Bd 4000 x ∧ Q (.v (.bool (grB x))) μ
theorem Ej {μ : Mu} {Q : DK} {ds : List D} (h : ue ds μ Q) : ds.length = 1 := by obtain ⟨_, rfl, _⟩ := h; rfl
def grN (d : Int) (k : N3) : N3 := if grB (az d k) = true then az d k else k
def grP (d : Int) (k : N3) (i : Int) : PyData := if grB (az d k) = true then Jk i else Hf i
def nF : DSp := fun ds μ Q => ∃ (d : Int) (ks : List N3) (i : Nat), ds = [.v (.int d), .v (.tuple (ks.map dN)), .v (.int i)] ∧ aF d ∧ kd d ks ∧ i < ks.length ∧ Q (.v (.tuple [dN (grN d (ks.getD i aA)), grP d (ks.getD i aA) i])) μ
theorem Aj {μ : Mu} {Q : DK} {ds : List D} (h : nF ds μ Q) : ds.length = 3 := by obtain ⟨_, _, _, rfl, _⟩ := h; rfl
def iOf (d : Int) (ks : List N3) (v : Int) : Nat := (yj v (ks.map (sgN d))).getD 0
def Ji (d : Int) (ks : List N3) (s : N3) : PyData := Er (QM d (grN d (ks.getD (iOf d ks 1) aA)) (grN d (ks.getD (iOf d ks (-1)) aA)) (if grB s = true then az d s else s)) (HX d (grN d (ks.getD (iOf d ks 1) aA)) (grN d (ks.getD (iOf d ks (-1)) aA)) (if grB s = true then az d s else s)) (grP d (ks.getD (iOf d ks 1) aA) (iOf d ks 1 : Nat)) (grP d (ks.getD (iOf d ks (-1)) aA) (iOf d ks (-1) : Nat))
def Ky (d : Int) (ks : List N3) (s : N3) : PyData := if grB s = true then .tuple [.str "turn", Ji d ks s] else Ji d ks s
def CG : DSp := fun ds μ Q => ∃ (d : Int) (ks : List N3) (s : N3), ds = [.v (.int d), .v (.tuple (ks.map dN)), .v (dN s)] ∧ aF d ∧ kd d ks ∧ ll d ks = true ∧ Ok s ∧ Bd 700 s ∧ sg d s.a s.b = 1 ∧ Q (.v (Ky d ks s)) μ
theorem Fn {μ : Mu} {Q : DK} {ds : List D} (h : CG ds μ Q) : ds.length = 3 := by obtain ⟨_, _, _, rfl, _⟩ := h; rfl
def EC (d : Int) (ks : List N3) : Nat := d7 d ks (ks.length - 1)
def u4 (d : Int) (ks : List N3) : N3 := ks.getD (EC d ks) aA
def wV (d : Int) (ks : List N3) (s : N3) : Bool := ll d ks || i5 d (u4 d ks) s
def Hn (d : Int) (ks : List N3) (s : N3) : PyData :=
  if ll d ks = true then .tuple [.str "plan", Ky d ks s]
  else if i5 d (u4 d ks) s = true then .tuple [.str "plan", Er (xi d (u4 d ks) s) (xm d (u4 d ks) s) (Hf (EC d ks : Nat)) (Jk (EC d ks : Nat))]
  else .tuple [.str "bar", Mi d (u4 d ks) s]
def yG : DSp := fun ds μ Q => ∃ (d : Int) (ks : List N3) (s : N3), ds = [.v (.int d), .v (.tuple (ks.map dN)), .v (dN s)] ∧ aF d ∧ kd d ks ∧ Ok s ∧ Bd 700 s ∧ sg d s.a s.b = 1 ∧ Q (.v (Hn d ks s)) μ
theorem ES {μ : Mu} {Q : DK} {ds : List D} (h : yG ds μ Q) : ds.length = 3 := by obtain ⟨_, _, _, rfl, _⟩ := h; rfl
def kW : DSp := fun ds μ Q => ∃ (d : Int) (ks : List N3) (s : N3), ds = [.v (.int d), .v (.tuple (ks.map dN)), .v (dN s)] ∧ aF d ∧ kd d ks ∧ Ok s ∧ Bd 700 s ∧ sg d s.a s.b = 1 ∧ Q (.v (.bool (wV d ks s))) μ
theorem Fs {μ : Mu} {Q : DK} {ds : List D} (h : kW ds μ Q) : ds.length = 3 := by obtain ⟨_, _, _, rfl, _⟩ := h; rfl
def dQ : XSp := fun ds μ Xk => ∃ (d : Int) (t u : PyData), ds = [.v (.int d), .v t, .v u] ∧ aF d ∧ KT d t ∧ sX d t = false ∧ Xk μ
theorem rY {ds : List D} {μ : Mu} {Xk : Mu → Prop} (h : dQ ds μ Xk) : ds.length = 3 := by obtain ⟨_, _, _, rfl, _⟩ := h; rfl
def gq : XSp := fun ds μ Xk => ∃ (d : Int) (ks : List N3) (u : PyData), ds = [.v (.int d), .v (.tuple (ks.map dN)), .v u] ∧ aF d ∧ kd d ks ∧ Jm d u ∧ Xk μ
theorem sG {ds : List D} {μ : Mu} {Xk : Mu → Prop} (h : gq ds μ Xk) : ds.length = 3 := by obtain ⟨_, _, _, rfl, _⟩ := h; rfl
def fW : DTS :=
  (bB (dOp rLt (cb (dOp aB (af 0) (dC (.int 0))) (dOp aB (af 0) (dC (.int 1)))) (dC (.int 0))))
def fm : DTS :=
  (aL (bA (dOp aB (af 1) (af 2)) (av 3))
  (aL (bA (bE (ae (dC (.str "kind")) (ae (af 2) ak))) (av 4))
  (aL (eu (dB (ao ue (ae (ao cW (ae (af 0) (ae (af 3) ak))) ak))) (bB (bE (ae (ao cW (ae (af 0) (ae (af 3) ak))) (ae (bE (ae (dC (.str "turn")) (ae (af 4) ak))) ak)))) cD)
  (bB (bE (ae (af 3) (ae (af 4) ak)))))))
def j9 : DTS :=
  (aL (bA (ao tY (ae (af 0) (ae (af 1) ak))) (av 3))
  (aL (bA (ao nF (ae (af 0) (ae (af 1) (ae (Cz (af 3) (dC (.int 1))) ak)))) (mW 2 (cV (av 4) (cV (av 5) pJ))))
  (aL (bA (ao nF (ae (af 0) (ae (af 1) (ae (Cz (af 3) (vR (dC (.int 1)))) ak)))) (mW 2 (cV (av 6) (cV (av 7) pJ))))
  (aL (bA (ao ue (ae (af 2) ak)) (av 8))
  (aL (bA (ao p7 (ae (af 0) (ae (af 4) (ae (af 6) (ae (dIf (dB (af 8)) (ao cW (ae (af 0) (ae (af 2) ak))) (af 2)) ak))))) (mW 2 (cV (av 9) (cV (av 10) pJ))))
  (aL (bA (ao qe (ae (af 9) (ae (af 5) (ae (af 10) (ae (af 7) ak))))) (av 11))
  (bB (dIf (dB (af 8)) (bE (ae (dC (.str "turn")) (ae (af 11) ak))) (af 11)))))))))
def oI : DTS :=
  (aL (sh (ao hV (ae (af 0) (ae (af 1) ak))))
  (aL (sh (ao ff (ae (af 0) (ae (af 2) ak))))
  (aL (bA (ao Bj (ae (af 0) (ae (af 1) ak))) (av 3))
  (aL (eu (dB (dOp CV (af 3) (dC .none))) (bB (bE (ae (dC (.str "plan")) (ae (ao CG (ae (af 0) (ae (af 1) (ae (af 2) ak)))) ak)))) cD)
  (aL (bA (ao rK (ae (af 0) (ae (dOp aB (af 1) (af 3)) (ae (af 2) ak)))) (av 4))
  (aL (eu (dB (dOp (fe false) (dOp aB (af 4) (dC (.int 0))) (dC (.str "bar")))) (bB (af 4)) cD)
  (bB (bE (ae (dC (.str "plan")) (ae (ao qY (ae (dOp aB (af 4) (dC (.int 1))) (ae (dOp aB (af 4) (dC (.int 2))) (ae (af 3) ak)))) ak))))))))))
def sQ : DTS :=
  (bB (dOp (fe false) (dOp aB (ao yG (ae (af 0) (ae (af 1) (ae (af 2) ak)))) (dC (.int 0))) (dC (.str "plan"))))
def eS : DTX :=
  (pL u7 (ae (af 0) (ae (af 1) ak)))
def eD : DTX :=
  (PJ (sh (ao hV (ae (af 0) (ae (af 1) ak))))
  (pL qX (ae (af 0) (ae (af 2) ak))))
def gf : DTX :=
  (pL dQ (ae (af 0) (ae (af 1) (ae (af 2) ak))))
def fq : DTX :=
  (pL gq (ae (af 0) (ae (af 1) (ae (af 2) ak))))
section
variable {μ : Mu} {Qd : DK} {ds : List D}
theorem rO (h : ue ds μ Qd) : fW { nx := fun _ μ' => Qd (.v .none) μ', rt := Qd } (aH ["shape"] ds) μ := by
  obtain ⟨x, rfl, bx, q⟩ := h
  unfold fW
  walk_at "rn"
  exact ⟨fU bx.a bx.b (by decide), q⟩
theorem qF (h : nF ds μ Qd) : fm { nx := fun _ μ' => Qd (.v .none) μ', rt := Qd } (aH ["d", "kinds", "place", "kind", "plan"] ds) μ := by
  obtain ⟨d, ks, i, rfl, hd, ho, hi, q⟩ := h
  have s5 := sM hd.1 hd.2.1
  obtain ⟨e1, hk⟩ := iB hi
  obtain ⟨ok, bk, sk⟩ := ho.ok _ hk
  have nk := bV hd ok sk
  have bc := cC s5 nk bk
  unfold fm
  walk_at "rn"
  rw [mm e1]
  walk_at "rn"
  refine ⟨d, _, rfl, s5, nk, bk.mono (by decide), _, rfl, bc.mono (by decide), ?_⟩
  unfold grN grP at q
  cases e : grB (az d (ks.getD i aA)) with
  | true =>
    rw [e, if_pos rfl, if_pos rfl] at q
    simp only [↓reduceIte]
    exact ⟨d, _, rfl, s5, nk, bk.mono (by decide), q⟩
  | false =>
    rw [e, if_neg (by decide), if_neg (by decide)] at q
    simp only [Bool.false_eq_true, ↓reduceIte]
    exact q
theorem En {v : Int} : ∀ {l : List Int}, v ∈ l → ∃ j, yj v l = some j ∧ j < l.length ∧ l[j]? = some v
  | [], h => nomatch h
  | x :: r, h => by
    unfold yj
    by_cases e : x = v
    · rw [if_pos e]
      exact ⟨0, rfl, Nat.succ_pos _, by rw [e]; rfl⟩
    · rw [if_neg e]
      have h' : v ∈ r := (List.mem_cons.mp h).resolve_left (fun z => e z.symm)
      obtain ⟨j, h1, h2, h3⟩ := En h'
      exact ⟨j + 1, by rw [h1]; rfl, Nat.succ_lt_succ h2, h3⟩
theorem Du {d : Int} {ks : List N3} {v : Int} (h : ks.any (fun k => decide (sgN d k = v)) = true) : yj v (ks.map (sgN d)) = some (iOf d ks v) ∧ iOf d ks v < ks.length ∧ sgN d (ks.getD (iOf d ks v) aA) = v := by
  obtain ⟨k, hk, hv⟩ := List.any_eq_true.mp h
  have hv' : sgN d k = v := by simpa using hv
  obtain ⟨j, h1, h2, h3⟩ := En (l := ks.map (sgN d)) (v := v) (by rw [← hv']; exact List.mem_map_of_mem hk)
  have e : iOf d ks v = j := by unfold iOf; rw [h1]; rfl
  rw [List.length_map] at h2
  refine ⟨by rw [e]; exact h1, by rw [e]; exact h2, ?_⟩
  rw [e]
  rw [List.getElem?_map] at h3
  obtain ⟨g1, g2⟩ := iB h2
  have g3 : ks[j]? = some (ks.getD j aA) := by rw [List.getD_eq_getElem?_getD, List.getElem?_eq_getElem h2]; rfl
  rw [g3] at h3
  exact Option.some.inj h3
theorem Ci {d : Int} {k : N3} (ok : Ok k) (nk : norm d k ≠ 0) : (0 < norm d (az d k) ↔ 0 < norm d k) ∧ (norm d (az d k) < 0 ↔ norm d k < 0) := JI (Bt ok nk)
structure RS (d : Int) (k : N3) : Prop where
  ok : Ok (grN d k)
  bd : Bd 266 (grN d k)
  sg : NM.sg d (grN d k).a (grN d k).b = 1
  pos : 0 < norm d (grN d k) ↔ 0 < norm d k
  neg : norm d (grN d k) < 0 ↔ norm d k < 0
theorem NF {d : Int} {k : N3} (hd : aF d) (ok : Ok k) (bk : Bd 130 k) (sk : sg d k.a k.b = 1) : RS d k := by
  have s5 := sM hd.1 hd.2.1
  have nk := bV hd ok sk
  have n := Ci ok nk
  by_cases e : grB (az d k) = true
  · have eg : grN d k = az d k := if_pos e
    exact ⟨by rw [eg]; exact aK nk, by rw [eg]; exact cC s5 nk bk, by rw [eg]; exact me hd ok sk, by rw [eg]; exact n.1, by rw [eg]; exact n.2⟩
  · have eg : grN d k = k := if_neg e
    exact ⟨by rw [eg]; exact ok, by rw [eg]; exact bk.mono (by decide), by rw [eg]; exact sk, by rw [eg], by rw [eg]⟩
theorem unlike {d : Int} {f g : N3} (hd : aF d) (of : Ok f) (og : Ok g) (hf : 0 < norm d f) (hg : norm d g < 0) : (shA d f g).b ≠ 0 := fun z => by
  have nf : norm d f ≠ 0 := by omega
  have r := G3 of og nf (aP of) (aP og)
  have h := (yM r (lL og nf)).mp z
  have h2 := (Int.mul_eq_zero.mp h).resolve_left of.cn
  have h3 : g.b * f.a = g.a * f.b := by omega
  have e : norm d g * (f.a * f.a) = g.a * g.a * norm d f := by
    unfold norm
    have : (g.a * g.a - d * g.b * g.b) * (f.a * f.a) = g.a * g.a * (f.a * f.a) - d * ((g.b * f.a) * (g.b * f.a)) := by grind
    rw [this, h3]
    grind
  have fa : f.a ≠ 0 := fun z => by
    have h0 : norm d f = f.a * f.a - d * f.b * f.b := rfl
    have h1 := dsq (d := d) (b := f.b) (by have := hd.1; omega)
    rw [z] at h0
    omega
  have h5 := sq_pos fa
  have h6 := Int.mul_neg_of_neg_of_pos hg h5
  have h7 := Int.mul_nonneg (sq_nonneg g.a) (Int.le_of_lt hf)
  omega
theorem L0 {d : Int} {k : N3} (h : sgN d k = 1) : 0 < norm d k := by
  unfold sgN at h
  rw [vL] at h
  split at h
  · cases h
  · split at h
    · assumption
    · cases h
theorem MM {d : Int} {k : N3} (h : sgN d k = -1) : norm d k < 0 := by
  unfold sgN at h
  rw [vL] at h
  split at h
  · cases h
  · split at h
    · cases h
    · omega
theorem xw (h : CG ds μ Qd) : j9 { nx := fun _ μ' => Qd (.v .none) μ', rt := Qd } (aH ["d", "kinds", "shape", "signs", "first", "first_plan", "second", "second_plan", "is_contrary", "u", "v", "plan"] ds) μ := by
  obtain ⟨d, ks, s, rfl, hd, ho, hm, os, bs, hs, q⟩ := h
  have s5 := sM hd.1 hd.2.1
  have ns := bV hd os hs
  unfold ll at hm
  rw [Bool.and_eq_true] at hm
  obtain ⟨i1, i2, i3⟩ := Du hm.1
  obtain ⟨j1, j2, j3⟩ := Du hm.2
  obtain ⟨ok1, bk1, sk1⟩ := ho.ok _ (iB i2).2
  obtain ⟨ok2, bk2, sk2⟩ := ho.ok _ (iB j2).2
  have g1 := NF hd ok1 bk1 sk1
  have g2 := NF hd ok2 bk2 sk2
  have un := unlike hd g1.ok g2.ok (g1.pos.mpr (L0 i3)) (g2.neg.mpr (MM j3))
  unfold j9
  walk_at "rn"
  refine ⟨d, ks, rfl, hd, ho, ?_⟩
  walk_at "rn"
  rw [GG]
  walk_at "rn"
  refine ⟨_, _, rfl, i1, d, ks, _, rfl, hd, ho, i2, ?_⟩
  walk_at "rn"
  refine ⟨trivial, ?_⟩
  rw [GG]
  walk_at "rn"
  refine ⟨_, _, rfl, j1, d, ks, _, rfl, hd, ho, j2, ?_⟩
  walk_at "rn"
  refine ⟨trivial, s, rfl, bs.mono (by decide), ?_⟩
  unfold Ky Ji at q
  cases e : grB s with
  | true =>
    rw [e, if_pos rfl, if_pos rfl] at q
    walk_at "rn"
    refine ⟨d, s, rfl, s5, ns, bs.mono (by decide), d, _, _, _, rfl, hd, g1.ok, jw g1.sg, g2.ok, aK ns, ⟨266, 266, 2 * 700 + 6, g1.bd, g2.bd, cC s5 ns bs, by decide, by decide, by decide, by decide⟩, un, ?_⟩
    walk_at "rn"
    refine ⟨trivial, _, _, _, _, rfl, ?_⟩
    exact q
  | false =>
    rw [e, if_neg (by decide), if_neg (by decide)] at q
    walk_at "rn"
    refine ⟨d, _, _, _, rfl, hd, g1.ok, jw g1.sg, g2.ok, os, ⟨266, 266, 700, g1.bd, g2.bd, bs, by decide, by decide, by decide, by decide⟩, un, ?_⟩
    walk_at "rn"
    refine ⟨trivial, _, _, _, _, rfl, ?_⟩
    exact q
theorem A6 : SeqAt.shaped (.str "plan") = true := by decide +kernel
theorem xU : SeqAt.shaped (.str "bar") = true := by decide +kernel
theorem Om : SeqAt.shaped (.str "mixture") = true := by decide +kernel
theorem BH {a b : Str} {neg : Bool} {μ : Mu} {Q : DK} (ha : SeqAt.shaped (.str a) = true) (hb : SeqAt.shaped (.str b) = true) : fe neg (.v (.str a)) (.v (.str b)) μ Q = Q (.v (.bool (neg ^^ decide (a = b)))) μ := by
  rw [HA]
  have e : PyData.eqv (.str a) (.str b) = decide (a = b) := by simp [PyData.eqv]; rfl
  rw [e]
  exact propext ⟨fun h => h.2.2, fun h => ⟨ha, hb, h⟩⟩
theorem JR {d : Int} {ks : List N3} (hd : aF d) (ho : kd d ks) : EC d ks < ks.length := by
  have l1 := ho.l1
  have hc : ∀ i, i < ks.length → 0 < (nD d (ks.getD i aA)).c := fun i hi => by
    obtain ⟨ok, _, sk⟩ := ho.ok _ (iB hi).2
    exact (D7 hd (bV hd ok sk) ok).c
  have := (wt hc (ks.length - 1) (by omega)).1
  unfold EC
  omega
theorem BO (h : yG ds μ Qd) : oI { nx := fun _ μ' => Qd (.v .none) μ', rt := Qd } (aH ["d", "kinds", "shape", "place", "told"] ds) μ := by
  obtain ⟨d, ks, s, rfl, hd, ho, os, bs, hs, q⟩ := h
  unfold oI
  walk_at "rn"
  refine ⟨d, ks, rfl, hd, ho.l1, ho.l3, ho.ok, d, s, rfl, hd, os, bs.mono (by decide), hs, d, ks, rfl, hd, ho, ?_⟩
  unfold Hn at q
  unfold AJ
  cases hm : ll d ks with
  | true =>
    rw [hm, if_pos rfl] at q
    rw [if_pos rfl]
    rw [Jd]
    simp only [↓reduceIte]
    exact ⟨d, ks, s, rfl, hd, ho, hm, os, bs, hs, q⟩
  | false =>
    rw [hm, if_neg (by decide)] at q
    rw [if_neg (by decide)]
    have hlt := JR hd ho
    obtain ⟨e1, hk⟩ := iB hlt
    obtain ⟨ok, bk, sk⟩ := ho.ok _ hk
    walk_at "rn"
    rw [Mp]
    simp only [Bool.false_eq_true, ↓reduceIte]
    have e2 : atI (ks.map dN) ((d7 d ks (ks.length - 1) : Nat) : Int) = some (dN (u4 d ks)) := mm e1
    rw [e2]
    refine ⟨d, u4 d ks, s, rfl, hd, ok, bk.mono (by decide), sk, os, bs.mono (by decide), hs, ?_⟩
    unfold L7
    cases hx : i5 d (u4 d ks) s with
    | true =>
      rw [hx, if_pos rfl] at q
      rw [if_pos rfl]
      walk_at "rn"
      rw [BH Om xU]
      simp only [show decide (("mixture" : Str) = "bar") = false from by decide, Bool.xor_false, Bool.false_eq_true, ↓reduceIte]
      exact ⟨_, _, _, rfl, q⟩
    | false =>
      rw [hx, if_neg (by decide)] at q
      rw [if_neg (by decide)]
      walk_at "rn"
      rw [BH xU xU]
      simp only [decide_true, Bool.false_xor, ↓reduceIte]
      exact q
theorem Lz {d : Int} {ks : List N3} {s : N3} {Q : DK} : (aB (.v (Hn d ks s)) (.v (.int 0)) μ Q) = Q (.v (.str (if wV d ks s = true then "plan" else "bar"))) μ := by
  unfold Hn wV
  cases ll d ks
  · cases i5 d (u4 d ks) s <;> rfl
  · rfl
theorem Gf (h : kW ds μ Qd) : sQ { nx := fun _ μ' => Qd (.v .none) μ', rt := Qd } (aH ["d", "kinds", "shape"] ds) μ := by
  obtain ⟨d, ks, s, rfl, hd, ho, os, bs, hs, q⟩ := h
  unfold sQ
  walk_at "rn"
  refine ⟨d, ks, s, rfl, hd, ho, os, bs, hs, ?_⟩
  dsimp only
  rw [Lz]
  cases e : wV d ks s with
  | true =>
    rw [e] at q
    rw [if_pos rfl, BH A6 A6]
    exact q
  | false =>
    rw [e] at q
    rw [if_neg (by decide), BH xU A6]
    exact q
theorem pT {Xk : Mu → Prop} (h : dQ ds μ Xk) : eS (aH ["d", "kinds", "shape", "place", "told"] ds) μ Xk := by
  obtain ⟨d, t, u, rfl, z⟩ := h
  unfold eS
  rw [xE]
  walk_at "rn"
  exact ⟨d, t, rfl, z⟩
theorem oO {Xk : Mu → Prop} (h : gq ds μ Xk) : eD (aH ["d", "kinds", "shape", "place", "told"] ds) μ Xk := by
  obtain ⟨d, ks, u, rfl, hd, ho, ⟨b1, b2, b3⟩, q⟩ := h
  unfold eD
  rw [NX]
  walk_at "rn"
  refine ⟨d, ks, rfl, hd, ho.l1, ho.l3, ho.ok, ?_⟩
  dsimp only
  rw [xE]
  walk_at "rn"
  exact ⟨d, u, rfl, hd, b1, b2, b3, q⟩
theorem rT {Xk : Mu → Prop} (h : dQ ds μ Xk) : gf (aH ["d", "kinds", "shape"] ds) μ Xk := by
  obtain ⟨d, t, u, rfl, z⟩ := h
  unfold gf
  rw [xE]
  walk_at "rn"
  exact ⟨d, t, u, rfl, z⟩
theorem qK {Xk : Mu → Prop} (h : gq ds μ Xk) : fq (aH ["d", "kinds", "shape"] ds) μ Xk := by
  obtain ⟨d, ks, u, rfl, z⟩ := h
  unfold fq
  rw [xE]
  walk_at "rn"
  exact ⟨d, ks, u, rfl, z⟩
end
open PySem PySem.Spec PyProof.Rows NM
def qJ : DSp := fun ds μ Q => ∃ (a : Addr) (d : Int) (ks : List N3) (s : N3), ds = [.m a, .v (.int d), .v (.tuple (ks.map dN)), .v (dN s)] ∧ aF d ∧ KindsOk d ks ∧ Ok s ∧ Bd 230 s ∧ sg d s.a s.b = 1 ∧ Bag μ a ∧ ∀ μ', Step a μ μ' → Q (.v (.bool true)) μ'
theorem AV {μ : Mu} {Q : DK} {ds : List D} (h : qJ ds μ Q) : ds.length = 4 := by obtain ⟨_, _, _, _, rfl, _⟩ := h; rfl
def gg (P0 : PQ) (P1 : PQ) (P2 : PQ) (P3 : PQ) (P4 : PQ) (P5 : PQ) (P6 : PQ) : DTS :=
  (aL (bA (bE (ae (ao oj (ae (af 0) (ae (af 1) (ae (af 2) ak)))) (ae (ao lC (ae (af 0) (ae (af 1) ak))) ak))) (mW 2 (cV (av 4) (cV (av 5) pJ))))
  (aL (bA (Li (ae (vD (ae (dC (.str "NoKinds")) (ae (dKq P0) ak))) (ae (vD (ae (dC (.str "NoKinds")) (ae (dKq P1) ak))) (ae (vD (ae (dC (.str "NoNumber")) (ae (dKq P2) ak))) (ae (vD (ae (dC (.str "NoKinds")) (ae (dKq P3) ak))) (ae (vD (ae (dC (.str "NoKinds")) (ae (dKq P4) ak))) (ae (vD (ae (dC (.str "NoNumber")) (ae (dKq P5) ak))) (ae (vD (ae (dC .none) (ae (dKq P6) ak))) ak)))))))) (av 6))
  (bB (dCB yf (ae (Co [none, none] (af 6) (Jh 2 (yX (av 0) (yX (av 1) JS))) (fun ρo G => (dOp (fe false) (Gu ρo G 2 1 [⟨P0, [some 1, some 4, some 3], (pL dQ (ae (af 0) (ae (af 1) (ae (af 2) ak)))), .str "NoKinds"⟩, ⟨P1, [some 1, some 4, some 5], (pL dQ (ae (af 0) (ae (af 1) (ae (af 2) ak)))), .str "NoKinds"⟩, ⟨P2, [some 1, some 2, some 5], (pL gq (ae (af 0) (ae (af 1) (ae (af 2) ak)))), .str "NoNumber"⟩, ⟨P3, [some 1, some 4, some 3], (pL dQ (ae (af 0) (ae (af 1) (ae (af 2) ak)))), .str "NoKinds"⟩, ⟨P4, [some 1, some 4, some 5], (pL dQ (ae (af 0) (ae (af 1) (ae (af 2) ak)))), .str "NoKinds"⟩, ⟨P5, [some 1, some 2, some 5], (pL gq (ae (af 0) (ae (af 1) (ae (af 2) ak)))), .str "NoNumber"⟩, ⟨P6, [some 1, some 2, some 3], Qh (ao kW (ae (af 0) (ae (af 1) (ae (af 2) ak)))), .none⟩]) (af 0)))) ak)))))
def Fi : DTS :=
  (aL (EU (yz (ae (dCB (FG max) (ae (dC (.int 2)) (ae (dCB (FG min) (ae (dC (.int 6)) (ae (dCB iC (ae (af 0) ak)) ak))) ak))) ak)) (av 1) (aL (bA (ao HP (ae (af 0) (ae (af 1) ak))) (av 2))
  (aL (bA (ao xJ (ae (af 2) ak)) (av 3))
  (aL (zC 4 5 (ae (ao qk (ae (af 2) (ae (af 3) ak))) (ae (ao qk (ae (af 2) (ae (af 3) ak))) ak)))
  (aL (zC 6 7 (ae (ao qV (ae (af 2) (ae (af 3) (ae (af 4) ak)))) (ae (ao qV (ae (af 2) (ae (af 3) (ae (af 5) ak)))) ak)))
  (aL (bA (j4 (ae (ao kW (ae (af 3) (ae (af 4) (ae (af 6) ak)))) (ae (ao kW (ae (af 3) (ae (af 5) (ae (af 7) ak)))) (ae (ao kW (ae (af 3) (ae (af 4) (ae (af 7) ak)))) ak)))) (av 8))
  (aL (EU (yz (ae (dC (.int 3)) ak)) (av 9) (eu (EN (nH (dB (ao qJ (ae (af 2) (ae (af 3) (ae (af 4) (ae (af 6) ak))))))) (nH (dB (ao qJ (ae (af 2) (ae (af 3) (ae (af 5) (ae (af 7) ak)))))))) (bB (dC (.bool false))) cD))
  (aL (eu (dB (dOp (fe true) (af 8) (j4 (ae (ao kW (ae (af 3) (ae (af 4) (ae (af 6) ak)))) (ae (ao kW (ae (af 3) (ae (af 5) (ae (af 7) ak)))) (ae (ao kW (ae (af 3) (ae (af 4) (ae (af 7) ak)))) ak)))))) (bB (dC (.bool false))) cD)
  (eu (dB (dOp (fe true) (dOp aB (ao yG (ae (af 3) (ae (af 4) (ae (af 6) ak)))) (dC (.int 0))) (dOp aB (j4 (ae (dC (.str "bar")) (ae (dC (.str "plan")) ak))) (dCB ql (ae (dOp aB (af 8) (dC (.int 0))) ak))))) (bB (dC (.bool false))) cD)))))))))
  (bB (dC (.bool true))))
section
variable {μ : Mu} {Qd : DK} {ds : List D}
theorem s_num : SeqAt.shaped (.str "NoNumber") = true := by decide +kernel
theorem Hy : SeqAt.shaped (.str "NoKinds") = true := by decide +kernel
theorem Qm : SeqAt.shaped .none = true := by decide +kernel
theorem rR (P0 P1 P2 P3 P4 P5 P6 : PQ) (h : qJ ds μ Qd) : gg P0 P1 P2 P3 P4 P5 P6 { nx := fun _ μ' => Qd (.v .none) μ', rt := Qd } (aH ["_law_bag_here", "_law_d", "_law_kinds_here", "_law_shape_here", "_law_bad", "_law_wrong", "_law_deeds"] ds) μ := by
  obtain ⟨a, d, ks, s, rfl, hd, ho, os, bs, hs, hb, q⟩ := h
  unfold gg
  walk_at "rn"
  refine ⟨a, d, ks, rfl, hd, ho, hb, fun t μ1 k1 k2 s1 => ?_⟩
  refine ⟨a, d, rfl, hd, s1.1, fun u μ2 f1 f2 f3 s2 => ?_⟩
  walk_at "rn"
  refine ⟨trivial, ?_⟩
  simp only [↓Ov, ↓PD, ↓tX, ↓yq, ↓RT, ↓q_c]
  refine FY rfl (by show 7 ≤ 1000; decide) (fun e he => ?_) (fun e he μ' sub Xk hx => ?_) ?_
  · simp only [List.mem_cons, List.not_mem_nil, or_false] at he
    rcases he with rfl | rfl | rfl | rfl | rfl | rfl | rfl
    · exact Hy
    · exact Hy
    · exact s_num
    · exact Hy
    · exact Hy
    · exact s_num
    · exact Qm
  · simp only [List.mem_cons, List.not_mem_nil, or_false] at he
    rcases he with rfl | rfl | rfl | rfl | rfl | rfl | rfl
    · exact (show dQ [.v (.int d), .v t, .v (dN s)] μ' Xk from ⟨d, t, dN s, rfl, hd, k1, k2, hx⟩)
    · exact (show dQ [.v (.int d), .v t, .v u] μ' Xk from ⟨d, t, u, rfl, hd, k1, k2, hx⟩)
    · exact (show gq [.v (.int d), .v (.tuple (ks.map dN)), .v u] μ' Xk from ⟨d, ks, u, rfl, hd, ho.wide, ⟨f1, f2, f3⟩, hx⟩)
    · exact (show dQ [.v (.int d), .v t, .v (dN s)] μ' Xk from ⟨d, t, dN s, rfl, hd, k1, k2, hx⟩)
    · exact (show dQ [.v (.int d), .v t, .v u] μ' Xk from ⟨d, t, u, rfl, hd, k1, k2, hx⟩)
    · exact (show gq [.v (.int d), .v (.tuple (ks.map dN)), .v u] μ' Xk from ⟨d, ks, u, rfl, hd, ho.wide, ⟨f1, f2, f3⟩, hx⟩)
    · exact (show kW [.v (.int d), .v (.tuple (ks.map dN)), .v (dN s)] μ' (fun _ μ'' => Xk μ'') from ⟨d, ks, s, rfl, hd, ho.wide, os, bs.mono (by decide), hs, hx⟩)
  · rw [KP]
    exact q _ (s1.trans s2)
theorem Oc (h : yB ds μ Qd) : Fi { nx := fun _ μ' => Qd (.v .none) μ', rt := Qd } (aH ["_law_script", "_law_k", "_law_bag_here", "_law_d", "_law_kinds_here", "_law_others", "_law_shape_here", "_law_more", "_law_ahead", "_law_turn"] ds) μ := by
  obtain ⟨ns, rfl, h63, q⟩ := h
  unfold Fi
  rw [yE, G2]
  walk_at "rn"
  have hm : (-(2 ^ 62) ≤ max 2 (min 6 ((ns.length : Nat) : Int)) ∧ max 2 (min 6 ((ns.length : Nat) : Int)) < 2 ^ 62) := by omega
  refine ⟨hm, fun i ρ μ' => ∃ r1 r2 r3 r4 r5 r6 r7 r8 r9, ρ = [some (.s ns), r1, r2, r3, r4, r5, r6, r7, r8, r9], ⟨_, _, _, _, _, _, _, _, _, rfl⟩, ?_, ?_⟩
  · rintro i x ρ μ0 hx ⟨r1, r2, r3, r4, r5, r6, r7, r8, r9, rfl⟩
    obtain ⟨rfl, hi⟩ := Hv hx
    walk_at "rn"
    refine ⟨ns, _, rfl, by omega, by omega, fun a μ1 ha s1 => ?_⟩
    walk_at "rn"
    refine ⟨a, rfl, s1.1, fun d μ2 hd s2 => ?_⟩
    walk_at "rn"
    refine ⟨a, d, rfl, hd, s2.1, fun ks μ3 ho s3 => ?_⟩
    walk_at "rn"
    refine ⟨a, d, rfl, hd, s3.1, fun ls μ4 hl s4 => ?_⟩
    walk_at "rn"
    refine ⟨a, d, ks, rfl, hd, ho, s4.1, fun s μ5 os bs hs s5 => ?_⟩
    walk_at "rn"
    refine ⟨a, d, ls, rfl, hd, hl, s5.1, fun t μ6 ot bt ht s6 => ?_⟩
    walk_at "rn"
    refine ⟨d, ks, s, rfl, hd, ho.wide, os, bs.mono (by decide), hs, d, ls, t, rfl, hd, hl.wide, ot, bt.mono (by decide), ht, d, ks, t, rfl, hd, ho.wide, ot, bt.mono (by decide), ht, ?_⟩
    walk_at "rn"
    rw [G2]
    walk_at "rn"
    refine ⟨by decide, fun i' ρ μ' => ∃ r1 r9, ρ = [some (.s ns), r1, some (.m a), some (.v (.int d)), some (.v (.tuple (ks.map dN))), some (.v (.tuple (ls.map dN))), some (.v (dN s)), some (.v (dN t)), some (.v (.list [.bool (wV d ks s), .bool (wV d ls t), .bool (wV d ks t)])), r9] ∧ Bag μ' a, ⟨_, _, rfl, s6.1⟩, ?_, ?_⟩
    · rintro j u ρ μ7 hu ⟨r1, r9, rfl, hb⟩
      obtain ⟨rfl, hj⟩ := Hv hu
      walk_at "rn"
      refine ⟨a, d, ks, s, rfl, hd, ho, os, bs, hs, hb, fun μ8 s8 => ?_⟩
      walk_at "rn"
      refine ⟨a, d, ls, t, rfl, hd, hl, ot, bt, ht, s8.1, fun μ9 s9 => ?_⟩
      walk_at "rn"
      exact ⟨_, _, rfl, s9.1⟩
    · rintro ρ μ7 ⟨r1, r9, rfl, hb⟩
      walk_at "rn"
      refine ⟨d, ks, s, rfl, hd, ho.wide, os, bs.mono (by decide), hs, d, ls, t, rfl, hd, hl.wide, ot, bt.mono (by decide), ht, d, ks, t, rfl, hd, ho.wide, ot, bt.mono (by decide), ht, ?_⟩
      have hsh : ∀ x y z : Bool, SeqAt.shaped (.list [.bool x, .bool y, .bool z]) = true := fun x y z => by with_unfolding_all rfl
      refine ⟨hsh _ _ _, hsh _ _ _, ?_⟩
      rw [EB (hsh _ _ _)]
      simp only [Bool.xor_true, Bool.not_true, Bool.false_eq_true, ↓reduceIte]
      refine ⟨d, ks, s, rfl, hd, ho.wide, os, bs.mono (by decide), hs, ?_⟩
      dsimp only
      rw [Lz]
      cases wV d ks s with
      | true =>
        refine ne_str A6 ?_
        exact ⟨_, _, _, _, _, _, _, _, _, rfl⟩
      | false =>
        refine ne_str xU ?_
        exact ⟨_, _, _, _, _, _, _, _, _, rfl⟩
  · rintro ρ μ0 ⟨r1, r2, r3, r4, r5, r6, r7, r8, r9, rfl⟩
    exact q _
end
end L2.DL
set_option Elab.async false
set_option linter.all false
set_option maxRecDepth 100000
set_option maxHeartbeats 4000000
namespace K42
open PySem L2 L2.DL
structure Adr where
  oq : Addr
  sW : FuncData
  fA : Addr
  i9 : FuncData
  mn : Addr
  qO : FuncData
  fw : Addr
  jC : FuncData
  uv : Addr
  ym : FuncData
  B7 : Addr
  Fx : FuncData
  AS : Addr
  FZ : FuncData
  Be : Addr
  Ff : FuncData
  xM : Addr
  BL : FuncData
  BJ : Addr
  EX : FuncData
  pB : Addr
  tJ : FuncData
  rE : Addr
  wC : FuncData
  gz : Addr
  j6 : FuncData
  eX : Addr
  iA : FuncData
  cu : Addr
  da : FuncData
  nV : Addr
  sS : FuncData
  eK : Addr
  gv : FuncData
  gE : Addr
  jZ : FuncData
  ky : Addr
  oB : FuncData
  lX : Addr
  p5 : FuncData
  o9 : Addr
  sU : FuncData
  rJ : Addr
  wH : FuncData
  AO : Addr
  FN : FuncData
  eV : Addr
  ip : FuncData
  fK : Addr
  jl : FuncData
  kC : Addr
  oR : FuncData
  gS : Addr
  jS : FuncData
  kO : Addr
  nM : FuncData
  kn : Addr
  ow : FuncData
  kF : Addr
  pD : FuncData
  kz : Addr
  pC : FuncData
  iK : Addr
  lz : FuncData
  dY : Addr
  gb : FuncData
  eC : Addr
  gH : FuncData
  oV : Addr
  tO : FuncData
  l4 : Addr
  qa : FuncData
  jJ : Addr
  mO : FuncData
  oU : Addr
  tP : FuncData
  l7 : Addr
  qb : FuncData
  kJ : Addr
  oH : FuncData
  kq : Addr
  n8 : FuncData
  gG : Addr
  j5 : FuncData
  mi : Addr
  qh : FuncData
  lV : Addr
  qR : FuncData
  jK : Addr
  mD : FuncData
  kB : Addr
  oN : FuncData
  oG : Addr
  sR : FuncData
  d4 : Addr
  eZ : FuncData
  kE : Addr
  pf : FuncData
  fQ : Addr
  i6 : FuncData
  fE : Addr
  jn : FuncData
  ku : Addr
  oD : FuncData
  gC : Addr
  j0 : FuncData
  eE : Addr
  eA : FuncData
  Hk : Addr
  K5 : FuncData
  zU : Tok
  IU : Addr
  Pt : Addr
  df : Addr
  hJ : Addr
  au : Addr
  ej : Addr
  gW : Addr
  jW : Addr
  ax : Addr
  gX : Addr
  gU : Addr
  jP : Addr
  g8 : Addr
  en : Addr
  g0 : Addr
  fk : Addr
  cA : Addr
  dz : Addr
structure Txt (K : PySem.W.Frag) (mg : Str → Option Value) (t : Adr) : Prop where
  Fg : Fun K "is_whole" "is_whole" jE t.oq t.sW
  tF : mg "is_whole" = some (.ref t.oq)
  tH : PySem.W.keepIn K (.ref t.oq) = true
  tf : Binds K t.sW ["thing"] []
  wD : Fun K "common_divisor" "common_divisor" dm t.fA t.i9
  nr : mg "common_divisor" = some (.ref t.fA)
  mT : PySem.W.keepIn K (.ref t.fA) = true
  mX : Binds K t.i9 ["a", "b"] []
  Dw : Fun K "is_number" "is_number" gY t.mn t.qO
  Dm : mg "is_number" = some (.ref t.mn)
  EG : PySem.W.keepIn K (.ref t.mn) = true
  D9 : Binds K t.qO ["thing"] []
  v7 : Fun K "divisor_of_all" "divisor_of_all" dh t.fw t.jC
  ng : mg "divisor_of_all" = some (.ref t.fw)
  nR : PySem.W.keepIn K (.ref t.fw) = true
  nG : Binds K t.jC ["a", "b", "c"] []
  Ko : Fun K "number" "number" nQ t.uv t.ym
  qB : mg "number" = some (.ref t.uv)
  qy : PySem.W.keepIn K (.ref t.uv) = true
  qT : Binds K t.ym ["a", "b", "c"] []
  OV : Fun K "mate" "mate" vU t.B7 t.Fx
  n9 : mg "mate" = some (.ref t.B7)
  oM : PySem.W.keepIn K (.ref t.B7) = true
  oW : Binds K t.Fx ["x"] []
  PL : Fun K "plus" "plus" vI t.AS t.FZ
  Lx : mg "plus" = some (.ref t.AS)
  Jf : PySem.W.keepIn K (.ref t.AS) = true
  Kx : Binds K t.FZ ["x", "y"] []
  Pf : Fun K "less" "less" wO t.Be t.Ff
  Ln : mg "less" = some (.ref t.Be)
  Ks : PySem.W.keepIn K (.ref t.Be) = true
  LA : Binds K t.Ff ["x", "y"] []
  L4 : Fun K "times" "times" rL t.xM t.BL
  kH : mg "times" = some (.ref t.xM)
  kK : PySem.W.keepIn K (.ref t.xM) = true
  ko : Binds K t.BL ["d", "x", "y"] []
  PB : Fun K "over" "over" vO t.BJ t.EX
  tq : mg "over" = some (.ref t.BJ)
  tI : PySem.W.keepIn K (.ref t.BJ) = true
  tL : Binds K t.EX ["d", "x", "y"] []
  Fh : Fun K "contrary" "contrary" jB t.pB t.tJ
  k9 : mg "contrary" = some (.ref t.pB)
  lJ : PySem.W.keepIn K (.ref t.pB) = true
  lN : Binds K t.tJ ["d", "x"] []
  IT : Fun K "sign_of" "sign_of" kN t.rE t.wC
  kM : mg "sign_of" = some (.ref t.rE)
  kR : PySem.W.keepIn K (.ref t.rE) = true
  kQ : Binds K t.wC ["d", "x"] []
  xu : Fun K "sign_of_parts" "sign_of_parts" dI t.gz t.j6
  xA : mg "sign_of_parts" = some (.ref t.gz)
  xp : PySem.W.keepIn K (.ref t.gz) = true
  xr : Binds K t.j6 ["d", "a", "b"] []
  vk : Fun K "is_above_nought" "is_above_nought" cU t.eX t.iA
  iH : mg "is_above_nought" = some (.ref t.eX)
  iu : PySem.W.keepIn K (.ref t.eX) = true
  il : Binds K t.iA ["d", "thing"] []
  iT : Fun K "must_be_above_nought" "must_be_above_nought" bN t.cu t.da
  ck : mg "must_be_above_nought" = some (.ref t.cu)
  cq : PySem.W.keepIn K (.ref t.cu) = true
  cm : Binds K t.da ["d", "thing"] []
  EW : Fun K "is_kinds" "is_kinds" jv t.nV t.sS
  yI : mg "is_kinds" = some (.ref t.nV)
  yL : PySem.W.keepIn K (.ref t.nV) = true
  yr : Binds K t.sS ["d", "thing"] []
  pI : Fun K "must_be_kinds" "must_be_kinds" dH t.eK t.gv
  gB : mg "must_be_kinds" = some (.ref t.eK)
  gy : PySem.W.keepIn K (.ref t.eK) = true
  gD : Binds K t.gv ["d", "thing"] []
  xC : Fun K "lean_fraction" "lean_fraction" dP t.gE t.jZ
  pG : mg "lean_fraction" = some (.ref t.gE)
  pQ : PySem.W.keepIn K (.ref t.gE) = true
  pP : Binds K t.jZ ["d", "shape"] []
  B1 : Fun K "mixture_of" "mixture_of" fO t.ky t.oB
  BE : mg "mixture_of" = some (.ref t.ky)
  BX : PySem.W.keepIn K (.ref t.ky) = true
  AQ : Binds K t.oB ["d", "kind", "shape"] []
  D2 : Fun K "shares_of" "shares_of" gZ t.lX t.p5
  wX : mg "shares_of" = some (.ref t.lX)
  xf : PySem.W.keepIn K (.ref t.lX) = true
  xa : Binds K t.p5 ["d", "first", "second", "shape"] []
  Fw : Fun K "is_share" "is_share" jD t.o9 t.sU
  FI : mg "is_share" = some (.ref t.o9)
  E2 : PySem.W.keepIn K (.ref t.o9) = true
  E5 : Binds K t.sU ["d", "x"] []
  Ih : Fun K "bar_for" "bar_for" kL t.rJ t.wH
  IE : mg "bar_for" = some (.ref t.rJ)
  Iw : PySem.W.keepIn K (.ref t.rJ) = true
  Iq : Binds K t.wH ["d", "kind", "shape"] []
  Pp : Fun K "skew" "skew" wy t.AO t.FN
  Jj : mg "skew" = some (.ref t.AO)
  LM : PySem.W.keepIn K (.ref t.AO) = true
  K6 : Binds K t.FN ["shape", "way"] []
  uD : Fun K "plan_of_mixture" "plan_of_mixture" cS t.eV t.ip
  vd : mg "plan_of_mixture" = some (.ref t.eV)
  uq : PySem.W.keepIn K (.ref t.eV) = true
  uh : Binds K t.ip ["u", "v", "place"] []
  wk : Fun K "plan_of_shares" "plan_of_shares" du t.fK t.jl
  nj : mg "plan_of_shares" = some (.ref t.fK)
  nc : PySem.W.keepIn K (.ref t.fK) = true
  nA : Binds K t.jl ["u", "first", "v", "second"] []
  Ct : Fun K "share_plan" "share_plan" fL t.kC t.oR
  kI : mg "share_plan" = some (.ref t.kC)
  kD : PySem.W.keepIn K (.ref t.kC) = true
  kA : Binds K t.oR ["share", "plan"] []
  qf : Fun K "wish_told" "wish_told" g9 t.gS t.jS
  fj : mg "wish_told" = some (.ref t.gS)
  fg : PySem.W.keepIn K (.ref t.gS) = true
  fh : Binds K t.jS ["d", "kinds", "shape"] []
  wN : Fun K "is_laid" "is_laid" kP t.kO t.nM
  eO : mg "is_laid" = some (.ref t.kO)
  eM : PySem.W.keepIn K (.ref t.kO) = true
  eP : Binds K t.nM ["d", "kinds", "shape"] []
  CA : Fun K "leans_most" "leans_most" fS t.kn t.ow
  Bu : mg "leans_most" = some (.ref t.kn)
  A8 : PySem.W.keepIn K (.ref t.kn) = true
  Bk : Binds K t.ow ["d", "kinds"] []
  BV : Fun K "mate_signs" "mate_signs" fJ t.kF t.pD
  vh : mg "mate_signs" = some (.ref t.kF)
  vt : PySem.W.keepIn K (.ref t.kF) = true
  ui : Binds K t.pD ["d", "kinds"] []
  AY : Fun K "leans_more" "leans_more" fH t.kz t.pC
  AX : mg "leans_more" = some (.ref t.kz)
  BY : PySem.W.keepIn K (.ref t.kz) = true
  BI : Binds K t.pC ["d", "kind", "other"] []
  xX : Fun K "plan_by_both" "plan_by_both" d8 t.iK t.lz
  yA : mg "plan_by_both" = some (.ref t.iK)
  x9 : PySem.W.keepIn K (.ref t.iK) = true
  yZ : Binds K t.lz ["d", "kinds", "shape"] []
  rQ : Fun K "with_greater_mate" "with_greater_mate" cw t.dY t.gb
  kj : mg "with_greater_mate" = some (.ref t.dY)
  km : PySem.W.keepIn K (.ref t.dY) = true
  kh : Binds K t.gb ["d", "kinds", "place"] []
  tw : Fun K "has_greater_mate" "has_greater_mate" cF t.eC t.gH
  kU : mg "has_greater_mate" = some (.ref t.eC)
  ly : PySem.W.keepIn K (.ref t.eC) = true
  lQ : Binds K t.gH ["shape"] []
  E7 : Fun K "_law_bag" "_law_bag" i7 t.oV t.tO
  Fy : mg "_law_bag" = some (.ref t.oV)
  FP : PySem.W.keepIn K (.ref t.oV) = true
  E4 : Binds K t.tO ["_law_script", "_law_at"] []
  DN : Fun K "_law_take" "_law_take" gQ t.l4 t.qa
  aX : mg "_law_take" = some (.ref t.l4)
  aW : PySem.W.keepIn K (.ref t.l4) = true
  aV : Binds K t.qa ["_law_bag_here", "_law_many"] []
  zy : Fun K "_law_shared" "_law_shared" eQ t.jJ t.mO
  sr : mg "_law_shared" = some (.ref t.jJ)
  sI : PySem.W.keepIn K (.ref t.jJ) = true
  sH : Binds K t.mO ["_law_one", "_law_other"] []
  Fb : Fun K "_law_low" "_law_low" jg t.oU t.tP
  jb : mg "_law_low" = some (.ref t.oU)
  ji : PySem.W.keepIn K (.ref t.oU) = true
  jA : Binds K t.tP ["_law_a", "_law_b", "_law_c"] []
  DP : Fun K "_law_plus" "_law_plus" hW t.l7 t.qb
  lU : mg "_law_plus" = some (.ref t.l7)
  lW : PySem.W.keepIn K (.ref t.l7) = true
  mq : Binds K t.qb ["_law_x", "_law_y"] []
  Bq : Fun K "_law_minus" "_law_minus" fT t.kJ t.oH
  uT : mg "_law_minus" = some (.ref t.kJ)
  vo : PySem.W.keepIn K (.ref t.kJ) = true
  vA : Binds K t.oH ["_law_x"] []
  Bx : Fun K "_law_times" "_law_times" fP t.kq t.n8
  cK : mg "_law_times" = some (.ref t.kq)
  cM : PySem.W.keepIn K (.ref t.kq) = true
  cJ : Binds K t.n8 ["_law_d", "_law_x", "_law_y"] []
  xt : Fun K "_law_contrary" "_law_contrary" dO t.gG t.j5
  pH : mg "_law_contrary" = some (.ref t.gG)
  pN : PySem.W.keepIn K (.ref t.gG) = true
  pM : Binds K t.j5 ["_law_d", "_law_x"] []
  CO : Fun K "_law_sign" "_law_sign" hR t.mi t.qh
  EH : mg "_law_sign" = some (.ref t.mi)
  EK : PySem.W.keepIn K (.ref t.mi) = true
  Dc : Binds K t.qh ["_law_d", "_law_x"] []
  D3 : Fun K "_law_root" "_law_root" hZ t.lV t.qR
  Df : mg "_law_root" = some (.ref t.lV)
  DC : PySem.W.keepIn K (.ref t.lV) = true
  Dj : Binds K t.qR ["_law_bag_here"] []
  zv : Fun K "_law_number" "_law_number" eR t.jK t.mD
  zO : mg "_law_number" = some (.ref t.jK)
  zZ : PySem.W.keepIn K (.ref t.jK) = true
  zM : Binds K t.mD ["_law_bag_here"] []
  Cu : Fun K "_law_above" "_law_above" fB t.kB t.oN
  iD : mg "_law_above" = some (.ref t.kB)
  iy : PySem.W.keepIn K (.ref t.kB) = true
  iG : Binds K t.oN ["_law_bag_here", "_law_d"] []
  E8 : Fun K "_law_odd" "_law_odd" jr t.oG t.sR
  Fl : mg "_law_odd" = some (.ref t.oG)
  FA : PySem.W.keepIn K (.ref t.oG) = true
  E6 : Binds K t.sR ["_law_bag_here"] []
  lO : Fun K "_law_refusal" "_law_refusal" d9 t.d4 t.eZ
  yy : mg "_law_refusal" = some (.ref t.d4)
  yu : PySem.W.keepIn K (.ref t.d4) = true
  ye : Binds K t.eZ ["_law_deed"] []
  A2 : Fun K "_law_kinds" "_law_kinds" fz t.kE t.pf
  uK : mg "_law_kinds" = some (.ref t.kE)
  uf : PySem.W.keepIn K (.ref t.kE) = true
  um : Binds K t.pf ["_law_bag_here", "_law_d"] []
  wq : Fun K "_law_bad_above" "_law_bad_above" dk t.fQ t.i6
  nJ : mg "_law_bad_above" = some (.ref t.fQ)
  nI : PySem.W.keepIn K (.ref t.fQ) = true
  nq : Binds K t.i6 ["_law_bag_here", "_law_d"] []
  wB : Fun K "_law_bad_kinds" "_law_bad_kinds" dq t.fE t.jn
  vZ : mg "_law_bad_kinds" = some (.ref t.fE)
  vQ : PySem.W.keepIn K (.ref t.fE) = true
  wu : Binds K t.jn ["_law_bag_here", "_law_d", "_law_kinds_here"] []
  BF : Fun K "_law_shape" "_law_shape" fM t.ku t.oD
  uL : mg "_law_shape" = some (.ref t.ku)
  uA : PySem.W.keepIn K (.ref t.ku) = true
  uQ : Binds K t.oD ["_law_bag_here", "_law_d", "_law_kinds_here"] []
  xk : Fun K "_law_fraction" "_law_fraction" dM t.gC t.j0
  pK : mg "_law_fraction" = some (.ref t.gC)
  pF : PySem.W.keepIn K (.ref t.gC) = true
  pE : Binds K t.j0 ["_law_bag_here"] []
  tU : Fun K "_law_are_refused" "_law_are_refused" cG t.eE t.eA
  k6 : mg "_law_are_refused" = some (.ref t.eE)
  k8 : PySem.W.keepIn K (.ref t.eE) = true
  kZ : Binds K t.eA ["_law_bag_here", "_law_d", "_law_kinds_here", "_law_shape_here"] []
  Q5 : Fun K "law" "law" sj t.Hk t.K5
  R3 : mg "law" = some (.ref t.Hk)
  R0 : PySem.W.keepIn K (.ref t.Hk) = true
  R1 : Binds K t.K5 ["_law_script"] []
  aC : mg "isinstance" = none
  yc : mg "int" = none
  OL : mg "bool" = none
  yD : mg "abs" = none
  B8 : mg "tuple" = none
  qW : mg "len" = none
  Kn : mg "all" = none
  uz : mg "range" = none
  uW : mg "ValueError" = none
  JB : mg "list" = none
  PZ : mg "max" = none
  QV : mg "min" = none
  BC : mg "MOST_KINDS" = some (.int 3 t.zU)
  lj : N8 K mg "NOUGHT" t.IU 0 0 1
  JQ : N8 K mg "ONE" t.Pt 1 0 1
  uY : mg "FloorError" = some (.ref t.df)
  ED : mg "NoRoot" = some (.ref t.hJ)
  tm : mg "NoNumber" = some (.ref t.au)
  yQ : mg "NoLaying" = some (.ref t.ej)
  Dv : mg "NoTile" = some (.ref t.gW)
  HR : mg "NoFit" = some (.ref t.jW)
  wm : mg "NoKinds" = some (.ref t.ax)
  DM : mg "NoPlan" = some (.ref t.gX)
  DV : mg "NoSpot" = some (.ref t.gU)
  HF : mg "NoNet" = some (.ref t.jP)
  Dt : mg "NoText" = some (.ref t.g8)
  xP : mg "NoSaying" = some (.ref t.en)
  EE : mg "NoName" = some (.ref t.g0)
  Au : mg "TooMany" = some (.ref t.fk)
  tR : PySem.W.excIn K (t.au) bmV "ValueError.__new__" = true
  tN : PySem.W.exmOne K (.ref t.au) (.ref t.df) = some true
  iU : PySem.W.kitOne K (.ref t.au) (.ref t.hJ) = some false
  gc : PySem.W.kitOne K (.ref t.au) (.ref t.au) = some true
  fX : PySem.W.kitOne K (.ref t.au) (.ref t.ej) = some false
  iP : PySem.W.kitOne K (.ref t.au) (.ref t.gW) = some false
  ja : PySem.W.kitOne K (.ref t.au) (.ref t.jW) = some false
  gN : PySem.W.kitOne K (.ref t.au) (.ref t.ax) = some false
  iV : PySem.W.kitOne K (.ref t.au) (.ref t.gX) = some false
  iL : PySem.W.kitOne K (.ref t.au) (.ref t.gU) = some false
  jy : PySem.W.kitOne K (.ref t.au) (.ref t.jP) = some false
  iM : PySem.W.kitOne K (.ref t.au) (.ref t.g8) = some false
  gm : PySem.W.kitOne K (.ref t.au) (.ref t.en) = some false
  iX : PySem.W.kitOne K (.ref t.au) (.ref t.g0) = some false
  gM : PySem.W.kitOne K (.ref t.au) (.ref t.fk) = some false
  nY : PySem.W.kitOne K (.ref t.au) (.type "ValueError") = some true
  wA : PySem.W.excIn K (t.ax) bmV "ValueError.__new__" = true
  vF : PySem.W.exmOne K (.ref t.ax) (.ref t.df) = some true
  js : PySem.W.kitOne K (.ref t.ax) (.ref t.hJ) = some false
  gP : PySem.W.kitOne K (.ref t.ax) (.ref t.au) = some false
  gI : PySem.W.kitOne K (.ref t.ax) (.ref t.ej) = some false
  jc : PySem.W.kitOne K (.ref t.ax) (.ref t.gW) = some false
  jY : PySem.W.kitOne K (.ref t.ax) (.ref t.jW) = some false
  iz : PySem.W.kitOne K (.ref t.ax) (.ref t.ax) = some true
  jo : PySem.W.kitOne K (.ref t.ax) (.ref t.gX) = some false
  jq : PySem.W.kitOne K (.ref t.ax) (.ref t.gU) = some false
  jX : PySem.W.kitOne K (.ref t.ax) (.ref t.jP) = some false
  jj : PySem.W.kitOne K (.ref t.ax) (.ref t.g8) = some false
  gJ : PySem.W.kitOne K (.ref t.ax) (.ref t.en) = some false
  je : PySem.W.kitOne K (.ref t.ax) (.ref t.g0) = some false
  iF : PySem.W.kitOne K (.ref t.ax) (.ref t.fk) = some false
  qc : PySem.W.kitOne K (.ref t.ax) (.type "ValueError") = some true
  cf : xn K t.au
  cR : xn K t.ax
  bU : Rm K mg t.cA t.dz "_law_are_refused"
  bP : t.eA.code = .ref t.cA
structure EQ where
  P : Program
  w : World
  K : PySem.W.Frag
  mg : Str → Option Value
  base : Heap
  t : Adr
abbrev TX (e : EQ) : Prop := Txt e.K e.mg e.t
abbrev w6 (e : EQ) : Prop := bG e.P e.w e.K e.mg e.base CX0 1 e.t.oq e.t.sW ["thing"] (spD e.K rj)
abbrev mf (e : EQ) : Prop := bG e.P e.w e.K e.mg e.base CX0 1 e.t.fA e.t.i9 ["a", "b"] (spD e.K tZ)
abbrev uB (e : EQ) : Prop := bG e.P e.w e.K e.mg e.base CX0 3 e.t.mn e.t.qO ["thing"] (spD e.K Bh)
abbrev iS (e : EQ) : Prop := bG e.P e.w e.K e.mg e.base CX0 2 e.t.fw e.t.jC ["a", "b", "c"] (spD e.K ya)
abbrev kS (e : EQ) : Prop := bG e.P e.w e.K e.mg e.base CX0 3 e.t.uv e.t.ym ["a", "b", "c"] (spD e.K cX)
abbrev uk (e : EQ) : Prop := bG e.P e.w e.K e.mg e.base CX0 1 e.t.B7 e.t.Fx ["x"] (spD e.K kc)
abbrev AU (e : EQ) : Prop := bG e.P e.w e.K e.mg e.base CX0 4 e.t.AS e.t.FZ ["x", "y"] (spD e.K kT)
abbrev Cj (e : EQ) : Prop := bG e.P e.w e.K e.mg e.base CX0 4 e.t.Be e.t.Ff ["x", "y"] (spD e.K xZ)
abbrev nU (e : EQ) : Prop := bG e.P e.w e.K e.mg e.base CX0 4 e.t.xM e.t.BL ["d", "x", "y"] (spD e.K bW)
abbrev vE (e : EQ) : Prop := bG e.P e.w e.K e.mg e.base CX0 5 e.t.BJ e.t.EX ["d", "x", "y"] (spD e.K mI)
abbrev jN (e : EQ) : Prop := bG e.P e.w e.K e.mg e.base CX0 4 e.t.pB e.t.tJ ["d", "x"] (spD e.K cW)
abbrev lI (e : EQ) : Prop := bG e.P e.w e.K e.mg e.base CX0 2 e.t.rE e.t.wC ["d", "x"] (spD e.K kf)
abbrev mZ (e : EQ) : Prop := bG e.P e.w e.K e.mg e.base CX0 1 e.t.gz e.t.j6 ["d", "a", "b"] (spD e.K xN)
abbrev ez (e : EQ) : Prop := bG e.P e.w e.K e.mg e.base CX0 4 e.t.eX e.t.iA ["d", "thing"] (spD e.K nO)
abbrev cT (e : EQ) : Prop := bG e.P e.w e.K e.mg e.base CX0 5 e.t.cu e.t.da ["d", "thing"] (spD e.K ff)
abbrev pX (e : EQ) : Prop := bG e.P e.w e.K e.mg e.base CX0 5 e.t.nV e.t.sS ["d", "thing"] (spD e.K qM)
abbrev fN (e : EQ) : Prop := bG e.P e.w e.K e.mg e.base CX0 6 e.t.eK e.t.gv ["d", "thing"] (spD e.K hV)
abbrev nC (e : EQ) : Prop := bG e.P e.w e.K e.mg e.base CX0 6 e.t.gE e.t.jZ ["d", "shape"] (spD e.K uR)
abbrev se (e : EQ) : Prop := bG e.P e.w e.K e.mg e.base CX0 7 e.t.ky e.t.oB ["d", "kind", "shape"] (spD e.K rK)
abbrev oQ (e : EQ) : Prop := bG e.P e.w e.K e.mg e.base CX0 6 e.t.lX e.t.p5 ["d", "first", "second", "shape"] (spD e.K p7)
abbrev xc (e : EQ) : Prop := bG e.P e.w e.K e.mg e.base CX0 3 e.t.o9 e.t.sU ["d", "x"] (spD e.K rB)
abbrev xQ (e : EQ) : Prop := bG e.P e.w e.K e.mg e.base CX0 6 e.t.rJ e.t.wH ["d", "kind", "shape"] (spD e.K uZ)
abbrev Hq (e : EQ) : Prop := bG e.P e.w e.K e.mg e.base CX0 5 e.t.AO e.t.FN ["shape", "way"] (spD e.K xS)
abbrev lP (e : EQ) : Prop := bG e.P e.w e.K e.mg e.base CX0 3 e.t.eV e.t.ip ["u", "v", "place"] (spD e.K qY)
abbrev iW (e : EQ) : Prop := bG e.P e.w e.K e.mg e.base CX0 2 e.t.fK e.t.jl ["u", "first", "v", "second"] (spD e.K qe)
abbrev rZ (e : EQ) : Prop := bG e.P e.w e.K e.mg e.base CX0 1 e.t.kC e.t.oR ["share", "plan"] (spD e.K lr)
abbrev oi (e : EQ) : Prop := bG e.P e.w e.K e.mg e.base CX0 9 e.t.gS e.t.jS ["d", "kinds", "shape"] (spD e.K yG)
abbrev sV (e : EQ) : Prop := bG e.P e.w e.K e.mg e.base CX0 10 e.t.kO e.t.nM ["d", "kinds", "shape"] (spD e.K kW)
abbrev sE (e : EQ) : Prop := bG e.P e.w e.K e.mg e.base CX0 8 e.t.kn e.t.ow ["d", "kinds"] (spD e.K Bj)
abbrev mL (e : EQ) : Prop := bG e.P e.w e.K e.mg e.base CX0 3 e.t.kF e.t.pD ["d", "kinds"] (spD e.K tY)
abbrev sf (e : EQ) : Prop := bG e.P e.w e.K e.mg e.base CX0 7 e.t.kz e.t.pC ["d", "kind", "other"] (spD e.K yP)
abbrev pR (e : EQ) : Prop := bG e.P e.w e.K e.mg e.base CX0 7 e.t.iK e.t.lz ["d", "kinds", "shape"] (spD e.K CG)
abbrev jV (e : EQ) : Prop := bG e.P e.w e.K e.mg e.base CX0 5 e.t.dY e.t.gb ["d", "kinds", "place"] (spD e.K nF)
abbrev gj (e : EQ) : Prop := bG e.P e.w e.K e.mg e.base CX0 1 e.t.eC e.t.gH ["shape"] (spD e.K ue)
abbrev wW (e : EQ) : Prop := bG e.P e.w e.K e.mg e.base CX0 1 e.t.oV e.t.tO ["_law_script", "_law_at"] (spD e.K HP)
abbrev cL (e : EQ) : Prop := bG e.P e.w e.K e.mg e.base CX0 1 e.t.l4 e.t.qa ["_law_bag_here", "_law_many"] (spD e.K cO)
abbrev qw (e : EQ) : Prop := bG e.P e.w e.K e.mg e.base CX0 1 e.t.jJ e.t.mO ["_law_one", "_law_other"] (spD e.K tZ)
abbrev eY (e : EQ) : Prop := bG e.P e.w e.K e.mg e.base CX0 2 e.t.oU e.t.tP ["_law_a", "_law_b", "_law_c"] (spD e.K cX)
abbrev ub (e : EQ) : Prop := bG e.P e.w e.K e.mg e.base CX0 3 e.t.l7 e.t.qb ["_law_x", "_law_y"] (spD e.K kT)
abbrev mr (e : EQ) : Prop := bG e.P e.w e.K e.mg e.base CX0 1 e.t.kJ e.t.oH ["_law_x"] (spD e.K vp)
abbrev mS (e : EQ) : Prop := bG e.P e.w e.K e.mg e.base CX0 3 e.t.kq e.t.n8 ["_law_d", "_law_x", "_law_y"] (spD e.K bW)
abbrev jm (e : EQ) : Prop := bG e.P e.w e.K e.mg e.base CX0 3 e.t.gG e.t.j5 ["_law_d", "_law_x"] (spD e.K cW)
abbrev vm (e : EQ) : Prop := bG e.P e.w e.K e.mg e.base CX0 1 e.t.mi e.t.qh ["_law_d", "_law_x"] (spD e.K kf)
abbrev uP (e : EQ) : Prop := bG e.P e.w e.K e.mg e.base CX0 2 e.t.lV e.t.qR ["_law_bag_here"] (spD e.K xJ)
abbrev pY (e : EQ) : Prop := bG e.P e.w e.K e.mg e.base CX0 3 e.t.jK e.t.mD ["_law_bag_here"] (spD e.K rM)
abbrev jG (e : EQ) : Prop := bG e.P e.w e.K e.mg e.base CX0 4 e.t.kB e.t.oN ["_law_bag_here", "_law_d"] (spD e.K jT)
abbrev xb (e : EQ) : Prop := bG e.P e.w e.K e.mg e.base CX0 2 e.t.oG e.t.sR ["_law_bag_here"] (spD e.K HE)
abbrev sC (e : EQ) : Prop := bG e.P e.w e.K e.mg e.base CX0 5 e.t.kE e.t.pf ["_law_bag_here", "_law_d"] (spD e.K qk)
abbrev iq (e : EQ) : Prop := bG e.P e.w e.K e.mg e.base CX0 5 e.t.fQ e.t.i6 ["_law_bag_here", "_law_d"] (spD e.K lC)
abbrev lY (e : EQ) : Prop := bG e.P e.w e.K e.mg e.base CX0 6 e.t.fE e.t.jn ["_law_bag_here", "_law_d", "_law_kinds_here"] (spD e.K oj)
abbrev sA (e : EQ) : Prop := bG e.P e.w e.K e.mg e.base CX0 5 e.t.ku e.t.oD ["_law_bag_here", "_law_d", "_law_kinds_here"] (spD e.K qV)
abbrev nE (e : EQ) : Prop := bG e.P e.w e.K e.mg e.base CX0 3 e.t.gC e.t.j0 ["_law_bag_here"] (spD e.K vj)
abbrev kg (e : EQ) : Prop := bG e.P e.w e.K e.mg e.base CX0 13 e.t.eE e.t.eA ["_law_bag_here", "_law_d", "_law_kinds_here", "_law_shape_here"] (spD e.K qJ)
abbrev Kc (e : EQ) : Prop := bG e.P e.w e.K e.mg e.base CX0 14 e.t.Hk e.t.K5 ["_law_script"] (spD e.K yB)
abbrev dF (e : EQ) : Prop := bG e.P e.w e.K e.mg e.base (CX1 e.P e.w) 5 e.t.cu e.t.da ["d", "thing"] (spX e.K (.ref e.t.au) qX)
abbrev fV (e : EQ) : Prop := bG e.P e.w e.K e.mg e.base (CX1 e.P e.w) 6 e.t.eK e.t.gv ["d", "thing"] (spX e.K (.ref e.t.ax) u7)
abbrev eU (e : EQ) : Prop := bG e.P e.w e.K e.mg e.base (CX1 e.P e.w) 9 e.t.gS e.t.jS ["d", "kinds", "shape"] (spX e.K (.ref e.t.ax) dQ)
abbrev eB (e : EQ) : Prop := bG e.P e.w e.K e.mg e.base (CX1 e.P e.w) 9 e.t.gS e.t.jS ["d", "kinds", "shape"] (spX e.K (.ref e.t.au) gq)
abbrev ki (e : EQ) : Prop := bG e.P e.w e.K e.mg e.base (CX1 e.P e.w) 10 e.t.kO e.t.nM ["d", "kinds", "shape"] (spX e.K (.ref e.t.ax) dQ)
abbrev jU (e : EQ) : Prop := bG e.P e.w e.K e.mg e.base (CX1 e.P e.w) 10 e.t.kO e.t.nM ["d", "kinds", "shape"] (spX e.K (.ref e.t.au) gq)
abbrev PY (e : EQ) : Prop := LS e.P e.w e.K e.mg e.base 11 e.t.d4 e.t.eZ "_law_deed"
abbrev vb (e : EQ) : Prop := El e.P e.w e.K e.mg e.base 11 e.t.d4 e.t.eZ "_law_deed" (.ref e.t.au) "NoNumber"
abbrev xg (e : EQ) : Prop := El e.P e.w e.K e.mg e.base 11 e.t.d4 e.t.eZ "_law_deed" (.ref e.t.ax) "NoKinds"
section
variable {e : EQ}
theorem Ex : aD ["thing"] ["thing"] (aq jE) := ⟨rfl, rfl, rfl, by decide +kernel, rfl, by decide +kernel, by decide +kernel⟩
theorem C0 (T : TX e)  : w6 e := by
  have S := Ex
  exact T.Fg.okD S (fun ds μ Q h => Ds h) (fun cdv A outer s H E hr => ⟨qG, (ar (aE (BB (Ca (M0 _) rfl T.aC rfl T.yc PyProof.Rows.Boot.«int» (dv 0)) (AN (PM (Ca (LL _) rfl T.aC rfl T.OL PyProof.Rows.Boot.«bool» (dv 0))))))), fun ds μ Qd h => Eg h⟩)
theorem u9 : aD ["a", "b"] ["a", "b"] (aq dm) := ⟨rfl, rfl, rfl, by decide +kernel, rfl, by decide +kernel, by decide +kernel⟩
theorem uH (T : TX e)  : mf e := by
  have S := u9
  exact T.wD.okD S (fun ds μ Q h => AI h) (fun cdv A outer s H E hr => ⟨iO, (aj (Ew PassesOwn.never (bq (wz hr.units) cZ (dv 1) ah (aR _)) (ar (qE (i := 0) (j := 1) rfl S.nd rfl rfl (by decide) rfl rfl (aa (dv 1) (aa (mE (dv 0) (dv 1)) ag)) rfl)))
    (ar (aE (tK rfl T.yD (aa (dv 0) ag))))), fun ds μ Qd h => u5 h⟩)
theorem MK : aD ["x"] ["x"] (aq vU) := ⟨rfl, rfl, rfl, by decide +kernel, rfl, by decide +kernel, by decide +kernel⟩
theorem aZ (T : TX e)  : uk e := by
  have S := MK
  exact T.OV.okD S (fun ds μ Q h => FO h) (fun cdv A outer s H E hr => ⟨Cn, (ar (aE (aG (aa (aw (dv 0) ah (fun _ _ => rfl)) (aa (lF (aw (dv 0) ah (fun _ _ => rfl))) (aa (aw (dv 0) ah (fun _ _ => rfl)) ag)))))), fun ds μ Qd h => MZ h⟩)
theorem wd : aD ["d", "a", "b", "prevailing"] ["d", "a", "b"] (aq dI) := ⟨rfl, rfl, rfl, by decide +kernel, rfl, by decide +kernel, by decide +kernel⟩
theorem vX (T : TX e)  : mZ e := by
  have S := wd
  exact T.xu.okD S (fun ds μ Q h => EF h) (fun cdv A outer s H E hr => ⟨jh, (aj (cI (DW.dt (we (bq (d6 hr.units) cZ (dv 1) ah (aR _)) (rF (bq (d6 hr.units) cZ (dv 2) ah (aR _))))) (ar (aE ah)) bw)
    (aj (cI (DW.dt (we (bq Ay iR (dv 1) ah (aR _)) (rF (bq Ay iR (dv 2) ah (aR _))))) (ar (aE ah)) bw)
    (aj (cI (DW.dt (we (bq Nt iR (dv 1) ah (aR _)) (rF (bq Nt iR (dv 2) ah (aR _))))) (ar (aE (lF ah))) bw)
    (aj (aJ (i := 3) S.nd rfl (Or.inl rfl) (wZ (bq ny iR (aM (dv 1) (dv 1)) (aM (aM (dv 0) (dv 2)) (dv 2)) (aR _)) (dv 1) (dv 2)))
    (ar (aE (wZ (bq ny iR (dv 3) ah (aR _)) ah (lF ah)))))))), fun ds μ Qd h => wg h⟩)
theorem Ad : aD ["share", "plan"] ["share", "plan"] (aq fL) := ⟨rfl, rfl, rfl, by decide +kernel, rfl, by decide +kernel, by decide +kernel⟩
theorem zg (T : TX e)  : rZ e := by
  have S := Ad
  exact T.Ct.okD S (fun ds μ Q h => Bs h) (fun cdv A outer s H E hr => ⟨mw, (aj (cI (bq (d6 hr.units) cZ (dv 0) (gu rfl T.JQ) (aR _)) (ar (aE (dv 1))) bw)
    (ar (aE (aG (aa aY (aa (aw (dv 0) ah (fun _ _ => rfl)) (aa (aw (dv 0) ah (fun _ _ => rfl)) (aa (dv 1) ag)))))))), fun ds μ Qd h => zA h⟩)
theorem rW : aD ["shape"] ["shape"] (aq cF) := ⟨rfl, rfl, rfl, by decide +kernel, rfl, by decide +kernel, by decide +kernel⟩
theorem rN (T : TX e)  : gj e := by
  have S := rW
  exact T.tw.okD S (fun ds μ Q h => Ej h) (fun cdv A outer s H E hr => ⟨fW, (ar (aE (ix w9 iR (aM (aw (dv 0) ah (fun _ _ => rfl)) (aw (dv 0) ah (fun _ _ => rfl))) ah (aR _)))), fun ds μ Qd h => rO h⟩)
theorem Ea : aD ["_law_script", "_law_at", "_law_cell", "_law_great", "_law_primes", "_law_mixed"] ["_law_script", "_law_at"] (aq i7) := ⟨rfl, rfl, rfl, by decide +kernel, rfl, by decide +kernel, by decide +kernel⟩
theorem D5 (T : TX e)  : wW e := by
  have S := Ea
  exact T.E7.okD S (fun ds μ Q h => HU h) (fun cdv A outer s H E hr => ⟨qp, (aj (aJ (i := 2) S.nd rfl (Or.inl rfl) ah)
    (aj (cI (bq w9 iR (dv 1) (lE rfl T.qW (aa (dv 0) ag)) (aR _)) (ar (aJ (i := 2) S.nd rfl (Or.inl rfl) (aw (dv 0) (dv 1) (fun _ _ => rfl)))) bw)
    (aj (aJ (i := 3) S.nd rfl (Or.inl rfl) ah)
    (aj (cI (bq Ay iR (tK rfl T.yD (aa (dv 2) ag)) (ER ah ah) (aR _)) (ar (aJ (i := 3) S.nd rfl (Or.inl rfl) (tK rfl T.yD (aa (dv 2) ag)))) bw)
    (aj (aJ (i := 4) S.nd rfl (Or.inl rfl) (dD (aa ah (aa ah (aa ah (aa ah (aa ah (aa ah (aa ah (aa ah ag))))))))))
    (aj (aJ (i := 5) S.nd rfl (Or.inl rfl) (eT (eT (eT (aM (mE (dv 2) ah) ah) (aM (aM ah (dv 1)) (dv 1))) (aM ah (dv 1))) ah))
    (ar (aE (HL (aa (dv 3) (aa (mE (dv 5) (aw (dv 4) (mE (dv 1) ah) (fun _ _ => rfl))) ag))))))))))), fun ds μ Qd h => EO h⟩)
theorem Bv : aD ["_law_bag_here", "_law_many", "_law_digit"] ["_law_bag_here", "_law_many"] (aq gQ) := ⟨rfl, rfl, rfl, by decide +kernel, rfl, by decide +kernel, by decide +kernel⟩
theorem BW (T : TX e)  : cL e := by
  have S := Bv
  exact T.DN.okD S (fun ds μ Q h => FT h) (fun cdv A outer s H E hr => ⟨oA, (aj (cI (bq ny iR (aw (dv 0) ah (fun _ _ => rfl)) ah (aR _)) (aj (aJ (i := 2) S.nd rfl (Or.inl rfl) (mE (aw (dv 0) ah (fun _ _ => rfl)) (dv 1)))
    (aj (oK (mx (aw (dv 0) ah (fun _ _ => rfl)) (dv 1)) (KU (dv 0) ah))
    (ar (aE (dv 2))))) bw)
    (aj (oK (mE (eT (aM (aw (dv 0) ah (fun _ _ => rfl)) ah) ah) ah) (KU (dv 0) ah))
    (ar (aE (mE (mx (mE (ER (aw (dv 0) ah (fun _ _ => rfl)) ah) ah) ah) (dv 1)))))), fun ds μ Qd h => BU h⟩)
theorem yS : aD ["_law_one", "_law_other"] ["_law_one", "_law_other"] (aq eQ) := ⟨rfl, rfl, rfl, by decide +kernel, rfl, by decide +kernel, by decide +kernel⟩
theorem yH (T : TX e)  : qw e := by
  have S := yS
  exact T.zy.okD S (fun ds μ Q h => AI h) (fun cdv A outer s H E hr => ⟨lD, (aj (qE (i := 0) (j := 1) rfl S.nd rfl rfl (by decide) rfl rfl (aa (tK rfl T.yD (aa (dv 0) ag)) (aa (tK rfl T.yD (aa (dv 1) ag)) ag)) rfl)
    (aj (Ew PassesOwn.never (bq ny iR (dv 1) ah (aR _)) (ar (qE (i := 0) (j := 1) rfl S.nd rfl rfl (by decide) rfl rfl (aa (dv 1) (aa (mE (dv 0) (dv 1)) ag)) rfl)))
    (ar (aE (dv 0))))), fun ds μ Qd h => yk h⟩)
theorem zw : aD ["_law_x"] ["_law_x"] (aq fT) := ⟨rfl, rfl, rfl, by decide +kernel, rfl, by decide +kernel, by decide +kernel⟩
theorem zo (T : TX e)  : mr e := by
  have S := zw
  exact T.Bq.okD S (fun ds μ Q h => CL h) (fun cdv A outer s H E hr => ⟨mP, (ar (aE (aG (aa (iN ah (aw (dv 0) ah (fun _ _ => rfl))) (aa (iN ah (aw (dv 0) ah (fun _ _ => rfl))) (aa (aw (dv 0) ah (fun _ _ => rfl)) ag)))))), fun ds μ Qd h => zX h⟩)
theorem Br : aD ["_law_d", "_law_x", "_law_first", "_law_second", "_law_sides"] ["_law_d", "_law_x"] (aq hR) := ⟨rfl, rfl, rfl, by decide +kernel, rfl, by decide +kernel, by decide +kernel⟩
theorem Cd (T : TX e)  : vm e := by
  have S := Br
  exact T.CO.okD S (fun ds μ Q h => yW h) (fun cdv A outer s H E hr => ⟨nZ, (aj (qE (i := 2) (j := 3) rfl S.nd rfl rfl (by decide) rfl rfl (aa (aM (aw (dv 1) ah (fun _ _ => rfl)) (aw (dv 1) ah (fun _ _ => rfl))) (aa (aM (aM (dv 0) (aw (dv 1) ah (fun _ _ => rfl))) (aw (dv 1) ah (fun _ _ => rfl))) ag)) rfl)
    (aj (aJ (i := 4) S.nd rfl (Or.inl rfl) (dD (aa (iN (nh rfl T.yc (aa (ix ny iR (aw (dv 1) ah (fun _ _ => rfl)) ah (aR _)) ag)) (nh rfl T.yc (aa (ix w9 iR (aw (dv 1) ah (fun _ _ => rfl)) ah (aR _)) ag))) (aa (iN (nh rfl T.yc (aa (ix ny iR (aw (dv 1) ah (fun _ _ => rfl)) ah (aR _)) ag)) (nh rfl T.yc (aa (ix w9 iR (aw (dv 1) ah (fun _ _ => rfl)) ah (aR _)) ag))) ag))))
    (aj (cI (bq Ay iR (aM (aw (dv 4) ah (fun _ _ => rfl)) (aw (dv 4) ah (fun _ _ => rfl))) ah (aR _)) (ar (aE (wZ (bq (wz hr.units) cZ (aw (dv 4) ah (fun _ _ => rfl)) ah (aR _)) (aw (dv 4) ah (fun _ _ => rfl)) (aw (dv 4) ah (fun _ _ => rfl))))) bw)
    (ar (aE (wZ (bq ny iR (dv 2) (dv 3) (aR _)) (aw (dv 4) ah (fun _ _ => rfl)) (aw (dv 4) ah (fun _ _ => rfl)))))))), fun ds μ Qd h => CD h⟩)
theorem uI : aD ["a", "b", "c"] ["a", "b", "c"] (aq dh) := ⟨rfl, rfl, rfl, by decide +kernel, rfl, by decide +kernel, by decide +kernel⟩
theorem vC (T : TX e) (fG : mf e) : iS e := by
  have S := uI
  exact T.v7.okD S (fun ds μ Q h => FJ h) (fun cdv A outer s H E hr => ⟨iw, (ar (aE (ai fG (hr.mono (by decide)) rfl T.nr T.mT T.mX (aa (ai fG (hr.mono (by decide)) rfl T.nr T.mT T.mX (aa (dv 2) (aa (dv 0) ag))) (aa (dv 1) ag))))), fun ds μ Qd h => vw h⟩)
theorem FV : aD ["d", "x"] ["d", "x"] (aq kN) := ⟨rfl, rfl, rfl, by decide +kernel, rfl, by decide +kernel, by decide +kernel⟩
theorem Ga (T : TX e) (j7 : mZ e) : lI e := by
  have S := FV
  exact T.IT.okD S (fun ds μ Q h => yW h) (fun cdv A outer s H E hr => ⟨sY, (ar (aE (ai j7 (hr.mono (by decide)) rfl T.xA T.xp T.xr (aa (dv 0) (aa (aw (dv 1) ah (fun _ _ => rfl)) (aa (aw (dv 1) ah (fun _ _ => rfl)) ag)))))), fun ds μ Qd h => FF h⟩)
theorem vc : aD ["u", "first", "v", "second"] ["u", "first", "v", "second"] (aq du) := ⟨rfl, rfl, rfl, by decide +kernel, rfl, by decide +kernel, by decide +kernel⟩
theorem uV (T : TX e) (fR : rZ e) : iW e := by
  have S := vc
  exact T.wk.okD S (fun ds μ Q h => BS h) (fun cdv A outer s H E hr => ⟨ir, (aj (cI (bq (d6 hr.units) cZ (dv 2) (gu rfl T.lj) (aR _)) (ar (aE (ai fR (hr.mono (by decide)) rfl T.kI T.kD T.kA (aa (dv 0) (aa (dv 1) ag))))) bw)
    (aj (cI (bq (d6 hr.units) cZ (dv 0) (gu rfl T.lj) (aR _)) (ar (aE (ai fR (hr.mono (by decide)) rfl T.kI T.kD T.kA (aa (dv 2) (aa (dv 3) ag))))) bw)
    (ar (aE (aG (aa aY (aa (aG (aa (ai fR (hr.mono (by decide)) rfl T.kI T.kD T.kA (aa (dv 0) (aa (dv 1) ag))) (aa (ai fR (hr.mono (by decide)) rfl T.kI T.kD T.kA (aa (dv 2) (aa (dv 3) ag))) ag))) ag))))))), fun ds μ Qd h => ua h⟩)
theorem D0 : aD ["_law_a", "_law_b", "_law_c", "_law_common"] ["_law_a", "_law_b", "_law_c"] (aq jg) := ⟨rfl, rfl, rfl, by decide +kernel, rfl, by decide +kernel, by decide +kernel⟩
theorem DD (T : TX e) (jF : qw e) : eY e := by
  have S := D0
  exact T.Fb.okD S (fun ds μ Q h => uX h) (fun cdv A outer s H E hr => ⟨qo, (aj (aJ (i := 3) S.nd rfl (Or.inl rfl) (aM (ai jF (hr.mono (by decide)) rfl T.sr T.sI T.sH (aa (ai jF (hr.mono (by decide)) rfl T.sr T.sI T.sH (aa (dv 0) (aa (dv 1) ag))) (aa (dv 2) ag))) (aw (dD (aa ah (aa (lF ah) ag))) (nh rfl T.yc (aa (ix w9 iR (dv 2) ah (aR _)) ag)) (fun _ _ => rfl))))
    (ar (aE (aG (aa (mx (dv 0) (dv 3)) (aa (mx (dv 1) (dv 3)) (aa (mx (dv 2) (dv 3)) ag))))))), fun ds μ Qd h => C8 h⟩)
theorem AW : aD ["_law_bag_here", "_law_some"] ["_law_bag_here"] (aq hZ) := ⟨rfl, rfl, rfl, by decide +kernel, rfl, by decide +kernel, by decide +kernel⟩
theorem BR (T : TX e) (ay : cL e) : uP e := by
  have S := AW
  exact T.D3.okD S (fun ds μ Q h => Dx h) (fun cdv A outer s H E hr => ⟨oZ, (aj (cI (bq (d6 hr.units) cZ (ai ay (hr.mono (by decide)) rfl T.aX T.aW T.aV (aa (dv 0) (aa ah ag))) ah (aR _)) (ar (aE (aw (dD (aa ah (aa ah (aa ah ag)))) (ai ay (hr.mono (by decide)) rfl T.aX T.aW T.aV (aa (dv 0) (aa ah ag))) (fun _ _ => rfl)))) bw)
    (aj (BK (i := 1) (N' := ["_law_d"]) (cap := [none]) S.nd rfl rfl rfl (Gr rfl T.uz (aa ah (aa ah ag))) (fun _ _ _ => (bF (i := 0) (show List.Nodup (["_law_d"] : List Str) by decide +kernel) rfl (Or.inl rfl))) (fun _ _ _ => (yh (bq (Ir hr.units) EV (dv 0) (dD (aa ah (aa ah (aa ah (aa ah ag))))) (by with_unfolding_all rfl)))) (fun _ _ _ => (dv 0)) rfl (by decide +kernel) rfl (by decide +kernel) (by intro _ _ h; first | exact h | exact cl1 h | exact cl2 (by decide +kernel) h | exact cl3 (by decide +kernel) h | exact bj (aO rfl cB) _ _ h | exact bj (aO rfl (aO rfl cB)) _ _ h | exact bj (aO rfl (aO rfl (aO rfl cB))) _ _ h | cases h) (iQ rfl) rfl (n6 trivial))
    (ar (aE (aw (dv 1) (ai ay (hr.mono (by decide)) rfl T.aX T.aW T.aV (aa (dv 0) (aa ah ag))) (fun _ _ => rfl)))))), fun ds μ Qd h => Cm h⟩)
theorem EM : aD ["_law_bag_here", "_law_some"] ["_law_bag_here"] (aq jr) := ⟨rfl, rfl, rfl, by decide +kernel, rfl, by decide +kernel, by decide +kernel⟩
theorem Ey (T : TX e) (ay : cL e) : xb e := by
  have S := EM
  exact T.E8.okD S (fun ds μ Q h => HS h) (fun cdv A outer s H E hr => ⟨qi, (aj (aJ (i := 1) S.nd rfl (Or.inl rfl) (dD (aa yR (aa pO (aa pO (aa aY (aa aY (aa (lF ah) (aa ah (aa ah (aa (ER ah ah) (aa (aG ag) (aa (dD ag) (aa (dD (aa ah ag)) (aa (aG (aa ah (aa ah ag))) (aa (aG (aa ah (aa ah (aa ah ag)))) (aa (aG (aa ah (aa ah (aa ah ag)))) (aa (aG (aa ah (aa pO (aa ah ag)))) (aa (aG (aa ah (aa ah (aa (lF ah) ag)))) (aa (dD (aa ah (aa ah (aa ah ag)))) (aa (aG (aa ah (aa ah ag))) (aa aY ag))))))))))))))))))))))
    (ar (aE (aw (dv 1) (ai ay (hr.mono (by decide)) rfl T.aX T.aW T.aV (aa (dv 0) (aa ah ag))) (fun _ _ => rfl))))), fun ds μ Qd h => DZ h⟩)
theorem CB : aD ["thing", "a", "b", "c"] ["thing"] (aq gY) := ⟨rfl, rfl, rfl, by decide +kernel, rfl, by decide +kernel, by decide +kernel⟩
theorem Cb (T : TX e) (lG : w6 e) (dr : iS e) : uB e := by
  have S := CB
  exact T.Dw.okD S (fun ds μ Q h => Fc h) (fun cdv A outer s H E hr => ⟨oJ, (aj (cI (DW.dt (AL (k7 (dZ (Ca (kit_tuple _) rfl T.aC rfl T.B8 PyProof.Rows.Boot.«tuple» (dv 0)))) (A0 (bq (wz hr.units) cZ (lE rfl T.qW (aa (dv 0) ag)) ah (aR _))))) (ar (aE pO)) bw)
    (aj (oK (dv 0) (oF (n := 3) rfl (bR (bF (i := 1) S.nd rfl (Or.inl rfl)) (bR (bF (i := 2) S.nd rfl (Or.inl rfl)) (bR (bF (i := 3) S.nd rfl (Or.inl rfl)) kG)))))
    (aj (cI (DW.dt (AL (k7 (dZ (ai lG (hr.mono (by decide)) rfl T.tF T.tH T.tf (aa (dv 1) ag)))) (AL (k7 (dZ (ai lG (hr.mono (by decide)) rfl T.tF T.tH T.tf (aa (dv 2) ag)))) (A0 (k7 (dZ (ai lG (hr.mono (by decide)) rfl T.tF T.tH T.tf (aa (dv 3) ag)))))))) (ar (aE pO)) bw)
    (ar (aE (BB (ix Ay iR (dv 3) ah (aR _)) (AN (ix (d6 hr.units) cZ (ai dr (hr.mono (by decide)) rfl T.ng T.nR T.nG (aa (dv 1) (aa (dv 2) (aa (dv 3) ag)))) ah (aR _))))))))), fun ds μ Qd h => BA h⟩)
theorem HW : aD ["a", "b", "c", "divisor"] ["a", "b", "c"] (aq nQ) := ⟨rfl, rfl, rfl, by decide +kernel, rfl, by decide +kernel, by decide +kernel⟩
theorem IJ (T : TX e) (dr : iS e) : kS e := by
  have S := HW
  exact T.Ko.okD S (fun ds μ Q h => uX h) (fun cdv A outer s H E hr => ⟨wG, (aj (cI (bq (d6 hr.units) cZ (dv 2) ah (aR _)) (ar uN) bw)
    (aj (aJ (i := 3) S.nd rfl (Or.inl rfl) (ai dr (hr.mono (by decide)) rfl T.ng T.nR T.nG (aa (dv 0) (aa (dv 1) (aa (dv 2) ag)))))
    (aj (cI (bq w9 iR (dv 2) ah (aR _)) (ar (aJ (i := 3) S.nd rfl (Or.inl rfl) (lF (dv 3)))) bw)
    (ar (aE (aG (aa (mx (dv 0) (dv 3)) (aa (mx (dv 1) (dv 3)) (aa (mx (dv 2) (dv 3)) ag))))))))), fun ds μ Qd h => IC h⟩)
theorem CY : aD ["d", "x"] ["d", "x"] (aq jD) := ⟨rfl, rfl, rfl, by decide +kernel, rfl, by decide +kernel, by decide +kernel⟩
theorem C3 (T : TX e) (cQ : lI e) : xc e := by
  have S := CY
  exact T.Fw.okD S (fun ds μ Q h => zx h) (fun cdv A outer s H E hr => ⟨qg, (ar (aE (BB (ix (d6 hr.units) cZ (aw (dv 1) ah (fun _ _ => rfl)) ah (aR _)) (AN (ix Ay iR (ai cQ (hr.mono (by decide)) rfl T.kM T.kR T.kQ (aa (dv 0) (aa (dv 1) ag))) ah (aR _)))))), fun ds μ Qd h => CW h⟩)
theorem tu : aD ["u", "v", "place", "kind"] ["u", "v", "place"] (aq cS) := ⟨rfl, rfl, rfl, by decide +kernel, rfl, by decide +kernel, by decide +kernel⟩
theorem sN (T : TX e) (dw : iW e) : lP e := by
  have S := tu
  exact T.uD.okD S (fun ds μ Q h => zf h) (fun cdv A outer s H E hr => ⟨gK, (aj (aJ (i := 3) S.nd rfl (Or.inl rfl) (aG (aa aY (aa (dv 2) ag))))
    (ar (aE (ai dw (hr.mono (by decide)) rfl T.nj T.nc T.nA (aa (dv 0) (aa (dv 3) (aa (dv 1) (aa (aG (aa aY (aa (dv 3) ag))) ag)))))))), fun ds μ Qd h => tj h⟩)
theorem Ah : aD ["d", "kinds"] ["d", "kinds"] (aq fJ) := ⟨rfl, rfl, rfl, by decide +kernel, rfl, by decide +kernel, by decide +kernel⟩
theorem zk (T : TX e) (cQ : lI e) (fo : uk e) : mL e := by
  have S := Ah
  exact T.BV.okD S (fun ds μ Q h => D4 h) (fun cdv A outer s H E hr => ⟨mG, (ar (aE (BM (N' := ["kind", "d"]) (cap := [none, some 0]) rfl (Gj (dv 1)) (fun _ _ _ => (bF (i := 0) (show List.Nodup (["kind", "d"] : List Str) by decide +kernel) rfl (Or.inl rfl))) (fun _ _ _ => zd) (fun _ _ _ => (ai cQ (hr.mono (by decide)) rfl T.kM T.kR T.kQ (aa (dv 1) (aa (ai fo (hr.mono (by decide)) rfl T.n9 T.oM T.oW (aa (dv 0) ag)) ag)))) rfl (by decide +kernel) rfl (by decide +kernel) (by intro _ _ h; first | exact h | exact cl1 h | exact cl2 (by decide +kernel) h | exact cl3 (by decide +kernel) h | exact bj (aO rfl cB) _ _ h | exact bj (aO rfl (aO rfl cB)) _ _ h | exact bj (aO rfl (aO rfl (aO rfl cB))) _ _ h | cases h) (iQ rfl) rfl (n6 ⟨Oq, trivial⟩)))), fun ds μ Qd h => zW h⟩)
theorem B9 : aD ["_law_x", "_law_y"] ["_law_x", "_law_y"] (aq hW) := ⟨rfl, rfl, rfl, by decide +kernel, rfl, by decide +kernel, by decide +kernel⟩
theorem AZ (T : TX e) (bH : eY e) : ub e := by
  have S := B9
  exact T.DP.okD S (fun ds μ Q h => yo h) (fun cdv A outer s H E hr => ⟨uJ, (ar (aE (ai bH (hr.mono (by decide)) rfl T.jb T.ji T.jA (aa (eT (aM (aw (dv 0) ah (fun _ _ => rfl)) (aw (dv 1) ah (fun _ _ => rfl))) (aM (aw (dv 1) ah (fun _ _ => rfl)) (aw (dv 0) ah (fun _ _ => rfl)))) (aa (eT (aM (aw (dv 0) ah (fun _ _ => rfl)) (aw (dv 1) ah (fun _ _ => rfl))) (aM (aw (dv 1) ah (fun _ _ => rfl)) (aw (dv 0) ah (fun _ _ => rfl)))) (aa (aM (aw (dv 0) ah (fun _ _ => rfl)) (aw (dv 1) ah (fun _ _ => rfl))) ag)))))), fun ds μ Qd h => Cc h⟩)
theorem zl : aD ["_law_d", "_law_x", "_law_y"] ["_law_d", "_law_x", "_law_y"] (aq fP) := ⟨rfl, rfl, rfl, by decide +kernel, rfl, by decide +kernel, by decide +kernel⟩
theorem zN (T : TX e) (bH : eY e) : mS e := by
  have S := zl
  exact T.Bx.okD S (fun ds μ Q h => w4 h) (fun cdv A outer s H E hr => ⟨si, (ar (aE (ai bH (hr.mono (by decide)) rfl T.jb T.ji T.jA (aa (eT (aM (aw (dv 1) ah (fun _ _ => rfl)) (aw (dv 2) ah (fun _ _ => rfl))) (aM (aM (dv 0) (aw (dv 1) ah (fun _ _ => rfl))) (aw (dv 2) ah (fun _ _ => rfl)))) (aa (eT (aM (aw (dv 1) ah (fun _ _ => rfl)) (aw (dv 2) ah (fun _ _ => rfl))) (aM (aw (dv 1) ah (fun _ _ => rfl)) (aw (dv 2) ah (fun _ _ => rfl)))) (aa (aM (aw (dv 1) ah (fun _ _ => rfl)) (aw (dv 2) ah (fun _ _ => rfl))) ag)))))), fun ds μ Qd h => zT h⟩)
theorem wa : aD ["_law_d", "_law_x"] ["_law_d", "_law_x"] (aq dO) := ⟨rfl, rfl, rfl, by decide +kernel, rfl, by decide +kernel, by decide +kernel⟩
theorem vS (T : TX e) (bH : eY e) : jm e := by
  have S := wa
  exact T.xt.okD S (fun ds μ Q h => qm h) (fun cdv A outer s H E hr => ⟨i8, (ar (aE (ai bH (hr.mono (by decide)) rfl T.jb T.ji T.jA (aa (aM (aw (dv 1) ah (fun _ _ => rfl)) (aw (dv 1) ah (fun _ _ => rfl))) (aa (iN ah (aM (aw (dv 1) ah (fun _ _ => rfl)) (aw (dv 1) ah (fun _ _ => rfl)))) (aa (iN (aM (aw (dv 1) ah (fun _ _ => rfl)) (aw (dv 1) ah (fun _ _ => rfl))) (aM (aM (dv 0) (aw (dv 1) ah (fun _ _ => rfl))) (aw (dv 1) ah (fun _ _ => rfl)))) ag)))))), fun ds μ Qd h => vT h⟩)
theorem x6 : aD ["_law_bag_here", "_law_wide", "_law_a", "_law_b", "_law_c", "_law_way"] ["_law_bag_here"] (aq eR) := ⟨rfl, rfl, rfl, by decide +kernel, rfl, by decide +kernel, by decide +kernel⟩
theorem yd (T : TX e) (ay : cL e) (bH : eY e) : pY e := by
  have S := x6
  exact T.zv.okD S (fun ds μ Q h => zH h) (fun cdv A outer s H E hr => ⟨kX, (aj (aJ (i := 1) S.nd rfl (Or.inl rfl) (aw (dD (aa ah (aa ah (aa ah (aa ah ag))))) (ai ay (hr.mono (by decide)) rfl T.aX T.aW T.aV (aa (dv 0) (aa ah ag))) (fun _ _ => rfl)))
    (aj (qE (i := 2) (j := 3) rfl S.nd rfl rfl (by decide) rfl rfl (aa (iN (ai ay (hr.mono (by decide)) rfl T.aX T.aW T.aV (aa (dv 0) (aa (dv 1) ag))) (mx (dv 1) ah)) (aa (iN (ai ay (hr.mono (by decide)) rfl T.aX T.aW T.aV (aa (dv 0) (aa (dv 1) ag))) (mx (dv 1) ah)) ag)) rfl)
    (aj (aJ (i := 4) S.nd rfl (Or.inl rfl) (eT ah (ai ay (hr.mono (by decide)) rfl T.aX T.aW T.aV (aa (dv 0) (aa (iN (dv 1) ah) ag)))))
    (aj (aJ (i := 5) S.nd rfl (Or.inl rfl) (ai ay (hr.mono (by decide)) rfl T.aX T.aW T.aV (aa (dv 0) (aa ah ag))))
    (ar (aE (ai bH (hr.mono (by decide)) rfl T.jb T.ji T.jA (aa (aw (dD (aa (dv 2) (aa (dv 2) (aa (dv 2) (aa (dv 2) (aa (dv 2) (aa (dv 2) (aa (dv 2) (aa ah ag))))))))) (dv 5) (fun _ _ => rfl)) (aa (aw (dD (aa (dv 3) (aa (dv 3) (aa (dv 3) (aa (dv 3) (aa (dv 3) (aa ah (aa ah (aa (dv 3) ag))))))))) (dv 5) (fun _ _ => rfl)) (aa (aw (dD (aa (dv 4) (aa (dv 4) (aa ah (aa (dv 4) (aa ah (aa (dv 4) (aa ah (aa (dv 4) ag))))))))) (dv 5) (fun _ _ => rfl)) ag)))))))))), fun ds μ Qd h => yx h⟩)
theorem vW : aD ["_law_bag_here", "_law_wide"] ["_law_bag_here"] (aq dM) := ⟨rfl, rfl, rfl, by decide +kernel, rfl, by decide +kernel, by decide +kernel⟩
theorem wj (T : TX e) (ay : cL e) (bH : eY e) : nE e := by
  have S := vW
  exact T.xk.okD S (fun ds μ Q h => Dk h) (fun cdv A outer s H E hr => ⟨jk, (aj (aJ (i := 1) S.nd rfl (Or.inl rfl) (aw (dD (aa ah (aa ah (aa ah (aa ah ag))))) (ai ay (hr.mono (by decide)) rfl T.aX T.aW T.aV (aa (dv 0) (aa ah ag))) (fun _ _ => rfl)))
    (ar (aE (ai bH (hr.mono (by decide)) rfl T.jb T.ji T.jA (aa (eT ah (ai ay (hr.mono (by decide)) rfl T.aX T.aW T.aV (aa (dv 0) (aa (dv 1) ag)))) (aa ah (aa (eT ah (ai ay (hr.mono (by decide)) rfl T.aX T.aW T.aV (aa (dv 0) (aa (dv 1) ag)))) ag))))))), fun ds μ Qd h => wo h⟩)
theorem LX : aD ["x", "y"] ["x", "y"] (aq vI) := ⟨rfl, rfl, rfl, by decide +kernel, rfl, by decide +kernel, by decide +kernel⟩
theorem fI (T : TX e) (dA : kS e) : AU e := by
  have S := LX
  exact T.PL.okD S (fun ds μ Q h => yo h) (fun cdv A outer s H E hr => ⟨Ce, (ar (aE (ai dA (hr.mono (by decide)) rfl T.qB T.qy T.qT (aa (eT (aM (aw (dv 0) ah (fun _ _ => rfl)) (aw (dv 1) ah (fun _ _ => rfl))) (aM (aw (dv 1) ah (fun _ _ => rfl)) (aw (dv 0) ah (fun _ _ => rfl)))) (aa (eT (aM (aw (dv 0) ah (fun _ _ => rfl)) (aw (dv 1) ah (fun _ _ => rfl))) (aM (aw (dv 1) ah (fun _ _ => rfl)) (aw (dv 0) ah (fun _ _ => rfl)))) (aa (aM (aw (dv 0) ah (fun _ _ => rfl)) (aw (dv 1) ah (fun _ _ => rfl))) ag)))))), fun ds μ Qd h => GP h⟩)
theorem Mh : aD ["x", "y"] ["x", "y"] (aq wO) := ⟨rfl, rfl, rfl, by decide +kernel, rfl, by decide +kernel, by decide +kernel⟩
theorem pj (T : TX e) (dA : kS e) : Cj e := by
  have S := Mh
  exact T.Pf.okD S (fun ds μ Q h => Fp h) (fun cdv A outer s H E hr => ⟨Cv, (ar (aE (ai dA (hr.mono (by decide)) rfl T.qB T.qy T.qT (aa (iN (aM (aw (dv 0) ah (fun _ _ => rfl)) (aw (dv 1) ah (fun _ _ => rfl))) (aM (aw (dv 1) ah (fun _ _ => rfl)) (aw (dv 0) ah (fun _ _ => rfl)))) (aa (iN (aM (aw (dv 0) ah (fun _ _ => rfl)) (aw (dv 1) ah (fun _ _ => rfl))) (aM (aw (dv 1) ah (fun _ _ => rfl)) (aw (dv 0) ah (fun _ _ => rfl)))) (aa (aM (aw (dv 0) ah (fun _ _ => rfl)) (aw (dv 1) ah (fun _ _ => rfl))) ag)))))), fun ds μ Qd h => LV h⟩)
theorem Lv : aD ["d", "x", "y"] ["d", "x", "y"] (aq rL) := ⟨rfl, rfl, rfl, by decide +kernel, rfl, by decide +kernel, by decide +kernel⟩
theorem aQ (T : TX e) (dA : kS e) : nU e := by
  have S := Lv
  exact T.L4.okD S (fun ds μ Q h => w4 h) (fun cdv A outer s H E hr => ⟨yJ, (ar (aE (ai dA (hr.mono (by decide)) rfl T.qB T.qy T.qT (aa (eT (aM (aw (dv 1) ah (fun _ _ => rfl)) (aw (dv 2) ah (fun _ _ => rfl))) (aM (aM (dv 0) (aw (dv 1) ah (fun _ _ => rfl))) (aw (dv 2) ah (fun _ _ => rfl)))) (aa (eT (aM (aw (dv 1) ah (fun _ _ => rfl)) (aw (dv 2) ah (fun _ _ => rfl))) (aM (aw (dv 1) ah (fun _ _ => rfl)) (aw (dv 2) ah (fun _ _ => rfl)))) (aa (aM (aw (dv 1) ah (fun _ _ => rfl)) (aw (dv 2) ah (fun _ _ => rfl))) ag)))))), fun ds μ Qd h => CM h⟩)
theorem DU : aD ["d", "x", "norm"] ["d", "x"] (aq jB) := ⟨rfl, rfl, rfl, by decide +kernel, rfl, by decide +kernel, by decide +kernel⟩
theorem aK (T : TX e) (dA : kS e) : jN e := by
  have S := DU
  exact T.Fh.okD S (fun ds μ Q h => qm h) (fun cdv A outer s H E hr => ⟨qC, (aj (aJ (i := 2) S.nd rfl (Or.inl rfl) (iN (aM (aw (dv 1) ah (fun _ _ => rfl)) (aw (dv 1) ah (fun _ _ => rfl))) (aM (aM (dv 0) (aw (dv 1) ah (fun _ _ => rfl))) (aw (dv 1) ah (fun _ _ => rfl)))))
    (ar (aE (ai dA (hr.mono (by decide)) rfl T.qB T.qy T.qT (aa (aM (aw (dv 1) ah (fun _ _ => rfl)) (aw (dv 1) ah (fun _ _ => rfl))) (aa (aM (lF (aw (dv 1) ah (fun _ _ => rfl))) (aw (dv 1) ah (fun _ _ => rfl))) (aa (dv 2) ag))))))), fun ds μ Qd h => C7 h⟩)
theorem tQ : aD ["d", "thing"] ["d", "thing"] (aq cU) := ⟨rfl, rfl, rfl, by decide +kernel, rfl, by decide +kernel, by decide +kernel⟩
theorem sZ (T : TX e) (qd : uB e) (cQ : lI e) : ez e := by
  have S := tQ
  exact T.vk.okD S (fun ds μ Q h => Bi h) (fun cdv A outer s H E hr => ⟨gL, (ar (aE (BB (ai qd (hr.mono (by decide)) rfl T.Dm T.EG T.D9 (aa (dv 1) ag)) (AN (ix (d6 hr.units) cZ (ai cQ (hr.mono (by decide)) rfl T.kM T.kR T.kQ (aa (dv 0) (aa (dv 1) ag))) ah (aR _)))))), fun ds μ Qd h => sO h⟩)
theorem Af : aD ["_law_bag_here", "_law_d", "_law_x", "_law_sign_here"] ["_law_bag_here", "_law_d"] (aq fB) := ⟨rfl, rfl, rfl, by decide +kernel, rfl, by decide +kernel, by decide +kernel⟩
theorem zE (T : TX e) (mK : pY e) (qH : vm e) (ay : cL e) (fD : mr e) : jG e := by
  have S := Af
  exact T.Cu.okD S (fun ds μ Q h => Ck h) (fun cdv A outer s H E hr => ⟨mC, (aj (aJ (i := 2) S.nd rfl (Or.inl rfl) (ai mK (hr.mono (by decide)) rfl T.zO T.zZ T.zM (aa (dv 0) ag)))
    (aj (aJ (i := 3) S.nd rfl (Or.inl rfl) (ai qH (hr.mono (by decide)) rfl T.EH T.EK T.Dc (aa (dv 1) (aa (dv 2) ag))))
    (aj (cI (bq (d6 hr.units) cZ (dv 3) ah (aR _)) (ar (aE (aG (aa (eT ah (ai ay (hr.mono (by decide)) rfl T.aX T.aW T.aV (aa (dv 0) (aa ah ag)))) (aa ah (aa ah ag)))))) bw)
    (ar (aE (wZ (bq ny iR (dv 3) ah (aR _)) (dv 2) (ai fD (hr.mono (by decide)) rfl T.uT T.vo T.vA (aa (dv 2) ag)))))))), fun ds μ Qd h => zV h⟩)
theorem My : aD ["d", "x", "y"] ["d", "x", "y"] (aq vO) := ⟨rfl, rfl, rfl, by decide +kernel, rfl, by decide +kernel, by decide +kernel⟩
theorem MR (T : TX e) (cY : nU e) (cH : jN e) : vE e := by
  have S := My
  exact T.PB.okD S (fun ds μ Q h => FR h) (fun cdv A outer s H E hr => ⟨Cr, (aj (cI (bq (d6 hr.units) cZ (dv 2) (gu rfl T.lj) (aR _)) (ar uN) bw)
    (ar (aE (ai cY (hr.mono (by decide)) rfl T.kH T.kK T.ko (aa (dv 0) (aa (dv 1) (aa (ai cH (hr.mono (by decide)) rfl T.k9 T.lJ T.lN (aa (dv 0) (aa (dv 2) ag))) ag))))))), fun ds μ Qd h => L5 h⟩)
theorem ib : aD ["d", "thing"] ["d", "thing"] (aq bN) := ⟨rfl, rfl, rfl, by decide +kernel, rfl, by decide +kernel, by decide +kernel⟩
theorem ig (T : TX e) (bK : ez e) : dF e := by
  have S := ib
  exact T.iT.okX S (fun ds μ Xk h => xR h) (fun cdv A outer s H E hr => ⟨bX, (jO (Nb (k7 (dZ (ai bK (hr.mono (by decide)) rfl T.iH T.iu T.il (aa (dv 0) (aa (dv 1) ag))))) (jO (Di rA rfl T.tm T.tR)) AB)), fun ds μ Xk h => ie h⟩)
theorem mY (T : TX e) (bK : ez e) : cT e := by
  have S := ib
  exact T.iT.okD S (fun ds μ Q h => xy h) (fun cdv A outer s H E hr => ⟨d5, (ar (cI (k7 (dZ (ai bK (hr.mono (by decide)) rfl T.iH T.iu T.il (aa (dv 0) (aa (dv 1) ag))))) (ar uN) bw)), fun ds μ Qd h => nB h⟩)
theorem CQ : aD ["d", "thing"] ["d", "thing"] (aq jv) := ⟨rfl, rfl, rfl, by decide +kernel, rfl, by decide +kernel, by decide +kernel⟩
theorem DH (T : TX e) (bK : ez e) : pX e := by
  have S := CQ
  exact T.EW.okD S (fun ds μ Q h => Bl h) (fun cdv A outer s H E hr => ⟨qD, (aj (cI (DW.dt (AL (k7 (dZ (Ca (kit_tuple _) rfl T.aC rfl T.B8 PyProof.Rows.Boot.«tuple» (dv 1)))) (AL (bq w9 iR (lE rfl T.qW (aa (dv 1) ag)) ah (aR _)) (A0 (bq ny iR (lE rfl T.qW (aa (dv 1) ag)) (Hw (u := .int 3) rfl T.BC ⟨_, rfl⟩ (fun _ _ _ => Rp.int 3)) (aR _)))))) (ar (aE pO)) bw)
    (ar (aE (EY rfl rfl T.Kn (aa (BM (N' := ["kind", "d"]) (cap := [none, some 0]) rfl (Gj (dv 1)) (fun _ _ _ => (bF (i := 0) (show List.Nodup (["kind", "d"] : List Str) by decide +kernel) rfl (Or.inl rfl))) (fun _ _ _ => zd) (fun _ _ _ => (ai bK (hr.mono (by decide)) rfl T.iH T.iu T.il (aa (dv 1) (aa (dv 0) ag)))) rfl (by decide +kernel) rfl (by decide +kernel) (by intro _ _ h; first | exact h | exact cl1 h | exact cl2 (by decide +kernel) h | exact cl3 (by decide +kernel) h | exact bj (aO rfl cB) _ _ h | exact bj (aO rfl (aO rfl cB)) _ _ h | exact bj (aO rfl (aO rfl (aO rfl cB))) _ _ h | cases h) (iQ rfl) rfl (n6 ⟨Oq, trivial⟩)) ag))))), fun ds μ Qd h => Dr h⟩)
theorem LR : aD ["shape", "way"] ["shape", "way"] (aq wy) := ⟨rfl, rfl, rfl, by decide +kernel, rfl, by decide +kernel, by decide +kernel⟩
theorem rC (T : TX e) (wJ : Cj e) (fo : uk e) (wx : AU e) : Hq e := by
  have S := LR
  exact T.Pp.okD S (fun ds μ Q h => Fu h) (fun cdv A outer s H E hr => ⟨Bg, (ar (aE (wZ (bq ny iR (dv 1) ah (aR _)) (ai wJ (hr.mono (by decide)) rfl T.Ln T.Ks T.LA (aa (dv 0) (aa (ai fo (hr.mono (by decide)) rfl T.n9 T.oM T.oW (aa (dv 0) ag)) ag))) (ai wx (hr.mono (by decide)) rfl T.Lx T.Jf T.Kx (aa (dv 0) (aa (ai fo (hr.mono (by decide)) rfl T.n9 T.oM T.oW (aa (dv 0) ag)) ag)))))), fun ds μ Qd h => M4 h⟩)
theorem qN : aD ["d", "kinds", "place", "kind", "plan"] ["d", "kinds", "place"] (aq cw) := ⟨rfl, rfl, rfl, by decide +kernel, rfl, by decide +kernel, by decide +kernel⟩
theorem qP (T : TX e) (cE : gj e) (cH : jN e) : jV e := by
  have S := qN
  exact T.rQ.okD S (fun ds μ Q h => Aj h) (fun cdv A outer s H E hr => ⟨fm, (aj (aJ (i := 3) S.nd rfl (Or.inl rfl) (aw (dv 1) (dv 2) (fun _ _ => rfl)))
    (aj (aJ (i := 4) S.nd rfl (Or.inl rfl) (aG (aa aY (aa (dv 2) ag))))
    (aj (cI (dZ (ai cE (hr.mono (by decide)) rfl T.kU T.ly T.lQ (aa (ai cH (hr.mono (by decide)) rfl T.k9 T.lJ T.lN (aa (dv 0) (aa (dv 3) ag))) ag))) (ar (aE (aG (aa (ai cH (hr.mono (by decide)) rfl T.k9 T.lJ T.lN (aa (dv 0) (aa (dv 3) ag))) (aa (aG (aa aY (aa (dv 4) ag))) ag))))) bw)
    (ar (aE (aG (aa (dv 3) (aa (dv 4) ag)))))))), fun ds μ Qd h => qF h⟩)
theorem zI : aD ["_law_bag_here", "_law_d", "_law_found", "_law_turn", "_law_way", "_law_part", "_law_kind"] ["_law_bag_here", "_law_d"] (aq fz) := ⟨rfl, rfl, rfl, by decide +kernel, rfl, by decide +kernel, by decide +kernel⟩
theorem zr (T : TX e) (cj : jG e) (ay : cL e) (dJ : jm e) (bJ : mS e) (bH : eY e) : sC e := by
  have S := zI
  exact T.A2.okD S (fun ds μ Q h => B6 h) (fun cdv A outer s H E hr => ⟨mz, (aj (aJ (i := 2) S.nd rfl (Or.inl rfl) (HL (aa (ai cj (hr.mono (by decide)) rfl T.iD T.iy T.iG (aa (dv 0) (aa (dv 1) ag))) ag)))
    (aj (B4 PassesOwn.never rfl (BD rfl T.uz (aa (ai ay (hr.mono (by decide)) rfl T.aX T.aW T.aV (aa (dv 0) (aa ah ag))) ag)) (bF (i := 3) S.nd rfl (Or.inl rfl)) (aj (aJ (i := 4) S.nd rfl (Or.inl rfl) (ai ay (hr.mono (by decide)) rfl T.aX T.aW T.aV (aa (dv 0) (aa ah ag))))
    (aj (aJ (i := 5) S.nd rfl (Or.inl rfl) (aG (aa (eT ah (ai ay (hr.mono (by decide)) rfl T.aX T.aW T.aV (aa (dv 0) (aa ah ag)))) (aa ah (aa (eT ah (ai ay (hr.mono (by decide)) rfl T.aX T.aW T.aV (aa (dv 0) (aa ah ag)))) ag)))))
    (aj (aJ (i := 6) S.nd rfl (Or.inl rfl) (aw (dD (aa (aw (dv 2) ah (fun _ _ => rfl)) (aa (ai dJ (hr.mono (by decide)) rfl T.pH T.pN T.pM (aa (dv 1) (aa (aw (dv 2) ah (fun _ _ => rfl)) ag))) ag))) (mE (dv 4) ah) (fun _ _ => rfl)))
    (aj (cI (bq ny iR (dv 4) ah (aR _)) (ar (aJ (i := 6) S.nd rfl (Or.inl rfl) (ai cj (hr.mono (by decide)) rfl T.iD T.iy T.iG (aa (dv 0) (aa (dv 1) ag))))) (ar (cI (bq ny iR (dv 4) ah (aR _)) (ar (aJ (i := 6) S.nd rfl (Or.inl rfl) (ai bJ (hr.mono (by decide)) rfl T.cK T.cM T.cJ (aa (dv 1) (aa (dv 6) (aa (ai bH (hr.mono (by decide)) rfl T.jb T.ji T.jA (aa (aw (dv 5) ah (fun _ _ => rfl)) (aa (aw (dv 5) ah (fun _ _ => rfl)) (aa (aw (dv 5) ah (fun _ _ => rfl)) ag)))) ag)))))) bw)))
    (ar (lZ (IQ (dv 2) (dv 6)))))))))
    (ar (aE (Kw rfl T.B8 (aa (dv 2) ag)))))), fun ds μ Qd h => zS h⟩)
theorem uS : aD ["_law_bag_here", "_law_d", "_law_x", "_law_some"] ["_law_bag_here", "_law_d"] (aq dk) := ⟨rfl, rfl, rfl, by decide +kernel, rfl, by decide +kernel, by decide +kernel⟩
theorem uE (T : TX e) (cj : jG e) (tE : xb e) (fD : mr e) (ay : cL e) : iq e := by
  have S := uS
  exact T.wq.okD S (fun ds μ Q h => xV h) (fun cdv A outer s H E hr => ⟨iE, (aj (aJ (i := 2) S.nd rfl (Or.inl rfl) (ai cj (hr.mono (by decide)) rfl T.iD T.iy T.iG (aa (dv 0) (aa (dv 1) ag))))
    (aj (aJ (i := 3) S.nd rfl (Or.inl rfl) (dD (aa (ai tE (hr.mono (by decide)) rfl T.Fl T.FA T.E6 (aa (dv 0) ag)) (aa (ai fD (hr.mono (by decide)) rfl T.uT T.vo T.vA (aa (dv 2) ag)) (aa (aG (aa ah (aa ah (aa ah ag)))) (aa (aG (aa (aM (aw (dv 2) ah (fun _ _ => rfl)) ah) (aa (aM (aw (dv 2) ah (fun _ _ => rfl)) ah) (aa (aM (aw (dv 2) ah (fun _ _ => rfl)) ah) ag)))) (aa (aG (aa (aw (dv 2) ah (fun _ _ => rfl)) (aa (aw (dv 2) ah (fun _ _ => rfl)) (aa (iN ah (aw (dv 2) ah (fun _ _ => rfl))) ag)))) (aa (HD rfl T.JB (aa (dv 2) ag)) (aa (vB (dv 2) xH (xK ah)) (aa (mh (dv 2) (aG (aa ah ag))) (aa (aG (aa (aw (dv 2) ah (fun _ _ => rfl)) (aa yR (aa (aw (dv 2) ah (fun _ _ => rfl)) ag)))) (aa (aG (aa pO (aa ah (aa ah ag)))) (aa (aG (aa ah (aa ah (aa pO ag)))) (aa (aG (aa (dv 2) ag)) ag))))))))))))))
    (ar (aE (aw (dv 3) (ai ay (hr.mono (by decide)) rfl T.aX T.aW T.aV (aa (dv 0) (aa ah ag))) (fun _ _ => rfl)))))), fun ds μ Qd h => vq h⟩)
theorem zJ : aD ["_law_bag_here", "_law_d", "_law_kinds_here", "_law_kind", "_law_other", "_law_u", "_law_v", "_law_way", "_law_turned_kind", "_law_some"] ["_law_bag_here", "_law_d", "_law_kinds_here"] (aq fM) := ⟨rfl, rfl, rfl, by decide +kernel, rfl, by decide +kernel, by decide +kernel⟩
theorem zR (T : TX e) (ay : cL e) (gw : nE e) (dJ : jm e) (cj : jG e) (bJ : mS e) (ic : ub e) : sA e := by
  have S := zJ
  exact T.BF.okD S (fun ds μ Q h => BZ h) (fun cdv A outer s H E hr => ⟨mJ, (aj (aJ (i := 3) S.nd rfl (Or.inl rfl) (aw (dv 2) (ai ay (hr.mono (by decide)) rfl T.aX T.aW T.aV (aa (dv 0) (aa (lE rfl T.qW (aa (dv 2) ag)) ag))) (fun _ _ => rfl)))
    (aj (aJ (i := 4) S.nd rfl (Or.inl rfl) (aw (dv 2) (ai ay (hr.mono (by decide)) rfl T.aX T.aW T.aV (aa (dv 0) (aa (lE rfl T.qW (aa (dv 2) ag)) ag))) (fun _ _ => rfl)))
    (aj (qE (i := 5) (j := 6) rfl S.nd rfl rfl (by decide) rfl rfl (aa (ai gw (hr.mono (by decide)) rfl T.pK T.pF T.pE (aa (dv 0) ag)) (aa (ai gw (hr.mono (by decide)) rfl T.pK T.pF T.pE (aa (dv 0) ag)) ag)) rfl)
    (aj (aJ (i := 7) S.nd rfl (Or.inl rfl) (ai ay (hr.mono (by decide)) rfl T.aX T.aW T.aV (aa (dv 0) (aa ah ag))))
    (aj (aJ (i := 8) S.nd rfl (Or.inl rfl) (ai dJ (hr.mono (by decide)) rfl T.pH T.pN T.pM (aa (dv 1) (aa (dv 3) ag))))
    (aj (aJ (i := 9) S.nd rfl (Or.inl rfl) (dD (aa (ai cj (hr.mono (by decide)) rfl T.iD T.iy T.iG (aa (dv 0) (aa (dv 1) ag))) (aa (ai bJ (hr.mono (by decide)) rfl T.cK T.cM T.cJ (aa (dv 1) (aa (dv 3) (aa (dv 5) ag)))) (aa (ai bJ (hr.mono (by decide)) rfl T.cK T.cM T.cJ (aa (dv 1) (aa (dv 8) (aa (dv 5) ag)))) (aa (ai ic (hr.mono (by decide)) rfl T.lU T.lW T.mq (aa (ai bJ (hr.mono (by decide)) rfl T.cK T.cM T.cJ (aa (dv 1) (aa (dv 3) (aa (dv 5) ag)))) (aa (ai bJ (hr.mono (by decide)) rfl T.cK T.cM T.cJ (aa (dv 1) (aa (dv 8) (aa (dv 6) ag)))) ag))) (aa (ai ic (hr.mono (by decide)) rfl T.lU T.lW T.mq (aa (dv 3) (aa (ai bJ (hr.mono (by decide)) rfl T.cK T.cM T.cJ (aa (dv 1) (aa (dv 4) (aa (dv 6) ag)))) ag))) (aa (dv 5) (aa (ai bJ (hr.mono (by decide)) rfl T.cK T.cM T.cJ (aa (dv 1) (aa (aG (aa ah (aa ah (aa ah ag)))) (aa (dv 5) ag)))) (aa (ai ic (hr.mono (by decide)) rfl T.lU T.lW T.mq (aa (ai bJ (hr.mono (by decide)) rfl T.cK T.cM T.cJ (aa (dv 1) (aa (dv 8) (aa (dv 5) ag)))) (aa (aG (aa ah (aa ah (aa ah ag)))) ag))) (aa (ai ic (hr.mono (by decide)) rfl T.lU T.lW T.mq (aa (ai bJ (hr.mono (by decide)) rfl T.cK T.cM T.cJ (aa (dv 1) (aa (dv 3) (aa (dv 5) ag)))) (aa (ai bJ (hr.mono (by decide)) rfl T.cK T.cM T.cJ (aa (dv 1) (aa (dv 6) (aa (aG (aa ah (aa ah (aa ah ag)))) ag)))) ag))) (aa (ai cj (hr.mono (by decide)) rfl T.iD T.iy T.iG (aa (dv 0) (aa (dv 1) ag))) ag))))))))))))
    (ar (aE (aw (dv 9) (dv 7) (fun _ _ => rfl)))))))))), fun ds μ Qd h => Ab h⟩)
theorem nu : aD ["d", "thing"] ["d", "thing"] (aq dH) := ⟨rfl, rfl, rfl, by decide +kernel, rfl, by decide +kernel, by decide +kernel⟩
theorem lR (T : TX e) (jt : pX e) : fV e := by
  have S := nu
  exact T.pI.okX S (fun ds μ Xk h => zj h) (fun cdv A outer s H E hr => ⟨dG, (jO (Nb (k7 (dZ (ai jt (hr.mono (by decide)) rfl T.yI T.yL T.yr (aa (dv 0) (aa (dv 1) ag))))) (jO (Di rA rfl T.wm T.wA)) AB)), fun ds μ Xk h => lT h⟩)
theorem wQ (T : TX e) (jt : pX e) : fN e := by
  have S := nu
  exact T.pI.okD S (fun ds μ Q h => xj h) (fun cdv A outer s H E hr => ⟨jf, (ar (cI (k7 (dZ (ai jt (hr.mono (by decide)) rfl T.yI T.yL T.yr (aa (dv 0) (aa (dv 1) ag))))) (ar uN) bw)), fun ds μ Qd h => wF h⟩)
theorem vY : aD ["d", "shape", "together"] ["d", "shape"] (aq dP) := ⟨rfl, rfl, rfl, by decide +kernel, rfl, by decide +kernel, by decide +kernel⟩
theorem v5 (T : TX e) (aT : cT e) (wx : AU e) (fo : uk e) (gO : vE e) (cY : nU e) : nC e := by
  have S := vY
  exact T.xC.okD S (fun ds μ Q h => Dh h) (fun cdv A outer s H E hr => ⟨jz, (aj (lZ (ai aT (hr.mono (by decide)) rfl T.ck T.cq T.cm (aa (dv 0) (aa (dv 1) ag))))
    (aj (aJ (i := 2) S.nd rfl (Or.inl rfl) (ai wx (hr.mono (by decide)) rfl T.Lx T.Jf T.Kx (aa (dv 1) (aa (ai fo (hr.mono (by decide)) rfl T.n9 T.oM T.oW (aa (dv 1) ag)) ag))))
    (ar (aE (ai gO (hr.mono (by decide)) rfl T.tq T.tI T.tL (aa (dv 0) (aa (ai cY (hr.mono (by decide)) rfl T.kH T.kK T.ko (aa (dv 0) (aa (dv 2) (aa (dv 2) ag)))) (aa (ai cY (hr.mono (by decide)) rfl T.kH T.kK T.ko (aa (dv 0) (aa (dv 1) (aa (ai fo (hr.mono (by decide)) rfl T.n9 T.oM T.oW (aa (dv 1) ag)) ag)))) ag)))))))), fun ds μ Qd h => wR h⟩)
theorem Cq : aD ["d", "first", "second", "shape", "whole", "part", "of_second", "of_first"] ["d", "first", "second", "shape"] (aq gZ) := ⟨rfl, rfl, rfl, by decide +kernel, rfl, by decide +kernel, by decide +kernel⟩
theorem B5 (T : TX e) (gO : vE e) (dA : kS e) (wJ : Cj e) (cY : nU e) : oQ e := by
  have S := Cq
  exact T.D2.okD S (fun ds μ Q h => A1 h) (fun cdv A outer s H E hr => ⟨pd, (aj (aJ (i := 4) S.nd rfl (Or.inl rfl) (ai gO (hr.mono (by decide)) rfl T.tq T.tI T.tL (aa (dv 0) (aa (dv 3) (aa (dv 1) ag)))))
    (aj (aJ (i := 5) S.nd rfl (Or.inl rfl) (ai gO (hr.mono (by decide)) rfl T.tq T.tI T.tL (aa (dv 0) (aa (dv 2) (aa (dv 1) ag)))))
    (aj (aJ (i := 6) S.nd rfl (Or.inl rfl) (ai dA (hr.mono (by decide)) rfl T.qB T.qy T.qT (aa (aM (aw (dv 4) ah (fun _ _ => rfl)) (aw (dv 5) ah (fun _ _ => rfl))) (aa ah (aa (aM (aw (dv 4) ah (fun _ _ => rfl)) (aw (dv 5) ah (fun _ _ => rfl))) ag)))))
    (aj (aJ (i := 7) S.nd rfl (Or.inl rfl) (ai wJ (hr.mono (by decide)) rfl T.Ln T.Ks T.LA (aa (dv 4) (aa (ai cY (hr.mono (by decide)) rfl T.kH T.kK T.ko (aa (dv 0) (aa (dv 6) (aa (dv 5) ag)))) ag))))
    (ar (aE (aG (aa (dv 7) (aa (dv 6) ag))))))))), fun ds μ Qd h => Bc h⟩)
theorem ET : aD ["d", "kind", "shape", "way", "own", "floor", "turn", "last", "both"] ["d", "kind", "shape"] (aq kL) := ⟨rfl, rfl, rfl, by decide +kernel, rfl, by decide +kernel, by decide +kernel⟩
theorem Gi (T : TX e) (cQ : lI e) (fo : uk e) (Bp : Hq e) (gO : vE e) (cY : nU e) : xQ e := by
  have S := ET
  exact T.Ih.okD S (fun ds μ Q h => Bw h) (fun cdv A outer s H E hr => ⟨tG, (aj (aJ (i := 3) S.nd rfl (Or.inl rfl) (ai cQ (hr.mono (by decide)) rfl T.kM T.kR T.kQ (aa (dv 0) (aa (ai fo (hr.mono (by decide)) rfl T.n9 T.oM T.oW (aa (dv 1) ag)) ag))))
    (aj (cI (bq (wz hr.units) cZ (ai cQ (hr.mono (by decide)) rfl T.kM T.kR T.kQ (aa (dv 0) (aa (ai fo (hr.mono (by decide)) rfl T.n9 T.oM T.oW (aa (dv 2) ag)) ag))) (dv 3) (aR _)) (ar (aE (aG (aa (gu rfl T.JQ) (aa (aG (aa (gu rfl T.lj) (aa (gu rfl T.lj) (aa (gu rfl T.lj) (aa (aG (aa (dv 3) (aa ah (aa ah ag)))) ag))))) ag))))) bw)
    (aj (aJ (i := 4) S.nd rfl (Or.inl rfl) (ai Bp (hr.mono (by decide)) rfl T.Jj T.LM T.K6 (aa (dv 1) (aa (dv 3) ag))))
    (aj (aJ (i := 5) S.nd rfl (Or.inl rfl) (ai Bp (hr.mono (by decide)) rfl T.Jj T.LM T.K6 (aa (dv 2) (aa (dv 3) ag))))
    (aj (aJ (i := 6) S.nd rfl (Or.inl rfl) (ai cQ (hr.mono (by decide)) rfl T.kM T.kR T.kQ (aa (dv 0) (aa (dv 5) ag))))
    (aj (aJ (i := 7) S.nd rfl (Or.inl rfl) (ai gO (hr.mono (by decide)) rfl T.tq T.tI T.tL (aa (dv 0) (aa (ai cY (hr.mono (by decide)) rfl T.kH T.kK T.ko (aa (dv 0) (aa (aG (aa (dv 6) (aa ah (aa ah ag)))) (aa (dv 5) ag)))) (aa (ai fo (hr.mono (by decide)) rfl T.n9 T.oM T.oW (aa (dv 2) ag)) ag)))))
    (aj (aJ (i := 8) S.nd rfl (Or.inl rfl) (ai gO (hr.mono (by decide)) rfl T.tq T.tI T.tL (aa (dv 0) (aa (ai cY (hr.mono (by decide)) rfl T.kH T.kK T.ko (aa (dv 0) (aa (dv 4) (aa (dv 4) ag)))) (aa (ai cY (hr.mono (by decide)) rfl T.kH T.kK T.ko (aa (dv 0) (aa (aG (aa ah (aa ah (aa ah ag)))) (aa (ai cY (hr.mono (by decide)) rfl T.kH T.kK T.ko (aa (dv 0) (aa (dv 1) (aa (ai fo (hr.mono (by decide)) rfl T.n9 T.oM T.oW (aa (dv 1) ag)) ag)))) ag)))) ag)))))
    (ar (aE (aG (aa (gu rfl T.JQ) (aa (aG (aa (ai gO (hr.mono (by decide)) rfl T.tq T.tI T.tL (aa (dv 0) (aa (dv 8) (aa (dv 7) ag)))) (aa (aG (aa (aM (dv 3) (dv 6)) (aa ah (aa ah ag)))) (aa (aG (aa (lF (dv 6)) (aa ah (aa ah ag)))) (aa (dv 7) ag))))) ag)))))))))))), fun ds μ Qd h => EZ h⟩)
theorem uj : aD ["_law_bag_here", "_law_d", "_law_kinds_here", "_law_at", "_law_way"] ["_law_bag_here", "_law_d", "_law_kinds_here"] (aq dq) := ⟨rfl, rfl, rfl, by decide +kernel, rfl, by decide +kernel, by decide +kernel⟩
theorem uO (T : TX e) (ay : cL e) (dj : iq e) : lY e := by
  have S := uj
  exact T.wB.okD S (fun ds μ Q h => xT h) (fun cdv A outer s H E hr => ⟨iI, (aj (aJ (i := 3) S.nd rfl (Or.inl rfl) (ai ay (hr.mono (by decide)) rfl T.aX T.aW T.aV (aa (dv 0) (aa (lE rfl T.qW (aa (dv 2) ag)) ag))))
    (aj (aJ (i := 4) S.nd rfl (Or.inl rfl) (ai ay (hr.mono (by decide)) rfl T.aX T.aW T.aV (aa (dv 0) (aa ah ag))))
    (aj (cI (bq w9 iR (dv 4) ah (aR _)) (ar (aE (mh (mh (vB (dv 2) xH (xK (dv 3))) (aG (aa (ai dj (hr.mono (by decide)) rfl T.nJ T.nI T.nq (aa (dv 0) (aa (dv 1) ag))) ag))) (vB (dv 2) (xK (mh (dv 3) ah)) xH)))) bw)
    (ar (aE (aw (dD (aa (aG ag) (aa (vB (mh (mh (mh (dv 2) (dv 2)) (dv 2)) (dv 2)) xH (xK (mh ah (dv 3)))) (aa (HD rfl T.JB (aa (dv 2) ag)) ag)))) (iN (dv 4) ah) (fun _ _ => rfl))))))), fun ds μ Qd h => u6 h⟩)
theorem zB : aD ["d", "kind", "shape", "shares"] ["d", "kind", "shape"] (aq fO) := ⟨rfl, rfl, rfl, by decide +kernel, rfl, by decide +kernel, by decide +kernel⟩
theorem zD (T : TX e) (aT : cT e) (cY : nU e) (gO : vE e) (hU : oQ e) (cH : jN e) (sP : xc e) (wM : xQ e) : se e := by
  have S := zB
  exact T.B1.okD S (fun ds μ Q h => zQ h) (fun cdv A outer s H E hr => ⟨mH, (aj (lZ (ai aT (hr.mono (by decide)) rfl T.ck T.cq T.cm (aa (dv 0) (aa (dv 1) ag))))
    (aj (lZ (ai aT (hr.mono (by decide)) rfl T.ck T.cq T.cm (aa (dv 0) (aa (dv 2) ag))))
    (aj (cI (bq (d6 hr.units) cZ (aw (ai cY (hr.mono (by decide)) rfl T.kH T.kK T.ko (aa (dv 0) (aa (dv 1) (aa (dv 1) ag)))) ah (fun _ _ => rfl)) ah (aR _)) (ar (aJ (i := 3) S.nd rfl (Or.inl rfl) (aG (aa (ai gO (hr.mono (by decide)) rfl T.tq T.tI T.tL (aa (dv 0) (aa (dv 2) (aa (dv 1) ag)))) (aa (gu rfl T.lj) ag))))) (ar (aJ (i := 3) S.nd rfl (Or.inl rfl) (ai hU (hr.mono (by decide)) rfl T.wX T.xf T.xa (aa (dv 0) (aa (dv 1) (aa (ai cH (hr.mono (by decide)) rfl T.k9 T.lJ T.lN (aa (dv 0) (aa (dv 1) ag))) (aa (dv 2) ag))))))))
    (aj (cI (dZ (EY rfl rfl T.Kn (aa (BM (N' := ["share", "d"]) (cap := [none, some 0]) rfl (Gj (dv 3)) (fun _ _ _ => (bF (i := 0) (show List.Nodup (["share", "d"] : List Str) by decide +kernel) rfl (Or.inl rfl))) (fun _ _ _ => zd) (fun _ _ _ => (ai sP (hr.mono (by decide)) rfl T.FI T.E2 T.E5 (aa (dv 1) (aa (dv 0) ag)))) rfl (by decide +kernel) rfl (by decide +kernel) (by intro _ _ h; first | exact h | exact cl1 h | exact cl2 (by decide +kernel) h | exact cl3 (by decide +kernel) h | exact bj (aO rfl cB) _ _ h | exact bj (aO rfl (aO rfl cB)) _ _ h | exact bj (aO rfl (aO rfl (aO rfl cB))) _ _ h | cases h) (iQ rfl) rfl (n6 ⟨Oq, trivial⟩)) ag))) (ar (aE (aG (aa aY (aa (aw (dv 3) ah (fun _ _ => rfl)) (aa (aw (dv 3) ah (fun _ _ => rfl)) ag)))))) bw)
    (ar (aE (aG (aa aY (aa (ai wM (hr.mono (by decide)) rfl T.IE T.Iw T.Iq (aa (dv 0) (aa (dv 1) (aa (dv 2) ag)))) ag))))))))), fun ds μ Qd h => Aa h⟩)
theorem zK : aD ["d", "kind", "other", "a", "b", "c", "other_a", "other_b", "other_c"] ["d", "kind", "other"] (aq fH) := ⟨rfl, rfl, rfl, by decide +kernel, rfl, by decide +kernel, by decide +kernel⟩
theorem zG (T : TX e) (gA : nC e) : sf e := by
  have S := zK
  exact T.AY.okD S (fun ds μ Q h => Fq h) (fun cdv A outer s H E hr => ⟨mB, (aj (oK (ai gA (hr.mono (by decide)) rfl T.pG T.pQ T.pP (aa (dv 0) (aa (dv 1) ag))) (oF (n := 3) rfl (bR (bF (i := 3) S.nd rfl (Or.inl rfl)) (bR (bF (i := 4) S.nd rfl (Or.inl rfl)) (bR (bF (i := 5) S.nd rfl (Or.inl rfl)) kG)))))
    (aj (oK (ai gA (hr.mono (by decide)) rfl T.pG T.pQ T.pP (aa (dv 0) (aa (dv 2) ag))) (oF (n := 3) rfl (bR (bF (i := 6) S.nd rfl (Or.inl rfl)) (bR (bF (i := 7) S.nd rfl (Or.inl rfl)) (bR (bF (i := 8) S.nd rfl (Or.inl rfl)) kG)))))
    (ar (aE (ix ny iR (aM (tK rfl T.yD (aa (dv 3) ag)) (dv 8)) (aM (tK rfl T.yD (aa (dv 6) ag)) (dv 5)) (aR _)))))), fun ds μ Qd h => Ae h⟩)
theorem xx : aD ["d", "kinds", "shape", "signs", "first", "first_plan", "second", "second_plan", "is_contrary", "u", "v", "plan"] ["d", "kinds", "shape"] (aq d8) := ⟨rfl, rfl, rfl, by decide +kernel, rfl, by decide +kernel, by decide +kernel⟩
theorem xB (T : TX e) (fF : mL e) (dX : jV e) (cE : gj e) (hU : oQ e) (cH : jN e) (dw : iW e) : pR e := by
  have S := xx
  exact T.xX.okD S (fun ds μ Q h => Fn h) (fun cdv A outer s H E hr => ⟨j9, (aj (aJ (i := 3) S.nd rfl (Or.inl rfl) (ai fF (hr.mono (by decide)) rfl T.vh T.vt T.ui (aa (dv 0) (aa (dv 1) ag))))
    (aj (oK (ai dX (hr.mono (by decide)) rfl T.kj T.km T.kh (aa (dv 0) (aa (dv 1) (aa (Ef (dv 3) ah) ag)))) (oF (n := 2) rfl (bR (bF (i := 4) S.nd rfl (Or.inl rfl)) (bR (bF (i := 5) S.nd rfl (Or.inl rfl)) kG))))
    (aj (oK (ai dX (hr.mono (by decide)) rfl T.kj T.km T.kh (aa (dv 0) (aa (dv 1) (aa (Ef (dv 3) (lF ah)) ag)))) (oF (n := 2) rfl (bR (bF (i := 6) S.nd rfl (Or.inl rfl)) (bR (bF (i := 7) S.nd rfl (Or.inl rfl)) kG))))
    (aj (aJ (i := 8) S.nd rfl (Or.inl rfl) (ai cE (hr.mono (by decide)) rfl T.kU T.ly T.lQ (aa (dv 2) ag)))
    (aj (oK (ai hU (hr.mono (by decide)) rfl T.wX T.xf T.xa (aa (dv 0) (aa (dv 4) (aa (dv 6) (aa (wZ (dZ (dv 8)) (ai cH (hr.mono (by decide)) rfl T.k9 T.lJ T.lN (aa (dv 0) (aa (dv 2) ag))) (dv 2)) ag))))) (oF (n := 2) rfl (bR (bF (i := 9) S.nd rfl (Or.inl rfl)) (bR (bF (i := 10) S.nd rfl (Or.inl rfl)) kG))))
    (aj (aJ (i := 11) S.nd rfl (Or.inl rfl) (ai dw (hr.mono (by decide)) rfl T.nj T.nc T.nA (aa (dv 9) (aa (dv 5) (aa (dv 10) (aa (dv 7) ag))))))
    (ar (aE (wZ (dZ (dv 8)) (aG (aa aY (aa (dv 11) ag))) (dv 11)))))))))), fun ds μ Qd h => xw h⟩)
theorem zL : aD ["d", "kinds", "signs", "most", "place"] ["d", "kinds"] (aq fS) := ⟨rfl, rfl, rfl, by decide +kernel, rfl, by decide +kernel, by decide +kernel⟩
theorem Ag (T : TX e) (bS : fN e) (fF : mL e) (pq : sf e) : sE e := by
  have S := zL
  exact T.CA.okD S (fun ds μ Q h => Fe h) (fun cdv A outer s H E hr => ⟨my, (aj (lZ (ai bS (hr.mono (by decide)) rfl T.gB T.gy T.gD (aa (dv 0) (aa (dv 1) ag))))
    (aj (aJ (i := 2) S.nd rfl (Or.inl rfl) (ai fF (hr.mono (by decide)) rfl T.vh T.vt T.ui (aa (dv 0) (aa (dv 1) ag))))
    (aj (cI (DW.dt (we (bq (Km hr.units) EV ah (dv 2) (by with_unfolding_all rfl)) (rF (bq (Km hr.units) EV (lF ah) (dv 2) (by with_unfolding_all rfl))))) (ar (aE yR)) bw)
    (aj (aJ (i := 3) S.nd rfl (Or.inl rfl) ah)
    (aj (B4 PassesOwn.never rfl (Gr rfl T.uz (aa ah (aa (lE rfl T.qW (aa (dv 1) ag)) ag))) (bF (i := 4) S.nd rfl (Or.inl rfl)) (ar (cI (dZ (ai pq (hr.mono (by decide)) rfl T.AX T.BY T.BI (aa (dv 0) (aa (aw (dv 1) (dv 4) (fun _ _ => rfl)) (aa (aw (dv 1) (dv 3) (fun _ _ => rfl)) ag))))) (ar (aJ (i := 3) S.nd rfl (Or.inl rfl) (dv 4))) bw)))
    (ar (aE (dv 3)))))))), fun ds μ Qd h => zu h⟩)
theorem oE : aD ["d", "kinds", "shape", "place", "told"] ["d", "kinds", "shape"] (aq g9) := ⟨rfl, rfl, rfl, by decide +kernel, rfl, by decide +kernel, by decide +kernel⟩
theorem pS (T : TX e) (dU : fV e) : eU e := by
  have S := oE
  exact T.qf.okX S (fun ds μ Xk h => rY h) (fun cdv A outer s H E hr => ⟨eS, (jO (Gp (jI dU (hr.mono (by decide)) rfl T.gB T.gy T.gD rA (aa (dv 0) (aa (dv 1) ag))))), fun ds μ Xk h => pT h⟩)
theorem o8 (T : TX e) (bS : fN e) (cg : dF e) : eB e := by
  have S := oE
  exact T.qf.okX S (fun ds μ Xk h => sG h) (fun cdv A outer s H E hr => ⟨eD, (JF (lZ (ai bS (hr.mono (by decide)) rfl T.gB T.gy T.gD (aa (dv 0) (aa (dv 1) ag))))
    (jO (Gp (jI cg (hr.mono (by decide)) rfl T.ck T.cq T.cm rA (aa (dv 0) (aa (dv 2) ag)))))), fun ds μ Xk h => oO h⟩)
theorem CJ (T : TX e) (bS : fN e) (aT : cT e) (oX : sE e) (kY : pR e) (pk : se e) (iJ : lP e) : oi e := by
  have S := oE
  exact T.qf.okD S (fun ds μ Q h => ES h) (fun cdv A outer s H E hr => ⟨oI, (aj (lZ (ai bS (hr.mono (by decide)) rfl T.gB T.gy T.gD (aa (dv 0) (aa (dv 1) ag))))
    (aj (lZ (ai aT (hr.mono (by decide)) rfl T.ck T.cq T.cm (aa (dv 0) (aa (dv 2) ag))))
    (aj (aJ (i := 3) S.nd rfl (Or.inl rfl) (ai oX (hr.mono (by decide)) rfl T.Bu T.A8 T.Bk (aa (dv 0) (aa (dv 1) ag))))
    (aj (cI (bq MP Po (dv 3) yR (aR _)) (ar (aE (aG (aa aY (aa (ai kY (hr.mono (by decide)) rfl T.yA T.x9 T.yZ (aa (dv 0) (aa (dv 1) (aa (dv 2) ag)))) ag))))) bw)
    (aj (aJ (i := 4) S.nd rfl (Or.inl rfl) (ai pk (hr.mono (by decide)) rfl T.BE T.BX T.AQ (aa (dv 0) (aa (aw (dv 1) (dv 3) (fun _ _ => rfl)) (aa (dv 2) ag)))))
    (aj (cI (bq (d6 hr.units) cZ (aw (dv 4) ah (fun _ _ => rfl)) aY (aR _)) (ar (aE (dv 4))) bw)
    (ar (aE (aG (aa aY (aa (ai iJ (hr.mono (by decide)) rfl T.vd T.uq T.uh (aa (aw (dv 4) ah (fun _ _ => rfl)) (aa (aw (dv 4) ah (fun _ _ => rfl)) (aa (dv 3) ag)))) ag))))))))))), fun ds μ Qd h => BO h⟩)
theorem tM : aD ["d", "kinds", "shape"] ["d", "kinds", "shape"] (aq kP) := ⟨rfl, rfl, rfl, by decide +kernel, rfl, by decide +kernel, by decide +kernel⟩
theorem rV (T : TX e) (bL : eU e) : ki e := by
  have S := tM
  exact T.wN.okX S (fun ds μ Xk h => rY h) (fun cdv A outer s H E hr => ⟨gf, (jO (LC (Jx (d6 hr.units) (NQ (jI bL (hr.mono (by decide)) rfl T.fj T.fg T.fh rA (aa (dv 0) (aa (dv 1) (aa (dv 2) ag)))) (fun _ _ => rfl)) (aR _)))), fun ds μ Xk h => rT h⟩)
theorem qI (T : TX e) (bQ : eB e) : jU e := by
  have S := tM
  exact T.wN.okX S (fun ds μ Xk h => sG h) (fun cdv A outer s H E hr => ⟨fq, (jO (LC (Jx (d6 hr.units) (NQ (jI bQ (hr.mono (by decide)) rfl T.fj T.fg T.fh rA (aa (dv 0) (aa (dv 1) (aa (dv 2) ag)))) (fun _ _ => rfl)) (aR _)))), fun ds μ Xk h => qK h⟩)
theorem Gh (T : TX e) (ia : oi e) : sV e := by
  have S := tM
  exact T.wN.okD S (fun ds μ Q h => Fs h) (fun cdv A outer s H E hr => ⟨sQ, (ar (aE (ix (d6 hr.units) cZ (aw (ai ia (hr.mono (by decide)) rfl T.fj T.fg T.fh (aa (dv 0) (aa (dv 1) (aa (dv 2) ag)))) ah (fun _ _ => rfl)) aY (aR _)))), fun ds μ Qd h => Gf h⟩)
theorem eJ : aD ["_law_deed", "e", "_law_some", "_law_names"] ["_law_deed"] (aq d9) := ⟨rfl, rfl, rfl, by decide +kernel, rfl, by decide +kernel, by decide +kernel⟩
theorem Bn (T : TX e) : vb e := by
  have S := eJ
  exact Lm (k := 10) T.lO eJ rfl rfl rfl rfl T.uY T.tN (by decide) (by decide) (by decide) (fun _ => rfl) (fun cdv A outer s H ea oe hc hr => (aj (aJ (i := 2) S.nd rfl (Or.inl rfl) (dD (aa (aG (aa aY (aa (cN (ea := ea) (oe := oe) T.cf (List.mem_cons_self) hc T.iU rfl T.aC rfl T.ED (dv 1)) ag))) (aa (aG (aa aY (aa (cN (ea := ea) (oe := oe) T.cf (List.mem_cons_self) hc T.gc rfl T.aC rfl T.tm (dv 1)) ag))) (aa (aG (aa aY (aa (cN (ea := ea) (oe := oe) T.cf (List.mem_cons_self) hc T.fX rfl T.aC rfl T.yQ (dv 1)) ag))) (aa (aG (aa aY (aa (cN (ea := ea) (oe := oe) T.cf (List.mem_cons_self) hc T.iP rfl T.aC rfl T.Dv (dv 1)) ag))) (aa (aG (aa aY (aa (cN (ea := ea) (oe := oe) T.cf (List.mem_cons_self) hc T.ja rfl T.aC rfl T.HR (dv 1)) ag))) (aa (aG (aa aY (aa (cN (ea := ea) (oe := oe) T.cf (List.mem_cons_self) hc T.gN rfl T.aC rfl T.wm (dv 1)) ag))) (aa (aG (aa aY (aa (cN (ea := ea) (oe := oe) T.cf (List.mem_cons_self) hc T.iV rfl T.aC rfl T.DM (dv 1)) ag))) (aa (aG (aa aY (aa (cN (ea := ea) (oe := oe) T.cf (List.mem_cons_self) hc T.iL rfl T.aC rfl T.DV (dv 1)) ag))) (aa (aG (aa aY (aa (cN (ea := ea) (oe := oe) T.cf (List.mem_cons_self) hc T.jy rfl T.aC rfl T.HF (dv 1)) ag))) (aa (aG (aa aY (aa (cN (ea := ea) (oe := oe) T.cf (List.mem_cons_self) hc T.iM rfl T.aC rfl T.Dt (dv 1)) ag))) (aa (aG (aa aY (aa (cN (ea := ea) (oe := oe) T.cf (List.mem_cons_self) hc T.gm rfl T.aC rfl T.xP (dv 1)) ag))) (aa (aG (aa aY (aa (cN (ea := ea) (oe := oe) T.cf (List.mem_cons_self) hc T.iX rfl T.aC rfl T.EE (dv 1)) ag))) (aa (aG (aa aY (aa (cN (ea := ea) (oe := oe) T.cf (List.mem_cons_self) hc T.gM rfl T.aC rfl T.Au (dv 1)) ag))) ag)))))))))))))))
    (aj (BK (i := 3) (N' := ["_law_name", "_law_is_so"]) (cap := [none, none]) S.nd rfl rfl rfl (Gq (dv 2)) (fun _ _ _ => (oF (n := 2) rfl (bR (bF (i := 0) (show List.Nodup (["_law_name", "_law_is_so"] : List Str) by decide +kernel) rfl (Or.inl rfl)) (bR (bF (i := 1) (show List.Nodup (["_law_name", "_law_is_so"] : List Str) by decide +kernel) rfl (Or.inl rfl)) kG)))) (fun _ _ _ => (yh (dZ (dv 1)))) (fun _ _ _ => (dv 0)) rfl (by decide +kernel) rfl (by decide +kernel) (by intro _ _ h; first | exact h | exact cl1 h | exact cl2 (by decide +kernel) h | exact cl3 (by decide +kernel) h | exact bj (aO rfl cB) _ _ h | exact bj (aO rfl (aO rfl cB)) _ _ h | exact bj (aO rfl (aO rfl (aO rfl cB))) _ _ h | cases h) (iQ rfl) rfl (n6 trivial))
    (aj (cI (DW.dt (we (bq (d6 hr.units) cZ (lE rfl T.qW (aa (dv 3) ag)) ah (aR _)) (rF (dZ (HN (ea := ea) (oe := oe) (T := "ValueError") T.cf (List.mem_cons_self) hc T.nY rfl T.aC rfl T.uW PyProof.Rows.Boot.«ValueError» (dv 1)))))) (ar (aE (aw (dv 3) ah (fun _ _ => rfl)))) bw)
    (ar (aE aY)))))) (fun ea fa μ Qd h => mv h)
theorem DY (T : TX e) : xg e := by
  have S := eJ
  exact Lm (k := 10) T.lO eJ rfl rfl rfl rfl T.uY T.vF (by decide) (by decide) (by decide) (fun _ => rfl) (fun cdv A outer s H ea oe hc hr => (aj (aJ (i := 2) S.nd rfl (Or.inl rfl) (dD (aa (aG (aa aY (aa (cN (ea := ea) (oe := oe) T.cR (List.mem_cons_self) hc T.js rfl T.aC rfl T.ED (dv 1)) ag))) (aa (aG (aa aY (aa (cN (ea := ea) (oe := oe) T.cR (List.mem_cons_self) hc T.gP rfl T.aC rfl T.tm (dv 1)) ag))) (aa (aG (aa aY (aa (cN (ea := ea) (oe := oe) T.cR (List.mem_cons_self) hc T.gI rfl T.aC rfl T.yQ (dv 1)) ag))) (aa (aG (aa aY (aa (cN (ea := ea) (oe := oe) T.cR (List.mem_cons_self) hc T.jc rfl T.aC rfl T.Dv (dv 1)) ag))) (aa (aG (aa aY (aa (cN (ea := ea) (oe := oe) T.cR (List.mem_cons_self) hc T.jY rfl T.aC rfl T.HR (dv 1)) ag))) (aa (aG (aa aY (aa (cN (ea := ea) (oe := oe) T.cR (List.mem_cons_self) hc T.iz rfl T.aC rfl T.wm (dv 1)) ag))) (aa (aG (aa aY (aa (cN (ea := ea) (oe := oe) T.cR (List.mem_cons_self) hc T.jo rfl T.aC rfl T.DM (dv 1)) ag))) (aa (aG (aa aY (aa (cN (ea := ea) (oe := oe) T.cR (List.mem_cons_self) hc T.jq rfl T.aC rfl T.DV (dv 1)) ag))) (aa (aG (aa aY (aa (cN (ea := ea) (oe := oe) T.cR (List.mem_cons_self) hc T.jX rfl T.aC rfl T.HF (dv 1)) ag))) (aa (aG (aa aY (aa (cN (ea := ea) (oe := oe) T.cR (List.mem_cons_self) hc T.jj rfl T.aC rfl T.Dt (dv 1)) ag))) (aa (aG (aa aY (aa (cN (ea := ea) (oe := oe) T.cR (List.mem_cons_self) hc T.gJ rfl T.aC rfl T.xP (dv 1)) ag))) (aa (aG (aa aY (aa (cN (ea := ea) (oe := oe) T.cR (List.mem_cons_self) hc T.je rfl T.aC rfl T.EE (dv 1)) ag))) (aa (aG (aa aY (aa (cN (ea := ea) (oe := oe) T.cR (List.mem_cons_self) hc T.iF rfl T.aC rfl T.Au (dv 1)) ag))) ag)))))))))))))))
    (aj (BK (i := 3) (N' := ["_law_name", "_law_is_so"]) (cap := [none, none]) S.nd rfl rfl rfl (Gq (dv 2)) (fun _ _ _ => (oF (n := 2) rfl (bR (bF (i := 0) (show List.Nodup (["_law_name", "_law_is_so"] : List Str) by decide +kernel) rfl (Or.inl rfl)) (bR (bF (i := 1) (show List.Nodup (["_law_name", "_law_is_so"] : List Str) by decide +kernel) rfl (Or.inl rfl)) kG)))) (fun _ _ _ => (yh (dZ (dv 1)))) (fun _ _ _ => (dv 0)) rfl (by decide +kernel) rfl (by decide +kernel) (by intro _ _ h; first | exact h | exact cl1 h | exact cl2 (by decide +kernel) h | exact cl3 (by decide +kernel) h | exact bj (aO rfl cB) _ _ h | exact bj (aO rfl (aO rfl cB)) _ _ h | exact bj (aO rfl (aO rfl (aO rfl cB))) _ _ h | cases h) (iQ rfl) rfl (n6 trivial))
    (aj (cI (DW.dt (we (bq (d6 hr.units) cZ (lE rfl T.qW (aa (dv 3) ag)) ah (aR _)) (rF (dZ (HN (ea := ea) (oe := oe) (T := "ValueError") T.cR (List.mem_cons_self) hc T.qc rfl T.aC rfl T.uW PyProof.Rows.Boot.«ValueError» (dv 1)))))) (ar (aE (aw (dv 3) ah (fun _ _ => rfl)))) bw)
    (ar (aE aY)))))) (fun ea fa μ Qd h => nN h)
theorem Ry (T : TX e) : PY e := MT T.lO eJ rfl rfl (by decide) (by decide) (fun _ => rfl)
theorem rX : aD ["_law_bag_here", "_law_d", "_law_kinds_here", "_law_shape_here", "_law_bad", "_law_wrong", "_law_deeds"] ["_law_bag_here", "_law_d", "_law_kinds_here", "_law_shape_here"] (aq cG) := ⟨rfl, rfl, rfl, by decide +kernel, rfl, by decide +kernel, by decide +kernel⟩
theorem rP (T : TX e) (jd : lY e) (dj : iq e) (ju : xg e) (bL : eU e) (mj : vb e) (bQ : eB e) (eo : ki e) (gk : jU e) (GRN : PY e) (eh : sV e) : kg e := by
  have S := rX
  exact T.tU.Rv S (fun ds μ Q h => AV h) (fun cdv hcv A outer s H E hr => ⟨gg _ _ _ _ _ _ _, (aj (oK (aG (aa (ai jd (hr.mono (by decide)) rfl T.vZ T.vQ T.wu (aa (dv 0) (aa (dv 1) (aa (dv 2) ag)))) (aa (ai dj (hr.mono (by decide)) rfl T.nJ T.nI T.nq (aa (dv 0) (aa (dv 1) ag))) ag))) (oF (n := 2) rfl (bR (bF (i := 4) S.nd rfl (Or.inr rfl)) (bR (bF (i := 5) S.nd rfl (Or.inr rfl)) kG))))
    (aj (aJ (i := 6) S.nd rfl (Or.inl rfl) (L1 (aa (oP (aa aY (aa (tW T.bU (hcv.symm.trans T.bP) rfl rfl rfl) ag))) (aa (oP (aa aY (aa (tW T.bU (hcv.symm.trans T.bP) rfl rfl rfl) ag))) (aa (oP (aa aY (aa (tW T.bU (hcv.symm.trans T.bP) rfl rfl rfl) ag))) (aa (oP (aa aY (aa (tW T.bU (hcv.symm.trans T.bP) rfl rfl rfl) ag))) (aa (oP (aa aY (aa (tW T.bU (hcv.symm.trans T.bP) rfl rfl rfl) ag))) (aa (oP (aa aY (aa (tW T.bU (hcv.symm.trans T.bP) rfl rfl rfl) ag))) (aa (oP (aa yR (aa (tW T.bU (hcv.symm.trans T.bP) rfl rfl rfl) ag))) ag)))))))))
    (ar (aE (EY rfl rfl T.Kn (aa (Jy (N' := ["_law_name", "_law_deed"]) (gx := ".") (cap := [none, none]) rfl (dv 6) (fun _ _ _ => (Mm (n := 2) rfl (EJ (bF (i := 0) (show List.Nodup (["_law_name", "_law_deed", "."] : List Str) by decide +kernel) rfl (Or.inl rfl)) (EJ (bF (i := 1) (show List.Nodup (["_law_name", "_law_deed", "."] : List Str) by decide +kernel) rfl (Or.inl rfl)) M6)))) (fun fp s₃ H₃ pins σ ρo μ₁ G I3 S3 hfp hG => (ix (d6 hr.units) cZ (FU (gi := 2) (vi := 1) I3 hfp hG (vV (Az (N' := (["_law_d", "_law_bad", "_law_shape_here"] : List Str)) (cap := [some 1, some 4, some 3]) ju (fun A' outer' s' H' fa c1 E hrL => (jI bL (hrL.mono (by decide)) rfl T.fj T.fg T.fh qZ (aa (dv 0) (aa (dv 1) (aa (dv 2) ag))))) (fun _ _ _ => rfl) rfl rfl rfl (by decide +kernel) (by intro _ _ h; first | exact h | exact cl1 h | exact cl2 (by decide +kernel) h | exact cl3 (by decide +kernel) h | exact bj (aO rfl cB) _ _ h | exact bj (aO rfl (aO rfl cB)) _ _ h | exact bj (aO rfl (aO rfl (aO rfl cB))) _ _ h | exact bj (aO rfl (aO rfl (aO rfl (aO rfl cB)))) _ _ h | exact bj cB _ _ h | cases h) (iQ rfl) rfl (l6 ⟨gn, ⟨gn, ⟨gn, trivial⟩⟩⟩)) (vV (Az (N' := (["_law_d", "_law_bad", "_law_wrong"] : List Str)) (cap := [some 1, some 4, some 5]) ju (fun A' outer' s' H' fa c1 E hrL => (jI bL (hrL.mono (by decide)) rfl T.fj T.fg T.fh qZ (aa (dv 0) (aa (dv 1) (aa (dv 2) ag))))) (fun _ _ _ => rfl) rfl rfl rfl (by decide +kernel) (by intro _ _ h; first | exact h | exact cl1 h | exact cl2 (by decide +kernel) h | exact cl3 (by decide +kernel) h | exact bj (aO rfl cB) _ _ h | exact bj (aO rfl (aO rfl cB)) _ _ h | exact bj (aO rfl (aO rfl (aO rfl cB))) _ _ h | exact bj (aO rfl (aO rfl (aO rfl (aO rfl cB)))) _ _ h | exact bj cB _ _ h | cases h) (iQ rfl) rfl (l6 ⟨gn, ⟨gn, ⟨gn, trivial⟩⟩⟩)) (vV (Az (N' := (["_law_d", "_law_kinds_here", "_law_wrong"] : List Str)) (cap := [some 1, some 2, some 5]) mj (fun A' outer' s' H' fa c1 E hrL => (jI bQ (hrL.mono (by decide)) rfl T.fj T.fg T.fh qZ (aa (dv 0) (aa (dv 1) (aa (dv 2) ag))))) (fun _ _ _ => rfl) rfl rfl rfl (by decide +kernel) (by intro _ _ h; first | exact h | exact cl1 h | exact cl2 (by decide +kernel) h | exact cl3 (by decide +kernel) h | exact bj (aO rfl cB) _ _ h | exact bj (aO rfl (aO rfl cB)) _ _ h | exact bj (aO rfl (aO rfl (aO rfl cB))) _ _ h | exact bj (aO rfl (aO rfl (aO rfl (aO rfl cB)))) _ _ h | exact bj cB _ _ h | cases h) (iQ rfl) rfl (l6 ⟨gn, ⟨gn, ⟨gn, trivial⟩⟩⟩)) (vV (Az (N' := (["_law_d", "_law_bad", "_law_shape_here"] : List Str)) (cap := [some 1, some 4, some 3]) ju (fun A' outer' s' H' fa c1 E hrL => (jI eo (hrL.mono (by decide)) rfl T.eO T.eM T.eP qZ (aa (dv 0) (aa (dv 1) (aa (dv 2) ag))))) (fun _ _ _ => rfl) rfl rfl rfl (by decide +kernel) (by intro _ _ h; first | exact h | exact cl1 h | exact cl2 (by decide +kernel) h | exact cl3 (by decide +kernel) h | exact bj (aO rfl cB) _ _ h | exact bj (aO rfl (aO rfl cB)) _ _ h | exact bj (aO rfl (aO rfl (aO rfl cB))) _ _ h | exact bj (aO rfl (aO rfl (aO rfl (aO rfl cB)))) _ _ h | exact bj cB _ _ h | cases h) (iQ rfl) rfl (l6 ⟨gn, ⟨gn, ⟨gn, trivial⟩⟩⟩)) (vV (Az (N' := (["_law_d", "_law_bad", "_law_wrong"] : List Str)) (cap := [some 1, some 4, some 5]) ju (fun A' outer' s' H' fa c1 E hrL => (jI eo (hrL.mono (by decide)) rfl T.eO T.eM T.eP qZ (aa (dv 0) (aa (dv 1) (aa (dv 2) ag))))) (fun _ _ _ => rfl) rfl rfl rfl (by decide +kernel) (by intro _ _ h; first | exact h | exact cl1 h | exact cl2 (by decide +kernel) h | exact cl3 (by decide +kernel) h | exact bj (aO rfl cB) _ _ h | exact bj (aO rfl (aO rfl cB)) _ _ h | exact bj (aO rfl (aO rfl (aO rfl cB))) _ _ h | exact bj (aO rfl (aO rfl (aO rfl (aO rfl cB)))) _ _ h | exact bj cB _ _ h | cases h) (iQ rfl) rfl (l6 ⟨gn, ⟨gn, ⟨gn, trivial⟩⟩⟩)) (vV (Az (N' := (["_law_d", "_law_kinds_here", "_law_wrong"] : List Str)) (cap := [some 1, some 2, some 5]) mj (fun A' outer' s' H' fa c1 E hrL => (jI gk (hrL.mono (by decide)) rfl T.eO T.eM T.eP qZ (aa (dv 0) (aa (dv 1) (aa (dv 2) ag))))) (fun _ _ _ => rfl) rfl rfl rfl (by decide +kernel) (by intro _ _ h; first | exact h | exact cl1 h | exact cl2 (by decide +kernel) h | exact cl3 (by decide +kernel) h | exact bj (aO rfl cB) _ _ h | exact bj (aO rfl (aO rfl cB)) _ _ h | exact bj (aO rfl (aO rfl (aO rfl cB))) _ _ h | exact bj (aO rfl (aO rfl (aO rfl (aO rfl cB)))) _ _ h | exact bj cB _ _ h | cases h) (iQ rfl) rfl (l6 ⟨gn, ⟨gn, ⟨gn, trivial⟩⟩⟩)) (O8 (QW (N' := (["_law_d", "_law_kinds_here", "_law_shape_here"] : List Str)) (cap := [some 1, some 2, some 3]) GRN (fun A' outer' s' H' fa c1 E hr => (ai eh (hr.mono (by decide)) rfl T.eO T.eM T.eP (aa (dv 0) (aa (dv 1) (aa (dv 2) ag))))) (fun _ _ _ => rfl) rfl rfl rfl (by decide +kernel) (by intro _ _ h; first | exact h | exact cl1 h | exact cl2 (by decide +kernel) h | exact cl3 (by decide +kernel) h | exact bj (aO rfl cB) _ _ h | exact bj (aO rfl (aO rfl cB)) _ _ h | exact bj (aO rfl (aO rfl (aO rfl cB))) _ _ h | exact bj (aO rfl (aO rfl (aO rfl (aO rfl cB)))) _ _ h | exact bj cB _ _ h | cases h) (iQ rfl) rfl (l6 ⟨gn, ⟨gn, ⟨gn, trivial⟩⟩⟩)) K2))))))) (hr.mono (by decide)) (by decide) rfl T.yy T.yu T.ye rfl (Or.inl rfl)) (dv 0) (aR _))) rfl (by decide +kernel) rfl (by decide +kernel) (by intro _ _ h; first | exact h | exact cl1 h | exact cl2 (by decide +kernel) h | exact cl3 (by decide +kernel) h | exact bj (aO rfl cB) _ _ h | exact bj (aO rfl (aO rfl cB)) _ _ h | exact bj (aO rfl (aO rfl (aO rfl cB))) _ _ h | exact bj (aO rfl (aO rfl (aO rfl (aO rfl cB)))) _ _ h | exact bj cB _ _ h | cases h) (iQ rfl) rfl (n6 trivial) rfl) ag)))))), fun ds μ Qd h => rR _ _ _ _ _ _ _ h⟩)
theorem Oa : aD ["_law_script", "_law_k", "_law_bag_here", "_law_d", "_law_kinds_here", "_law_others", "_law_shape_here", "_law_more", "_law_ahead", "_law_turn"] ["_law_script"] (aq sj) := ⟨rfl, rfl, rfl, by decide +kernel, rfl, by decide +kernel, by decide +kernel⟩
theorem O6 (T : TX e) (sJ : wW e) (qL : uP e) (kr : sC e) (kx : sA e) (eh : sV e) (eG : kg e) (ia : oi e) : Kc e := by
  have S := Oa
  exact T.Q5.okD S (fun ds μ Q h => IY h) (fun cdv A outer s H E hr => ⟨Fi, (aj (B4 PassesOwn.never rfl (BD rfl T.uz (aa (Od rfl rfl T.PZ (aa ah (aa (OB rfl rfl T.QV (aa ah (aa (lE rfl T.qW (aa (dv 0) ag)) ag))) ag))) ag)) (bF (i := 1) S.nd rfl (Or.inl rfl)) (aj (aJ (i := 2) S.nd rfl (Or.inl rfl) (ai sJ (hr.mono (by decide)) rfl T.Fy T.FP T.E4 (aa (dv 0) (aa (dv 1) ag))))
    (aj (aJ (i := 3) S.nd rfl (Or.inl rfl) (ai qL (hr.mono (by decide)) rfl T.Df T.DC T.Dj (aa (dv 2) ag)))
    (aj (qE (i := 4) (j := 5) rfl S.nd rfl rfl (by decide) rfl rfl (aa (ai kr (hr.mono (by decide)) rfl T.uK T.uf T.um (aa (dv 2) (aa (dv 3) ag))) (aa (ai kr (hr.mono (by decide)) rfl T.uK T.uf T.um (aa (dv 2) (aa (dv 3) ag))) ag)) rfl)
    (aj (qE (i := 6) (j := 7) rfl S.nd rfl rfl (by decide) rfl rfl (aa (ai kx (hr.mono (by decide)) rfl T.uL T.uA T.uQ (aa (dv 2) (aa (dv 3) (aa (dv 4) ag)))) (aa (ai kx (hr.mono (by decide)) rfl T.uL T.uA T.uQ (aa (dv 2) (aa (dv 3) (aa (dv 5) ag)))) ag)) rfl)
    (aj (aJ (i := 8) S.nd rfl (Or.inl rfl) (dD (aa (ai eh (hr.mono (by decide)) rfl T.eO T.eM T.eP (aa (dv 3) (aa (dv 4) (aa (dv 6) ag)))) (aa (ai eh (hr.mono (by decide)) rfl T.eO T.eM T.eP (aa (dv 3) (aa (dv 5) (aa (dv 7) ag)))) (aa (ai eh (hr.mono (by decide)) rfl T.eO T.eM T.eP (aa (dv 3) (aa (dv 4) (aa (dv 7) ag)))) ag)))))
    (aj (B4 PassesOwn.never rfl (BD rfl T.uz (aa ah ag)) (bF (i := 9) S.nd rfl (Or.inl rfl)) (ar (cI (DW.dt (AL (k7 (dZ (ai eG (hr.mono (by decide)) rfl T.k6 T.k8 T.kZ (aa (dv 2) (aa (dv 3) (aa (dv 4) (aa (dv 6) ag))))))) (A0 (k7 (dZ (ai eG (hr.mono (by decide)) rfl T.k6 T.k8 T.kZ (aa (dv 2) (aa (dv 3) (aa (dv 5) (aa (dv 7) ag)))))))))) (ar (aE pO)) bw)))
    (aj (cI (bq (wz hr.units) cZ (dv 8) (dD (aa (ai eh (hr.mono (by decide)) rfl T.eO T.eM T.eP (aa (dv 3) (aa (dv 4) (aa (dv 6) ag)))) (aa (ai eh (hr.mono (by decide)) rfl T.eO T.eM T.eP (aa (dv 3) (aa (dv 5) (aa (dv 7) ag)))) (aa (ai eh (hr.mono (by decide)) rfl T.eO T.eM T.eP (aa (dv 3) (aa (dv 4) (aa (dv 7) ag)))) ag)))) (aR _)) (ar (aE pO)) bw)
    (ar (cI (bq (wz hr.units) cZ (aw (ai ia (hr.mono (by decide)) rfl T.fj T.fg T.fh (aa (dv 3) (aa (dv 4) (aa (dv 6) ag)))) ah (fun _ _ => rfl)) (aw (dD (aa aY (aa aY ag))) (nh rfl T.yc (aa (aw (dv 8) ah (fun _ _ => rfl)) ag)) (fun _ _ => rfl)) (aR _)) (ar (aE pO)) bw))))))))))
    (ar (aE pO))), fun ds μ Qd h => Oc h⟩)
theorem OY (T : TX e) : Kc e := by
  have lG := C0 T
  have fG := uH T
  have fo := aZ T
  have j7 := vX T
  have fR := zg T
  have cE := rN T
  have sJ := D5 T
  have ay := BW T
  have jF := yH T
  have fD := zo T
  have qH := Cd T
  have dr := vC T fG
  have cQ := Ga T j7
  have dw := uV T fR
  have bH := DD T jF
  have qL := BR T ay
  have tE := Ey T ay
  have qd := Cb T lG dr
  have dA := IJ T dr
  have sP := C3 T cQ
  have iJ := sN T dw
  have fF := zk T cQ fo
  have ic := AZ T bH
  have bJ := zN T bH
  have dJ := vS T bH
  have mK := yd T ay bH
  have gw := wj T ay bH
  have wx := fI T dA
  have wJ := pj T dA
  have cY := aQ T dA
  have cH := aK T dA
  have bK := sZ T qd cQ
  have cj := zE T mK qH ay fD
  have gO := MR T cY cH
  have cg := ig T bK
  have aT := mY T bK
  have jt := DH T bK
  have Bp := rC T wJ fo wx
  have dX := qP T cE cH
  have kr := zr T cj ay dJ bJ bH
  have dj := uE T cj tE fD ay
  have kx := zR T ay gw dJ cj bJ ic
  have dU := lR T jt
  have bS := wQ T jt
  have gA := v5 T aT wx fo gO cY
  have hU := B5 T gO dA wJ cY
  have wM := Gi T cQ fo Bp gO cY
  have jd := uO T ay dj
  have pk := zD T aT cY gO hU cH sP wM
  have pq := zG T gA
  have kY := xB T fF dX cE hU cH dw
  have oX := Ag T bS fF pq
  have bL := pS T dU
  have bQ := o8 T bS cg
  have ia := CJ T bS aT oX kY pk iJ
  have eo := rV T bL
  have gk := qI T bQ
  have eh := Gh T ia
  have mj := Bn T
  have ju := DY T
  have GRN := Ry T
  have eG := rP T jd dj ju bL mj bQ eo gk GRN eh
  exact O6 T sJ qL kr kx eh eG ia
end
theorem all_mk {l : PySem.W.OpenLaw} {w : World} {K : PySem.W.Frag} {h : Heap} {mg : Str → Option Value} {fa : Addr} (X : K.In h) (G : h.Ns mainGlobals mg) (hfa : mg "law" = some (.ref fa))
    {f0 c0 f1 c1 f2 c2 f3 c3 f4 c4 f5 c5 f6 c6 f7 c7 f8 c8 f9 c9 f10 c10 f11 c11 f12 c12 f13 c13 f14 c14 f15 c15 f16 c16 f17 c17 f18 c18 f19 c19 f20 c20 f21 c21 f22 c22 f23 c23 f24 c24 f25 c25 f26 c26 f27 c27 f28 c28 f29 c29 f30 c30 f31 c31 f32 c32 f33 c33 f34 c34 f35 c35 f36 c36 f37 c37 f38 c38 f39 c39 f40 c40 f41 c41 f42 c42 f43 c43 f44 c44 f45 c45 f46 c46 f47 c47 f48 c48 f49 c49 f50 c50 f51 c51 f52 c52 f53 c53 f54 c54 : Addr} {t0 t1 t2 t3 t4 t5 t6 t7 t8 t9 t10 t11 t12 t13 t14 t15 t16 t17 t18 t19 t20 t21 t22 t23 t24 t25 t26 t27 t28 t29 t30 t31 t32 t33 t34 t35 t36 t37 t38 t39 t40 t41 t42 t43 t44 t45 t46 t47 t48 t49 t50 t51 t52 t53 t54 : Tok} {m0 m1 m2 m3 m4 m5 m6 m7 m8 m9 m10 m11 m12 m13 m14 m15 m16 m17 m18 m19 m20 m21 m22 m23 m24 m25 m26 m27 m28 m29 m30 m31 m32 m33 m34 m35 m36 m37 m38 m39 m40 m41 m42 m43 m44 m45 m46 m47 m48 m49 m50 m51 m52 m53 m54 : Str} {q0 : Tok} {g1 : Addr} {go1 : Option Addr} {q1a q1b q1c : Tok} {gn1 : Nat} {gs1 : Array (Option Value)} {g2 : Addr} {go2 : Option Addr} {q2a q2b q2c : Tok} {gn2 : Nat} {gs2 : Array (Option Value)} {df : Addr} {hJ : Addr} {au : Addr} {ej : Addr} {gW : Addr} {jW : Addr} {ax : Addr} {gX : Addr} {gU : Addr} {jP : Addr} {g8 : Addr} {en : Addr} {g0 : Addr} {fk : Addr} {bm : Addr} {bsl : Array (Option Value)} {cA dz : Addr}
    (a0 : FQ K "is_whole" jE f0 c0 t0 m0)
    (a1 : FQ K "common_divisor" dm f1 c1 t1 m1)
    (a2 : FQ K "is_number" gY f2 c2 t2 m2)
    (a3 : FQ K "divisor_of_all" dh f3 c3 t3 m3)
    (a4 : FQ K "number" nQ f4 c4 t4 m4)
    (a5 : FQ K "mate" vU f5 c5 t5 m5)
    (a6 : FQ K "plus" vI f6 c6 t6 m6)
    (a7 : FQ K "less" wO f7 c7 t7 m7)
    (a8 : FQ K "times" rL f8 c8 t8 m8)
    (a9 : FQ K "over" vO f9 c9 t9 m9)
    (a10 : FQ K "contrary" jB f10 c10 t10 m10)
    (a11 : FQ K "sign_of" kN f11 c11 t11 m11)
    (a12 : FQ K "sign_of_parts" dI f12 c12 t12 m12)
    (a13 : FQ K "is_above_nought" cU f13 c13 t13 m13)
    (a14 : FQ K "must_be_above_nought" bN f14 c14 t14 m14)
    (a15 : FQ K "is_kinds" jv f15 c15 t15 m15)
    (a16 : FQ K "must_be_kinds" dH f16 c16 t16 m16)
    (a17 : FQ K "lean_fraction" dP f17 c17 t17 m17)
    (a18 : FQ K "mixture_of" fO f18 c18 t18 m18)
    (a19 : FQ K "shares_of" gZ f19 c19 t19 m19)
    (a20 : FQ K "is_share" jD f20 c20 t20 m20)
    (a21 : FQ K "bar_for" kL f21 c21 t21 m21)
    (a22 : FQ K "skew" wy f22 c22 t22 m22)
    (a23 : FQ K "plan_of_mixture" cS f23 c23 t23 m23)
    (a24 : FQ K "plan_of_shares" du f24 c24 t24 m24)
    (a25 : FQ K "share_plan" fL f25 c25 t25 m25)
    (a26 : FQ K "wish_told" g9 f26 c26 t26 m26)
    (a27 : FQ K "is_laid" kP f27 c27 t27 m27)
    (a28 : FQ K "leans_most" fS f28 c28 t28 m28)
    (a29 : FQ K "mate_signs" fJ f29 c29 t29 m29)
    (a30 : FQ K "leans_more" fH f30 c30 t30 m30)
    (a31 : FQ K "plan_by_both" d8 f31 c31 t31 m31)
    (a32 : FQ K "with_greater_mate" cw f32 c32 t32 m32)
    (a33 : FQ K "has_greater_mate" cF f33 c33 t33 m33)
    (a34 : FQ K "_law_bag" i7 f34 c34 t34 m34)
    (a35 : FQ K "_law_take" gQ f35 c35 t35 m35)
    (a36 : FQ K "_law_shared" eQ f36 c36 t36 m36)
    (a37 : FQ K "_law_low" jg f37 c37 t37 m37)
    (a38 : FQ K "_law_plus" hW f38 c38 t38 m38)
    (a39 : FQ K "_law_minus" fT f39 c39 t39 m39)
    (a40 : FQ K "_law_times" fP f40 c40 t40 m40)
    (a41 : FQ K "_law_contrary" dO f41 c41 t41 m41)
    (a42 : FQ K "_law_sign" hR f42 c42 t42 m42)
    (a43 : FQ K "_law_root" hZ f43 c43 t43 m43)
    (a44 : FQ K "_law_number" eR f44 c44 t44 m44)
    (a45 : FQ K "_law_above" fB f45 c45 t45 m45)
    (a46 : FQ K "_law_odd" jr f46 c46 t46 m46)
    (a47 : FQ K "_law_refusal" d9 f47 c47 t47 m47)
    (a48 : FQ K "_law_kinds" fz f48 c48 t48 m48)
    (a49 : FQ K "_law_bad_above" dk f49 c49 t49 m49)
    (a50 : FQ K "_law_bad_kinds" dq f50 c50 t50 m50)
    (a51 : FQ K "_law_shape" fM f51 c51 t51 m51)
    (a52 : FQ K "_law_fraction" dM f52 c52 t52 m52)
    (a53 : FQ K "_law_are_refused" cG f53 c53 t53 m53)
    (a54 : FQ K "law" sj f54 c54 t54 m54)
    (z0 : PySem.W.nsIn K mainGlobals "isinstance" = some none)
    (z1 : PySem.W.nsIn K mainGlobals "int" = some none)
    (z2 : PySem.W.nsIn K mainGlobals "bool" = some none)
    (z3 : PySem.W.nsIn K mainGlobals "abs" = some none)
    (z4 : PySem.W.nsIn K mainGlobals "tuple" = some none)
    (z5 : PySem.W.nsIn K mainGlobals "len" = some none)
    (z6 : PySem.W.nsIn K mainGlobals "all" = some none)
    (z7 : PySem.W.nsIn K mainGlobals "range" = some none)
    (z8 : PySem.W.nsIn K mainGlobals "ValueError" = some none)
    (z9 : PySem.W.nsIn K mainGlobals "list" = some none)
    (z10 : PySem.W.nsIn K mainGlobals "max" = some none)
    (z11 : PySem.W.nsIn K mainGlobals "min" = some none)
    (v0 : PySem.W.nsIn K mainGlobals "MOST_KINDS" = some (some (.int 3 q0)))
    (v1 : PySem.W.nsIn K mainGlobals "NOUGHT" = some (some (.ref g1))) (w1 : K.lookup g1 = some ⟨.type "tuple", go1, .seq #[.int 0 q1a, .int 0 q1b, .int 1 q1c] gn1, gs1⟩)
    (v2 : PySem.W.nsIn K mainGlobals "ONE" = some (some (.ref g2))) (w2 : K.lookup g2 = some ⟨.type "tuple", go2, .seq #[.int 1 q2a, .int 0 q2b, .int 1 q2c] gn2, gs2⟩)
    (y0 : PySem.W.nsIn K mainGlobals "FloorError" = some (some (.ref df)))
    (y1 : PySem.W.nsIn K mainGlobals "NoRoot" = some (some (.ref hJ)))
    (y2 : PySem.W.nsIn K mainGlobals "NoNumber" = some (some (.ref au)))
    (y3 : PySem.W.nsIn K mainGlobals "NoLaying" = some (some (.ref ej)))
    (y4 : PySem.W.nsIn K mainGlobals "NoTile" = some (some (.ref gW)))
    (y5 : PySem.W.nsIn K mainGlobals "NoFit" = some (some (.ref jW)))
    (y6 : PySem.W.nsIn K mainGlobals "NoKinds" = some (some (.ref ax)))
    (y7 : PySem.W.nsIn K mainGlobals "NoPlan" = some (some (.ref gX)))
    (y8 : PySem.W.nsIn K mainGlobals "NoSpot" = some (some (.ref gU)))
    (y9 : PySem.W.nsIn K mainGlobals "NoNet" = some (some (.ref jP)))
    (y10 : PySem.W.nsIn K mainGlobals "NoText" = some (some (.ref g8)))
    (y11 : PySem.W.nsIn K mainGlobals "NoSaying" = some (some (.ref en)))
    (y12 : PySem.W.nsIn K mainGlobals "NoName" = some (some (.ref g0)))
    (y13 : PySem.W.nsIn K mainGlobals "TooMany" = some (some (.ref fk)))
    (tR : PySem.W.excIn K (au) bmV "ValueError.__new__" = true)
    (tN : PySem.W.exmOne K (.ref au) (.ref df) = some true)
    (z1_NoNumber : PySem.W.findIn K (.ref au) "__getattribute__" = some (some (.builtin "BaseException.__getattribute__")))
    (z2_NoNumber : PySem.W.findIn K (.ref au) "__getattr__" = some none)
    (z3_NoNumber : PySem.W.findIn K (.ref au) "__class__" = some (some (.builtin "object.__class__")))
    (z4_NoNumber : PySem.W.mroIn K au (.type "object") = some true)
    (z5_NoNumber : PySem.W.mroIn K au (.type "BaseException") = some true)
    (z6_NoNumber : (PySem.W.clsIn K au).isSome = true)
    (iU : PySem.W.kitOne K (.ref au) (.ref hJ) = some false)
    (gc : PySem.W.kitOne K (.ref au) (.ref au) = some true)
    (fX : PySem.W.kitOne K (.ref au) (.ref ej) = some false)
    (iP : PySem.W.kitOne K (.ref au) (.ref gW) = some false)
    (ja : PySem.W.kitOne K (.ref au) (.ref jW) = some false)
    (gN : PySem.W.kitOne K (.ref au) (.ref ax) = some false)
    (iV : PySem.W.kitOne K (.ref au) (.ref gX) = some false)
    (iL : PySem.W.kitOne K (.ref au) (.ref gU) = some false)
    (jy : PySem.W.kitOne K (.ref au) (.ref jP) = some false)
    (iM : PySem.W.kitOne K (.ref au) (.ref g8) = some false)
    (gm : PySem.W.kitOne K (.ref au) (.ref en) = some false)
    (iX : PySem.W.kitOne K (.ref au) (.ref g0) = some false)
    (gM : PySem.W.kitOne K (.ref au) (.ref fk) = some false)
    (nY : PySem.W.kitOne K (.ref au) (.type "ValueError") = some true)
    (wA : PySem.W.excIn K (ax) bmV "ValueError.__new__" = true)
    (vF : PySem.W.exmOne K (.ref ax) (.ref df) = some true)
    (z1_NoKinds : PySem.W.findIn K (.ref ax) "__getattribute__" = some (some (.builtin "BaseException.__getattribute__")))
    (z2_NoKinds : PySem.W.findIn K (.ref ax) "__getattr__" = some none)
    (z3_NoKinds : PySem.W.findIn K (.ref ax) "__class__" = some (some (.builtin "object.__class__")))
    (z4_NoKinds : PySem.W.mroIn K ax (.type "object") = some true)
    (z5_NoKinds : PySem.W.mroIn K ax (.type "BaseException") = some true)
    (z6_NoKinds : (PySem.W.clsIn K ax).isSome = true)
    (js : PySem.W.kitOne K (.ref ax) (.ref hJ) = some false)
    (gP : PySem.W.kitOne K (.ref ax) (.ref au) = some false)
    (gI : PySem.W.kitOne K (.ref ax) (.ref ej) = some false)
    (jc : PySem.W.kitOne K (.ref ax) (.ref gW) = some false)
    (jY : PySem.W.kitOne K (.ref ax) (.ref jW) = some false)
    (iz : PySem.W.kitOne K (.ref ax) (.ref ax) = some true)
    (jo : PySem.W.kitOne K (.ref ax) (.ref gX) = some false)
    (jq : PySem.W.kitOne K (.ref ax) (.ref gU) = some false)
    (jX : PySem.W.kitOne K (.ref ax) (.ref jP) = some false)
    (jj : PySem.W.kitOne K (.ref ax) (.ref g8) = some false)
    (gJ : PySem.W.kitOne K (.ref ax) (.ref en) = some false)
    (je : PySem.W.kitOne K (.ref ax) (.ref g0) = some false)
    (iF : PySem.W.kitOne K (.ref ax) (.ref fk) = some false)
    (qc : PySem.W.kitOne K (.ref ax) (.type "ValueError") = some true)
    (bb1 : PySem.W.nsIn K mainGlobals "__builtins__" = some (some (.ref bm))) (bb2 : bm ≠ builtinsNs) (bb3 : K.lookup bm = some ⟨.type "module", some builtinsNs, .plain, bsl⟩)
    (lo__law_are_refused : (K.lookup cA).bind bT = some (dz, ("_law_are_refused" : Str))) (l1__law_are_refused : ∀ c2 o2 q2, K.lookup c2 = some o2 → bT o2 = some (dz, q2) → q2 = "_law_are_refused") (lc__law_are_refused : c53 = cA) :
    ∃ fd : FuncData, (∀ (s : Shared) (v : Value), BindsTo s fd ⟨[v], []⟩ [("_law_script", v)]) ∧ ∀ base : Heap, K.In base → base.Ns mainGlobals mg → bG l.prog w K mg base CX0 14 fa fd ["_law_script"] (spD K yB) := by
  have e := hfa.symm.trans (PySem.W.mg_of X G a54.1)
  cases e
  have F0 := aS (st := jE) a0.2.1 a0.2.2.1 a0.2.2.2
  have b0 := F0.binds (ps := ["thing"]) fun _ _ _ _ _ _ us hl => match us, hl with | [_], _ => rfl
  have F1 := aS (st := dm) a1.2.1 a1.2.2.1 a1.2.2.2
  have b1 := F1.binds (ps := ["a", "b"]) fun _ _ _ _ _ _ us hl => match us, hl with | [_, _], _ => rfl
  have F2 := aS (st := gY) a2.2.1 a2.2.2.1 a2.2.2.2
  have b2 := F2.binds (ps := ["thing"]) fun _ _ _ _ _ _ us hl => match us, hl with | [_], _ => rfl
  have F3 := aS (st := dh) a3.2.1 a3.2.2.1 a3.2.2.2
  have b3 := F3.binds (ps := ["a", "b", "c"]) fun _ _ _ _ _ _ us hl => match us, hl with | [_, _, _], _ => rfl
  have F4 := aS (st := nQ) a4.2.1 a4.2.2.1 a4.2.2.2
  have b4 := F4.binds (ps := ["a", "b", "c"]) fun _ _ _ _ _ _ us hl => match us, hl with | [_, _, _], _ => rfl
  have F5 := aS (st := vU) a5.2.1 a5.2.2.1 a5.2.2.2
  have b5 := F5.binds (ps := ["x"]) fun _ _ _ _ _ _ us hl => match us, hl with | [_], _ => rfl
  have F6 := aS (st := vI) a6.2.1 a6.2.2.1 a6.2.2.2
  have b6 := F6.binds (ps := ["x", "y"]) fun _ _ _ _ _ _ us hl => match us, hl with | [_, _], _ => rfl
  have F7 := aS (st := wO) a7.2.1 a7.2.2.1 a7.2.2.2
  have b7 := F7.binds (ps := ["x", "y"]) fun _ _ _ _ _ _ us hl => match us, hl with | [_, _], _ => rfl
  have F8 := aS (st := rL) a8.2.1 a8.2.2.1 a8.2.2.2
  have b8 := F8.binds (ps := ["d", "x", "y"]) fun _ _ _ _ _ _ us hl => match us, hl with | [_, _, _], _ => rfl
  have F9 := aS (st := vO) a9.2.1 a9.2.2.1 a9.2.2.2
  have b9 := F9.binds (ps := ["d", "x", "y"]) fun _ _ _ _ _ _ us hl => match us, hl with | [_, _, _], _ => rfl
  have F10 := aS (st := jB) a10.2.1 a10.2.2.1 a10.2.2.2
  have b10 := F10.binds (ps := ["d", "x"]) fun _ _ _ _ _ _ us hl => match us, hl with | [_, _], _ => rfl
  have F11 := aS (st := kN) a11.2.1 a11.2.2.1 a11.2.2.2
  have b11 := F11.binds (ps := ["d", "x"]) fun _ _ _ _ _ _ us hl => match us, hl with | [_, _], _ => rfl
  have F12 := aS (st := dI) a12.2.1 a12.2.2.1 a12.2.2.2
  have b12 := F12.binds (ps := ["d", "a", "b"]) fun _ _ _ _ _ _ us hl => match us, hl with | [_, _, _], _ => rfl
  have F13 := aS (st := cU) a13.2.1 a13.2.2.1 a13.2.2.2
  have b13 := F13.binds (ps := ["d", "thing"]) fun _ _ _ _ _ _ us hl => match us, hl with | [_, _], _ => rfl
  have F14 := aS (st := bN) a14.2.1 a14.2.2.1 a14.2.2.2
  have b14 := F14.binds (ps := ["d", "thing"]) fun _ _ _ _ _ _ us hl => match us, hl with | [_, _], _ => rfl
  have F15 := aS (st := jv) a15.2.1 a15.2.2.1 a15.2.2.2
  have b15 := F15.binds (ps := ["d", "thing"]) fun _ _ _ _ _ _ us hl => match us, hl with | [_, _], _ => rfl
  have F16 := aS (st := dH) a16.2.1 a16.2.2.1 a16.2.2.2
  have b16 := F16.binds (ps := ["d", "thing"]) fun _ _ _ _ _ _ us hl => match us, hl with | [_, _], _ => rfl
  have F17 := aS (st := dP) a17.2.1 a17.2.2.1 a17.2.2.2
  have b17 := F17.binds (ps := ["d", "shape"]) fun _ _ _ _ _ _ us hl => match us, hl with | [_, _], _ => rfl
  have F18 := aS (st := fO) a18.2.1 a18.2.2.1 a18.2.2.2
  have b18 := F18.binds (ps := ["d", "kind", "shape"]) fun _ _ _ _ _ _ us hl => match us, hl with | [_, _, _], _ => rfl
  have F19 := aS (st := gZ) a19.2.1 a19.2.2.1 a19.2.2.2
  have b19 := F19.binds (ps := ["d", "first", "second", "shape"]) fun _ _ _ _ _ _ us hl => match us, hl with | [_, _, _, _], _ => rfl
  have F20 := aS (st := jD) a20.2.1 a20.2.2.1 a20.2.2.2
  have b20 := F20.binds (ps := ["d", "x"]) fun _ _ _ _ _ _ us hl => match us, hl with | [_, _], _ => rfl
  have F21 := aS (st := kL) a21.2.1 a21.2.2.1 a21.2.2.2
  have b21 := F21.binds (ps := ["d", "kind", "shape"]) fun _ _ _ _ _ _ us hl => match us, hl with | [_, _, _], _ => rfl
  have F22 := aS (st := wy) a22.2.1 a22.2.2.1 a22.2.2.2
  have b22 := F22.binds (ps := ["shape", "way"]) fun _ _ _ _ _ _ us hl => match us, hl with | [_, _], _ => rfl
  have F23 := aS (st := cS) a23.2.1 a23.2.2.1 a23.2.2.2
  have b23 := F23.binds (ps := ["u", "v", "place"]) fun _ _ _ _ _ _ us hl => match us, hl with | [_, _, _], _ => rfl
  have F24 := aS (st := du) a24.2.1 a24.2.2.1 a24.2.2.2
  have b24 := F24.binds (ps := ["u", "first", "v", "second"]) fun _ _ _ _ _ _ us hl => match us, hl with | [_, _, _, _], _ => rfl
  have F25 := aS (st := fL) a25.2.1 a25.2.2.1 a25.2.2.2
  have b25 := F25.binds (ps := ["share", "plan"]) fun _ _ _ _ _ _ us hl => match us, hl with | [_, _], _ => rfl
  have F26 := aS (st := g9) a26.2.1 a26.2.2.1 a26.2.2.2
  have b26 := F26.binds (ps := ["d", "kinds", "shape"]) fun _ _ _ _ _ _ us hl => match us, hl with | [_, _, _], _ => rfl
  have F27 := aS (st := kP) a27.2.1 a27.2.2.1 a27.2.2.2
  have b27 := F27.binds (ps := ["d", "kinds", "shape"]) fun _ _ _ _ _ _ us hl => match us, hl with | [_, _, _], _ => rfl
  have F28 := aS (st := fS) a28.2.1 a28.2.2.1 a28.2.2.2
  have b28 := F28.binds (ps := ["d", "kinds"]) fun _ _ _ _ _ _ us hl => match us, hl with | [_, _], _ => rfl
  have F29 := aS (st := fJ) a29.2.1 a29.2.2.1 a29.2.2.2
  have b29 := F29.binds (ps := ["d", "kinds"]) fun _ _ _ _ _ _ us hl => match us, hl with | [_, _], _ => rfl
  have F30 := aS (st := fH) a30.2.1 a30.2.2.1 a30.2.2.2
  have b30 := F30.binds (ps := ["d", "kind", "other"]) fun _ _ _ _ _ _ us hl => match us, hl with | [_, _, _], _ => rfl
  have F31 := aS (st := d8) a31.2.1 a31.2.2.1 a31.2.2.2
  have b31 := F31.binds (ps := ["d", "kinds", "shape"]) fun _ _ _ _ _ _ us hl => match us, hl with | [_, _, _], _ => rfl
  have F32 := aS (st := cw) a32.2.1 a32.2.2.1 a32.2.2.2
  have b32 := F32.binds (ps := ["d", "kinds", "place"]) fun _ _ _ _ _ _ us hl => match us, hl with | [_, _, _], _ => rfl
  have F33 := aS (st := cF) a33.2.1 a33.2.2.1 a33.2.2.2
  have b33 := F33.binds (ps := ["shape"]) fun _ _ _ _ _ _ us hl => match us, hl with | [_], _ => rfl
  have F34 := aS (st := i7) a34.2.1 a34.2.2.1 a34.2.2.2
  have b34 := F34.binds (ps := ["_law_script", "_law_at"]) fun _ _ _ _ _ _ us hl => match us, hl with | [_, _], _ => rfl
  have F35 := aS (st := gQ) a35.2.1 a35.2.2.1 a35.2.2.2
  have b35 := F35.binds (ps := ["_law_bag_here", "_law_many"]) fun _ _ _ _ _ _ us hl => match us, hl with | [_, _], _ => rfl
  have F36 := aS (st := eQ) a36.2.1 a36.2.2.1 a36.2.2.2
  have b36 := F36.binds (ps := ["_law_one", "_law_other"]) fun _ _ _ _ _ _ us hl => match us, hl with | [_, _], _ => rfl
  have F37 := aS (st := jg) a37.2.1 a37.2.2.1 a37.2.2.2
  have b37 := F37.binds (ps := ["_law_a", "_law_b", "_law_c"]) fun _ _ _ _ _ _ us hl => match us, hl with | [_, _, _], _ => rfl
  have F38 := aS (st := hW) a38.2.1 a38.2.2.1 a38.2.2.2
  have b38 := F38.binds (ps := ["_law_x", "_law_y"]) fun _ _ _ _ _ _ us hl => match us, hl with | [_, _], _ => rfl
  have F39 := aS (st := fT) a39.2.1 a39.2.2.1 a39.2.2.2
  have b39 := F39.binds (ps := ["_law_x"]) fun _ _ _ _ _ _ us hl => match us, hl with | [_], _ => rfl
  have F40 := aS (st := fP) a40.2.1 a40.2.2.1 a40.2.2.2
  have b40 := F40.binds (ps := ["_law_d", "_law_x", "_law_y"]) fun _ _ _ _ _ _ us hl => match us, hl with | [_, _, _], _ => rfl
  have F41 := aS (st := dO) a41.2.1 a41.2.2.1 a41.2.2.2
  have b41 := F41.binds (ps := ["_law_d", "_law_x"]) fun _ _ _ _ _ _ us hl => match us, hl with | [_, _], _ => rfl
  have F42 := aS (st := hR) a42.2.1 a42.2.2.1 a42.2.2.2
  have b42 := F42.binds (ps := ["_law_d", "_law_x"]) fun _ _ _ _ _ _ us hl => match us, hl with | [_, _], _ => rfl
  have F43 := aS (st := hZ) a43.2.1 a43.2.2.1 a43.2.2.2
  have b43 := F43.binds (ps := ["_law_bag_here"]) fun _ _ _ _ _ _ us hl => match us, hl with | [_], _ => rfl
  have F44 := aS (st := eR) a44.2.1 a44.2.2.1 a44.2.2.2
  have b44 := F44.binds (ps := ["_law_bag_here"]) fun _ _ _ _ _ _ us hl => match us, hl with | [_], _ => rfl
  have F45 := aS (st := fB) a45.2.1 a45.2.2.1 a45.2.2.2
  have b45 := F45.binds (ps := ["_law_bag_here", "_law_d"]) fun _ _ _ _ _ _ us hl => match us, hl with | [_, _], _ => rfl
  have F46 := aS (st := jr) a46.2.1 a46.2.2.1 a46.2.2.2
  have b46 := F46.binds (ps := ["_law_bag_here"]) fun _ _ _ _ _ _ us hl => match us, hl with | [_], _ => rfl
  have F47 := aS (st := d9) a47.2.1 a47.2.2.1 a47.2.2.2
  have b47 := F47.binds (ps := ["_law_deed"]) fun _ _ _ _ _ _ us hl => match us, hl with | [_], _ => rfl
  have F48 := aS (st := fz) a48.2.1 a48.2.2.1 a48.2.2.2
  have b48 := F48.binds (ps := ["_law_bag_here", "_law_d"]) fun _ _ _ _ _ _ us hl => match us, hl with | [_, _], _ => rfl
  have F49 := aS (st := dk) a49.2.1 a49.2.2.1 a49.2.2.2
  have b49 := F49.binds (ps := ["_law_bag_here", "_law_d"]) fun _ _ _ _ _ _ us hl => match us, hl with | [_, _], _ => rfl
  have F50 := aS (st := dq) a50.2.1 a50.2.2.1 a50.2.2.2
  have b50 := F50.binds (ps := ["_law_bag_here", "_law_d", "_law_kinds_here"]) fun _ _ _ _ _ _ us hl => match us, hl with | [_, _, _], _ => rfl
  have F51 := aS (st := fM) a51.2.1 a51.2.2.1 a51.2.2.2
  have b51 := F51.binds (ps := ["_law_bag_here", "_law_d", "_law_kinds_here"]) fun _ _ _ _ _ _ us hl => match us, hl with | [_, _, _], _ => rfl
  have F52 := aS (st := dM) a52.2.1 a52.2.2.1 a52.2.2.2
  have b52 := F52.binds (ps := ["_law_bag_here"]) fun _ _ _ _ _ _ us hl => match us, hl with | [_], _ => rfl
  have F53 := aS (st := cG) a53.2.1 a53.2.2.1 a53.2.2.2
  have b53 := F53.binds (ps := ["_law_bag_here", "_law_d", "_law_kinds_here", "_law_shape_here"]) fun _ _ _ _ _ _ us hl => match us, hl with | [_, _, _, _], _ => rfl
  have F54 := aS (st := sj) a54.2.1 a54.2.2.1 a54.2.2.2
  have b54 := F54.binds (ps := ["_law_script"]) fun _ _ _ _ _ _ us hl => match us, hl with | [_], _ => rfl
  have T : Txt K mg ⟨f0, fd "is_whole" jE t0 m0 c0, f1, fd "common_divisor" dm t1 m1 c1, f2, fd "is_number" gY t2 m2 c2, f3, fd "divisor_of_all" dh t3 m3 c3, f4, fd "number" nQ t4 m4 c4, f5, fd "mate" vU t5 m5 c5, f6, fd "plus" vI t6 m6 c6, f7, fd "less" wO t7 m7 c7, f8, fd "times" rL t8 m8 c8, f9, fd "over" vO t9 m9 c9, f10, fd "contrary" jB t10 m10 c10, f11, fd "sign_of" kN t11 m11 c11, f12, fd "sign_of_parts" dI t12 m12 c12, f13, fd "is_above_nought" cU t13 m13 c13, f14, fd "must_be_above_nought" bN t14 m14 c14, f15, fd "is_kinds" jv t15 m15 c15, f16, fd "must_be_kinds" dH t16 m16 c16, f17, fd "lean_fraction" dP t17 m17 c17, f18, fd "mixture_of" fO t18 m18 c18, f19, fd "shares_of" gZ t19 m19 c19, f20, fd "is_share" jD t20 m20 c20, f21, fd "bar_for" kL t21 m21 c21, f22, fd "skew" wy t22 m22 c22, f23, fd "plan_of_mixture" cS t23 m23 c23, f24, fd "plan_of_shares" du t24 m24 c24, f25, fd "share_plan" fL t25 m25 c25, f26, fd "wish_told" g9 t26 m26 c26, f27, fd "is_laid" kP t27 m27 c27, f28, fd "leans_most" fS t28 m28 c28, f29, fd "mate_signs" fJ t29 m29 c29, f30, fd "leans_more" fH t30 m30 c30, f31, fd "plan_by_both" d8 t31 m31 c31, f32, fd "with_greater_mate" cw t32 m32 c32, f33, fd "has_greater_mate" cF t33 m33 c33, f34, fd "_law_bag" i7 t34 m34 c34, f35, fd "_law_take" gQ t35 m35 c35, f36, fd "_law_shared" eQ t36 m36 c36, f37, fd "_law_low" jg t37 m37 c37, f38, fd "_law_plus" hW t38 m38 c38, f39, fd "_law_minus" fT t39 m39 c39, f40, fd "_law_times" fP t40 m40 c40, f41, fd "_law_contrary" dO t41 m41 c41, f42, fd "_law_sign" hR t42 m42 c42, f43, fd "_law_root" hZ t43 m43 c43, f44, fd "_law_number" eR t44 m44 c44, f45, fd "_law_above" fB t45 m45 c45, f46, fd "_law_odd" jr t46 m46 c46, f47, fd "_law_refusal" d9 t47 m47 c47, f48, fd "_law_kinds" fz t48 m48 c48, f49, fd "_law_bad_above" dk t49 m49 c49, f50, fd "_law_bad_kinds" dq t50 m50 c50, f51, fd "_law_shape" fM t51 m51 c51, f52, fd "_law_fraction" dM t52 m52 c52, f53, fd "_law_are_refused" cG t53 m53 c53, fa, fd "law" sj t54 m54 c54, q0, g1, g2, df, hJ, au, ej, gW, jW, ax, gX, gU, jP, g8, en, g0, fk, cA, dz⟩ := ⟨F0, PySem.W.mg_of X G a0.1, a0.2.2.2, b0, F1, PySem.W.mg_of X G a1.1, a1.2.2.2, b1, F2, PySem.W.mg_of X G a2.1, a2.2.2.2, b2, F3, PySem.W.mg_of X G a3.1, a3.2.2.2, b3, F4, PySem.W.mg_of X G a4.1, a4.2.2.2, b4, F5, PySem.W.mg_of X G a5.1, a5.2.2.2, b5, F6, PySem.W.mg_of X G a6.1, a6.2.2.2, b6, F7, PySem.W.mg_of X G a7.1, a7.2.2.2, b7, F8, PySem.W.mg_of X G a8.1, a8.2.2.2, b8, F9, PySem.W.mg_of X G a9.1, a9.2.2.2, b9, F10, PySem.W.mg_of X G a10.1, a10.2.2.2, b10, F11, PySem.W.mg_of X G a11.1, a11.2.2.2, b11, F12, PySem.W.mg_of X G a12.1, a12.2.2.2, b12, F13, PySem.W.mg_of X G a13.1, a13.2.2.2, b13, F14, PySem.W.mg_of X G a14.1, a14.2.2.2, b14, F15, PySem.W.mg_of X G a15.1, a15.2.2.2, b15, F16, PySem.W.mg_of X G a16.1, a16.2.2.2, b16, F17, PySem.W.mg_of X G a17.1, a17.2.2.2, b17, F18, PySem.W.mg_of X G a18.1, a18.2.2.2, b18, F19, PySem.W.mg_of X G a19.1, a19.2.2.2, b19, F20, PySem.W.mg_of X G a20.1, a20.2.2.2, b20, F21, PySem.W.mg_of X G a21.1, a21.2.2.2, b21, F22, PySem.W.mg_of X G a22.1, a22.2.2.2, b22, F23, PySem.W.mg_of X G a23.1, a23.2.2.2, b23, F24, PySem.W.mg_of X G a24.1, a24.2.2.2, b24, F25, PySem.W.mg_of X G a25.1, a25.2.2.2, b25, F26, PySem.W.mg_of X G a26.1, a26.2.2.2, b26, F27, PySem.W.mg_of X G a27.1, a27.2.2.2, b27, F28, PySem.W.mg_of X G a28.1, a28.2.2.2, b28, F29, PySem.W.mg_of X G a29.1, a29.2.2.2, b29, F30, PySem.W.mg_of X G a30.1, a30.2.2.2, b30, F31, PySem.W.mg_of X G a31.1, a31.2.2.2, b31, F32, PySem.W.mg_of X G a32.1, a32.2.2.2, b32, F33, PySem.W.mg_of X G a33.1, a33.2.2.2, b33, F34, PySem.W.mg_of X G a34.1, a34.2.2.2, b34, F35, PySem.W.mg_of X G a35.1, a35.2.2.2, b35, F36, PySem.W.mg_of X G a36.1, a36.2.2.2, b36, F37, PySem.W.mg_of X G a37.1, a37.2.2.2, b37, F38, PySem.W.mg_of X G a38.1, a38.2.2.2, b38, F39, PySem.W.mg_of X G a39.1, a39.2.2.2, b39, F40, PySem.W.mg_of X G a40.1, a40.2.2.2, b40, F41, PySem.W.mg_of X G a41.1, a41.2.2.2, b41, F42, PySem.W.mg_of X G a42.1, a42.2.2.2, b42, F43, PySem.W.mg_of X G a43.1, a43.2.2.2, b43, F44, PySem.W.mg_of X G a44.1, a44.2.2.2, b44, F45, PySem.W.mg_of X G a45.1, a45.2.2.2, b45, F46, PySem.W.mg_of X G a46.1, a46.2.2.2, b46, F47, PySem.W.mg_of X G a47.1, a47.2.2.2, b47, F48, PySem.W.mg_of X G a48.1, a48.2.2.2, b48, F49, PySem.W.mg_of X G a49.1, a49.2.2.2, b49, F50, PySem.W.mg_of X G a50.1, a50.2.2.2, b50, F51, PySem.W.mg_of X G a51.1, a51.2.2.2, b51, F52, PySem.W.mg_of X G a52.1, a52.2.2.2, b52, F53, PySem.W.mg_of X G a53.1, a53.2.2.2, b53, F54, PySem.W.mg_of X G a54.1, a54.2.2.2, b54, PySem.W.mg_none_of X G z0, PySem.W.mg_none_of X G z1, PySem.W.mg_none_of X G z2, PySem.W.mg_none_of X G z3, PySem.W.mg_none_of X G z4, PySem.W.mg_none_of X G z5, PySem.W.mg_none_of X G z6, PySem.W.mg_none_of X G z7, PySem.W.mg_none_of X G z8, PySem.W.mg_none_of X G z9, PySem.W.mg_none_of X G z10, PySem.W.mg_none_of X G z11, PySem.W.mg_of X G v0, ⟨PySem.W.mg_of X G v1, ⟨_, _, _, _, _, _, w1⟩⟩, ⟨PySem.W.mg_of X G v2, ⟨_, _, _, _, _, _, w2⟩⟩, PySem.W.mg_of X G y0, PySem.W.mg_of X G y1, PySem.W.mg_of X G y2, PySem.W.mg_of X G y3, PySem.W.mg_of X G y4, PySem.W.mg_of X G y5, PySem.W.mg_of X G y6, PySem.W.mg_of X G y7, PySem.W.mg_of X G y8, PySem.W.mg_of X G y9, PySem.W.mg_of X G y10, PySem.W.mg_of X G y11, PySem.W.mg_of X G y12, PySem.W.mg_of X G y13, tR, tN, iU, gc, fX, iP, ja, gN, iV, iL, jy, iM, gm, iX, gM, nY, wA, vF, js, gP, gI, jc, jY, iz, jo, jq, jX, jj, gJ, je, iF, qc, ⟨z1_NoNumber, z2_NoNumber, z3_NoNumber, z4_NoNumber, z5_NoNumber, z6_NoNumber⟩, ⟨z1_NoKinds, z2_NoKinds, z3_NoKinds, z4_NoKinds, z5_NoKinds, z6_NoKinds⟩, ⟨B0 lo__law_are_refused, l1__law_are_refused, OA (PySem.W.mg_of X G bb1) bb2 bb3⟩, congrArg Value.ref lc__law_are_refused⟩
  exact ⟨_, fun s v => .of_eq rfl, fun base _ _ => OY (e := ⟨l.prog, w, K, mg, base, _⟩) T⟩
theorem walk {l : PySem.W.OpenLaw} {q : Program} {loose : List Str} {XP : (Str → Option Value) → Heap → Prop} {YP : World → Heap → Prop} {d : DefRec} {K : Params → PySem.W.Frag} (tabs : List Addr) (hn : l.most = some 63) (hdf : d.params.defaults = [])
    (hY : ∀ (w : World) (h : Heap), YP w h → (K w.params).In h ∧ (∀ p ∈ tabs, h.get? p = some (PySem.W.tabObj #[]) ∧ (K w.params).lookup p = none) ∧ (∀ p ∈ tabs, isCodeTable h p))
    (hA2 : ∀ (w : World) c o p q, (K w.params).lookup c = some o → bT o = some (p, q) → p ∈ tabs)
    (F : ∀ (w : World) (mg : Str → Option Value) (fa : Addr) (h : Heap), (K w.params).In h → h.Ns mainGlobals mg → mg d.name = some (.ref fa) →
      ∃ fd : FuncData, (∀ (s : Shared) (u : Value), BindsTo s fd ⟨[u], []⟩ [("_law_script", u)]) ∧ ∀ base : Heap, (K w.params).In base → base.Ns mainGlobals mg → bG l.prog w (K w.params) mg base CX0 14 fa fd ["_law_script"] (spD (K w.params) yB)) :
    PySem.W.WalkO q loose XP YP l.row.toRowW d [] (fun f vs => PySem.call f vs) :=
  L2.Ly (n := 63) (k := 14) (x := "_law_script") (CX := fun _ => CX0) (sp := fun w => spD (K w.params) yB) tabs hn (by decide) hdf ⟨rfl, by decide, by decide⟩ hY hA2 F (fun w H a ns hl hT hS => IW hl hT hS) fun _ _ _ _ _ z => z
end K42
open PySem PySem.W PyProof.Rows L2.DL in
set_option maxRecDepth 100000 in
set_option maxHeartbeats 0 in
theorem PySem.Challenge.cw_matefloors_k42_wishes_refused_holds : PySem.Challenge.rw_matefloors_k42_wishes_refused.Holds :=
  holds_law K42.H.ws fun said => holds_open (XP := XL K42.H.V []) (YP := K42.H.HK.says) (d := K42.H.D) (kwd := []) K42.H.left K42.H.HK.of K42.H.HK.keeps (fun s e => xl_of s (Bool.and_eq_true_iff.mp e).1) XL.keeps (by kernel_rfl) (by kernel_rfl) (by kernel_rfl)
    (fun s e => recFacts_of (Bool.and_eq_true_iff.mp e).2) (by kernel_rfl) said (by kernel_rfl) ⟨by kernel_rfl, by kernel_rfl, by kernel_rfl, by kernel_rfl, by kernel_rfl, by kernel_rfl⟩ ⟨[.list []], by kernel_rfl, by kernel_rfl⟩
    (K42.walk (l := PySem.Challenge.rw_matefloors_k42_wishes_refused) (K := K42.H.K) K42.H.tabs (by kernel_rfl) (by kernel_rfl) (fun w h Y => by
      have Y : (K42.H.KF w.params).In h := Y
      refine ⟨B2 Y, fun p hp => ?_, fun p hp => ?_⟩
      · rcases List.mem_cons.mp hp with rfl | hp
        · exact ⟨Y _ _ (K42.H.jM w.params).1, (K42.H.jM w.params).2⟩
        rcases List.mem_cons.mp hp with rfl | hp
        · exact ⟨Y _ _ (K42.H.GS w.params).1, (K42.H.GS w.params).2⟩
        exact nomatch hp
      · rcases List.mem_cons.mp hp with rfl | hp
        · obtain ⟨o, e1, e2⟩ := B0 (K42.H.iZ w.params); exact AG (B2 Y) e1 e2
        rcases List.mem_cons.mp hp with rfl | hp
        · obtain ⟨o, e1, e2⟩ := B0 (K42.H.J9 w.params); exact AG (B2 Y) e1 e2
        exact nomatch hp) (fun w c o p q e e2 => by
      have h := GY (K42.H.KN w.params) e e2
      have h2 := List.mem_map_of_mem (f := fun x : Addr × Str => x.1) h
      exact h2) fun w mg fa h KX G hmg => by
      obtain ⟨h0, h1, h2, h3, h4, h5, h6, h7, h8, h9, h10, h11, h12, h13, h14, h15, h16, h17, h18, h19, h20, h21, h22, h23, h24, h25, h26, h27, h28, h29, h30, h31, h32, h33, h34, h35, h36, h37, h38, h39, h40, h41, h42, h43, h44, h45, h46, h47, h48, h49, h50, h51, h52, h53, h54, h55, h56, h57, h58, h59, h60, h61, h62, h63, h64, h65, h66, h67, h68, h69, h70, h71, h72, h73, h74, h75, h76, h77, h78, h79, h80, h81, h82, h83, h84, h85, h86, h87, h88, h89, h90, h91, h92, h93, h94, h95, h96, h97, h98, h99, h100, h101, h102, h103, h104, h105, h106, h107, h108, h109, h110, h111, h112, h113, h114, h115, h116, h117, h118, h119, h120, h121, h122, h123, h124, h125, h126, h127, h128⟩ := K42.H.facts w.params
      exact K42.all_mk KX G hmg h0 h1 h2 h3 h4 h5 h6 h7 h8 h9 h10 h11 h12 h13 h14 h15 h16 h17 h18 h19 h20 h21 h22 h23 h24 h25 h26 h27 h28 h29 h30 h31 h32 h33 h34 h35 h36 h37 h38 h39 h40 h41 h42 h43 h44 h45 h46 h47 h48 h49 h50 h51 h52 h53 h54 h55 h56 h57 h58 h59 h60 h61 h62 h63 h64 h65 h66 h67 h68.1 h68.2 h69.1 h69.2 h70 h71 h72 h73 h74 h75 h76 h77 h78 h79 h80 h81 h82 h83 h84 h85 h86 h87 h88 h89 h90 h91 h92 h93 h94 h95 h96 h97 h98 h99 h100 h101 h102 h103 h104 h105 h106 h107 h108 h109 h110 h111 h112 h113 h114 h115 h116 h117 h118 h119 h120 h121 h122 h123 h124 h125 h126 h127 h128.1 h128.2.1 h128.2.2 (K42.H.iZ w.params) (fun c2 o2 q2 e e2 => K42.H.pV (GY (K42.H.KN w.params) e e2)) rfl)
