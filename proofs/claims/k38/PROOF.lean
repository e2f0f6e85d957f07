import PyProof.Rows.All
import Wide.All
import OpenK.AllK
import Wide.FinOn
import Lean
import PyProof.EqAt
import PyProof.EqKinds
import PyProof.TupleCall
import KE.KLam
import PyProof.ExcBaseAll.ValueError
import PyProof.ExcAttrAll.ValueError
import PyProof.EnumMake
import PyProof.WalksEnum
import PyProof.Rows.SetFrom
import PyProof.SetRoads
import KE.KFind
import PySem.Challenge.RW_matefloors_k38_mixtures_refused
set_option Elab.async false
set_option linter.all false
set_option maxRecDepth 100000
set_option maxHeartbeats 4000000
namespace L2
open PySem PySem.W
def plainCur : Sem Fin → Bool
  | .choose .. => false
  | .os .. => false
  | _ => true
theorem step_C {den : Code → Sem Fin} {p : Program} {w : World} {os : OsState} {s s' : Shared} {t t' : Thread} (h : plainCur t.cur = true) (e : step den p ⟨fun _ _ => 0, w.params⟩ s t = .go s' t') :
    step den p w { s with os := os } t = .go { s' with os := os } t' := by
  obtain ⟨heap, gens, drawn, toks, os0⟩ := s
  obtain ⟨cur, code, pos, stack⟩ := t
  cases cur <;> simp only [step, finish, plainCur] at e h ⊢ <;> (try (cases h; done)) <;> (repeat' split at e) <;> simp_all <;> (try (obtain ⟨rfl, rfl⟩ := e; simp_all)) <;> (try (obtain ⟨h1, h2⟩ := e; subst h1; rfl))
def topRunC (tb : String → Option Builtin) (p : Program) (P : Params) (n₀ : Nat) (ann : Option Value) : Nat → Shared → Thread → Option Shared
  | 0, _, _ => none
  | n + 1, s, t => match through t with
    | true => some s
    | false => match stepOk n₀ ann t && plainCur t.cur with
      | false => none
      | true => match step (denote tb) p ⟨fun _ _ => 0, P⟩ s t with
        | .go s' t' => topRunC tb p P n₀ ann n s' t'
        | .halt _ _ => none
theorem topRun_ofC {tb : String → Option Builtin} {p : Program} {w : World} {n₀ : Nat} {ann : Option Value} {os : OsState} : ∀ {n : Nat} {s s' : Shared} {t : Thread}, topRunC tb p w.params n₀ ann n s t = some s' → topRun tb p w n₀ ann n { s with os := os } t = some { s' with os := os }
  | 0, _, _, _, h => by cases h
  | n + 1, s, s', t, h => by
    unfold topRunC at h
    unfold topRun
    cases ht : through t with
    | true => rw [ht] at h; cases h; rfl
    | false =>
      rw [ht] at h
      cases hk : (stepOk n₀ ann t && plainCur t.cur) with
      | false => rw [hk] at h; cases h
      | true =>
        rw [hk] at h
        obtain ⟨k1, k2⟩ := Bool.and_eq_true_iff.mp hk
        cases hs : step (denote tb) p ⟨fun _ _ => 0, w.params⟩ s t with
        | halt o s₂ => rw [hs] at h; cases h
        | go s₂ t₂ =>
          rw [hs] at h
          rw [k1, step_C (os := os) k2 hs]
          exact topRun_ofC h
noncomputable def topRunQ (p : Program) (P : Params) (n₀ : Nat) (ann : Option Value) : Nat → Shared → Thread → Option Shared
  | 0, _, _ => none
  | n + 1, s, t => match through t with
    | true => some s
    | false => match Fast.tw6613529449190102663 n₀ ann t && plainCur t.cur with
      | false => none
      | true => match Fast.tw8437177126325714943 (Fast.tw11892475500146522536 Fast.tw14364793385576792824) p ⟨fun _ _ => 0, P⟩ s t with
        | .go s' t' => topRunQ p P n₀ ann n s' t'
        | .halt _ _ => none
theorem topRunQ_eq {p : Program} {P : Params} {n₀ : Nat} {ann : Option Value} : ∀ (n : Nat) (s : Shared) (t : Thread), topRunQ p P n₀ ann n s t = topRunC treeTable p P n₀ ann n s t
  | 0, _, _ => rfl
  | n + 1, s, t => by
    unfold topRunQ topRunC
    rw [← Fast.te6613529449190102663, ← Fast.te8437177126325714943, ← Fast.te11892475500146522536, ← Fast.te14364793385576792824]
    cases through t with
    | true => rfl
    | false =>
      cases (stepOk n₀ ann t && plainCur t.cur) with
      | false => rfl
      | true =>
        cases step (denote treeTable) p ⟨fun _ _ => 0, P⟩ s t with
        | halt o s₂ => rfl
        | go s₂ t₂ => exact topRunQ_eq n s₂ t₂
end L2
namespace L2
open PySem
def defArgs (s : Stmt) : Arguments := match s with
  | .FunctionDef _ a _ _ _ _ _ _ _ _ => a
  | _ => { posonlyargs := [], args := [], vararg := none, kwonlyargs := [], kw_defaults := [], kwarg := none, defaults := [] }
def defBody (s : Stmt) : List Stmt := match s with
  | .FunctionDef _ _ b _ _ _ _ _ _ _ => b
  | _ => []
def defScope (s : Stmt) : Scope := match s with
  | .FunctionDef _ _ _ _ _ _ sc _ _ _ => sc
  | _ => { kind := .function, names := [], isGenerator := false, isCoroutine := false }
end L2
namespace L2.DL
open PySem
def lamNames : List Str := ["law", "_law_is_right", "_law_is_put", "_law_are_refused", "_law_is_told", "_law_said", "_law_is_plan_told"]
def lamCode (o : Obj) : Option (Addr × Str) := match o.cls, o.data with
  | .type c, .fields vs => if c = "code" then (match vs[1]?, vs[7]?, vs[9]?, vs[10]?, vs[11]?, vs[18]? with
    | some (Value.str q _), some (Value.int _ _), some (Value.bool _), some (Value.int _ _), some (Value.ref P), some (Value.str _ _) => if lamNames.contains q = true then some (P, q) else none
    | _, _, _, _, _, _ => none) else none
  | _, _ => none
abbrev bmV : List Value := [.type "ValueError", .type "Exception", .type "BaseException", .type "object"]
end L2.DL
namespace K38
open PySem L2
def top (i : Nat) : Stmt := PySem.Challenge.pw_matefloors_k38_mixtures_refused.main.body.getD i (.Pass ⟨0, 0, 0, 0⟩)
abbrev s_is_whole : Stmt := top 18
abbrev s_common_divisor : Stmt := top 19
abbrev s_is_number : Stmt := top 20
abbrev s_divisor_of_all : Stmt := top 21
abbrev s_number : Stmt := top 22
abbrev s_mate : Stmt := top 23
abbrev s_plus : Stmt := top 24
abbrev s_less : Stmt := top 25
abbrev s_times : Stmt := top 26
abbrev s_over : Stmt := top 27
abbrev s_contrary : Stmt := top 28
abbrev s_sign_of : Stmt := top 29
abbrev s_sign_of_parts : Stmt := top 30
abbrev s_is_above_nought : Stmt := top 31
abbrev s_must_be_above_nought : Stmt := top 32
abbrev s_mixture_of : Stmt := top 34
abbrev s_shares_of : Stmt := top 35
abbrev s_is_share : Stmt := top 36
abbrev s_bar_for : Stmt := top 37
abbrev s_skew : Stmt := top 38
abbrev s__law_bag : Stmt := top 40
abbrev s__law_take : Stmt := top 41
abbrev s__law_is_whole : Stmt := top 42
abbrev s__law_shared : Stmt := top 43
abbrev s__law_low : Stmt := top 44
abbrev s__law_is_number : Stmt := top 45
abbrev s__law_plus : Stmt := top 46
abbrev s__law_minus : Stmt := top 47
abbrev s__law_times : Stmt := top 48
abbrev s__law_contrary : Stmt := top 49
abbrev s__law_sign : Stmt := top 50
abbrev s__law_root : Stmt := top 51
abbrev s__law_number : Stmt := top 52
abbrev s__law_above : Stmt := top 53
abbrev s__law_odd : Stmt := top 54
abbrev s__law_refusal : Stmt := top 55
abbrev s__law_kinds : Stmt := top 56
abbrev s__law_bad_above : Stmt := top 57
abbrev s__law_shape : Stmt := top 58
abbrev s__law_fraction : Stmt := top 59
abbrev s__law_is_mixture : Stmt := top 60
abbrev s_law : Stmt := top 61
end K38
namespace K38.H
open PySem PySem.W PyProof.Rows L2 L2.DL
set_option maxRecDepth 100000
set_option maxHeartbeats 0
abbrev R : OpenLaw := PySem.Challenge.rw_matefloors_k38_mixtures_refused
noncomputable def sT (P : Params) : Option Shared := topRunQ R.row.prog P 11 (some (.ref 6)) 20000 { heap := boot_heap P, gens := #[], drawn := boot_drawn, toks := boot_toks, os := default } (topStub R.row.prog)
noncomputable def hT (P : Params) : Heap := (sT P).elim default (·.heap)
def isNm : Stmt → Bool
  | .Assign [.Name x _] _ _ => x == "__name__"
  | _ => false
def V : Program := { R.row.prog with main := { R.row.prog.main with body := R.row.prog.main.body.filter fun s => !isNm s } }
def as : List Addr := [3, 192, 191, 199, 198, 206, 205, 213, 212, 220, 219, 227, 226, 234, 233, 241, 240, 248, 247, 255, 254, 262, 261, 269, 268, 276, 275, 283, 282, 290, 289, 295, 294, 302, 301, 309, 308, 316, 315, 323, 322, 330, 329, 337, 336, 344, 343, 351, 350, 358, 357, 363, 362, 370, 369, 377, 376, 384, 383, 391, 390, 398, 397, 403, 402, 410, 409, 417, 416, 424, 423, 429, 428, 436, 435, 443, 442, 450, 449, 457, 456, 462, 461, 467, 466, 184, 185, 24, 23, 37, 36, 49, 48, 61, 60, 73, 72, 85, 84, 97, 96, 109, 108, 121, 120, 133, 132, 145, 144, 157, 156, 169, 168, 181, 180, 4]
def tabs : List Addr := [464]
noncomputable def K (P : Params) : Frag := as.map fun a => (a, ((hT P).get? a).getD default)
noncomputable def TF (P : Params) : Frag := tabs.map fun a => (a, ((hT P).get? a).getD default)
noncomputable def KF (P : Params) : Frag := K P ++ TF P
theorem kAs (P : Params) : as ++ tabs = (KF P).map (·.1) := by
  unfold KF K TF
  rw [List.map_append, List.map_map, List.map_map]
  exact congr (congrArg HAppend.hAppend (List.map_id _).symm) (List.map_id _).symm
noncomputable def HK : Hook := kHook KF (as ++ tabs) kAs
def posOf : Stmt → Pos
  | .FunctionDef _ _ _ _ _ _ _ _ _ p => p
  | _ => ⟨0, 0, 0, 0⟩
def D : DefRec := ⟨"law", defArgs K38.s_law, defBody K38.s_law, defScope K38.s_law, posOf K38.s_law⟩
def Xt : Shared → Bool := fun s => xlAt V [] s && recOk R.row.records s
theorem runC (P : Params) : (sT P).map (fun s => (s.gens, s.drawn, s.toks)) = some (#[], {}, 804) := by kernel_rfl
theorem run (w : World) (os : OsState) : topRun treeTable R.row.prog w 11 (some (.ref 6)) 20000 { heap := boot_heap w.params, gens := #[], drawn := boot_drawn, toks := boot_toks, os := os } (topStub R.row.prog) = some { heap := hT w.params, gens := #[], drawn := {}, toks := 804, os := os } := by
  have h := runC w.params
  cases e : sT w.params with
  | none => rw [e] at h; cases h
  | some s =>
    rw [e] at h
    obtain ⟨heap, gens, drawn, toks, os0⟩ := s
    have hh : hT w.params = heap := by unfold hT; rw [e]; rfl
    have h' : some (gens, drawn, toks) = some ((#[] : Array GenState), ({} : Drawn), 804) := h
    cases h'
    rw [hh]
    exact topRun_ofC (w := w) (os := os) ((topRunQ_eq _ _ _).symm.trans e)
theorem seenA (w : World) (os : OsState) : (staticsOk (importedModules R.row.prog.main.body) (boot_heap w.params) (hT w.params) && namesBound R.row.prog (hT w.params) && gensDone { heap := hT w.params, gens := #[], drawn := {}, toks := 804, os := os } && laidKept (boot_heap w.params) (hT w.params)) = true := by kernel_rfl
theorem seenBg0 (w : World) (os : OsState) : (openSeen V [] (importedModules R.row.prog.main.body) Xt true { heap := hT w.params, gens := #[], drawn := {}, toks := 804, os := os }).1 = (openGood V []).1 ∧ (openSeen V [] (importedModules R.row.prog.main.body) Xt true { heap := hT w.params, gens := #[], drawn := {}, toks := 804, os := os }).2.1 = (openGood V []).2.1 ∧ (openSeen V [] (importedModules R.row.prog.main.body) Xt true { heap := hT w.params, gens := #[], drawn := {}, toks := 804, os := os }).2.2.1 = (openGood V []).2.2.1 := ⟨by kernel_rfl, by kernel_rfl, by kernel_rfl⟩
theorem seenBg1 (w : World) (os : OsState) : (openSeen V [] (importedModules R.row.prog.main.body) Xt true { heap := hT w.params, gens := #[], drawn := {}, toks := 804, os := os }).2.2.2.1 = (openGood V []).2.2.2.1 ∧ (openSeen V [] (importedModules R.row.prog.main.body) Xt true { heap := hT w.params, gens := #[], drawn := {}, toks := 804, os := os }).2.2.2.2.1 = (openGood V []).2.2.2.2.1 ∧ (openSeen V [] (importedModules R.row.prog.main.body) Xt true { heap := hT w.params, gens := #[], drawn := {}, toks := 804, os := os }).2.2.2.2.2.1 = (openGood V []).2.2.2.2.2.1 := ⟨by kernel_rfl, by kernel_rfl, by kernel_rfl⟩
theorem seenBg2 (w : World) (os : OsState) : (openSeen V [] (importedModules R.row.prog.main.body) Xt true { heap := hT w.params, gens := #[], drawn := {}, toks := 804, os := os }).2.2.2.2.2.2.1 = (openGood V []).2.2.2.2.2.2.1 ∧ (openSeen V [] (importedModules R.row.prog.main.body) Xt true { heap := hT w.params, gens := #[], drawn := {}, toks := 804, os := os }).2.2.2.2.2.2.2.1 = (openGood V []).2.2.2.2.2.2.2.1 ∧ (openSeen V [] (importedModules R.row.prog.main.body) Xt true { heap := hT w.params, gens := #[], drawn := {}, toks := 804, os := os }).2.2.2.2.2.2.2.2 = (openGood V []).2.2.2.2.2.2.2.2 := ⟨by kernel_rfl, by kernel_rfl, by kernel_rfl⟩
theorem seenB0 (w : World) (os : OsState) : (openSeen V [] (importedModules R.row.prog.main.body) Xt true { heap := hT w.params, gens := #[], drawn := {}, toks := 804, os := os }).1 = (openGood V []).1 := (seenBg0 w os).1
theorem seenB1 (w : World) (os : OsState) : (openSeen V [] (importedModules R.row.prog.main.body) Xt true { heap := hT w.params, gens := #[], drawn := {}, toks := 804, os := os }).2.1 = (openGood V []).2.1 := (seenBg0 w os).2.1
theorem seenB2 (w : World) (os : OsState) : (openSeen V [] (importedModules R.row.prog.main.body) Xt true { heap := hT w.params, gens := #[], drawn := {}, toks := 804, os := os }).2.2.1 = (openGood V []).2.2.1 := (seenBg0 w os).2.2
theorem seenB3 (w : World) (os : OsState) : (openSeen V [] (importedModules R.row.prog.main.body) Xt true { heap := hT w.params, gens := #[], drawn := {}, toks := 804, os := os }).2.2.2.1 = (openGood V []).2.2.2.1 := (seenBg1 w os).1
theorem seenB4 (w : World) (os : OsState) : (openSeen V [] (importedModules R.row.prog.main.body) Xt true { heap := hT w.params, gens := #[], drawn := {}, toks := 804, os := os }).2.2.2.2.1 = (openGood V []).2.2.2.2.1 := (seenBg1 w os).2.1
theorem seenB5 (w : World) (os : OsState) : (openSeen V [] (importedModules R.row.prog.main.body) Xt true { heap := hT w.params, gens := #[], drawn := {}, toks := 804, os := os }).2.2.2.2.2.1 = (openGood V []).2.2.2.2.2.1 := (seenBg1 w os).2.2
theorem seenB6 (w : World) (os : OsState) : (openSeen V [] (importedModules R.row.prog.main.body) Xt true { heap := hT w.params, gens := #[], drawn := {}, toks := 804, os := os }).2.2.2.2.2.2.1 = (openGood V []).2.2.2.2.2.2.1 := (seenBg2 w os).1
theorem seenB7 (w : World) (os : OsState) : (openSeen V [] (importedModules R.row.prog.main.body) Xt true { heap := hT w.params, gens := #[], drawn := {}, toks := 804, os := os }).2.2.2.2.2.2.2.1 = (openGood V []).2.2.2.2.2.2.2.1 := (seenBg2 w os).2.1
theorem seenB8 (w : World) (os : OsState) : (openSeen V [] (importedModules R.row.prog.main.body) Xt true { heap := hT w.params, gens := #[], drawn := {}, toks := 804, os := os }).2.2.2.2.2.2.2.2 = (openGood V []).2.2.2.2.2.2.2.2 := (seenBg2 w os).2.2
theorem seenB (w : World) (os : OsState) : openSeen V [] (importedModules R.row.prog.main.body) Xt true { heap := hT w.params, gens := #[], drawn := {}, toks := 804, os := os } = openGood V [] := Prod.ext (seenB0 w os) (Prod.ext (seenB1 w os) (Prod.ext (seenB2 w os) (Prod.ext (seenB3 w os) (Prod.ext (seenB4 w os) (Prod.ext (seenB5 w os) (Prod.ext (seenB6 w os) (Prod.ext (seenB7 w os) (seenB8 w os))))))))
theorem seenC (w : World) (os : OsState) : HK.obs { heap := hT w.params, gens := #[], drawn := {}, toks := 804, os := os } = HK.val w := by kernel_rfl
theorem seen (w : World) : (fun os => (staticsOk (importedModules R.row.prog.main.body) (boot_heap w.params) (hT w.params) && namesBound R.row.prog (hT w.params) && gensDone { heap := hT w.params, gens := #[], drawn := {}, toks := 804, os := os } && laidKept (boot_heap w.params) (hT w.params),
    openSeen V [] (importedModules R.row.prog.main.body) Xt true { heap := hT w.params, gens := #[], drawn := {}, toks := 804, os := os }, HK.obs { heap := hT w.params, gens := #[], drawn := {}, toks := 804, os := os })) = fun _ : OsState => (true, openGood V [], HK.val w) :=
  funext fun os => Prod.ext (seenA w os) (Prod.ext (seenB w os) (seenC w os))
theorem ws : R.wellSaid = true := by kernel_rfl
theorem facts (P : Params) : (nsIn (K P) mainGlobals "is_whole" = some (some (.ref 192)) ∧ (K P).lookup 192 = some ⟨.type "function", none, .func (fnOf "is_whole" "is_whole" (defArgs s_is_whole) (defBody s_is_whole) (defScope s_is_whole) .none .none .none (.str "matefloors.numbers" 415) none (.ref 191) .none), #[]⟩ ∧ codeIn (K P) (.ref 191) "is_whole" = true ∧ keepIn (K P) (.ref 192) = true) ∧ (nsIn (K P) mainGlobals "common_divisor" = some (some (.ref 199)) ∧ (K P).lookup 199 = some ⟨.type "function", none, .func (fnOf "common_divisor" "common_divisor" (defArgs s_common_divisor) (defBody s_common_divisor) (defScope s_common_divisor) .none .none .none (.str "matefloors.numbers" 415) none (.ref 198) .none), #[]⟩ ∧ codeIn (K P) (.ref 198) "common_divisor" = true ∧ keepIn (K P) (.ref 199) = true) ∧ (nsIn (K P) mainGlobals "is_number" = some (some (.ref 206)) ∧ (K P).lookup 206 = some ⟨.type "function", none, .func (fnOf "is_number" "is_number" (defArgs s_is_number) (defBody s_is_number) (defScope s_is_number) .none .none .none (.str "matefloors.numbers" 415) none (.ref 205) .none), #[]⟩ ∧ codeIn (K P) (.ref 205) "is_number" = true ∧ keepIn (K P) (.ref 206) = true) ∧ (nsIn (K P) mainGlobals "divisor_of_all" = some (some (.ref 213)) ∧ (K P).lookup 213 = some ⟨.type "function", none, .func (fnOf "divisor_of_all" "divisor_of_all" (defArgs s_divisor_of_all) (defBody s_divisor_of_all) (defScope s_divisor_of_all) .none .none .none (.str "matefloors.numbers" 415) none (.ref 212) .none), #[]⟩ ∧ codeIn (K P) (.ref 212) "divisor_of_all" = true ∧ keepIn (K P) (.ref 213) = true) ∧ (nsIn (K P) mainGlobals "number" = some (some (.ref 220)) ∧ (K P).lookup 220 = some ⟨.type "function", none, .func (fnOf "number" "number" (defArgs s_number) (defBody s_number) (defScope s_number) .none .none .none (.str "matefloors.numbers" 415) none (.ref 219) .none), #[]⟩ ∧ codeIn (K P) (.ref 219) "number" = true ∧ keepIn (K P) (.ref 220) = true) ∧ (nsIn (K P) mainGlobals "mate" = some (some (.ref 227)) ∧ (K P).lookup 227 = some ⟨.type "function", none, .func (fnOf "mate" "mate" (defArgs s_mate) (defBody s_mate) (defScope s_mate) .none .none .none (.str "matefloors.numbers" 415) none (.ref 226) .none), #[]⟩ ∧ codeIn (K P) (.ref 226) "mate" = true ∧ keepIn (K P) (.ref 227) = true) ∧ (nsIn (K P) mainGlobals "plus" = some (some (.ref 234)) ∧ (K P).lookup 234 = some ⟨.type "function", none, .func (fnOf "plus" "plus" (defArgs s_plus) (defBody s_plus) (defScope s_plus) .none .none .none (.str "matefloors.numbers" 415) none (.ref 233) .none), #[]⟩ ∧ codeIn (K P) (.ref 233) "plus" = true ∧ keepIn (K P) (.ref 234) = true) ∧ (nsIn (K P) mainGlobals "less" = some (some (.ref 241)) ∧ (K P).lookup 241 = some ⟨.type "function", none, .func (fnOf "less" "less" (defArgs s_less) (defBody s_less) (defScope s_less) .none .none .none (.str "matefloors.numbers" 415) none (.ref 240) .none), #[]⟩ ∧ codeIn (K P) (.ref 240) "less" = true ∧ keepIn (K P) (.ref 241) = true) ∧ (nsIn (K P) mainGlobals "times" = some (some (.ref 248)) ∧ (K P).lookup 248 = some ⟨.type "function", none, .func (fnOf "times" "times" (defArgs s_times) (defBody s_times) (defScope s_times) .none .none .none (.str "matefloors.numbers" 415) none (.ref 247) .none), #[]⟩ ∧ codeIn (K P) (.ref 247) "times" = true ∧ keepIn (K P) (.ref 248) = true) ∧ (nsIn (K P) mainGlobals "over" = some (some (.ref 255)) ∧ (K P).lookup 255 = some ⟨.type "function", none, .func (fnOf "over" "over" (defArgs s_over) (defBody s_over) (defScope s_over) .none .none .none (.str "matefloors.numbers" 415) none (.ref 254) .none), #[]⟩ ∧ codeIn (K P) (.ref 254) "over" = true ∧ keepIn (K P) (.ref 255) = true) ∧ (nsIn (K P) mainGlobals "contrary" = some (some (.ref 262)) ∧ (K P).lookup 262 = some ⟨.type "function", none, .func (fnOf "contrary" "contrary" (defArgs s_contrary) (defBody s_contrary) (defScope s_contrary) .none .none .none (.str "matefloors.numbers" 415) none (.ref 261) .none), #[]⟩ ∧ codeIn (K P) (.ref 261) "contrary" = true ∧ keepIn (K P) (.ref 262) = true) ∧ (nsIn (K P) mainGlobals "sign_of" = some (some (.ref 269)) ∧ (K P).lookup 269 = some ⟨.type "function", none, .func (fnOf "sign_of" "sign_of" (defArgs s_sign_of) (defBody s_sign_of) (defScope s_sign_of) .none .none .none (.str "matefloors.numbers" 415) none (.ref 268) .none), #[]⟩ ∧ codeIn (K P) (.ref 268) "sign_of" = true ∧ keepIn (K P) (.ref 269) = true) ∧ (nsIn (K P) mainGlobals "sign_of_parts" = some (some (.ref 276)) ∧ (K P).lookup 276 = some ⟨.type "function", none, .func (fnOf "sign_of_parts" "sign_of_parts" (defArgs s_sign_of_parts) (defBody s_sign_of_parts) (defScope s_sign_of_parts) .none .none .none (.str "matefloors.numbers" 415) none (.ref 275) .none), #[]⟩ ∧ codeIn (K P) (.ref 275) "sign_of_parts" = true ∧ keepIn (K P) (.ref 276) = true) ∧ (nsIn (K P) mainGlobals "is_above_nought" = some (some (.ref 283)) ∧ (K P).lookup 283 = some ⟨.type "function", none, .func (fnOf "is_above_nought" "is_above_nought" (defArgs s_is_above_nought) (defBody s_is_above_nought) (defScope s_is_above_nought) .none .none .none (.str "matefloors.numbers" 415) none (.ref 282) .none), #[]⟩ ∧ codeIn (K P) (.ref 282) "is_above_nought" = true ∧ keepIn (K P) (.ref 283) = true) ∧ (nsIn (K P) mainGlobals "must_be_above_nought" = some (some (.ref 290)) ∧ (K P).lookup 290 = some ⟨.type "function", none, .func (fnOf "must_be_above_nought" "must_be_above_nought" (defArgs s_must_be_above_nought) (defBody s_must_be_above_nought) (defScope s_must_be_above_nought) .none .none .none (.str "matefloors.numbers" 415) none (.ref 289) .none), #[]⟩ ∧ codeIn (K P) (.ref 289) "must_be_above_nought" = true ∧ keepIn (K P) (.ref 290) = true) ∧ (nsIn (K P) mainGlobals "mixture_of" = some (some (.ref 295)) ∧ (K P).lookup 295 = some ⟨.type "function", none, .func (fnOf "mixture_of" "mixture_of" (defArgs s_mixture_of) (defBody s_mixture_of) (defScope s_mixture_of) .none .none .none (.str "matefloors.mixtures" 553) none (.ref 294) .none), #[]⟩ ∧ codeIn (K P) (.ref 294) "mixture_of" = true ∧ keepIn (K P) (.ref 295) = true) ∧ (nsIn (K P) mainGlobals "shares_of" = some (some (.ref 302)) ∧ (K P).lookup 302 = some ⟨.type "function", none, .func (fnOf "shares_of" "shares_of" (defArgs s_shares_of) (defBody s_shares_of) (defScope s_shares_of) .none .none .none (.str "matefloors.mixtures" 553) none (.ref 301) .none), #[]⟩ ∧ codeIn (K P) (.ref 301) "shares_of" = true ∧ keepIn (K P) (.ref 302) = true) ∧ (nsIn (K P) mainGlobals "is_share" = some (some (.ref 309)) ∧ (K P).lookup 309 = some ⟨.type "function", none, .func (fnOf "is_share" "is_share" (defArgs s_is_share) (defBody s_is_share) (defScope s_is_share) .none .none .none (.str "matefloors.mixtures" 553) none (.ref 308) .none), #[]⟩ ∧ codeIn (K P) (.ref 308) "is_share" = true ∧ keepIn (K P) (.ref 309) = true) ∧ (nsIn (K P) mainGlobals "bar_for" = some (some (.ref 316)) ∧ (K P).lookup 316 = some ⟨.type "function", none, .func (fnOf "bar_for" "bar_for" (defArgs s_bar_for) (defBody s_bar_for) (defScope s_bar_for) .none .none .none (.str "matefloors.mixtures" 553) none (.ref 315) .none), #[]⟩ ∧ codeIn (K P) (.ref 315) "bar_for" = true ∧ keepIn (K P) (.ref 316) = true) ∧ (nsIn (K P) mainGlobals "skew" = some (some (.ref 323)) ∧ (K P).lookup 323 = some ⟨.type "function", none, .func (fnOf "skew" "skew" (defArgs s_skew) (defBody s_skew) (defScope s_skew) .none .none .none (.str "matefloors.mixtures" 553) none (.ref 322) .none), #[]⟩ ∧ codeIn (K P) (.ref 322) "skew" = true ∧ keepIn (K P) (.ref 323) = true) ∧ (nsIn (K P) mainGlobals "_law_bag" = some (some (.ref 330)) ∧ (K P).lookup 330 = some ⟨.type "function", none, .func (fnOf "_law_bag" "_law_bag" (defArgs s__law_bag) (defBody s__law_bag) (defScope s__law_bag) .none .none .none (.str "law_matefloors_k38_mixtures_refused" 606) none (.ref 329) .none), #[]⟩ ∧ codeIn (K P) (.ref 329) "_law_bag" = true ∧ keepIn (K P) (.ref 330) = true) ∧ (nsIn (K P) mainGlobals "_law_take" = some (some (.ref 337)) ∧ (K P).lookup 337 = some ⟨.type "function", none, .func (fnOf "_law_take" "_law_take" (defArgs s__law_take) (defBody s__law_take) (defScope s__law_take) .none .none .none (.str "law_matefloors_k38_mixtures_refused" 606) none (.ref 336) .none), #[]⟩ ∧ codeIn (K P) (.ref 336) "_law_take" = true ∧ keepIn (K P) (.ref 337) = true) ∧ (nsIn (K P) mainGlobals "_law_is_whole" = some (some (.ref 344)) ∧ (K P).lookup 344 = some ⟨.type "function", none, .func (fnOf "_law_is_whole" "_law_is_whole" (defArgs s__law_is_whole) (defBody s__law_is_whole) (defScope s__law_is_whole) .none .none .none (.str "law_matefloors_k38_mixtures_refused" 606) none (.ref 343) .none), #[]⟩ ∧ codeIn (K P) (.ref 343) "_law_is_whole" = true ∧ keepIn (K P) (.ref 344) = true) ∧ (nsIn (K P) mainGlobals "_law_shared" = some (some (.ref 351)) ∧ (K P).lookup 351 = some ⟨.type "function", none, .func (fnOf "_law_shared" "_law_shared" (defArgs s__law_shared) (defBody s__law_shared) (defScope s__law_shared) .none .none .none (.str "law_matefloors_k38_mixtures_refused" 606) none (.ref 350) .none), #[]⟩ ∧ codeIn (K P) (.ref 350) "_law_shared" = true ∧ keepIn (K P) (.ref 351) = true) ∧ (nsIn (K P) mainGlobals "_law_low" = some (some (.ref 358)) ∧ (K P).lookup 358 = some ⟨.type "function", none, .func (fnOf "_law_low" "_law_low" (defArgs s__law_low) (defBody s__law_low) (defScope s__law_low) .none .none .none (.str "law_matefloors_k38_mixtures_refused" 606) none (.ref 357) .none), #[]⟩ ∧ codeIn (K P) (.ref 357) "_law_low" = true ∧ keepIn (K P) (.ref 358) = true) ∧ (nsIn (K P) mainGlobals "_law_is_number" = some (some (.ref 363)) ∧ (K P).lookup 363 = some ⟨.type "function", none, .func (fnOf "_law_is_number" "_law_is_number" (defArgs s__law_is_number) (defBody s__law_is_number) (defScope s__law_is_number) .none .none .none (.str "law_matefloors_k38_mixtures_refused" 606) none (.ref 362) .none), #[]⟩ ∧ codeIn (K P) (.ref 362) "_law_is_number" = true ∧ keepIn (K P) (.ref 363) = true) ∧ (nsIn (K P) mainGlobals "_law_plus" = some (some (.ref 370)) ∧ (K P).lookup 370 = some ⟨.type "function", none, .func (fnOf "_law_plus" "_law_plus" (defArgs s__law_plus) (defBody s__law_plus) (defScope s__law_plus) .none .none .none (.str "law_matefloors_k38_mixtures_refused" 606) none (.ref 369) .none), #[]⟩ ∧ codeIn (K P) (.ref 369) "_law_plus" = true ∧ keepIn (K P) (.ref 370) = true) ∧ (nsIn (K P) mainGlobals "_law_minus" = some (some (.ref 377)) ∧ (K P).lookup 377 = some ⟨.type "function", none, .func (fnOf "_law_minus" "_law_minus" (defArgs s__law_minus) (defBody s__law_minus) (defScope s__law_minus) .none .none .none (.str "law_matefloors_k38_mixtures_refused" 606) none (.ref 376) .none), #[]⟩ ∧ codeIn (K P) (.ref 376) "_law_minus" = true ∧ keepIn (K P) (.ref 377) = true) ∧ (nsIn (K P) mainGlobals "_law_times" = some (some (.ref 384)) ∧ (K P).lookup 384 = some ⟨.type "function", none, .func (fnOf "_law_times" "_law_times" (defArgs s__law_times) (defBody s__law_times) (defScope s__law_times) .none .none .none (.str "law_matefloors_k38_mixtures_refused" 606) none (.ref 383) .none), #[]⟩ ∧ codeIn (K P) (.ref 383) "_law_times" = true ∧ keepIn (K P) (.ref 384) = true) ∧ (nsIn (K P) mainGlobals "_law_contrary" = some (some (.ref 391)) ∧ (K P).lookup 391 = some ⟨.type "function", none, .func (fnOf "_law_contrary" "_law_contrary" (defArgs s__law_contrary) (defBody s__law_contrary) (defScope s__law_contrary) .none .none .none (.str "law_matefloors_k38_mixtures_refused" 606) none (.ref 390) .none), #[]⟩ ∧ codeIn (K P) (.ref 390) "_law_contrary" = true ∧ keepIn (K P) (.ref 391) = true) ∧ (nsIn (K P) mainGlobals "_law_sign" = some (some (.ref 398)) ∧ (K P).lookup 398 = some ⟨.type "function", none, .func (fnOf "_law_sign" "_law_sign" (defArgs s__law_sign) (defBody s__law_sign) (defScope s__law_sign) .none .none .none (.str "law_matefloors_k38_mixtures_refused" 606) none (.ref 397) .none), #[]⟩ ∧ codeIn (K P) (.ref 397) "_law_sign" = true ∧ keepIn (K P) (.ref 398) = true) ∧ (nsIn (K P) mainGlobals "_law_root" = some (some (.ref 403)) ∧ (K P).lookup 403 = some ⟨.type "function", none, .func (fnOf "_law_root" "_law_root" (defArgs s__law_root) (defBody s__law_root) (defScope s__law_root) .none .none .none (.str "law_matefloors_k38_mixtures_refused" 606) none (.ref 402) .none), #[]⟩ ∧ codeIn (K P) (.ref 402) "_law_root" = true ∧ keepIn (K P) (.ref 403) = true) ∧ (nsIn (K P) mainGlobals "_law_number" = some (some (.ref 410)) ∧ (K P).lookup 410 = some ⟨.type "function", none, .func (fnOf "_law_number" "_law_number" (defArgs s__law_number) (defBody s__law_number) (defScope s__law_number) .none .none .none (.str "law_matefloors_k38_mixtures_refused" 606) none (.ref 409) .none), #[]⟩ ∧ codeIn (K P) (.ref 409) "_law_number" = true ∧ keepIn (K P) (.ref 410) = true) ∧ (nsIn (K P) mainGlobals "_law_above" = some (some (.ref 417)) ∧ (K P).lookup 417 = some ⟨.type "function", none, .func (fnOf "_law_above" "_law_above" (defArgs s__law_above) (defBody s__law_above) (defScope s__law_above) .none .none .none (.str "law_matefloors_k38_mixtures_refused" 606) none (.ref 416) .none), #[]⟩ ∧ codeIn (K P) (.ref 416) "_law_above" = true ∧ keepIn (K P) (.ref 417) = true) ∧ (nsIn (K P) mainGlobals "_law_odd" = some (some (.ref 424)) ∧ (K P).lookup 424 = some ⟨.type "function", none, .func (fnOf "_law_odd" "_law_odd" (defArgs s__law_odd) (defBody s__law_odd) (defScope s__law_odd) .none .none .none (.str "law_matefloors_k38_mixtures_refused" 606) none (.ref 423) .none), #[]⟩ ∧ codeIn (K P) (.ref 423) "_law_odd" = true ∧ keepIn (K P) (.ref 424) = true) ∧ (nsIn (K P) mainGlobals "_law_refusal" = some (some (.ref 429)) ∧ (K P).lookup 429 = some ⟨.type "function", none, .func (fnOf "_law_refusal" "_law_refusal" (defArgs s__law_refusal) (defBody s__law_refusal) (defScope s__law_refusal) .none .none .none (.str "law_matefloors_k38_mixtures_refused" 606) none (.ref 428) .none), #[]⟩ ∧ codeIn (K P) (.ref 428) "_law_refusal" = true ∧ keepIn (K P) (.ref 429) = true) ∧ (nsIn (K P) mainGlobals "_law_kinds" = some (some (.ref 436)) ∧ (K P).lookup 436 = some ⟨.type "function", none, .func (fnOf "_law_kinds" "_law_kinds" (defArgs s__law_kinds) (defBody s__law_kinds) (defScope s__law_kinds) .none .none .none (.str "law_matefloors_k38_mixtures_refused" 606) none (.ref 435) .none), #[]⟩ ∧ codeIn (K P) (.ref 435) "_law_kinds" = true ∧ keepIn (K P) (.ref 436) = true) ∧ (nsIn (K P) mainGlobals "_law_bad_above" = some (some (.ref 443)) ∧ (K P).lookup 443 = some ⟨.type "function", none, .func (fnOf "_law_bad_above" "_law_bad_above" (defArgs s__law_bad_above) (defBody s__law_bad_above) (defScope s__law_bad_above) .none .none .none (.str "law_matefloors_k38_mixtures_refused" 606) none (.ref 442) .none), #[]⟩ ∧ codeIn (K P) (.ref 442) "_law_bad_above" = true ∧ keepIn (K P) (.ref 443) = true) ∧ (nsIn (K P) mainGlobals "_law_shape" = some (some (.ref 450)) ∧ (K P).lookup 450 = some ⟨.type "function", none, .func (fnOf "_law_shape" "_law_shape" (defArgs s__law_shape) (defBody s__law_shape) (defScope s__law_shape) .none .none .none (.str "law_matefloors_k38_mixtures_refused" 606) none (.ref 449) .none), #[]⟩ ∧ codeIn (K P) (.ref 449) "_law_shape" = true ∧ keepIn (K P) (.ref 450) = true) ∧ (nsIn (K P) mainGlobals "_law_fraction" = some (some (.ref 457)) ∧ (K P).lookup 457 = some ⟨.type "function", none, .func (fnOf "_law_fraction" "_law_fraction" (defArgs s__law_fraction) (defBody s__law_fraction) (defScope s__law_fraction) .none .none .none (.str "law_matefloors_k38_mixtures_refused" 606) none (.ref 456) .none), #[]⟩ ∧ codeIn (K P) (.ref 456) "_law_fraction" = true ∧ keepIn (K P) (.ref 457) = true) ∧ (nsIn (K P) mainGlobals "_law_is_mixture" = some (some (.ref 462)) ∧ (K P).lookup 462 = some ⟨.type "function", none, .func (fnOf "_law_is_mixture" "_law_is_mixture" (defArgs s__law_is_mixture) (defBody s__law_is_mixture) (defScope s__law_is_mixture) .none .none .none (.str "law_matefloors_k38_mixtures_refused" 606) none (.ref 461) .none), #[]⟩ ∧ codeIn (K P) (.ref 461) "_law_is_mixture" = true ∧ keepIn (K P) (.ref 462) = true) ∧ (nsIn (K P) mainGlobals "law" = some (some (.ref 467)) ∧ (K P).lookup 467 = some ⟨.type "function", none, .func (fnOf "law" "law" (defArgs s_law) (defBody s_law) (defScope s_law) .none .none .none (.str "law_matefloors_k38_mixtures_refused" 606) none (.ref 466) .none), #[]⟩ ∧ codeIn (K P) (.ref 466) "law" = true ∧ keepIn (K P) (.ref 467) = true) ∧ nsIn (K P) mainGlobals "isinstance" = some none ∧ nsIn (K P) mainGlobals "int" = some none ∧ nsIn (K P) mainGlobals "bool" = some none ∧ nsIn (K P) mainGlobals "abs" = some none ∧ nsIn (K P) mainGlobals "tuple" = some none ∧ nsIn (K P) mainGlobals "len" = some none ∧ nsIn (K P) mainGlobals "all" = some none ∧ nsIn (K P) mainGlobals "range" = some none ∧ nsIn (K P) mainGlobals "ValueError" = some none ∧ nsIn (K P) mainGlobals "list" = some none ∧ nsIn (K P) mainGlobals "max" = some none ∧ nsIn (K P) mainGlobals "min" = some none ∧ (nsIn (K P) mainGlobals "NOUGHT" = some (some (.ref 184)) ∧ (K P).lookup 184 = some ⟨.type "tuple", none, .seq #[.int 0 417, .int 0 418, .int 1 419] 0, #[]⟩) ∧ (nsIn (K P) mainGlobals "ONE" = some (some (.ref 185)) ∧ (K P).lookup 185 = some ⟨.type "tuple", none, .seq #[.int 1 421, .int 0 422, .int 1 423] 0, #[]⟩) ∧ nsIn (K P) mainGlobals "FloorError" = some (some (.ref 24)) ∧ nsIn (K P) mainGlobals "NoRoot" = some (some (.ref 37)) ∧ nsIn (K P) mainGlobals "NoNumber" = some (some (.ref 49)) ∧ nsIn (K P) mainGlobals "NoLaying" = some (some (.ref 61)) ∧ nsIn (K P) mainGlobals "NoTile" = some (some (.ref 73)) ∧ nsIn (K P) mainGlobals "NoFit" = some (some (.ref 85)) ∧ nsIn (K P) mainGlobals "NoKinds" = some (some (.ref 97)) ∧ nsIn (K P) mainGlobals "NoPlan" = some (some (.ref 109)) ∧ nsIn (K P) mainGlobals "NoSpot" = some (some (.ref 121)) ∧ nsIn (K P) mainGlobals "NoNet" = some (some (.ref 133)) ∧ nsIn (K P) mainGlobals "NoText" = some (some (.ref 145)) ∧ nsIn (K P) mainGlobals "NoSaying" = some (some (.ref 157)) ∧ nsIn (K P) mainGlobals "NoName" = some (some (.ref 169)) ∧ nsIn (K P) mainGlobals "TooMany" = some (some (.ref 181)) ∧ excIn (K P) (49) bmV "ValueError.__new__" = true ∧ exmOne (K P) (.ref 49) (.ref 24) = some true ∧ findIn (K P) (.ref 49) "__getattribute__" = some (some (.builtin "BaseException.__getattribute__")) ∧ findIn (K P) (.ref 49) "__getattr__" = some none ∧ findIn (K P) (.ref 49) "__class__" = some (some (.builtin "object.__class__")) ∧ mroIn (K P) 49 (.type "object") = some true ∧ mroIn (K P) 49 (.type "BaseException") = some true ∧ (clsIn (K P) 49).isSome = true ∧ kitOne (K P) (.ref 49) (.ref 37) = some false ∧ kitOne (K P) (.ref 49) (.ref 49) = some true ∧ kitOne (K P) (.ref 49) (.ref 61) = some false ∧ kitOne (K P) (.ref 49) (.ref 73) = some false ∧ kitOne (K P) (.ref 49) (.ref 85) = some false ∧ kitOne (K P) (.ref 49) (.ref 97) = some false ∧ kitOne (K P) (.ref 49) (.ref 109) = some false ∧ kitOne (K P) (.ref 49) (.ref 121) = some false ∧ kitOne (K P) (.ref 49) (.ref 133) = some false ∧ kitOne (K P) (.ref 49) (.ref 145) = some false ∧ kitOne (K P) (.ref 49) (.ref 157) = some false ∧ kitOne (K P) (.ref 49) (.ref 169) = some false ∧ kitOne (K P) (.ref 49) (.ref 181) = some false ∧ kitOne (K P) (.ref 49) (.type "ValueError") = some true ∧ (nsIn (K P) mainGlobals "__builtins__" = some (some (.ref 4)) ∧ (4 : Addr) ≠ builtinsNs ∧ (K P).lookup 4 = some ⟨.type "module", some builtinsNs, .plain, #[]⟩) :=
  ⟨⟨by kernel_rfl, by kernel_rfl, by kernel_rfl, by kernel_rfl⟩, ⟨by kernel_rfl, by kernel_rfl, by kernel_rfl, by kernel_rfl⟩, ⟨by kernel_rfl, by kernel_rfl, by kernel_rfl, by kernel_rfl⟩, ⟨by kernel_rfl, by kernel_rfl, by kernel_rfl, by kernel_rfl⟩, ⟨by kernel_rfl, by kernel_rfl, by kernel_rfl, by kernel_rfl⟩, ⟨by kernel_rfl, by kernel_rfl, by kernel_rfl, by kernel_rfl⟩, ⟨by kernel_rfl, by kernel_rfl, by kernel_rfl, by kernel_rfl⟩, ⟨by kernel_rfl, by kernel_rfl, by kernel_rfl, by kernel_rfl⟩, ⟨by kernel_rfl, by kernel_rfl, by kernel_rfl, by kernel_rfl⟩, ⟨by kernel_rfl, by kernel_rfl, by kernel_rfl, by kernel_rfl⟩, ⟨by kernel_rfl, by kernel_rfl, by kernel_rfl, by kernel_rfl⟩, ⟨by kernel_rfl, by kernel_rfl, by kernel_rfl, by kernel_rfl⟩, ⟨by kernel_rfl, by kernel_rfl, by kernel_rfl, by kernel_rfl⟩, ⟨by kernel_rfl, by kernel_rfl, by kernel_rfl, by kernel_rfl⟩, ⟨by kernel_rfl, by kernel_rfl, by kernel_rfl, by kernel_rfl⟩, ⟨by kernel_rfl, by kernel_rfl, by kernel_rfl, by kernel_rfl⟩, ⟨by kernel_rfl, by kernel_rfl, by kernel_rfl, by kernel_rfl⟩, ⟨by kernel_rfl, by kernel_rfl, by kernel_rfl, by kernel_rfl⟩, ⟨by kernel_rfl, by kernel_rfl, by kernel_rfl, by kernel_rfl⟩, ⟨by kernel_rfl, by kernel_rfl, by kernel_rfl, by kernel_rfl⟩, ⟨by kernel_rfl, by kernel_rfl, by kernel_rfl, by kernel_rfl⟩, ⟨by kernel_rfl, by kernel_rfl, by kernel_rfl, by kernel_rfl⟩, ⟨by kernel_rfl, by kernel_rfl, by kernel_rfl, by kernel_rfl⟩, ⟨by kernel_rfl, by kernel_rfl, by kernel_rfl, by kernel_rfl⟩, ⟨by kernel_rfl, by kernel_rfl, by kernel_rfl, by kernel_rfl⟩, ⟨by kernel_rfl, by kernel_rfl, by kernel_rfl, by kernel_rfl⟩, ⟨by kernel_rfl, by kernel_rfl, by kernel_rfl, by kernel_rfl⟩, ⟨by kernel_rfl, by kernel_rfl, by kernel_rfl, by kernel_rfl⟩, ⟨by kernel_rfl, by kernel_rfl, by kernel_rfl, by kernel_rfl⟩, ⟨by kernel_rfl, by kernel_rfl, by kernel_rfl, by kernel_rfl⟩, ⟨by kernel_rfl, by kernel_rfl, by kernel_rfl, by kernel_rfl⟩, ⟨by kernel_rfl, by kernel_rfl, by kernel_rfl, by kernel_rfl⟩, ⟨by kernel_rfl, by kernel_rfl, by kernel_rfl, by kernel_rfl⟩, ⟨by kernel_rfl, by kernel_rfl, by kernel_rfl, by kernel_rfl⟩, ⟨by kernel_rfl, by kernel_rfl, by kernel_rfl, by kernel_rfl⟩, ⟨by kernel_rfl, by kernel_rfl, by kernel_rfl, by kernel_rfl⟩, ⟨by kernel_rfl, by kernel_rfl, by kernel_rfl, by kernel_rfl⟩, ⟨by kernel_rfl, by kernel_rfl, by kernel_rfl, by kernel_rfl⟩, ⟨by kernel_rfl, by kernel_rfl, by kernel_rfl, by kernel_rfl⟩, ⟨by kernel_rfl, by kernel_rfl, by kernel_rfl, by kernel_rfl⟩, ⟨by kernel_rfl, by kernel_rfl, by kernel_rfl, by kernel_rfl⟩, ⟨by kernel_rfl, by kernel_rfl, by kernel_rfl, by kernel_rfl⟩, by kernel_rfl, by kernel_rfl, by kernel_rfl, by kernel_rfl, by kernel_rfl, by kernel_rfl, by kernel_rfl, by kernel_rfl, by kernel_rfl, by kernel_rfl, by kernel_rfl, by kernel_rfl, ⟨by kernel_rfl, by kernel_rfl⟩, ⟨by kernel_rfl, by kernel_rfl⟩, by kernel_rfl, by kernel_rfl, by kernel_rfl, by kernel_rfl, by kernel_rfl, by kernel_rfl, by kernel_rfl, by kernel_rfl, by kernel_rfl, by kernel_rfl, by kernel_rfl, by kernel_rfl, by kernel_rfl, by kernel_rfl, by kernel_rfl, by kernel_rfl, by kernel_rfl, by kernel_rfl, by kernel_rfl, by kernel_rfl, by kernel_rfl, by kernel_rfl, by kernel_rfl, by kernel_rfl, by kernel_rfl, by kernel_rfl, by kernel_rfl, by kernel_rfl, by kernel_rfl, by kernel_rfl, by kernel_rfl, by kernel_rfl, by kernel_rfl, by kernel_rfl, by kernel_rfl, by kernel_rfl, ⟨by kernel_rfl, by decide, by kernel_rfl⟩⟩
theorem lamF (P : Params) : ((K P).filterMap fun p => lamCode p.2) = [(464, ("law" : Str))] ∧ ((K P).lookup 466).bind lamCode = some (464, ("law" : Str)) ∧ (KF P).lookup 464 = some (tabObj #[]) ∧ (K P).lookup 464 = none := ⟨by kernel_rfl, by kernel_rfl, by kernel_rfl, by kernel_rfl⟩
theorem lamAll (P : Params) : ((K P).filterMap fun p => lamCode p.2) = [(464, ("law" : Str))] := (lamF P).1
theorem lamO_law (P : Params) : ((K P).lookup 466).bind lamCode = some (464, ("law" : Str)) := (lamF P).2.1
theorem lamU_law {q2 : Str} (h : ((464 : Addr), q2) ∈ ([(464, ("law" : Str))] : List (Addr × Str))) : q2 = "law" := by simpa using h
theorem tab_law (P : Params) : (KF P).lookup 464 = some (tabObj #[]) ∧ (K P).lookup 464 = none := ⟨(lamF P).2.2.1, (lamF P).2.2.2⟩
theorem left : LeftO R.row.prog V [] Xt HK.obs HK.val 20000 :=
  LeftO.of_pieces (H₀ := boot_heap) (H₁ := hT) (gs₀ := #[]) (gs₁ := #[]) (d₀ := boot_drawn) (d₁ := {}) (k₀ := boot_toks) (k₁ := 804) (m₀ := 11) (ann := some (.ref 6)) (M := 20000)
    (boot_open (by kernel_rfl) (by kernel_rfl) (fun s => by kernel_rfl)) (fun w => by kernel_rfl) run (by kernel_rfl) seen
end K38.H
set_option Elab.async false
set_option linter.all false
set_option maxRecDepth 100000
namespace L2
open PySem PySem.Spec PyProof.Rows
def QuietAt (A : Around) (h : Heap) : Prop := A.handled = none ∨ ∃ (e : Addr) (oe : Obj) (vs : Array Value), A.handled = some (.ref e) ∧ h.get? e = some oe ∧ oe.data = .fields vs ∧ vs[2]? = some .none
theorem entry_unchain : entryFor table "proto.unchain" = some Builtin.«proto.unchain» := entryFor_of_tree (by kernel_rfl)
section
variable {prog : Program} {w : World} {A : Around} {E : Value → Shared → Prop} {s : Shared}
theorem unchain_none {x e : Addr} {oe : Obj} {vs : Array Value} {Q : Value → Shared → Prop} (he : s.heap.get? e = some oe) (hd : oe.data = .fields vs) (h2 : vs[2]? = some .none) (h : Q .none s) :
    wpAny (model prog w) A (runValue (.builtin "proto.unchain" ⟨[.ref x, .ref e, .ref e, .bool false], []⟩)) Q E s := by
  refine wpAny_runValue (codeAny_builtin entry_unchain ?_)
  unfold Builtin.«proto.unchain»
  dsimp only
  refine wpAny_bind (wpAny_field he hd h2 ?_)
  rw [if_pos (by rfl)]
  exact wpAny_pure h
theorem raiseNew_quiet {α : Type} {a : Addr} {oa : Obj} {ws : Array Value} {Q : α → Shared → Prop} (q : QuietAt A s.heap) (ha : s.heap.get? a = some oa) (hda : oa.data = .fields ws) (hz : 2 < ws.size)
    (hnew : ∀ e oe, A.handled = some (.ref e) → s.heap.get? e = some oe → e ≠ a)
    (h : ∀ h', Heap.ExtBut a s.heap h' → (∃ o', h'.get? a = some o' ∧ o'.cls = oa.cls) → E (.ref a) { s with heap := h' }) : wpAny (model prog w) A (raiseNew (.ref a) : Sem α) Q E s := by
  unfold raiseNew
  refine wpAny_bind (wpAny_handled ?_)
  rcases q with q | ⟨e, oe, vs, q, he, hd, h2⟩
  · rw [q]
    exact wpAny_bind (wpAny_pure (wpAny_throw (h s.heap (fun b o _ z => z) ⟨oa, ha, rfl⟩)))
  · rw [q]
    have ne : e ≠ a := hnew e oe q he
    dsimp only
    rw [if_pos (by simp [ne])]
    refine wpAny_bind (wpAny_holding (unchain_none he hd h2 ?_))
    refine wpAny_bind ?_
    refine wpAny_setField ha hda hz (wpAny_throw ?_)
    have hd' := Obj.data_mapFields hda (·.setIfInBounds 2 (Value.ref e))
    exact h _ (Heap.SameBut.update ..).extBut ⟨_, Heap.get?_update_self _ ha (Obj.isFreed_of_fields hd'), Obj.cls_mapFields ..⟩
theorem stop_quiet {it : Addr} {α : Type} {h0 : Heap} {Q : α → Shared → Prop} (q : QuietAt A s.heap) (k : Heap.ExtBut it h0 s.heap) (kl : ∀ e oe, A.handled = some (.ref e) → s.heap.get? e = some oe → True)
    (h : ∀ h' a, Heap.ExtBut it h0 h' → (∃ o', h'.get? a = some o' ∧ o'.cls = .type "StopIteration") → E (.ref a) { s with heap := h' }) : wpAny (model prog w) A (newExc (.type "StopIteration") [] >>= fun e => (raiseNew e : Sem α)) Q E s := by
  refine wpAny_bind ?_; simp only [newExc, newTuple]
  refine wpAny_bind (wpAny_newObj_type ?_ (by size_fits)); refine wpAny_bind (m := firstArgMember _ _) (wpAny_of_eq (a := Value.none) (by first | rfl | (simp only [firstArgMember]; rfl)) ?_); refine wpAny_newObj_type ?_ (by size_fits)
  have q' : ∀ o1 o2 : Obj, QuietAt A ((s.heap.push o1).push o2) := fun o1 o2 => by
    rcases q with q | ⟨e, oe, vs, q, he, r⟩
    · exact .inl q
    · exact .inr ⟨e, oe, vs, q, Heap.get?_push_of_some _ (Heap.get?_push_of_some _ he), r⟩
  refine raiseNew_quiet (q' _ _) (Heap.get?_push_size _ rfl) rfl (by rw [Array.size_append]; exact Nat.lt_of_lt_of_le (by decide : 2 < 6) (Nat.le_add_right _ _)) (fun e oe hq he z => ?_) fun h' hx ⟨o', ho', hc'⟩ => h h' _ (fun b o hb e => hx b o ?_ (Heap.get?_push_of_some _ (Heap.get?_push_of_some _ (k b o hb e)))) ⟨o', ho', hc'⟩
  · rcases q with q | ⟨e1, oe1, vs, q, he1, r⟩
    · rw [q] at hq; cases hq
    · rw [q] at hq; cases hq
      exact absurd (Heap.lt_size he1) (by rw [z]; simp)
  · exact Nat.ne_of_lt (Nat.lt_of_lt_of_le (Heap.lt_size (k b o hb e)) (by simp))
theorem quiet_update {it : Addr} {o : Obj} {ws : Array Value} {f : Array Value → Array Value} (q : QuietAt A s.heap) (ho : s.heap.get? it = some o) (hd : o.data = .fields ws) (hn : ∀ e, A.handled = some (.ref e) → e ≠ it) : QuietAt A (s.heap.update it (Obj.mapFields f)) := by
  rcases q with q | ⟨e, oe, vs, q, he, r⟩
  · exact .inl q
  · exact .inr ⟨e, oe, vs, q, by rw [Heap.get?_update_other _ _ (Ne.symm (hn e q))]; exact he, r⟩
theorem nextList_endQ {it l : Addr} {i : Nat} {items} {Q : Option Value → Shared → Prop} (q : QuietAt A s.heap) (hn : ∀ e, A.handled = some (.ref e) → e ≠ it) (hit : s.heap.IsListIter it l i) (hl : s.heap.IsList l items) (hx : items[i]? = none)
    (hQ : ∀ h', Heap.ExtBut it s.heap h' → Q none { s with heap := h' }) : wpAny (model prog w) A (pyNext (.ref it)) Q E s := by
  obtain ⟨o, ho, hc, hd⟩ := id hit
  obtain ⟨ol, hol, _, nl, hdl⟩ := hl; unfold pyNext
  refine wpAny_bind (wpAny_attempt (wpAny_callSpecial?_slot (name := Str.ofString "__next__") hit.typeIs slot_listiter_next (wpAny_call_entry slot_listiter_next hit.typeIs entry_listiter_next ?_ (args_listiter_next _))))
  show wpAny _ _ (field (.ref it) 0 >>= _) _ _ s; refine wpAny_bind (wpAny_field ho hd (x := .ref l) rfl ?_)
  show wpAny _ _ (if (Value.ref l == Value.none) = true then _ else _) _ _ s; rw [if_neg (show ¬ ((Value.ref l == Value.none) = true) from Bool.false_ne_true)]
  show wpAny _ _ (field (.ref it) 1 >>= _) _ _ s; refine wpAny_bind (wpAny_field ho hd (x := .int i 0) rfl ?_)
  show wpAny _ _ (seqItems? (.ref l) >>= _) _ _ s; refine wpAny_bind (wpAny_seqItems hol hdl ?_); simp only [Int.toNat_natCast, hx]
  refine wpAny_bind (wpAny_rule (wpAny_bind (wpAny_setField ho hd (by simp) ?_)))
  refine stop_quiet (it := it) (h0 := s.heap) (A := A.in1) (quiet_update (A := A.in1) q ho hd hn) (Heap.SameBut.update ..).extBut (fun _ _ _ _ => trivial) fun h' a hx' ⟨o', ho', hc'⟩ => ?_
  refine wpAny_bind (wpAny_isInstance (T := "StopIteration") (b := true) ⟨_, ho', hc'⟩ isSubtype_stop ?_); exact wpAny_pure (hQ _ hx')
theorem nextTup_endQ {it t : Addr} {i : Nat} {items} {Q : Option Value → Shared → Prop} (q : QuietAt A s.heap) (hn : ∀ e, A.handled = some (.ref e) → e ≠ it) (hit : IsTupIter s.heap it t i) (ht : IsTup s.heap t items) (hx : items[i]? = none)
    (hQ : ∀ h', Heap.ExtBut it s.heap h' → Q none { s with heap := h' }) : wpAny (model prog w) A (pyNext (.ref it)) Q E s := by
  obtain ⟨o, ho, hc, hd⟩ := id hit
  obtain ⟨ol, hol, _, nl, hdl⟩ := ht; unfold pyNext
  refine wpAny_bind (wpAny_attempt (wpAny_callSpecial?_slot (name := Str.ofString "__next__") hit.typeIs slot_tupleiter_next (wpAny_call_entry slot_tupleiter_next hit.typeIs entry_tupleiter_next ?_ (args_tupleiter_next _))))
  show wpAny _ _ (field (.ref it) 0 >>= _) _ _ s; refine wpAny_bind (wpAny_field ho hd (x := .ref t) rfl ?_)
  show wpAny _ _ (if (Value.ref t == Value.none) = true then _ else _) _ _ s; rw [if_neg (show ¬ ((Value.ref t == Value.none) = true) from Bool.false_ne_true)]
  show wpAny _ _ (field (.ref it) 1 >>= _) _ _ s; refine wpAny_bind (wpAny_field ho hd (x := .int i 0) rfl ?_)
  show wpAny _ _ (seqItems? (.ref t) >>= _) _ _ s; refine wpAny_bind (wpAny_seqItems hol hdl ?_); simp only [Int.toNat_natCast, hx]
  refine wpAny_bind (wpAny_rule (wpAny_bind (wpAny_setField ho hd (by simp) ?_)))
  refine stop_quiet (it := it) (h0 := s.heap) (A := A.in1) (quiet_update (A := A.in1) q ho hd hn) (Heap.SameBut.update ..).extBut (fun _ _ _ _ => trivial) fun h' a hx' ⟨o', ho', hc'⟩ => ?_
  refine wpAny_bind (wpAny_isInstance (T := "StopIteration") (b := true) ⟨_, ho', hc'⟩ isSubtype_stop ?_); exact wpAny_pure (hQ _ hx')
theorem assign_TupleQ {env : Env} {elts : List Expr} {x1} {pos : Pos} {t : Addr} {items : Array Value} {Q : Unit → Shared → Prop} (q : QuietAt A s.heap) (ht : IsTup s.heap t items) (hn : (assignEach elts env).length = items.size)
    (hstar : (assignEach elts env).findIdx? (·.1) = none) (h : ∀ h', Heap.ExtBut s.heap.objs.size s.heap h' → wpAny (model prog w) A (assignInOrder ((assignEach elts env).map (·.2)) items.toList) Q E { s with heap := h' }) :
    wpAny (model prog w) A (assign (.Tuple elts x1 pos) env (.ref t)) Q E s := by
  rw [assign_Tuple]
  refine wpAny_bind (wpAny_standAt ?_)
  unfold unpack; rw [hn, hstar]
  refine wpAny_bind (wpAny_holding ?_)
  have hlt : t ≠ s.heap.objs.size := by obtain ⟨o, ho, _⟩ := ht; exact Nat.ne_of_lt (Heap.lt_size ho)
  unfold unpackItems; refine wpAny_bind ?_
  unfold notIterableAtAll; refine wpAny_bind (wpAny_specialOf ht.typeIs slot_tuple_iter.lookup ?_); refine wpAny_pure ?_; simp only [Bool.false_eq_true, if_false]
  refine wpAny_bind (wpAny_holding (iter_tuple ht ?_))
  refine wpAny_bind (wpAny_holding (draw_tuple hlt items.size 0 _ _ ⟨_, Heap.get?_push_size _ rfl, rfl, rfl⟩ (ht.push _) (by omega) fun h₁ hit₁ hs₁ => ?_))
  rw [show List.take items.size (List.drop 0 items.toList) = items.toList from by rw [List.drop_zero]; exact List.take_of_length_le (by simp), if_neg (by simp)]
  have fr : ∀ e, A.handled = some (.ref e) → e ≠ s.heap.objs.size := fun e hq => by
    rcases q with q | ⟨e1, oe1, vs, q, he1, r⟩
    · rw [q] at hq; cases hq
    · rw [q] at hq; cases hq; exact Nat.ne_of_lt (Heap.lt_size he1)
  have q1 : QuietAt A h₁ := by
    rcases q with q | ⟨e, oe, vs, q, he, r⟩
    · exact .inl q
    · exact .inr ⟨e, oe, vs, q, hs₁.extBut e oe (fr e q) (Heap.get?_push_of_some _ he), r⟩
  refine wpAny_bind (wpAny_holding (nextTup_endQ q1 fr hit₁ ((ht.push _).extBut hs₁.extBut hlt) (by simp) fun h₂ he₂ => ?_)); simp only [Option.isSome_none, Bool.false_eq_true, if_false]
  exact wpAny_pure (h h₂ fun b o hb e => he₂ b o hb (hs₁.extBut b o hb (Heap.get?_push_of_some _ e)))
end
end L2
set_option Elab.async false
set_option linter.all false
set_option maxRecDepth 100000
namespace L2
open PySem PySem.Spec PyProof.Rows
abbrev Key := Sum Int Str
def keyIs : Key → Value → Bool
  | .inl k, v => Value.isInt k v
  | .inr x, v => Value.isStrOf x v
def keyH (w : World) : Key → Int
  | .inl k => hashInt k
  | .inr x => hashStr w x
theorem keyIs_shape : ∀ {k : Key} {v : Value}, keyIs k v = true → (∃ i t, k = Sum.inl i ∧ v = Value.int i t) ∨ (∃ x t, k = Sum.inr x ∧ v = Value.str x t)
  | .inl i, v, h => by
    obtain ⟨t, e⟩ := Value.isInt_shape (k := i) (v := v) h
    exact .inl ⟨i, t, rfl, e⟩
  | .inr x, v, h => by
    obtain ⟨t, e⟩ := Value.isStrOf_shape (x := x) (v := v) h
    exact .inr ⟨x, t, rfl, e⟩
theorem key_ll (a b : Int) : decide ((Sum.inl a : Key) = Sum.inl b) = (a == b) := by
  by_cases e : a = b
  · subst e; simp
  · have h : ¬ (Sum.inl a : Key) = Sum.inl b := fun q => e (Sum.inl.inj q)
    rw [decide_eq_false h]
    exact (beq_eq_false_iff_ne.mpr e).symm
theorem key_rr (a b : Str) : decide ((Sum.inr a : Key) = Sum.inr b) = decide (a = b) := by
  by_cases e : a = b
  · subst e; simp
  · have h : ¬ (Sum.inr a : Key) = Sum.inr b := fun q => e (Sum.inr.inj q)
    rw [decide_eq_false h, decide_eq_false e]
theorem key_lr (a : Int) (b : Str) : decide ((Sum.inl a : Key) = Sum.inr b) = false := decide_eq_false (fun q => nomatch q)
theorem key_rl (a : Str) (b : Int) : decide ((Sum.inr a : Key) = Sum.inl b) = false := decide_eq_false (fun q => nomatch q)
def mixKind (prog : Program) (w : World) : PySem.KeyKind prog w Key where
  is := keyIs
  hash := keyH w
  inj := fun v a b ha hb => by
    rcases keyIs_shape ha with ⟨i, t, rfl, rfl⟩ | ⟨x, t, rfl, rfl⟩
    · rcases keyIs_shape hb with ⟨j, u, rfl, e⟩ | ⟨y, u, rfl, e⟩
      · injection e with e1 _; rw [e1]
      · exact nomatch e
    · rcases keyIs_shape hb with ⟨j, u, rfl, e⟩ | ⟨y, u, rfl, e⟩
      · exact nomatch e
      · injection e with e1 _; rw [e1]
  byValue := fun k v h => by
    rcases keyIs_shape h with ⟨i, t, rfl, rfl⟩ | ⟨x, t, rfl, rfl⟩ <;> rfl
  pyHash := fun hv h => by
    rcases keyIs_shape hv with ⟨i, t, rfl, rfl⟩ | ⟨x, t, rfl, rfl⟩
    · exact wpAny_pyHash_int h
    · exact wpAny_pyHash_str h
  eqBool := fun hu hv h => by
    rcases keyIs_shape hu with ⟨i, t, rfl, rfl⟩ | ⟨x, t, rfl, rfl⟩
    · rcases keyIs_shape hv with ⟨j, u, rfl, rfl⟩ | ⟨y, u, rfl, rfl⟩
      · rw [key_ll] at h; exact wpAny_eqBool_int h
      · rw [key_lr] at h; exact SeqAt.EqAt.int_str i t y u _ _ _ _ h
    · rcases keyIs_shape hv with ⟨j, u, rfl, rfl⟩ | ⟨y, u, rfl, rfl⟩
      · rw [key_rl] at h; exact SeqAt.EqAt.str_int x t j u _ _ _ _ h
      · rw [key_rr] at h; exact wpAny_eqBool_str h
  «strs» := fun k x t v h => by
    rcases keyIs_shape h with ⟨i, u, rfl, e⟩ | ⟨y, u, rfl, e⟩
    · exact nomatch e
    · injection e with e1 _
      subst e1
      cases v <;> rfl
end L2
namespace L2
open PySem PySem.Spec PyProof.Rows
inductive V where
  | non | bl (b : Bool) | int (i : Int) | str (x : Str) | byt (b : Array UInt8) | flt (b : UInt64) | ref (a : Addr) | ty (n : String)
  deriving DecidableEq
def RelV : V → Value → Prop
  | .non, u => u = Value.none
  | .bl b, u => u = Value.bool b
  | .int i, u => ∃ t, u = Value.int i t
  | .str x, u => ∃ t, u = Value.str x t
  | .byt b, u => ∃ t, u = Value.bytes b t
  | .flt b, u => ∃ t, u = Value.float b t
  | .ref a, u => u = Value.ref a
  | .ty n, u => u = Value.type n
abbrev Vals : List V → List Value → Prop := Paired RelV
theorem Vals.length {xs : List V} {us : List Value} (r : Vals xs us) : xs.length = us.length := Paired.length r
theorem Vals.get : ∀ {xs : List V} {us : List Value} {i : Nat} {x : V}, Vals xs us → xs[i]? = some x → ∃ u, us[i]? = some u ∧ RelV x u
  | _, _, _, _, .nil, e => by simp at e
  | _, _, 0, _, .cons r _, e => by simp at e; subst e; exact ⟨_, rfl, r⟩
  | _, _, i + 1, x, .cons _ t, e => by
    obtain ⟨u, h1, h2⟩ := Vals.get (i := i) (x := x) t (by simpa using e)
    exact ⟨u, by simpa using h1, h2⟩
theorem Vals.set {x : V} {u : Value} (r : RelV x u) : ∀ {xs : List V} {us : List Value} (i : Nat), Vals xs us → Vals (xs.set i x) (us.set i u)
  | _, _, _, .nil => .nil
  | _, _, 0, .cons _ t => .cons r t
  | _, _, i + 1, .cons q t => .cons q (Vals.set r i t)
theorem Vals.append : ∀ {xs ys : List V} {us ws : List Value}, Vals xs us → Vals ys ws → Vals (xs ++ ys) (us ++ ws)
  | _, _, _, _, .nil, s => s
  | _, _, _, _, .cons r t, s => .cons r (Vals.append t s)
theorem Vals.take : ∀ {xs : List V} {us : List Value} (n : Nat), Vals xs us → Vals (xs.take n) (us.take n)
  | _, _, 0, _ => .nil
  | _, _, _ + 1, .nil => .nil
  | _, _, n + 1, .cons r t => .cons r (Vals.take n t)
theorem Vals.drop : ∀ {xs : List V} {us : List Value} (n : Nat), Vals xs us → Vals (xs.drop n) (us.drop n)
  | _, _, 0, r => r
  | _, _, _ + 1, .nil => .nil
  | _, _, n + 1, .cons _ t => Vals.drop n t
def RelO : Option V → Option Value → Prop
  | some v, some u => RelV v u
  | none, none => True
  | _, _ => False
def KV {κ : Type} : List (κ × V) → List (κ × Value) → Prop := Paired fun (p : κ × V) (q : κ × Value) => p.1 = q.1 ∧ RelV p.2 q.2
def kV : Key → V
  | .inl i => .int i
  | .inr x => .str x
inductive HO where
  /-- a list -/
  | lst (xs : List V)
  /-- a tuple (never changes) -/
  | tup (xs : List V)
  /-- a dict whose keys are ints and texts; one whose keys are tuples of ints and texts (the empty one is both) -/
  | dK (kvs : List (Key × V)) | dT (kvs : List (List Key × V))
  /-- a set of ints: its members, its size -/
  | set (S : Int → Bool) (n : Nat)
  /-- an instance of the class at C, its dict at dx, its attributes -/
  | ins (C dx : Addr) (fs : List (Str × V))
  /-- the dict of the instance at x -/
  | own (x : Addr)
  /-- the dict of an exception -/
  | xd (fs : List (Str × V))
  /-- a bound method, f of x -/
  | met (f x : Addr)
  /-- a range object lo, lo + 1, .. below hi -/
  | rng (lo hi : Int)
  /-- a thing that is known to the object (the script; a dict while a loop walks it): read, never written while it is so -/
  | frz (o : Obj) (u : HO)
  /-- a code object's table -/
  | tbl (ps : Array Value)
  /-- any other thing, by what is true of its one object (a def of one's own: SetO a S n := HO.ext fun h => ..) -/
  | ext (φ : Heap → Prop)
abbrev Hp := Addr → Option HO
def upd (H : Hp) (a : Addr) (o : HO) : Hp := fun b => if b = a then some o else H b
theorem upd_same {H : Hp} {a : Addr} {o : HO} : upd H a o a = some o := by unfold upd; rw [if_pos rfl]
theorem upd_ne {H : Hp} {a b : Addr} {o : HO} (h : b ≠ a) : upd H a o b = H b := by unfold upd; rw [if_neg h]
theorem ne_of_none {H : Hp} {a b : Addr} {o : HO} (h : H a = some o) (h' : H b = none) : a ≠ b := by
  intro e; subst e; rw [h] at h'; cases h'
section
variable (P : Program) (w : World)
def ObjOk (H : Hp) (h : Heap) (a : Addr) : HO → Prop
  | .lst xs => xs.length ≤ sizeLine ∧ ∃ (its : List Value) (n : Nat), Vals xs its ∧ h.get? a = some { cls := .type "list", data := .seq its.toArray n }
  | .tup xs => xs.length ≤ sizeLine ∧ ∃ its : List Value, Vals xs its ∧ IsTup h a its.toArray
  | .dK kvs => kvs.length ≤ sizeLine ∧ (a == sysModules) = false ∧ ∃ vs, KV kvs vs ∧ h.DictOf (mixKind P w) a vs
  | .dT kvs => kvs.length ≤ sizeLine ∧ (a == sysModules) = false ∧ ∃ xs : List (List Key × Addr × Value),
      Paired (fun (p : List Key × V) (q : List Key × Addr × Value) => p.1 = q.1 ∧ H q.2.1 = some (.tup (p.1.map kV)) ∧ RelV p.2 q.2.2) kvs xs ∧
      ∃ o es ep, h.get? a = some o ∧ o.ExactDict ∧ o.data = .dict es ep ∧ es.toList = xs.map (entryOfKey (tupleKind (mixKind P w))) ∧ (xs.map (·.1)).Nodup
  | .set S n => h.SetOf (intKind P w) a S n
  | .ins C dx fs => H dx = some (.own a) ∧ fs.length ≤ 1000 ∧ dx ≠ a ∧ h.get? a = some (PySem.W.instObj C dx) ∧
      ∃ mA, h.Ns1 dx mA ∧ (∀ f, RelO (fs.lookup f) (mA f)) ∧ PySem.Within mA (fs.map (·.1))
  | .own _ => ∃ o, h.get? a = some o
  | .xd fs => ∃ mA, h.Ns1 a mA ∧ ∀ f, RelO (fs.lookup f) (mA f)
  | .rng lo hi => ∃ t u v, h.get? a = some { cls := .type "range", data := .fields #[.int lo t, .int hi u, .int 1 v] }
  | .frz o u => h.get? a = some o ∧ ObjOk H h a u
  | .tbl ps => h.get? a = some { cls := .none, data := .fields ps }
  | .met f x => h.get? a = some (PySem.W.methodObj (.ref f) (.ref x))
  | .ext φ => φ h ∧ (∃ o, h.get? a = some o) ∧ ∀ h1 h2 : Heap, φ h1 → (∀ o, h1.get? a = some o → h2.get? a = some o) → φ h2
def HOk (H : Hp) (h : Heap) : Prop := ∀ a o, H a = some o → ObjOk P w H h a o
end
section
variable {P : Program} {w : World} {H H' : Hp} {h h' : Heap} {a : Addr} {o : HO}
theorem ObjOk.lt (x : ObjOk P w H h a o) : a < h.objs.size := by
  cases o with
  | lst xs => obtain ⟨_, _, _, _, e⟩ := x; exact Heap.lt_size e
  | tup xs => obtain ⟨_, _, _, p⟩ := x; exact p.lt
  | dK kvs => obtain ⟨_, _, _, _, o, _, _, e, _⟩ := x; exact Heap.lt_size e
  | dT kvs => obtain ⟨_, _, _, _, o, _, _, e, _⟩ := x; exact Heap.lt_size e
  | set S n => obtain ⟨o, _, _, _, e, _⟩ := x; exact Heap.lt_size e
  | ins C dx fs => obtain ⟨_, _, _, e, _⟩ := x; exact Heap.lt_size e
  | own y => obtain ⟨_, e⟩ := x; exact Heap.lt_size e
  | xd fs => obtain ⟨_, ⟨_, _, _, e, _⟩, _⟩ := x; exact Heap.lt_size e
  | rng lo hi => obtain ⟨_, _, _, e⟩ := x; exact Heap.lt_size e
  | frz ob u => obtain ⟨e, _⟩ := x; exact Heap.lt_size e
  | tbl ps => exact Heap.lt_size (show h.get? a = some _ from x)
  | met f y => exact Heap.lt_size (show h.get? a = some _ from x)
  | ext φ => obtain ⟨_, ⟨_, e⟩, _⟩ := x; exact Heap.lt_size e
theorem Paired.mapP {α β : Type} {F G : α → β → Prop} : ∀ {l₁ : List α} {l₂ : List β}, Paired F l₁ l₂ → (∀ a b, F a b → G a b) → Paired G l₁ l₂
  | _, _, .nil, _ => .nil
  | _, _, .cons r t, f => .cons (f _ _ r) (Paired.mapP t f)
theorem ObjOk.stay (x : ObjOk P w H h a o) (k : ∀ b u, (b = a ∨ H b = some (.own a)) → h.get? b = some u → h'.get? b = some u)
    (ho : ∀ b, H b = some (.own a) → H' b = some (.own a)) (ht : ∀ b xs, H b = some (.tup xs) → H' b = some (.tup xs)) : ObjOk P w H' h' a o := by
  induction o with
  | lst xs => obtain ⟨z, its, n, r, e⟩ := x; exact ⟨z, its, n, r, k _ _ (.inl rfl) e⟩
  | tup xs => obtain ⟨z, its, r, ob, e, c⟩ := x; exact ⟨z, its, r, ob, k _ _ (.inl rfl) e, c⟩
  | dK kvs => obtain ⟨z, y, vs, r, ob, es, ep, e, c⟩ := x; exact ⟨z, y, vs, r, ob, es, ep, k _ _ (.inl rfl) e, c⟩
  | dT kvs =>
    obtain ⟨z, y, xs, r, ob, es, ep, e, c⟩ := x
    exact ⟨z, y, xs, Paired.mapP r fun p q z => ⟨z.1, ht _ _ z.2.1, z.2.2⟩, ob, es, ep, k _ _ (.inl rfl) e, c⟩
  | set S n => obtain ⟨ob, es, ep, t, e, c⟩ := x; exact ⟨ob, es, ep, t, k _ _ (.inl rfl) e, c⟩
  | ins C dx fs =>
    obtain ⟨d, z, ne, e, mA, ⟨od, es, ep, e2, c⟩, r⟩ := x
    exact ⟨ho _ d, z, ne, k _ _ (.inl rfl) e, mA, ⟨od, es, ep, k _ _ (.inr d) e2, c⟩, r⟩
  | own y => obtain ⟨ob, e⟩ := x; exact ⟨ob, k _ _ (.inl rfl) e⟩
  | xd fs => obtain ⟨mA, ⟨od, es, ep, e, c⟩, r⟩ := x; exact ⟨mA, ⟨od, es, ep, k _ _ (.inl rfl) e, c⟩, r⟩
  | rng lo hi => obtain ⟨t, u, v, e⟩ := x; exact ⟨t, u, v, k _ _ (.inl rfl) e⟩
  | frz ob u ih => obtain ⟨e, q⟩ := x; exact ⟨k _ _ (.inl rfl) e, ih q⟩
  | tbl ps =>
    have e : h.get? a = some { cls := .none, data := .fields ps } := x
    show h'.get? a = some { cls := .none, data := .fields ps }
    exact k a _ (.inl rfl) e
  | met f y =>
    have e : h.get? a = some (PySem.W.methodObj (.ref f) (.ref y)) := x
    show h'.get? a = some (PySem.W.methodObj (.ref f) (.ref y))
    exact k a _ (.inl rfl) e
  | ext φ => obtain ⟨p, ⟨o, e⟩, st⟩ := x; exact ⟨st _ _ p fun o q => k _ _ (.inl rfl) q, ⟨o, k _ _ (.inl rfl) e⟩, st⟩
theorem HOk.lt (x : HOk P w H h) (e : H a = some o) : a < h.objs.size := (x a o e).lt
theorem HOk.fresh (x : HOk P w H h) (e : h.objs.size ≤ a) : H a = none := by
  cases q : H a with
  | none => rfl
  | some u => exact absurd (Nat.lt_of_lt_of_le (x.lt q) e) (Nat.lt_irrefl _)
theorem HOk.kept (x : HOk P w H h) (k : ∀ b u, h.get? b = some u → h'.get? b = some u) : HOk P w H h' := fun a o e =>
  (x a o e).stay (fun b u _ q => k b u q) (fun _ q => q) fun _ _ q => q
theorem HOk.laid (x : HOk P w H h) (k : ∀ b u, h.get? b = some u → h'.get? b = some u) (hp : h.objs.size ≤ a) (new : ObjOk P w (upd H a o) h' a o) : HOk P w (upd H a o) h' := fun b u e => by
  have hn := x.fresh hp
  by_cases hb : b = a
  · subst hb; rw [upd_same] at e; cases e; exact new
  · rw [upd_ne hb] at e
    exact (x b u e).stay (fun c v _ q => k c v q) (fun c q => by rw [upd_ne (ne_of_none q hn)]; exact q) fun c xs q => by rw [upd_ne (ne_of_none q hn)]; exact q
end
def Rd (H : Hp) (a : Addr) (u : HO) : Prop := H a = some u ∨ ∃ o, H a = some (.frz o u)
theorem Rd.of {H : Hp} {a : Addr} {u : HO} (h : H a = some u) : Rd H a u := .inl h
theorem Rd.ok {P : Program} {w : World} {H : Hp} {h : Heap} {a : Addr} {u : HO} (r : Rd H a u) (x : HOk P w H h) : ObjOk P w H h a u := by
  rcases r with r | ⟨o, r⟩
  · exact x a u r
  · obtain ⟨_, q⟩ := x a _ r
    exact q
def Mut : Option HO → Prop
  | some (.lst _) => True
  | some (.dK _) => True
  | some (.dT _) => True
  | some (.set _ _) => True
  | some (.ins _ _ _) => True
  | some (.ext _) => True
  | _ => False
section
variable {P : Program} {w : World} {H : Hp} {h h' : Heap} {x e : Addr} {o' : HO}
theorem HOk.write (ok : HOk P w H h) (mu : Mut (H x)) (he : e = x ∨ H e = some (.own x)) (k : ∀ b u, b ≠ e → h.get? b = some u → h'.get? b = some u) (heo : ∃ u, h'.get? e = some u)
    (new : ObjOk P w (upd H x o') h' x o') : HOk P w (upd H x o') h' := fun b u q => by
  have nown : ∀ c y, H c = some (.own y) → c ≠ x := fun c y r z => by subst z; rw [r] at mu; exact mu
  have ntup : ∀ c xs, H c = some (.tup xs) → c ≠ x := fun c xs r z => by subst z; rw [r] at mu; exact mu
  by_cases hb : b = x
  · subst hb; rw [upd_same] at q; cases q; exact new
  · rw [upd_ne hb] at q
    by_cases hbe : b = e
    · have q' : H b = some (.own x) := by
        rcases he with z | z
        · exact absurd (hbe.trans z) hb
        · rw [hbe]; exact z
      rw [q] at q'; cases q'
      obtain ⟨v, hv⟩ := heo
      exact ⟨v, by rw [hbe]; exact hv⟩
    · refine (ok b u q).stay (fun c v hc r => k c v ?_ r) (fun c r => by rw [upd_ne (nown c b r)]; exact r) fun c xs r => by rw [upd_ne (ntup c xs r)]; exact r
      rcases hc with rfl | hc
      · exact hbe
      · rintro rfl
        rcases he with z | z
        · exact nown c b hc z
        · rw [hc] at z; cases z; exact hb rfl
end
structure Un (fs ex : List Addr) (H H' : Hp) (h h' : Heap) : Prop where
  keep : ∀ b o, h.get? b = some o → H b = none → b ∉ fs → b ∉ ex → h'.get? b = some o
  slot : ∀ b o, h.get? b = some o → H b = none → b ∈ fs → b ∉ ex → ∃ sl, h'.get? b = some { o with slots := sl }
  free : ∀ b o, h.get? b = some o → H b = none → b ∉ ex → H' b = none
  there : ∀ b o, h.get? b = some o → b ∉ ex → ∃ o', h'.get? b = some o'
  tups : ∀ b xs, H b = some (.tup xs) → H' b = some (.tup xs)
  frzs : ∀ b o u, H b = some (.frz o u) → H' b = some (.frz o u)
  tbls : ∀ b ps, H b = some (.tbl ps) → ∃ more, H' b = some (.tbl (ps ++ more))
section
variable {fs fs' ex ex' : List Addr} {H H1 H2 : Hp} {h h1 h2 h' : Heap} {a x e : Addr} {o : HO}
theorem Un.any (u : Un fs ex H H1 h h1) {b : Addr} {ob : Obj} (q : h.get? b = some ob) (n : H b = none) (hx : b ∉ ex) : ∃ sl, h1.get? b = some { ob with slots := sl } := by
  by_cases hb : b ∈ fs
  · exact u.slot b ob q n hb hx
  · exact ⟨ob.slots, u.keep b ob q n hb hx⟩
theorem Un.trans (a : Un fs ex H H1 h h1) (b : Un fs ex H1 H2 h1 h2) : Un fs ex H H2 h h2 where
  keep := fun c ob q n hc hx => b.keep c ob (a.keep c ob q n hc hx) (a.free c ob q n hx) hc hx
  slot := fun c ob q n hc hx => by
    obtain ⟨sl, e1⟩ := a.slot c ob q n hc hx
    obtain ⟨sl', e2⟩ := b.slot c _ e1 (a.free c ob q n hx) hc hx
    exact ⟨sl', e2⟩
  free := fun c ob q n hx => by
    obtain ⟨o', e1⟩ := a.there c ob q hx
    exact b.free c o' e1 (a.free c ob q n hx) hx
  there := fun c ob q hx => by
    obtain ⟨o', e1⟩ := a.there c ob q hx
    exact b.there c o' e1 hx
  tups := fun c xs q => b.tups c xs (a.tups c xs q)
  frzs := fun c ob xs q => b.frzs c ob xs (a.frzs c ob xs q)
  tbls := fun c ps q => by
    obtain ⟨m1, e1⟩ := a.tbls c ps q
    obtain ⟨m2, e2⟩ := b.tbls c _ e1
    exact ⟨m1 ++ m2, by rw [e2, Array.append_assoc]⟩
theorem Un.kept (k : ∀ b u, h.get? b = some u → h'.get? b = some u) : Un fs ex H H h h' :=
  ⟨fun b ob q _ _ _ => k b ob q, fun b ob q _ _ _ => ⟨ob.slots, k b ob q⟩, fun _ _ _ n _ => n, fun b ob q _ => ⟨ob, k b ob q⟩, fun _ _ q => q, fun _ _ _ q => q, fun _ ps q => ⟨#[], by rw [q]; simp⟩⟩
theorem Un.refl : Un fs ex H H h h := Un.kept fun _ _ q => q
theorem Un.laid (k : ∀ b u, h.get? b = some u → h'.get? b = some u) (hp : h.objs.size ≤ a) (hn : H a = none) : Un fs ex H (upd H a o) h h' where
  keep := fun b u q _ _ _ => k b u q
  slot := fun b u q _ _ _ => ⟨u.slots, k b u q⟩
  free := fun b u q n _ => by rw [upd_ne (Nat.ne_of_lt (Nat.lt_of_lt_of_le (Heap.lt_size q) hp))]; exact n
  there := fun b u q _ => ⟨u, k b u q⟩
  tups := fun b xs q => by rw [upd_ne (ne_of_none q hn)]; exact q
  frzs := fun b u xs q => by rw [upd_ne (ne_of_none q hn)]; exact q
  tbls := fun b ps q => ⟨#[], by rw [upd_ne (ne_of_none q hn), q]; simp⟩
theorem Un.write (mu : Mut (H x)) (he : e = x ∨ H e = some (.own x)) (k : ∀ b u, b ≠ e → h.get? b = some u → h'.get? b = some u) (heo : ∃ u, h'.get? e = some u) : Un fs ex H (upd H x o) h h' := by
  have hx : ∀ b, H b = none → b ≠ x := fun b n z => by subst z; rw [n] at mu; exact mu
  have hb : ∀ b, H b = none → b ≠ e := fun b n z => by
    subst z
    rcases he with r | r
    · exact hx b n r
    · rw [n] at r; cases r
  have hm : ∀ b u, H b = some u → ¬ Mut (some u) → b ≠ x := fun b u q nm z => by subst z; rw [q] at mu; exact nm mu
  refine ⟨fun b u q n _ _ => k b u (hb b n) q, fun b u q n _ _ => ⟨u.slots, k b u (hb b n) q⟩, fun b u q n _ => by rw [upd_ne (hx b n)]; exact n, fun b u q _ => ?_,
    fun b xs q => by rw [upd_ne (hm b _ q fun z => z)]; exact q, fun b u xs q => by rw [upd_ne (hm b _ q fun z => z)]; exact q, fun b ps q => ⟨#[], by rw [upd_ne (hm b _ q fun z => z), q]; simp⟩⟩
  by_cases hbe : b = e
  · subst hbe; exact heo
  · exact ⟨u, k b u hbe q⟩
theorem Un.mono (u : Un fs ex H H1 h h1) (hs : ∀ b ∈ fs, b ∈ fs') (hx : ∀ b ∈ ex, b ∈ ex') : Un fs' ex' H H1 h h1 :=
  ⟨fun b ob q n hb he => u.keep b ob q n (fun z => hb (hs b z)) fun z => he (hx b z), fun _ _ q n _ he => u.any q n fun z => he (hx _ z), fun b ob q n he => u.free b ob q n fun z => he (hx b z), fun b ob q he => u.there b ob q fun z => he (hx b z), u.tups, u.frzs, u.tbls⟩
end
def trk (h : Heap) (H : Hp) : List Addr := (List.range h.objs.size).filter fun a => (H a).isSome
def hidT (h : Heap) (H : Hp) : Heap := PySem.W.hideAll h (trk h H)
theorem hidT_size (h : Heap) (H : Hp) : (hidT h H).objs.size = h.objs.size := PySem.W.hideAll_size _ _
theorem hidT_get {h : Heap} {H : Hp} {b : Addr} {o : Obj} (e : h.get? b = some o) (n : H b = none) : (hidT h H).get? b = some o :=
  PySem.W.hideAll_get _ e fun hm => by
    have q : (H b).isSome = true := (List.mem_filter.mp hm).2
    rw [n] at q; simp at q
theorem of_hidT {h : Heap} {H : Hp} {b : Addr} {o : Obj} (e : (hidT h H).get? b = some o) : h.get? b = some o ∧ H b = none := by
  have e' : h.get? b = some o := PySem.W.of_hideAll (trk h H) e
  refine ⟨e', ?_⟩
  cases q : H b with
  | none => rfl
  | some x =>
    have hm : b ∈ trk h H := List.mem_filter.mpr ⟨List.mem_range.mpr (Heap.lt_size e'), by simp [q]⟩
    have z : (hidT h H).get? b = none := PySem.W.hideAll_none (trk h H) hm
    rw [z] at e; cases e
def allNews (g h : Heap) (L : Addr) : List (Addr × Obj) := (List.range h.objs.size).filterMap fun a => if a = L ∨ (g.get? a).isSome = true then none else (h.get? a).map fun o => (a, o)
def rest (g h : Heap) (L d : Addr) : List (Addr × Obj) := (allNews g h L).filter fun p => decide (p.1 ≠ d)
end L2
namespace L2
open PySem PySem.Spec PyProof.Rows
structure Mod (K : PySem.W.Frag) (mg : Str → Option Value) (base : Heap) : Prop where
  kin : K.In base
  glob : base.Ns mainGlobals mg
  blt : ∃ mb, base.Ns builtinsNs mb ∧ ∀ x : Str, x ≠ "__name__" → mb x = bootBuiltins x
  nolimit : base.NoLimit
structure Cx where
  prog : Program
  w : World
  K : PySem.W.Frag
  mg : Str → Option Value
  base : Heap
  A : Around
  N : List Str
  s₀ : Shared
  H₀ : Hp
  env : Env
  outer : List Env
  stack : List Env
  ex : List Addr
  fn : Str → Bool
  calm : Bool
  pn : List (Addr × Obj)
  xe : Value → Shared → Prop
def frs (l : List Env) : List Addr := l.filterMap (·.frame)
abbrev Cx.fs (X : Cx) : List Addr := frs X.outer
def Vis (sc : Scope) (x : Str) : Prop := sc.names.lookup x = some .local ∨ sc.names.lookup x = some .cell ∨ sc.names.lookup x = some .free
def Loc (sc : Scope) (x : Str) : Prop := sc.names.lookup x = some .local ∨ sc.names.lookup x = some .cell
def Look (env : Env) (h : Heap) (m : Str → Option Value) (x : Str) (u : Value) : Prop :=
  (env.kindOf x = some .local ∧ m x = some u) ∨ ((env.kindOf x = some .cell ∨ env.kindOf x = some .free) ∧ ∃ c, env.cells.lookup x = some c ∧ h.IsCell c (some u))
structure Cx.Ok (X : Cx) : Prop where
  mod : Mod X.K X.mg X.base
  kind : X.env.scope.kind = .function
  glob : X.env.globals = mainGlobals
  blt : X.env.builtins = builtinsNs
  above : X.s₀.heap.objs.size ≤ X.env.locals
  inj : ∀ x y c, X.env.cells.lookup x = some c → X.env.cells.lookup y = some c → x = y
  has : ∀ x, (X.env.kindOf x = some .cell ∨ X.env.kindOf x = some .free) → ∃ c, X.env.cells.lookup x = some c
  cab : ∀ x c, X.fn x = true → X.env.cells.lookup x = some c → X.s₀.heap.objs.size ≤ c
  hd : X.calm = true → X.A.handled = none
  qt : X.A.handled = none ∨ ∃ (e : Addr) (oe : Obj) (vs : Array Value), X.A.handled = some (.ref e) ∧ (e, oe) ∈ X.pn ∧ oe.data = .fields vs ∧ vs[2]? = some .none
  frames : X.A.frames = some X.stack
  stk : X.stack = X.outer ∨ (X.stack = X.env :: X.outer ∧ X.env.frame = some X.env.locals)
  exf : ∀ b ∈ X.ex, b ≠ X.env.locals ∧ ∀ x c, X.env.cells.lookup x = some c → c ≠ b
  bs : ∀ b o, X.base.get? b = some o → X.s₀.heap.get? b = some o ∧ X.H₀ b = none
  bsz : X.base.objs.size ≤ X.s₀.heap.objs.size
  noex : ∀ b o, X.base.get? b = some o → b ∉ X.ex
  exfs : ∀ b ∈ X.ex, b ∉ X.fs
  funs : X.s₀.heap.FunFrames X.base X.outer
  frf : ∀ b ∈ X.fs, X.H₀ b = none
structure Inv (X : Cx) (pins : List (Addr × Obj)) (σ : List (Option V)) (H : Hp) (s : Shared) : Prop where
  ok : X.Ok
  os : s.os = X.s₀.os
  bare : AllBare s.gens
  base : Un X.fs X.ex X.H₀ H X.s₀.heap s.heap
  loc : ∃ m, s.heap.Ns X.env.locals m ∧ ∀ (i : Nat) (x : Str) (v : V), X.N[i]? = some x → σ[i]? = some (some v) → Vis X.env.scope x → ∃ u, RelV v u ∧ Look X.env s.heap m x u
  cell : ∀ x c, X.env.cells.lookup x = some c → ∃ v, s.heap.IsCell c v
  free : H X.env.locals = none
  freeC : ∀ x c, X.env.cells.lookup x = some c → H c = none
  pin : ∀ p ∈ X.pn ++ pins, s.heap.get? p.1 = some p.2 ∧ H p.1 = none ∧ p.1 ≠ X.env.locals ∧ p.1 ∉ X.fs ∧ ∀ v, p.2.data ≠ .cell v
  hok : HOk X.prog X.w H s.heap
  len : σ.length = X.N.length
section
variable {X : Cx} {pins : List (Addr × Obj)} {σ : List (Option V)} {H H' : Hp} {s : Shared} {h' : Heap}
theorem Inv.quietA (I : Inv X pins σ H s) : QuietAt X.A s.heap := by
  rcases I.ok.qt with q | ⟨e, oe, vs, q, hp, r⟩
  · exact .inl q
  · exact .inr ⟨e, oe, vs, q, (I.pin (e, oe) (List.mem_append_left _ hp)).1, r⟩
theorem Inv.hne (I : Inv X pins σ H s) {b : Addr} (hb : ∀ p ∈ X.pn ++ pins, p.1 ≠ b) : ∀ e, X.A.handled = some (.ref e) → e ≠ b := fun e he => by
  rcases I.ok.qt with q | ⟨e1, oe, vs, q, hp, r⟩
  · rw [q] at he; cases he
  · rw [q] at he; cases he; exact hb (e, oe) (List.mem_append_left _ hp)
theorem Cx.Ok.nofr (ok : X.Ok) {b : Addr} {o : Obj} (e : X.base.get? b = some o) : b ∉ X.fs := fun hb => by
  have := (ok.funs.mem hb).1
  rw [e] at this; cases this
theorem Inv.bs (I : Inv X pins σ H s) : ∀ b o, X.base.get? b = some o → s.heap.get? b = some o ∧ H b = none := fun b o e =>
  ⟨I.base.keep b o (I.ok.bs b o e).1 (I.ok.bs b o e).2 (I.ok.nofr e) (I.ok.noex b o e), I.base.free b o (I.ok.bs b o e).1 (I.ok.bs b o e).2 (I.ok.noex b o e)⟩
theorem Inv.bk (I : Inv X pins σ H s) : ∀ b o, X.base.get? b = some o → s.heap.get? b = some o := fun b o e => (I.bs b o e).1
theorem Inv.mod (I : Inv X pins σ H s) : Mod X.K X.mg X.base := I.ok.mod
theorem Inv.kIn (I : Inv X pins σ H s) : X.K.In s.heap := I.ok.mod.kin.keeps I.bk
theorem Inv.fr (I : Inv X pins σ H s) : ∃ m, Fr X.base X.env.locals s.heap m :=
  let ⟨m, hn, _⟩ := I.loc
  ⟨m, hn, I.bk, Nat.le_trans I.ok.bsz I.ok.above⟩
theorem Inv.lt (I : Inv X pins σ H s) : X.env.locals < s.heap.objs.size := let ⟨_, hn, _⟩ := I.loc; hn.lt
theorem Inv.sz (I : Inv X pins σ H s) : X.s₀.heap.objs.size ≤ s.heap.objs.size := Nat.le_trans I.ok.above (Nat.le_of_lt I.lt)
theorem Inv.nofs (I : Inv X pins σ H s) {a : Addr} (h : s.heap.objs.size ≤ a) : a ∉ X.fs := fun hb => by
  obtain ⟨_, o, ho, _⟩ := I.ok.funs.mem hb
  exact absurd (Nat.lt_of_lt_of_le (Heap.lt_size ho) (Nat.le_trans I.sz h)) (Nat.lt_irrefl _)
theorem Inv.cne (I : Inv X pins σ H s) : ∀ x c, X.env.cells.lookup x = some c → c ≠ X.env.locals := fun x c e z => by
  obtain ⟨v, o, ho, hd⟩ := I.cell x c e
  obtain ⟨m, ⟨o', es, ep, ho', hd', _⟩, _⟩ := I.loc
  rw [z, ho'] at ho; cases ho; rw [hd'] at hd; cases hd
theorem Inv.funs (I : Inv X pins σ H s) : s.heap.FunFrames X.base X.outer := by
  have all : ∀ (l : List Env), (∀ b ∈ frs l, b ∈ X.fs) → X.s₀.heap.FunFrames X.base l → s.heap.FunFrames X.base l := by
    intro l
    induction l with
    | nil => intro _ _; trivial
    | cons env r ih =>
      intro hs hl
      obtain ⟨hk, ⟨L, o, hf, hn, ho, hd⟩, hr⟩ := hl
      have hL : L ∈ X.fs := hs L (by unfold frs; rw [List.filterMap_cons, hf]; exact List.mem_cons_self)
      obtain ⟨sl, e⟩ := I.base.slot L o ho (I.ok.frf L hL) hL fun z => I.ok.exfs L z hL
      exact ⟨hk, ⟨L, _, hf, hn, e, hd⟩, ih (fun b hb => hs b (by unfold frs; rw [List.filterMap_cons, hf]; exact List.mem_cons_of_mem _ hb)) hr⟩
  exact all X.outer (fun _ hb => hb) I.ok.funs
theorem Inv.stack (I : Inv X pins σ H s) : s.heap.FunFrames X.base X.stack := by
  rcases I.ok.stk with e | ⟨e, hf⟩
  · rw [e]; exact I.funs
  · rw [e]
    obtain ⟨m, hn, _⟩ := I.loc
    refine .cons (by rw [I.ok.kind]; decide) hf hn ?_ I.funs
    exact Heap.get?_none_of_le (Nat.le_trans I.ok.bsz I.ok.above)
theorem Inv.stkSub (I : Inv X pins σ H s) : ∀ b ∈ frs X.stack, b ∈ X.env.locals :: X.fs := fun b hb => by
  rcases I.ok.stk with e | ⟨e, hf⟩
  · rw [e] at hb; exact List.mem_cons_of_mem _ hb
  · rw [e] at hb
    unfold frs at hb
    rw [List.filterMap_cons, hf] at hb
    exact hb
theorem Inv.stkFree (I : Inv X pins σ H s) : ∀ b ∈ frs X.stack, H b = none := fun b hb => by
  rcases List.mem_cons.mp (I.stkSub b hb) with e | hb
  · rw [e]; exact I.free
  · obtain ⟨_, o, ho, _⟩ := I.ok.funs.mem hb
    exact I.base.free b o ho (I.ok.frf b hb) fun z => I.ok.exfs b z hb
theorem Inv.step {g' : Array GenState} {t' : Nat} {d' : Drawn} {ch : List Addr} (I : Inv X pins σ H s)
    (hch : ∀ b ∈ ch, (b ∈ X.ex ∨ X.s₀.heap.objs.size ≤ b) ∧ b ≠ X.env.locals ∧ (∀ x c, X.env.cells.lookup x = some c → c ≠ b) ∧ ∀ p ∈ X.pn ++ pins, p.1 ≠ b)
    (keep : ∀ b o, b ≠ X.env.locals → b ∉ X.fs → b ∉ ch → s.heap.get? b = some o → H b = none → h'.get? b = some o)
    (slot : ∀ b o, b ≠ X.env.locals → b ∈ X.fs → b ∉ ch → s.heap.get? b = some o → H b = none → ∃ sl, h'.get? b = some { o with slots := sl }) (free : ∀ b o, b ∉ ch → s.heap.get? b = some o → H b = none → H' b = none)
    (there : ∀ b o, b ∉ ch → s.heap.get? b = some o → ∃ o', h'.get? b = some o')
    (tups : ∀ b xs, H b = some (.tup xs) → H' b = some (.tup xs)) (frzs : ∀ b o u, H b = some (.frz o u) → H' b = some (.frz o u)) (tbls : ∀ b ps, H b = some (.tbl ps) → ∃ more, H' b = some (.tbl (ps ++ more)))
    (ns : ∀ m, s.heap.Ns X.env.locals m → h'.Ns X.env.locals m) (hok : HOk X.prog X.w H' h') (hg : AllBare g') :
    Inv X pins σ H' { s with heap := h', gens := g', drawn := d', toks := t' } := by
  have neL : ∀ b o, X.s₀.heap.get? b = some o → b ≠ X.env.locals := fun b o e => Nat.ne_of_lt (Nat.lt_of_lt_of_le (Heap.lt_size e) I.ok.above)
  have neC : ∀ b o, X.s₀.heap.get? b = some o → b ∉ X.ex → b ∉ ch := fun b o e hx hb => by
    rcases (hch b hb).1 with z | z
    · exact hx z
    · exact absurd (Nat.lt_of_lt_of_le (Heap.lt_size e) z) (Nat.lt_irrefl _)
  have cellK : ∀ x c, X.env.cells.lookup x = some c → ∀ v, s.heap.IsCell c v → h'.IsCell c v := fun x c e v ⟨o, ho, hd⟩ => by
    have nch : c ∉ ch := fun z => (hch c z).2.2.1 x c e rfl
    by_cases hc : c ∈ X.fs
    · obtain ⟨sl, q⟩ := slot c o (I.cne x c e) hc nch ho (I.freeC x c e)
      exact ⟨_, q, hd⟩
    · exact ⟨o, keep c o (I.cne x c e) hc nch ho (I.freeC x c e), hd⟩
  refine ⟨I.ok, I.os, hg, ⟨fun b o e n hb hx => ?_, fun b o e n hb hx => ?_, fun b o e n hx => ?_, fun b o e hx => ?_, fun b xs e => tups b xs (I.base.tups b xs e), fun b o xs e => frzs b o xs (I.base.frzs b o xs e), fun b ps e => ?_⟩, ?_, fun x c e => ?_, ?_, fun x c e => ?_, fun p hp => ?_, hok, I.len⟩
  · exact keep b o (neL b o e) hb (neC b o e hx) (I.base.keep b o e n hb hx) (I.base.free b o e n hx)
  · obtain ⟨sl, e1⟩ := I.base.slot b o e n hb hx
    obtain ⟨sl', e2⟩ := slot b _ (neL b o e) hb (neC b o e hx) e1 (I.base.free b o e n hx)
    exact ⟨sl', e2⟩
  · obtain ⟨o', e1⟩ := I.base.there b o e hx
    exact free b o' (neC b o e hx) e1 (I.base.free b o e n hx)
  · obtain ⟨o', e1⟩ := I.base.there b o e hx
    exact there b o' (neC b o e hx) e1
  · obtain ⟨m1, e1⟩ := I.base.tbls b ps e
    obtain ⟨m2, e2⟩ := tbls b _ e1
    exact ⟨m1 ++ m2, by rw [e2, Array.append_assoc]⟩
  · obtain ⟨m, hn, hl⟩ := I.loc
    refine ⟨m, ns m hn, fun i x v e1 e2 e3 => ?_⟩
    obtain ⟨u, r, l⟩ := hl i x v e1 e2 e3
    refine ⟨u, r, ?_⟩
    rcases l with l | ⟨k, c, e, z⟩
    · exact .inl l
    · exact .inr ⟨k, c, e, cellK x c e _ z⟩
  · obtain ⟨v, z⟩ := I.cell x c e
    exact ⟨v, cellK x c e v z⟩
  · obtain ⟨m, ⟨o, _, _, ho, _⟩, _⟩ := I.loc
    exact free _ o (fun z => (hch _ z).2.1 rfl) ho I.free
  · obtain ⟨v, o, ho, hd⟩ := I.cell x c e
    exact free c o (fun z => (hch c z).2.2.1 x c e rfl) ho (I.freeC x c e)
  · obtain ⟨e, n, ne, nf, d⟩ := I.pin p hp
    have nch : p.1 ∉ ch := fun z => (hch p.1 z).2.2.2 p hp rfl
    exact ⟨keep p.1 p.2 ne nf nch e n, free p.1 p.2 nch e n, ne, nf, d⟩
theorem Inv.un {t' : Nat} (I : Inv X pins σ H s) (u : Un X.fs [] H H' s.heap h') (hok : HOk X.prog X.w H' h') : Inv X pins σ H' { s with heap := h', toks := t' } := by
  obtain ⟨m, ⟨o, es, ep, ho, r⟩, _⟩ := id I.loc
  obtain ⟨sl, hL⟩ := u.any ho I.free (by simp)
  exact I.step (g' := s.gens) (d' := s.drawn) (ch := []) (fun _ z => nomatch z) (fun b o _ hb _ e n => u.keep b o e n hb (by simp)) (fun b o _ hb _ e n => u.slot b o e n hb (by simp)) (fun b o _ e n => u.free b o e n (by simp)) (fun b o _ e => u.there b o e (by simp)) u.tups u.frzs u.tbls (fun m' hm => by
    obtain ⟨o', es', ep', ho', r'⟩ := hm
    rw [ho] at ho'; cases ho'
    exact ⟨_, es', ep', hL, r'⟩) hok I.bare
theorem Inv.call {g' : Array GenState} {t' : Nat} {d' : Drawn} {ch : List Addr} (I : Inv X pins σ H s) (u : Un (frs X.stack) ch H H' s.heap h') (hok : HOk X.prog X.w H' h') (hg : AllBare g')
    (hch : ∀ b ∈ ch, (b ∈ X.ex ∨ X.s₀.heap.objs.size ≤ b) ∧ b ≠ X.env.locals ∧ (∀ x c, X.env.cells.lookup x = some c → c ≠ b) ∧ ∀ p ∈ X.pn ++ pins, p.1 ≠ b) :
    Inv X pins σ H' { s with heap := h', gens := g', drawn := d', toks := t' } := by
  obtain ⟨m, ⟨o, es, ep, ho, r⟩, _⟩ := id I.loc
  obtain ⟨sl, hL⟩ := u.any ho I.free fun z => (hch _ z).2.1 rfl
  exact I.step (ch := ch) hch (fun b o hL hb hc e n => u.keep b o e n (fun z => (List.mem_cons.mp (I.stkSub b z)).elim hL hb) hc) (fun b o _ _ hc e n => u.any e n hc) (fun b o hc e n => u.free b o e n hc) (fun b o hc e => u.there b o e hc) u.tups u.frzs u.tbls (fun m' hm => by
    obtain ⟨o', es', ep', ho', r'⟩ := hm
    rw [ho] at ho'; cases ho'
    exact ⟨_, es', ep', hL, r'⟩) hok hg
theorem Inv.turned {t' : Nat} {it : Addr} (I : Inv X pins σ H s) (k : ∀ b o, b ≠ it → s.heap.get? b = some o → h'.get? b = some o) (hn : H it = none) (hL : it ≠ X.env.locals)
    (h1 : it ∈ X.ex ∨ X.s₀.heap.objs.size ≤ it) (h2 : ∀ x c, X.env.cells.lookup x = some c → c ≠ it) (h3 : ∀ p ∈ X.pn ++ pins, p.1 ≠ it) : Inv X pins σ H { s with heap := h', toks := t' } := by
  have nit : ∀ b u, H b = some u → b ≠ it := fun b u e z => by rw [z, hn] at e; cases e
  refine I.step (g' := s.gens) (d' := s.drawn) (ch := [it]) (fun b hb => ?_) (fun b o _ _ hc e _ => k b o (fun z => hc (by simp [z])) e) (fun b o _ _ hc e _ => ⟨o.slots, k b o (fun z => hc (by simp [z])) e⟩) (fun _ _ _ _ n => n)
    (fun b o hc e => ⟨o, k b o (fun z => hc (by simp [z])) e⟩) (fun _ _ e => e) (fun _ _ _ e => e) (fun b ps e => ⟨#[], by rw [e]; simp⟩) (fun m hm => ?_) (fun b u e => ?_) I.bare
  · have e : b = it := by simpa using hb
    subst e
    exact ⟨h1, hL, h2, h3⟩
  · obtain ⟨o, es, ep, ho, r⟩ := hm
    exact ⟨o, es, ep, k _ o (Ne.symm hL) ho, r⟩
  · refine (I.hok b u e).stay (fun c v hc q => k c v ?_ q) (fun _ q => q) fun _ _ q => q
    rcases hc with z | z
    · rw [z]; exact nit b u e
    · exact nit c _ z
theorem Inv.tok (I : Inv X pins σ H s) (t : Nat) : Inv X pins σ H { s with toks := t } := I.un (h' := s.heap) (t' := t) Un.refl I.hok
theorem Inv.kept {t' : Nat} (I : Inv X pins σ H s) (k : ∀ b u, s.heap.get? b = some u → h'.get? b = some u) : Inv X pins σ H { s with heap := h', toks := t' } := I.un (Un.kept k) (I.hok.kept k)
theorem Inv.laid {a : Addr} {o : HO} {t' : Nat} (I : Inv X pins σ H s) (k : ∀ b u, s.heap.get? b = some u → h'.get? b = some u) (hp : s.heap.objs.size ≤ a) (new : ObjOk X.prog X.w (upd H a o) h' a o) :
    Inv X pins σ (upd H a o) { s with heap := h', toks := t' } := I.un (Un.laid k hp (I.hok.fresh hp)) (I.hok.laid k hp new)
theorem Inv.write {x e : Addr} {o : HO} {t' : Nat} (I : Inv X pins σ H s) (mu : Mut (H x)) (he : e = x ∨ H e = some (.own x)) (k : ∀ b u, b ≠ e → s.heap.get? b = some u → h'.get? b = some u) (heo : ∃ u, h'.get? e = some u)
    (new : ObjOk X.prog X.w (upd H x o) h' x o) : Inv X pins σ (upd H x o) { s with heap := h', toks := t' } := I.un (Un.write mu he k heo) (I.hok.write mu he k heo new)
theorem Inv.pins_of {pins' : List (Addr × Obj)} (I : Inv X pins σ H s) (h : ∀ p ∈ pins', s.heap.get? p.1 = some p.2 ∧ H p.1 = none ∧ p.1 ≠ X.env.locals ∧ p.1 ∉ X.fs ∧ ∀ v, p.2.data ≠ .cell v) : Inv X pins' σ H s :=
  ⟨I.ok, I.os, I.bare, I.base, I.loc, I.cell, I.free, I.freeC, fun p hp => (List.mem_append.mp hp).elim (fun z => I.pin p (List.mem_append_left _ z)) (h p), I.hok, I.len⟩
theorem nodup_ix {N : List Str} (hN : N.Nodup) {i j : Nat} {x : Str} (a : N[i]? = some x) (b : N[j]? = some x) : i = j := by
  obtain ⟨h1, e1⟩ := List.getElem?_eq_some_iff.mp a
  obtain ⟨h2, e2⟩ := List.getElem?_eq_some_iff.mp b
  exact (List.getElem_inj hN).mp (e1.trans e2.symm)
theorem store_ok2 {M : Model} {A : Around} {E : Value → Shared → Prop} {i : Nat} {x : Str} {v : V} {u : Value} {Q : Unit → Shared → Prop} (I : Inv X pins σ H s) (hN : X.N.Nodup) (hi : X.N[i]? = some x) (hx : Loc X.env.scope x) (r : RelV v u)
    (h : ∀ s', Inv X pins (σ.set i (some v)) H s' → (∃ a, Heap.SameBut a s.heap s'.heap ∧ (a = X.env.locals ∨ X.env.cells.lookup x = some a)) → Q () s') (hf : X.fn x = true ∨ X.env.scope.names.lookup x = some .local := by first | exact .inl rfl | exact .inr rfl | assumption) : wpAny M A (storeName X.env x u) Q E s := by
  obtain ⟨m, hn, hl⟩ := id I.loc
  have hcls : (X.env.scope.kind == .class || (X.env.scope.kind == .module && X.env.locals != X.env.globals)) = false := by rw [I.ok.kind]; rfl
  have hiσ : i < σ.length := by rw [I.len]; exact (List.getElem?_eq_some_iff.mp hi).1
  have cne := I.cne
  have tracked : ∀ {a : Addr} {h' : Heap}, (∃ o, s.heap.get? a = some o ∧ H a = none) → Heap.SameBut a s.heap h' → HOk X.prog X.w H h' := fun {a h'} ha hs b ob e => by
    obtain ⟨_, _, hfree⟩ := ha
    refine (I.hok b ob e).stay (fun c w' hc q => (hs.2 c ?_).trans q) (fun _ q => q) fun _ _ q => q
    rintro rfl
    rcases hc with rfl | hc
    · rw [hfree] at e; cases e
    · rw [hfree] at hc; cases hc
  rcases hx with hk | hk
  · refine wpAny_storeName_local hk hn (fun h' hn' hs => ?_) hcls
    obtain ⟨oL, _, _, hoL, _⟩ := id hn
    refine h _ ⟨I.ok, I.os, I.bare, ⟨fun b o e n hb hx => ?_, fun b o e n hb hx => ?_, I.base.free, fun b o e hx => ?_, I.base.tups, I.base.frzs, I.base.tbls⟩, ⟨_, hn', fun j y v' e1 e2 e3 => ?_⟩, fun y c e => ?_, I.free, I.freeC, fun p hp => ?_, tracked ⟨oL, hoL, I.free⟩ hs, by simpa using I.len⟩ ⟨_, hs, .inl rfl⟩
    · exact (hs.2 b (Nat.ne_of_lt (Nat.lt_of_lt_of_le (Heap.lt_size e) I.ok.above))).trans (I.base.keep b o e n hb hx)
    · obtain ⟨sl, e1⟩ := I.base.slot b o e n hb hx
      exact ⟨sl, (hs.2 b (Nat.ne_of_lt (Nat.lt_of_lt_of_le (Heap.lt_size e) I.ok.above))).trans e1⟩
    · obtain ⟨o', e1⟩ := I.base.there b o e hx
      exact ⟨o', (hs.2 b (Nat.ne_of_lt (Nat.lt_of_lt_of_le (Heap.lt_size e) I.ok.above))).trans e1⟩
    · by_cases hj : j = i
      · subst hj
        rw [hi] at e1; cases e1
        rw [List.getElem?_set_self hiσ] at e2
        cases e2
        exact ⟨u, r, .inl ⟨hk, by simp⟩⟩
      · rw [List.getElem?_set_ne (Ne.symm hj)] at e2
        obtain ⟨u', r', q⟩ := hl j y v' e1 e2 e3
        refine ⟨u', r', ?_⟩
        rcases q with ⟨k, e⟩ | ⟨k, c, e, z⟩
        · refine .inl ⟨k, ?_⟩
          have : y ≠ x := fun e => hj (nodup_ix hN e1 (e ▸ hi))
          simp [this, e]
        · exact .inr ⟨k, c, e, z.sameBut hs (cne y c e)⟩
    · obtain ⟨w', z⟩ := I.cell y c e
      exact ⟨w', z.sameBut hs (cne y c e)⟩
    · obtain ⟨e, n, ne, nf, d⟩ := I.pin p hp
      exact ⟨(hs.2 p.1 ne).trans e, n, ne, nf, d⟩
  · have hfn : X.fn x = true := by
      rcases hf with z | z
      · exact z
      · rw [z] at hk; cases hk
    obtain ⟨c, hc⟩ := I.ok.has x (.inl hk)
    obtain ⟨w', z⟩ := I.cell x c hc
    refine wpAny_storeName_cell I.ok.kind hk hc z (fun h' hc' hs => ?_)
    obtain ⟨oc, hoc, hocd⟩ := id z
    refine h { s with heap := h' } ⟨I.ok, I.os, I.bare, ⟨fun b o e n hb hx => ?_, fun b o e n hb hx => ?_, I.base.free, fun b o e hx => ?_, I.base.tups, I.base.frzs, I.base.tbls⟩, ⟨m, hn.sameBut hs (Ne.symm (cne x c hc)), fun j y v' e1 e2 e3 => ?_⟩, fun y c' e => ?_, I.free, I.freeC, fun p hp => ?_, tracked ⟨oc, hoc, I.freeC x c hc⟩ hs, by simpa using I.len⟩ ⟨c, hs, .inr hc⟩
    · exact (hs.2 b (Nat.ne_of_lt (Nat.lt_of_lt_of_le (Heap.lt_size e) (I.ok.cab x c hfn hc)))).trans (I.base.keep b o e n hb hx)
    · obtain ⟨sl, e1⟩ := I.base.slot b o e n hb hx
      exact ⟨sl, (hs.2 b (Nat.ne_of_lt (Nat.lt_of_lt_of_le (Heap.lt_size e) (I.ok.cab x c hfn hc)))).trans e1⟩
    · obtain ⟨o', e1⟩ := I.base.there b o e hx
      exact ⟨o', (hs.2 b (Nat.ne_of_lt (Nat.lt_of_lt_of_le (Heap.lt_size e) (I.ok.cab x c hfn hc)))).trans e1⟩
    · by_cases hj : j = i
      · subst hj
        rw [hi] at e1; cases e1
        rw [List.getElem?_set_self hiσ] at e2
        cases e2
        exact ⟨u, r, .inr ⟨.inl hk, c, hc, hc'⟩⟩
      · rw [List.getElem?_set_ne (Ne.symm hj)] at e2
        obtain ⟨u', r', q⟩ := hl j y v' e1 e2 e3
        refine ⟨u', r', ?_⟩
        rcases q with q | ⟨k, c', e, z'⟩
        · exact .inl q
        · refine .inr ⟨k, c', e, z'.sameBut hs ?_⟩
          rintro rfl
          exact hj (nodup_ix hN e1 (I.ok.inj _ _ _ e hc ▸ hi))
    · by_cases hcc : c' = c
      · subst hcc; exact ⟨_, hc'⟩
      · obtain ⟨w2, z2⟩ := I.cell y c' e
        exact ⟨w2, z2.sameBut hs hcc⟩
    · obtain ⟨e, n, ne, nf, d⟩ := I.pin p hp
      refine ⟨(hs.2 p.1 ?_).trans e, n, ne, nf, d⟩
      intro q
      rw [q, hoc] at e
      have q' : oc = p.2 := Option.some.inj e
      exact d w' (by rw [← q']; exact hocd)
theorem store_ok {M : Model} {A : Around} {E : Value → Shared → Prop} {i : Nat} {x : Str} {v : V} {u : Value} {Q : Unit → Shared → Prop} (I : Inv X pins σ H s) (hN : X.N.Nodup) (hi : X.N[i]? = some x) (hx : Loc X.env.scope x) (r : RelV v u)
    (h : ∀ s', Inv X pins (σ.set i (some v)) H s' → Q () s') (hf : X.fn x = true ∨ X.env.scope.names.lookup x = some .local := by first | exact .inl rfl | exact .inr rfl | assumption) : wpAny M A (storeName X.env x u) Q E s :=
  store_ok2 I hN hi hx r (fun s' I' _ => h s' I') hf
theorem Inv.call' {s' : Shared} {ch : List Addr} (I : Inv X pins σ H s) (ho : s'.os = s.os) (u : Un (frs X.stack) ch H H' s.heap s'.heap) (hok : HOk X.prog X.w H' s'.heap) (hg : AllBare s'.gens)
    (hch : ∀ b ∈ ch, (b ∈ X.ex ∨ X.s₀.heap.objs.size ≤ b) ∧ b ≠ X.env.locals ∧ (∀ x c, X.env.cells.lookup x = some c → c ≠ b) ∧ ∀ p ∈ X.pn ++ pins, p.1 ≠ b) : Inv X pins σ H' s' := by
  obtain ⟨h', g', d', t', o'⟩ := s'
  have e : o' = s.os := ho
  subst e
  exact I.call (g' := g') (t' := t') (d' := d') u hok hg hch
end
abbrev XK := Value → Option Addr → Hp → Prop
abbrev St := List (Option V)
abbrev VK := V → Hp → Prop
abbrev TE := St → Hp → VK → Prop
abbrev TT := St → Hp → (Bool → Hp → Prop) → Prop
abbrev TA := St → Hp → (List V → Hp → Prop) → Prop
structure Ends where
  nx : St → Hp → Prop
  rt : VK
  bk : St → Hp → Prop := fun _ _ => False
  ct : St → Hp → Prop := fun _ _ => False
abbrev TS := Ends → St → Hp → Prop
def EP (X : Cx) (pins : List (Addr × Obj)) (σ : St) (Q : VK) (u : Value) (s' : Shared) : Prop := ∃ v H', Inv X pins σ H' s' ∧ RelV v u ∧ Q v H'
def TP (X : Cx) (pins : List (Addr × Obj)) (σ : St) (Q : Bool → Hp → Prop) (b : Bool) (s' : Shared) : Prop := ∃ H', Inv X pins σ H' s' ∧ Q b H'
def AP (X : Cx) (pins : List (Addr × Obj)) (σ : St) (Q : List V → Hp → Prop) (us : List Value) (s' : Shared) : Prop := ∃ vs H', Inv X pins σ H' s' ∧ Vals vs us ∧ Q vs H'
def SP (X : Cx) (pins : List (Addr × Obj)) (D : Ends) (f : Flow) (s' : Shared) : Prop :=
  match f with
  | .next => ∃ σ' H', Inv X pins σ' H' s' ∧ D.nx σ' H'
  | .brk => ∃ σ' H', Inv X pins σ' H' s' ∧ D.bk σ' H'
  | .cont => ∃ σ' H', Inv X pins σ' H' s' ∧ D.ct σ' H'
  | .ret u => ∃ v σ' H', Inv X pins σ' H' s' ∧ RelV v u ∧ D.rt v H'
def PE (X : Cx) (e : Expr) (t : TE) : Prop :=
  ∀ (pins : List (Addr × Obj)) (s : Shared) (σ : St) (H : Hp) (Q : VK), Inv X pins σ H s → t σ H Q → wpAny (model X.prog X.w) X.A (eval e X.env) (EP X pins σ Q) X.xe s
def PT (X : Cx) (e : Expr) (t : TT) : Prop :=
  ∀ (pins : List (Addr × Obj)) (s : Shared) (σ : St) (H : Hp) (Q : Bool → Hp → Prop), Inv X pins σ H s → t σ H Q → wpAny (model X.prog X.w) X.A (isTrue e X.env (eval e X.env)) (TP X pins σ Q) X.xe s
def PW (X : Cx) (e : Expr) (t : TT) : Prop :=
  ∀ (whole : Sem Value) (pins : List (Addr × Obj)) (s : Shared) (σ : St) (H : Hp) (Q : Bool → Hp → Prop), Inv X pins σ H s → t σ H Q → wpAny (model X.prog X.w) X.A (isTrue e X.env whole) (TP X pins σ Q) X.xe s
theorem PW.pt {X : Cx} {e : Expr} {t : TT} (h : PW X e t) : PT X e t := h _
def PA (X : Cx) (es : List Expr) (t : TA) : Prop :=
  ∀ (pos : Pos) (pins : List (Addr × Obj)) (s : Shared) (σ : St) (H : Hp) (Q : List V → Hp → Prop), Inv X pins σ H s → t σ H Q → wpAny (model X.prog X.w) X.A (spliced (backTo pos (starEach es X.env))) (AP X pins σ Q) X.xe s
def PS (X : Cx) (st : Stmt) (t : TS) : Prop :=
  ∀ (pins : List (Addr × Obj)) (s : Shared) (σ : St) (H : Hp) (D : Ends), Inv X pins σ H s → t D σ H → wpAny (model X.prog X.w) X.A (exec st X.env) (SP X pins D) X.xe s
def PSs (X : Cx) (st : List Stmt) (t : TS) : Prop :=
  ∀ (pins : List (Addr × Obj)) (s : Shared) (σ : St) (H : Hp) (D : Ends), Inv X pins σ H s → t D σ H → wpAny (model X.prog X.w) X.A (execs st X.env) (SP X pins D) X.xe s
theorem thn {α : Type} {t : Sem α} {Q Q' : α → Shared → Prop} {M : Model} {A : Around} {E : Value → Shared → Prop} {s : Shared} (h : wpAny M A t Q E s) (hQ : ∀ a s, Q a s → Q' a s) : wpAny M A t Q' E s := wpAny_mono h hQ fun _ _ x => x
end L2
namespace L2
open PySem PySem.Spec PyProof.Rows
section
variable {X : Cx}
theorem bin {a b : Expr} {ta tb : TE} (ha : PE X a ta) (hb : PE X b tb) {pins : List (Addr × Obj)} {s : Shared} {σ : St} {H : Hp} {R : V → V → Hp → Prop} (I : Inv X pins σ H s) (h : ta σ H fun x H1 => tb σ H1 fun y H2 => R x y H2)
    {α : Type} {Q : α → Shared → Prop} {f : Value → Value → Sem α}
    (hf : ∀ v u s2 x y H2, Inv X pins σ H2 s2 → RelV x v → RelV y u → R x y H2 → wpAny (model X.prog X.w) X.A (f v u) Q X.xe s2) :
    wpAny (model X.prog X.w) X.A (eval a X.env) (fun v s₁ => wpAny (model X.prog X.w) X.A (eval b X.env) (fun u s₂ => wpAny (model X.prog X.w) X.A (f v u) Q X.xe s₂) X.xe s₁) X.xe s := by
  refine thn (ha pins s σ H _ I h) fun v s1 ⟨x, H1, I1, r1, q1⟩ => ?_
  refine thn (hb pins s1 σ H1 _ I1 q1) fun u s2 ⟨y, H2, I2, r2, q2⟩ => ?_
  exact hf v u s2 x y H2 I2 r1 r2 q2
def tVar (i : Nat) : TE := fun σ H Q => ∃ v, σ[i]? = some (some v) ∧ Q v H
def tC (v : V) : TE := fun _ H Q => Q v H
theorem pe_var {i : Nat} {x : Str} {pos : Pos} (hN : X.N[i]? = some x) (hv : Vis X.env.scope x) (hd : (x == ("__debug__" : Str)) = false := by decide) (hcd : (x == ("__classdict__" : Str)) = false := by decide) : PE X (.Name x pos) (tVar i) := by
  intro pins s σ H Q I h
  obtain ⟨v, e, h⟩ := h
  obtain ⟨m, hn, hl⟩ := I.loc
  obtain ⟨u, r, l⟩ := hl i x v hN e hv
  have fin : EP X pins σ Q u s := ⟨v, H, I, r, h⟩
  rcases l with ⟨hk, hm⟩ | ⟨hk, c, hc, hcell⟩
  · exact wpAny_Name (wpAny_loadName_local I.ok.kind hk hn hm fin) hd
  · rcases hk with hk | hk
    · exact wpAny_Name (wpAny_loadName_cell I.ok.kind hk hc hcell fin) hd
    · exact wpAny_Name (wpAny_loadName_free I.ok.kind hk hc hcell fin hcd) hd
theorem pe_int {i j pos} : PE X (.Constant (.int i) j pos) (tC (.int i)) := fun _ _ _ H _ I h => wpAny_Constant_int ⟨.int i, H, I.tok _, ⟨_, rfl⟩, h⟩
theorem pe_bl {b j pos} : PE X (.Constant (.bool b) j pos) (tC (.bl b)) := fun _ _ _ H _ I h => Constant_bool ⟨.bl b, H, I, rfl, h⟩
theorem pe_non {j pos} : PE X (.Constant .none j pos) (tC .non) := fun _ _ _ H _ I h => Constant_none ⟨.non, H, I, rfl, h⟩
theorem pe_str {x j pos} : PE X (.Constant (.str x) j pos) (tC (.str x)) := fun _ _ _ H _ I h => Calls.Constant_str ⟨.str x, H, I.tok _, ⟨_, rfl⟩, h⟩
def Gl (X : Cx) (x : Str) : Prop := X.env.kindOf x = some .globalImplicit
theorem ld_glob {E : Value → Shared → Prop} {pins : List (Addr × Obj)} {s : Shared} {σ : St} {H : Hp} {x : Str} {u : Value} {pos : Pos} {Q : Value → Shared → Prop} (I : Inv X pins σ H s) (hg : Gl X x) (hm : X.mg x = some u) (h : Q u s)
    (hd : (x == ("__debug__" : Str)) = false := by decide) : wpAny (model X.prog X.w) X.A (eval (.Name x pos) X.env) Q E s :=
  Calls.Name_function_global I.ok.kind hg (Calls.loadGlobal_global (by rw [I.ok.glob]; exact I.mod.glob.keeps I.bk) hm h) hd
theorem ld_blt {E : Value → Shared → Prop} {pins : List (Addr × Obj)} {s : Shared} {σ : St} {H : Hp} {x : Str} {u : Value} {pos : Pos} {Q : Value → Shared → Prop} (I : Inv X pins σ H s) (hg : Gl X x) (hm : X.mg x = none) (hv : bootBuiltins x = some u) (h : Q u s)
    (hn : x ≠ "__name__" := by decide) (hd : (x == ("__debug__" : Str)) = false := by decide) : wpAny (model X.prog X.w) X.A (eval (.Name x pos) X.env) Q E s := by
  obtain ⟨mb, h1, h2⟩ := I.mod.blt
  exact Calls.Name_function_global I.ok.kind hg (Calls.loadGlobal_builtin (by rw [I.ok.glob]; exact I.mod.glob.keeps I.bk) hm (by rw [I.ok.blt]; exact h1.keeps I.bk) ((h2 x hn).trans hv) h) hd
theorem pe_glob {x : Str} {v : V} {u : Value} {pos : Pos} (hg : Gl X x) (hm : X.mg x = some u) (r : RelV v u) (hd : (x == ("__debug__" : Str)) = false := by decide) : PE X (.Name x pos) (tC v) :=
  fun _ _ _ H _ I h => ld_glob I hg hm ⟨v, H, I, r, h⟩ hd
theorem pe_bltn {x : Str} {v : V} {u : Value} {pos : Pos} (hg : Gl X x) (hm : X.mg x = none) (hv : bootBuiltins x = some u) (r : RelV v u) (hn : x ≠ "__name__" := by decide) (hd : (x == ("__debug__" : Str)) = false := by decide) : PE X (.Name x pos) (tC v) :=
  fun _ _ _ H _ I h => ld_blt I hg hm hv ⟨v, H, I, r, h⟩ hn hd
variable {a b : Expr} {ta tb : TE} {pos : Pos}
def PC (X : Cx) (op : CmpOp) (a b : Expr) (t : TE) : Prop :=
  ∀ (pins : List (Addr × Obj)) (s : Shared) (σ : St) (H : Hp) (Q : VK), Inv X pins σ H s → t σ H Q →
    wpAny (model X.prog X.w) X.A (eval a X.env) (fun v s₁ => wpAny (model X.prog X.w) X.A (eval b X.env) (fun u s₂ => wpAny (model X.prog X.w) X.A (compareOp op v u) (EP X pins σ Q) X.xe s₂) X.xe s₁) X.xe s
theorem nobehind (b : Expr) {op : CmpOp} (h : op ≠ .In) (h2 : op ≠ .NotIn) : behindInMarks op b = false := by
  have e1 : (op == CmpOp.In) = false := by cases op <;> first | rfl | exact absurd rfl h
  have e2 : (op == CmpOp.NotIn) = false := by cases op <;> first | rfl | exact absurd rfl h2
  cases b <;> simp [behindInMarks, e1, e2]
def tB (t : TE) : TT := fun σ H Q => t σ H fun x H1 => ∃ c, x = .bl c ∧ Q c H1
theorem pt_cmp {op : CmpOp} {t : TE} (h : PC X op a b t) (h1 : behindInMarks op b = false := by first | exact nobehind _ (by decide) (by decide) | rfl) : PT X (.Compare a [op] [b] pos) (tB t) := by
  intro pins s σ H Q I hw
  refine wpAny_isTrue_Compare1 (thn (h pins s σ H _ I hw) fun v s1 h1 => thn h1 fun u s2 h2 => thn h2 fun c s3 ⟨x, H1, I1, r1, q1⟩ => ?_) h1
  obtain ⟨d, rfl, q⟩ := q1
  cases r1
  exact wpAny_truthy_bool ⟨H1, I1, q⟩
theorem pt_val {e : Expr} {t : TE} (h : PE X e t) (he : ∀ whole, isTrue e X.env whole = (do let v ← whole; standAt e.pos; holding [v] (truthy v)) := by intro _; rfl) : PT X e (tB t) := by
  intro pins s σ H Q I hw
  refine isTrue_plain (thn (h pins s σ H _ I hw) fun v s1 ⟨x, H1, I1, r1, q1⟩ => ?_) (he _)
  obtain ⟨d, rfl, q⟩ := q1
  cases r1
  exact wpAny_truthy_bool ⟨H1, I1, q⟩
variable {tA tB' : TT} {rest : List Expr}
def tAnd (t u : TT) : TT := fun σ H Q => t σ H fun c H1 => if c = true then u σ H1 Q else Q false H1
def tOr (t u : TT) : TT := fun σ H Q => t σ H fun c H1 => if c = true then Q true H1 else u σ H1 Q
def tNot (t : TT) : TT := fun σ H Q => t σ H fun c H1 => Q (!c) H1
theorem pw_and1 (ha : PT X a tA) : PW X (.BoolOp .And [a] pos) tA := by
  intro wh pins s σ H Q I h
  refine isTrue_and (thn (ha pins s σ H Q I h) fun c s1 e => ?_)
  cases c with
  | true => exact isTrue_and_nil e
  | false => exact e
theorem pw_or1 (ha : PT X a tA) : PW X (.BoolOp .Or [a] pos) tA := by
  intro wh pins s σ H Q I h
  refine isTrue_or (thn (ha pins s σ H Q I h) fun c s1 e => ?_)
  cases c with
  | false => exact isTrue_or_nil e
  | true => exact e
theorem pw_and (ha : PT X a tA) (hb : PW X (.BoolOp .And (b :: rest) pos) tB') : PW X (.BoolOp .And (a :: b :: rest) pos) (tAnd tA tB') := by
  intro wh pins s σ H Q I h
  refine isTrue_and (thn (ha pins s σ H _ I h) fun c s1 ⟨H1, I1, q1⟩ => ?_)
  cases c with
  | true => exact hb wh pins s1 σ H1 Q I1 q1
  | false => exact ⟨H1, I1, q1⟩
theorem pw_or (ha : PT X a tA) (hb : PW X (.BoolOp .Or (b :: rest) pos) tB') : PW X (.BoolOp .Or (a :: b :: rest) pos) (tOr tA tB') := by
  intro wh pins s σ H Q I h
  refine isTrue_or (thn (ha pins s σ H _ I h) fun c s1 ⟨H1, I1, q1⟩ => ?_)
  cases c with
  | true => exact ⟨H1, I1, q1⟩
  | false => exact hb wh pins s1 σ H1 Q I1 q1
theorem pt_not (ha : PT X a tA) : PT X (.UnaryOp .Not a pos) (tNot tA) := by
  intro pins s σ H Q I h
  exact isTrue_not (ha pins s σ H (fun c H1 => Q (!c) H1) I h)
def tAndV (ta tb : TE) : TE := fun σ H Q => ta σ H fun x H1 => ∃ c, x = .bl c ∧ if c = true then tb σ H1 Q else Q (.bl false) H1
def tNotV (ta : TE) : TE := fun σ H Q => ta σ H fun x H1 => ∃ c, x = .bl c ∧ Q (.bl (!c)) H1
theorem pe_one {op} {t : TE} (h : PE X a t) : PE X (.BoolOp op [a] pos) t := fun pins s σ H Q I hw => BoolOp_one (h pins s σ H Q I hw)
theorem pe_and (ha : PE X a ta) (hb : PE X (.BoolOp .And (b :: rest) pos) tb) : PE X (.BoolOp .And (a :: b :: rest) pos) (tAndV ta tb) := by
  intro pins s σ H Q I h
  refine BoolOp_and (thn (ha pins s σ H _ I h) fun v s1 ⟨x, H1, I1, r1, q1⟩ => ?_)
  obtain ⟨c, rfl, q1⟩ := q1
  cases r1
  refine wpAny_truthy_bool ?_
  cases c with
  | true => exact hb pins s1 σ H1 Q I1 q1
  | false => exact ⟨.bl false, H1, I1, rfl, q1⟩
theorem pe_not (ha : PE X a ta) : PE X (.UnaryOp .Not a pos) (tNotV ta) := by
  intro pins s σ H Q I h
  refine UnaryOp_ (thn (ha pins s σ H _ I h) fun v s1 ⟨x, H1, I1, r1, q1⟩ => ?_)
  obtain ⟨c, rfl, q1⟩ := q1
  cases r1
  exact not_of (wpAny_truthy_bool ⟨.bl (!c), H1, I1, rfl, q1⟩)
def tIf (t : TT) (ta tb : TE) : TE := fun σ H Q => t σ H fun c H1 => if c = true then ta σ H1 Q else tb σ H1 Q
theorem pe_ifExp {c : Expr} (hc : PT X c tA) (ha : PE X a ta) (hb : PE X b tb) : PE X (.IfExp c a b pos) (tIf tA ta tb) := by
  intro pins s σ H Q I h
  refine wpAny_IfExp (thn (hc pins s σ H _ I h) fun d s1 ⟨H1, I1, q1⟩ => ?_)
  cases d with
  | true => exact ha pins s1 σ H1 Q I1 q1
  | false => exact hb pins s1 σ H1 Q I1 q1
end
end L2
namespace L2
open PySem PySem.Spec PyProof.Rows
def SqL (K : PySem.W.Frag) (H : Hp) (a : Addr) (xs : List V) : Prop :=
  Rd H a (.lst xs) ∨
    ∃ (o : Obj) (its : Array Value) (n : Nat), K.lookup a = some o ∧ o.cls = .type "list" ∧ o.dict = none ∧ o.data = .seq its n ∧ its.size ≤ sizeLine ∧ Vals xs its.toList
def SqT (K : PySem.W.Frag) (H : Hp) (a : Addr) (xs : List V) : Prop :=
  Rd H a (.tup xs) ∨
    ∃ (o : Obj) (its : Array Value) (n : Nat), K.lookup a = some o ∧ o.cls = .type "tuple" ∧ o.data = .seq its n ∧ its.size ≤ sizeLine ∧ Vals xs its.toList
def absV : Value → Option V
  | .none => some .non
  | .bool b => some (.bl b)
  | .int i _ => some (.int i)
  | .str x _ => some (.str x)
  | .bytes b _ => some (.byt b)
  | .float b _ => some (.flt b)
  | .ref a => some (.ref a)
  | .type n => some (.ty n)
  | _ => none
theorem RelV.abs {x : V} {u : Value} (r : RelV x u) : absV u = some x := by
  cases x with
  | non => cases r; rfl
  | bl _ => cases r; rfl
  | int _ => obtain ⟨t, rfl⟩ := r; rfl
  | str _ => obtain ⟨t, rfl⟩ := r; rfl
  | byt _ => obtain ⟨t, rfl⟩ := r; rfl
  | flt _ => obtain ⟨t, rfl⟩ := r; rfl
  | ref _ => cases r; rfl
  | ty _ => cases r; rfl
theorem RelV.inj {x y : V} {u : Value} (r : RelV x u) (q : RelV y u) : x = y := Option.some.inj (r.abs.symm.trans q.abs)
theorem Vals.inj : ∀ {xs ys : List V} {us : List Value}, Vals xs us → Vals ys us → xs = ys
  | _, _, _, .nil, .nil => rfl
  | _, _, _, .cons r t, .cons r' t' => by rw [r.inj r', Vals.inj t t']
section
variable {X : Cx} {pins : List (Addr × Obj)} {σ : St} {H : Hp} {s : Shared} {a : Addr} {xs ys : List V}
theorem SqL.of {K : PySem.W.Frag} (h : H a = some (.lst xs)) : SqL K H a xs := .inl (.inl h)
theorem SqT.of {K : PySem.W.Frag} (h : H a = some (.tup xs)) : SqT K H a xs := .inl (.inl h)
theorem Inv.list (I : Inv X pins σ H s) (h : SqL X.K H a xs) : ∃ its : List Value, Vals xs its ∧ PlainL s.heap a its.toArray ∧ xs.length ≤ sizeLine := by
  rcases h with h | ⟨o, its, n, hk, hc, hd, hs, hz, r⟩
  · obtain ⟨z, its, n, r, e⟩ := h.ok I.hok
    exact ⟨its, r, ⟨_, n, e, rfl, rfl, rfl⟩, z⟩
  · refine ⟨its.toList, r, ⟨o, n, I.kIn a o hk, hc, hd, by simpa using hs⟩, ?_⟩
    have e := r.length
    simp only [Array.length_toList] at e
    omega
theorem Inv.tuple (I : Inv X pins σ H s) (h : SqT X.K H a xs) : ∃ its : List Value, Vals xs its ∧ IsTup s.heap a its.toArray ∧ xs.length ≤ sizeLine := by
  rcases h with h | ⟨o, its, n, hk, hc, hs, hz, r⟩
  · obtain ⟨z, its, r, p⟩ := h.ok I.hok
    exact ⟨its, r, p, z⟩
  · refine ⟨its.toList, r, ⟨o, I.kIn a o hk, hc, n, by simpa using hs⟩, ?_⟩
    have e := r.length
    simp only [Array.length_toList] at e
    omega
theorem Inv.list_inj (I : Inv X pins σ H s) (h : SqL X.K H a xs) (h' : SqL X.K H a ys) : xs = ys := by
  obtain ⟨its, r, ⟨o, n, e, _, _, d⟩, _⟩ := I.list h
  obtain ⟨its', r', ⟨o', n', e', _, _, d'⟩, _⟩ := I.list h'
  rw [e] at e'; cases e'
  rw [d] at d'
  injection d' with d1 _
  have : its = its' := by simpa using congrArg Array.toList d1
  subst this
  exact r.inj r'
theorem Inv.tuple_inj (I : Inv X pins σ H s) (h : SqT X.K H a xs) (h' : SqT X.K H a ys) : xs = ys := by
  obtain ⟨its, r, ⟨o, e, _, n, d⟩, _⟩ := I.tuple h
  obtain ⟨its', r', ⟨o', e', _, n', d'⟩, _⟩ := I.tuple h'
  rw [e] at e'; cases e'
  rw [d] at d'
  injection d' with d1 _
  have : its = its' := by simpa using congrArg Array.toList d1
  subst this
  exact r.inj r'
end
abbrev Cx.wish (X : Cx) (E : Value → Shared → Prop) : Cx := { X with xe := E }
abbrev Cx.nox (X : Cx) : Cx := X.wish fun _ _ => False
theorem Cx.Ok.wish {X : Cx} (ok : X.Ok) (E : Value → Shared → Prop) : (X.wish E).Ok :=
  ⟨ok.mod, ok.kind, ok.glob, ok.blt, ok.above, ok.inj, ok.has, ok.cab, ok.hd, ok.qt, ok.frames, ok.stk, ok.exf, ok.bs, ok.bsz, ok.noex, ok.exfs, ok.funs, ok.frf⟩
theorem Cx.Ok.unwish {X : Cx} {E : Value → Shared → Prop} (ok : (X.wish E).Ok) : X.Ok :=
  ⟨ok.mod, ok.kind, ok.glob, ok.blt, ok.above, ok.inj, ok.has, ok.cab, ok.hd, ok.qt, ok.frames, ok.stk, ok.exf, ok.bs, ok.bsz, ok.noex, ok.exfs, ok.funs, ok.frf⟩
section
variable {X : Cx} {pins : List (Addr × Obj)} {σ : St} {H : Hp} {s : Shared} {E : Value → Shared → Prop}
theorem Inv.wish (I : Inv X pins σ H s) (E : Value → Shared → Prop) : Inv (X.wish E) pins σ H s := ⟨I.ok.wish E, I.os, I.bare, I.base, I.loc, I.cell, I.free, I.freeC, I.pin, I.hok, I.len⟩
theorem Inv.unwish (I : Inv (X.wish E) pins σ H s) : Inv X pins σ H s := ⟨I.ok.unwish, I.os, I.bare, I.base, I.loc, I.cell, I.free, I.freeC, I.pin, I.hok, I.len⟩
theorem SP.unwish {D : Ends} {f : Flow} {s' : Shared} (h : SP (X.wish E) pins D f s') : SP X pins D f s' := by
  cases f with
  | next => obtain ⟨σ', H', I, q⟩ := h; exact ⟨σ', H', I.unwish, q⟩
  | brk => obtain ⟨σ', H', I, q⟩ := h; exact ⟨σ', H', I.unwish, q⟩
  | cont => obtain ⟨σ', H', I, q⟩ := h; exact ⟨σ', H', I.unwish, q⟩
  | ret u => obtain ⟨v, σ', H', I, r, q⟩ := h; exact ⟨v, σ', H', I.unwish, r, q⟩
theorem PSs.nox {st : List Stmt} {t : TS} (h : PSs X.nox st t) : PSs X st t := fun pins s σ H D I hw =>
  wpAny_mono (h pins s σ H D (I.wish _) hw) (fun _ _ q => q.unwish) fun _ _ z => False.elim z
end
section
variable {X : Cx} {st : Stmt} {rest : List Stmt} {t u : TS} {e : Expr} {te : TE} {pos : Pos}
def tNext : TS := fun D σ H => D.nx σ H
def tSeq (t u : TS) : TS := fun D σ H => t { D with nx := u D } σ H
theorem pss_nil : PSs X [] tNext := fun _ _ σ H _ I h => wpAny_execs_nil ⟨σ, H, I, h⟩
theorem pss_cons (h1 : PS X st t) (h2 : PSs X rest u) : PSs X (st :: rest) (tSeq t u) := by
  intro pins s σ H D I h
  refine wpAny_execs_cons (thn (h1 pins s σ H { D with nx := u D } I h) fun f s1 q => ?_)
  cases f with
  | next =>
    obtain ⟨σ', H', I', q⟩ := q
    exact h2 pins s1 σ' H' D I' q
  | ret v => exact q
  | brk => exact q
  | cont => exact q
theorem pss_one (h1 : PS X st t) : PSs X [st] t := by
  intro pins s σ H D I h
  refine wpAny_execs_cons (thn (h1 pins s σ H D I h) fun f s1 q => ?_)
  cases f with
  | next => exact wpAny_execs_nil q
  | ret v => exact q
  | brk => exact q
  | cont => exact q
theorem Inv.quiet {pins : List (Addr × Obj)} {σ : St} {H : Hp} {s : Shared} (I : Inv X pins σ H s) : interactive X.env = false := by simp [interactive, I.ok.kind]
def tDrop (te : TE) : TS := fun D σ H => te σ H fun _ H1 => D.nx σ H1
theorem ps_expr (he : PE X e te) (hs : swapsWith e none pos.line X.env = pure false := by rfl) : PS X (.Expr e pos) (tDrop te) := by
  intro pins s σ H D I h
  exact wpAny_Expr_any (thn (he pins s σ H _ I h) fun v s1 ⟨x, H1, I1, r1, q1⟩ => ⟨σ, H1, I1, q1⟩) I.quiet hs
def tRet (te : TE) : TS := fun D σ H => te σ H D.rt
theorem ps_ret (he : PE X e te) : PS X (.Return (some e) pos) (tRet te) := by
  intro pins s σ H D I h
  exact wpAny_Return_some (thn (he pins s σ H _ I h) fun v s1 ⟨x, H1, I1, r1, q1⟩ => ⟨x, σ, H1, I1, r1, q1⟩)
def tIfS (c : TT) (t u : TS) : TS := fun D σ H => c σ H fun b H1 => if b = true then t D σ H1 else u D σ H1
theorem ps_if {c : Expr} {a b : List Stmt} {tc : TT} (hc : PT X c tc) (ha : PSs X a t) (hb : PSs X b u) : PS X (.If c a b pos) (tIfS tc t u) := by
  intro pins s σ H D I h
  refine wpAny_If (thn (hc pins s σ H _ I h) fun d s1 ⟨H1, I1, q1⟩ => ?_)
  cases d with
  | true => exact ha pins s1 σ H1 D I1 q1
  | false => exact hb pins s1 σ H1 D I1 q1
def tNever : TS := fun _ _ _ => False
theorem pss_never {sts : List Stmt} : PSs X sts tNever := fun _ _ _ _ _ _ h => h.elim
end
abbrev TG := V → St → Hp → (St → Hp → Prop) → Prop
abbrev TGs := List V → St → Hp → (St → Hp → Prop) → Prop
def PG (X : Cx) (target : Expr) (t : TG) : Prop :=
  ∀ (pins : List (Addr × Obj)) (s : Shared) (σ : St) (H : Hp) (v : V) (u : Value) (Q : St → Hp → Prop), Inv X pins σ H s → RelV v u → t v σ H Q →
    wpAny (model X.prog X.w) X.A (assign target X.env u) (fun _ s' => ∃ σ' H', Inv X pins σ' H' s' ∧ Q σ' H') X.xe s
def PGs (X : Cx) (ts : List Expr) (t : TGs) : Prop :=
  ∀ (pins : List (Addr × Obj)) (s : Shared) (σ : St) (H : Hp) (vs : List V) (us : List Value) (Q : St → Hp → Prop), Inv X pins σ H s → Vals vs us → t vs σ H Q →
    wpAny (model X.prog X.w) X.A (assignInOrder ((assignEach ts X.env).map (·.2)) us) (fun _ s' => ∃ σ' H', Inv X pins σ' H' s' ∧ Q σ' H') X.xe s
abbrev TSet := V → V → V → Hp → (Hp → Prop) → Prop
def PSet (X : Cx) (t : TSet) : Prop :=
  ∀ (pins : List (Addr × Obj)) (s : Shared) (σ : St) (H : Hp) (o i v : V) (ov iv u : Value) (Q : Hp → Prop), Inv X pins σ H s → RelV o ov → RelV i iv → RelV v u → t o i v H Q →
    wpAny (model X.prog X.w) X.A (setItem ov iv u) (fun _ s' => ∃ H', Inv X pins σ H' s' ∧ Q H') X.xe s
section
variable {X : Cx} {pos : Pos}
def gName (i : Nat) : TG := fun v σ H Q => Q (σ.set i (some v)) H
theorem pg_name {i : Nat} {x : Str} (hN : X.N.Nodup) (hi : X.N[i]? = some x) (hx : Loc X.env.scope x) (hf : X.fn x = true ∨ X.env.scope.names.lookup x = some .local := by first | exact .inl rfl | exact .inr rfl | assumption) : PG X (.Name x pos) (gName i) := by
  intro pins s σ H v u Q I r h
  exact wpAny_assign_Name (store_ok I hN hi hx r (fun s' I' => ⟨_, H, I', h⟩) hf)
def gNil : TGs := fun vs σ H Q => vs = [] ∧ Q σ H
def gCons (t : TG) (u : TGs) : TGs := fun vs σ H Q => ∃ v r, vs = v :: r ∧ t v σ H fun σ' H' => u r σ' H' Q
theorem pgs_nil : PGs X [] gNil := by
  intro pins s σ H vs us Q I r h
  obtain ⟨e, h⟩ := h
  subst e
  cases r
  exact assignInOrder_nil ⟨σ, H, I, h⟩
theorem pgs_cons {e : Expr} {es : List Expr} {t : TG} {u : TGs} (h1 : PG X e t) (h2 : PGs X es u)
    (hs : (assignEach (e :: es) X.env).map (·.2) = assign e X.env :: (assignEach es X.env).map (·.2) := by rfl) : PGs X (e :: es) (gCons t u) := by
  intro pins s σ H vs us Q I r h
  obtain ⟨v, vr, e1, h⟩ := h
  subst e1
  cases r with
  | cons r rr =>
    rw [hs]
    refine assignInOrder_cons (thn (h1 pins s σ H _ _ _ I r h) fun _ s1 ⟨σ1, H1, I1, q1⟩ => ?_)
    exact h2 pins s1 σ1 H1 _ _ Q I1 rr q1
def gTup (K : PySem.W.Frag) (n : Nat) (t : TGs) : TG := fun v σ H Q => ∃ a xs, v = .ref a ∧ SqT K H a xs ∧ xs.length = n ∧ t xs σ H Q
theorem pg_tup {es : List Expr} {k : Nat} {t : TGs} {n : Nat} (hc : X.calm = X.calm) (h : PGs X es t)
    (hn : (assignEach es X.env).length = n := by rfl) (hst : (assignEach es X.env).findIdx? (·.1) = none := by rfl) : PG X (.Tuple es k pos) (gTup X.K n t) := by
  intro pins s σ H v u Q I r hw
  obtain ⟨a, xs, e1, hq, hl, hw⟩ := hw
  subst e1
  cases r
  obtain ⟨its, rv, ht, hz⟩ := I.tuple hq
  refine assign_TupleQ I.quietA ht (by simp [hn, ← hl, rv.length]) hst fun h' hx => ?_
  have I1 : Inv X pins σ H { s with heap := h' } := I.kept (t' := s.toks) fun b o e => hx b o (Nat.ne_of_lt (Heap.lt_size e)) e
  exact h pins _ σ H xs _ Q I1 (by simpa using rv) hw
def gSub (to ti : TE) (t : TSet) : TG := fun v σ H Q => to σ H fun o H1 => ti σ H1 fun i H2 => t o i v H2 fun H3 => Q σ H3
theorem pg_sub {o i : Expr} {to ti : TE} {t : TSet} (ho : PE X o to) (hi : PE X i ti) (hs : PSet X t)
    (ha : ∀ v, assign (.Subscript o i pos) X.env v = (do
      let ov ← holding [v] (eval o X.env)
      let iv ← holding [v, ov] (eval i X.env)
      standAt pos
      holding [v, ov, iv] (setItem ov iv v)
      release [v, ov, iv] []) := by intro _; rfl) : PG X (.Subscript o i pos) (gSub to ti t) := by
  intro pins s σ H v u Q I r h
  rw [ha]
  refine wpAny_bind (wpAny_holding (thn (ho pins s σ H _ I h) fun ov s1 ⟨x, H1, I1, r1, q1⟩ => ?_))
  refine wpAny_bind (wpAny_holding (thn (hi pins s1 σ H1 _ I1 q1) fun iv s2 ⟨y, H2, I2, r2, q2⟩ => ?_))
  refine wpAny_bind (wpAny_standAt (wpAny_bind (wpAny_holding (thn (hs pins s2 σ H2 x y v ov iv u _ I2 r1 r2 r q2) fun _ s3 ⟨H3, I3, q3⟩ => ?_))))
  exact wpAny_release ⟨σ, H3, I3, q3⟩
def tAsg (te : TE) (g : TG) : TS := fun D σ H => te σ H fun x H1 => g x σ H1 D.nx
theorem ps_asg {tg e : Expr} {te : TE} {g : TG} (he : PE X e te) (hg : PG X tg g) (hs : swapsWithSole [tg] e pos.line X.env = pure false := by rfl) (hw : swappedStores [tg] e X.env = pure none := by rfl)
    (h1 : (assignEach [tg] X.env).map (·.2) = [assign tg X.env] := by rfl) : PS X (.Assign [tg] e pos) (tAsg te g) := by
  intro pins s σ H D I h
  refine wpAny_Assign_stores (thn (he pins s σ H _ I h) fun v s1 ⟨x, H1, I1, r1, q1⟩ => ?_) hs hw
  rw [h1]
  exact thn (hg pins s1 σ H1 x v _ I1 r1 q1) fun _ s2 q => q
theorem ps_set {i : Nat} {x : Str} {e : Expr} {te : TE} {pos' : Pos} (hN : X.N.Nodup) (hi : X.N[i]? = some x) (hx : Loc X.env.scope x) (he : PE X e te) (hs : swapsWith e (some (.Name x pos')) pos.line X.env = pure false := by rfl) (hf : X.fn x = true ∨ X.env.scope.names.lookup x = some .local := by first | exact .inl rfl | exact .inr rfl | assumption) :
    PS X (.Assign [.Name x pos'] e pos) (tAsg te (gName i)) := by
  intro pins s σ H D I h
  refine wpAny_Assign_Name (thn (he pins s σ H _ I h) fun v s1 ⟨y, H1, I1, r1, q1⟩ => ?_) hs
  exact store_ok I1 hN hi hx r1 (fun s2 I2 => ⟨_, H1, I2, q1⟩) hf
def tPar (i j : Nat) (ta : TA) : TS := fun D σ H => ta σ H fun vs H1 => ∃ v w, vs = [v, w] ∧ D.nx ((σ.set i (some v)).set j (some w)) H1
theorem ps_par {i j : Nat} {x y : Str} {a b : Expr} {ta : TA} {px py pt : Pos} {kt k2 pt2} (hc : X.calm = true) (hN : X.N.Nodup) (hi : X.N[i]? = some x) (hj : X.N[j]? = some y) (hij : i ≠ j)
    (hx : X.env.scope.names.lookup x = some .local) (hy : X.env.scope.names.lookup y = some .local) (ha : PA X [a, b] ta)
    (hw : swappedStores [.Tuple [.Name x px, .Name y py] kt pt] (.Tuple [a, b] k2 pt2) X.env = pure (some [x, y]))
    (hs : swapsWithSole [.Tuple [.Name x px, .Name y py] kt pt] (.Tuple [a, b] k2 pt2) pos.line X.env = pure false := by rfl) :
    PS X (.Assign [.Tuple [.Name x px, .Name y py] kt pt] (.Tuple [a, b] k2 pt2) pos) (tPar i j ta) := by
  intro pins s σ H D I h
  rw [exec_Assign_arm]
  refine wpAny_bind (wpAny_standAt ?_)
  rw [hs]
  refine wpAny_bind (wpAny_pure ?_)
  rw [if_neg (by decide)]
  refine wpAny_bind (Tuple_ (thn (ha _ pins s σ H _ I h) fun us s1 ⟨vs, H1, I1, r1, q1⟩ => ?_))
  obtain ⟨v, w, e1, q1⟩ := q1
  subst e1
  obtain ⟨u1, u2, rfl, rv, rw'⟩ : ∃ u1 u2, us = [u1, u2] ∧ RelV v u1 ∧ RelV w u2 := by
    cases r1 with
    | cons p q =>
      cases q with
      | cons p' q' =>
        cases q'
        exact ⟨_, _, rfl, p, p'⟩
  refine wpAny_newObj_type ?_ (by show 2 ≤ sizeLine; decide)
  have I2 : Inv X pins σ H1 { s1 with heap := s1.heap.push { cls := .type "tuple", data := .seq [u1, u2].toArray } } := I1.kept (t' := s1.toks) fun b o e => Heap.get?_push_of_some _ e
  rw [hw]
  refine wpAny_bind (wpAny_pure ?_)
  show wpAny (model X.prog X.w) X.A (do rule "assign.swapped-stores"; let items ← unpackItems (.ref s1.heap.objs.size) 2 none; assignInOrder [fun v => bindName X.env y v, fun v => bindName X.env x v] items.reverse; pure Flow.next) _ _ _
  refine wpAny_bind (wpAny_rule (wpAny_bind (unpackItems_tuple (items := #[u1, u2]) (I.ok.hd hc) (IsTup.new s1.heap _) fun h' hx' => ?_)))
  have I3 := I2.kept (h' := h') (t' := s1.toks) fun b o e => hx' b o (Nat.ne_of_lt (Heap.lt_size e)) e
  show wpAny _ _ (assignInOrder [fun v => bindName X.env y v, fun v => bindName X.env x v] [u2, u1] >>= fun _ => pure Flow.next) _ _ _
  refine wpAny_bind (assignInOrder_cons (wpAny_bindName (store_ok I3 hN hj (.inl hy) rw' (fun s2 I4 => ?_) (.inr hy))))
  refine assignInOrder_cons (wpAny_bindName (store_ok I4 hN hi (.inl hx) rv (fun s3 I5 => assignInOrder_nil (wpAny_pure ?_)) (.inr hx)))
  rw [List.set_comm _ _ (Ne.symm hij)] at I5
  exact ⟨_, H1, I5, q1⟩
end
section
variable {X : Cx} {pos : Pos}
def tWhile (c : TT) (tb : TS) : TS := fun D σ H => ∃ W : Nat → St → Hp → Prop, (∃ m, W m σ H) ∧ ∀ m σ H, W m σ H →
  c σ H fun b H1 => if b = true then ∃ N : St → Hp → Prop, (∀ σ' H', N σ' H' → ∃ m', m' < m ∧ W m' σ' H') ∧ tb { D with nx := N, ct := N, bk := D.nx } σ H1 else D.nx σ H1
theorem ps_while {c : Expr} {body : List Stmt} {tc : TT} {tb : TS} (hp : PassesOwn (model X.prog X.w) X.A X.env X.xe) (hc : PT X c tc) (hb : PSs X body tb) : PS X (.While c body [] pos) (tWhile tc tb) := by
  intro pins s σ H D I h
  obtain ⟨W, ⟨m0, w0⟩, turn⟩ := h
  refine wpAny_While (codeAny_whileLoop (fun n s' => ∃ σ' H', Inv X pins σ' H' s' ∧ W n σ' H') ?_ m0 ⟨σ, H, I, w0⟩)
  rintro n s1 ⟨σ1, H1, I1, w1⟩
  refine wpAny_passesOwn hp (thn (hc pins s1 σ1 H1 _ I1 (turn n σ1 H1 w1)) fun b s2 ⟨H2, I2, q2⟩ => ?_)
  cases b with
  | true =>
    obtain ⟨N, hN, q2⟩ := q2
    rw [if_pos rfl]
    refine wpAny_passesOwn hp (thn (hb pins s2 σ1 H2 _ I2 q2) fun f s3 q3 => ?_)
    cases f with
    | next =>
      obtain ⟨σ3, H3, I3, n3⟩ := q3
      obtain ⟨m', hm, w3⟩ := hN σ3 H3 n3
      exact ⟨m', hm, σ3, H3, I3, w3⟩
    | cont =>
      obtain ⟨σ3, H3, I3, n3⟩ := q3
      obtain ⟨m', hm, w3⟩ := hN σ3 H3 n3
      exact ⟨m', hm, σ3, H3, I3, w3⟩
    | brk => exact q3
    | ret v => exact q3
  | false =>
    rw [if_neg Bool.false_ne_true]
    exact wpAny_execs_nil ⟨σ1, H2, I2, q2⟩
end
structure It where
  go : Nat → Hp → Prop
  yld : Nat → Hp → V → Hp → Prop
  stop : Nat → Hp → Prop
def FpOk (X : Cx) (pins : List (Addr × Obj)) (H : Hp) (b : Addr) : Prop :=
  H b = none ∧ b ≠ X.env.locals ∧ b ∉ X.fs ∧ (b ∈ X.ex ∨ X.s₀.heap.objs.size ≤ b) ∧ (∀ x c, X.env.cells.lookup x = some c → c ≠ b) ∧ ∀ p ∈ X.pn ++ pins, p.1 ≠ b
theorem Inv.fpOk {X : Cx} {pins : List (Addr × Obj)} {σ : St} {H H' : Hp} {s : Shared} {b : Addr} (I : Inv X pins σ H s) (hb : s.heap.objs.size ≤ b) (hn : H' b = none) : FpOk X pins H' b := by
  refine ⟨hn, Nat.ne_of_gt (Nat.lt_of_lt_of_le I.lt hb), I.nofs hb, .inr (Nat.le_trans I.sz hb), fun x c e z => ?_, fun p hp z => ?_⟩
  · obtain ⟨v, q⟩ := I.cell x c e
    exact absurd (Nat.lt_of_lt_of_le q.lt (by rw [z]; exact hb)) (Nat.lt_irrefl _)
  · exact absurd (Nat.lt_of_lt_of_le (Heap.lt_size (I.pin p hp).1) (by rw [z]; exact hb)) (Nat.lt_irrefl _)
structure Turn (c : Bool) (P : Program) (w : World) (K : PySem.W.Frag) (tg : Expr) (J : It) (fp : List Addr) (it : Addr) (tn : Nat → Heap → Prop) : Prop where
  mem : it ∈ fp
  obj : ∀ i h, tn i h → ∀ b ∈ fp, ∃ o, h.get? b = some o ∧ ∀ v, o.data ≠ .cell v
  keep : ∀ i h h', tn i h → (∀ b ∈ fp, ∀ o, h.get? b = some o → h'.get? b = some o) → tn i h'
  item : ∀ (X : Cx), X.prog = P → X.w = w → X.K = K → (c = true → X.calm = true) → ∀ (i : Nat) (pins : List (Addr × Obj)) (s : Shared) (σ : St) (H : Hp) (E : Value → Shared → Prop), Inv X pins σ H s → (∀ b ∈ fp, FpOk X pins H b) → tn i s.heap → J.go i H →
    wpAny (model P w) X.A (pyNext (.ref it)) (fun r s1 => ∃ u, r = some u ∧
      wpAny (model P w) X.A (letOwnedTupleGo tg (.ref it) u) (fun _ s2 => ∃ x H', Inv X pins σ H' s2 ∧ RelV x u ∧ J.yld i H x H' ∧ tn (i + 1) s2.heap ∧ ∀ b ∈ fp, H' b = none) E s1) E s
  done : ∀ (X : Cx), X.prog = P → X.w = w → X.K = K → (c = true → X.calm = true) → ∀ (i : Nat) (pins : List (Addr × Obj)) (s : Shared) (σ : St) (H : Hp) (E : Value → Shared → Prop), Inv X pins σ H s → (∀ b ∈ fp, FpOk X pins H b) → tn i s.heap → J.stop i H →
    wpAny (model P w) X.A (pyNext (.ref it)) (fun r s1 => r = none ∧ Inv X pins σ H s1) E s
  self : ∀ (A : Around) (i : Nat) (s : Shared) (Q : Value → Shared → Prop) (E : Value → Shared → Prop), tn i s.heap → Q (.ref it) s → wpAny (model P w) A (pyIter (.ref it)) Q E s
theorem Turn.calm {c : Bool} {P : Program} {w : World} {K : PySem.W.Frag} {tg : Expr} {J : It} {fp : List Addr} {it : Addr} {tn : Nat → Heap → Prop} (T : Turn true P w K tg J fp it tn) (h : c = true) : Turn c P w K tg J fp it tn := by subst h; exact T
abbrev TI := St → Hp → (It → Hp → Prop) → Prop
def PIE (X : Cx) (pins : List (Addr × Obj)) (σ : St) (tg : Expr) (R : It → Hp → Prop) (itv : Value) (s2 : Shared) : Prop :=
  ∃ (it : Addr) (fp : List Addr) (tn : Nat → Heap → Prop) (J : It) (H' : Hp), itv = .ref it ∧ Inv X pins σ H' s2 ∧ Turn X.calm X.prog X.w X.K tg J fp it tn ∧ tn 0 s2.heap ∧ (∀ b ∈ fp, FpOk X pins H' b) ∧ R J H'
def PI (X : Cx) (tg iter : Expr) (wi : TI) : Prop :=
  ∀ (pins : List (Addr × Obj)) (s : Shared) (σ : St) (H : Hp) (R : It → Hp → Prop), Inv X pins σ H s → wi σ H R →
    wpAny (model X.prog X.w) X.A (eval iter X.env) (fun v s1 => wpAny (model X.prog X.w) X.A (pyIter v) (PIE X pins σ tg R) X.xe s1) X.xe s
theorem go_of {M : Model} {A : Around} {E : Value → Shared → Prop} {s : Shared} {tg : Expr} {it : Addr} {u : Value} {o : Obj} {n : String} {vs : Array Value} {Q : Unit → Shared → Prop} (ho : s.heap.get? it = some o) (hc : o.cls = .type n) (hd : o.data = .fields vs)
    (hn : ["enumerate", "zip", "dict_itemiterator", "dict_reverseitemiterator", "odict_iterator", "itertools.zip_longest", "itertools.pairwise"].contains n = false) (hQ : Q () s) : wpAny M A (letOwnedTupleGo tg (.ref it) u) Q E s := by
  unfold letOwnedTupleGo
  cases tg <;> first
    | exact wpAny_pure hQ
    | (cases u <;> first
        | exact wpAny_pure hQ
        | (refine wpAny_bind (wpAny_load ho ?_)
           rw [hc, hd]
           show wpAny M A (if (["enumerate", "zip", "dict_itemiterator", "dict_reverseitemiterator", "odict_iterator", "itertools.zip_longest", "itertools.pairwise"].contains n && vs[0]? == some (rawInt _)) = true then _ else _) Q E s
           rw [if_neg (by intro h; rw [hn, Bool.false_and] at h; cases h)]
           exact wpAny_pure hQ))
def Itl (K : PySem.W.Frag) (a : Addr) : It :=
  ⟨fun i H => ∃ xs x, SqL K H a xs ∧ xs[i]? = some x, fun i H x H' => H' = H ∧ ∀ xs, SqL K H a xs → xs[i]? = some x, fun i H => ∃ xs, SqL K H a xs ∧ xs.length ≤ i⟩
def Itt (K : PySem.W.Frag) (a : Addr) : It :=
  ⟨fun i H => ∃ xs x, SqT K H a xs ∧ xs[i]? = some x, fun i H x H' => H' = H ∧ ∀ xs, SqT K H a xs → xs[i]? = some x, fun i H => ∃ xs, SqT K H a xs ∧ xs.length ≤ i⟩
def Itr (lo : Int) (n : Nat) : It := ⟨fun i _ => i < n, fun i H x H' => H' = H ∧ x = .int (lo + i), fun i _ => n ≤ i⟩
theorem turn_list {c : Bool} {P : Program} {w : World} {K : PySem.W.Frag} {tg : Expr} (a it : Addr) : Turn c P w K tg (Itl K a) [it] it (fun i h => h.IsListIter it a i) where
  mem := by simp
  obj := fun i h st b hb => by
    have e : b = it := by simpa using hb
    subst e
    obtain ⟨o, e, c, d⟩ := st
    exact ⟨o, e, fun v z => by rw [d] at z; cases z⟩
  keep := fun i h h' st k => st.at fun o e => k it (by simp) o e
  item := by
    intro X hP hw hK hc i pins s σ H E I hf st hg
    subst hP hw hK
    obtain ⟨xs, x, hq, hx⟩ := hg
    obtain ⟨its, rv, p, hz⟩ := I.list hq
    obtain ⟨u, hu, ru⟩ := rv.get hx
    obtain ⟨f0, f1, f2, f3, f4, f5⟩ := hf it (by simp)
    refine wpAny_pyNext_list_item st p.isList (x := u) (by simpa using hu) fun h' st' sb => ?_
    have I1 : Inv X pins σ H { s with heap := h' } := I.turned (t' := s.toks) (fun b o hb e => (sb.2 b hb).trans e) f0 f1 f3 f4 f5
    obtain ⟨o, e, c, d⟩ := id st'
    exact ⟨u, rfl, go_of (s := { s with heap := h' }) e c d (by decide) ⟨x, H, I1, ru, ⟨rfl, fun ys hy => by rw [I.list_inj hy hq]; exact hx⟩, st', fun b hb => (hf b hb).1⟩⟩
  done := by
    intro X hP hw hK hc i pins s σ H E I hf st hg
    subst hP hw hK
    obtain ⟨xs, hq, hx⟩ := hg
    obtain ⟨its, rv, p, hz⟩ := I.list hq
    obtain ⟨f0, f1, f2, f3, f4, f5⟩ := hf it (by simp)
    have hl := rv.length
    exact nextList_endQ I.quietA (I.hne f5) st p.isList (by simp; omega) fun h' eb => ⟨rfl, I.turned (t' := s.toks) (fun b o hb e => eb b o hb e) f0 f1 f3 f4 f5⟩
  self := fun _ _ _ _ _ st h => wpAny_pyIter_listiter st h
theorem turn_tuple {c : Bool} {P : Program} {w : World} {K : PySem.W.Frag} {tg : Expr} (a it : Addr) : Turn c P w K tg (Itt K a) [it] it (fun i h => h.IsTupleIter it a i) where
  mem := by simp
  obj := fun i h st b hb => by
    have e : b = it := by simpa using hb
    subst e
    obtain ⟨o, e, c, d⟩ := st
    exact ⟨o, e, fun v z => by rw [d] at z; cases z⟩
  keep := fun i h h' st k => st.at fun o e => k it (by simp) o e
  item := by
    intro X hP hw hK hc i pins s σ H E I hf st hg
    subst hP hw hK
    obtain ⟨xs, x, hq, hx⟩ := hg
    obtain ⟨its, rv, p, hz⟩ := I.tuple hq
    obtain ⟨u, hu, ru⟩ := rv.get hx
    obtain ⟨f0, f1, f2, f3, f4, f5⟩ := hf it (by simp)
    refine wpAny_pyNext_tuple_item st (show s.heap.IsTuple a its.toArray from p) (x := u) (by simpa using hu) fun h' st' sb => ?_
    have I1 : Inv X pins σ H { s with heap := h' } := I.turned (t' := s.toks) (fun b o hb e => (sb.2 b hb).trans e) f0 f1 f3 f4 f5
    obtain ⟨o, e, c, d⟩ := id st'
    exact ⟨u, rfl, go_of (s := { s with heap := h' }) e c d (by decide) ⟨x, H, I1, ru, ⟨rfl, fun ys hy => by rw [I.tuple_inj hy hq]; exact hx⟩, st', fun b hb => (hf b hb).1⟩⟩
  done := by
    intro X hP hw hK hc i pins s σ H E I hf st hg
    subst hP hw hK
    obtain ⟨xs, hq, hx⟩ := hg
    obtain ⟨its, rv, p, hz⟩ := I.tuple hq
    obtain ⟨f0, f1, f2, f3, f4, f5⟩ := hf it (by simp)
    have hl := rv.length
    exact nextTup_endQ I.quietA (I.hne f5) st (show s.heap.IsTuple a its.toArray from p) (by simp; omega) fun h' eb => ⟨rfl, I.turned (t' := s.toks) (fun b o hb e => eb b o hb e) f0 f1 f3 f4 f5⟩
  self := fun _ _ _ _ _ st h => wpAny_pyIter_tupleiter st h
theorem turn_range {P : Program} {w : World} {K : PySem.W.Frag} {tg : Expr} (it : Addr) (lo : Int) (n : Nat) : Turn true P w K tg (Itr lo n) [it] it (fun i h => IsRangeIter h it (lo + (i : Nat) * 1) ((n : Int) - (i : Nat)) 1) where
  mem := by simp
  obj := fun i h st b hb => by
    have e : b = it := by simpa using hb
    subst e
    exact ⟨_, st, fun v z => by
      have z' : Data.fields _ = Data.cell v := z
      cases z'⟩
  keep := fun i h h' st k => k it (by simp) _ st
  item := by
    intro X hP hw hK hc i pins s σ H E I hf st hg
    subst hP hw hK
    obtain ⟨f0, f1, f2, f3, f4, f5⟩ := hf it (by simp)
    have W := Walks.range (prog := X.prog) (w := X.w) (I.ok.hd (hc rfl)) it lo 1 n
    refine W.item i s _ _ hg st fun v h' tk hv st' kk => ?_
    obtain ⟨t, rfl⟩ := hv
    have I1 : Inv X pins σ H { s with heap := h', toks := tk } := I.turned (fun b o hb e => kk b o (by simpa using hb) e) f0 f1 f3 f4 f5
    refine ⟨_, rfl, go_of (s := { s with heap := h', toks := tk }) (n := "range_iterator") st' rfl rfl (by decide) ⟨.int (lo + i), H, I1, ⟨t, ?_⟩, ⟨rfl, rfl⟩, st', fun b hb => (hf b hb).1⟩⟩
    rw [Int.mul_one]
  done := by
    intro X hP hw hK hc i pins s σ H E I hf st hg
    subst hP hw hK
    obtain ⟨f0, f1, f2, f3, f4, f5⟩ := hf it (by simp)
    exact wpAny_pyNext_range_end (I.ok.hd (hc rfl)) st (by have : n ≤ i := hg; omega) fun h' eb => ⟨rfl, I.turned (t' := s.toks) (fun b o hb e => eb b o hb e) f0 f1 f3 f4 f5⟩
  self := fun _ _ _ _ _ st h => wpAny_pyIter_rangeiter st h
end L2
namespace L2
open PySem PySem.Spec PyProof.Rows
section
variable {X : Cx} {tg : Expr}
def iList (K : PySem.W.Frag) (tl : TE) : TI := fun σ H R => tl σ H fun x H1 => ∃ a, x = .ref a ∧ (∃ xs, SqL K H1 a xs) ∧ R (Itl K a) H1
def iTup (K : PySem.W.Frag) (tl : TE) : TI := fun σ H R => tl σ H fun x H1 => ∃ a, x = .ref a ∧ (∃ xs, SqT K H1 a xs) ∧ R (Itt K a) H1
theorem pi_list {l : Expr} {tl : TE} (hl : PE X l tl) : PI X tg l (iList X.K tl) := by
  intro pins s σ H R I h
  refine thn (hl pins s σ H _ I h) fun v s1 ⟨x, H1, I1, r1, q1⟩ => ?_
  obtain ⟨a, e, ⟨xs, hq⟩, q⟩ := q1
  subst e
  cases r1
  obtain ⟨its, rv, p, hz⟩ := I1.list hq
  refine wpAny_pyIter_list p.isList ?_
  refine ⟨s1.heap.objs.size, [s1.heap.objs.size], _, _, H1, rfl, I1.kept (t' := s1.toks) fun b o e => Heap.get?_push_of_some _ e, turn_list a _, ⟨_, Heap.get?_push_size _ rfl, rfl, rfl⟩, fun b hb => ?_, q⟩
  have e : b = s1.heap.objs.size := by simpa using hb
  subst e
  exact I1.fpOk (Nat.le_refl _) (I1.hok.fresh (Nat.le_refl _))
theorem pi_tup {l : Expr} {tl : TE} (hl : PE X l tl) : PI X tg l (iTup X.K tl) := by
  intro pins s σ H R I h
  refine thn (hl pins s σ H _ I h) fun v s1 ⟨x, H1, I1, r1, q1⟩ => ?_
  obtain ⟨a, e, ⟨xs, hq⟩, q⟩ := q1
  subst e
  cases r1
  obtain ⟨its, rv, p, hz⟩ := I1.tuple hq
  refine wpAny_pyIter_tuple (show s1.heap.IsTuple a its.toArray from p) ?_
  refine ⟨s1.heap.objs.size, [s1.heap.objs.size], _, _, H1, rfl, I1.kept (t' := s1.toks) fun b o e => Heap.get?_push_of_some _ e, turn_tuple a _, ⟨_, Heap.get?_push_size _ rfl, rfl, rfl⟩, fun b hb => ?_, q⟩
  have e : b = s1.heap.objs.size := by simpa using hb
  subst e
  exact I1.fpOk (Nat.le_refl _) (I1.hok.fresh (Nat.le_refl _))
theorem range_it (hc : X.calm = true) {pins : List (Addr × Obj)} {σ : St} {H : Hp} {s : Shared} {R : It → Hp → Prop} {E : Value → Shared → Prop} {lo hi : Int} {t u v : Tok} {tk : Nat} (I : Inv X pins σ H s) (h1 : -(2 ^ 62) ≤ lo) (h2 : lo < 2 ^ 62) (h3 : -(2 ^ 62) ≤ hi) (h4 : hi < 2 ^ 62)
    (q : R (Itr lo (hi - lo).toNat) H) : wpAny (model X.prog X.w) X.A (pyIter (.ref s.heap.objs.size)) (PIE X pins σ tg R) E { s with heap := s.heap.push { cls := .type "range", data := .fields #[.int lo t, .int hi u, .int 1 v] }, toks := tk } := by
  refine wpAny_pyIter_range (IsRange.new ..) (small_one h1 h2 h3 h4) ?_
  have I1 : Inv X pins σ H { s with heap := s.heap.push { cls := .type "range", data := .fields #[.int lo t, .int hi u, .int 1 v] }, toks := tk } := I.kept fun b o e => Heap.get?_push_of_some _ e
  refine ⟨(s.heap.push { cls := .type "range", data := .fields #[.int lo t, .int hi u, .int 1 v] }).objs.size, [(s.heap.push { cls := .type "range", data := .fields #[.int lo t, .int hi u, .int 1 v] }).objs.size], _, _, H, rfl,
    I1.kept (t' := tk) fun b o e => Heap.get?_push_of_some _ e, (turn_range _ lo (hi - lo).toNat).calm hc, ?_, fun b hb => ?_, q⟩
  · have e1 : lo + ((0 : Nat) : Int) * 1 = lo := by simp
    have e2 : (((hi - lo).toNat : Nat) : Int) - ((0 : Nat) : Int) = Builtin.Range.rangeSize lo hi 1 := by rw [rangeSize_one]; split <;> omega
    show IsRangeIter _ _ (lo + ((0 : Nat) : Int) * 1) ((((hi - lo).toNat : Nat) : Int) - ((0 : Nat) : Int)) 1
    rw [e1, e2]
    exact Heap.get?_push_size _ rfl
  · have e : b = (s.heap.push { cls := .type "range", data := .fields #[.int lo t, .int hi u, .int 1 v] }).objs.size := by simpa using hb
    subst e
    exact I1.fpOk (Nat.le_refl _) (I1.hok.fresh (Nat.le_refl _))
def iRng1 (ta : TA) : TI := fun σ H R => ta σ H fun vs H1 => ∃ j : Int, vs = [.int j] ∧ -(2 ^ 62) ≤ j ∧ j < 2 ^ 62 ∧ R (Itr 0 j.toNat) H1
def iRng2 (ta : TA) : TI := fun σ H R => ta σ H fun vs H1 => ∃ i j : Int, vs = [.int i, .int j] ∧ (-(2 ^ 62) ≤ i ∧ i < 2 ^ 62 ∧ -(2 ^ 62) ≤ j ∧ j < 2 ^ 62) ∧ R (Itr i (j - i).toNat) H1
theorem pi_range1 {a : Expr} {ta : TA} {p pos : Pos} (hc : X.calm = true) (hg : Gl X "range") (hm : X.mg "range" = none) (ha : PA X [a] ta) (hs : starEach [a] X.env = [(false, eval a X.env)] := by rfl) : PI X tg (.Call (.Name "range" p) [a] [] pos) (iRng1 ta) := by
  intro pins s σ H R I h
  refine Call_ (ld_blt I hg hm boot_range (PyProof.Rows.callWith_type1 (thn (ha pos pins s σ H _ I h) fun us s1 ⟨vs, H1, I1, r1, q1⟩ => ?_) hs rfl))
  obtain ⟨j, e, q1, q2, q⟩ := q1
  subst e
  cases r1 with
  | cons r rr =>
    cases rr
    obtain ⟨t, rfl⟩ := r
    exact call_range_1 (range_it hc I1 (by omega) (by omega) q1 q2 (by simpa using q))
theorem pi_range2 {a b : Expr} {ta : TA} {p pos : Pos} (hc : X.calm = true) (hg : Gl X "range") (hm : X.mg "range" = none) (ha : PA X [a, b] ta) (hs : starEach [a, b] X.env = [(false, eval a X.env), (false, eval b X.env)] := by rfl) (hs2 : starEach [b] X.env = [(false, eval b X.env)] := by rfl) :
    PI X tg (.Call (.Name "range" p) [a, b] [] pos) (iRng2 ta) := by
  intro pins s σ H R I h
  refine Call_ (ld_blt I hg hm boot_range (PyProof.Rows.callWith_type1 (thn (ha pos pins s σ H _ I h) fun us s1 ⟨vs, H1, I1, r1, q1⟩ => ?_) (by rw [hs, hs2]) (by rw [hs2]; rfl)))
  obtain ⟨i, j, e, ⟨q1, q2, q3, q4⟩, q⟩ := q1
  subst e
  cases r1 with
  | cons r rr =>
    cases rr with
    | cons r' rr =>
      cases rr
      obtain ⟨t, rfl⟩ := r
      obtain ⟨t', rfl⟩ := r'
      exact call_range_2 (range_it hc I1 q1 q2 q3 q4 q)
def tFor (wi : TI) (g : TG) (tb : TS) : TS := fun D σ H => wi σ H fun J H1 => ∃ W : Nat → Nat → St → Hp → Prop, (∃ m, W 0 m σ H1) ∧ ∀ i m σ H, W i m σ H →
  (J.stop i H ∧ D.nx σ H) ∨ (J.go i H ∧ ∃ N : St → Hp → Prop, (∀ σ' H', N σ' H' → ∃ m', m' < m ∧ W (i + 1) m' σ' H') ∧ ∀ x H', J.yld i H x H' → g x σ H' fun σ2 H2 => tb { D with nx := N, ct := N, bk := D.nx } σ2 H2)
def pinsAt (fp : List Addr) (h : Heap) : List (Addr × Obj) := fp.filterMap fun b => (h.get? b).map fun o => (b, o)
theorem mem_pinsAt {fp : List Addr} {h : Heap} {b : Addr} {o : Obj} (hb : b ∈ fp) (e : h.get? b = some o) : (b, o) ∈ pinsAt fp h := List.mem_filterMap.mpr ⟨b, hb, by rw [e]; rfl⟩
theorem of_pinsAt {fp : List Addr} {h : Heap} {p : Addr × Obj} (hp : p ∈ pinsAt fp h) : p.1 ∈ fp ∧ h.get? p.1 = some p.2 := by
  obtain ⟨b, hb, e⟩ := List.mem_filterMap.mp hp
  cases q : h.get? b with
  | none => rw [q] at e; cases e
  | some o =>
    rw [q] at e
    have e' : (b, o) = p := Option.some.inj e
    subst e'
    exact ⟨hb, q⟩
theorem Inv.pinned {pins : List (Addr × Obj)} {σ : St} {H : Hp} {s : Shared} {fp : List Addr} (I : Inv X pins σ H s) (hf : ∀ b ∈ fp, FpOk X pins H b) (ho : ∀ b ∈ fp, ∃ o, s.heap.get? b = some o ∧ ∀ v, o.data ≠ .cell v) : Inv X (pins ++ pinsAt fp s.heap) σ H s :=
  I.pins_of fun p hp => (List.mem_append.mp hp).elim (fun z => I.pin p (List.mem_append_right _ z)) fun z => by
    obtain ⟨hb, e⟩ := of_pinsAt z
    obtain ⟨f0, f1, f2, _⟩ := hf p.1 hb
    obtain ⟨o, e', d⟩ := ho p.1 hb
    rw [e] at e'; cases e'
    exact ⟨e, f0, f1, f2, d⟩
theorem Inv.unpinned {pins pl : List (Addr × Obj)} {σ : St} {H : Hp} {s : Shared} (I : Inv X (pins ++ pl) σ H s) : Inv X pins σ H s := I.pins_of fun p hp => I.pin p (List.mem_append_right _ (List.mem_append_left _ hp))
theorem ps_for {iter : Expr} {body : List Stmt} {wi : TI} {g : TG} {tb : TS} {pos : Pos} (hp : PassesOwn (model X.prog X.w) X.A X.env X.xe) (hc : X.calm = true) (hi : PI X tg iter wi) (hg : PG X tg g) (hb : PSs X body tb)
    (hs : ∀ x, foldedSetIterable iter X.env x = pure x := by intro _; rfl) : PS X (.For tg iter body [] pos) (tFor wi g tb) := by
  intro pins s σ H D I h
  refine wpAny_For (thn (hi pins s σ H _ I h) fun v s1 h1 => thn h1 fun itv s2 h2 => ?_) hs
  obtain ⟨it, fp, tn, J, H2, e, I2, T, st2, f2, W, ⟨m0, w0⟩, turn⟩ := h2
  subst e
  have stat : ∀ {H' : Hp}, (∀ b ∈ fp, H' b = none) → ∀ b ∈ fp, FpOk X pins H' b := fun hn b hb => ⟨hn b hb, (f2 b hb).2⟩
  refine codeAny_forLoop_any (fun n s' => ∃ i σ' H', Inv X pins σ' H' s' ∧ tn i s'.heap ∧ (∀ b ∈ fp, H' b = none) ∧ W i n σ' H') ?_ m0 ⟨0, σ, H2, I2, st2, fun b hb => (f2 b hb).1, w0⟩
  rintro n s3 ⟨i, σ3, H3, I3, st3, fr3, w3⟩
  rcases turn i n σ3 H3 w3 with ⟨stop, qn⟩ | ⟨go, N, hN, step⟩
  · refine wpAny_passesOwn hp (thn (T.done X rfl rfl rfl (fun z => z) i pins s3 σ3 H3 X.xe I3 (stat fr3) st3 stop) fun r s4 ⟨hr, I4⟩ => ?_)
    subst hr
    exact wpAny_execs_nil ⟨σ3, H3, I4, qn⟩
  · refine wpAny_passesOwn hp (thn (T.item X rfl rfl rfl (fun z => z) i pins s3 σ3 H3 X.xe I3 (stat fr3) st3 go) fun r s4 ⟨u, hr, h4⟩ => ?_)
    subst hr
    refine wpAny_passesOwn hp (thn h4 fun _ s5 ⟨x, H5, I5, r5, y5, st5, fr5⟩ => ?_)
    have I5' := I5.pinned (stat fr5) (T.obj _ _ st5)
    refine wpAny_passesOwn hp (thn (hg _ s5 σ3 H5 x u _ I5' r5 (step x H5 y5)) fun _ s6 ⟨σ6, H6, I6, q6⟩ => ?_)
    refine wpAny_passesOwn hp (thn (hb _ s6 σ6 H6 _ I6 q6) fun f s7 q7 => ?_)
    have again : ∀ {σ7 : St} {H7 : Hp}, Inv X (pins ++ pinsAt fp s5.heap) σ7 H7 s7 → N σ7 H7 → ∃ m, m < n ∧ ∃ i σ' H', Inv X pins σ' H' s7 ∧ tn i s7.heap ∧ (∀ b ∈ fp, H' b = none) ∧ W i m σ' H' := fun {σ7 H7} I7 n7 => by
      obtain ⟨m', hm, w7⟩ := hN σ7 H7 n7
      refine ⟨m', hm, i + 1, σ7, H7, I7.unpinned, T.keep _ _ _ st5 fun b hb o e => (I7.pin (b, o) (List.mem_append_right _ (List.mem_append_right _ (mem_pinsAt hb e)))).1, fun b hb => ?_, w7⟩
      obtain ⟨o, e, d⟩ := T.obj _ _ st5 b hb
      exact (I7.pin (b, o) (List.mem_append_right _ (List.mem_append_right _ (mem_pinsAt hb e)))).2.1
    cases f with
    | next => obtain ⟨σ7, H7, I7, n7⟩ := q7; exact again I7 n7
    | cont => obtain ⟨σ7, H7, I7, n7⟩ := q7; exact again I7 n7
    | brk => obtain ⟨σ7, H7, I7, q7⟩ := q7; exact ⟨σ7, H7, I7.unpinned, q7⟩
    | ret v => obtain ⟨x7, σ7, H7, I7, r7, q7⟩ := q7; exact ⟨x7, σ7, H7, I7.unpinned, r7, q7⟩
end
end L2
namespace L2
open PySem PySem.Spec PyProof.Rows
abbrev R2 := V → V → Hp → VK → Prop
def OpR (X : Cx) (f : Value → Value → Sem Value) (r : R2) : Prop :=
  ∀ (pins : List (Addr × Obj)) (s : Shared) (σ : St) (H : Hp) (x y : V) (v u : Value) (Q : VK), Inv X pins σ H s → RelV x v → RelV y u → r x y H Q →
    wpAny (model X.prog X.w) X.A (f v u) (EP X pins σ Q) X.xe s
def UnR (X : Cx) (f : Value → Sem Value) (r : V → Hp → VK → Prop) : Prop :=
  ∀ (pins : List (Addr × Obj)) (s : Shared) (σ : St) (H : Hp) (x : V) (v : Value) (Q : VK), Inv X pins σ H s → RelV x v → r x H Q →
    wpAny (model X.prog X.w) X.A (f v) (EP X pins σ Q) X.xe s
def CallR (X : Cx) (f : Value) (r : List V → Hp → VK → Prop) : Prop :=
  ∀ (pins : List (Addr × Obj)) (s : Shared) (σ : St) (H : Hp) (xs : List V) (us : List Value) (Q : VK), Inv X pins σ H s → Vals xs us → r xs H Q →
    wpAny (model X.prog X.w) X.A (call f us) (EP X pins σ Q) X.xe s
def tOp (r : R2) (ta tb : TE) : TE := fun σ H Q => ta σ H fun x H1 => tb σ H1 fun y H2 => r x y H2 Q
def tUn (r : V → Hp → VK → Prop) (ta : TE) : TE := fun σ H Q => ta σ H fun x H1 => r x H1 Q
def rI (C : Int → Int → Prop) (g : Int → Int → V) : R2 := fun x y H Q => ∃ i j, x = .int i ∧ y = .int j ∧ C i j ∧ Q (g i j) H
def rI0 (g : Int → Int → V) : R2 := fun x y H Q => ∃ i j, x = .int i ∧ y = .int j ∧ Q (g i j) H
def rU (g : Int → V) : V → Hp → VK → Prop := fun x H Q => ∃ i, x = .int i ∧ Q (g i) H
section
variable {X : Cx} {a b c : Expr} {ta tb tc : TE} {pos : Pos}
theorem binT (ha : PE X a ta) (hb : PE X b tb) {pins : List (Addr × Obj)} {s : Shared} {σ : St} {H : Hp} {R : V → V → Hp → Prop} (I : Inv X pins σ H s)
    (h : ta σ H fun x H1 => tb σ H1 fun y H2 => R x y H2) {Q : Value → Shared → Prop} {f : Value → Value → Sem Value}
    (hf : ∀ v u s2 x y H2, Inv X pins σ H2 s2 → RelV x v → RelV y u → R x y H2 → wpAny (model X.prog X.w) X.A (f v u) Q X.xe s2) :
    wpAny (model X.prog X.w) X.A (eval a X.env) (fun v s₁ => wpAny (model X.prog X.w) X.A (eval b X.env) (fun u s₂ => wpAny (model X.prog X.w) X.A (f v u) Q X.xe s₂) X.xe s₁) X.xe s := by
  refine thn (ha pins s σ H _ I h) fun v s1 ⟨x, H1, I1, r1, q1⟩ => ?_
  refine thn (hb pins s1 σ H1 _ I1 q1) fun u s2 ⟨y, H2, I2, r2, q2⟩ => ?_
  exact hf v u s2 x y H2 I2 r1 r2 q2
theorem pe_op {op : Operator} {r : R2} (ho : OpR X (binaryOp op) r) (ha : PE X a ta) (hb : PE X b tb) : PE X (.BinOp a op b pos) (tOp r ta tb) := by
  intro pins s σ H Q I h
  exact wpAny_BinOp (binT ha hb I h fun v u s2 x y H2 I2 rx ry q => ho pins s2 σ H2 x y v u Q I2 rx ry q)
theorem pe_un {op : UnaryOp} {r : V → Hp → VK → Prop} (ho : UnR X (unaryOp op) r) (ha : PE X a ta) : PE X (.UnaryOp op a pos) (tUn r ta) := by
  intro pins s σ H Q I h
  exact UnaryOp_ (thn (ha pins s σ H _ I h) fun v s1 ⟨x, H1, I1, r1, q1⟩ => ho pins s1 σ H1 x v Q I1 r1 q1)
theorem opI {f : Value → Value → Sem Value} {C : Int → Int → Prop} {g : Int → Int → Int}
    (rule : ∀ (i j : Int) (t u : Tok) (s : Shared) (Q : Value → Shared → Prop) (E : Value → Shared → Prop), C i j → Q (.int (g i j) s.toks) { s with toks := s.toks + 1 } → wpAny (model X.prog X.w) X.A (f (.int i t) (.int j u)) Q E s) :
    OpR X f (rI C fun i j => .int (g i j)) := by
  intro pins s σ H x y v u Q I rx ry h
  obtain ⟨i, j, rfl, rfl, hc, q⟩ := h
  obtain ⟨t, rfl⟩ := rx
  obtain ⟨t', rfl⟩ := ry
  exact rule i j t t' s _ _ hc ⟨.int (g i j), H, I.tok _, ⟨_, rfl⟩, q⟩
theorem opI0 {f : Value → Value → Sem Value} {g : Int → Int → Int}
    (rule : ∀ (i j : Int) (t u : Tok) (s : Shared) (Q : Value → Shared → Prop) (E : Value → Shared → Prop), Q (.int (g i j) s.toks) { s with toks := s.toks + 1 } → wpAny (model X.prog X.w) X.A (f (.int i t) (.int j u)) Q E s) :
    OpR X f (rI0 fun i j => .int (g i j)) := by
  intro pins s σ H x y v u Q I rx ry h
  obtain ⟨i, j, rfl, rfl, q⟩ := h
  obtain ⟨t, rfl⟩ := rx
  obtain ⟨t', rfl⟩ := ry
  exact rule i j t t' s _ _ ⟨.int (g i j), H, I.tok _, ⟨_, rfl⟩, q⟩
theorem opB0 {f : Value → Value → Sem Value} {g : Int → Int → Bool}
    (rule : ∀ (i j : Int) (t u : Tok) (s : Shared) (Q : Value → Shared → Prop) (E : Value → Shared → Prop), Q (.bool (g i j)) s → wpAny (model X.prog X.w) X.A (f (.int i t) (.int j u)) Q E s) :
    OpR X f (rI0 fun i j => .bl (g i j)) := by
  intro pins s σ H x y v u Q I rx ry h
  obtain ⟨i, j, rfl, rfl, q⟩ := h
  obtain ⟨t, rfl⟩ := rx
  obtain ⟨t', rfl⟩ := ry
  exact rule i j t t' s _ _ ⟨.bl (g i j), H, I, rfl, q⟩
def CPow (i j : Int) : Prop := 0 ≤ j ∧ j ≤ 1000000 ∧ i.natAbs < 2 ^ 64
def CMul (i j : Int) : Prop := (-(2 ^ 64) < i ∧ i < 2 ^ 64) ∨ (-(2 ^ 64) < j ∧ j < 2 ^ 64)
theorem CMul.ok {i j : Int} (h : CMul i j) : IntMulOk i j := by
  rcases h with ⟨h1, h2⟩ | ⟨h1, h2⟩
  · exact .of_left (intBits_le_64 h1 h2)
  · exact .of_right (intBits_le_64 h1 h2)
theorem op_add : OpR X (binaryOp .Add) (rI0 fun i j => .int (i + j)) := opI0 fun _ _ _ _ _ _ _ q => add_int q
theorem op_sub : OpR X (binaryOp .Sub) (rI0 fun i j => .int (i - j)) := opI0 fun _ _ _ _ _ _ _ q => sub_int q
theorem op_modN : OpR X (binaryOp .Mod) (rI (fun _ j => j ≠ 0) fun i j => .int (i.fmod j)) := opI fun _ _ _ _ _ _ _ hc q => mod_int' hc q
theorem op_pow : OpR X (binaryOp .Pow) (rI CPow fun i j => .int (i ^ j.toNat)) := opI fun _ _ _ _ _ _ _ hc q => pow_int_small hc.1 hc.2.1 hc.2.2 q
theorem unI {f : Value → Sem Value} {g : Int → Int}
    (rule : ∀ (i : Int) (t : Tok) (s : Shared) (Q : Value → Shared → Prop) (E : Value → Shared → Prop), Q (.int (g i) s.toks) { s with toks := s.toks + 1 } → wpAny (model X.prog X.w) X.A (f (.int i t)) Q E s) :
    UnR X f (rU fun i => .int (g i)) := by
  intro pins s σ H x v Q I rx h
  obtain ⟨i, rfl, q⟩ := h
  obtain ⟨t, rfl⟩ := rx
  exact rule i t s _ _ ⟨.int (g i), H, I.tok _, ⟨_, rfl⟩, q⟩
theorem un_neg : UnR X (unaryOp .USub) (rU fun i => .int (-i)) := unI fun _ _ _ _ _ q => neg_int q
end
section
variable {X : Cx} {a b c : Expr} {ta tb tc : TE} {pos : Pos}
theorem op_lt : OpR X (compareOp .Lt) (rI0 fun i j => .bl (decide (i < j))) := opB0 fun _ _ _ _ _ _ _ q => lt_int q
theorem op_le : OpR X (compareOp .LtE) (rI0 fun i j => .bl (decide (i ≤ j))) := opB0 fun _ _ _ _ _ _ _ q => le_int q
theorem op_gt : OpR X (compareOp .Gt) (rI0 fun i j => .bl (decide (j < i))) := opB0 fun _ _ _ _ _ _ _ q => gt_int q
theorem op_ge : OpR X (compareOp .GtE) (rI0 fun i j => .bl (decide (j ≤ i))) := opB0 fun _ _ _ _ _ _ _ q => ge_int q
theorem OpR.or {f : Value → Value → Sem Value} {r r' : R2} (h : OpR X f r) (h' : OpR X f r') : OpR X f (fun x y H Q => r x y H Q ∨ r' x y H Q) := by
  intro pins s σ H x y v u Q I rx ry q
  rcases q with q | q
  · exact h pins s σ H x y v u Q I rx ry q
  · exact h' pins s σ H x y v u Q I rx ry q
theorem nomark (b : Expr) {op : CmpOp} (h : op ≠ .In := by decide) (h2 : op ≠ .NotIn := by decide) : behindInMarks op b = false := by
  have e1 : (op == CmpOp.In) = false := by cases op <;> first | rfl | exact absurd rfl h
  have e2 : (op == CmpOp.NotIn) = false := by cases op <;> first | rfl | exact absurd rfl h2
  cases b <;> simp [behindInMarks, e1, e2]
theorem pe_cmpR {op : CmpOp} {r : R2} (ho : OpR X (compareOp op) r) (ha : PE X a ta) (hb : PE X b tb) (hm : behindInMarks op b = false) : PE X (.Compare a [op] [b] pos) (tOp r ta tb) := by
  intro pins s σ H Q I h
  exact wpAny_Compare1 (binT ha hb I h fun v u s2 x y H2 I2 rx ry q => ho pins s2 σ H2 x y v u Q I2 rx ry q) hm
def tTest (t : TE) : TT := fun σ H Q => t σ H fun x H' => ∃ k, x = .bl k ∧ Q k H'
theorem pt_cmpR {op : CmpOp} {r : R2} (ho : OpR X (compareOp op) r) (ha : PE X a ta) (hb : PE X b tb) (hm : behindInMarks op b = false) : PT X (.Compare a [op] [b] pos) (tTest (tOp r ta tb)) := by
  intro pins s σ H Q I h
  refine wpAny_isTrue_Compare1 (thn (ha pins s σ H _ I h) fun v s1 ⟨x, H1, I1, r1, q1⟩ => thn (hb pins s1 σ H1 _ I1 q1) fun u s2 ⟨y, H2, I2, r2, q2⟩ =>
    thn (ho pins s2 σ H2 x y v u _ I2 r1 r2 q2) fun c s3 ⟨z, H3, I3, r3, k, e, q3⟩ => ?_) hm
  subst e
  cases r3
  exact wpAny_truthy_bool ⟨H3, I3, q3⟩
theorem line63 : (sizeLine : Nat) < 2 ^ 63 := by rw [sizeLine_eq]; decide
theorem vals1 {x : V} {us : List Value} (r : Vals [x] us) : ∃ u, us = [u] ∧ RelV x u := by
  cases r with
  | cons r1 r2 => cases r2; exact ⟨_, rfl, r1⟩
theorem vals2 {x y : V} {us : List Value} (r : Vals [x, y] us) : ∃ u w', us = [u, w'] ∧ RelV x u ∧ RelV y w' := by
  cases r with
  | cons r1 r2 =>
    cases r2 with
    | cons r3 r4 => cases r4; exact ⟨_, _, rfl, r1, r3⟩
theorem call_abs : CallR X (.builtin "abs") (fun xs H Q => ∃ i, xs = [.int i] ∧ Q (.int (if i < 0 then -i else i)) H) := by
  intro pins s σ H xs us Q I r h
  obtain ⟨i, rfl, q⟩ := h
  obtain ⟨u, rfl, t, rfl⟩ := vals1 r
  exact call_abs_int fun u tk => ⟨.int (if i < 0 then -i else i), H, I.tok _, ⟨_, rfl⟩, q⟩
theorem call_max2 (hc : X.calm = true) : CallR X (.builtin "max") (fun xs H Q => ∃ i j, xs = [.int i, .int j] ∧ Q (.int (if j > i then j else i)) H) := by
  intro pins s σ H xs us Q I r h
  obtain ⟨i, j, rfl, q⟩ := h
  obtain ⟨u, w', rfl, ⟨t, rfl⟩, ⟨t', rfl⟩⟩ := vals2 r
  refine max_two_ints (I.ok.hd hc) fun h' tk k => ⟨_, H, I.kept k, ?_, q⟩
  by_cases hj : j > i
  · rw [if_pos hj, if_pos hj]; exact ⟨_, rfl⟩
  · rw [if_neg hj, if_neg hj]; exact ⟨_, rfl⟩
theorem call_min2 (hc : X.calm = true) : CallR X (.builtin "min") (fun xs H Q => ∃ i j, xs = [.int i, .int j] ∧ Q (.int (if j < i then j else i)) H) := by
  intro pins s σ H xs us Q I r h
  obtain ⟨i, j, rfl, q⟩ := h
  obtain ⟨u, w', rfl, ⟨t, rfl⟩, ⟨t', rfl⟩⟩ := vals2 r
  refine min_two_ints (I.ok.hd hc) fun h' tk k => ⟨_, H, I.kept k, ?_, q⟩
  by_cases hj : j < i
  · rw [if_pos hj, if_pos hj]; exact ⟨_, rfl⟩
  · rw [if_neg hj, if_neg hj]; exact ⟨_, rfl⟩
theorem call_int1 : CallR X (.type "int") (fun xs H Q => (∃ i, xs = [.int i] ∧ Q (.int i) H) ∨ ∃ k, xs = [.bl k] ∧ Q (.int (if k then 1 else 0)) H) := by
  intro pins s σ H xs us Q I r h
  rcases h with ⟨i, rfl, q⟩ | ⟨k, rfl, q⟩
  · obtain ⟨u, rfl, t, rfl⟩ := vals1 r
    exact call_int_int ⟨.int i, H, I, ⟨_, rfl⟩, q⟩
  · obtain ⟨u, rfl, r1⟩ := vals1 r
    cases r1
    exact call_int_bool ⟨.int (if k then 1 else 0), H, I.tok _, ⟨_, rfl⟩, q⟩
end
end L2
namespace L2
open PySem PySem.Spec PyProof.Rows
section
variable {prog : Program} {w : World} {A : Around} {E : Value → Shared → Prop} {s : Shared} {K : PySem.W.Frag} {x dx C f : Addr} {mA : Str → Option Value} {name : Str} {v : Value}
end
section
variable {P : Program} {w : World} {H H' : Hp} {h h' : Heap} {a C dx : Addr} {fs fs' : List (Str × V)}
end
structure Cls (K : PySem.W.Frag) (C : Addr) : Prop where
  pg : PySem.W.plainGet K C Str.empty = true
  hd : PySem.W.hasDictIn K C = true
  po : PySem.W.plainOver K C = true
  sa : PySem.W.findIn K (.ref C) "__setattr__" = some (some (.builtin "object.__setattr__"))
theorem Cls.get {K : PySem.W.Frag} {C : Addr} (c : Cls K C) (f : Str) : PySem.W.plainGet K C f = true := c.pg
section
variable {X : Cx} {pins : List (Addr × Obj)} {σ : St} {H : Hp} {s : Shared} {a C dx : Addr} {fs : List (Str × V)} {f : Str} {v : V} {A : Around} {E : Value → Shared → Prop}
theorem Inv.made (I : Inv X pins σ H s) : Inv X pins σ (upd (upd H s.heap.objs.size (.own (s.heap.objs.size + 1))) (s.heap.objs.size + 1) (.ins C s.heap.objs.size []))
    { s with heap := (s.heap.push PySem.W.emptyDict).push (PySem.W.instObj C s.heap.objs.size) } := by
  have e1 : (s.heap.push PySem.W.emptyDict).get? s.heap.objs.size = some PySem.W.emptyDict := Heap.get?_push_size s.heap rfl
  have e2 : ((s.heap.push PySem.W.emptyDict).push (PySem.W.instObj C s.heap.objs.size)).get? (s.heap.objs.size + 1) = some (PySem.W.instObj C s.heap.objs.size) := by
    have := Heap.get?_push_size (s.heap.push PySem.W.emptyDict) (o := PySem.W.instObj C s.heap.objs.size) rfl
    rwa [Heap.size_push] at this
  have e3 : (s.heap.push PySem.W.emptyDict).Ns s.heap.objs.size (fun _ => none) := ⟨PySem.W.emptyDict, #[], _, e1, rfl, (fun e he => absurd he (by simp)), fun _ => rfl⟩
  have I1 := I.laid (a := s.heap.objs.size) (o := .own (s.heap.objs.size + 1)) (h' := s.heap.push PySem.W.emptyDict) (t' := s.toks) (fun b u q => Heap.get?_push_of_some _ q) (Nat.le_refl _) ⟨_, e1⟩
  refine I1.laid (a := s.heap.objs.size + 1) (o := .ins C s.heap.objs.size []) (t' := s.toks) (fun b u q => Heap.get?_push_of_some _ q) (Nat.le_of_eq (Heap.size_push _ _)) ?_
  have ne : s.heap.objs.size ≠ s.heap.objs.size + 1 := Nat.ne_of_lt (Nat.lt_succ_self _)
  refine ⟨by rw [upd_ne ne, upd_same], Nat.zero_le _, ne, e2, fun _ => none, (Heap.Ns1.of_empty e3).at fun o q => Heap.get?_push_of_some _ q, fun _ => True.intro, fun y hy => absurd rfl hy⟩
end
section
variable {X : Cx} {o e value : Expr} {f : Str} {pos pos' tpos : Pos} {ta tv : TE}
end
section
variable {X : Cx} {pins : List (Addr × Obj)} {σ : St} {H : Hp} {s : Shared} {A : Around} {E : Value → Shared → Prop} {Q : Value → Shared → Prop} {c : Value} {b : Bool}
end
end L2
namespace L2
open PySem PySem.Spec PyProof.Rows
structure Room (k : Nat) (A : Around) : Prop where
  hd : A.handled = none
  dp : A.depth + 3 * k + 5 < recursionLimit
  un : A.units + 16 * k + 200 < cLine
theorem Room.mono {j k : Nat} {A : Around} (r : Room k A) (h : j ≤ k) : Room j A := ⟨r.hd, by have := r.dp; omega, by have := r.un; omega⟩
theorem Room.deeper {k : Nat} {A : Around} (r : Room (k + 1) A) (env : Env) : Room k (A.deeper env) :=
  ⟨r.hd, by have := r.dp; show A.depth + 1 + 3 * k + 5 < _; omega, by have := r.un; show A.units + 3 + 16 * k + 200 < _; omega⟩
theorem Room.depth {k : Nat} {A : Around} (r : Room k A) : A.depth < recursionLimit := by have := r.dp; omega
theorem Room.units {k : Nat} {A : Around} (r : Room k A) : A.units + 64 < cLine := by have := r.un; omega
def tNil : TA := fun _ H Q => Q [] H
def tCons (ta : TE) (tr : TA) : TA := fun σ H Q => ta σ H fun x H1 => tr σ H1 fun xs H2 => Q (x :: xs) H2
section
variable {X : Cx} {e : Expr} {es : List Expr} {te : TE} {t : TA} {pos : Pos}
theorem pa_nil : PA X [] tNil := fun _ _ _ _ H Q I h => Calls.spliced_nil ⟨[], H, I, .nil, h⟩
theorem pa_cons (ha : PE X e te) (hr : PA X es t) (hs : starEach (e :: es) X.env = (false, eval e X.env) :: starEach es X.env := by rfl) : PA X (e :: es) (tCons te t) := by
  intro pos pins s σ H Q I h
  rw [hs]
  show wpAny _ _ (spliced ((false, eval e X.env) :: backTo pos (starEach es X.env))) _ _ s
  refine Calls.spliced_cons (thn (ha pins s σ H _ I h) fun u s1 ⟨x, H1, I1, r1, q1⟩ => ?_)
  exact thn (hr pos pins s1 σ H1 _ I1 q1) fun us s2 ⟨xs, H2, I2, r2, q2⟩ => ⟨x :: xs, H2, I2, .cons r1 r2, q2⟩
def tTup (t : TA) : TE := fun σ H Q => t σ H fun xs H1 => xs.length ≤ sizeLine ∧ ∀ p, H1 p = none → Q (.ref p) (upd H1 p (.tup xs))
def tLst (t : TA) : TE := fun σ H Q => t σ H fun xs H1 => xs.length ≤ sizeLine ∧ ∀ p, H1 p = none → Q (.ref p) (upd H1 p (.lst xs))
theorem pe_tup {x1} (h : PA X es t) : PE X (.Tuple es x1 pos) (tTup t) := by
  intro pins s σ H Q I hq
  refine wpAny_Tuple_spliced (thn (h pos pins s σ H _ I hq) fun us s1 ⟨xs, H1, I1, r, z, q⟩ => ⟨by rw [← r.length]; exact z, ?_⟩)
  have hf : H1 s1.heap.objs.size = none := I1.hok.fresh (Nat.le_refl _)
  refine ⟨.ref s1.heap.objs.size, upd H1 s1.heap.objs.size (.tup xs), I1.laid (t' := s1.toks) (fun b u e => Heap.get?_push_of_some _ e) (Nat.le_refl _) ?_, rfl, q _ hf⟩
  exact ⟨z, us, r, ⟨_, Heap.get?_push_size _ rfl, rfl, _, rfl⟩⟩
theorem pe_lst (h : PA X es t) : PE X (.List es pos) (tLst t) := by
  intro pins s σ H Q I hq
  refine wpAny_List_spliced (thn (h pos pins s σ H _ I hq) fun us s1 ⟨xs, H1, I1, r, z, q⟩ => ⟨by rw [← r.length]; exact z, ?_⟩)
  have hf : H1 s1.heap.objs.size = none := I1.hok.fresh (Nat.le_refl _)
  refine ⟨.ref s1.heap.objs.size, upd H1 s1.heap.objs.size (.lst xs), I1.laid (t' := s1.toks) (fun b u e => Heap.get?_push_of_some _ e) (Nat.le_refl _) ?_, rfl, q _ hf⟩
  exact ⟨z, us, 0, r, Heap.get?_push_size _ rfl⟩
end
abbrev Sp := List V → Hp → VK → XK → Prop
abbrev CXT := List Env → Hp → Shared → XK → Value → Shared → Prop
structure Env0 (P : Program) (w : World) (K : PySem.W.Frag) (mg : Str → Option Value) (base : Heap) (A : Around) (outer : List Env) (s : Shared) (H : Hp) : Prop where
  frames : A.frames = some outer
  mod : Mod K mg base
  bs : ∀ b o, base.get? b = some o → s.heap.get? b = some o ∧ H b = none
  bsz : base.objs.size ≤ s.heap.objs.size
  funs : s.heap.FunFrames base outer
  frf : ∀ b ∈ frs outer, H b = none
  hok : HOk P w H s.heap
  bare : AllBare s.gens
def CE (outer : List Env) (P : Program) (w : World) (H : Hp) (s : Shared) (Q : VK) (u : Value) (s' : Shared) : Prop :=
  ∃ v H', s'.os = s.os ∧ AllBare s'.gens ∧ Un (frs outer) [] H H' s.heap s'.heap ∧ HOk P w H' s'.heap ∧ RelV v u ∧ Q v H'
def CR (CX : CXT) (outer : List Env) (P : Program) (w : World) (H : Hp) (s : Shared) (Q : VK) (E : XK) (r : Result) (s' : Shared) : Prop :=
  match r with
  | .ok (.ret u) => CE outer P w H s Q u s'
  | .ok _ => False
  | .error e => CX outer H s E e s'
structure FnOk (P : Program) (w : World) (K : PySem.W.Frag) (mg : Str → Option Value) (base : Heap) (CX : CXT) (k : Nat) (f : Addr) (fd : FuncData) (ps : List Str) (sp : Sp) : Prop where
  len : ∀ vs H Q E, sp vs H Q E → vs.length = ps.length
  run : ∀ (A : Around) (outer : List Env) (s : Shared) (H : Hp) (args : Args) (us : List Value) (vs : List V) (Q : VK) (E : XK), Room k A → Env0 P w K mg base A outer s H → BindsTo s fd args (ps.zip us) → Vals vs us → sp vs H Q E →
    codeAny (model P w) A (.call (.ref f) args) (CR CX outer P w H s Q E) s
theorem FnOk.mono {P : Program} {w : World} {K : PySem.W.Frag} {mg : Str → Option Value} {base : Heap} {CX : CXT} {j k : Nat} {f : Addr} {fd : FuncData} {ps : List Str} {sp : Sp} (F : FnOk P w K mg base CX j f fd ps sp) (h : j ≤ k) :
    FnOk P w K mg base CX k f fd ps sp := ⟨F.len, fun A outer s H args us vs Q E hr => F.run A outer s H args us vs Q E (hr.mono h)⟩
section
variable {X : Cx} {pins : List (Addr × Obj)} {σ : St} {H : Hp} {s s' : Shared}
theorem Inv.env0 (I : Inv X pins σ H s) : Env0 X.prog X.w X.K X.mg X.base X.A X.stack s H :=
  ⟨I.ok.frames, I.ok.mod, I.bs, Nat.le_trans I.ok.bsz I.sz, I.stack, I.stkFree, I.hok, I.bare⟩
theorem Inv.after {Q : VK} {u : Value} (I : Inv X pins σ H s) (h : CE X.stack X.prog X.w H s Q u s') : EP X pins σ Q u s' := by
  obtain ⟨v, H', os, bare, un, hok, r, q⟩ := h
  obtain ⟨hh, g, d, t, os'⟩ := s'
  obtain rfl : os' = s.os := os
  exact ⟨v, H', I.call (h' := hh) (g' := g) (d' := d) (t' := t) (ch := []) un hok bare (fun b z => absurd z (by simp)), r, q⟩
end
def tCall (sp : Sp) (dvs : List V) (E : XK) (t : TA) : TE := fun σ H Q => t σ H fun vs H1 => sp (vs ++ dvs) H1 Q E
def Binds (K : PySem.W.Frag) (fd : FuncData) (ps : List Str) (ds : List Value) : Prop :=
  ∀ (s : Shared) (us : List Value), K.In s.heap → (us ++ ds).length = ps.length → BindsTo s fd ⟨us, []⟩ (ps.zip (us ++ ds))
theorem Binds.all {K : PySem.W.Frag} {fd : FuncData} {ps : List Str} (h : ∀ us : List Value, us.length = ps.length → bindArgs fd ⟨us, []⟩ = pure (ps.zip us)) : Binds K fd ps [] := fun s us _ hl => by
  rw [List.append_nil] at hl ⊢
  exact .of_eq (h us hl)
def Passes (CX : CXT) (X : Cx) (E : XK) : Prop := ∀ (pins : List (Addr × Obj)) (σ : St) (H : Hp) (s : Shared) (e : Value) (s' : Shared), Inv X pins σ H s → CX X.stack H s E e s' → X.xe e s'
section
variable {X : Cx} {CX : CXT} {k : Nat} {f C : Addr} {fd : FuncData} {ps : List Str} {sp : Sp} {dvs : List V} {ds : List Value} {E : XK} {x m : Str} {p pos apos : Pos} {e o : Expr} {es : List Expr} {ta : TE} {t : TA}
theorem run_fn {pins : List (Addr × Obj)} {σ : St} {H : Hp} {s : Shared} {Q : VK} {us : List Value} {vs : List V} (F : FnOk X.prog X.w X.K X.mg X.base CX k f fd ps sp) (hr : Room k X.A) (hb : Binds X.K fd ps ds) (hd : Vals dvs ds) (hx : Passes CX X E)
    (I : Inv X pins σ H s) (r : Vals vs us) (h : sp (vs ++ dvs) H Q E) : wpAny (model X.prog X.w) X.A (call (.ref f) us) (EP X pins σ Q) X.xe s := by
  have r2 : Vals (vs ++ dvs) (us ++ ds) := r.append hd
  have hl : (us ++ ds).length = ps.length := by rw [← r2.length]; exact F.len _ _ _ _ h
  refine wpAny_call (codeAny_mono (F.run X.A X.stack s H ⟨us, []⟩ (us ++ ds) (vs ++ dvs) Q E hr I.env0 (hb s us I.kIn hl) r2 h) fun r s' hq => ?_)
  cases r with
  | error e => exact hx pins σ H s e s' I hq
  | ok fl =>
    cases fl with
    | ret u => exact I.after hq
    | next => exact False.elim hq
    | brk => exact False.elim hq
    | cont => exact False.elim hq
theorem pe_call (F : FnOk X.prog X.w X.K X.mg X.base CX k f fd ps sp) (hr : Room k X.A) (hg : Gl X x) (hm : X.mg x = some (.ref f)) (hk : PySem.W.keepIn X.K (.ref f) = true) (hb : Binds X.K fd ps ds) (hd : Vals dvs ds) (hx : Passes CX X E)
    (ha : PA X (e :: es) t) (hdb : (x == ("__debug__" : Str)) = false := by decide) (he : starEach (e :: es) X.env = (false, eval e X.env) :: starEach es X.env := by rfl) (hpl : (backTo pos (starEach es X.env)).any (·.1) = false := by rfl) :
    PE X (.Call (.Name x p) (e :: es) [] pos) (tCall sp dvs E t) := by
  intro pins s σ H Q I h
  refine wpAny_Call_Name_kw (ld_glob I hg hm ?_ hdb)
  refine PySem.W.callWith_K (h₀ := X.base) I.ok.mod.kin hk (thn (ha pos pins s σ H _ I h) fun us s1 ⟨vs, H1, I1, r, q⟩ => ⟨I1.kIn, ?_⟩) he hpl
  exact run_fn F hr hb hd hx I1 r q
end
section
variable {X : Cx} {CX : CXT} {k : Nat} {f C : Addr} {fd : FuncData} {ps ks : List Str} {sp : Sp} {E : XK} {x m : Str} {p pos apos kpos : Pos} {e o : Expr} {es : List Expr} {kws : List Keyword} {te ta : TE} {t tk : TA} {nm : Option Str}
variable {g : List Value → List Value → List Value} {gV : List V → List V → List V}
end
structure FnScope (N P : List Str) (sc : Scope) : Prop where
  kind : sc.kind = .function
  co : sc.isCoroutine = false
  gen : sc.isGenerator = false
  nd : N.Nodup
  pre : N.take P.length = P
  par : ∀ x ∈ P, sc.names.lookup x = some .local ∨ sc.names.lookup x = some .cell
  nofree : ∀ y ∈ sc.names, y.2 ≠ .free
theorem bindL_out {kindOf : Str → Option NameKind} {x : Str} : ∀ {binds : List (Str × Value)} {m : Str → Option Value}, (∀ v, (x, v) ∉ binds) → bindL kindOf binds m x = m x
  | [], _, _ => rfl
  | (n, v) :: r, m, h => by
    unfold bindL
    rw [bindL_out fun w hw => h w (List.mem_cons_of_mem _ hw)]
    split
    · have : x ≠ n := by rintro rfl; exact h v List.mem_cons_self
      simp [this]
    · rfl
theorem bindC_out {kindOf : Str → Option NameKind} {x : Str} : ∀ {binds : List (Str × Value)} {m : Str → Option Value}, (∀ v, (x, v) ∉ binds) → bindC kindOf binds m x = m x
  | [], _, _ => rfl
  | (n, v) :: r, m, h => by
    unfold bindC
    rw [bindC_out fun w hw => h w (List.mem_cons_of_mem _ hw)]
    split
    · rfl
    · have : x ≠ n := by rintro rfl; exact h v List.mem_cons_self
      simp [this]
theorem bindL_get {kindOf : Str → Option NameKind} {x : Str} {v : Value} : ∀ {P : List Str} {vs : List Value} {i : Nat} {m : Str → Option Value}, P.Nodup → P[i]? = some x → vs[i]? = some v → kindOf x = some .local →
    bindL kindOf (P.zip vs) m x = some v
  | [], _, _, _, _, h, _, _ => by simp at h
  | _ :: _, [], _, _, _, _, h, _ => by simp at h
  | p :: P, w :: vs, 0, m, nd, h1, h2, hk => by
    simp at h1 h2; subst h1; subst h2
    show bindL kindOf ((p, w) :: P.zip vs) m p = _
    unfold bindL
    rw [bindL_out fun v hv => (List.nodup_cons.mp nd).1 (List.of_mem_zip hv).1, if_pos hk]
    simp
  | p :: P, w :: vs, i + 1, m, nd, h1, h2, hk => by
    show bindL kindOf ((p, w) :: P.zip vs) m x = _
    unfold bindL
    exact bindL_get (i := i) (List.nodup_cons.mp nd).2 (by simpa using h1) (by simpa using h2) hk
theorem bindC_get {kindOf : Str → Option NameKind} {x : Str} {v : Value} : ∀ {P : List Str} {vs : List Value} {i : Nat} {m : Str → Option Value}, P.Nodup → P[i]? = some x → vs[i]? = some v → kindOf x ≠ some .local →
    bindC kindOf (P.zip vs) m x = some v
  | [], _, _, _, _, h, _, _ => by simp at h
  | _ :: _, [], _, _, _, _, h, _ => by simp at h
  | p :: P, w :: vs, 0, m, nd, h1, h2, hk => by
    simp at h1 h2; subst h1; subst h2
    show bindC kindOf ((p, w) :: P.zip vs) m p = _
    unfold bindC
    rw [bindC_out fun v hv => (List.nodup_cons.mp nd).1 (List.of_mem_zip hv).1, if_neg hk]
    simp
  | p :: P, w :: vs, i + 1, m, nd, h1, h2, hk => by
    show bindC kindOf ((p, w) :: P.zip vs) m x = _
    unfold bindC
    exact bindC_get (i := i) (List.nodup_cons.mp nd).2 (by simpa using h1) (by simpa using h2) hk
def start (N : List Str) (vs : List V) : St := vs.map some ++ List.replicate (N.length - vs.length) none
def cxOf (CX : CXT) (P : Program) (w : World) (K : PySem.W.Frag) (mg : Str → Option Value) (base : Heap) (N : List Str) (qual : Str) (scope : Scope) (f : Addr) (cd : Value) (A : Around) (outer : List Env) (s : Shared) (H : Hp) (E : XK) : Cx where
  prog := P
  w := w
  K := K
  mg := mg
  base := base
  A := A.deeper (envOfC qual scope s.heap.objs.size f cd)
  N := N
  s₀ := s
  H₀ := H
  env := envOfC qual scope s.heap.objs.size f cd
  outer := outer
  stack := envOfC qual scope s.heap.objs.size f cd :: outer
  ex := []
  calm := true
  fn := fun _ => true
  pn := []
  xe := fun e s' => wpAny (model P w) (A.deeper (envOfC qual scope s.heap.objs.size f cd)) (leaving (envOfC qual scope s.heap.objs.size f cd) e) (fun _ s'' => CX outer H s E e s'') (fun e' s'' => CX outer H s E e' s'') s'
theorem cell_has {sc : Scope} {n : Nat} {x : Str} (h : sc.names.lookup x = some .cell) : ∃ c, (cellsFrom n sc.names []).lookup x = some c := by
  have q := PySem.W.cellsFrom_some sc.names n [] (.inl h)
  exact Option.isSome_iff_exists.mp q
theorem inv_start {CX : CXT} {P : Program} {w : World} {K : PySem.W.Frag} {mg : Str → Option Value} {base : Heap} {N ps : List Str} {qual : Str} {scope : Scope} {f : Addr} {cd : Value} {A : Around} {outer : List Env} {s s1 : Shared} {H : Hp} {E : XK} {us : List Value} {vs : List V}
    (S : FnScope N ps scope) (hd : A.handled = none) (e0 : Env0 P w K mg base A outer s H) (hl : vs.length = ps.length) (r : Vals vs us)
    (x : InCallC s s.heap.objs.size (bindL (envOfC qual scope s.heap.objs.size f cd).kindOf (ps.zip us) fun _ => none) (cellsFrom (s.heap.objs.size + 1) scope.names []) (bindC (envOfC qual scope s.heap.objs.size f cd).kindOf (ps.zip us) fun _ => none) s1) :
    Inv (cxOf CX P w K mg base N qual scope f cd A outer s H E) [] (start N vs) H s1 := by
  have hpl : ps.length ≤ N.length := by have := congrArg List.length S.pre; rw [List.length_take] at this; omega
  obtain ⟨h1, tk, rfl, hk⟩ := x.done
  have noA : ∀ b : Addr, b ∉ (cxOf CX P w K mg base N qual scope f cd A outer s H E).ex := fun b z => absurd (show b ∈ ([] : List Addr) from z) (by simp)
  refine ⟨⟨e0.mod, S.kind, rfl, rfl, Nat.le_refl _, fun y z c h1 h2 => ?_, fun y hy => ?_, fun y c _ h => ?_, fun _ => hd, .inl hd, Around.frames_deeper e0.frames, .inr ⟨rfl, rfl⟩, fun b z => absurd z (noA b), e0.bs, e0.bsz, fun b _ _ => noA b, fun b z => absurd z (noA b), e0.funs, e0.frf⟩,
    rfl, e0.bare, Un.kept hk, ⟨_, x.toInCall.ns, fun i y v h1 h2 h3 => ?_⟩, fun y c h => ⟨_, x.cell y c h⟩, e0.hok.fresh (Nat.le_refl _), fun y c h => ?_, fun p hp => absurd (show p ∈ ([] : List (Addr × Obj)) from hp) (by simp), e0.hok.kept hk, ?_⟩
  · exact name_of_addr x.apart (PySem.mem_of_lookup h1) (PySem.mem_of_lookup h2)
  · have hy : scope.names.lookup y = some .cell ∨ scope.names.lookup y = some .free := hy
    rcases hy with hy | hy
    · exact cell_has hy
    · exact absurd rfl (S.nofree _ (PySem.mem_of_lookup hy))
  · exact Nat.le_of_lt (x.above y c (PySem.mem_of_lookup h))
  · have hi : i < vs.length := by
      unfold start at h2
      by_cases hi : i < vs.length
      · exact hi
      · rw [List.getElem?_append_right (by simpa using hi)] at h2
        rw [List.getElem?_replicate] at h2
        split at h2 <;> cases h2
    have ha : vs[i]? = some v := by
      unfold start at h2
      rw [List.getElem?_append_left (by simpa using hi), List.getElem?_map] at h2
      cases e : vs[i]? with
      | none => rw [e] at h2; cases h2
      | some a => rw [e] at h2; cases h2; rfl
    obtain ⟨u, hu, rv⟩ := r.get ha
    have hp : ps[i]? = some y := by
      rw [← S.pre, List.getElem?_take_of_lt (by omega)]; exact h1
    have ndP : ps.Nodup := by rw [← S.pre]; exact S.nd.sublist (List.take_sublist _ _)
    refine ⟨u, rv, ?_⟩
    rcases S.par y (List.mem_of_getElem? hp) with k | k
    · exact .inl ⟨k, bindL_get ndP hp hu k⟩
    · obtain ⟨c, e⟩ := cell_has (n := s.heap.objs.size + 1) k
      refine .inr ⟨.inl k, c, e, ?_⟩
      have q := x.cell y c e
      rw [bindC_get ndP hp hu (by show scope.names.lookup y ≠ _; rw [k]; decide)] at q
      exact q
  · exact e0.hok.fresh (Nat.le_of_lt (x.above y c (PySem.mem_of_lookup h)))
  · unfold start
    show _ = N.length
    rw [List.length_append, List.length_map, List.length_replicate]
    omega
theorem fn_of {CX : CXT} {P : Program} {w : World} {K : PySem.W.Frag} {mg : Str → Option Value} {base : Heap} {k : Nat} {f : Addr} {name qual : Str} {params : Arguments} {body : List Stmt} {scope : Scope} {dV kV doc pm cdv ct oc : Value} {an od : Option Addr}
    {osl : Array (Option Value)} {N ps : List Str} {sp : Sp} (lk : K.lookup f = some ⟨oc, od, .func (PySem.W.fnOf name qual params body scope dV kV doc pm an cdv ct), osl⟩) (hcd : PySem.W.codeIn K cdv qual = true) (S : FnScope N ps scope)
    (len : ∀ vs H Q E, sp vs H Q E → vs.length = ps.length)
    (hbody : ∀ (A : Around) (outer : List Env) (s : Shared) (H : Hp) (vs : List V) (Q : VK) (E : XK), Room k (A.deeper (envOfC qual scope s.heap.objs.size f cdv)) → sp vs H Q E →
      ∃ t, PSs (cxOf CX P w K mg base N qual scope f cdv A outer s H E) body t ∧ t { nx := fun _ H' => Q .non H', rt := Q } (start N vs) H) :
    FnOk P w K mg base CX (k + 1) f (PySem.W.fnOf name qual params body scope dV kV doc pm an cdv ct) ps sp := by
  refine ⟨len, fun A outer s H args us vs Q E hr e0 hb r hsp => ?_⟩
  have hl := len _ _ _ _ hsp
  have KX : K.In s.heap := e0.mod.kin.keeps fun b o e => (e0.bs b o e).1
  have lim : s.heap.NoLimit := e0.mod.nolimit.keeps fun b o e => (e0.bs b o e).1
  have hkind : ∀ y ∈ ps.zip us, scope.names.lookup y.1 = some .local ∨ (scope.names.lookup y.1 = some .cell ∧ ((cellsFrom (s.heap.objs.size + 1) scope.names []).lookup y.1).isSome = true) := fun ⟨n, v⟩ hy => by
    rcases S.par n (List.of_mem_zip hy).1 with q | q
    · exact .inl q
    · exact .inr ⟨q, PySem.W.cellsFrom_some _ _ _ (.inl q)⟩
  refine codeAny_call_function hr.depth (KX _ _ lk) rfl S.co S.gen rfl (PySem.W.codeRec_of KX hcd) (hb _ _ _ _ ?_)
  refine wpAny_newFunctionEnv_cells S.kind hkind fun env he s1 x => ?_
  subst he
  refine ⟨lim.keeps x.toInCall.keep, codeAny_func ?_⟩
  obtain ⟨t, ht, hq⟩ := hbody A outer s H vs Q E (hr.deeper _) hsp
  have I : Inv (cxOf CX P w K mg base N qual scope f cdv A outer s H E) [] (start N vs) H s1 := inv_start S hr.hd e0 hl r x
  refine wpAny_mono (ht [] s1 (start N vs) H _ I hq) (fun fl s' hs => ?_) fun e s' hs => hs
  have fin : ∀ {σ' : St} {H' : Hp} {v : V} {u : Value}, Inv (cxOf CX P w K mg base N qual scope f cdv A outer s H E) [] σ' H' s' → RelV v u → Q v H' → CE outer P w H s Q u s' :=
    fun {σ' H' v u} J rv q => ⟨v, H', J.os, J.bare, J.base, J.hok, rv, q⟩
  cases fl with
  | ret u =>
    obtain ⟨v, σ', H', J, rv, q⟩ := hs
    exact fin J rv q
  | next =>
    obtain ⟨σ', H', J, q⟩ := hs
    exact fin (v := V.non) (u := Value.none) J rfl q
  | brk =>
    obtain ⟨_, _, _, q⟩ := hs
    exact False.elim q
  | cont =>
    obtain ⟨_, _, _, q⟩ := hs
    exact False.elim q
end L2
namespace L2
open PySem PySem.Spec PyProof.Rows
section
variable {X : Cx} {x : Str} {p pos : Pos} {e : Expr} {es : List Expr} {t : TA} {id T : String} {r : List V → Hp → VK → Prop}
def tCB (r : List V → Hp → VK → Prop) (t : TA) : TE := fun σ H Q => t σ H fun vs H1 => r vs H1 Q
theorem pe_callB (hc : CallR X (.builtin id) r) (hg : Gl X x) (hm : X.mg x = none) (hv : bootBuiltins x = some (.builtin id)) (ha : PA X (e :: es) t) (hn : x ≠ "__name__" := by decide) (hdb : (x == ("__debug__" : Str)) = false := by decide)
    (he : starEach (e :: es) X.env = (false, eval e X.env) :: starEach es X.env := by rfl) (hpl : (backTo pos (starEach es X.env)).any (·.1) = false := by rfl) : PE X (.Call (.Name x p) (e :: es) [] pos) (tCB r t) := by
  intro pins s σ H Q I h
  refine wpAny_Call_Name_kw (ld_blt I hg hm hv ?_ hn hdb)
  exact PyProof.Rows.callWith_builtin1 (thn (ha pos pins s σ H _ I h) fun us s1 ⟨vs, H1, I1, r1, q1⟩ => hc pins s1 σ H1 vs us Q I1 r1 q1) he hpl
theorem pe_callTy (hc : CallR X (.type T) r) (hg : Gl X x) (hm : X.mg x = none) (hv : bootBuiltins x = some (.type T)) (ha : PA X (e :: es) t) (hn : x ≠ "__name__" := by decide) (hdb : (x == ("__debug__" : Str)) = false := by decide)
    (he : starEach (e :: es) X.env = (false, eval e X.env) :: starEach es X.env := by rfl) (hpl : (backTo pos (starEach es X.env)).any (·.1) = false := by rfl) : PE X (.Call (.Name x p) (e :: es) [] pos) (tCB r t) := by
  intro pins s σ H Q I h
  refine wpAny_Call_Name_kw (ld_blt I hg hm hv ?_ hn hdb)
  exact PyProof.Rows.callWith_type1 (thn (ha pos pins s σ H _ I h) fun us s1 ⟨vs, H1, I1, r1, q1⟩ => hc pins s1 σ H1 vs us Q I1 r1 q1) he hpl
end
end L2
namespace HT
open PySem PyProof.Rows
section
open PySem.SeqAt
open PySem.AutoSeq1 (wpAny_loadPart')
open PySem.MeetsSeq PySem.MeetsSeq2 PySem.MeetsSeq3
end
section
variable {prog : Program} {w : World} {A : Around} {E : Value → Shared → Prop} {s : Shared}
theorem cat_tup {t b : Addr} {vs ws : List Value} {Q : Value → Shared → Prop} (ht : IsTup s.heap t vs.toArray) (hb : IsTup s.heap b ws.toArray) (hv : vs ≠ [])
    (h1 : ws = [] → Q (.ref t) s) (h2 : ws ≠ [] → Q (.ref s.heap.objs.size) { s with heap := s.heap.push { cls := .type "tuple", data := .seq (vs ++ ws).toArray } })
    (hsz : vs.length + ws.length ≤ sizeLine) : wpAny (model prog w) A (binaryOp .Add (.ref t) (.ref b)) Q E s := by
  obtain ⟨⟨cls, dd, data, sl⟩, ho, hc, n, hd⟩ := id ht
  obtain ⟨⟨cls2, dd2, data2, sl2⟩, ho2, hc2, n2, hd2⟩ := id hb
  simp only at hc hd hc2 hd2
  subst hc hd hc2 hd2
  have e : vs.toArray ++ ws.toArray = (vs ++ ws).toArray := by simp
  by_cases hw : ws = []
  · exact concat_meets ⟨_, ho, rfl⟩ ⟨_, ho2, rfl⟩ noFill_tuple_add seq_tuple_add PySem.F.slot_tuple_add PySem.F.entry_tuple_add (PySem.F.args_tuple_add_2 _ _)
      (tuple_addW1 t b vs.toArray ws.toArray n n2 dd dd2 sl sl2 (by simpa using hv) (by simp [hw])) ⟨ho, ho2, h1 hw⟩
  · refine concat_meets ⟨_, ho, rfl⟩ ⟨_, ho2, rfl⟩ noFill_tuple_add seq_tuple_add PySem.F.slot_tuple_add PySem.F.entry_tuple_add (PySem.F.args_tuple_add_2 _ _)
      (tuple_addW2 t b vs.toArray ws.toArray n n2 dd dd2 sl sl2 (by simpa using hv) (by simpa using hw) (by rw [List.size_toArray, List.size_toArray]; exact hsz)) ⟨ho, ho2, ?_⟩
    rw [e]
    exact h2 hw
def sIx (n d : Nat) : Option Int → Nat
  | none => d
  | some v => if v < 0 then (v + (n : Int)).toNat else min v.toNat n
theorem sIx_le (n d : Nat) (hd : d ≤ n) (o : Option Int) : sIx n d o ≤ n := by
  cases o with
  | none => exact hd
  | some v =>
    show (if v < 0 then (v + (n : Int)).toNat else min v.toNat n) ≤ n
    by_cases hv : v < 0
    · rw [if_pos hv]; omega
    · rw [if_neg hv]; exact Nat.min_le_right _ _
theorem clip_eq (v : Int) (n d : Nat) : (if v < 0 then max (v + (n : Int)) 0 else min v (n : Int)) = ((sIx n d (some v) : Nat) : Int) := by
  show (if v < 0 then max (v + (n : Int)) 0 else min v (n : Int)) = (((if v < 0 then (v + (n : Int)).toNat else min v.toNat n) : Nat) : Int)
  by_cases hv : v < 0
  · simp only [if_pos hv]; omega
  · simp only [if_neg hv]; omega
theorem adjust_gen (lo hi : Option Int) (n : Nat) : Builtin.Slice.sliceAdjust lo hi 1 (n : Int) = (((sIx n 0 lo : Nat) : Int), ((sIx n n hi : Nat) : Int)) := by
  have h1 : ¬ ((1 : Int) < 0) := by omega
  unfold Builtin.Slice.sliceAdjust
  simp only [h1, if_false]
  refine Prod.ext ?_ ?_
  · cases lo with
    | none => rfl
    | some v => exact clip_eq v n 0
  · cases hi with
    | none => rfl
    | some v => exact clip_eq v n n
theorem places_gen (i j : Nat) : Builtin.Slice.slicePlaces (i : Int) (j : Int) 1 = j - i := by
  unfold Builtin.Slice.slicePlaces
  have h1 : (1 : Int) > 0 := by omega
  simp only [h1, if_true, Int.ediv_one]
  split <;> omega
theorem slicePart_ {v : Value} {o : Option Int} {Q : Option Int → Shared → Prop} (p : IsPart v o) (h : Q o s) : wpAny (model prog w) A (Builtin.Slice.slicePartIndex v) Q E s := by
  cases p with
  | none => exact slicePart_none h
  | int i t => exact slicePart_int h
theorem sliceApplied_gen {sl : Addr} {vl vu : Value} {lo hi : Option Int} {n : Nat} {Q : Int × Int × Nat → Shared → Prop} (hs : s.heap.IsSliceOf sl vl vu .none) (pl : IsPart vl lo) (pu : IsPart vu hi)
    (h : Q (((sIx n 0 lo : Nat) : Int), 1, sIx n n hi - sIx n 0 lo) s) : wpAny (model prog w) A (Builtin.Slice.sliceApplied (.ref sl) (pure (n : Int))) Q E s := by
  obtain ⟨os, hos, hcs, hds⟩ := id hs
  unfold Builtin.Slice.sliceApplied Builtin.Slice.sliceFields
  refine wpAny_bind (wpAny_bind (wpAny_field hos hds (x := vl) rfl (wpAny_bind (wpAny_field hos hds (x := vu) rfl (wpAny_bind (wpAny_field hos hds (x := .none) rfl (wpAny_pure ?_)))))))
  refine wpAny_bind (slicePart_none ?_)
  show wpAny _ _ (if ((1 : Int) == 0) = true then _ else _) _ _ s
  rw [if_neg (by decide)]
  refine wpAny_bind (slicePart_ pl (wpAny_bind (slicePart_ pu (wpAny_bind (wpAny_pure ?_)))))
  show wpAny _ _ (match Builtin.Slice.sliceAdjust lo hi 1 (n : Int) with | (lo, hi) => pure (lo, (1 : Int), Builtin.Slice.slicePlaces lo hi 1)) _ _ s
  rw [adjust_gen lo hi n]
  show wpAny _ _ (pure (((sIx n 0 lo : Nat) : Int), (1 : Int), Builtin.Slice.slicePlaces ((sIx n 0 lo : Nat) : Int) ((sIx n n hi : Nat) : Int) 1)) _ _ s
  rw [places_gen]
  exact wpAny_pure h
theorem pick_gen (xs : Array Value) (i k : Nat) : ((List.range k).filterMap fun (m : Nat) => xs[((i : Int) + (m : Int) * 1).toNat]?).toArray = ((xs.toList.drop i).take k).toArray := by
  have e : (fun (m : Nat) => xs[((i : Int) + (m : Int) * 1).toNat]?) = fun m => xs[i + m]? := by
    funext m
    have : ((i : Int) + (m : Int) * 1).toNat = i + m := by omega
    rw [this]
  rw [e]
  have := pick_run xs i k
  rw [List.filterMap_map] at this
  have e2 : ((fun x => xs[x]?) ∘ fun x => i + x) = fun m => xs[i + m]? := rfl
  rw [e2] at this
  rw [this]
theorem getItem_tuple_cut {t sl : Addr} {items : Array Value} {vl vu : Value} {lo hi : Option Int} {Q : Value → Shared → Prop} (ht : IsTup s.heap t items) (hs : s.heap.IsSliceOf sl vl vu .none) (pl : IsPart vl lo) (pu : IsPart vu hi)
    (hw : ¬ (sIx items.size 0 lo = 0 ∧ sIx items.size items.size hi = items.size))
    (h : Q (.ref s.heap.objs.size) { s with heap := s.heap.push { cls := .type "tuple", data := .seq ((items.toList.drop (sIx items.size 0 lo)).take (sIx items.size items.size hi - sIx items.size 0 lo)).toArray } })
    (hsz : items.size ≤ sizeLine) : wpAny (model prog w) A (getItem (.ref t) (.ref sl)) Q E s := by
  have htake : sizeOk (.seq ((items.toList.drop (sIx items.size 0 lo)).take (sIx items.size items.size hi - sIx items.size 0 lo)).toArray) := by
    show ((items.toList.drop (sIx items.size 0 lo)).take (sIx items.size items.size hi - sIx items.size 0 lo)).toArray.size ≤ sizeLine
    rw [List.size_toArray, List.length_take, List.length_drop, Array.length_toList]
    omega
  have hj : sIx items.size items.size hi ≤ items.size := sIx_le _ _ (Nat.le_refl _) hi
  obtain ⟨os, hos, hcs, hds⟩ := id hs
  have hTs : s.TypeIs (.ref sl) "slice" := ⟨os, hos, hcs⟩
  unfold getItem
  try with_reducible refine wpAny_holding ?_
  first | refine wpAny_bind (wpAny_pure ?_) | skip
  refine wpAny_bind (wpAny_sequenceKey ht.typeIs (by decide) ?_)
  refine wpAny_bind (wpAny_callSpecial?_slot (name := Str.ofString "__getitem__") ht.typeIs PyProof.Rows.slot_tuple_getitem
    (wpAny_call_entry PyProof.Rows.slot_tuple_getitem ht.typeIs entry_tuple_getitem ?_ (args_tuple_getitem _ _)))
  show wpAny _ _ (Builtin.Tuple.tupleItemsOf (.ref t) >>= _) _ _ s
  refine wpAny_bind (tupleItemsOf_ ht ?_)
  refine wpAny_bind (wpAny_typeOf hTs ?_)
  rw [if_pos (by decide)]
  refine wpAny_bind (sliceApplied_gen hs pl pu ?_)
  have hno : ¬ ((((sIx items.size 0 lo : Nat) : Int) == 0 && (1 : Int) == 1 && (sIx items.size items.size hi - sIx items.size 0 lo) == items.size) = true) := by
    intro q
    rw [Bool.and_eq_true, Bool.and_eq_true] at q
    have q1 : ((sIx items.size 0 lo : Nat) : Int) = 0 := eq_of_beq q.1.1
    have q2 : sIx items.size items.size hi - sIx items.size 0 lo = items.size := eq_of_beq q.2
    exact hw ⟨by omega, by omega⟩
  show wpAny _ _ (if (((sIx items.size 0 lo : Nat) : Int) == 0 && (1 : Int) == 1 && (sIx items.size items.size hi - sIx items.size 0 lo) == items.size) = true then _ else _) _ _ s
  rw [if_neg hno, pick_gen]
  first
    | exact wpAny_bind (m := Builtin.Tuple.tupleExact _) (wpAny_newObj_type (wpAny_pure ⟨_, rfl, wpAny_pure h⟩) htake)
    | exact wpAny_bind (m := Builtin.Tuple.tupleExact _) (wpAny_newObj_type (wpAny_bind (wpAny_pure (wpAny_pure ⟨_, rfl, wpAny_pure h⟩))) htake)
    | exact wpAny_bind (wpAny_bind (m := Builtin.Tuple.tupleExact _) (wpAny_newObj_type (wpAny_pure (wpAny_pure ⟨_, rfl, wpAny_pure h⟩)) htake))
    | exact wpAny_bind (wpAny_bind (m := Builtin.Tuple.tupleExact _) (wpAny_newObj_type (wpAny_pure ⟨_, rfl, wpAny_pure h⟩) htake))
end
end HT
namespace L2
open PySem PySem.Spec PyProof.Rows
abbrev TO := St → Hp → (Option Int → Hp → Prop) → Prop
def PO (X : Cx) (e : Option Expr) (t : TO) : Prop :=
  ∀ (pins : List (Addr × Obj)) (s : Shared) (σ : St) (H : Hp) (Q : Option Int → Hp → Prop), Inv X pins σ H s → t σ H Q →
    wpAny (model X.prog X.w) X.A (evalPart e X.env) (fun u s' => ∃ o H', Inv X pins σ H' s' ∧ IsPart u o ∧ Q o H') X.xe s
def tNoPart : TO := fun _ H Q => Q none H
def tPart (t : TE) : TO := fun σ H Q => t σ H fun x H1 => ∃ i, x = .int i ∧ Q (some i) H1
section
variable {X : Cx} {e : Expr} {te : TE} {lo hi : Option Expr} {tl th : TO} {pos p2 : Pos}
theorem po_none : PO X none tNoPart := by
  intro pins s σ H Q I h
  rw [evalPart_none]
  exact wpAny_pure ⟨none, H, I, .none, h⟩
theorem po_some (h : PE X e te) : PO X (some e) (tPart te) := by
  intro pins s σ H Q I hw
  rw [evalPart_some]
  refine thn (h pins s σ H _ I hw) fun u s1 ⟨x, H1, I1, r1, q1⟩ => ?_
  obtain ⟨i, rfl, q⟩ := q1
  obtain ⟨t, rfl⟩ := r1
  exact ⟨some i, H1, I1, .int i t, q⟩
def SlR (X : Cx) (r : V → Option Int → Option Int → Hp → VK → Prop) : Prop :=
  ∀ (pins : List (Addr × Obj)) (s : Shared) (σ : St) (H : Hp) (x : V) (v vl vu : Value) (lo hi : Option Int) (sl : Addr) (Q : VK), Inv X pins σ H s → RelV x v → s.heap.IsSliceOf sl vl vu .none → IsPart vl lo → IsPart vu hi → r x lo hi H Q →
    ∃ T id, typeLookup (.type T) "__getitem__" = pure (some (.builtin id)) ∧ s.TypeIs v T ∧ wpAny (model X.prog X.w) X.A (getItem v (.ref sl)) (EP X pins σ Q) X.xe s
theorem SlR.or {r r' : V → Option Int → Option Int → Hp → VK → Prop} (h : SlR X r) (h' : SlR X r') : SlR X (fun x lo hi H Q => r x lo hi H Q ∨ r' x lo hi H Q) := by
  intro pins s σ H x v vl vu lo hi sl Q I rx hs pl pu q
  rcases q with q | q
  · exact h pins s σ H x v vl vu lo hi sl Q I rx hs pl pu q
  · exact h' pins s σ H x v vl vu lo hi sl Q I rx hs pl pu q
def tSl (r : V → Option Int → Option Int → Hp → VK → Prop) (te : TE) (tl th : TO) : TE := fun σ H Q => te σ H fun x H1 => tl σ H1 fun l H2 => th σ H2 fun u H3 => r x l u H3 Q
theorem pe_slice {r : V → Option Int → Option Int → Hp → VK → Prop} (hr : SlR X r) (he : PE X e te) (hl : PO X lo tl) (hu : PO X hi th) : PE X (.Subscript e (.Slice lo hi none p2) pos) (tSl r te tl th) := by
  intro pins s σ H Q I h
  refine Subscript_ (thn (he pins s σ H _ I h) fun v s1 ⟨x, H1, I1, r1, q1⟩ => ?_)
  refine wpAny_Slice (thn (hl pins s1 σ H1 _ I1 q1) fun vl s2 ⟨l, H2, I2, pl, q2⟩ => thn (hu pins s2 σ H2 _ I2 q2) fun vu s3 ⟨u, H3, I3, pu, q3⟩ => ?_)
  rw [evalPart_none]
  refine wpAny_pure ?_
  have I4 : Inv X pins σ H3 { s3 with heap := s3.heap.push { cls := .type "slice", data := .fields #[vl, vu, .none] } } := I3.kept (t' := s3.toks) fun b ob q => Heap.get?_push_of_some _ q
  obtain ⟨T, id, hT, ht, hg⟩ := hr pins { s3 with heap := s3.heap.push { cls := .type "slice", data := .fields #[vl, vu, .none] } } σ H3 x v vl vu l u s3.heap.objs.size Q I4 r1 (Heap.IsSliceOf.new ..) pl pu q3
  show wpAny (model X.prog X.w) X.A (subscriptTail e (.Slice lo hi none p2) v (.ref s3.heap.objs.size)) (EP X pins σ Q) X.xe { s3 with heap := s3.heap.push { cls := .type "slice", data := .fields #[vl, vu, .none] } }
  exact tail_any (ops := [.ref s3.heap.objs.size, v]) ht hT hg (by with_unfolding_all rfl)
def cutV (xs : List V) (lo hi : Option Int) : List V := (xs.drop (HT.sIx xs.length 0 lo)).take (HT.sIx xs.length xs.length hi - HT.sIx xs.length 0 lo)
theorem cutV_length (xs : List V) (lo hi : Option Int) : (cutV xs lo hi).length ≤ xs.length := by
  unfold cutV
  rw [List.length_take, List.length_drop]
  omega
def rSlT (K : PySem.W.Frag) : V → Option Int → Option Int → Hp → VK → Prop := fun x lo hi H Q => ∃ a xs, x = .ref a ∧ SqT K H a xs ∧
  ¬ (HT.sIx xs.length 0 lo = 0 ∧ HT.sIx xs.length xs.length hi = xs.length) ∧ ∀ p, H p = none → Q (.ref p) (upd H p (.tup (cutV xs lo hi)))
theorem sl_tup : SlR X (rSlT X.K) := by
  intro pins s σ H x v vl vu lo hi sl Q I rx hs pl pu h
  obtain ⟨a, xs, rfl, hx, hw, q⟩ := h
  cases rx
  obtain ⟨its, r, ht, hz⟩ := I.tuple hx
  have hlen : its.toArray.size = xs.length := by rw [List.size_toArray]; exact r.length.symm
  refine ⟨"tuple", _, PyProof.Rows.slot_tuple_getitem.lookup, ht.typeIs, ?_⟩
  refine HT.getItem_tuple_cut ht hs pl pu (by rw [hlen]; exact hw) ?_ (by rw [hlen]; exact hz)
  rw [hlen]
  refine ⟨.ref s.heap.objs.size, _, I.laid (t' := s.toks) (o := .tup (cutV xs lo hi)) (fun b ob q => Heap.get?_push_of_some _ q) (Nat.le_refl _) ?_, rfl, q _ (I.hok.fresh (Nat.le_refl _))⟩
  exact ⟨Nat.le_trans (cutV_length xs lo hi) hz, _, (r.drop (HT.sIx xs.length 0 lo)).take (HT.sIx xs.length xs.length hi - HT.sIx xs.length 0 lo), IsTup.new _ _⟩
def rCatT (K : PySem.W.Frag) : R2 := fun x y H Q => ∃ a b xs ys, x = .ref a ∧ y = .ref b ∧ SqT K H a xs ∧ SqT K H b ys ∧ xs ≠ [] ∧ xs.length + ys.length ≤ sizeLine ∧
  (ys = [] → Q (.ref a) H) ∧ (ys ≠ [] → ∀ p, H p = none → Q (.ref p) (upd H p (.tup (xs ++ ys))))
theorem Vals.nil_iff {xs : List V} {us : List Value} (r : Vals xs us) : us = [] ↔ xs = [] := by
  cases r with
  | nil => simp
  | cons _ _ => simp
theorem op_catT : OpR X (binaryOp .Add) (rCatT X.K) := by
  intro pins s σ H x y v u Q I rx ry h
  obtain ⟨a, b, xs, ys, rfl, rfl, ha, hb, hx, hz, q1, q2⟩ := h
  cases rx
  cases ry
  obtain ⟨its, r1, p1, _⟩ := I.tuple ha
  obtain ⟨its2, r2, p2, _⟩ := I.tuple hb
  refine HT.cat_tup p1 p2 (fun z => hx (r1.nil_iff.mp z)) (fun z => ⟨.ref a, H, I, rfl, q1 (r2.nil_iff.mp z)⟩) (fun z => ?_) (by rw [← r1.length, ← r2.length]; exact hz)
  refine ⟨.ref s.heap.objs.size, _, I.laid (t' := s.toks) (o := .tup (xs ++ ys)) (fun b ob q => Heap.get?_push_of_some _ q) (Nat.le_refl _) ?_, rfl, q2 (fun w => z (r2.nil_iff.mpr w)) _ (I.hok.fresh (Nat.le_refl _))⟩
  exact ⟨by rw [List.length_append]; exact hz, _, r1.append r2, IsTup.new _ _⟩
end
end L2
namespace L2
open PySem PySem.Spec PyProof.Rows
def ixN (n : Nat) (i : Int) : Option Nat := if 0 ≤ i then (if i < n then some i.toNat else none) else if -(n : Int) ≤ i then some (i + n).toNat else none
def atI {α : Type} (xs : List α) (i : Int) : Option α := (ixN xs.length i).bind fun j => xs[j]?
theorem ixN_seq {n : Nat} {i : Int} {j : Nat} (h : ixN n i = some j) : seqIndex? i n = some j ∧ j < n ∧ -(n : Int) ≤ i ∧ i < n := by
  unfold ixN at h
  by_cases h0 : 0 ≤ i
  · rw [if_pos h0] at h
    by_cases h1 : i < n
    · rw [if_pos h1] at h
      have e : i.toNat = j := Option.some.inj h
      exact ⟨by rw [seqIndex_of h0 h1, e], by omega, by omega, h1⟩
    · rw [if_neg h1] at h; cases h
  · rw [if_neg h0] at h
    by_cases h1 : -(n : Int) ≤ i
    · rw [if_pos h1] at h
      have e : (i + n).toNat = j := Option.some.inj h
      exact ⟨by rw [seqIndex_neg (by omega) h1, e], by omega, h1, by omega⟩
    · rw [if_neg h1] at h; cases h
theorem atI_get {α : Type} {xs : List α} {i : Int} {v : α} (h : atI xs i = some v) : ∃ j, seqIndex? i xs.length = some j ∧ xs[j]? = some v ∧ j < xs.length ∧ -(xs.length : Int) ≤ i ∧ i < xs.length := by
  unfold atI at h
  cases e : ixN xs.length i with
  | none => rw [e] at h; cases h
  | some j =>
    rw [e] at h
    obtain ⟨h1, h2, h3, h4⟩ := ixN_seq e
    exact ⟨j, h1, h, h2, h3, h4⟩
theorem atI_nat {α : Type} {xs : List α} {j : Nat} {v : α} (h : xs[j]? = some v) : atI xs (j : Int) = some v := by
  have hj : j < xs.length := (List.getElem?_eq_some_iff.mp h).1
  have e : ixN xs.length (j : Int) = some j := by
    unfold ixN
    rw [if_pos (by omega), if_pos (by omega)]; simp
  unfold atI; rw [e]; exact h
def PlainIx (b : Expr) : Prop := ∀ o i, subscripted b false o i = operate [o, i] (getItem o i)
def IxR (X : Cx) (r : R2) : Prop :=
  ∀ (value slice : Expr) (pins : List (Addr × Obj)) (s : Shared) (σ : St) (H : Hp) (x y : V) (v u : Value) (Q : VK), Inv X pins σ H s → RelV x v → RelV y u → r x y H Q →
    subscripted slice false v u = operate [v, u] (getItem v u) → wpAny (model X.prog X.w) X.A (subscriptTail value slice v u) (EP X pins σ Q) X.xe s
def MtR (X : Cx) (id : String) (r : V → List V → Hp → VK → Prop) : Prop :=
  ∀ (pins : List (Addr × Obj)) (s : Shared) (σ : St) (H : Hp) (x : V) (xs : List V) (v : Value) (us : List Value) (Q : VK), Inv X pins σ H s → RelV x v → Vals xs us → r x xs H Q →
    wpAny (model X.prog X.w) X.A (call (.builtin id) (v :: us)) (EP X pins σ Q) X.xe s
section
variable {X : Cx} {a b : Expr} {ta tb : TE} {pos : Pos}
theorem IxR.or {r r' : R2} (h : IxR X r) (h' : IxR X r') : IxR X (fun x y H Q => r x y H Q ∨ r' x y H Q) := by
  intro value slice pins s σ H x y v u Q I rx ry q hs
  rcases q with q | q
  · exact h value slice pins s σ H x y v u Q I rx ry q hs
  · exact h' value slice pins s σ H x y v u Q I rx ry q hs
theorem MtR.or {id : String} {r r' : V → List V → Hp → VK → Prop} (h : MtR X id r) (h' : MtR X id r') : MtR X id (fun x xs H Q => r x xs H Q ∨ r' x xs H Q) := by
  intro pins s σ H x xs v us Q I rx rs q
  rcases q with q | q
  · exact h pins s σ H x xs v us Q I rx rs q
  · exact h' pins s σ H x xs v us Q I rx rs q
theorem pe_ix {r : R2} (hr : IxR X r) (ha : PE X a ta) (hb : PE X b tb) (hs : PlainIx b) : PE X (.Subscript a b pos) (tOp r ta tb) := by
  intro pins s σ H Q I h
  exact Subscript_ (binT ha hb I h fun v u s2 x y H2 I2 rx ry q => hr a b pins s2 σ H2 x y v u Q I2 rx ry q (hs _ _))
def rIxL (K : PySem.W.Frag) : R2 := fun x y H Q => ∃ p xs i v, x = .ref p ∧ y = .int i ∧ SqL K H p xs ∧ atI xs i = some v ∧ Q v H
def rIxT (K : PySem.W.Frag) : R2 := fun x y H Q => ∃ p xs i v, x = .ref p ∧ y = .int i ∧ SqT K H p xs ∧ atI xs i = some v ∧ Q v H
def rIxS : R2 := fun x y H Q => ∃ z i c, x = .str z ∧ y = .int i ∧ z.length ≤ sizeLine ∧ atI z.cps.toList i = some c ∧ Q (.str ⟨#[c]⟩) H
theorem ix_list : IxR X (rIxL X.K) := by
  intro value slice pins s σ H x y v u Q I rx ry h hs
  obtain ⟨p, xs, i, z, rfl, rfl, hq, he, q⟩ := h
  cases rx
  obtain ⟨t, rfl⟩ := ry
  obtain ⟨its, r, pl, hz⟩ := I.list hq
  obtain ⟨j, h1, h2, h3, h4, h5⟩ := atI_get he
  obtain ⟨w, ew, rw'⟩ := r.get h2
  have hl := r.length
  have hn := line63
  have fin : EP X pins σ Q w s := ⟨z, H, I, rw', q⟩
  by_cases h0 : 0 ≤ i
  · have hj : i.toNat = j := by
      rw [seqIndex_of h0 h5] at h1
      exact Option.some.inj h1
    exact item_listR pl.isList h0 (by omega) (by rw [hj]; simpa using ew) fin hs
  · have hj : (i + (its.toArray.size : Int)).toNat = j := by
      rw [seqIndex_neg (by omega) h4] at h1
      rw [List.size_toArray, ← hl]
      exact Option.some.inj h1
    exact subscriptTail_builtinR (x := w) pl.isList.typeIs slot_list_getitem.lookup
      (wpAny_getItem_list_neg (Q := fun r s' => r = w ∧ EP X pins σ Q r s') pl.isList (by omega) (by rw [List.size_toArray] <;> omega) (by omega) (by rw [hj]; simpa using ew) ⟨rfl, fin⟩) hs
theorem ix_tup : IxR X (rIxT X.K) := by
  intro value slice pins s σ H x y v u Q I rx ry h hs
  obtain ⟨p, xs, i, z, rfl, rfl, hq, he, q⟩ := h
  cases rx
  obtain ⟨t, rfl⟩ := ry
  obtain ⟨its, r, pl, hz⟩ := I.tuple hq
  obtain ⟨j, h1, h2, h3, h4, h5⟩ := atI_get he
  obtain ⟨w, ew, rw'⟩ := r.get h2
  have hl := r.length
  have hn := line63
  have fin : EP X pins σ Q w s := ⟨z, H, I, rw', q⟩
  exact subscriptTail_builtinR (x := w) pl.typeIs slot_tuple_getitem.lookup
    (getItem_tuple (j := j) (Q := fun r s' => r = w ∧ EP X pins σ Q r s') pl (by omega) (by omega) (by rw [List.size_toArray, ← hl]; exact h1) (by simpa using ew) ⟨rfl, fin⟩) hs
theorem ix_str : IxR X rIxS := by
  intro value slice pins s σ H x y v u Q I rx ry h hs
  obtain ⟨z, i, c, rfl, rfl, hz, he, q⟩ := h
  obtain ⟨t, rfl⟩ := rx
  obtain ⟨t', rfl⟩ := ry
  obtain ⟨j, h1, h2, h3, h4, h5⟩ := atI_get he
  have hl : z.cps.toList.length = z.length := by simp [Str.length]
  rw [hl] at h1 h4 h5
  have hn := line63
  exact tail_any (typeIs_str s z t) slot_str_getitem.lookup (getItem_str (c := c) (by
    have e1 : decide (i < -(2 ^ 63 : Int)) = false := decide_eq_false (by omega)
    have e2 : decide (i ≥ 2 ^ 63) = false := decide_eq_false (by omega)
    rw [e1, e2, Bool.or_false]) (by rw [h1]; simpa using h2) ⟨.str ⟨#[c]⟩, H, I.tok _, ⟨_, rfl⟩, q⟩) hs
def rIx (K : PySem.W.Frag) : R2 := fun x y H Q => rIxL K x y H Q ∨ rIxT K x y H Q ∨ rIxS x y H Q
theorem ix_seq : IxR X (rIx X.K) := ix_list.or (ix_tup.or ix_str)
theorem mapSeq_set (its : List Value) (n j : Nat) (u : Value) : Obj.mapSeq (·.setIfInBounds j u) { cls := .type "list", data := .seq its.toArray n } = { cls := .type "list", data := .seq (its.set j u).toArray n } := by
  simp [Obj.mapSeq]
theorem Inv.lst {pins : List (Addr × Obj)} {σ : St} {H : Hp} {s : Shared} {p : Addr} {xs : List V} (I : Inv X pins σ H s) (h : H p = some (.lst xs)) :
    ∃ (its : List Value) (n : Nat), Vals xs its ∧ s.heap.get? p = some { cls := .type "list", data := .seq its.toArray n } ∧ xs.length ≤ sizeLine := by
  obtain ⟨z, its, n, r, e⟩ := I.hok p _ h
  exact ⟨its, n, r, e, z⟩
theorem Inv.lstUpd {pins : List (Addr × Obj)} {σ : St} {H : Hp} {s : Shared} {p : Addr} {xs ys : List V} {its its' : List Value} {n n' : Nat} {f : Obj → Obj} (I : Inv X pins σ H s) (h : H p = some (.lst xs))
    (ho : s.heap.get? p = some { cls := .type "list", data := .seq its.toArray n }) (hf : f { cls := .type "list", data := .seq its.toArray n } = { cls := .type "list", data := .seq its'.toArray n' }) (r : Vals ys its') (hz : ys.length ≤ sizeLine) (t : Nat) :
    Inv X pins σ (upd H p (.lst ys)) { s with heap := s.heap.update p f, toks := t } := by
  have e : (s.heap.update p f).get? p = some { cls := .type "list", data := .seq its'.toArray n' } := by
    rw [Heap.get?_update_self f ho (by rw [hf] <;> rfl), hf]
  refine I.write (x := p) (e := p) (by rw [h]; trivial) (.inl rfl) (fun b u hb q => (Heap.get?_update_other _ _ (Ne.symm hb)).trans q) ⟨_, e⟩ ?_
  exact ⟨hz, its', n', r, e⟩
def rSetL : V → V → V → Hp → (Hp → Prop) → Prop := fun o i v H Q => ∃ p xs k j, o = .ref p ∧ i = .int k ∧ H p = some (.lst xs) ∧ ixN xs.length k = some j ∧ Q (upd H p (.lst (xs.set j v)))
theorem set_list : PSet X rSetL := by
  intro pins s σ H o i v ov iv u Q I ro ri rv h
  obtain ⟨p, xs, k, j, rfl, rfl, hp, hj, q⟩ := h
  cases ro
  obtain ⟨t, rfl⟩ := ri
  obtain ⟨its, n, r, ho, hz⟩ := I.lst hp
  obtain ⟨h1, h2, h3, h4⟩ := ixN_seq hj
  have hl := r.length
  have hn := line63
  have I' : Inv X pins σ (upd H p (.lst (xs.set j v))) { s with heap := s.heap.update p (Obj.mapSeq (·.setIfInBounds j u)) } :=
    I.lstUpd hp ho (mapSeq_set its n j u) (r.set rv j) (by rw [List.length_set]; exact hz) s.toks
  by_cases h0 : 0 ≤ k
  · have hk : k.toNat = j := by
      rw [seqIndex_of h0 h4] at h1
      exact Option.some.inj h1
    exact PySem.W.ki_setAt ho h0 (by omega) (by rw [List.size_toArray, ← hl]; exact h4) (by rw [hk]; exact ⟨_, I', q⟩)
  · have hk : (k + (its.toArray.size : Int)).toNat = j := by
      rw [seqIndex_neg (by omega) h3] at h1
      rw [List.size_toArray, ← hl]
      exact Option.some.inj h1
    exact PySem.W.ki_setBack ho (by omega) (by rw [List.size_toArray, ← hl]; exact h3) (by omega) (by rw [hk]; exact ⟨_, I', q⟩)
theorem slice_bounds (lo hi : Option Int) (n : Nat) : (sliceBounds lo hi none n).1 = ((HT.sIx n 0 lo : Nat) : Int) ∧ (sliceBounds lo hi none n).2.1 = ((HT.sIx n n hi : Nat) : Int) ∧ (sliceBounds lo hi none n).2.2 = 1 := by
  refine ⟨?_, ?_, rfl⟩
  · cases lo with
    | none => simp [sliceBounds, HT.sIx]
    | some i =>
      simp only [sliceBounds, HT.sIx, Option.getD_none, show (1 : Int) > 0 by decide, if_true]
      by_cases h : i < 0
      · simp only [h, if_true] <;> omega
      · simp only [h, if_false] <;> omega
  · cases hi with
    | none => simp [sliceBounds, HT.sIx]
    | some i =>
      simp only [sliceBounds, HT.sIx, Option.getD_none, show (1 : Int) > 0 by decide, if_true]
      by_cases h : i < 0
      · simp only [h, if_true] <;> omega
      · simp only [h, if_false] <;> omega
theorem slicePick_cut (its : List Value) (lo hi : Option Int) : slicePick its.toArray lo hi none = ((its.drop (HT.sIx its.length 0 lo)).take (HT.sIx its.length its.length hi - HT.sIx its.length 0 lo)).toArray := by
  obtain ⟨h1, h2, h3⟩ := slice_bounds lo hi its.toArray.size
  unfold slicePick
  rw [h1, h2, h3]
  simp only [sliceRange_one, pick_run, List.size_toArray] <;> rfl
def rSlL (K : PySem.W.Frag) : V → Option Int → Option Int → Hp → VK → Prop := fun x lo hi H Q => ∃ a xs, x = .ref a ∧ SqL K H a xs ∧ ∀ p, H p = none → Q (.ref p) (upd H p (.lst (cutV xs lo hi)))
theorem sl_list : SlR X (rSlL X.K) := by
  intro pins s σ H x v vl vu lo hi sl Q I rx hs pl pu h
  obtain ⟨a, xs, rfl, hx, q⟩ := h
  cases rx
  obtain ⟨its, r, ht, hz⟩ := I.list hx
  have hlen := r.length
  refine ⟨"list", _, slot_list_getitem.lookup, ht.isList.typeIs, ?_⟩
  refine wpAny_getItem_list_slice ht.isList hs pl pu .none (by simp) ?_ (by rw [List.size_toArray] <;> omega)
  rw [slicePick_cut, ← hlen]
  refine ⟨.ref s.heap.objs.size, _, I.laid (t' := s.toks) (o := .lst (cutV xs lo hi)) (fun b ob q => Heap.get?_push_of_some _ q) (Nat.le_refl _) ?_, rfl, q _ (I.hok.fresh (Nat.le_refl _))⟩
  exact ⟨Nat.le_trans (cutV_length xs lo hi) hz, _, 0, (r.drop (HT.sIx xs.length 0 lo)).take (HT.sIx xs.length xs.length hi - HT.sIx xs.length 0 lo), Heap.get?_push_size _ rfl⟩
theorem call_len_seq : CallR X (.builtin "len") (fun xs H Q => ∃ p ys, xs = [.ref p] ∧ (SqL X.K H p ys ∨ SqT X.K H p ys) ∧ Q (.int ys.length) H) := by
  intro pins s σ H xs us Q I r h
  obtain ⟨p, ys, rfl, hq, q⟩ := h
  obtain ⟨u, rfl, rx⟩ := vals1 r
  cases rx
  have hn := line63
  rcases hq with hq | hq
  · obtain ⟨its, r', pl, hz⟩ := I.list hq
    have hlen := r'.length
    exact Calls.call_len_list pl.isList (by simp only [List.size_toArray] <;> omega) ⟨.int ys.length, H, I.tok _, ⟨s.toks + 1, by rw [List.size_toArray, hlen]⟩, q⟩
  · obtain ⟨its, r', pl, hz⟩ := I.tuple hq
    have hlen := r'.length
    exact len_tuple pl (by simp only [List.size_toArray] <;> omega) ⟨.int ys.length, H, I.tok _, ⟨s.toks + 1, by rw [List.size_toArray, hlen]⟩, q⟩
theorem CallR.or {f : Value} {r r' : List V → Hp → VK → Prop} (h : CallR X f r) (h' : CallR X f r') : CallR X f (fun xs H Q => r xs H Q ∨ r' xs H Q) := by
  intro pins s σ H xs us Q I rs q
  rcases q with q | q
  · exact h pins s σ H xs us Q I rs q
  · exact h' pins s σ H xs us Q I rs q
theorem call_list_of : CallR X (.type "list") (fun xs H Q => ∃ p ys, xs = [.ref p] ∧ (SqL X.K H p ys ∨ SqT X.K H p ys) ∧ ∀ l, H l = none → Q (.ref l) (upd H l (.lst ys))) := by
  intro pins s σ H xs us Q I r h
  obtain ⟨p, ys, rfl, hq, q⟩ := h
  obtain ⟨u, rfl, rx⟩ := vals1 r
  cases rx
  have fin : ∀ (its : List Value), Vals ys its → ys.length ≤ sizeLine → ∀ (h' : Heap) (c' : Nat), (∀ b o', s.heap.get? b = some o' → h'.get? b = some o') →
      h'.get? s.heap.objs.size = some { cls := .type "list", dict := none, data := .seq its.toArray c', slots := #[] } → EP X pins σ Q (.ref s.heap.objs.size) { s with heap := h' } := fun its r' hz h' c' kp e =>
    ⟨.ref s.heap.objs.size, _, I.laid (t' := s.toks) kp (Nat.le_refl _) (show ObjOk X.prog X.w _ h' _ (.lst ys) from ⟨hz, its, c', r', e⟩), rfl, q _ (I.hok.fresh (Nat.le_refl _))⟩
  rcases hq with hq | hq
  · obtain ⟨its, r', pl, hz⟩ := I.list hq
    have hlen := r'.length
    obtain ⟨o, ho, hc, n, hd⟩ := pl.isList
    exact call_list_seq p (.inl rfl) ho hc hd (fun h' c' kp e => fin its r' hz h' c' kp e) (by simp only [List.size_toArray] <;> omega)
  · obtain ⟨its, r', pl, hz⟩ := I.tuple hq
    have hlen := r'.length
    obtain ⟨o, ho, hc, n, hd⟩ := pl
    exact call_list_seq p (.inr rfl) ho hc hd (fun h' c' kp e => fin its r' hz h' c' kp e) (by simp only [List.size_toArray] <;> omega)
theorem call_tuple_of : CallR X (.type "tuple") (fun xs H Q => ∃ p ys, xs = [.ref p] ∧ ((SqL X.K H p ys ∧ ∀ l, H l = none → Q (.ref l) (upd H l (.tup ys))) ∨ (SqT X.K H p ys ∧ Q (.ref p) H))) := by
  intro pins s σ H xs us Q I r h
  obtain ⟨p, ys, rfl, h⟩ := h
  obtain ⟨u, rfl, rx⟩ := vals1 r
  cases rx
  rcases h with ⟨hq, q⟩ | ⟨hq, q⟩
  · obtain ⟨its, r', pl, hz⟩ := I.list hq
    have hlen := r'.length
    refine call_tuple_list pl.isList (fun h' kp => ?_) (by simp only [List.size_toArray] <;> omega)
    have I1 : Inv X pins σ H { s with heap := h' } := I.kept (t' := s.toks) kp
    have I2 : Inv X pins σ (upd H h'.objs.size (.tup ys)) { s with heap := h'.push { cls := .type "tuple", data := .seq its.toArray } } :=
      I1.laid (t' := s.toks) (fun b o e => Heap.get?_push_of_some _ e) (Nat.le_refl _) (show ObjOk X.prog X.w _ _ _ (.tup ys) from ⟨hz, its, r', IsTup.new _ _⟩)
    exact ⟨.ref h'.objs.size, _, I2, rfl, q _ (I1.hok.fresh (Nat.le_refl _))⟩
  · obtain ⟨its, r', pl, hz⟩ := I.tuple hq
    exact call_tuple_same pl ⟨.ref p, H, I, rfl, q⟩
def tyV (K : PySem.W.Frag) (T : String) (x : V) (H : Hp) : Prop := match x with
  | .str _ => T = "str"
  | .int _ => T = "int"
  | .ref p => (T = "list" ∧ ∃ xs, SqL K H p xs) ∨ (T = "tuple" ∧ ∃ o, K.lookup p = some o ∧ o.cls = .type "tuple" ∧ o.dict = none) ∨
      (T = "dict" ∧ ((∃ kvs, H p = some (.dK kvs)) ∨ ∃ kvs, H p = some (.dT kvs))) ∨ (T = "set" ∧ ∃ S n, H p = some (.set S n))
  | _ => False
theorem tyV_is {pins : List (Addr × Obj)} {σ : St} {H : Hp} {s : Shared} {T : String} {x : V} {v : Value} (I : Inv X pins σ H s) (r : RelV x v) (ty : tyV X.K T x H) :
    s.TypeIs v T ∧ ∀ a, v = .ref a → ∃ ob, s.heap.get? a = some ob ∧ ob.dict = none := by
  cases x with
  | str z =>
    obtain ⟨t, rfl⟩ := r
    cases (show T = "str" from ty)
    exact ⟨typeIs_str s z t, fun _ e => nomatch e⟩
  | int i =>
    obtain ⟨t, rfl⟩ := r
    cases (show T = "int" from ty)
    exact ⟨typeIs_int s i t, fun _ e => nomatch e⟩
  | ref p =>
    cases r
    rcases ty with ⟨rfl, xs, hq⟩ | ⟨rfl, o, hk, hc, hd⟩ | ⟨rfl, hk⟩ | ⟨rfl, S, n, hk⟩
    · obtain ⟨its, _, pl, _⟩ := I.list hq
      refine ⟨pl.isList.typeIs, fun a e => ?_⟩
      cases e
      obtain ⟨o, n, e, c, hd, _⟩ := pl
      exact ⟨o, e, hd⟩
    · refine ⟨⟨o, I.kIn p o hk, hc⟩, fun a e => ?_⟩
      cases e
      exact ⟨o, I.kIn _ o hk, hd⟩
    · have z : ∃ o, s.heap.get? p = some o ∧ o.ExactDict := by
        rcases hk with ⟨kvs, hk⟩ | ⟨kvs, hk⟩
        · obtain ⟨_, _, _, _, o, _, _, e, ex, _⟩ := I.hok p _ hk
          exact ⟨o, e, ex⟩
        · obtain ⟨_, _, _, _, o, _, _, e, ex, _⟩ := I.hok p _ hk
          exact ⟨o, e, ex⟩
      obtain ⟨o, e, ex⟩ := z
      refine ⟨⟨o, e, ex.1⟩, fun a e2 => ?_⟩
      cases e2
      exact ⟨o, e, ex.2.1⟩
    · obtain ⟨o, _, _, _, e, ex, _⟩ := I.hok p _ hk
      refine ⟨⟨o, e, ex.1⟩, fun a e2 => ?_⟩
      cases e2
      exact ⟨o, e, ex.2.1⟩
  | _ => exact False.elim ty
def tBM (K : PySem.W.Frag) (T : String) (r : V → List V → Hp → VK → Prop) (to : TE) (t : TA) : TE := fun σ H Q => to σ H fun x H1 => tyV K T x H1 ∧ t σ H1 fun xs H2 => r x xs H2 Q
variable {o e : Expr} {es : List Expr} {to : TE} {t : TA} {name : Str} {apos cpos : Pos} {T id : String} {r : V → List V → Hp → VK → Prop}
theorem pe_bm (pa : PlainAttrs T) (slot : Slot T name id) (hty : typeOf (.builtin id) = pure (.type "method_descriptor")) (hm : MtR X id r) (ho : PE X o to) (ha : PA X (e :: es) t)
    (hbase : attributeBase o name X.env (eval o X.env) = eval o X.env := by rfl)
    (hfew : ((backTo cpos (starEach (e :: es) X.env)).all (fun x => !x.1) && (backToKw cpos (keywordEach [] X.env)).all (fun x => x.1.isSome)
      && decide ((e :: es).length + ([] : List Keyword).length + (if ([] : List Keyword).isEmpty then 0 else 1) < 30)) = true := by rfl)
    (hline : (apos.endLine == cpos.line) = true := by rfl) (hs : starEach (e :: es) X.env = (false, eval e X.env) :: starEach es X.env := by rfl) (hplain : (backTo cpos (starEach es X.env)).any (·.1) = false := by rfl) :
    PE X (.Call (.Attribute o name apos) (e :: es) [] cpos) (tBM X.K T r to t) := by
  intro pins s σ H Q I h
  refine wpAny_Call_method_late hbase hfew hline rfl (thn (ho pins s σ H _ I h) fun v s1 ⟨x, H1, I1, r1, ty, q1⟩ => ?_)
  obtain ⟨h1, h2⟩ := tyV_is I1 r1 ty
  refine ⟨T, id, pa, slot, hty, h1, h2, ?_⟩
  have hA := ha cpos pins s1 σ H1 _ I1 q1
  rw [hs] at hA ⊢
  refine Calls.callWith_builtin (by show (false || (backTo cpos (starEach es X.env)).any (·.1)) = false; rw [hplain] <;> rfl) (Calls.evalArgs_plain ?_)
  exact thn hA fun us s2 ⟨vs, H2, I2, r2, q2⟩ => hm pins s2 σ H2 x vs v us Q I2 r1 r2 q2
end
end L2
namespace L2
open PySem PySem.Spec PyProof.Rows
def MtM (X : Cx) (id : String) (r : V → List V → Hp → VK → Prop) : Prop :=
  ∀ (pins : List (Addr × Obj)) (s : Shared) (σ : St) (H : Hp) (x : V) (xs : List V) (v : Value) (us : List Value) (Q : VK), Inv X pins σ H s → RelV x v → Vals xs us → r x xs H Q →
    wpAny (model X.prog X.w) X.A (call (.builtin id) (v :: us)) (EP X pins σ Q) X.xe s
theorem Vals.one : ∀ {x : V} {us : List Value}, Vals [x] us → ∃ u, us = [u] ∧ RelV x u
  | _, _, .cons r .nil => ⟨_, rfl, r⟩
theorem Vals.two : ∀ {x y : V} {us : List Value}, Vals [x, y] us → ∃ u v, us = [u, v] ∧ RelV x u ∧ RelV y v
  | _, _, _, .cons r (.cons q .nil) => ⟨_, _, rfl, r, q⟩
theorem Vals.reverse {xs : List V} {us : List Value} (h : Vals xs us) : Vals xs.reverse us.reverse := by
  induction h with
  | nil => exact .nil
  | cons r t ih => rw [List.reverse_cons, List.reverse_cons]; exact Vals.append ih (.cons r .nil)
section
variable {X : Cx} {pins : List (Addr × Obj)} {σ : St} {H : Hp} {s : Shared} {l b : Addr} {xs ys zs : List V}
theorem Inv.lset {its its' : List Value} {n : Nat} {f : Array Value → Array Value} {t' : Nat} (I : Inv X pins σ H s) (hH : H l = some (.lst xs))
    (e : s.heap.get? l = some { cls := .type "list", data := .seq its.toArray n }) (hf : f its.toArray = its'.toArray) (hv : Vals ys its') (hz : ys.length ≤ sizeLine) :
    Inv X pins σ (upd H l (.lst ys)) { s with heap := s.heap.update l (Obj.mapSeq f), toks := t' } := by
  have q := PySem.IsL.update e f
  rw [hf] at q
  refine I.write (x := l) (e := l) (by rw [hH]; exact trivial) (.inl rfl) (fun b' u hb hu => (Heap.get?_update_other s.heap (Obj.mapSeq f) (Ne.symm hb)).trans hu) ⟨_, q⟩ ?_
  exact ⟨hz, its', _, hv, q⟩
theorem Inv.lnew {its : List Value} {t' : Nat} (I : Inv X pins σ H s) (hv : Vals ys its) (hz : ys.length ≤ sizeLine) :
    Inv X pins σ (upd H s.heap.objs.size (.lst ys)) { s with heap := s.heap.push { cls := .type "list", data := .seq its.toArray }, toks := t' } :=
  I.laid (fun _ _ q => Heap.get?_push_of_some _ q) (Nat.le_refl _) ⟨hz, its, 0, hv, Heap.get?_push_size _ rfl⟩
theorem Inv.fresh (I : Inv X pins σ H s) : H s.heap.objs.size = none := I.hok.fresh (Nat.le_refl _)
theorem Inv.lstM (I : Inv X pins σ H s) (hH : H l = some (.lst xs)) : xs.length ≤ sizeLine ∧ ∃ (its : List Value) (n : Nat), Vals xs its ∧ xs.length = its.length ∧ s.heap.get? l = some { cls := .type "list", data := .seq its.toArray n } := by
  obtain ⟨z, its, n, r, e⟩ := I.hok l _ hH
  exact ⟨z, its, n, r, r.length, e⟩
theorem notLongL {n : Nat} (h : n ≤ sizeLine) : Builtin.List.listTooLong n = false := by
  unfold Builtin.List.listTooLong
  exact decide_eq_false (by omega)
end
section
variable {X : Cx}
def rAppend : V → List V → Hp → VK → Prop := fun x vs H Q => ∃ l xs y, x = .ref l ∧ vs = [y] ∧ H l = some (.lst xs) ∧ xs.length < sizeLine ∧ Q .non (upd H l (.lst (xs ++ [y])))
theorem mt_append : MtM X "list.append" rAppend := by
  intro pins s σ H x vs v us Q I rx rv h
  obtain ⟨l, xs, y, rfl, rfl, hH, hz, q⟩ := h
  cases rx
  obtain ⟨u, rfl, ru⟩ := rv.one
  obtain ⟨z, its, n, r, hl, e⟩ := I.lstM hH
  refine call_meets F.slot_list_append ⟨_, e, rfl⟩ F.entry_list_append (F.args_list_append_2 _ _) (PySem.list_append l its.toArray n u (by rw [List.size_toArray]; omega)) ⟨e, ?_⟩
  refine ⟨.non, _, I.lset (its' := its ++ [u]) hH e (by simp) (r.append (.cons ru .nil)) ?_, rfl, q⟩
  rw [List.length_append, List.length_singleton]
  omega
def rExtend : V → List V → Hp → VK → Prop := fun x vs H Q => ∃ l b xs zs, x = .ref l ∧ vs = [.ref b] ∧ H l = some (.lst xs) ∧ H b = some (.lst zs) ∧ xs.length + zs.length ≤ sizeLine ∧ Q .non (upd H l (.lst (xs ++ zs)))
theorem mt_extend : MtM X "list.extend" rExtend := by
  intro pins s σ H x vs v us Q I rx rv h
  obtain ⟨l, b, xs, zs, rfl, rfl, hH, hB, hz, q⟩ := h
  cases rx
  obtain ⟨u, rfl, ru⟩ := rv.one
  cases ru
  obtain ⟨z, its, n, r, hl, e⟩ := I.lstM hH
  obtain ⟨z2, its2, n2, r2, hl2, e2⟩ := I.lstM hB
  have hsz : its.toArray.size + its2.toArray.size ≤ sizeLine := by rw [List.size_toArray, List.size_toArray]; omega
  have hlong : ¬ (!its.toArray.isEmpty && Builtin.List.listTooLong (its.toArray.size + its2.toArray.size)) = true := by
    rw [notLongL hsz, Bool.and_false]
    exact Bool.false_ne_true
  refine call_meets F.slot_list_extend ⟨_, e, rfl⟩ F.entry_list_extend (F.args_list_extend_2 _ _)
    (AutoSeq1.list_extend_list_list_0 l its.toArray n b its2.toArray n2 hlong (by rw [List.size_toArray]; omega) (by omega)) ⟨e, e2, ?_⟩
  refine ⟨.non, _, I.lset (its' := its ++ its2) hH e (by simp) (r.append r2) ?_, rfl, q⟩
  rw [List.length_append]
  omega
def rCat : R2 := fun x y H Q => ∃ l b xs zs, x = .ref l ∧ y = .ref b ∧ H l = some (.lst xs) ∧ H b = some (.lst zs) ∧ xs.length + zs.length ≤ sizeLine ∧ ∀ p, H p = none → Q (.ref p) (upd H p (.lst (xs ++ zs)))
theorem op_cat : OpR X (binaryOp .Add) rCat := by
  intro pins s σ H x y v u Q I rx ry h
  obtain ⟨l, b, xs, zs, rfl, rfl, hH, hB, hz, q⟩ := h
  cases rx
  cases ry
  obtain ⟨z, its, n, r, hl, e⟩ := I.lstM hH
  obtain ⟨z2, its2, n2, r2, hl2, e2⟩ := I.lstM hB
  refine PySem.P.add_list e e2 ?_ (by rw [List.size_toArray, List.size_toArray]; omega)
  have ea : its.toArray ++ its2.toArray = (its ++ its2).toArray := by simp
  rw [ea]
  exact ⟨.ref _, _, I.lnew (t' := s.toks) (r.append r2) (by rw [List.length_append]; omega), rfl, q _ I.fresh⟩
end
section
variable {prog : Program} {w : World} {A : Around} {E : Value → Shared → Prop} {s : Shared}
end
section
variable {X : Cx}
end
end L2
namespace Att
open PySem PySem.W PySem.Calls PyProof.Rows
theorem ints_of_wellAll {P : Params} {h : Heap} : ∀ (ns : List Int) (vs : List Value), WellAll P h vs (ns.map WData.int) → IntsAre vs ns := by
  intro ns
  induction ns with
  | nil =>
    intro vs w
    rw [List.map_nil] at w
    cases w
    exact .nil
  | cons n ns ih =>
    intro vs w
    rw [List.map_cons] at w
    cases w with
    | cons a b =>
      cases a
      exact .cons _ _ (ih _ b)
theorem script_of {l : OpenLaw} {n : Nat} (hn : l.most = some n) {P : Params} {h : Heap} {args : List WData} {vals : List Value}
    (hpre : l.row.toRowW.claim.pre args = true) (hwl : WellAll P h vals args) :
    ∃ a vs ns, vals = [Value.ref a] ∧ args = [WData.list (ns.map WData.int)] ∧ h.get? a = some { cls := .type "list", data := .seq vs.toArray } ∧ IntsAre vs ns ∧ ns.length ≤ n := by
  have hsh : WShape.hasAll [] args [.list .int] = true := (pre_splitW hpre).1
  have hc : l.pre.holds [] { args := args } = true := (pre_splitW hpre).2
  obtain ⟨d, r, rfl, h1, h2⟩ := hasAllW_cons hsh
  obtain rfl := hasAllW_nil h2
  obtain ⟨xs, rfl, h3⟩ := hasW_list h1
  obtain ⟨ns, rfl⟩ := items_int h3
  have hlen : ns.length ≤ n := by
    unfold OpenLaw.pre at hc
    have h4 : (WTm.not (.lt (.lit (.int (n : Int))) (.len (.arg 0)))).holds [] { args := [.list (ns.map .int)] } = true := by
      have h4 := (holds_andW hc).1
      rw [hn] at h4
      exact h4
    have h5 := condW_of h4 (w_not (w_lt w_lit (w_len_list (w_arg rfl))))
    rw [List.length_map] at h5
    refine Nat.le_of_not_lt fun q => ?_
    have q' : (n : Int) < ((ns.length : Nat) : Int) := by omega
    first
      | (rw [decide_eq_true q'] at h5; exact absurd h5 (by decide))
      | (simp at h5; omega)
  cases hwl with
  | cons w1 w2 =>
    cases w2
    cases w1 with
    | list ho hall => exact ⟨_, _, ns, rfl, rfl, ho, ints_of_wellAll ns _ hall, hlen⟩
theorem post_true (l : OpenLaw) (args : List WData) : l.row.toRowW.claim.post args (.bool true) args = true :=
  postW_of (r := l.row.toRowW) (X := (true == true))
    (show WShape.has [] (.bool true) .bool = true by first | rfl | decide | simp [WShape.has, WShape.arms, WShape.armsAll])
    (show (WTm.eq .res (.lit (.bool true))).value [] { args := args, res := some (.bool true), after := args } = some (.bool (true == true)) from w_eq_bool (w_res rfl) w_lit) rfl
theorem attach_call {l : OpenLaw} {n : Nat} {q : Program} {loose : List Str} {XP : (Str → Option Value) → Heap → Prop} {YP : World → Heap → Prop} {d : DefRec}
    (hn : l.most = some n) (hdf : d.params.defaults = [])
    (call : ∀ (w : World) (s₀ s₁ : Shared) (mg mb : Str → Option Value) (fa : Addr) (o : Obj) (pm cd doc : Value) (a : Addr) (vs : List Value) (ns : List Int),
      Ground q loose [] XP w s₀ mg mb s₁.heap → YP w s₁.heap →
      s₁.heap.get? fa = some o → o.data = .func (docDef d.name d.params d.body d.scope pm cd doc) → s₁.heap.CodeRec cd d.name → mg d.name = some (.ref fa) →
      s₁.heap.get? a = some { cls := .type "list", data := .seq vs.toArray } → IntsAre vs ns → ns.length ≤ n → s₁.gens = #[] →
      codeAny (model l.prog w) callerA (.call (.ref fa) ⟨[.ref a], []⟩) (fun r s' => r = .ok (.ret (.bool true)) ∧ OldK s₁.heap s'.heap ∧ s'.os = s₁.os ∧ AllBare s'.gens) s₁) :
    WalkO q loose XP YP l.row.toRowW d [] (fun f vs => PySem.call f vs) := by
  intro w s₀ s₁ mg mb G Y fa o pm cd doc dV kV ho hd hcd hD hmg hg args vals as hpre hlay hrd hwl hlo
  obtain rfl : dV = .none := Dflts.none hD hdf
  obtain rfl : kV = .none := Dflts.noKw hD
  obtain ⟨a, vs, ns, rfl, rfl, hobj, hints, hlen⟩ := script_of hn hpre hwl
  refine enter_call (codeAny_mono (call w s₀ s₁ mg mb fa o pm cd doc a vs ns G Y ho (fd_plain hd) hcd hmg hobj hints hlen hg) fun r s' hq => ?_)
  obtain ⟨rfl, h2, h3, h4⟩ := hq
  exact ⟨.inl ⟨.bool true, .bool true, [], rfl, fun _ => rfl, .bool true, post_true l _, fun _ => ⟨List.Pairwise.nil, fun _ hm => (nomatch hm)⟩⟩, h2, h3, h4⟩
section
variable {prog : Program} {w : World} {A : Around} {E : Value → Shared → Prop} {s : Shared} {K : Frag}
def ledger (h : Heap) (L d : Addr) : List (Addr × Obj) := (List.range h.objs.size).filterMap fun a => if a = L ∨ a = d then none else (h.get? a).map fun o => (a, o)
end
end Att
namespace L2
open PySem PySem.Spec PyProof.Rows
theorem vals_ints : ∀ {vs : List Value} {ns : List Int}, IntsAre vs ns → Vals (ns.map V.int) vs
  | _, _, .nil => .nil
  | _, _, .cons n t h => .cons ⟨t, rfl⟩ (vals_ints h)
end L2
namespace L2
open PySem PySem.Spec PyProof.Rows
end L2
namespace L2
open PySem PySem.Spec PyProof.Rows
abbrev CX0 : CXT := fun _ _ _ _ _ _ => False
abbrev E0 : XK := fun _ _ _ => False
theorem pass0 {X : Cx} : Passes CX0 X E0 := fun _ _ _ _ _ _ _ h => h.elim
structure Fun (K : PySem.W.Frag) (x qual : Str) (st : Stmt) (f : Addr) (fd : FuncData) : Prop where
  ex : ∃ (oc : Value) (od : Option Addr) (kV doc pm : Value) (an : Option Addr) (cdv ct : Value) (osl : Array (Option Value)),
    fd = PySem.W.fnOf x qual (defArgs st) (defBody st) (defScope st) .none kV doc pm an cdv ct ∧ K.lookup f = some ⟨oc, od, .func fd, osl⟩ ∧ PySem.W.codeIn K cdv qual = true
  kp : PySem.W.keepIn K (.ref f) = true
section
variable {P : Program} {w : World} {K : PySem.W.Frag} {mg : Str → Option Value} {base : Heap}
theorem Fun.ok {x qual : Str} {st : Stmt} {f : Addr} {fd : FuncData} {N ps : List Str} {k : Nat} {sp : Sp} (F : Fun K x qual st f fd) (S : FnScope N ps (defScope st)) (len : ∀ vs H Q E, sp vs H Q E → vs.length = ps.length)
    (hbody : ∀ (cdv : Value) (A : Around) (outer : List Env) (s : Shared) (H : Hp) (vs : List V) (Q : VK) (E : XK), Room k (A.deeper (envOfC qual (defScope st) s.heap.objs.size f cdv)) → sp vs H Q E →
      ∃ t, PSs (cxOf CX0 P w K mg base N qual (defScope st) f cdv A outer s H E).nox (defBody st) t ∧ t { nx := fun _ H' => Q .non H', rt := Q } (start N vs) H) : FnOk P w K mg base CX0 (k + 1) f fd ps sp := by
  obtain ⟨oc, od, kV, doc, pm, an, cdv, ct, osl, rfl, lk, hcd⟩ := F.ex
  refine fn_of lk hcd S len fun A outer s H vs Q E hr hsp => ?_
  obtain ⟨t, h, q⟩ := hbody cdv A outer s H vs Q E hr hsp
  exact ⟨t, h.nox, q⟩
theorem Fun.binds {x qual : Str} {st : Stmt} {f : Addr} {fd : FuncData} {ps : List Str} (F : Fun K x qual st f fd)
    (h : ∀ (kV doc pm : Value) (an : Option Addr) (cdv ct : Value) (us : List Value), us.length = ps.length → bindArgs (PySem.W.fnOf x qual (defArgs st) (defBody st) (defScope st) .none kV doc pm an cdv ct) ⟨us, []⟩ = pure (ps.zip us)) : Binds K fd ps [] := by
  obtain ⟨oc, od, kV, doc, pm, an, cdv, ct, osl, rfl, lk, hcd⟩ := F.ex
  exact .all (h kV doc pm an cdv ct)
theorem fun_mk {x qual : Str} {st : Stmt} {f : Addr} {oc : Value} {od an : Option Addr} {osl : Array (Option Value)} {kV doc pm cdv ct : Value} (l : K.lookup f = some ⟨oc, od, .func (PySem.W.fnOf x qual (defArgs st) (defBody st) (defScope st) .none kV doc pm an cdv ct), osl⟩)
    (c : PySem.W.codeIn K cdv qual = true) (k : PySem.W.keepIn K (.ref f) = true) : Fun K x qual st f (PySem.W.fnOf x qual (defArgs st) (defBody st) (defScope st) .none kV doc pm an cdv ct) := ⟨⟨oc, od, kV, doc, pm, an, cdv, ct, osl, rfl, l, c⟩, k⟩
end
theorem small1000 {n : Nat} (h : n ≤ 1000) : n < sizeLine := Nat.lt_of_le_of_lt h (by decide)
section
variable {X : Cx}
end
theorem iteF {A B : Prop} (h : B) : if false = true then A else B := by
  rw [if_neg Bool.false_ne_true]
  exact h
theorem iteT {A B : Prop} (h : A) : if true = true then A else B := by
  rw [if_pos rfl]
  exact h
def Same (H H' : Hp) : Prop := ∀ b o, H b = some o → H' b = some o
theorem Same.refl (H : Hp) : Same H H := fun _ _ h => h
theorem Same.trans {H H1 H2 : Hp} (a : Same H H1) (b : Same H1 H2) : Same H H2 := fun c o h => b c o (a c o h)
theorem Same.free {H H' : Hp} (e : Same H H') {l : Addr} (h : H' l = Option.none) : H l = Option.none := by
  cases q : H l with
  | none => rfl
  | some o =>
    rw [e l o q] at h
    cases h
end L2
set_option linter.all false
set_option maxRecDepth 100000
set_option maxHeartbeats 4000000
namespace NM
@[irreducible] def Sz (n : Nat) (i : Int) : Prop := i.natAbs < 2 ^ n
theorem Sz.mono {n m : Nat} {i : Int} (h : Sz n i) (l : n ≤ m) : Sz m i := by unfold Sz at *; exact Nat.lt_of_lt_of_le h (Nat.pow_le_pow_right (by decide) l)
theorem Sz.mul {n m : Nat} {i j : Int} (h : Sz n i) (g : Sz m j) : Sz (n + m) (i * j) := by
  unfold Sz at *
  rw [Int.natAbs_mul, Nat.pow_add]
  exact Nat.mul_lt_mul'' h g
theorem Sz.add {n : Nat} {i j : Int} (h : Sz n i) (g : Sz n j) : Sz (n + 1) (i + j) := by
  unfold Sz at *
  have := Int.natAbs_add_le i j
  rw [Nat.pow_succ]
  omega
theorem Sz.neg {n : Nat} {i : Int} (h : Sz n i) : Sz n (-i) := by unfold Sz at *; rw [Int.natAbs_neg]; exact h
theorem Sz.sub {n : Nat} {i j : Int} (h : Sz n i) (g : Sz n j) : Sz (n + 1) (i - j) := by rw [Int.sub_eq_add_neg]; exact h.add g.neg
theorem Sz.le {n : Nat} {i j : Int} (h : Sz n i) (g : j.natAbs ≤ i.natAbs) : Sz n j := by unfold Sz at *; exact Nat.lt_of_le_of_lt g h
theorem Sz.of {n : Nat} {i : Int} (h : i.natAbs < 2 ^ n) : Sz n i := by unfold Sz; exact h
theorem Sz.lt {n : Nat} {i : Int} (h : Sz n i) : i.natAbs < 2 ^ n := by unfold Sz at h; exact h
def g3 (a b c : Int) : Nat := Int.gcd (Int.gcd a b : Nat) c
theorem g3_prog (a b c : Int) : Int.gcd (Int.gcd c a : Nat) b = g3 a b c := by
  unfold g3
  simp only [Int.gcd, Int.natAbs_natCast]
  rw [Nat.gcd_assoc, Nat.gcd_comm]
theorem g3_dvd (a b c : Int) : ((g3 a b c : Nat) : Int) ∣ a ∧ ((g3 a b c : Nat) : Int) ∣ b ∧ ((g3 a b c : Nat) : Int) ∣ c := by
  have h : ((g3 a b c : Nat) : Int) ∣ ((Int.gcd a b : Nat) : Int) := Int.gcd_dvd_left ..
  exact ⟨Int.dvd_trans h (Int.gcd_dvd_left ..), Int.dvd_trans h (Int.gcd_dvd_right ..), Int.gcd_dvd_right ..⟩
theorem dvd_g3 {a b c : Int} {k : Nat} (h1 : (k : Int) ∣ a) (h2 : (k : Int) ∣ b) (h3 : (k : Int) ∣ c) : k ∣ g3 a b c := by
  unfold g3
  exact Int.dvd_gcd (Int.natCast_dvd_natCast.mpr (Int.dvd_gcd h1 h2)) h3
theorem g3_pos {a b c : Int} (h : c ≠ 0) : 0 < g3 a b c := by
  unfold g3
  exact Int.gcd_pos_of_ne_zero_right _ h
theorem g3_mul (a b c k : Int) : g3 (a * k) (b * k) (c * k) = g3 a b c * k.natAbs := by
  unfold g3
  simp only [Int.gcd, Int.natAbs_natCast, Int.natAbs_mul, Nat.gcd_mul_right]
theorem g3_neg_b (a b c : Int) : g3 a (-b) c = g3 a b c := by
  unfold g3
  rw [Int.gcd_neg]
theorem g3_neg_a (a b c : Int) : g3 (-a) b c = g3 a b c := by
  unfold g3
  rw [Int.neg_gcd]
structure N3 where
  a : Int
  b : Int
  c : Int
deriving DecidableEq
theorem N3.ext' {x y : N3} (h1 : x.a = y.a) (h2 : x.b = y.b) (h3 : x.c = y.c) : x = y := by cases x; cases y; simp_all
structure Ok (x : N3) : Prop where
  c : 0 < x.c
  g : g3 x.a x.b x.c = 1
def dv (a b c : Int) : Int := if c < 0 then -(g3 a b c : Nat) else (g3 a b c : Nat)
def low (a b c : Int) : N3 := ⟨a.fdiv (dv a b c), b.fdiv (dv a b c), c.fdiv (dv a b c)⟩
theorem fdiv_of {a k q : Int} (hk : k ≠ 0) (h : a = k * q) : a.fdiv k = q := by
  subst h
  exact Int.mul_fdiv_cancel_left q hk
theorem dv_ne {a b c : Int} (h : c ≠ 0) : dv a b c ≠ 0 := by
  have := g3_pos (a := a) (b := b) h
  unfold dv
  split <;> omega
theorem dv_dvd (a b c : Int) : dv a b c ∣ a ∧ dv a b c ∣ b ∧ dv a b c ∣ c := by
  obtain ⟨h1, h2, h3⟩ := g3_dvd a b c
  unfold dv
  split
  · exact ⟨Int.neg_dvd.mpr h1, Int.neg_dvd.mpr h2, Int.neg_dvd.mpr h3⟩
  · exact ⟨h1, h2, h3⟩
theorem low_spec (a b : Int) {c : Int} (h : c ≠ 0) : ∃ k : Int, k ≠ 0 ∧ (0 < k ↔ 0 < c) ∧ a = k * (low a b c).a ∧ b = k * (low a b c).b ∧ c = k * (low a b c).c ∧ Ok (low a b c) := by
  have hk := dv_ne (a := a) (b := b) h
  obtain ⟨⟨p, hp⟩, ⟨q, hq⟩, ⟨r, hr⟩⟩ := dv_dvd a b c
  have ep : (low a b c).a = p := fdiv_of hk hp
  have eq : (low a b c).b = q := fdiv_of hk hq
  have er : (low a b c).c = r := fdiv_of hk hr
  have hg := g3_pos (a := a) (b := b) h
  have hs : 0 < dv a b c ↔ 0 < c := by unfold dv; split <;> omega
  have hr0 : 0 < r := by
    have hr' : r ≠ 0 := fun z => h (by rw [hr, z, Int.mul_zero])
    rcases Int.lt_trichotomy 0 (dv a b c) with z | z | z
    · have := hs.mp z
      rw [hr] at this
      rw [Int.mul_comm] at this
      exact Int.pos_of_mul_pos_left this z |> fun t => t
    · exact absurd z.symm hk
    · have : c < 0 := by omega
      rcases Int.lt_trichotomy 0 r with w | w | w
      · exact w
      · exact absurd w.symm hr'
      · have := Int.mul_pos_of_neg_of_neg z w
        rw [← hr] at this
        omega
  refine ⟨dv a b c, hk, hs, by rw [ep]; exact hp, by rw [eq]; exact hq, by rw [er]; exact hr, by rw [er]; exact hr0, ?_⟩
  rw [ep, eq, er]
  have e := g3_mul p q r (dv a b c)
  rw [Int.mul_comm p, Int.mul_comm q, Int.mul_comm r, ← hp, ← hq, ← hr] at e
  have e2 : (dv a b c).natAbs = g3 a b c := by unfold dv; split <;> simp
  rw [e2] at e
  have : g3 p q r * g3 a b c = 1 * g3 a b c := by omega
  exact Nat.eq_of_mul_eq_mul_right hg this
theorem low_ok (a b : Int) {c : Int} (h : c ≠ 0) : Ok (low a b c) := (low_spec a b h).choose_spec.2.2.2.2.2
theorem Ok.same {x y : N3} (hx : Ok x) (hy : Ok y) (h1 : x.a * y.c = y.a * x.c) (h2 : x.b * y.c = y.b * x.c) : x = y := by
  have key : ∀ {u v : N3}, Ok u → Ok v → u.a * v.c = v.a * u.c → u.b * v.c = v.b * u.c → u.c ∣ v.c := fun {u v} hu hv e1 e2 => by
    have hd : u.c.natAbs ∣ g3 (u.a * v.c) (u.b * v.c) (u.c * v.c) := dvd_g3
      (by rw [Int.natAbs_of_nonneg (Int.le_of_lt hu.c), e1]; exact Int.dvd_mul_left _ _) (by rw [Int.natAbs_of_nonneg (Int.le_of_lt hu.c), e2]; exact Int.dvd_mul_left _ _) (by rw [Int.natAbs_of_nonneg (Int.le_of_lt hu.c)]; exact Int.dvd_mul_right _ _)
    rw [g3_mul, hu.g, Nat.one_mul] at hd
    exact Int.natAbs_dvd_natAbs.mp hd
  have hc : x.c = y.c := Int.dvd_antisymm (Int.le_of_lt hx.c) (Int.le_of_lt hy.c) (key hx hy h1 h2) (key hy hx h1.symm h2.symm)
  have hn : y.c ≠ 0 := by have := hy.c; omega
  rw [hc] at h1 h2
  exact N3.ext' (Int.eq_of_mul_eq_mul_right hn h1) (Int.eq_of_mul_eq_mul_right hn h2) hc
theorem Ok.low {x : N3} (h : Ok x) : low x.a x.b x.c = x := by
  have hc : x.c ≠ 0 := by have := h.c; omega
  obtain ⟨k, hk, _, p1, p2, p3, o⟩ := low_spec x.a x.b hc
  refine o.same h ?_ ?_
  · exact Int.eq_of_mul_eq_mul_left hk (by grind)
  · exact Int.eq_of_mul_eq_mul_left hk (by grind)
theorem low_le (a b : Int) {c : Int} (h : c ≠ 0) : (low a b c).a.natAbs ≤ a.natAbs ∧ (low a b c).b.natAbs ≤ b.natAbs ∧ (low a b c).c.natAbs ≤ c.natAbs := by
  obtain ⟨k, hk, _, p1, p2, p3, _⟩ := low_spec a b h
  have hk' : 1 ≤ k.natAbs := by omega
  have le : ∀ {u v : Int}, u = k * v → v.natAbs ≤ u.natAbs := fun {u v} e => by
    rw [e, Int.natAbs_mul]
    exact Nat.le_mul_of_pos_left _ hk'
  exact ⟨le p1, le p2, le p3⟩
structure Bd (n : Nat) (x : N3) : Prop where
  a : Sz n x.a
  b : Sz n x.b
  c : Sz n x.c
theorem Bd.mono {n m : Nat} {x : N3} (h : Bd n x) (l : n ≤ m) : Bd m x := ⟨h.a.mono l, h.b.mono l, h.c.mono l⟩
theorem low_bd {a b c : Int} {n : Nat} (h : c ≠ 0) (ha : Sz n a) (hb : Sz n b) (hc : Sz n c) : Bd n (low a b c) := by
  obtain ⟨h1, h2, h3⟩ := low_le a b h
  exact ⟨ha.le h1, hb.le h2, hc.le h3⟩
def plus (x y : N3) : N3 := low (x.a * y.c + y.a * x.c) (x.b * y.c + y.b * x.c) (x.c * y.c)
def less (x y : N3) : N3 := low (x.a * y.c - y.a * x.c) (x.b * y.c - y.b * x.c) (x.c * y.c)
def times (d : Int) (x y : N3) : N3 := low (x.a * y.a + d * x.b * y.b) (x.a * y.b + x.b * y.a) (x.c * y.c)
def norm (d : Int) (x : N3) : Int := x.a * x.a - d * x.b * x.b
def contrary (d : Int) (x : N3) : N3 := low (x.c * x.a) (-x.c * x.b) (norm d x)
def mate (x : N3) : N3 := ⟨x.a, -x.b, x.c⟩
def minus (x : N3) : N3 := ⟨-x.a, -x.b, x.c⟩
def nought : N3 := ⟨0, 0, 1⟩
def one : N3 := ⟨1, 0, 1⟩
theorem Ok.cn {x : N3} (h : Ok x) : x.c ≠ 0 := by have := h.c; omega
theorem mulc {x y : N3} (h : Ok x) (g : Ok y) : x.c * y.c ≠ 0 := Int.mul_ne_zero h.cn g.cn
theorem ok_mate {x : N3} (h : Ok x) : Ok (mate x) := ⟨h.c, by show g3 x.a (-x.b) x.c = 1; rw [g3_neg_b]; exact h.g⟩
theorem ok_minus {x : N3} (h : Ok x) : Ok (minus x) := ⟨h.c, by show g3 (-x.a) (-x.b) x.c = 1; rw [g3_neg_a, g3_neg_b]; exact h.g⟩
theorem ok_plus {x y : N3} (h : Ok x) (g : Ok y) : Ok (plus x y) := low_ok _ _ (mulc h g)
theorem ok_less {x y : N3} (h : Ok x) (g : Ok y) : Ok (less x y) := low_ok _ _ (mulc h g)
theorem ok_times {d : Int} {x y : N3} (h : Ok x) (g : Ok y) : Ok (times d x y) := low_ok _ _ (mulc h g)
theorem ok_nought : Ok nought := ⟨by decide, by decide⟩
theorem ok_one : Ok one := ⟨by decide, by decide⟩
theorem bd_mate {n : Nat} {x : N3} (h : Bd n x) : Bd n (mate x) := ⟨h.a, h.b.neg, h.c⟩
theorem bd_minus {n : Nat} {x : N3} (h : Bd n x) : Bd n (minus x) := ⟨h.a.neg, h.b.neg, h.c⟩
theorem bd_plus {n m : Nat} {x y : N3} (hx : Ok x) (hy : Ok y) (h : Bd n x) (g : Bd m y) : Bd (n + m + 1) (plus x y) :=
  low_bd (mulc hx hy) ((h.a.mul g.c).add ((g.a.mul h.c).mono (by omega))) ((h.b.mul g.c).add ((g.b.mul h.c).mono (by omega))) ((h.c.mul g.c).mono (by omega))
theorem bd_less {n m : Nat} {x y : N3} (hx : Ok x) (hy : Ok y) (h : Bd n x) (g : Bd m y) : Bd (n + m + 1) (less x y) :=
  low_bd (mulc hx hy) ((h.a.mul g.c).sub ((g.a.mul h.c).mono (by omega))) ((h.b.mul g.c).sub ((g.b.mul h.c).mono (by omega))) ((h.c.mul g.c).mono (by omega))
theorem sz_d {d : Int} (h : 2 ≤ d) (h' : d ≤ 30) : Sz 5 d := by unfold Sz; omega
theorem bd_times {n m : Nat} {d : Int} {x y : N3} (hd : Sz 5 d) (hx : Ok x) (hy : Ok y) (h : Bd n x) (g : Bd m y) : Bd (n + m + 6) (times d x y) :=
  low_bd (mulc hx hy) (((h.a.mul g.a).mono (by omega)).add (((hd.mul h.b).mul g.b).mono (by omega))) ((((h.a.mul g.b).mono (by omega : n + m ≤ n + m)).add ((h.b.mul g.a).mono (by omega))).mono (by omega)) ((h.c.mul g.c).mono (by omega))
theorem sz_norm {n : Nat} {d : Int} {x : N3} (hd : Sz 5 d) (h : Bd n x) : Sz (2 * n + 6) (norm d x) := by
  have e1 := h.a.mul h.a
  have e2 := (hd.mul h.b).mul h.b
  exact ((e1.mono (by omega : n + n ≤ 5 + n + n)).sub e2).mono (by omega)
theorem bd_contrary {n : Nat} {d : Int} {x : N3} (hd : Sz 5 d) (hn : norm d x ≠ 0) (h : Bd n x) : Bd (2 * n + 6) (contrary d x) :=
  low_bd hn ((h.c.mul h.a).mono (by omega)) ((h.c.neg.mul h.b).mono (by omega)) (sz_norm hd h)
def IsRoot (d : Int) : Prop := 2 ≤ d ∧ d ≤ 30 ∧ d ≠ 4 ∧ d ≠ 9 ∧ d ≠ 16 ∧ d ≠ 25
theorem no_square {d : Nat} (h : ∀ m : Nat, m * m ≠ d) : ∀ {a b : Nat}, a * a = d * (b * b) → b = 0 := fun {a b} e => by
  rcases Nat.eq_zero_or_pos b with hb | hb
  · exact hb
  exfalso
  obtain ⟨g, p, q, hg, hc, rfl, rfl⟩ := Nat.exists_coprime' (m := a) (n := b) (Nat.gcd_pos_of_pos_right _ hb)
  have e2 : (p * p) * (g * g) = (d * (q * q)) * (g * g) := by grind
  have e3 : p * p = d * (q * q) := Nat.eq_of_mul_eq_mul_right (Nat.mul_pos hg hg) e2
  have hq : q ∣ p * p := ⟨d * q, by rw [e3]; grind⟩
  have hq1 : q ∣ p := hc.symm.dvd_of_dvd_mul_left hq
  have hq2 : q = 1 := by
    have := Nat.dvd_gcd hq1 (Nat.dvd_refl q)
    rw [hc] at this
    exact Nat.dvd_one.mp this
  subst hq2
  exact h p (by rw [e3]; simp)
theorem IsRoot.nat {d : Int} (h : IsRoot d) : ∀ m : Nat, m * m ≠ d.toNat := fun m e => by
  obtain ⟨h1, h2, h3, h4, h5, h6⟩ := h
  have hm : m ≤ 5 := by
    rcases Nat.lt_or_ge 5 m with z | z
    · have := Nat.mul_le_mul z z; omega
    · exact z
  have : m = 0 ∨ m = 1 ∨ m = 2 ∨ m = 3 ∨ m = 4 ∨ m = 5 := by omega
  rcases this with rfl | rfl | rfl | rfl | rfl | rfl <;> omega
theorem IsRoot.nosq {d a b : Int} (h : IsRoot d) (e : a * a = d * b * b) : a = 0 ∧ b = 0 := by
  have hd : d = ((d.toNat : Nat) : Int) := by have := h.1; omega
  have e1 : a.natAbs * a.natAbs = d.toNat * (b.natAbs * b.natAbs) := by
    have e2 := congrArg Int.natAbs e
    rw [Int.natAbs_mul, Int.natAbs_mul, Int.natAbs_mul] at e2
    rw [e2, Nat.mul_assoc]
    congr 1
    omega
  have hb := no_square h.nat e1
  have hb' : b = 0 := by omega
  subst hb'
  have : a * a = 0 := by rw [e]; simp
  exact ⟨by rcases Int.mul_eq_zero.mp this with z | z <;> exact z, rfl⟩
theorem IsRoot.norm {d : Int} {x : N3} (h : IsRoot d) (ok : Ok x) (hx : x ≠ nought) : norm d x ≠ 0 := fun e => by
  have e' : x.a * x.a = d * x.b * x.b := by unfold NM.norm at e; omega
  obtain ⟨h1, h2⟩ := h.nosq e'
  apply hx
  have hg := ok.g
  rw [h1, h2] at hg
  have hc := ok.c
  have : x.c = 1 := by
    unfold g3 at hg
    simp [Int.gcd] at hg
    omega
  exact N3.ext' h1 h2 this
theorem ok_contrary {d : Int} {x : N3} (h : NM.norm d x ≠ 0) : Ok (contrary d x) := low_ok _ _ h
def sg (d a b : Int) : Int :=
  if a = 0 ∧ b = 0 then 0 else if 0 ≤ a ∧ 0 ≤ b then 1 else if a ≤ 0 ∧ b ≤ 0 then -1 else if (if d * b * b < a * a then a else b) > 0 then 1 else -1
theorem sq_le {u v : Int} (hu : 0 ≤ u) (h : u * u ≤ v * v) (hv : 0 ≤ v) : u ≤ v := by
  rcases Int.lt_or_le v u with z | z
  · have := Int.mul_lt_mul_of_pos_left z (show 0 < u by omega)
    have := Int.mul_le_mul_of_nonneg_right (Int.le_of_lt z) hv
    omega
  · exact z
theorem sq_nonneg (u : Int) : 0 ≤ u * u := by
  rcases Int.le_total 0 u with h | h
  · exact Int.mul_nonneg h h
  · exact Int.mul_nonneg_of_nonpos_of_nonpos h h
theorem sq_pos {u : Int} (h : u ≠ 0) : 0 < u * u := by
  have := sq_nonneg u
  have : u * u ≠ 0 := Int.mul_ne_zero h h
  omega
def P (d a b : Int) : Prop := (0 ≤ a ∧ 0 ≤ b ∧ ¬ (a = 0 ∧ b = 0)) ∨ (0 < a ∧ b < 0 ∧ d * b * b < a * a) ∨ (a < 0 ∧ 0 < b ∧ a * a < d * b * b)
theorem sg_one {d a b : Int} (h : IsRoot d) : sg d a b = 1 ↔ P d a b := by
  unfold sg P
  have key : a * a = d * b * b → a = 0 ∧ b = 0 := h.nosq
  by_cases c1 : d * b * b < a * a
  · simp only [c1, if_true]; split <;> (try split) <;> (try split) <;> (try split) <;> simp <;> omega
  · simp only [c1, if_false]; split <;> (try split) <;> (try split) <;> (try split) <;> simp <;> omega
theorem sg_neg {d a b : Int} (h : IsRoot d) : sg d (-a) (-b) = - sg d a b := by
  unfold sg
  have key : a * a = d * b * b → a = 0 ∧ b = 0 := h.nosq
  have e1 : d * -b * -b = d * b * b := by grind
  have e2 : -a * -a = a * a := by grind
  rw [e1, e2]
  by_cases c1 : d * b * b < a * a
  · simp only [c1, if_true]; split <;> split <;> (try split) <;> (try split) <;> (try split) <;> (try split) <;> (try split) <;> (try split) <;> omega
  · simp only [c1, if_false]; split <;> split <;> (try split) <;> (try split) <;> (try split) <;> (try split) <;> (try split) <;> (try split) <;> omega
theorem sg_zero {d a b : Int} : sg d a b = 0 ↔ a = 0 ∧ b = 0 := by
  unfold sg; split <;> (try split) <;> (try split) <;> (try split) <;> omega
theorem sg_tri (d a b : Int) : sg d a b = 0 ∨ sg d a b = 1 ∨ sg d a b = -1 := by
  unfold sg; split <;> (try split) <;> (try split) <;> (try split) <;> omega
theorem P_tri {d a b : Int} (h : IsRoot d) : (a = 0 ∧ b = 0) ∨ P d a b ∨ P d (-a) (-b) := by
  rcases sg_tri d a b with e | e | e
  · exact .inl (sg_zero.mp e)
  · exact .inr (.inl ((sg_one h).mp e))
  · exact .inr (.inr ((sg_one h).mp (by rw [sg_neg h, e]; rfl)))
theorem P_first {d a b : Int} (h : IsRoot d) (n : d * b * b < a * a) : P d a b ↔ 0 < a := by
  unfold P
  have := sq_nonneg b
  have h0 : 0 ≤ d * b * b := by rw [Int.mul_assoc]; exact Int.mul_nonneg (by have := h.1; omega) this
  have ha : a ≠ 0 := fun z => by subst z; simp at n; omega
  omega
theorem P_second {d a b : Int} (h : IsRoot d) (n : a * a < d * b * b) : P d a b ↔ 0 < b := by
  unfold P
  have h0 := sq_nonneg a
  have hb : b ≠ 0 := fun z => by subst z; simp at n; omega
  omega
theorem add_sign {u v : Int} (h : v * v < u * u) : 0 < u + v ↔ 0 < u := by
  have hu : u ≠ 0 := fun z => by subst z; have := sq_nonneg v; simp at h; omega
  have l : v.natAbs < u.natAbs := by
    rcases Nat.lt_or_ge v.natAbs u.natAbs with z | z
    · exact z
    · have := Nat.mul_le_mul z z
      have e1 : ((u.natAbs * u.natAbs : Nat) : Int) = u * u := Int.natAbs_mul_self
      have e2 : ((v.natAbs * v.natAbs : Nat) : Int) = v * v := Int.natAbs_mul_self
      omega
  omega
theorem mul_pos_iff {u v : Int} (hu : u ≠ 0) (hv : v ≠ 0) : 0 < u * v ↔ (0 < u ↔ 0 < v) := by
  rcases Int.lt_or_gt_of_ne hu with h | h <;> rcases Int.lt_or_gt_of_ne hv with g | g
  · have := Int.mul_pos_of_neg_of_neg h g; omega
  · have := Int.mul_neg_of_neg_of_pos h g; omega
  · have := Int.mul_neg_of_pos_of_neg h g; omega
  · have := Int.mul_pos h g; omega
theorem mul_lt {u v s t : Int} (hu : 0 ≤ u) (h : u < v) (hs : 0 ≤ s) (g : s < t) : u * s < v * t := by
  have e1 : u * s ≤ v * s := Int.mul_le_mul_of_nonneg_right (Int.le_of_lt h) hs
  have e2 : v * s < v * t := Int.mul_lt_mul_of_pos_left g (by omega)
  omega
theorem dsq {d b : Int} (hd : 0 < d) : 0 ≤ d * b * b := by rw [Int.mul_assoc]; exact Int.mul_nonneg (Int.le_of_lt hd) (sq_nonneg b)
theorem P_mul {d a b p q : Int} (h : IsRoot d) (h1 : ¬ (a = 0 ∧ b = 0)) (h2 : ¬ (p = 0 ∧ q = 0)) : P d (a * p + d * b * q) (a * q + b * p) ↔ (P d a b ↔ P d p q) := by
  have hd : 0 < d := by have := h.1; omega
  have n1 : a * a ≠ d * b * b := fun e => h1 (h.nosq e)
  have n2 : p * p ≠ d * q * q := fun e => h2 (h.nosq e)
  have pz : ∀ {u v : Int}, d * v * v < u * u → u ≠ 0 := fun {u v} e z => by subst z; have := dsq (b := v) hd; simp at e; omega
  have qz : ∀ {u v : Int}, u * u < d * v * v → v ≠ 0 := fun {u v} e z => by subst z; have := sq_nonneg u; simp at e; omega
  have id1 : (a * p + d * b * q) * (a * p + d * b * q) - d * (a * q + b * p) * (a * q + b * p) = (a * a - d * b * b) * (p * p - d * q * q) := by grind
  rcases Int.lt_or_gt_of_ne n1 with c1 | c1 <;> rcases Int.lt_or_gt_of_ne n2 with c2 | c2
  · have pp := Int.mul_pos_of_neg_of_neg (show a * a - d * b * b < 0 by omega) (show p * p - d * q * q < 0 by omega)
    rw [P_first h (by omega), P_second h c1, P_second h c2]
    have sq : (a * p) * (a * p) < (d * b * q) * (d * b * q) := by
      have e2 := mul_lt (sq_nonneg a) c1 (sq_nonneg p) c2
      grind
    rw [Int.add_comm, add_sign sq, Int.mul_assoc, mul_pos_iff (by omega) (Int.mul_ne_zero (qz c1) (qz c2)), mul_pos_iff (qz c1) (qz c2)]
    omega
  · have pp := Int.mul_neg_of_neg_of_pos (show a * a - d * b * b < 0 by omega) (show 0 < p * p - d * q * q by omega)
    rw [P_second h (by omega), P_second h c1, P_first h c2]
    have sq : (a * q) * (a * q) < (b * p) * (b * p) := by
      have e2 := mul_lt (sq_nonneg a) c1 (dsq (b := q) hd) c2
      have e3 : d * ((a * q) * (a * q)) < d * ((b * p) * (b * p)) := by grind
      exact Int.lt_of_mul_lt_mul_left e3 (Int.le_of_lt hd)
    rw [Int.add_comm, add_sign sq, mul_pos_iff (qz c1) (pz c2)]
  · have pp := Int.mul_neg_of_pos_of_neg (show 0 < a * a - d * b * b by omega) (show p * p - d * q * q < 0 by omega)
    rw [P_second h (by omega), P_first h c1, P_second h c2]
    have sq : (b * p) * (b * p) < (a * q) * (a * q) := by
      have e2 := mul_lt (dsq (b := b) hd) c1 (sq_nonneg p) c2
      have e3 : d * ((b * p) * (b * p)) < d * ((a * q) * (a * q)) := by grind
      exact Int.lt_of_mul_lt_mul_left e3 (Int.le_of_lt hd)
    rw [add_sign sq, mul_pos_iff (pz c1) (qz c2)]
  · have pp := Int.mul_pos (show 0 < a * a - d * b * b by omega) (show 0 < p * p - d * q * q by omega)
    rw [P_first h (by omega), P_first h c1, P_first h c2]
    have sq : (d * b * q) * (d * b * q) < (a * p) * (a * p) := by
      have e2 := mul_lt (dsq (b := b) hd) c1 (dsq (b := q) hd) c2
      grind
    rw [add_sign sq, mul_pos_iff (pz c1) (pz c2)]
theorem cross {d A x B y : Int} (hd : 0 < d) (hA : 0 ≤ A) (hx : 0 ≤ x) (hB : 0 ≤ B) (hy : 0 ≤ y) (h1 : A * A ≤ d * B * B) (h2 : x * x ≤ d * y * y) : A * x ≤ d * (B * y) := by
  refine sq_le (Int.mul_nonneg hA hx) ?_ (Int.mul_nonneg (Int.le_of_lt hd) (Int.mul_nonneg hB hy))
  have := Int.mul_le_mul h1 h2 (sq_nonneg x) (dsq hd)
  grind
theorem T1 {d A x B y : Int} (hd : 0 < d) (hA : 0 ≤ A) (hx : 0 ≤ x) (hB : 0 ≤ B) (hy : 0 ≤ y) (h1 : A * A < d * B * B) (h2 : x * x < d * y * y) : (A + x) * (A + x) < d * (B + y) * (B + y) := by
  have := cross hd hA hx hB hy (Int.le_of_lt h1) (Int.le_of_lt h2)
  grind
theorem T2 {d A x B y : Int} (hd : 0 < d) (hA : 0 ≤ A) (hx : 0 ≤ x) (hB : 0 ≤ B) (hy : 0 ≤ y) (h1 : d * B * B < A * A) (h2 : d * y * y < x * x) : d * (B + y) * (B + y) < (A + x) * (A + x) := by
  have : d * (B * y) ≤ A * x := by
    refine sq_le (Int.mul_nonneg (Int.le_of_lt hd) (Int.mul_nonneg hB hy)) ?_ (Int.mul_nonneg hA hx)
    have := mul_lt (dsq (b := B) hd) h1 (dsq (b := y) hd) h2
    grind
  grind
theorem Z1 {d x1 y1 x2 y2 : Int} (hd : 0 < d) (h1 : x1 * x1 < d * y1 * y1) (h2 : d * y2 * y2 < x2 * x2) (a1 : 0 ≤ x2) (a2 : x2 ≤ x1) (a3 : 0 ≤ y1) (a4 : y1 ≤ y2) : False := by
  have e1 := Int.mul_le_mul a2 a2 a1 (Int.le_trans a1 a2)
  have e2 := Int.mul_le_mul_of_nonneg_left (Int.mul_le_mul a4 a4 a3 (Int.le_trans a3 a4)) (Int.le_of_lt hd)
  grind
theorem Z2 {d x1 y1 x2 y2 x3 y3 : Int} (hd : 0 < d) (h1 : x1 * x1 < d * y1 * y1) (h2 : d * y2 * y2 < x2 * x2) (h3 : d * y3 * y3 < x3 * x3) (a1 : 0 ≤ x2) (a2 : 0 ≤ y2) (a3 : 0 ≤ x3) (a4 : 0 ≤ y3) (e1 : x1 = x2 + x3) (e2 : y1 = y2 + y3) : False := by
  subst e1 e2
  have := T2 hd a1 a3 a2 a4 h2 h3
  omega
theorem Z3 {d x1 y1 x2 y2 x3 y3 : Int} (hd : 0 < d) (h1 : d * y1 * y1 < x1 * x1) (h2 : x2 * x2 < d * y2 * y2) (h3 : x3 * x3 < d * y3 * y3) (a1 : 0 ≤ x2) (a2 : 0 ≤ y2) (a3 : 0 ≤ x3) (a4 : 0 ≤ y3) (e1 : x1 = x2 + x3) (e2 : y1 = y2 + y3) : False := by
  subst e1 e2
  have := T1 hd a1 a3 a2 a4 h2 h3
  omega
theorem zero3 {d a b p q u v : Int} (h : IsRoot d) (h1 : P d a b) (h2 : P d p q) (h3 : P d u v) (e1 : a + p + u = 0) (e2 : b + q + v = 0) : False := by
  have hd : 0 < d := by have := h.1; omega
  unfold P at h1 h2 h3
  have x1 : ∀ {u c : Int}, u * u < c → -u * -u < c := fun {u c} e => by grind
  have x2 : ∀ {u c : Int}, c < u * u → c < -u * -u := fun {u c} e => by grind
  have x3 : ∀ {u c : Int}, c < d * u * u → c < d * -u * -u := fun {u c} e => by grind
  have x4 : ∀ {u c : Int}, d * u * u < c → d * -u * -u < c := fun {u c} e => by grind
  rcases h1 with ⟨u1, u2, u3⟩ | ⟨u1, u2, u3⟩ | ⟨u1, u2, u3⟩ <;> rcases h2 with ⟨v1, v2, v3⟩ | ⟨v1, v2, v3⟩ | ⟨v1, v2, v3⟩ <;> rcases h3 with ⟨w1, w2, w3⟩ | ⟨w1, w2, w3⟩ | ⟨w1, w2, w3⟩ <;> (try omega)
  all_goals first
    | exact Z1 hd (x1 u3) (x4 v3) (by omega) (by omega) (by omega) (by omega)
    | exact Z1 hd (x1 v3) (x4 u3) (by omega) (by omega) (by omega) (by omega)
    | exact Z1 hd (x1 u3) (x4 w3) (by omega) (by omega) (by omega) (by omega)
    | exact Z1 hd (x1 w3) (x4 u3) (by omega) (by omega) (by omega) (by omega)
    | exact Z1 hd (x1 v3) (x4 w3) (by omega) (by omega) (by omega) (by omega)
    | exact Z1 hd (x1 w3) (x4 v3) (by omega) (by omega) (by omega) (by omega)
    | exact Z2 hd (x1 u3) (x4 v3) (x4 w3) (by omega) (by omega) (by omega) (by omega) (by omega) (by omega)
    | exact Z2 hd (x1 v3) (x4 u3) (x4 w3) (by omega) (by omega) (by omega) (by omega) (by omega) (by omega)
    | exact Z2 hd (x1 w3) (x4 u3) (x4 v3) (by omega) (by omega) (by omega) (by omega) (by omega) (by omega)
    | exact Z3 hd (x4 u3) (x1 v3) (x1 w3) (by omega) (by omega) (by omega) (by omega) (by omega) (by omega)
    | exact Z3 hd (x4 v3) (x1 u3) (x1 w3) (by omega) (by omega) (by omega) (by omega) (by omega) (by omega)
    | exact Z3 hd (x4 w3) (x1 u3) (x1 v3) (by omega) (by omega) (by omega) (by omega) (by omega) (by omega)
theorem P_add {d a b p q : Int} (h : IsRoot d) (h1 : P d a b) (h2 : P d p q) : P d (a + p) (b + q) := by
  rcases P_tri (a := a + p) (b := b + q) h with ⟨e1, e2⟩ | e | e
  · have ea : p = -a := by omega
    have eb : q = -b := by omega
    subst ea eb
    have s1 := (sg_one h).mpr h1
    have s2 := (sg_one h).mpr h2
    rw [sg_neg h, s1] at s2
    omega
  · exact e
  · exact (zero3 h h1 h2 e (by omega) (by omega)).elim
theorem sg_mul {d a b p q : Int} (h : IsRoot d) : sg d (a * p + d * b * q) (a * q + b * p) = sg d a b * sg d p q := by
  by_cases h1 : a = 0 ∧ b = 0
  · obtain ⟨rfl, rfl⟩ := h1
    have e : sg d (0 : Int) 0 = 0 := sg_zero.mpr ⟨rfl, rfl⟩
    rw [e]; simp [sg_zero]
  by_cases h2 : p = 0 ∧ q = 0
  · obtain ⟨rfl, rfl⟩ := h2
    have e : sg d (0 : Int) 0 = 0 := sg_zero.mpr ⟨rfl, rfl⟩
    rw [e]; simp [sg_zero]
  have k := P_mul h h1 h2
  have h3 : ¬ (a * p + d * b * q = 0 ∧ a * q + b * p = 0) := fun ⟨e1, e2⟩ => by
    have id1 : (a * p + d * b * q) * (a * p + d * b * q) - d * (a * q + b * p) * (a * q + b * p) = (a * a - d * b * b) * (p * p - d * q * q) := by grind
    rw [e1, e2] at id1
    simp only [Int.mul_zero, Int.sub_self] at id1
    rcases Int.mul_eq_zero.mp id1.symm with z | z
    · exact h1 (h.nosq (by omega))
    · exact h2 (h.nosq (by omega))
  rw [← sg_one h, ← sg_one h, ← sg_one h] at k
  have t1 := sg_tri d a b
  have t2 := sg_tri d p q
  have t3 := sg_tri d (a * p + d * b * q) (a * q + b * p)
  have z1 : sg d a b ≠ 0 := fun z => h1 (sg_zero.mp z)
  have z2 : sg d p q ≠ 0 := fun z => h2 (sg_zero.mp z)
  have z3 : sg d (a * p + d * b * q) (a * q + b * p) ≠ 0 := fun z => h3 (sg_zero.mp z)
  rcases t1 with e | e | e <;> rcases t2 with f | f | f <;> rcases t3 with g | g | g <;> simp_all
theorem sg_scale {d a b k : Int} (h : IsRoot d) (hk : 0 < k) : sg d (k * a) (k * b) = sg d a b := by
  have e := sg_mul (a := k) (b := 0) (p := a) (q := b) h
  have e1 : sg d k 0 = 1 := by unfold sg; rw [if_neg (by omega), if_pos (by omega)]
  rw [e1] at e
  simpa using e
end NM
set_option linter.all false
set_option maxRecDepth 100000
set_option maxHeartbeats 4000000
namespace NM
structure Rep (x : N3) (A B C : Int) : Prop where
  c : C ≠ 0
  a : x.a * C = A * x.c
  b : x.b * C = B * x.c
section
variable {x y : N3} {A B C A' B' C' d : Int}
theorem rep_self (h : Ok x) : Rep x x.a x.b x.c := ⟨h.cn, rfl, rfl⟩
theorem rep_low {a b c : Int} (h : c ≠ 0) : Rep (low a b c) a b c := by
  obtain ⟨k, hk, _, p1, p2, p3, _⟩ := low_spec a b h
  generalize low a b c = z at *
  exact ⟨h, by grind, by grind⟩
theorem Rep.eq (ox : Ok x) (oy : Ok y) (h : Rep x A B C) (g : Rep y A' B' C') (e1 : A * C' = A' * C) (e2 : B * C' = B' * C) : x = y := by
  have hc : C * C' ≠ 0 := Int.mul_ne_zero h.c g.c
  obtain ⟨_, h1, h2⟩ := h
  obtain ⟨_, g1, g2⟩ := g
  exact ox.same oy (Int.eq_of_mul_eq_mul_right hc (by grind)) (Int.eq_of_mul_eq_mul_right hc (by grind))
theorem Rep.mate (h : Rep x A B C) : Rep (mate x) A (-B) C := ⟨h.c, h.a, by show -x.b * C = -B * x.c; have := h.b; grind⟩
theorem Rep.minus (h : Rep x A B C) : Rep (minus x) (-A) (-B) C := ⟨h.c, by show -x.a * C = -A * x.c; have := h.a; grind, by show -x.b * C = -B * x.c; have := h.b; grind⟩
theorem Rep.plus (ox : Ok x) (oy : Ok y) (h : Rep x A B C) (g : Rep y A' B' C') : Rep (plus x y) (A * C' + A' * C) (B * C' + B' * C) (C * C') := by
  have hc := mulc ox oy
  obtain ⟨_, q1, q2⟩ := rep_low (a := x.a * y.c + y.a * x.c) (b := x.b * y.c + y.b * x.c) hc
  obtain ⟨hc1, h1, h2⟩ := h
  obtain ⟨hc2, g1, g2⟩ := g
  change (NM.plus x y).a * (x.c * y.c) = _ * (NM.plus x y).c at q1
  change (NM.plus x y).b * (x.c * y.c) = _ * (NM.plus x y).c at q2
  generalize NM.plus x y = z at *
  exact ⟨Int.mul_ne_zero hc1 hc2, Int.eq_of_mul_eq_mul_right hc (by grind), Int.eq_of_mul_eq_mul_right hc (by grind)⟩
theorem Rep.less (ox : Ok x) (oy : Ok y) (h : Rep x A B C) (g : Rep y A' B' C') : Rep (less x y) (A * C' - A' * C) (B * C' - B' * C) (C * C') := by
  have hc := mulc ox oy
  obtain ⟨_, q1, q2⟩ := rep_low (a := x.a * y.c - y.a * x.c) (b := x.b * y.c - y.b * x.c) hc
  obtain ⟨hc1, h1, h2⟩ := h
  obtain ⟨hc2, g1, g2⟩ := g
  change (NM.less x y).a * (x.c * y.c) = _ * (NM.less x y).c at q1
  change (NM.less x y).b * (x.c * y.c) = _ * (NM.less x y).c at q2
  generalize NM.less x y = z at *
  exact ⟨Int.mul_ne_zero hc1 hc2, Int.eq_of_mul_eq_mul_right hc (by grind), Int.eq_of_mul_eq_mul_right hc (by grind)⟩
theorem Rep.times (ox : Ok x) (oy : Ok y) (h : Rep x A B C) (g : Rep y A' B' C') : Rep (times d x y) (A * A' + d * B * B') (A * B' + B * A') (C * C') := by
  have hc := mulc ox oy
  obtain ⟨_, q1, q2⟩ := rep_low (a := x.a * y.a + d * x.b * y.b) (b := x.a * y.b + x.b * y.a) hc
  obtain ⟨hc1, h1, h2⟩ := h
  obtain ⟨hc2, g1, g2⟩ := g
  change (NM.times d x y).a * (x.c * y.c) = _ * (NM.times d x y).c at q1
  change (NM.times d x y).b * (x.c * y.c) = _ * (NM.times d x y).c at q2
  generalize NM.times d x y = z at *
  exact ⟨Int.mul_ne_zero hc1 hc2, Int.eq_of_mul_eq_mul_right hc (by grind), Int.eq_of_mul_eq_mul_right hc (by grind)⟩
theorem Rep.norm (h : Rep x A B C) : NM.norm d x * (C * C) = (A * A - d * B * B) * (x.c * x.c) := by
  obtain ⟨_, h1, h2⟩ := h
  unfold NM.norm
  have e1 : x.a * x.a * (C * C) = A * A * (x.c * x.c) := by
    have : (x.a * C) * (x.a * C) = (A * x.c) * (A * x.c) := by rw [h1]
    grind
  have e2 : x.b * x.b * (C * C) = B * B * (x.c * x.c) := by
    have : (x.b * C) * (x.b * C) = (B * x.c) * (B * x.c) := by rw [h2]
    grind
  grind
theorem Rep.contrary (ox : Ok x) (hn : NM.norm d x ≠ 0) (h : Rep x A B C) : Rep (contrary d x) (C * A) (-C * B) (A * A - d * B * B) := by
  have hN := h.norm (d := d)
  have hcc : x.c * x.c ≠ 0 := Int.mul_ne_zero ox.cn ox.cn
  have hN0 : A * A - d * B * B ≠ 0 := fun z => by
    rw [z, Int.zero_mul] at hN
    rcases Int.mul_eq_zero.mp hN with w | w
    · exact hn w
    · rcases Int.mul_eq_zero.mp w with w | w <;> exact h.c w
  obtain ⟨_, q1, q2⟩ := rep_low (a := x.c * x.a) (b := -x.c * x.b) hn
  change (NM.contrary d x).a * NM.norm d x = _ * (NM.contrary d x).c at q1
  change (NM.contrary d x).b * NM.norm d x = _ * (NM.contrary d x).c at q2
  obtain ⟨hc1, h1, h2⟩ := h
  generalize NM.contrary d x = z at *
  generalize NM.norm d x = n at *
  generalize A * A - d * B * B = m at *
  refine ⟨hN0, ?_, ?_⟩
  · have e : z.a * m * (x.c * x.c) = C * A * z.c * (x.c * x.c) := by grind
    exact Int.eq_of_mul_eq_mul_right hcc e
  · have e : z.b * m * (x.c * x.c) = -C * B * z.c * (x.c * x.c) := by grind
    exact Int.eq_of_mul_eq_mul_right hcc e
theorem Rep.sg (hd : IsRoot d) (ox : Ok x) (h : Rep x A B C) (hC : 0 < C) : sg d x.a x.b = NM.sg d A B := by
  have e1 := sg_scale (a := x.a) (b := x.b) hd hC
  have e2 := sg_scale (a := A) (b := B) hd ox.c
  rw [show C * x.a = x.c * A by have := h.a; grind, show C * x.b = x.c * B by have := h.b; grind] at e1
  rw [← e1, e2]
end
end NM
set_option linter.all false
set_option maxRecDepth 100000
set_option maxHeartbeats 4000000
namespace NM
def lean (d : Int) (x : N3) : N3 := times d (mate x) (contrary d x)
def leanF (d : Int) (x : N3) : N3 := times d (times d (plus x (mate x)) (plus x (mate x))) (contrary d (times d x (mate x)))
section
variable {d : Int} {x y z : N3}
theorem sg_lowP {a b c : Int} (h : IsRoot d) (hc : 0 < c) : sg d (low a b c).a (low a b c).b = sg d a b := (rep_low (show c ≠ 0 by omega)).sg h (low_ok _ _ (by omega)) hc
theorem sg_timesP (h : IsRoot d) (ox : Ok x) (oy : Ok y) : sg d (times d x y).a (times d x y).b = sg d x.a x.b * sg d y.a y.b := by
  unfold times
  rw [sg_lowP h (Int.mul_pos ox.c oy.c), sg_mul h]
theorem sg_one1 : sg d one.a one.b = 1 := by
  unfold one sg
  rw [if_neg (by simp), if_pos (by simp)]
theorem pos_norm (h : IsRoot d) (ox : Ok x) (hx : sg d x.a x.b = 1) : norm d x ≠ 0 := h.norm ox (fun e => by subst e; have : sg d nought.a nought.b = 0 := sg_zero.mpr ⟨rfl, rfl⟩; omega)
theorem times_contrary (ox : Ok x) (hn : norm d x ≠ 0) : times d x (contrary d x) = one := by
  have oc := ok_contrary hn
  exact ((rep_self ox).times ox oc ((rep_self ox).contrary ox hn)).eq (ok_times ox oc) ok_one (rep_self ok_one) (by simp only [one]; grind) (by simp only [one]; grind)
theorem sg_contrary (h : IsRoot d) (ox : Ok x) (hx : sg d x.a x.b = 1) : sg d (contrary d x).a (contrary d x).b = 1 := by
  have hn := pos_norm h ox hx
  have e := sg_timesP h ox (ok_contrary hn)
  rw [times_contrary ox hn, sg_one1, hx] at e
  omega
theorem sg_mate (h : IsRoot d) (ox : Ok x) (hx : sg d x.a x.b = 1) : sg d x.a (-x.b) = sg d (norm d x) 0 := by
  have e := sg_mul (a := x.a) (b := x.b) (p := x.a) (q := -x.b) h
  rw [hx, Int.one_mul] at e
  rw [← e]
  unfold norm
  congr 1 <;> grind
theorem sg_int {n : Int} : sg d n 0 = if n = 0 then 0 else if 0 < n then 1 else -1 := by
  unfold sg
  by_cases h : n = 0
  · simp [h]
  · rcases Int.lt_or_gt_of_ne h with z | z
    · rw [if_neg (by omega), if_neg (by omega), if_pos (by omega), if_neg h, if_neg (by omega)]
    · rw [if_neg (by omega), if_pos (by omega), if_neg h, if_pos (by omega)]
theorem sg_root {n : Int} : sg d 0 n = if n = 0 then 0 else if 0 < n then 1 else -1 := by
  unfold sg
  by_cases h : n = 0
  · simp [h]
  · rcases Int.lt_or_gt_of_ne h with z | z
    · rw [if_neg (by omega), if_neg (by omega), if_pos (by omega), if_neg h, if_neg (by omega)]
    · rw [if_neg (by omega), if_pos (by omega), if_neg h, if_pos (by omega)]
def W (x y : N3) : Int := x.b * y.a - x.a * y.b
theorem Rep.congr {A B C A' B' C' : Int} (h : Rep x A B C) (e1 : A = A') (e2 : B = B') (e3 : C = C') : Rep x A' B' C' := by subst e1 e2 e3; exact h
theorem Rep.neg {A B C : Int} (h : Rep x A B C) : Rep x (-A) (-B) (-C) := ⟨by have := h.c; omega, by rw [Int.mul_neg, Int.neg_mul, h.a], by rw [Int.mul_neg, Int.neg_mul, h.b]⟩
structure Comb (z x y : N3) : Prop where
  ex : ∃ p q C : Int, 0 < p ∧ 0 < q ∧ 0 < C ∧ Rep z (p * x.a + q * y.a) (p * x.b + q * y.b) C
theorem comb_plus (ox : Ok x) (oy : Ok y) : Comb (plus x y) x y :=
  ⟨y.c, x.c, x.c * y.c, oy.c, ox.c, Int.mul_pos ox.c oy.c, by
    have r := (rep_self ox).plus ox oy (rep_self oy)
    exact ⟨r.c, by have := r.a; grind, by have := r.b; grind⟩⟩
theorem Comb.pos (hd : IsRoot d) (oz : Ok z) (h : Comb z x y) (hx : sg d x.a x.b = 1) (hy : sg d y.a y.b = 1) : sg d z.a z.b = 1 := by
  obtain ⟨p, q, C, hp, hq, hC, r⟩ := h.ex
  rw [r.sg hd oz hC, sg_one hd]
  refine P_add hd ?_ ?_
  · rw [← sg_one hd, sg_scale hd hp]; exact hx
  · rw [← sg_one hd, sg_scale hd hq]; exact hy
end
end NM
set_option Elab.async false
set_option linter.all false
set_option maxRecDepth 100000
set_option maxHeartbeats 4000000
namespace L2.DL
open PySem PySem.Spec PyProof.Rows
abbrev Mu := Addr → Option (List PyData)
abbrev PQ := PySem.W.Frag → V → Mu → Hp → Prop
inductive D where
  | v (x : PyData)
  | m (a : Addr)
  | s (ns : List Int)
  /-- an object that is handed on -/
  | o (a : Addr)
  /-- a thing of which something is known that stays -/
  | q (P : PQ)
abbrev Rho := List (Option D)
def muSet (μ : Mu) (a : Addr) (ds : List PyData) : Mu := fun b => if b = a then some ds else μ b
theorem muSet_same {μ : Mu} {a : Addr} {ds} : muSet μ a ds a = some ds := by unfold muSet; rw [if_pos rfl]
theorem muSet_ne {μ : Mu} {a b : Addr} {ds} (h : b ≠ a) : muSet μ a ds b = μ b := by unfold muSet; rw [if_neg h]
theorem muSet_set {μ : Mu} {a : Addr} {ds es} : muSet (muSet μ a ds) a es = muSet μ a es := by
  funext b; unfold muSet; split <;> rfl
mutual
inductive Rp (K : PySem.W.Frag) (μ : Mu) (H : Hp) : PyData → V → Prop
  | none : Rp K μ H .none .non
  | bool (b : Bool) : Rp K μ H (.bool b) (.bl b)
  | int (i : Int) : Rp K μ H (.int i) (.int i)
  | str (x : Str) : Rp K μ H (.str x) (.str x)
  | list {a : Addr} {xs : List V} {ds : List PyData} : H a = some (.lst xs) → μ a = Option.none → RpL K μ H ds xs → Rp K μ H (.list ds) (.ref a)
  | tuple {a : Addr} {xs : List V} {ds : List PyData} : SqT K H a xs → RpL K μ H ds xs → Rp K μ H (.tuple ds) (.ref a)
inductive RpL (K : PySem.W.Frag) (μ : Mu) (H : Hp) : List PyData → List V → Prop
  | nil : RpL K μ H [] []
  | cons {d : PyData} {v : V} {ds : List PyData} {vs : List V} : Rp K μ H d v → RpL K μ H ds vs → RpL K μ H (d :: ds) (v :: vs)
end
def NT : HO → Prop
  | .tbl _ => False
  | _ => True
structure Ext (K : PySem.W.Frag) (μ : Mu) (H : Hp) (μ' : Mu) (H' : Hp) : Prop where
  keep : ∀ b o, H b = some o → μ b = none → NT o → H' b = some o
  tb : ∀ b ps, H b = some (.tbl ps) → μ b = none → ∃ ps', H' b = some (.tbl ps')
  dom : ∀ b ds, μ b = some ds → ∃ es, μ' b = some es
  fresh : ∀ b, μ b = none → (H b ≠ none ∨ K.lookup b ≠ none) → μ' b = none
def RpD (K : PySem.W.Frag) (μ : Mu) (H : Hp) : D → V → Prop
  | .v x, u => Rp K μ H x u
  | .m a, u => u = .ref a ∧ ∃ ds, μ a = some ds
  | .s ns, u => ∃ a, u = .ref a ∧ SqL K H a (ns.map V.int) ∧ μ a = none
  | .o a, u => u = .ref a
  | .q P, u => ∀ μ' H', Ext K μ H μ' H' → P K u μ' H'
def codeAt (c : Addr) (q : Str) (h : Heap) : Prop := ∃ o vs t, h.get? c = some o ∧ o.data = .fields vs ∧ vs[1]? = some (.str q t)
abbrev lamQual (q : Str) : Str := (q ++ ".<locals>.") ++ "<lambda>"
def TabG (H : Hp) (P : Addr) (q : Str) : Prop := ∃ ps : Array Value, H P = some (.tbl ps) ∧ TriplesOk ps.toList ∧ ∀ pos cv, codeAmong pos ps.toList = some cv → ∃ c, cv = .ref c ∧ H c = some (.ext (codeAt c (lamQual q)))
def Tabs (K : PySem.W.Frag) (H : Hp) : Prop := ∀ c o P q, K.lookup c = some o → lamCode o = some (P, q) → TabG H P q
structure MuOk (K : PySem.W.Frag) (μ : Mu) (H : Hp) : Prop where
  lst : ∀ a ds, μ a = some ds → ∃ xs, H a = some (.lst xs) ∧ RpL K μ H ds xs
  tab : Tabs K H
instance {K : PySem.W.Frag} {μ : Mu} {H : Hp} : CoeFun (MuOk K μ H) fun _ => ∀ a ds, μ a = some ds → ∃ xs, H a = some (.lst xs) ∧ RpL K μ H ds xs := ⟨MuOk.lst⟩
theorem Tabs.of {K : PySem.W.Frag} {H H1 : Hp} (t : Tabs K H) (s : ∀ b o, H b = some o → (∀ xs, o ≠ .lst xs) → H1 b = some o) : Tabs K H1 := fun c o P q h1 h2 => by
  obtain ⟨ps, a1, a2, a3⟩ := t c o P q h1 h2
  exact ⟨ps, s _ _ a1 (fun _ z => nomatch z), a2, fun pos cv e => let ⟨c, q1, q2⟩ := a3 pos cv e; ⟨c, q1, s _ _ q2 (fun _ z => nomatch z)⟩⟩
def RhoOk (K : PySem.W.Frag) (μ : Mu) (H : Hp) (ρ : Rho) (σ : St) : Prop :=
  ρ.length = σ.length ∧ ∀ (i : Nat) (d : D), ρ[i]? = some (some d) → ∃ u, σ[i]? = some (some u) ∧ RpD K μ H d u
structure St0 (K : PySem.W.Frag) (H : Hp) (ρ : Rho) (μ : Mu) (σ : St) : Prop where
  mu : MuOk K μ H
  rho : RhoOk K μ H ρ σ
section
variable {K : PySem.W.Frag} {μ μ1 μ2 : Mu} {H H1 H2 : Hp}
theorem Ext.refl : Ext K μ H μ H := ⟨fun _ _ h _ _ => h, fun _ ps h _ => ⟨ps, h⟩, fun _ ds h => ⟨ds, h⟩, fun _ h _ => h⟩
theorem Ext.trans (a : Ext K μ H μ1 H1) (b : Ext K μ1 H1 μ2 H2) : Ext K μ H μ2 H2 where
  keep := fun c o h n t => b.keep c o (a.keep c o h n t) (a.fresh c n (.inl (by rw [h]; exact fun z => nomatch z))) t
  tb := fun c ps h n => by
    obtain ⟨ps1, h1⟩ := a.tb c ps h n
    exact b.tb c ps1 h1 (a.fresh c n (.inl (by rw [h]; exact fun z => nomatch z)))
  dom := fun c ds h => let ⟨es, q⟩ := a.dom c ds h; b.dom c es q
  fresh := fun c n h => by
    refine b.fresh c (a.fresh c n h) ?_
    rcases h with h | h
    · cases q : H c with
      | none => exact absurd q h
      | some o =>
        by_cases t : NT o
        · exact .inl (by rw [a.keep c o q n t]; exact fun z => nomatch z)
        · cases o with
          | tbl ps =>
            obtain ⟨ps1, h1⟩ := a.tb c ps q n
            exact .inl (by rw [h1]; exact fun z => nomatch z)
          | _ => exact absurd trivial t
    · exact .inr h
theorem Ext.of_same (s : Same H H1) : Ext K μ H μ H1 := ⟨fun b o h _ _ => s b o h, fun b ps h _ => ⟨ps, s b _ h⟩, fun _ ds h => ⟨ds, h⟩, fun _ h _ => h⟩
theorem MuOk.not {a : Addr} {o : HO} (ok : MuOk K μ H) (h : H a = some o) (n : ∀ xs, o ≠ .lst xs) : μ a = none := by
  cases q : μ a with
  | none => rfl
  | some ds =>
    obtain ⟨ys, e, _⟩ := ok a ds q
    rw [h] at e
    exact absurd (Option.some.inj e) (n ys)
theorem MuOk.free {a : Addr} (ok : MuOk K μ H) (h : H a = none) : μ a = none := by
  cases q : μ a with
  | none => rfl
  | some ds =>
    obtain ⟨ys, e, _⟩ := ok a ds q
    rw [h] at e; cases e
theorem sqT_ext {a : Addr} {xs : List V} (ok : MuOk K μ H) (e : Ext K μ H μ1 H1) (h : SqT K H a xs) : SqT K H1 a xs := by
  rcases h with (h | ⟨o, h⟩) | h
  · exact .inl (.inl (e.keep _ _ h (ok.not h fun _ z => nomatch z) trivial))
  · exact .inl (.inr ⟨o, e.keep _ _ h (ok.not h fun _ z => nomatch z) trivial⟩)
  · exact .inr h
theorem sqL_ext {a : Addr} {xs : List V} (e : Ext K μ H μ1 H1) (h : SqL K H a xs) (n : μ a = none) : SqL K H1 a xs ∧ μ1 a = none := by
  rcases h with (h | ⟨o, h⟩) | h
  · exact ⟨.inl (.inl (e.keep _ _ h n trivial)), e.fresh _ n (.inl (by rw [h]; exact fun z => nomatch z))⟩
  · exact ⟨.inl (.inr ⟨o, e.keep _ _ h n trivial⟩), e.fresh _ n (.inl (by rw [h]; exact fun z => nomatch z))⟩
  · obtain ⟨o, its, k, hk, r⟩ := id h
    exact ⟨.inr h, e.fresh _ n (.inr (by rw [hk]; exact fun z => nomatch z))⟩
mutual
theorem Rp.ext {d : PyData} {u : V} (ok : MuOk K μ H) (e : Ext K μ H μ1 H1) : Rp K μ H d u → Rp K μ1 H1 d u
  | .none => .none
  | .bool b => .bool b
  | .int i => .int i
  | .str x => .str x
  | .list h n r => .list (e.keep _ _ h n trivial) (e.fresh _ n (.inl (by rw [h]; exact fun z => nomatch z))) (RpL.ext ok e r)
  | .tuple h r => .tuple (sqT_ext ok e h) (RpL.ext ok e r)
theorem RpL.ext {ds : List PyData} {us : List V} (ok : MuOk K μ H) (e : Ext K μ H μ1 H1) : RpL K μ H ds us → RpL K μ1 H1 ds us
  | .nil => .nil
  | .cons h r => .cons (Rp.ext ok e h) (RpL.ext ok e r)
end
theorem RpD.ext {d : D} {u : V} (ok : MuOk K μ H) (e : Ext K μ H μ1 H1) (r : RpD K μ H d u) : RpD K μ1 H1 d u := by
  cases d with
  | v x => exact Rp.ext ok e r
  | m a => obtain ⟨h, ds, q⟩ := r; exact ⟨h, e.dom a ds q⟩
  | s ns => obtain ⟨a, h, q, n⟩ := r; exact ⟨a, h, (sqL_ext e q n).1, (sqL_ext e q n).2⟩
  | o a => exact r
  | q P => exact fun μ' H' e' => r μ' H' (e.trans e')
theorem RhoOk.ext {ρ : Rho} {σ : St} (ok : MuOk K μ H) (e : Ext K μ H μ1 H1) (r : RhoOk K μ H ρ σ) : RhoOk K μ1 H1 ρ σ :=
  ⟨r.1, fun i d h => let ⟨u, h1, h2⟩ := r.2 i d h; ⟨u, h1, h2.ext ok e⟩⟩
theorem RpL.length {ds : List PyData} {us : List V} : RpL K μ H ds us → ds.length = us.length
  | .nil => rfl
  | .cons _ r => congrArg (· + 1) (RpL.length r)
theorem RpL.get {ds : List PyData} {us : List V} : ∀ {i : Nat} {d : PyData}, RpL K μ H ds us → ds[i]? = some d → ∃ u, us[i]? = some u ∧ Rp K μ H d u
  | _, _, .nil, h => by simp at h
  | 0, _, .cons r _, h => by simp at h; subst h; exact ⟨_, rfl, r⟩
  | i + 1, d, .cons _ t, h => by
    obtain ⟨u, h1, h2⟩ := RpL.get (i := i) (d := d) t (by simpa using h)
    exact ⟨u, by simpa using h1, h2⟩
theorem RpL.append {ds es : List PyData} {us ws : List V} : RpL K μ H ds us → RpL K μ H es ws → RpL K μ H (ds ++ es) (us ++ ws)
  | .nil, s => s
  | .cons r t, s => .cons r (RpL.append t s)
theorem RpL.take {ds : List PyData} {us : List V} : ∀ (n : Nat), RpL K μ H ds us → RpL K μ H (ds.take n) (us.take n)
  | 0, _ => by simp; exact .nil
  | _ + 1, .nil => by simp; exact .nil
  | n + 1, .cons r t => .cons r (RpL.take n t)
theorem RpL.drop {ds : List PyData} {us : List V} : ∀ (n : Nat), RpL K μ H ds us → RpL K μ H (ds.drop n) (us.drop n)
  | 0, r => r
  | _ + 1, .nil => by simp; exact .nil
  | n + 1, .cons _ t => RpL.drop n t
theorem RpL.reverse {ds : List PyData} {us : List V} : RpL K μ H ds us → RpL K μ H ds.reverse us.reverse
  | .nil => .nil
  | .cons r t => by rw [List.reverse_cons, List.reverse_cons]; exact (RpL.reverse t).append (.cons r .nil)
theorem RpL.set {ds : List PyData} {us : List V} {d : PyData} {u : V} (q : Rp K μ H d u) : ∀ (i : Nat), RpL K μ H ds us → RpL K μ H (ds.set i d) (us.set i u)
  | _, .nil => .nil
  | 0, .cons _ t => .cons q t
  | i + 1, .cons r t => .cons r (RpL.set q i t)
theorem atI_rp {ds : List PyData} {us : List V} {i : Int} {d : PyData} (r : RpL K μ H ds us) (h : atI ds i = some d) : ∃ u, atI us i = some u ∧ Rp K μ H d u := by
  unfold atI at h ⊢
  rw [← r.length]
  cases q : ixN ds.length i with
  | none => rw [q] at h; cases h
  | some j =>
    rw [q] at h
    exact r.get h
abbrev DK := D → Mu → Prop
abbrev DTE := Rho → Mu → DK → Prop
abbrev DTT := Rho → Mu → (Bool → Mu → Prop) → Prop
abbrev DTA := Rho → Mu → (List D → Mu → Prop) → Prop
structure DEnds where
  nx : Rho → Mu → Prop
  rt : DK
  bk : Rho → Mu → Prop := fun _ _ => False
  ct : Rho → Mu → Prop := fun _ _ => False
abbrev DTS := DEnds → Rho → Mu → Prop
inductive RpDs (K : PySem.W.Frag) (μ : Mu) (H : Hp) : List D → List V → Prop
  | nil : RpDs K μ H [] []
  | cons {d : D} {u : V} {ds : List D} {us : List V} : RpD K μ H d u → RpDs K μ H ds us → RpDs K μ H (d :: ds) (u :: us)
theorem RpDs.ext {ds : List D} {us : List V} (ok : MuOk K μ H) (e : Ext K μ H μ1 H1) : RpDs K μ H ds us → RpDs K μ1 H1 ds us
  | .nil => .nil
  | .cons h r => .cons (h.ext ok e) (RpDs.ext ok e r)
theorem RpDs.length {ds : List D} {us : List V} : RpDs K μ H ds us → ds.length = us.length
  | .nil => rfl
  | .cons _ r => congrArg (· + 1) (RpDs.length r)
end
def LiftE (K : PySem.W.Frag) (t : TE) (td : DTE) : Prop := ∀ (σ : St) (H : Hp) (ρ : Rho) (μ : Mu) (Qd : DK) (Q : VK), St0 K H ρ μ σ → td ρ μ Qd →
  (∀ d u μ' H', Ext K μ H μ' H' → St0 K H' ρ μ' σ → RpD K μ' H' d u → Qd d μ' → Q u H') → t σ H Q
def LiftT (K : PySem.W.Frag) (t : TT) (td : DTT) : Prop := ∀ (σ : St) (H : Hp) (ρ : Rho) (μ : Mu) (Qd : Bool → Mu → Prop) (Q : Bool → Hp → Prop), St0 K H ρ μ σ → td ρ μ Qd →
  (∀ b μ' H', Ext K μ H μ' H' → St0 K H' ρ μ' σ → Qd b μ' → Q b H') → t σ H Q
def LiftA (K : PySem.W.Frag) (n : Nat) (t : TA) (td : DTA) : Prop := ∀ (σ : St) (H : Hp) (ρ : Rho) (μ : Mu) (Qd : List D → Mu → Prop) (Q : List V → Hp → Prop), St0 K H ρ μ σ → td ρ μ Qd →
  (∀ ds us μ' H', Ext K μ H μ' H' → St0 K H' ρ μ' σ → RpDs K μ' H' ds us → ds.length = n → Qd ds μ' → Q us H') → t σ H Q
def LiftS (K : PySem.W.Frag) (t : TS) (td : DTS) : Prop := ∀ (σ : St) (H : Hp) (ρ : Rho) (μ : Mu) (Dd : DEnds) (De : Ends), St0 K H ρ μ σ → td Dd ρ μ →
  (∀ σ' ρ' μ' H', Ext K μ H μ' H' → St0 K H' ρ' μ' σ' → Dd.nx ρ' μ' → De.nx σ' H') →
  (∀ d u μ' H', Ext K μ H μ' H' → MuOk K μ' H' → RpD K μ' H' d u → Dd.rt d μ' → De.rt u H') →
  (∀ σ' ρ' μ' H', Ext K μ H μ' H' → St0 K H' ρ' μ' σ' → Dd.bk ρ' μ' → De.bk σ' H') →
  (∀ σ' ρ' μ' H', Ext K μ H μ' H' → St0 K H' ρ' μ' σ' → Dd.ct ρ' μ' → De.ct σ' H') → t De σ H
def DE (X : Cx) (e : Expr) (td : DTE) : Prop := ∃ t, PE X e t ∧ LiftE X.K t td
def DT (X : Cx) (e : Expr) (td : DTT) : Prop := ∃ t, PT X e t ∧ LiftT X.K t td
def DA (X : Cx) (es : List Expr) (td : DTA) : Prop := ∃ t, PA X es t ∧ LiftA X.K es.length t td
def DS (X : Cx) (st : Stmt) (td : DTS) : Prop := ∃ t, PS X st t ∧ LiftS X.K t td
def DSs (X : Cx) (st : List Stmt) (td : DTS) : Prop := ∃ t, PSs X st t ∧ LiftS X.K t td
section
variable {X : Cx} {a b c : Expr} {ta tb tc : DTE} {pos : Pos}
def dVar (i : Nat) : DTE := fun ρ μ Q => match ρ[i]? with
  | some (some d) => Q d μ
  | _ => False
def dC (x : PyData) : DTE := fun _ μ Q => Q (.v x) μ
theorem lift_var {K : PySem.W.Frag} (i : Nat) : LiftE K (tVar i) (dVar i) := by
  intro σ H ρ μ Qd Q S h k
  unfold dVar at h
  split at h
  · rename_i d e
    obtain ⟨u, h1, h2⟩ := S.rho.2 i d e
    exact ⟨u, h1, k d u μ H .refl S h2 h⟩
  · exact h.elim
theorem dv (i : Nat) {x : Str} {pos : Pos} (hN : X.N[i]? = some x := by rfl) (hv : Vis X.env.scope x := by first | exact Or.inl rfl | exact Or.inr (Or.inl rfl) | exact Or.inr (Or.inr rfl)) (hd : (x == ("__debug__" : Str)) = false := by decide)
    (hcd : (x == ("__classdict__" : Str)) = false := by decide) : DE X (.Name x pos) (dVar i) := ⟨_, pe_var hN hv hd hcd, lift_var i⟩
theorem lift_c {K : PySem.W.Frag} {x : PyData} {u : V} (h : ∀ μ H, MuOk K μ H → Rp K μ H x u) : LiftE K (tC u) (dC x) := fun σ H ρ μ Qd Q S q k => k (.v x) u μ H .refl S (h μ H S.mu) q
theorem de_int {i j pos} : DE X (.Constant (.int i) j pos) (dC (.int i)) := ⟨_, pe_int, lift_c fun _ _ _ => .int i⟩
theorem de_bl {i j pos} : DE X (.Constant (.bool i) j pos) (dC (.bool i)) := ⟨_, pe_bl, lift_c fun _ _ _ => .bool i⟩
theorem de_non {j pos} : DE X (.Constant .none j pos) (dC .none) := ⟨_, pe_non, lift_c fun _ _ _ => .none⟩
theorem de_str {x j pos} : DE X (.Constant (.str x) j pos) (dC (.str x)) := ⟨_, pe_str, lift_c fun _ _ _ => .str x⟩
theorem de_glob {x : Str} {d : PyData} {u : V} {w : Value} {pos : Pos} (hg : Gl X x) (hm : X.mg x = some w) (r : RelV u w) (h : ∀ μ H, MuOk X.K μ H → Rp X.K μ H d u) (hd : (x == ("__debug__" : Str)) = false := by decide) : DE X (.Name x pos) (dC d) :=
  ⟨_, pe_glob hg hm r hd, lift_c h⟩
def LiftO (K : PySem.W.Frag) (rr : R2) (r : D → D → Mu → DK → Prop) : Prop := ∀ (x y : D) (ux uy : V) (H : Hp) (μ : Mu) (Qd : DK) (Q : VK), MuOk K μ H → RpD K μ H x ux → RpD K μ H y uy → r x y μ Qd →
  (∀ d u μ' H', Ext K μ H μ' H' → MuOk K μ' H' → RpD K μ' H' d u → Qd d μ' → Q u H') → rr ux uy H Q
def dOp (r : D → D → Mu → DK → Prop) (ta tb : DTE) : DTE := fun ρ μ Q => ta ρ μ fun x μ1 => tb ρ μ1 fun y μ2 => r x y μ2 Q
theorem lift_op {K : PySem.W.Frag} {rr : R2} {r} {t1 t2 : TE} (lo : LiftO K rr r) (la : LiftE K t1 ta) (lb : LiftE K t2 tb) : LiftE K (tOp rr t1 t2) (dOp r ta tb) := by
  intro σ H ρ μ Qd Q S h k
  refine la σ H ρ μ _ _ S h fun x ux μ1 H1 e1 S1 rx h1 => ?_
  refine lb σ H1 ρ μ1 _ _ S1 h1 fun y uy μ2 H2 e2 S2 ry h2 => ?_
  exact lo x y ux uy H2 μ2 _ _ S2.mu (rx.ext S1.mu e2) ry h2 fun d u μ' H' e3 ok r q => k d u μ' H' (e1.trans (e2.trans e3)) ⟨ok, S2.rho.ext S2.mu e3⟩ r q
theorem de_op {op : Operator} {rr : R2} {r} (ho : OpR X (binaryOp op) rr) (lo : LiftO X.K rr r) (ha : DE X a ta) (hb : DE X b tb) : DE X (.BinOp a op b pos) (dOp r ta tb) := by
  obtain ⟨t1, p1, l1⟩ := ha
  obtain ⟨t2, p2, l2⟩ := hb
  exact ⟨_, pe_op ho p1 p2, lift_op lo l1 l2⟩
theorem de_cmp {op : CmpOp} {rr : R2} {r} (ho : OpR X (compareOp op) rr) (lo : LiftO X.K rr r) (ha : DE X a ta) (hb : DE X b tb) (hm : behindInMarks op b = false) : DE X (.Compare a [op] [b] pos) (dOp r ta tb) := by
  obtain ⟨t1, p1, l1⟩ := ha
  obtain ⟨t2, p2, l2⟩ := hb
  exact ⟨_, pe_cmpR ho p1 p2 hm, lift_op lo l1 l2⟩
def dB (t : DTE) : DTT := fun ρ μ Q => t ρ μ fun d μ1 => match d with
  | .v (.bool k) => Q k μ1
  | _ => False
theorem lift_test {K : PySem.W.Frag} {t : TE} {td : DTE} (l : LiftE K t td) : LiftT K (tTest t) (dB td) := by
  intro σ H ρ μ Qd Q S h k
  refine l σ H ρ μ _ _ S h fun d u μ1 H1 e1 S1 r q => ?_
  split at q
  · rename_i b
    cases r
    exact ⟨b, rfl, k b μ1 H1 e1 S1 q⟩
  · exact q.elim
theorem dt_cmp {op : CmpOp} {rr : R2} {r} (ho : OpR X (compareOp op) rr) (lo : LiftO X.K rr r) (ha : DE X a ta) (hb : DE X b tb) (hm : behindInMarks op b = false) : DT X (.Compare a [op] [b] pos) (dB (dOp r ta tb)) := by
  obtain ⟨t1, p1, l1⟩ := ha
  obtain ⟨t2, p2, l2⟩ := hb
  exact ⟨_, pt_cmpR ho p1 p2 hm, lift_test (lift_op lo l1 l2)⟩
theorem dt_val {e : Expr} {td : DTE} (h : DE X e td) (he : ∀ whole, isTrue e X.env whole = (do let v ← whole; standAt e.pos; holding [v] (truthy v)) := by intro _; rfl) : DT X e (dB td) := by
  obtain ⟨t, p, l⟩ := h
  exact ⟨_, pt_val p he, lift_test l⟩
def rII (C : Int → Int → Prop) (g : Int → Int → PyData) : D → D → Mu → DK → Prop := fun x y μ Q => match x, y with
  | .v (.int i), .v (.int j) => C i j ∧ Q (.v (g i j)) μ
  | _, _ => False
theorem lo_I {K : PySem.W.Frag} {C : Int → Int → Prop} {g : Int → Int → V} {gd : Int → Int → PyData} (hg : ∀ μ H i j, Rp K μ H (gd i j) (g i j)) : LiftO K (rI C g) (rII C gd) := by
  intro x y ux uy H μ Qd Q ok rx ry h k
  unfold rII at h
  split at h
  · rename_i i j
    cases rx; cases ry
    exact ⟨i, j, rfl, rfl, h.1, k (.v _) _ μ H .refl ok (hg μ H i j) h.2⟩
  · exact h.elim
def rI00 (g : Int → Int → PyData) : D → D → Mu → DK → Prop := fun x y μ Q => match x, y with
  | .v (.int i), .v (.int j) => Q (.v (g i j)) μ
  | _, _ => False
theorem lo_I0 {K : PySem.W.Frag} {g : Int → Int → V} {gd : Int → Int → PyData} (hg : ∀ μ H i j, Rp K μ H (gd i j) (g i j)) : LiftO K (rI0 g) (rI00 gd) := by
  intro x y ux uy H μ Qd Q ok rx ry h k
  unfold rI00 at h
  split at h
  · rename_i i j
    cases rx; cases ry
    exact ⟨i, j, rfl, rfl, k (.v _) _ μ H .refl ok (hg μ H i j) h⟩
  · exact h.elim
abbrev dAdd (ta tb : DTE) : DTE := dOp (rI00 fun i j => .int (i + j)) ta tb
abbrev dSub (ta tb : DTE) : DTE := dOp (rI00 fun i j => .int (i - j)) ta tb
abbrev MulOk (i j : Int) : Prop := IntMulOk i j
abbrev dMul (ta tb : DTE) : DTE := dOp (rII MulOk fun i j => .int (i * j)) ta tb
abbrev dMod (ta tb : DTE) : DTE := dOp (rII (fun _ j => j ≠ 0) fun i j => .int (i.fmod j)) ta tb
abbrev DivOk (i j : Int) : Prop := j ≠ 0 ∧ Builtin.divisionGoesByPylong i j = false
abbrev dDiv (ta tb : DTE) : DTE := dOp (rII DivOk fun i j => .int (i.fdiv j)) ta tb
abbrev dPow (ta tb : DTE) : DTE := dOp (rII CPow fun i j => .int (i ^ j.toNat)) ta tb
theorem op_mulB : OpR X (binaryOp .Mult) (rI MulOk fun i j => .int (i * j)) := opI fun _ _ _ _ _ _ _ hc q => mul_int q hc
theorem op_divB : OpR X (binaryOp .FloorDiv) (rI DivOk fun i j => .int (i.fdiv j)) := opI fun _ _ _ _ _ _ _ hc q => floordiv_int hc.1 q (.inl hc.2)
theorem de_add (ha : DE X a ta) (hb : DE X b tb) : DE X (.BinOp a .Add b pos) (dAdd ta tb) := de_op op_add (lo_I0 fun _ _ _ _ => .int _) ha hb
theorem de_sub (ha : DE X a ta) (hb : DE X b tb) : DE X (.BinOp a .Sub b pos) (dSub ta tb) := de_op op_sub (lo_I0 fun _ _ _ _ => .int _) ha hb
theorem de_mul (ha : DE X a ta) (hb : DE X b tb) : DE X (.BinOp a .Mult b pos) (dMul ta tb) := de_op op_mulB (lo_I fun _ _ _ _ => .int _) ha hb
theorem de_mod (ha : DE X a ta) (hb : DE X b tb) : DE X (.BinOp a .Mod b pos) (dMod ta tb) := de_op op_modN (lo_I fun _ _ _ _ => .int _) ha hb
theorem de_div (ha : DE X a ta) (hb : DE X b tb) : DE X (.BinOp a .FloorDiv b pos) (dDiv ta tb) := de_op op_divB (lo_I fun _ _ _ _ => .int _) ha hb
theorem de_pow (ha : DE X a ta) (hb : DE X b tb) : DE X (.BinOp a .Pow b pos) (dPow ta tb) := de_op op_pow (lo_I fun _ _ _ _ => .int _) ha hb
abbrev rLt := rI00 fun i j => .bool (decide (i < j))
abbrev rLe := rI00 fun i j => .bool (decide (i ≤ j))
abbrev rGt := rI00 fun i j => .bool (decide (j < i))
abbrev rGe := rI00 fun i j => .bool (decide (j ≤ i))
theorem lo_B {K : PySem.W.Frag} {p : Int → Int → Bool} : LiftO K (rI0 fun i j => .bl (p i j)) (rI00 fun i j => .bool (p i j)) := lo_I0 fun _ _ _ _ => .bool _
def dNeg (ta : DTE) : DTE := fun ρ μ Q => ta ρ μ fun x μ1 => match x with
  | .v (.int i) => Q (.v (.int (-i))) μ1
  | _ => False
theorem de_neg (ha : DE X a ta) : DE X (.UnaryOp .USub a pos) (dNeg ta) := by
  obtain ⟨t1, p1, l1⟩ := ha
  refine ⟨_, pe_un un_neg p1, fun σ H ρ μ Qd Q S h k => ?_⟩
  refine l1 σ H ρ μ _ _ S h fun x ux μ1 H1 e1 S1 rx h1 => ?_
  split at h1
  · rename_i i
    cases rx
    exact ⟨i, rfl, k (.v _) _ μ1 H1 e1 S1 (Rp.int _) h1⟩
  · exact h1.elim
def dAndT (t u : DTT) : DTT := fun ρ μ Q => t ρ μ fun c μ1 => if c = true then u ρ μ1 Q else Q false μ1
def dOrT (t u : DTT) : DTT := fun ρ μ Q => t ρ μ fun c μ1 => if c = true then Q true μ1 else u ρ μ1 Q
def dNotT (t : DTT) : DTT := fun ρ μ Q => t ρ μ fun c μ1 => Q (!c) μ1
def DW (X : Cx) (e : Expr) (td : DTT) : Prop := ∃ t, PW X e t ∧ LiftT X.K t td
theorem DW.dt {e : Expr} {td : DTT} (h : DW X e td) : DT X e td := let ⟨t, p, l⟩ := h; ⟨t, p.pt, l⟩
variable {tA tB' : DTT} {rest : List Expr}
theorem dw_and1 (ha : DT X a tA) : DW X (.BoolOp .And [a] pos) tA := let ⟨t, p, l⟩ := ha; ⟨t, pw_and1 p, l⟩
theorem dw_or1 (ha : DT X a tA) : DW X (.BoolOp .Or [a] pos) tA := let ⟨t, p, l⟩ := ha; ⟨t, pw_or1 p, l⟩
theorem dw_and (ha : DT X a tA) (hb : DW X (.BoolOp .And (b :: rest) pos) tB') : DW X (.BoolOp .And (a :: b :: rest) pos) (dAndT tA tB') := by
  obtain ⟨t1, p1, l1⟩ := ha
  obtain ⟨t2, p2, l2⟩ := hb
  refine ⟨_, pw_and p1 p2, fun σ H ρ μ Qd Q S h k => ?_⟩
  refine l1 σ H ρ μ _ _ S h fun c μ1 H1 e1 S1 h1 => ?_
  cases c with
  | true =>
    refine iteT (l2 σ H1 ρ μ1 _ _ S1 (by simpa using h1) fun c μ2 H2 e2 S2 h2 => k c μ2 H2 (e1.trans e2) S2 h2)
  | false => exact iteF (k false μ1 H1 e1 S1 (by simpa using h1))
theorem dw_or (ha : DT X a tA) (hb : DW X (.BoolOp .Or (b :: rest) pos) tB') : DW X (.BoolOp .Or (a :: b :: rest) pos) (dOrT tA tB') := by
  obtain ⟨t1, p1, l1⟩ := ha
  obtain ⟨t2, p2, l2⟩ := hb
  refine ⟨_, pw_or p1 p2, fun σ H ρ μ Qd Q S h k => ?_⟩
  refine l1 σ H ρ μ _ _ S h fun c μ1 H1 e1 S1 h1 => ?_
  cases c with
  | true => exact iteT (k true μ1 H1 e1 S1 (by simpa using h1))
  | false =>
    refine iteF (l2 σ H1 ρ μ1 _ _ S1 (by simpa using h1) fun c μ2 H2 e2 S2 h2 => k c μ2 H2 (e1.trans e2) S2 h2)
theorem dt_not (ha : DT X a tA) : DT X (.UnaryOp .Not a pos) (dNotT tA) := by
  obtain ⟨t1, p1, l1⟩ := ha
  refine ⟨_, pt_not p1, fun σ H ρ μ Qd Q S h k => ?_⟩
  exact l1 σ H ρ μ _ _ S h fun c μ1 H1 e1 S1 h1 => k _ μ1 H1 e1 S1 h1
def dAndV (ta tb : DTE) : DTE := fun ρ μ Q => ta ρ μ fun x μ1 => match x with
  | .v (.bool c) => if c = true then tb ρ μ1 Q else Q (.v (.bool false)) μ1
  | _ => False
def dOrV (ta tb : DTE) : DTE := fun ρ μ Q => ta ρ μ fun x μ1 => match x with
  | .v (.bool c) => if c = true then Q (.v (.bool true)) μ1 else tb ρ μ1 Q
  | _ => False
def dNotV (ta : DTE) : DTE := fun ρ μ Q => ta ρ μ fun x μ1 => match x with
  | .v (.bool c) => Q (.v (.bool (!c))) μ1
  | _ => False
theorem de_one {op} (h : DE X a ta) : DE X (.BoolOp op [a] pos) ta := let ⟨t, p, l⟩ := h; ⟨t, pe_one p, l⟩
theorem de_and (ha : DE X a ta) (hb : DE X (.BoolOp .And (b :: rest) pos) tb) : DE X (.BoolOp .And (a :: b :: rest) pos) (dAndV ta tb) := by
  obtain ⟨t1, p1, l1⟩ := ha
  obtain ⟨t2, p2, l2⟩ := hb
  refine ⟨_, pe_and p1 p2, fun σ H ρ μ Qd Q S h k => ?_⟩
  refine l1 σ H ρ μ _ _ S h fun x ux μ1 H1 e1 S1 rx h1 => ?_
  split at h1
  · rename_i c
    cases rx
    refine ⟨c, rfl, ?_⟩
    cases c with
    | true => exact iteT (l2 σ H1 ρ μ1 _ _ S1 (by simpa using h1) fun d u μ2 H2 e2 S2 r2 h2 => k d u μ2 H2 (e1.trans e2) S2 r2 h2)
    | false => exact iteF (k (.v _) _ μ1 H1 e1 S1 (Rp.bool false) (by simpa using h1))
  · exact h1.elim
theorem de_not (ha : DE X a ta) : DE X (.UnaryOp .Not a pos) (dNotV ta) := by
  obtain ⟨t1, p1, l1⟩ := ha
  refine ⟨_, pe_not p1, fun σ H ρ μ Qd Q S h k => ?_⟩
  refine l1 σ H ρ μ _ _ S h fun x ux μ1 H1 e1 S1 rx h1 => ?_
  split at h1
  · rename_i c
    cases rx
    exact ⟨c, rfl, k (.v _) _ μ1 H1 e1 S1 (Rp.bool _) h1⟩
  · exact h1.elim
def dIf (t : DTT) (ta tb : DTE) : DTE := fun ρ μ Q => t ρ μ fun c μ1 => if c = true then ta ρ μ1 Q else tb ρ μ1 Q
theorem de_if {c : Expr} (hc : DT X c tA) (ha : DE X a ta) (hb : DE X b tb) : DE X (.IfExp c a b pos) (dIf tA ta tb) := by
  obtain ⟨t0, p0, l0⟩ := hc
  obtain ⟨t1, p1, l1⟩ := ha
  obtain ⟨t2, p2, l2⟩ := hb
  refine ⟨_, pe_ifExp p0 p1 p2, fun σ H ρ μ Qd Q S h k => ?_⟩
  refine l0 σ H ρ μ _ _ S h fun c μ1 H1 e1 S1 h1 => ?_
  cases c with
  | true => exact iteT (l1 σ H1 ρ μ1 _ _ S1 (by simpa using h1) fun d u μ2 H2 e2 S2 r2 h2 => k d u μ2 H2 (e1.trans e2) S2 r2 h2)
  | false => exact iteF (l2 σ H1 ρ μ1 _ _ S1 (by simpa using h1) fun d u μ2 H2 e2 S2 r2 h2 => k d u μ2 H2 (e1.trans e2) S2 r2 h2)
end
open PySem PySem.Spec PyProof.Rows
section
variable {K : PySem.W.Frag} {μ μ1 : Mu} {H H1 : Hp} {p : Addr}
theorem ext_new {o : HO} (h : H p = none) : Ext K μ H μ (upd H p o) :=
  ⟨fun b u e _ _ => by rw [upd_ne (ne_of_none e h)]; exact e, fun b ps e _ => ⟨ps, by rw [upd_ne (ne_of_none e h)]; exact e⟩, fun _ ds q => ⟨ds, q⟩, fun _ q _ => q⟩
theorem MuOk.ext0 (ok : MuOk K μ H) (e : Ext K μ H μ H1) (s : Same H H1) : MuOk K μ H1 := ⟨fun a ds q => by
  obtain ⟨xs, h1, h2⟩ := ok a ds q
  exact ⟨xs, s _ _ h1, h2.ext ok e⟩, ok.tab.of fun b o h _ => s b o h⟩
theorem same_upd {o : HO} (h : H p = none) : Same H (upd H p o) := fun b u q => by rw [upd_ne (ne_of_none q h)]; exact q
theorem MuOk.new {o : HO} (ok : MuOk K μ H) (h : H p = none) : MuOk K μ (upd H p o) := ok.ext0 (ext_new h) (same_upd h)
theorem St0.new {o : HO} {ρ : Rho} {σ : St} (S : St0 K H ρ μ σ) (h : H p = none) : St0 K (upd H p o) ρ μ σ := ⟨S.mu.new h, S.rho.ext S.mu (ext_new h)⟩
theorem rp_tup_new {us : List V} {ds : List PyData} (ok : MuOk K μ H) (r : RpL K μ H ds us) (h : H p = none) : Rp K μ (upd H p (.tup us)) (.tuple ds) (.ref p) :=
  .tuple (SqT.of upd_same) (r.ext ok (ext_new h))
theorem rp_lst_new {us : List V} {ds : List PyData} (ok : MuOk K μ H) (r : RpL K μ H ds us) (h : H p = none) : Rp K μ (upd H p (.lst us)) (.list ds) (.ref p) :=
  .list upd_same (ok.free h) (r.ext ok (ext_new h))
theorem ext_mut {o : HO} {ds : List PyData} (ok : MuOk K μ H) (h : H p = none) (hk : K.lookup p = none) : Ext K μ H (muSet μ p ds) (upd H p o) where
  keep := fun b u e _ _ => by rw [upd_ne (ne_of_none e h)]; exact e
  tb := fun b ps e _ => ⟨ps, by rw [upd_ne (ne_of_none e h)]; exact e⟩
  dom := fun b es q => by
    have : b ≠ p := fun z => by rw [z, ok.free h] at q; cases q
    exact ⟨es, by rw [muSet_ne this]; exact q⟩
  fresh := fun b n q => by
    have : b ≠ p := fun z => by
      rcases q with q | q
      · exact q (by rw [z]; exact h)
      · exact q (by rw [z]; exact hk)
    rw [muSet_ne this]; exact n
theorem MuOk.mut {us : List V} {ds : List PyData} (ok : MuOk K μ H) (r : RpL K μ H ds us) (h : H p = none) (hk : K.lookup p = none) : MuOk K (muSet μ p ds) (upd H p (.lst us)) := ⟨fun a es q => by
  have e := ext_mut (o := .lst us) (ds := ds) ok h hk
  by_cases ha : a = p
  · subst ha
    rw [muSet_same] at q
    cases q
    exact ⟨us, upd_same, r.ext ok e⟩
  · rw [muSet_ne ha] at q
    obtain ⟨xs, h1, h2⟩ := ok a es q
    exact ⟨xs, by rw [upd_ne ha]; exact h1, h2.ext ok e⟩, ok.tab.of fun b o e _ => by rw [upd_ne (ne_of_none e h)]; exact e⟩
theorem ext_set {o : HO} {ds es : List PyData} (h : μ p = some ds) : Ext K μ H (muSet μ p es) (upd H p o) where
  keep := fun b u e n _ => by
    have : b ≠ p := fun z => by rw [z, h] at n; cases n
    rw [upd_ne this]; exact e
  tb := fun b ps e n => by
    have : b ≠ p := fun z => by rw [z, h] at n; cases n
    exact ⟨ps, by rw [upd_ne this]; exact e⟩
  dom := fun b fs q => by
    by_cases hb : b = p
    · subst hb; exact ⟨es, muSet_same⟩
    · exact ⟨fs, by rw [muSet_ne hb]; exact q⟩
  fresh := fun b n q => by
    have : b ≠ p := fun z => by rw [z, h] at n; cases n
    rw [muSet_ne this]; exact n
theorem MuOk.set {us : List V} {ds es : List PyData} (ok : MuOk K μ H) (h : μ p = some ds) (r : RpL K μ H es us) : MuOk K (muSet μ p es) (upd H p (.lst us)) := ⟨fun a fs q => by
  have e : Ext K μ H (muSet μ p es) (upd H p (.lst us)) := ext_set h
  by_cases ha : a = p
  · subst ha
    rw [muSet_same] at q
    cases q
    exact ⟨us, upd_same, r.ext ok e⟩
  · rw [muSet_ne ha] at q
    obtain ⟨xs, h1, h2⟩ := ok a fs q
    exact ⟨xs, by rw [upd_ne ha]; exact h1, h2.ext ok e⟩, by
  obtain ⟨ys, hy, _⟩ := ok p ds h
  exact ok.tab.of fun b o e n => by
    have : b ≠ p := fun z => by rw [z, hy] at e; exact n ys (Option.some.inj e).symm
    rw [upd_ne this]; exact e⟩
end
def asData : List D → Option (List PyData)
  | [] => some []
  | .v x :: r => (asData r).map (x :: ·)
  | _ :: _ => none
theorem RpDs.data {K : PySem.W.Frag} {μ : Mu} {H : Hp} : ∀ {ds : List D} {us : List V} {xs : List PyData}, RpDs K μ H ds us → asData ds = some xs → RpL K μ H xs us
  | _, _, _, .nil, e => by cases e; exact .nil
  | .v x :: r, _, xs, .cons h t, e => by
    simp only [asData] at e
    cases q : asData r with
    | none => rw [q] at e; cases e
    | some ys => rw [q] at e; cases e; exact .cons h (RpDs.data t q)
  | .m _ :: _, _, _, .cons _ _, e => by simp [asData] at e
  | .s _ :: _, _, _, .cons _ _, e => by simp [asData] at e
  | .o _ :: _, _, _, .cons _ _, e => by simp [asData] at e
section
variable {X : Cx} {e : Expr} {es : List Expr} {te : DTE} {t : DTA} {pos : Pos}
def dNil : DTA := fun _ μ Q => Q [] μ
def dCons (ta : DTE) (tr : DTA) : DTA := fun ρ μ Q => ta ρ μ fun x μ1 => tr ρ μ1 fun xs μ2 => Q (x :: xs) μ2
theorem da_nil : DA X [] dNil := ⟨_, pa_nil, fun σ H ρ μ Qd Q S h k => k [] [] μ H .refl S .nil rfl h⟩
theorem da_cons (ha : DE X e te) (hr : DA X es t) (hs : starEach (e :: es) X.env = (false, eval e X.env) :: starEach es X.env := by rfl) : DA X (e :: es) (dCons te t) := by
  obtain ⟨t1, p1, l1⟩ := ha
  obtain ⟨t2, p2, l2⟩ := hr
  refine ⟨_, pa_cons p1 p2 hs, fun σ H ρ μ Qd Q S h k => ?_⟩
  refine l1 σ H ρ μ _ _ S h fun x ux μ1 H1 e1 S1 rx h1 => ?_
  refine l2 σ H1 ρ μ1 _ _ S1 h1 fun xs us μ2 H2 e2 S2 rs len h2 => ?_
  exact k (x :: xs) (ux :: us) μ2 H2 (e1.trans e2) S2 (.cons (rx.ext S1.mu e2) rs) (by rw [List.length_cons, List.length_cons, len]) h2
def dTup (t : DTA) : DTE := fun ρ μ Q => t ρ μ fun ds μ1 => match asData ds with
  | some xs => Q (.v (.tuple xs)) μ1
  | none => False
def dLst (t : DTA) : DTE := fun ρ μ Q => t ρ μ fun ds μ1 => match asData ds with
  | some xs => Q (.v (.list xs)) μ1
  | none => False
def dLstM (t : DTA) : DTE := fun ρ μ Q => t ρ μ fun ds μ1 => match asData ds with
  | some xs => ∀ p, μ1 p = none → Q (.m p) (muSet μ1 p xs)
  | none => False
theorem de_tup {x1} (h : DA X es t) (hl : es.length ≤ 1000 := by decide) : DE X (.Tuple es x1 pos) (dTup t) := by
  obtain ⟨t1, p1, l1⟩ := h
  refine ⟨_, pe_tup p1, fun σ H ρ μ Qd Q S h k => ?_⟩
  refine l1 σ H ρ μ _ _ S h fun ds us μ1 H1 e1 S1 rs len h1 => ?_
  cases q : asData ds with
  | none => rw [q] at h1; exact h1.elim
  | some xs =>
    rw [q] at h1
    refine ⟨Nat.le_of_lt (small1000 (by rw [← rs.length, len]; exact hl)), fun p hp => ?_⟩
    exact k (.v (.tuple xs)) _ μ1 _ (e1.trans (ext_new hp)) (S1.new hp) (rp_tup_new S1.mu (rs.data q) hp) h1
theorem de_lst (h : DA X es t) (hl : es.length ≤ 1000 := by decide) : DE X (.List es pos) (dLst t) := by
  obtain ⟨t1, p1, l1⟩ := h
  refine ⟨_, pe_lst p1, fun σ H ρ μ Qd Q S h k => ?_⟩
  refine l1 σ H ρ μ _ _ S h fun ds us μ1 H1 e1 S1 rs len h1 => ?_
  cases q : asData ds with
  | none => rw [q] at h1; exact h1.elim
  | some xs =>
    rw [q] at h1
    refine ⟨Nat.le_of_lt (small1000 (by rw [← rs.length, len]; exact hl)), fun p hp => ?_⟩
    exact k (.v (.list xs)) _ μ1 _ (e1.trans (ext_new hp)) (S1.new hp) (rp_lst_new S1.mu (rs.data q) hp) h1
def tLstK (K : PySem.W.Frag) (t : TA) : TE := fun σ H Q => t σ H fun xs H1 => xs.length ≤ sizeLine ∧ ∀ p, H1 p = none → K.lookup p = none → Q (.ref p) (upd H1 p (.lst xs))
theorem pe_lstK {t : TA} (h : PA X es t) : PE X (.List es pos) (tLstK X.K t) := by
  intro pins s σ H Q I hq
  refine wpAny_List_spliced (thn (h pos pins s σ H _ I hq) fun us s1 ⟨xs, H1, I1, r, z, q⟩ => ⟨by rw [← r.length]; exact z, ?_⟩)
  have hf : H1 s1.heap.objs.size = none := I1.hok.fresh (Nat.le_refl _)
  have hk : X.K.lookup s1.heap.objs.size = none := by
    cases c : X.K.lookup s1.heap.objs.size with
    | none => rfl
    | some o => exact absurd (Heap.lt_size (I1.kIn _ _ c)) (Nat.lt_irrefl _)
  refine ⟨.ref s1.heap.objs.size, upd H1 s1.heap.objs.size (.lst xs), I1.laid (t' := s1.toks) (fun b u e => Heap.get?_push_of_some _ e) (Nat.le_refl _) ?_, rfl, q _ hf hk⟩
  exact ⟨z, us, 0, r, Heap.get?_push_size _ rfl⟩
theorem de_lstM (h : DA X es t) (hl : es.length ≤ 1000 := by decide) : DE X (.List es pos) (dLstM t) := by
  obtain ⟨t1, p1, l1⟩ := h
  refine ⟨_, pe_lstK p1, fun σ H ρ μ Qd Q S h k => ?_⟩
  refine l1 σ H ρ μ _ _ S h fun ds us μ1 H1 e1 S1 rs len h1 => ?_
  cases q : asData ds with
  | none => rw [q] at h1; exact h1.elim
  | some xs =>
    rw [q] at h1
    refine ⟨Nat.le_of_lt (small1000 (by rw [← rs.length, len]; exact hl)), fun p hp hk => ?_⟩
    have ex := ext_mut (o := .lst us) (ds := xs) S1.mu hp hk
    exact k (.m p) _ (muSet μ1 p xs) _ (e1.trans ex) ⟨S1.mu.mut (rs.data q) hp hk, S1.rho.ext S1.mu ex⟩ ⟨rfl, xs, muSet_same⟩ (h1 p (S1.mu.free hp))
end
section
variable {X : Cx} {pins : List (Addr × Obj)} {σ : St} {H : Hp} {s : Shared} {μ : Mu}
mutual
theorem reads_of (I : Inv X pins σ H s) : ∀ {d : PyData} {x : V} {u : Value}, Rp X.K μ H d x → RelV x u → ∃ as, Reads s.heap u d as
  | _, _, _, .none, r => by cases r; exact ⟨_, .none⟩
  | _, _, _, .bool b, r => by cases r; exact ⟨_, .bool b⟩
  | _, _, _, .int i, r => by obtain ⟨t, rfl⟩ := r; exact ⟨_, .int i t⟩
  | _, _, _, .str y, r => by obtain ⟨t, rfl⟩ := r; exact ⟨_, .str y t⟩
  | _, _, _, .list h _ q, r => by
    cases r
    obtain ⟨its, rv, ⟨o, n, ho, hc, _, hd⟩, _⟩ := I.list (SqL.of h)
    obtain ⟨as, ra⟩ := readsAll_of I q rv
    exact ⟨_, .list ho hc hd (by simpa using ra)⟩
  | _, _, _, .tuple h q, r => by
    cases r
    obtain ⟨its, rv, ⟨o, ho, hc, n, hd⟩, _⟩ := I.tuple h
    obtain ⟨as, ra⟩ := readsAll_of I q rv
    exact ⟨_, .tuple ho hc hd (by simpa using ra)⟩
theorem readsAll_of (I : Inv X pins σ H s) : ∀ {ds : List PyData} {xs : List V} {us : List Value}, RpL X.K μ H ds xs → Vals xs us → ∃ as, ReadsAll s.heap us ds as
  | _, _, _, .nil, .nil => ⟨_, .nil⟩
  | _, _, _, .cons h t, .cons r q => by
    obtain ⟨as, ra⟩ := reads_of I h r
    obtain ⟨bs, rb⟩ := readsAll_of I t q
    exact ⟨_, .cons ra rb⟩
end
end
section
variable {X : Cx}
def rEqV (K : PySem.W.Frag) (neg : Bool) : R2 := fun x y H Q => ∃ μ a b, Rp K μ H a x ∧ Rp K μ H b y ∧ SeqAt.shaped a = true ∧ SeqAt.shaped b = true ∧ Q (.bl (neg ^^ PyData.eqv a b)) H
theorem op_eqD (hu : X.A.units + 64 < cLine) : OpR X (compareOp .Eq) (rEqV X.K false) := by
  intro pins s σ H x y v u Q I rx ry h
  obtain ⟨μ, a, b, ha, hb, sa, sb, q⟩ := h
  obtain ⟨as, ra⟩ := reads_of I ha rx
  obtain ⟨bs, rb⟩ := reads_of I hb ry
  exact eq_dataH ra rb sa sb hu ⟨.bl (PyData.eqv a b), H, I, rfl, by simpa using q⟩
theorem op_neD (hu : X.A.units + 64 < cLine) : OpR X (compareOp .NotEq) (rEqV X.K true) := by
  intro pins s σ H x y v u Q I rx ry h
  obtain ⟨μ, a, b, ha, hb, sa, sb, q⟩ := h
  obtain ⟨as, ra⟩ := reads_of I ha rx
  obtain ⟨bs, rb⟩ := reads_of I hb ry
  exact ne_dataH ra rb sa sb hu ⟨.bl (!PyData.eqv a b), H, I, rfl, by simpa using q⟩
def rEqD (neg : Bool) : D → D → Mu → DK → Prop := fun x y μ Q => match x, y with
  | .v a, .v b => SeqAt.shaped a = true ∧ SeqAt.shaped b = true ∧ Q (.v (.bool (neg ^^ PyData.eqv a b))) μ
  | _, _ => False
theorem lo_eqD {K : PySem.W.Frag} {neg : Bool} : LiftO K (rEqV K neg) (rEqD neg) := by
  intro x y ux uy H μ Qd Q ok rx ry h k
  unfold rEqD at h
  split at h
  · rename_i a b
    exact ⟨μ, a, b, rx, ry, h.1, h.2.1, k (.v _) _ μ H .refl ok (Rp.bool _) h.2.2⟩
  · exact h.elim
def rInV (K : PySem.W.Frag) (neg : Bool) : R2 := fun x y H Q => ∃ μ a bs, Rp K μ H a x ∧ Rp K μ H (.list bs) y ∧ PyData.canLayAll0 bs = true ∧ a.canLay0 = true ∧ PyData.depth a ≤ 60 ∧ Q (.bl (neg ^^ bs.any fun b => PyData.eqv b a)) H
theorem op_inD (hu : X.A.units + 64 < cLine) : OpR X (compareOp .In) (rInV X.K false) := by
  intro pins s σ H x y v u Q I rx ry h
  obtain ⟨μ, a, b, ha, hb, sb, sa, dp, q⟩ := h
  obtain ⟨as, ra⟩ := reads_of I ha rx
  obtain ⟨bs, rb⟩ := reads_of I hb ry
  refine SeqAt.in_list_reads rb ra sb sa (by omega) ⟨.bl (b.any fun z => PyData.eqv z a), H, I, rfl, by simpa using q⟩
theorem op_notInD (hu : X.A.units + 64 < cLine) : OpR X (compareOp .NotIn) (rInV X.K true) := by
  intro pins s σ H x y v u Q I rx ry h
  obtain ⟨μ, a, b, ha, hb, sb, sa, dp, q⟩ := h
  obtain ⟨as, ra⟩ := reads_of I ha rx
  obtain ⟨bs, rb⟩ := reads_of I hb ry
  refine SeqAt.notIn_list_reads rb ra sb sa (by omega) ⟨.bl (!b.any fun z => PyData.eqv z a), H, I, rfl, by simpa using q⟩
def rInD (neg : Bool) : D → D → Mu → DK → Prop := fun x y μ Q => match x, y with
  | .v a, .v (.list bs) => PyData.canLayAll0 bs = true ∧ a.canLay0 = true ∧ PyData.depth a ≤ 60 ∧ Q (.v (.bool (neg ^^ bs.any fun b => PyData.eqv b a))) μ
  | _, _ => False
theorem lo_inD {K : PySem.W.Frag} {neg : Bool} : LiftO K (rInV K neg) (rInD neg) := by
  intro x y ux uy H μ Qd Q ok rx ry h k
  unfold rInD at h
  split at h
  · rename_i a b
    exact ⟨μ, a, b, rx, ry, h.1, h.2.1, h.2.2.1, k (.v _) _ μ H .refl ok (Rp.bool _) h.2.2.2⟩
  · exact h.elim
end
open PySem PySem.Spec PyProof.Rows
section
variable {X : Cx} {a b e : Expr} {es : List Expr} {ta tb te : DTE} {t : DTA} {p pos : Pos}
def rIxD : D → D → Mu → DK → Prop := fun x y μ Q => match x, y with
  | .v (.list xs), .v (.int i) => (match atI xs i with | some d => Q (.v d) μ | none => False)
  | .v (.tuple xs), .v (.int i) => (match atI xs i with | some d => Q (.v d) μ | none => False)
  | .m l, .v (.int i) => (match μ l with
    | some xs => (match atI xs i with | some d => Q (.v d) μ | none => False)
    | none => False)
  | .s ns, .v (.int i) => (match atI ns i with | some d => Q (.v (.int d)) μ | none => False)
  | _, _ => False
theorem lo_ix {K : PySem.W.Frag} : LiftO K (rIx K) rIxD := by
  intro x y ux uy H μ Qd Q ok rx ry h k
  unfold rIxD at h
  split at h
  · rename_i xs i
    cases ry
    cases q : atI xs i with
    | none => rw [q] at h; exact h.elim
    | some d =>
      rw [q] at h
      cases rx with
      | list hs hn r =>
        obtain ⟨u, e1, e2⟩ := atI_rp r q
        exact .inl ⟨_, _, i, u, rfl, rfl, SqL.of hs, e1, k (.v d) u μ H .refl ok e2 h⟩
  · rename_i xs i
    cases ry
    cases q : atI xs i with
    | none => rw [q] at h; exact h.elim
    | some d =>
      rw [q] at h
      cases rx with
      | tuple hs r =>
        obtain ⟨u, e1, e2⟩ := atI_rp r q
        exact .inr (.inl ⟨_, _, i, u, rfl, rfl, hs, e1, k (.v d) u μ H .refl ok e2 h⟩)
  · rename_i l i
    cases ry
    obtain ⟨rfl, ds, hm⟩ := rx
    rw [hm] at h
    simp only at h
    cases q : atI ds i with
    | none => rw [q] at h; exact h.elim
    | some d =>
      rw [q] at h
      obtain ⟨us, hl, r⟩ := ok l ds hm
      obtain ⟨u, e1, e2⟩ := atI_rp r q
      exact .inl ⟨_, _, i, u, rfl, rfl, SqL.of hl, e1, k (.v d) u μ H .refl ok e2 h⟩
  · rename_i ns i
    cases ry
    obtain ⟨a, rfl, hs, hn⟩ := rx
    cases q : atI ns i with
    | none => rw [q] at h; exact h.elim
    | some d =>
      rw [q] at h
      have e1 : atI (ns.map V.int) i = some (.int d) := by
        unfold atI at q ⊢
        rw [List.length_map]
        cases z : ixN ns.length i with
        | none => rw [z] at q; cases q
        | some j =>
          rw [z] at q
          simp only [Option.bind_some, List.getElem?_map] at q ⊢
          rw [q] <;> rfl
      exact .inl ⟨_, _, i, _, rfl, rfl, hs, e1, k (.v (.int d)) _ μ H .refl ok (Rp.int d) h⟩
  · exact h.elim
theorem de_ix (ha : DE X a ta) (hb : DE X b tb) (hs : PlainIx b) : DE X (.Subscript a b pos) (dOp rIxD ta tb) := by
  obtain ⟨t1, p1, l1⟩ := ha
  obtain ⟨t2, p2, l2⟩ := hb
  exact ⟨_, pe_ix ix_seq p1 p2 hs, lift_op lo_ix l1 l2⟩
theorem cat_tup0 {prog : Program} {w : World} {A : Around} {E : Value → Shared → Prop} {s : Shared} {t b : Addr} {ws : List Value} {Q : Value → Shared → Prop} (ht : IsTup s.heap t #[]) (hb : IsTup s.heap b ws.toArray)
    (h1 : Q (.ref b) s) : wpAny (model prog w) A (binaryOp .Add (.ref t) (.ref b)) Q E s := by
  obtain ⟨⟨cls, dd, data, sl⟩, ho, hc, n, hd⟩ := id ht
  obtain ⟨⟨cls2, dd2, data2, sl2⟩, ho2, hc2, n2, hd2⟩ := id hb
  simp only at hc hd hc2 hd2
  subst hc hd hc2 hd2
  exact concat_meets ⟨_, ho, rfl⟩ ⟨_, ho2, rfl⟩ noFill_tuple_add seq_tuple_add PySem.F.slot_tuple_add PySem.F.entry_tuple_add (PySem.F.args_tuple_add_2 _ _)
    (tuple_addW0 t b #[] ws.toArray n n2 dd dd2 sl sl2 rfl) ⟨ho, ho2, h1⟩
def lstOf (μ : Mu) : D → Option (List PyData)
  | .v (.list xs) => some xs
  | .m l => μ l
  | _ => none
theorem lstOf_rp {K : PySem.W.Frag} {μ : Mu} {H : Hp} {x : D} {u : V} {xs : List PyData} (ok : MuOk K μ H) (r : RpD K μ H x u) (h : lstOf μ x = some xs) : ∃ a us, u = .ref a ∧ H a = some (.lst us) ∧ RpL K μ H xs us := by
  cases x with
  | v d =>
    cases d <;> simp only [lstOf] at h <;> try cases h
    cases r with
    | list hs _ q => exact ⟨_, _, rfl, hs, q⟩
  | m l =>
    obtain ⟨rfl, ds, hm⟩ := r
    obtain ⟨us, hl, q⟩ := ok l xs h
    exact ⟨l, us, rfl, hl, q⟩
  | s ns => cases h
  | o a => cases h
  | q P => cases h
def rCatD : D → D → Mu → DK → Prop := fun x y μ Q => match lstOf μ x, lstOf μ y with
  | some xs, some ys => xs.length + ys.length ≤ 1000 ∧ Q (.v (.list (xs ++ ys))) μ
  | _, _ => False
theorem le_line {n : Nat} (h : n ≤ 1000) : n ≤ sizeLine := Nat.le_of_lt (small1000 h)
theorem lo_cat {K : PySem.W.Frag} : LiftO K rCat rCatD := by
  intro x y ux uy H μ Qd Q ok rx ry h k
  unfold rCatD at h
  split at h
  · rename_i xs ys hx hy
    obtain ⟨a, us, rfl, ha, ra⟩ := lstOf_rp ok rx hx
    obtain ⟨b, ws, rfl, hb, rb⟩ := lstOf_rp ok ry hy
    refine ⟨a, b, us, ws, rfl, rfl, ha, hb, le_line (by rw [← ra.length, ← rb.length]; exact h.1), fun p hp => ?_⟩
    exact k (.v _) _ μ _ (ext_new hp) (ok.new hp) (rp_lst_new ok (ra.append rb) hp) h.2
  · exact h.elim
def rCatTT (K : PySem.W.Frag) : R2 := fun x y H Q => ∃ a b xs ys, x = .ref a ∧ y = .ref b ∧ SqT K H a xs ∧ SqT K H b ys ∧ xs.length + ys.length ≤ sizeLine ∧
  (xs = [] → Q (.ref b) H) ∧ (ys = [] → Q (.ref a) H) ∧ (∀ p, H p = none → Q (.ref p) (upd H p (.tup (xs ++ ys))))
theorem op_catTT : OpR X (binaryOp .Add) (rCatTT X.K) := by
  intro pins s σ H x y v u Q I rx ry h
  obtain ⟨a, b, xs, ys, rfl, rfl, ha, hb, hz, q0, q1, q2⟩ := h
  by_cases hx : xs = []
  · subst hx
    cases rx
    cases ry
    obtain ⟨its, r1, p1, _⟩ := I.tuple ha
    obtain ⟨its2, r2, p2, _⟩ := I.tuple hb
    cases r1
    exact cat_tup0 p1 p2 ⟨.ref b, H, I, rfl, q0 rfl⟩
  · exact op_catT pins s σ H _ _ v u Q I rx ry ⟨a, b, xs, ys, rfl, rfl, ha, hb, hx, hz, q1, fun _ => q2⟩
def rCatTD : D → D → Mu → DK → Prop := fun x y μ Q => match x, y with
  | .v (.tuple xs), .v (.tuple ys) => xs.length + ys.length ≤ 1000 ∧ Q (.v (.tuple (xs ++ ys))) μ
  | _, _ => False
theorem lo_catT {K : PySem.W.Frag} : LiftO K (rCatTT K) rCatTD := by
  intro x y ux uy H μ Qd Q ok rx ry h k
  unfold rCatTD at h
  split at h
  · rename_i xs ys
    cases id rx with
    | @tuple a us _ ha ra =>
      cases id ry with
      | @tuple b ws _ hb rb =>
        refine ⟨a, b, us, ws, rfl, rfl, ha, hb, le_line (by rw [← ra.length, ← rb.length]; exact h.1), fun z => ?_, fun z => ?_, fun p hp => ?_⟩
        · subst z
          cases ra
          exact k (.v _) _ μ H .refl ok ry (by simpa using h.2)
        · subst z
          cases rb
          exact k (.v _) _ μ H .refl ok rx (by simpa using h.2)
        · exact k (.v _) _ μ _ (ext_new hp) (ok.new hp) (rp_tup_new ok (ra.append rb) hp) h.2
  · exact h.elim
end
end L2.DL
set_option Elab.async false
set_option linter.all false
set_option maxRecDepth 100000
set_option maxHeartbeats 4000000
namespace HT
open PySem PyProof.Rows
section
variable {prog : Program} {w : World} {A : Around} {E : Value → Shared → Prop} {s : Shared}
theorem getItem_tuple_all {t sl : Addr} {items : Array Value} {vl vu : Value} {lo hi : Option Int} {Q : Value → Shared → Prop} (ht : IsTup s.heap t items) (hs : s.heap.IsSliceOf sl vl vu .none) (pl : IsPart vl lo) (pu : IsPart vu hi)
    (hw : sIx items.size 0 lo = 0 ∧ sIx items.size items.size hi = items.size) (h : Q (.ref t) s) : wpAny (model prog w) A (getItem (.ref t) (.ref sl)) Q E s := by
  obtain ⟨os, hos, hcs, hds⟩ := id hs
  have hTs : s.TypeIs (.ref sl) "slice" := ⟨os, hos, hcs⟩
  unfold getItem
  try with_reducible refine wpAny_holding ?_
  first | refine wpAny_bind (wpAny_pure ?_) | skip
  refine wpAny_bind (wpAny_sequenceKey ht.typeIs (by decide) ?_)
  refine wpAny_bind (wpAny_callSpecial?_slot (name := Str.ofString "__getitem__") ht.typeIs PyProof.Rows.slot_tuple_getitem
    (wpAny_call_entry PyProof.Rows.slot_tuple_getitem ht.typeIs entry_tuple_getitem ?_ (args_tuple_getitem _ _)))
  show wpAny _ _ (Builtin.Tuple.tupleItemsOf (.ref t) >>= _) _ _ s
  refine wpAny_bind (tupleItemsOf_ ht ?_)
  refine wpAny_bind (wpAny_typeOf hTs ?_)
  rw [if_pos (by decide)]
  refine wpAny_bind (sliceApplied_gen hs pl pu ?_)
  have hno : ((((sIx items.size 0 lo : Nat) : Int) == 0 && (1 : Int) == 1 && (sIx items.size items.size hi - sIx items.size 0 lo) == items.size) = true) := by
    rw [hw.1, hw.2]
    simp
  show wpAny _ _ (if (((sIx items.size 0 lo : Nat) : Int) == 0 && (1 : Int) == 1 && (sIx items.size items.size hi - sIx items.size 0 lo) == items.size) = true then _ else _) _ _ s
  rw [if_pos hno]
  refine wpAny_bind ?_
  unfold Builtin.Tuple.tupleIsExact
  refine wpAny_bind (wpAny_typeOf ht.typeIs (wpAny_pure ?_))
  rw [if_pos (by decide)]
  refine wpAny_bind (wpAny_rule ?_)
  exact wpAny_pure ⟨_, rfl, wpAny_pure h⟩
end
end HT
namespace L2.DL
open PySem PySem.Spec PyProof.Rows
section
variable {X : Cx} {a b e : Expr} {lo hi : Option Expr} {ta tb te : DTE} {pos p2 : Pos}
def cutP {α : Type} (xs : List α) (lo hi : Option Int) : List α := (xs.drop (HT.sIx xs.length 0 lo)).take (HT.sIx xs.length xs.length hi - HT.sIx xs.length 0 lo)
theorem RpL.cut {K : PySem.W.Frag} {μ : Mu} {H : Hp} {ds : List PyData} {us : List V} {lo hi : Option Int} (r : RpL K μ H ds us) : RpL K μ H (cutP ds lo hi) (cutV us lo hi) := by
  unfold cutP cutV
  rw [r.length]
  exact (r.drop _).take _
theorem cut_all {α : Type} {xs : List α} {lo hi : Option Int} (h : HT.sIx xs.length 0 lo = 0 ∧ HT.sIx xs.length xs.length hi = xs.length) : cutP xs lo hi = xs := by
  unfold cutP
  rw [h.1, h.2]
  simp
def rSlTW (K : PySem.W.Frag) : V → Option Int → Option Int → Hp → VK → Prop := fun x lo hi H Q => ∃ a xs, x = .ref a ∧ SqT K H a xs ∧
  (HT.sIx xs.length 0 lo = 0 ∧ HT.sIx xs.length xs.length hi = xs.length → Q (.ref a) H) ∧ ∀ p, H p = none → Q (.ref p) (upd H p (.tup (cutV xs lo hi)))
theorem sl_tupW : SlR X (rSlTW X.K) := by
  intro pins s σ H x v vl vu lo hi sl Q I rx hs pl pu h
  obtain ⟨a, xs, rfl, hx, q1, q⟩ := h
  by_cases hw : HT.sIx xs.length 0 lo = 0 ∧ HT.sIx xs.length xs.length hi = xs.length
  · cases rx
    obtain ⟨its, r, ht, hz⟩ := I.tuple hx
    have hlen : its.toArray.size = xs.length := by rw [List.size_toArray]; exact r.length.symm
    refine ⟨"tuple", _, PyProof.Rows.slot_tuple_getitem.lookup, ht.typeIs, ?_⟩
    exact HT.getItem_tuple_all ht hs pl pu (by rw [hlen]; exact hw) ⟨.ref a, H, I, rfl, q1 hw⟩
  · exact sl_tup pins s σ H _ v vl vu lo hi sl Q I rx hs pl pu ⟨a, xs, rfl, hx, hw, q⟩
abbrev DTO := Rho → Mu → (Option Int → Mu → Prop) → Prop
def LiftP (K : PySem.W.Frag) (t : TO) (td : DTO) : Prop := ∀ (σ : St) (H : Hp) (ρ : Rho) (μ : Mu) (Qd : Option Int → Mu → Prop) (Q : Option Int → Hp → Prop), St0 K H ρ μ σ → td ρ μ Qd →
  (∀ o μ' H', Ext K μ H μ' H' → St0 K H' ρ μ' σ → Qd o μ' → Q o H') → t σ H Q
def DO (X : Cx) (e : Option Expr) (td : DTO) : Prop := ∃ t, PO X e t ∧ LiftP X.K t td
def dNoPart : DTO := fun _ μ Q => Q none μ
def dPart (t : DTE) : DTO := fun ρ μ Q => t ρ μ fun x μ1 => match x with
  | .v (.int i) => Q (some i) μ1
  | _ => False
theorem do_none : DO X none dNoPart := ⟨_, po_none, fun σ H ρ μ Qd Q S h k => k none μ H .refl S h⟩
theorem do_some (h : DE X e te) : DO X (some e) (dPart te) := by
  obtain ⟨t1, p1, l1⟩ := h
  refine ⟨_, po_some p1, fun σ H ρ μ Qd Q S h k => ?_⟩
  refine l1 σ H ρ μ _ _ S h fun x ux μ1 H1 e1 S1 rx h1 => ?_
  split at h1
  · cases rx
    exact ⟨_, rfl, k _ μ1 H1 e1 S1 h1⟩
  · exact h1.elim
def rSlD (x : D) (lo hi : Option Int) (μ : Mu) (Q : DK) : Prop := match x with
  | .v (.tuple xs) => Q (.v (.tuple (cutP xs lo hi))) μ
  | .v (.list xs) => Q (.v (.list (cutP xs lo hi))) μ
  | .m l => (match μ l with | some xs => Q (.v (.list (cutP xs lo hi))) μ | none => False)
  | _ => False
def dSl (te : DTE) (tl th : DTO) : DTE := fun ρ μ Q => te ρ μ fun x μ1 => tl ρ μ1 fun l μ2 => th ρ μ2 fun u μ3 => rSlD x l u μ3 Q
theorem de_slice {tl th : DTO} (he : DE X e te) (hl : DO X lo tl) (hu : DO X hi th) : DE X (.Subscript e (.Slice lo hi none p2) pos) (dSl te tl th) := by
  obtain ⟨t1, p1, l1⟩ := he
  obtain ⟨t2, p2, l2⟩ := hl
  obtain ⟨t3, p3, l3⟩ := hu
  refine ⟨_, pe_slice (sl_list.or sl_tupW) p1 p2 p3, fun σ H ρ μ Qd Q S h k => ?_⟩
  refine l1 σ H ρ μ _ _ S h fun x ux μ1 H1 e1 S1 rx h1 => ?_
  refine l2 σ H1 ρ μ1 _ _ S1 h1 fun l μ2 H2 e2 S2 h2 => ?_
  refine l3 σ H2 ρ μ2 _ _ S2 h2 fun u μ3 H3 e3 S3 h3 => ?_
  have rx3 := (rx.ext S1.mu e2).ext S2.mu e3
  have ee := e1.trans (e2.trans e3)
  unfold rSlD at h3
  split at h3
  · rename_i xs
    cases id rx3 with
    | @tuple a us _ ha ra =>
      refine .inr ⟨a, us, rfl, ha, fun hw => ?_, fun p hp => ?_⟩
      · refine k (.v _) _ μ3 H3 ee S3 (show Rp _ _ _ (.tuple (cutP xs l u)) _ from ?_) h3
        rw [cut_all (by rw [ra.length]; exact hw)]
        exact rx3
      · exact k (.v _) _ μ3 _ (ee.trans (ext_new hp)) (S3.new hp) (rp_tup_new S3.mu ra.cut hp) h3
  · rename_i xs
    cases id rx3 with
    | @list a us _ ha hn ra => exact .inl ⟨a, us, rfl, SqL.of ha, fun p hp => k (.v _) _ μ3 _ (ee.trans (ext_new hp)) (S3.new hp) (rp_lst_new S3.mu ra.cut hp) h3⟩
  · rename_i a
    obtain ⟨rfl, ds, hm⟩ := rx3
    rw [hm] at h3
    obtain ⟨us, ha, ra⟩ := S3.mu a ds hm
    exact .inl ⟨a, us, rfl, SqL.of ha, fun p hp => k (.v _) _ μ3 _ (ee.trans (ext_new hp)) (S3.new hp) (rp_lst_new S3.mu ra.cut hp) h3⟩
  · exact h3.elim
def dRev (te : DTE) : DTE := fun ρ μ Q => te ρ μ fun x μ1 => match x with
  | .v (.tuple xs) => Q (.v (.tuple xs.reverse)) μ1
  | .v (.list xs) => Q (.v (.list xs.reverse)) μ1
  | .m l => (match μ1 l with | some xs => Q (.v (.list xs.reverse)) μ1 | none => False)
  | _ => False
end
open PySem PySem.Spec PyProof.Rows
section
variable {X : Cx} {a b e : Expr} {es : List Expr} {ta tb te : DTE} {t : DTA} {p pos : Pos} {x : Str} {bid T : String}
def LiftC (K : PySem.W.Frag) (r : List V → Hp → VK → Prop) (rd : List D → Mu → DK → Prop) : Prop := ∀ (xs : List D) (us : List V) (H : Hp) (μ : Mu) (Qd : DK) (Q : VK), MuOk K μ H → RpDs K μ H xs us → rd xs μ Qd →
  (∀ d u μ' H', Ext K μ H μ' H' → MuOk K μ' H' → RpD K μ' H' d u → Qd d μ' → Q u H') → r us H Q
def dCB (rd : List D → Mu → DK → Prop) (t : DTA) : DTE := fun ρ μ Q => t ρ μ fun ds μ1 => rd ds μ1 Q
theorem lift_cb {K : PySem.W.Frag} {n : Nat} {r : List V → Hp → VK → Prop} {rd : List D → Mu → DK → Prop} {t1 : TA} (lc : LiftC K r rd) (l1 : LiftA K n t1 t) : LiftE K (tCB r t1) (dCB rd t) := by
  intro σ H ρ μ Qd Q S h k
  refine l1 σ H ρ μ _ _ S h fun xs us μ1 H1 e1 S1 rs len h1 => ?_
  exact lc xs us H1 μ1 _ _ S1.mu rs h1 fun d u μ' H' e2 ok r q => k d u μ' H' (e1.trans e2) ⟨ok, S1.rho.ext S1.mu e2⟩ r q
theorem de_callB {r : List V → Hp → VK → Prop} {rd : List D → Mu → DK → Prop} (hc : CallR X (.builtin bid) r) (lc : LiftC X.K r rd) (hg : Gl X x) (hm : X.mg x = none) (hv : bootBuiltins x = some (.builtin bid)) (ha : DA X (e :: es) t) (hn : x ≠ "__name__" := by decide) (hdb : (x == ("__debug__" : Str)) = false := by decide)
    (he : starEach (e :: es) X.env = (false, eval e X.env) :: starEach es X.env := by rfl) (hpl : (backTo pos (starEach es X.env)).any (·.1) = false := by rfl) : DE X (.Call (.Name x p) (e :: es) [] pos) (dCB rd t) := by
  obtain ⟨t1, p1, l1⟩ := ha
  exact ⟨_, pe_callB hc hg hm hv p1 hn hdb he hpl, lift_cb lc l1⟩
theorem de_callTy {r : List V → Hp → VK → Prop} {rd : List D → Mu → DK → Prop} (hc : CallR X (.type T) r) (lc : LiftC X.K r rd) (hg : Gl X x) (hm : X.mg x = none) (hv : bootBuiltins x = some (.type T)) (ha : DA X (e :: es) t) (hn : x ≠ "__name__" := by decide) (hdb : (x == ("__debug__" : Str)) = false := by decide)
    (he : starEach (e :: es) X.env = (false, eval e X.env) :: starEach es X.env := by rfl) (hpl : (backTo pos (starEach es X.env)).any (·.1) = false := by rfl) : DE X (.Call (.Name x p) (e :: es) [] pos) (dCB rd t) := by
  obtain ⟨t1, p1, l1⟩ := ha
  exact ⟨_, pe_callTy hc hg hm hv p1 hn hdb he hpl, lift_cb lc l1⟩
def rLenD : List D → Mu → DK → Prop := fun xs μ Q => match xs with
  | [.v (.list ys)] => Q (.v (.int (ys.length : Nat))) μ
  | [.v (.tuple ys)] => Q (.v (.int (ys.length : Nat))) μ
  | [.m l] => (match μ l with | some ys => Q (.v (.int (ys.length : Nat))) μ | none => False)
  | [.s ns] => Q (.v (.int (ns.length : Nat))) μ
  | _ => False
theorem lc_len {K : PySem.W.Frag} : LiftC K (fun xs H Q => ∃ p ys, xs = [.ref p] ∧ (SqL K H p ys ∨ SqT K H p ys) ∧ Q (.int ys.length) H) rLenD := by
  intro xs us H μ Qd Q ok rs h k
  unfold rLenD at h
  split at h
  · cases rs with
    | cons r1 r2 =>
      cases r2
      cases r1 with
      | list hs hn r => exact ⟨_, _, rfl, .inl (SqL.of hs), k (.v _) _ μ H .refl ok (by rw [← r.length]; exact Rp.int _) h⟩
  · cases rs with
    | cons r1 r2 =>
      cases r2
      cases r1 with
      | tuple hs r => exact ⟨_, _, rfl, .inr hs, k (.v _) _ μ H .refl ok (by rw [← r.length]; exact Rp.int _) h⟩
  · cases rs with
    | cons r1 r2 =>
      cases r2
      obtain ⟨rfl, ds, hm⟩ := r1
      rw [hm] at h
      obtain ⟨us, hl, r⟩ := ok _ ds hm
      exact ⟨_, _, rfl, .inl (SqL.of hl), k (.v _) _ μ H .refl ok (by rw [← r.length]; exact Rp.int _) h⟩
  · cases rs with
    | cons r1 r2 =>
      cases r2
      obtain ⟨a, rfl, hs, hn⟩ := r1
      exact ⟨_, _, rfl, .inl hs, k (.v _) _ μ H .refl ok (by rw [List.length_map]; exact Rp.int _) h⟩
  · exact h.elim
theorem de_len (hg : Gl X "len") (hm : X.mg "len" = none) (ha : DA X (e :: es) t)
    (he : starEach (e :: es) X.env = (false, eval e X.env) :: starEach es X.env := by rfl) (hpl : (backTo pos (starEach es X.env)).any (·.1) = false := by rfl) : DE X (.Call (.Name "len" p) (e :: es) [] pos) (dCB rLenD t) :=
  de_callB call_len_seq lc_len hg hm PySem.boot_len ha (by decide) (by decide) he hpl
def rAbsD : List D → Mu → DK → Prop := fun xs μ Q => match xs with
  | [.v (.int i)] => Q (.v (.int (i.natAbs : Nat))) μ
  | _ => False
theorem lc_abs {K : PySem.W.Frag} : LiftC K (fun xs H Q => ∃ i, xs = [.int i] ∧ Q (.int (if i < 0 then -i else i)) H) rAbsD := by
  intro xs us H μ Qd Q ok rs h k
  unfold rAbsD at h
  split at h
  · rename_i i
    cases rs with
    | cons r1 r2 =>
      cases r2
      cases r1
      refine ⟨i, rfl, k (.v (.int (i.natAbs : Nat))) _ μ H .refl ok ?_ h⟩
      have : (if i < 0 then -i else i) = ((i.natAbs : Nat) : Int) := by split <;> omega
      rw [this]
      exact Rp.int _
  · exact h.elim
theorem de_abs (hg : Gl X "abs") (hm : X.mg "abs" = none) (ha : DA X (e :: es) t)
    (he : starEach (e :: es) X.env = (false, eval e X.env) :: starEach es X.env := by rfl) (hpl : (backTo pos (starEach es X.env)).any (·.1) = false := by rfl) : DE X (.Call (.Name "abs" p) (e :: es) [] pos) (dCB rAbsD t) :=
  de_callB call_abs lc_abs hg hm PyProof.Rows.Boot.«abs» ha (by decide) (by decide) he hpl
def r2ID (g : Int → Int → Int) : List D → Mu → DK → Prop := fun xs μ Q => match xs with
  | [.v (.int i), .v (.int j)] => Q (.v (.int (g i j))) μ
  | _ => False
theorem lc_2I {K : PySem.W.Frag} {g g' : Int → Int → Int} (hg : ∀ i j, g i j = g' i j) : LiftC K (fun xs H Q => ∃ i j, xs = [.int i, .int j] ∧ Q (.int (g i j)) H) (r2ID g') := by
  intro xs us H μ Qd Q ok rs h k
  unfold r2ID at h
  split at h
  · rename_i i j
    cases rs with
    | cons r1 r2 =>
      cases r2 with
      | cons r2 r3 =>
        cases r3
        cases r1
        cases r2
        exact ⟨i, j, rfl, k (.v _) _ μ H .refl ok (by rw [hg]; exact Rp.int _) h⟩
  · exact h.elim
theorem de_max (hc : X.calm = true) (hg : Gl X "max") (hm : X.mg "max" = none) (ha : DA X (e :: es) t)
    (he : starEach (e :: es) X.env = (false, eval e X.env) :: starEach es X.env := by rfl) (hpl : (backTo pos (starEach es X.env)).any (·.1) = false := by rfl) : DE X (.Call (.Name "max" p) (e :: es) [] pos) (dCB (r2ID max) t) :=
  de_callB (call_max2 hc) (lc_2I (fun i j => by show (if j > i then j else i) = max i j; simp only [Int.max_def]; split <;> split <;> omega)) hg hm PyProof.Rows.Boot.«max» ha (by decide) (by decide) he hpl
theorem de_min (hc : X.calm = true) (hg : Gl X "min") (hm : X.mg "min" = none) (ha : DA X (e :: es) t)
    (he : starEach (e :: es) X.env = (false, eval e X.env) :: starEach es X.env := by rfl) (hpl : (backTo pos (starEach es X.env)).any (·.1) = false := by rfl) : DE X (.Call (.Name "min" p) (e :: es) [] pos) (dCB (r2ID min) t) :=
  de_callB (call_min2 hc) (lc_2I (fun i j => by show (if j < i then j else i) = min i j; simp only [Int.min_def]; split <;> split <;> omega)) hg hm PyProof.Rows.Boot.«min» ha (by decide) (by decide) he hpl
def rIntD : List D → Mu → DK → Prop := fun xs μ Q => match xs with
  | [.v (.int i)] => Q (.v (.int i)) μ
  | [.v (.bool k)] => Q (.v (.int (if k then 1 else 0))) μ
  | _ => False
theorem lc_int {K : PySem.W.Frag} : LiftC K (fun xs H Q => (∃ i, xs = [.int i] ∧ Q (.int i) H) ∨ ∃ k, xs = [.bl k] ∧ Q (.int (if k then 1 else 0)) H) rIntD := by
  intro xs us H μ Qd Q ok rs h k
  unfold rIntD at h
  split at h
  · rename_i i
    cases rs with
    | cons r1 r2 => cases r2; cases r1; exact .inl ⟨i, rfl, k (.v _) _ μ H .refl ok (Rp.int _) h⟩
  · rename_i b
    cases rs with
    | cons r1 r2 => cases r2; cases r1; exact .inr ⟨b, rfl, k (.v _) _ μ H .refl ok (Rp.int _) h⟩
  · exact h.elim
theorem de_intOf (hg : Gl X "int") (hm : X.mg "int" = none) (ha : DA X (e :: es) t)
    (he : starEach (e :: es) X.env = (false, eval e X.env) :: starEach es X.env := by rfl) (hpl : (backTo pos (starEach es X.env)).any (·.1) = false := by rfl) : DE X (.Call (.Name "int" p) (e :: es) [] pos) (dCB rIntD t) :=
  de_callTy call_int1 lc_int hg hm PyProof.Rows.Boot.«int» ha (by decide) (by decide) he hpl
def rListD : List D → Mu → DK → Prop := fun xs μ Q => match xs with
  | [.v (.list ys)] => Q (.v (.list ys)) μ
  | [.v (.tuple ys)] => Q (.v (.list ys)) μ
  | _ => False
theorem lc_list {K : PySem.W.Frag} : LiftC K (fun xs H Q => ∃ p ys, xs = [.ref p] ∧ (SqL K H p ys ∨ SqT K H p ys) ∧ ∀ l, H l = none → Q (.ref l) (upd H l (.lst ys))) rListD := by
  intro xs us H μ Qd Q ok rs h k
  unfold rListD at h
  split at h
  · cases rs with
    | cons r1 r2 =>
      cases r2
      cases r1 with
      | list hs hn r => exact ⟨_, _, rfl, .inl (SqL.of hs), fun p hp => k (.v _) _ μ _ (ext_new hp) (ok.new hp) (rp_lst_new ok r hp) h⟩
  · cases rs with
    | cons r1 r2 =>
      cases r2
      cases r1 with
      | tuple hs r => exact ⟨_, _, rfl, .inr hs, fun p hp => k (.v _) _ μ _ (ext_new hp) (ok.new hp) (rp_lst_new ok r hp) h⟩
  · exact h.elim
theorem de_list (hg : Gl X "list") (hm : X.mg "list" = none) (ha : DA X (e :: es) t)
    (he : starEach (e :: es) X.env = (false, eval e X.env) :: starEach es X.env := by rfl) (hpl : (backTo pos (starEach es X.env)).any (·.1) = false := by rfl) : DE X (.Call (.Name "list" p) (e :: es) [] pos) (dCB rListD t) :=
  de_callTy call_list_of lc_list hg hm PyProof.Rows.Boot.«list» ha (by decide) (by decide) he hpl
theorem bools_of : ∀ {bs : List Bool} {us : List Value}, Vals (bs.map V.bl) us → us = bs.map Value.bool
  | [], _, .nil => rfl
  | b :: r, _, .cons h t => by cases h; rw [bools_of t]; rfl
theorem call_allL (hc : X.calm = true) : CallR X (.builtin "all") (fun xs H Q => ∃ (p : Addr) (bs : List Bool), xs = [.ref p] ∧ H p = some (.lst (bs.map V.bl)) ∧ Q (.bl (bs.all id)) H) := by
  intro pins s σ H xs us Q I r h
  obtain ⟨l, bs, rfl, hl, q⟩ := h
  obtain ⟨u, rfl, rx⟩ := vals1 r
  cases rx
  obtain ⟨its, rv, pl, _⟩ := I.list (SqL.of hl)
  have eb := bools_of rv
  subst eb
  have hL := pl.isList
  have hlt := pl.lt
  refine call_all_walk (wpAny_pyIter_list hL ?_)
  refine ⟨s.heap.objs.size, [s.heap.objs.size, l], [s.heap.objs.size], (bs.map Value.bool).toArray.size, _, _, fun i => (bs[i]?).getD true, rfl, Walks.list (A := X.A.in1) (by exact I.ok.hd hc) _ l (Nat.ne_of_lt hlt) (bs.map Value.bool).toArray,
    ⟨⟨_, Heap.get?_push_size _ rfl, rfl, rfl⟩, hL.push _⟩, fun i v s' Q' E' hP hQ => ?_, fun h' tk hk => ?_⟩
  · have hP' : (bs.map Value.bool)[i]? = some v := by simpa using hP
    rw [List.getElem?_map] at hP'
    cases z : bs[i]? with
    | none => rw [z] at hP'; cases hP'
    | some b =>
      rw [z] at hP'
      cases hP'
      simp only [z, Option.getD_some] at hQ
      exact wpAny_truthy_bool hQ
  · have e : ((List.range (bs.map Value.bool).toArray.size).all fun i => (bs[i]?).getD true) = bs.all id := by
      rw [List.size_toArray, List.length_map]; exact PyProof.Rows.LSm.range_all bs
    rw [e]
    exact ⟨.bl (bs.all id), H, I.kept (PyProof.Rows.LSm.kept_iter hk), rfl, q⟩
def asBools : List PyData → Option (List Bool)
  | [] => some []
  | .bool b :: r => (asBools r).map (b :: ·)
  | _ :: _ => none
theorem asBools_rp {K : PySem.W.Frag} {μ : Mu} {H : Hp} : ∀ {xs : List PyData} {us : List V} {bs : List Bool}, RpL K μ H xs us → asBools xs = some bs → us = bs.map V.bl
  | _, _, _, .nil, e => by cases e; rfl
  | .bool b :: r, _, bs, .cons h t, e => by
    simp only [asBools] at e
    cases q : asBools r with
    | none => rw [q] at e; cases e
    | some cs => rw [q] at e; cases e; cases h; rw [asBools_rp t q]; rfl
  | .none :: r, _, bs, .cons h t, e => by simp [asBools] at e
  | .int _ :: r, _, bs, .cons h t, e => by simp [asBools] at e
  | .str _ :: r, _, bs, .cons h t, e => by simp [asBools] at e
  | .list _ :: r, _, bs, .cons h t, e => by simp [asBools] at e
  | .tuple _ :: r, _, bs, .cons h t, e => by simp [asBools] at e
  | .dict _ :: r, _, bs, .cons h t, e => by simp [asBools] at e
def rAllD : List D → Mu → DK → Prop := fun xs μ Q => match xs with
  | [.v (.list ys)] => (match asBools ys with | some bs => Q (.v (.bool (bs.all id))) μ | none => False)
  | _ => False
theorem lc_all {K : PySem.W.Frag} : LiftC K (fun xs H Q => ∃ (p : Addr) (bs : List Bool), xs = [.ref p] ∧ H p = some (.lst (bs.map V.bl)) ∧ Q (.bl (bs.all id)) H) rAllD := by
  intro xs us H μ Qd Q ok rs h k
  unfold rAllD at h
  split at h
  · rename_i ys
    cases q : asBools ys with
    | none => rw [q] at h; exact h.elim
    | some bs =>
      rw [q] at h
      cases rs with
      | cons r1 r2 =>
        cases r2
        cases r1 with
        | list hs hn r => exact ⟨_, bs, rfl, by rw [hs, asBools_rp r q], k (.v _) _ μ H .refl ok (Rp.bool _) h⟩
  · exact h.elim
theorem de_all (hc : X.calm = true) (hg : Gl X "all") (hm : X.mg "all" = none) (ha : DA X (e :: es) t)
    (he : starEach (e :: es) X.env = (false, eval e X.env) :: starEach es X.env := by rfl) (hpl : (backTo pos (starEach es X.env)).any (·.1) = false := by rfl) : DE X (.Call (.Name "all" p) (e :: es) [] pos) (dCB rAllD t) :=
  de_callB (call_allL hc) lc_all hg hm PyProof.Rows.Boot.«all» ha (by decide) (by decide) he hpl
def tyD : PyData → String
  | .none => "NoneType"
  | .bool _ => "bool"
  | .int _ => "int"
  | .str _ => "str"
  | .list _ => "list"
  | .tuple _ => "tuple"
  | .dict _ => "dict"
def isT (T : String) (d : PyData) : Bool := tyD d == T || (T == "int" && tyD d == "bool")
theorem isinst_rp {pins : List (Addr × Obj)} {σ : St} {H : Hp} {s : Shared} {μ : Mu} {d : PyData} {u : V} {v : Value} {k : Bool} {A : Around} {E : Value → Shared → Prop} {Q : Value → Shared → Prop} (I : Inv X pins σ H s) (r : Rp X.K μ H d u) (rx : RelV u v)
    (ek : PySem.W.kitOne X.K (.type (tyD d)) (.type T) = some k) (h : ∀ tk, Q (.bool k) { s with toks := tk }) : wpAny (model X.prog X.w) A (call (.builtin "isinstance") [v, .type T]) Q E s := by
  cases r with
  | none => cases rx; exact PySem.W.kia_one PySem.W.kitx_none I.kIn True.intro ek (fun z => nomatch z) h
  | bool b => cases rx; exact PySem.W.kia_one PySem.W.kitx_bool I.kIn True.intro ek (fun z => nomatch z) h
  | int i => obtain ⟨t, rfl⟩ := rx; exact PySem.W.kia_one PySem.W.kitx_int I.kIn True.intro ek (fun z => nomatch z) h
  | str y => obtain ⟨t, rfl⟩ := rx; exact PySem.W.kia_one PySem.W.kitx_str I.kIn True.intro ek (fun z => nomatch z) h
  | list hs hn q =>
    cases rx
    obtain ⟨its, rv, ⟨o, n, h1, h2, _⟩, _⟩ := I.list (SqL.of hs)
    exact PySem.W.kia_one PySem.W.kitx_list I.kIn ⟨o, h1, h2⟩ ek (fun z => nomatch z) h
  | tuple hs q =>
    cases rx
    obtain ⟨its, rv, ⟨o, h1, h2, _⟩, _⟩ := I.tuple hs
    exact PySem.W.kia_one PySem.W.kitx_tuple I.kIn ⟨o, h1, h2⟩ ek (fun z => nomatch z) h
theorem kit_int (K : PySem.W.Frag) (d : PyData) : PySem.W.kitOne K (.type (tyD d)) (.type "int") = some (isT "int" d) := by cases d <;> rfl
theorem kit_bool (K : PySem.W.Frag) (d : PyData) : PySem.W.kitOne K (.type (tyD d)) (.type "bool") = some (isT "bool" d) := by cases d <;> rfl
theorem kit_tuple (K : PySem.W.Frag) (d : PyData) : PySem.W.kitOne K (.type (tyD d)) (.type "tuple") = some (isT "tuple" d) := by cases d <;> rfl
theorem call_isinst (kt : ∀ d, PySem.W.kitOne X.K (.type (tyD d)) (.type T) = some (isT T d)) : CallR X (.builtin "isinstance") (fun xs H Q => ∃ μ d u, xs = [u, .ty T] ∧ Rp X.K μ H d u ∧ Q (.bl (isT T d)) H) := by
  intro pins s σ H xs us Q I r h
  obtain ⟨μ, d, u, rfl, rd, q⟩ := h
  obtain ⟨v, w', rfl, r1, r2⟩ := vals2 r
  cases r2
  exact isinst_rp I rd r1 (kt d) fun tk => ⟨.bl (isT T d), H, I.tok _, rfl, q⟩
def dIsi (T : String) (te : DTE) : DTE := fun ρ μ Q => te ρ μ fun x μ1 => match x with
  | .v d => Q (.v (.bool (isT T d))) μ1
  | _ => False
theorem de_isi {y : Str} {py : Pos} (kt : ∀ d, PySem.W.kitOne X.K (.type (tyD d)) (.type T) = some (isT T d)) (hg : Gl X "isinstance") (hm : X.mg "isinstance" = none) (hgy : Gl X y) (hmy : X.mg y = none) (hvy : bootBuiltins y = some (.type T)) (ha : DE X e te)
    (hny : y ≠ "__name__" := by decide) (hdy : (y == ("__debug__" : Str)) = false := by decide)
    (he : starEach [e, .Name y py] X.env = (false, eval e X.env) :: starEach [.Name y py] X.env := by rfl) (he2 : starEach [.Name y py] X.env = [(false, eval (.Name y py) X.env)] := by rfl) (hpl : (backTo pos (starEach [.Name y py] X.env)).any (·.1) = false := by rfl) : DE X (.Call (.Name "isinstance" p) [e, .Name y py] [] pos) (dIsi T te) := by
  obtain ⟨t1, p1, l1⟩ := ha
  refine ⟨_, pe_callB (call_isinst kt) hg hm PyProof.Rows.Boot.«isinstance» (pa_cons p1 (pa_cons (pe_bltn (v := .ty T) hgy hmy hvy rfl hny hdy) pa_nil he2) he) (by decide) (by decide) he hpl, fun σ H ρ μ Qd Q S h k => ?_⟩
  refine l1 σ H ρ μ _ _ S h fun x ux μ1 H1 e1 S1 rx h1 => ?_
  split at h1
  · exact ⟨μ1, _, ux, rfl, rx, k (.v _) _ μ1 H1 e1 S1 (Rp.bool _) h1⟩
  · exact h1.elim
def rIsD : D → D → Mu → DK → Prop := fun x y μ Q => match x, y with
  | .v (.bool i), .v (.bool j) => Q (.v (.bool (i == j))) μ
  | .v .none, .v .none => Q (.v (.bool true)) μ
  | _, _ => False
end
open PySem PySem.Spec PyProof.Rows
section
variable {X : Cx} {a b e : Expr} {es : List Expr} {ta tb te : DTE} {t : DTA} {p pos : Pos} {st : Stmt} {rest sts : List Stmt} {td ud : DTS} {tc : DTT}
def dNext : DTS := fun Dd ρ μ => Dd.nx ρ μ
def dSeq (t u : DTS) : DTS := fun Dd ρ μ => t { Dd with nx := u Dd } ρ μ
def dRet (te : DTE) : DTS := fun Dd ρ μ => te ρ μ Dd.rt
def dDrop (te : DTE) : DTS := fun Dd ρ μ => te ρ μ fun _ μ1 => Dd.nx ρ μ1
def dIfS (c : DTT) (t u : DTS) : DTS := fun Dd ρ μ => c ρ μ fun b μ1 => if b = true then t Dd ρ μ1 else u Dd ρ μ1
theorem dss_nil : DSs X [] dNext := ⟨_, pss_nil, fun σ H ρ μ Dd De S h k1 k2 k3 k4 => k1 σ ρ μ H .refl S h⟩
theorem dss_one (h : DS X st td) : DSs X [st] td := let ⟨t, p, l⟩ := h; ⟨t, pss_one p, l⟩
theorem lift_seq {K : PySem.W.Frag} {t u : TS} (l1 : LiftS K t td) (l2 : LiftS K u ud) : LiftS K (tSeq t u) (dSeq td ud) := by
  intro σ H ρ μ Dd De S h k1 k2 k3 k4
  refine l1 σ H ρ μ _ _ S h (fun σ' ρ' μ' H' e' S' h' => ?_) k2 k3 k4
  exact l2 σ' H' ρ' μ' Dd De S' h' (fun a b c d e2 => k1 a b c d (e'.trans e2)) (fun a b c d e2 => k2 a b c d (e'.trans e2)) (fun a b c d e2 => k3 a b c d (e'.trans e2)) (fun a b c d e2 => k4 a b c d (e'.trans e2))
theorem dss_cons (h1 : DS X st td) (h2 : DSs X rest ud) : DSs X (st :: rest) (dSeq td ud) := by
  obtain ⟨t1, p1, l1⟩ := h1
  obtain ⟨t2, p2, l2⟩ := h2
  exact ⟨_, pss_cons p1 p2, lift_seq l1 l2⟩
theorem ds_ret (he : DE X e te) : DS X (.Return (some e) pos) (dRet te) := by
  obtain ⟨t1, p1, l1⟩ := he
  exact ⟨_, ps_ret p1, fun σ H ρ μ Dd De S h k1 k2 k3 k4 => l1 σ H ρ μ _ _ S h fun d u μ' H' e' S' r q => k2 d u μ' H' e' S'.mu r q⟩
theorem ds_expr (he : DE X e te) (hs : swapsWith e none pos.line X.env = pure false := by rfl) : DS X (.Expr e pos) (dDrop te) := by
  obtain ⟨t1, p1, l1⟩ := he
  exact ⟨_, ps_expr p1 hs, fun σ H ρ μ Dd De S h k1 k2 k3 k4 => l1 σ H ρ μ _ _ S h fun d u μ' H' e' S' r q => k1 σ ρ μ' H' e' S' q⟩
theorem ds_if {c : Expr} {x y : List Stmt} (hc : DT X c tc) (ha : DSs X x td) (hb : DSs X y ud) : DS X (.If c x y pos) (dIfS tc td ud) := by
  obtain ⟨t0, p0, l0⟩ := hc
  obtain ⟨t1, p1, l1⟩ := ha
  obtain ⟨t2, p2, l2⟩ := hb
  refine ⟨_, ps_if p0 p1 p2, fun σ H ρ μ Dd De S h k1 k2 k3 k4 => ?_⟩
  refine l0 σ H ρ μ _ _ S h fun c μ1 H1 e1 S1 h1 => ?_
  cases c with
  | true => exact iteT (l1 σ H1 ρ μ1 Dd De S1 (by simpa using h1) (fun a b c d e2 => k1 a b c d (e1.trans e2)) (fun a b c d e2 => k2 a b c d (e1.trans e2)) (fun a b c d e2 => k3 a b c d (e1.trans e2)) (fun a b c d e2 => k4 a b c d (e1.trans e2)))
  | false => exact iteF (l2 σ H1 ρ μ1 Dd De S1 (by simpa using h1) (fun a b c d e2 => k1 a b c d (e1.trans e2)) (fun a b c d e2 => k2 a b c d (e1.trans e2)) (fun a b c d e2 => k3 a b c d (e1.trans e2)) (fun a b c d e2 => k4 a b c d (e1.trans e2)))
abbrev DTG := D → Rho → Mu → (Rho → Mu → Prop) → Prop
abbrev DTGs := List PyData → Rho → Mu → (Rho → Mu → Prop) → Prop
def LiftG (K : PySem.W.Frag) (g : TG) (gd : DTG) : Prop := ∀ (σ : St) (H : Hp) (ρ : Rho) (μ : Mu) (d : D) (u : V) (Qd : Rho → Mu → Prop) (Q : St → Hp → Prop), St0 K H ρ μ σ → RpD K μ H d u → gd d ρ μ Qd →
  (∀ σ' ρ' μ' H', Ext K μ H μ' H' → St0 K H' ρ' μ' σ' → Qd ρ' μ' → Q σ' H') → g u σ H Q
def LiftGs (K : PySem.W.Frag) (g : TGs) (gd : DTGs) : Prop := ∀ (σ : St) (H : Hp) (ρ : Rho) (μ : Mu) (ds : List PyData) (us : List V) (Qd : Rho → Mu → Prop) (Q : St → Hp → Prop), St0 K H ρ μ σ → RpL K μ H ds us → gd ds ρ μ Qd →
  (∀ σ' ρ' μ' H', Ext K μ H μ' H' → St0 K H' ρ' μ' σ' → Qd ρ' μ' → Q σ' H') → g us σ H Q
def DG (X : Cx) (tg : Expr) (gd : DTG) : Prop := ∃ g, PG X tg g ∧ LiftG X.K g gd
def DGs (X : Cx) (tg : List Expr) (gd : DTGs) : Prop := ∃ g, PGs X tg g ∧ LiftGs X.K g gd
theorem RhoOk.set {K : PySem.W.Frag} {μ : Mu} {H : Hp} {ρ : Rho} {σ : St} {i : Nat} {d : D} {u : V} (r : RhoOk K μ H ρ σ) (h : RpD K μ H d u) : RhoOk K μ H (ρ.set i (some d)) (σ.set i (some u)) := by
  refine ⟨by rw [List.length_set, List.length_set]; exact r.1, fun j d' e => ?_⟩
  by_cases hj : i = j
  · subst hj
    have hl : i < ρ.length := by
      have := (List.getElem?_eq_some_iff.mp e).1
      rw [List.length_set] at this
      exact this
    rw [List.getElem?_set_self hl] at e
    cases e
    exact ⟨u, List.getElem?_set_self (by rw [← r.1]; exact hl), h⟩
  · rw [List.getElem?_set_ne hj] at e
    obtain ⟨w, e1, e2⟩ := r.2 j d' e
    exact ⟨w, by rw [List.getElem?_set_ne hj]; exact e1, e2⟩
def gdName (i : Nat) : DTG := fun d ρ μ Q => Q (ρ.set i (some d)) μ
theorem lift_gname {K : PySem.W.Frag} {i : Nat} : LiftG K (gName i) (gdName i) := fun σ H ρ μ d u Qd Q S r h k => k _ _ μ H .refl ⟨S.mu, S.rho.set r⟩ h
theorem dg_name {i : Nat} {x : Str} (hN : X.N.Nodup) (hi : X.N[i]? = some x) (hx : Loc X.env.scope x) (hf : X.fn x = true ∨ X.env.scope.names.lookup x = some .local := by first | exact .inl rfl | exact .inr rfl | assumption) : DG X (.Name x pos) (gdName i) := ⟨_, pg_name hN hi hx hf, lift_gname⟩
def gdNil : DTGs := fun ds ρ μ Q => match ds with
  | [] => Q ρ μ
  | _ => False
def gdCons (g : DTG) (gs : DTGs) : DTGs := fun ds ρ μ Q => match ds with
  | d :: r => g (.v d) ρ μ fun ρ1 μ1 => gs r ρ1 μ1 Q
  | _ => False
theorem dgs_nil : DGs X [] gdNil := ⟨_, pgs_nil, fun σ H ρ μ ds us Qd Q S r h k => by
  cases r with
  | nil => exact ⟨rfl, k σ ρ μ H .refl S h⟩
  | cons _ _ => exact h.elim⟩
theorem dgs_cons {g : DTG} {gs : DTGs} (h1 : DG X e g) (h2 : DGs X es gs) (hs : (assignEach (e :: es) X.env).map (·.2) = assign e X.env :: (assignEach es X.env).map (·.2) := by rfl) : DGs X (e :: es) (gdCons g gs) := by
  obtain ⟨t1, p1, l1⟩ := h1
  obtain ⟨t2, p2, l2⟩ := h2
  refine ⟨_, pgs_cons p1 p2 hs, fun σ H ρ μ ds us Qd Q S r h k => ?_⟩
  cases r with
  | nil => exact h.elim
  | @cons d u ds us r1 r2 =>
    refine ⟨u, us, rfl, l1 σ H ρ μ (.v d) u _ _ S r1 h fun σ' ρ' μ' H' e1 S' h1 => ?_⟩
    exact l2 σ' H' ρ' μ' ds us _ _ S' (r2.ext S.mu e1) h1 fun a b c d e2 => k a b c d (e1.trans e2)
def gdTup (n : Nat) (gs : DTGs) : DTG := fun d ρ μ Q => match d with
  | .v (.tuple xs) => xs.length = n ∧ gs xs ρ μ Q
  | _ => False
theorem dg_tup {k n : Nat} {gs : DTGs} (hc : X.calm = X.calm) (h : DGs X es gs)
    (hn : (assignEach es X.env).length = n := by rfl) (hst : (assignEach es X.env).findIdx? (·.1) = none := by rfl) : DG X (.Tuple es k pos) (gdTup n gs) := by
  obtain ⟨t1, p1, l1⟩ := h
  refine ⟨_, pg_tup hc p1 hn hst, fun σ H ρ μ d u Qd Q S r h k => ?_⟩
  unfold gdTup at h
  split at h
  · cases r with
    | @tuple a us _ ha ra => exact ⟨a, us, rfl, ha, by rw [← ra.length]; exact h.1, l1 σ H ρ μ _ us _ _ S ra h.2 k⟩
  · exact h.elim
def gdSub (to ti : DTE) : DTG := fun d ρ μ Q => to ρ μ fun o μ1 => ti ρ μ1 fun i μ2 => match o, i, d with
  | .m l, .v (.int k), .v x => (match μ2 l with
    | some xs => (match ixN xs.length k with
      | some j => Q ρ (muSet μ2 l (xs.set j x))
      | none => False)
    | none => False)
  | _, _, _ => False
theorem dg_sub {o i : Expr} {to ti : DTE} (ho : DE X o to) (hi : DE X i ti)
    (ha : ∀ v, assign (.Subscript o i pos) X.env v = (do
      let ov ← holding [v] (eval o X.env)
      let iv ← holding [v, ov] (eval i X.env)
      standAt pos
      holding [v, ov, iv] (setItem ov iv v)
      release [v, ov, iv] []) := by intro _; rfl) : DG X (.Subscript o i pos) (gdSub to ti) := by
  obtain ⟨t1, p1, l1⟩ := ho
  obtain ⟨t2, p2, l2⟩ := hi
  refine ⟨_, pg_sub p1 p2 set_list ha, fun σ H ρ μ d u Qd Q S r h k => ?_⟩
  refine l1 σ H ρ μ _ _ S h fun x ux μ1 H1 e1 S1 rx h1 => ?_
  refine l2 σ H1 ρ μ1 _ _ S1 h1 fun y uy μ2 H2 e2 S2 ry h2 => ?_
  have r2 := (r.ext S.mu e1).ext S1.mu e2
  have rx2 := rx.ext S1.mu e2
  split at h2
  · rename_i l kk xv
    obtain ⟨rfl, ds, hm⟩ := rx2
    cases ry
    rw [hm] at h2
    obtain ⟨us, hl, rl⟩ := S2.mu l ds hm
    simp only at h2
    cases q : ixN ds.length kk with
    | none => rw [q] at h2; exact h2.elim
    | some j =>
      rw [q] at h2
      refine ⟨l, us, kk, j, rfl, rfl, hl, by rw [← rl.length]; exact q, ?_⟩
      have ex : Ext X.K μ2 H2 (muSet μ2 l (ds.set j xv)) (upd H2 l (.lst (us.set j u))) := ext_set hm
      exact k σ ρ _ _ (e1.trans (e2.trans ex)) ⟨S2.mu.set hm (rl.set r2 j), S2.rho.ext S2.mu ex⟩ h2
  · exact h2.elim
def dAsg (te : DTE) (g : DTG) : DTS := fun Dd ρ μ => te ρ μ fun d μ1 => g d ρ μ1 Dd.nx
theorem lift_asg {K : PySem.W.Frag} {t : TE} {g : TG} {gd : DTG} (l1 : LiftE K t te) (l2 : LiftG K g gd) : LiftS K (tAsg t g) (dAsg te gd) := by
  intro σ H ρ μ Dd De S h k1 k2 k3 k4
  refine l1 σ H ρ μ _ _ S h fun d u μ1 H1 e1 S1 r h1 => ?_
  exact l2 σ H1 ρ μ1 d u _ _ S1 r h1 fun a b c d e2 => k1 a b c d (e1.trans e2)
theorem ds_asg {tg : Expr} {g : DTG} (he : DE X e te) (hg : DG X tg g) (hs : swapsWithSole [tg] e pos.line X.env = pure false := by rfl) (hw : swappedStores [tg] e X.env = pure none := by rfl)
    (h1 : (assignEach [tg] X.env).map (·.2) = [assign tg X.env] := by rfl) : DS X (.Assign [tg] e pos) (dAsg te g) := by
  obtain ⟨t1, p1, l1⟩ := he
  obtain ⟨t2, p2, l2⟩ := hg
  exact ⟨_, ps_asg p1 p2 hs hw h1, lift_asg l1 l2⟩
theorem ds_set {i : Nat} {x : Str} {pos' : Pos} (hN : X.N.Nodup) (hi : X.N[i]? = some x) (hx : Loc X.env.scope x) (he : DE X e te) (hs : swapsWith e (some (.Name x pos')) pos.line X.env = pure false := by rfl) (hf : X.fn x = true ∨ X.env.scope.names.lookup x = some .local := by first | exact .inl rfl | exact .inr rfl | assumption) :
    DS X (.Assign [.Name x pos'] e pos) (dAsg te (gdName i)) := by
  obtain ⟨t1, p1, l1⟩ := he
  exact ⟨_, ps_set hN hi hx p1 hs hf, lift_asg l1 lift_gname⟩
def dPar (i j : Nat) (t : DTA) : DTS := fun Dd ρ μ => t ρ μ fun ds μ1 => match ds with
  | [v, w] => Dd.nx ((ρ.set i (some v)).set j (some w)) μ1
  | _ => False
theorem ds_par {i j : Nat} {x y : Str} {a b : Expr} {t : DTA} {px py pt : Pos} {kt k2 pt2} (hc : X.calm = true) (hN : X.N.Nodup) (hi : X.N[i]? = some x) (hj : X.N[j]? = some y) (hij : i ≠ j)
    (hx : X.env.scope.names.lookup x = some .local) (hy : X.env.scope.names.lookup y = some .local) (ha : DA X [a, b] t)
    (hw : swappedStores [.Tuple [.Name x px, .Name y py] kt pt] (.Tuple [a, b] k2 pt2) X.env = pure (some [x, y]))
    (hs : swapsWithSole [.Tuple [.Name x px, .Name y py] kt pt] (.Tuple [a, b] k2 pt2) pos.line X.env = pure false := by rfl) :
    DS X (.Assign [.Tuple [.Name x px, .Name y py] kt pt] (.Tuple [a, b] k2 pt2) pos) (dPar i j t) := by
  obtain ⟨t1, p1, l1⟩ := ha
  refine ⟨_, ps_par hc hN hi hj hij hx hy p1 hw hs, fun σ H ρ μ Dd De S h k1 k2 k3 k4 => ?_⟩
  refine l1 σ H ρ μ _ _ S h fun ds us μ1 H1 e1 S1 rs len h1 => ?_
  split at h1
  · cases rs with
    | cons r1 r2 =>
      cases r2 with
      | cons r2 r3 =>
        cases r3
        exact ⟨_, _, rfl, k1 _ _ μ1 H1 e1 ⟨S1.mu, (S1.rho.set r1).set r2⟩ h1⟩
  · exact h1.elim
def dWhile (c : DTT) (tb : DTS) : DTS := fun Dd ρ μ => ∃ W : Nat → Rho → Mu → Prop, (∃ m, W m ρ μ) ∧ ∀ m ρ μ, W m ρ μ →
  c ρ μ fun b μ1 => if b = true then tb { Dd with nx := fun ρ' μ' => ∃ m', m' < m ∧ W m' ρ' μ', ct := fun ρ' μ' => ∃ m', m' < m ∧ W m' ρ' μ', bk := Dd.nx } ρ μ1 else Dd.nx ρ μ1
theorem ds_while {c : Expr} {body : List Stmt} (hp : PassesOwn (model X.prog X.w) X.A X.env X.xe) (hc : DT X c tc) (hb : DSs X body td) : DS X (.While c body [] pos) (dWhile tc td) := by
  obtain ⟨t0, p0, l0⟩ := hc
  obtain ⟨t1, p1, l1⟩ := hb
  refine ⟨_, ps_while hp p0 p1, fun σ H ρ μ Dd De S h k1 k2 k3 k4 => ?_⟩
  obtain ⟨W, ⟨m, w0⟩, turn⟩ := h
  refine ⟨fun m σ' H' => ∃ ρ' μ', Ext X.K μ H μ' H' ∧ St0 X.K H' ρ' μ' σ' ∧ W m ρ' μ', ⟨m, ρ, μ, .refl, S, w0⟩, ?_⟩
  rintro m σ1 H1 ⟨ρ1, μ1, e1, S1, w1⟩
  refine l0 σ1 H1 ρ1 μ1 _ _ S1 (turn m ρ1 μ1 w1) fun b μ2 H2 e2 S2 h2 => ?_
  cases b with
  | true =>
    refine iteT ⟨fun σ' H' => ∃ m', m' < m ∧ ∃ ρ' μ', Ext X.K μ H μ' H' ∧ St0 X.K H' ρ' μ' σ' ∧ W m' ρ' μ', fun σ' H' ⟨m', hm, q⟩ => ⟨m', hm, q⟩, ?_⟩
    have nxt : ∀ σ' ρ' μ' H', Ext X.K μ2 H2 μ' H' → St0 X.K H' ρ' μ' σ' → (∃ m', m' < m ∧ W m' ρ' μ') → ∃ m', m' < m ∧ ∃ ρ' μ', Ext X.K μ H μ' H' ∧ St0 X.K H' ρ' μ' σ' ∧ W m' ρ' μ' :=
      fun σ' ρ' μ' H' e3 S3 ⟨m', hm, q⟩ => ⟨m', hm, ρ', μ', e1.trans (e2.trans e3), S3, q⟩
    rw [if_pos rfl] at h2
    exact l1 σ1 H2 ρ1 μ2 _ _ S2 h2 nxt (fun a b c d e3 => k2 a b c d (e1.trans (e2.trans e3))) (fun a b c d e3 => k1 a b c d (e1.trans (e2.trans e3))) nxt
  | false => exact iteF (k1 σ1 ρ1 μ2 H2 (e1.trans e2) S2 (by simpa using h2))
abbrev DTI := Rho → Mu → (List PyData → Mu → Prop) → Prop
def ItOk (K : PySem.W.Frag) (J : It) (xs : List PyData) (μ1 : Mu) (H1 : Hp) : Prop := ∀ μ2 H2, Ext K μ1 H1 μ2 H2 → MuOk K μ2 H2 → ∀ i, (i < xs.length → J.go i H2 ∧ ∀ x H', J.yld i H2 x H' → ∃ d, xs[i]? = some d ∧ Same H2 H' ∧ Rp K μ2 H' d x) ∧ (i = xs.length → J.stop i H2)
def LiftI (K : PySem.W.Frag) (wi : TI) (src : DTI) : Prop := ∀ (σ : St) (H : Hp) (ρ : Rho) (μ : Mu) (Qd : List PyData → Mu → Prop) (R : It → Hp → Prop), St0 K H ρ μ σ → src ρ μ Qd →
  (∀ xs μ1 H1 J, Ext K μ H μ1 H1 → St0 K H1 ρ μ1 σ → ItOk K J xs μ1 H1 → Qd xs μ1 → R J H1) → wi σ H R
def DI (X : Cx) (tg iter : Expr) (src : DTI) : Prop := ∃ wi, PI X tg iter wi ∧ LiftI X.K wi src
variable {tg : Expr}
def diList (te : DTE) : DTI := fun ρ μ Q => te ρ μ fun d μ1 => match d with
  | .v (.list xs) => Q xs μ1
  | _ => False
def diTup (te : DTE) : DTI := fun ρ μ Q => te ρ μ fun d μ1 => match d with
  | .v (.tuple xs) => Q xs μ1
  | _ => False
theorem di_list (h : DE X e te) : DI X tg e (diList te) := by
  obtain ⟨t1, p1, l1⟩ := h
  refine ⟨_, pi_list p1, fun σ H ρ μ Qd R S h k => ?_⟩
  refine l1 σ H ρ μ _ _ S h fun d u μ1 H1 e1 S1 r h1 => ?_
  split at h1
  · rename_i xs
    cases r with
    | @list a us _ ha hn ra =>
      refine ⟨a, rfl, ⟨us, SqL.of ha⟩, k xs μ1 H1 _ e1 S1 (fun μ2 H2 e2 ok2 i => ⟨fun hi => ?_, fun hi => ?_⟩) h1⟩
      · have ha2 := e2.keep _ _ ha hn trivial
        have hiu : i < us.length := by rw [← ra.length]; exact hi
        refine ⟨⟨us, us[i], SqL.of ha2, by simp [hiu]⟩, fun x H' ⟨eH, hx⟩ => ?_⟩
        subst eH
        obtain ⟨u', h1', h2'⟩ := ra.get (i := i) (d := xs[i]) (by simp [hi])
        have := hx us (SqL.of ha2)
        rw [h1'] at this
        cases this
        exact ⟨xs[i], by simp [hi], Same.refl _, h2'.ext S1.mu e2⟩
      · exact ⟨us, SqL.of (e2.keep _ _ ha hn trivial), by rw [← ra.length]; omega⟩
  · exact h1.elim
theorem di_tup (h : DE X e te) : DI X tg e (diTup te) := by
  obtain ⟨t1, p1, l1⟩ := h
  refine ⟨_, pi_tup p1, fun σ H ρ μ Qd R S h k => ?_⟩
  refine l1 σ H ρ μ _ _ S h fun d u μ1 H1 e1 S1 r h1 => ?_
  split at h1
  · rename_i xs
    cases r with
    | @tuple a us _ ha ra =>
      refine ⟨a, rfl, ⟨us, ha⟩, k xs μ1 H1 _ e1 S1 (fun μ2 H2 e2 ok2 i => ⟨fun hi => ?_, fun hi => ?_⟩) h1⟩
      · have ha2 := sqT_ext S1.mu e2 ha
        have hiu : i < us.length := by rw [← ra.length]; exact hi
        refine ⟨⟨us, us[i], ha2, by simp [hiu]⟩, fun x H' ⟨eH, hx⟩ => ?_⟩
        subst eH
        obtain ⟨u', h1', h2'⟩ := ra.get (i := i) (d := xs[i]) (by simp [hi])
        have := hx us ha2
        rw [h1'] at this
        cases this
        exact ⟨xs[i], by simp [hi], Same.refl _, h2'.ext S1.mu e2⟩
      · exact ⟨us, sqT_ext S1.mu e2 ha, by rw [← ra.length]; omega⟩
  · exact h1.elim
def rngD (lo : Int) (n : Nat) : List PyData := (List.range n).map fun (i : Nat) => PyData.int (lo + (i : Int))
theorem rng_ok {K : PySem.W.Frag} {lo : Int} {n : Nat} {μ : Mu} {H : Hp} : ItOk K (Itr lo n) (rngD lo n) μ H := fun μ2 H2 e2 ok2 i => by
  have hl : (rngD lo n).length = n := by unfold rngD; simp
  refine ⟨fun hi => ?_, fun hi => ?_⟩
  · rw [hl] at hi
    refine ⟨hi, fun x H' ⟨eH, hx⟩ => ?_⟩
    subst eH hx
    exact ⟨.int (lo + i), by unfold rngD; simp [hi], Same.refl _, .int _⟩
  · show n ≤ i
    omega
def diRng1 (t : DTA) : DTI := fun ρ μ Q => t ρ μ fun ds μ1 => match ds with
  | [.v (.int j)] => (-(2 ^ 62) ≤ j ∧ j < 2 ^ 62) ∧ Q (rngD 0 j.toNat) μ1
  | _ => False
def diRng2 (t : DTA) : DTI := fun ρ μ Q => t ρ μ fun ds μ1 => match ds with
  | [.v (.int i), .v (.int j)] => (-(2 ^ 62) ≤ i ∧ i < 2 ^ 62 ∧ -(2 ^ 62) ≤ j ∧ j < 2 ^ 62) ∧ Q (rngD i (j - i).toNat) μ1
  | _ => False
theorem di_rng1 {a : Expr} {t : DTA} {p pos : Pos} (hg : Gl X "range") (hm : X.mg "range" = none) (ha : DA X [a] t) (hs : starEach [a] X.env = [(false, eval a X.env)] := by rfl) (hc : X.calm = true := by rfl) : DI X tg (.Call (.Name "range" p) [a] [] pos) (diRng1 t) := by
  obtain ⟨t1, p1, l1⟩ := ha
  refine ⟨_, pi_range1 hc hg hm p1 hs, fun σ H ρ μ Qd R S h k => ?_⟩
  refine l1 σ H ρ μ _ _ S h fun ds us μ1 H1 e1 S1 rs len h1 => ?_
  split at h1
  · rename_i j
    cases rs with
    | cons r1 r2 => cases r2; cases r1; exact ⟨j, rfl, h1.1.1, h1.1.2, k _ μ1 H1 _ e1 S1 rng_ok h1.2⟩
  · exact h1.elim
theorem di_rng2 {a b : Expr} {t : DTA} {p pos : Pos} (hg : Gl X "range") (hm : X.mg "range" = none) (ha : DA X [a, b] t) (hs : starEach [a, b] X.env = [(false, eval a X.env), (false, eval b X.env)] := by rfl) (hs2 : starEach [b] X.env = [(false, eval b X.env)] := by rfl) (hc : X.calm = true := by rfl) : DI X tg (.Call (.Name "range" p) [a, b] [] pos) (diRng2 t) := by
  obtain ⟨t1, p1, l1⟩ := ha
  refine ⟨_, pi_range2 hc hg hm p1 hs hs2, fun σ H ρ μ Qd R S h k => ?_⟩
  refine l1 σ H ρ μ _ _ S h fun ds us μ1 H1 e1 S1 rs len h1 => ?_
  split at h1
  · rename_i i j
    cases rs with
    | cons r1 r2 =>
      cases r2 with
      | cons r2 r3 => cases r3; cases r1; cases r2; exact ⟨i, j, rfl, h1.1, k _ μ1 H1 _ e1 S1 rng_ok h1.2⟩
  · exact h1.elim
def dFor (src : DTI) (g : DTG) (tb : DTS) : DTS := fun Dd ρ μ => src ρ μ fun xs μ1 => ∃ Pv : Nat → Rho → Mu → Prop, Pv 0 ρ μ1 ∧
  (∀ i x ρ' μ', xs[i]? = some x → Pv i ρ' μ' → g (.v x) ρ' μ' fun ρ2 μ2 => tb { Dd with nx := Pv (i + 1), ct := Pv (i + 1), bk := Dd.nx } ρ2 μ2) ∧ (∀ ρ' μ', Pv xs.length ρ' μ' → Dd.nx ρ' μ')
theorem ds_for {iter : Expr} {body : List Stmt} {src : DTI} {g : DTG} (hp : PassesOwn (model X.prog X.w) X.A X.env X.xe) (hc : X.calm = true) (hi : DI X tg iter src) (hg : DG X tg g) (hb : DSs X body td)
    (hs : ∀ x, foldedSetIterable iter X.env x = pure x := by intro _; rfl) : DS X (.For tg iter body [] pos) (dFor src g td) := by
  obtain ⟨t0, p0, l0⟩ := hi
  obtain ⟨t1, p1, l1⟩ := hg
  obtain ⟨t2, p2, l2⟩ := hb
  refine ⟨_, ps_for hp hc p0 p1 p2 hs, fun σ H ρ μ Dd De S h k1 k2 k3 k4 => ?_⟩
  refine l0 σ H ρ μ _ _ S h fun xs μ1 H1 J e1 S1 it h1 => ?_
  obtain ⟨Pv, pv0, turn, fin⟩ := h1
  refine ⟨fun i m σ' H' => m = xs.length - i ∧ i ≤ xs.length ∧ ∃ ρ' μ', Ext X.K μ1 H1 μ' H' ∧ St0 X.K H' ρ' μ' σ' ∧ Pv i ρ' μ', ⟨xs.length, by simp, Nat.zero_le _, ρ, μ1, .refl, S1, pv0⟩, ?_⟩
  rintro i m σ' H' ⟨rfl, hi, ρ', μ', e2, S2, pv⟩
  obtain ⟨go, stop⟩ := it μ' H' e2 S2.mu i
  by_cases hlt : i < xs.length
  · obtain ⟨g1, y1⟩ := go hlt
    refine .inr ⟨g1, fun σ2 H2 => ∃ ρ2 μ2, Ext X.K μ1 H1 μ2 H2 ∧ St0 X.K H2 ρ2 μ2 σ2 ∧ Pv (i + 1) ρ2 μ2, fun σ2 H2 q => ⟨xs.length - (i + 1), by omega, rfl, hlt, q⟩, fun x H2 yl => ?_⟩
    obtain ⟨d, hd, sm, rd⟩ := y1 x H2 yl
    have e3 : Ext X.K μ' H' μ' H2 := .of_same sm
    have S3 : St0 X.K H2 ρ' μ' σ' := ⟨S2.mu.ext0 e3 sm, S2.rho.ext S2.mu e3⟩
    refine l1 σ' H2 ρ' μ' (.v d) x _ _ S3 rd (turn i d ρ' μ' hd pv) fun σ4 ρ4 μ4 H4 e4 S4 h4 => ?_
    have nxt : ∀ a b c dd, Ext X.K μ4 H4 c dd → St0 X.K dd b c a → Pv (i + 1) b c → ∃ ρ2 μ2, Ext X.K μ1 H1 μ2 dd ∧ St0 X.K dd ρ2 μ2 a ∧ Pv (i + 1) ρ2 μ2 := fun a b c dd e5 S5 q => ⟨b, c, e2.trans (e3.trans (e4.trans e5)), S5, q⟩
    have ee := e1.trans (e2.trans (e3.trans e4))
    exact l2 σ4 H4 ρ4 μ4 _ _ S4 h4 nxt (fun a b c d e5 => k2 a b c d (ee.trans e5)) (fun a b c d e5 => k1 a b c d (ee.trans e5)) nxt
  · have ei : i = xs.length := by omega
    subst ei
    exact .inl ⟨stop rfl, k1 σ' ρ' μ' H' (e1.trans e2) S2 (fin ρ' μ' pv)⟩
end
abbrev DSp := List D → Mu → DK → Prop
def spD (K : PySem.W.Frag) (dsp : DSp) : Sp := fun vs H Q _ => ∃ (ds : List D) (μ : Mu) (Qd : DK), MuOk K μ H ∧ RpDs K μ H ds vs ∧ dsp ds μ Qd ∧
  (∀ d u μ' H', Ext K μ H μ' H' → MuOk K μ' H' → RpD K μ' H' d u → Qd d μ' → Q u H')
def startD (N : List Str) (ds : List D) : Rho := ds.map some ++ List.replicate (N.length - ds.length) none
theorem RpDs.get {K : PySem.W.Frag} {μ : Mu} {H : Hp} {ds : List D} {us : List V} : ∀ {i : Nat} {d : D}, RpDs K μ H ds us → ds[i]? = some d → ∃ u, us[i]? = some u ∧ RpD K μ H d u
  | _, _, .nil, h => by simp at h
  | 0, _, .cons r _, h => by simp at h; subst h; exact ⟨_, rfl, r⟩
  | i + 1, d, .cons _ t, h => by
    obtain ⟨u, h1, h2⟩ := RpDs.get (i := i) (d := d) t (by simpa using h)
    exact ⟨u, by simpa using h1, h2⟩
theorem rho_start {K : PySem.W.Frag} {μ : Mu} {H : Hp} {N : List Str} {ds : List D} {vs : List V} (r : RpDs K μ H ds vs) : RhoOk K μ H (startD N ds) (start N vs) := by
  have hl := r.length
  refine ⟨by unfold startD start; simp [hl], fun i d e => ?_⟩
  unfold startD at e
  by_cases hi : i < ds.length
  · rw [List.getElem?_append_left (by simpa using hi), List.getElem?_map] at e
    unfold start
    rw [List.getElem?_append_left (by simpa [hl] using hi), List.getElem?_map]
    cases q : ds[i]? with
    | none => rw [q] at e; cases e
    | some d' =>
      rw [q] at e
      cases e
      obtain ⟨u, h1, h2⟩ := r.get q
      exact ⟨u, by rw [h1]; rfl, h2⟩
  · rw [List.getElem?_append_right (by simpa using hi), List.getElem?_replicate] at e
    split at e <;> cases e
section
variable {P : Program} {w : World} {K : PySem.W.Frag} {mg : Str → Option Value} {base : Heap}
theorem _root_.L2.Fun.okD {x qual : Str} {st : Stmt} {f : Addr} {fd : FuncData} {N ps : List Str} {k : Nat} {dsp : DSp} (F : Fun K x qual st f fd) (S : FnScope N ps (defScope st)) (len : ∀ ds μ Q, dsp ds μ Q → ds.length = ps.length)
    (hbody : ∀ (cdv : Value) (A : Around) (outer : List Env) (s : Shared) (H : Hp) (E : XK), Room k (A.deeper (envOfC qual (defScope st) s.heap.objs.size f cdv)) →
      ∃ td, DSs (cxOf CX0 P w K mg base N qual (defScope st) f cdv A outer s H E).nox (defBody st) td ∧ ∀ ds μ Qd, dsp ds μ Qd → td { nx := fun _ μ' => Qd (.v .none) μ', rt := Qd } (startD N ds) μ) : FnOk P w K mg base CX0 (k + 1) f fd ps (spD K dsp) := by
  refine F.ok S (fun vs H Q E h => ?_) (fun cdv A outer s H vs Q E hr h => ?_)
  · obtain ⟨ds, μ, Qd, _, r, h, _⟩ := h
    rw [← r.length]
    exact len ds μ Qd h
  · obtain ⟨ds, μ, Qd, ok, r, h, fin⟩ := h
    obtain ⟨td, ⟨t, p, l⟩, rd⟩ := hbody cdv A outer s H E hr
    refine ⟨t, p, ?_⟩
    exact l (start N vs) H (startD N ds) μ _ _ ⟨ok, rho_start r⟩ (rd ds μ Qd h) (fun σ' ρ' μ' H' e' S' q => fin (.v .none) .non μ' H' e' S'.mu Rp.none q) (fun d u μ' H' e' ok' r' q => fin d u μ' H' e' ok' r' q) (fun _ _ _ _ _ _ q => q) (fun _ _ _ _ _ _ q => q)
end
section
variable {X : Cx} {e : Expr} {es : List Expr} {t : DTA} {p pos : Pos} {x : Str} {k : Nat} {f : Addr} {fd : FuncData} {ps : List Str} {dsp : DSp}
def dCall (dsp : DSp) (t : DTA) : DTE := fun ρ μ Q => t ρ μ fun ds μ1 => dsp ds μ1 Q
theorem de_call (F : FnOk X.prog X.w X.K X.mg X.base CX0 k f fd ps (spD X.K dsp)) (hr : Room k X.A) (hg : Gl X x) (hm : X.mg x = some (.ref f)) (hk : PySem.W.keepIn X.K (.ref f) = true) (hb : Binds X.K fd ps [])
    (ha : DA X (e :: es) t) (hdb : (x == ("__debug__" : Str)) = false := by decide) (he : starEach (e :: es) X.env = (false, eval e X.env) :: starEach es X.env := by rfl) (hpl : (backTo pos (starEach es X.env)).any (·.1) = false := by rfl) :
    DE X (.Call (.Name x p) (e :: es) [] pos) (dCall dsp t) := by
  obtain ⟨t1, p1, l1⟩ := ha
  refine ⟨_, pe_call F hr hg hm hk hb .nil pass0 p1 hdb he hpl, fun σ H ρ μ Qd Q S h kk => ?_⟩
  refine l1 σ H ρ μ _ _ S h fun ds us μ1 H1 e1 S1 rs len h1 => ?_
  refine ⟨ds, μ1, Qd, S1.mu, by rw [List.append_nil]; exact rs, h1, fun d u μ' H' e2 ok r q => ?_⟩
  exact kk d u μ' H' (e1.trans e2) ⟨ok, S1.rho.ext S1.mu e2⟩ r q
end
section
variable {X : Cx} {o e : Expr} {to te : DTE} {apos cpos : Pos}
def dApp (to te : DTE) : DTE := fun ρ μ Q => to ρ μ fun x μ1 => match x with
  | .m l => te ρ μ1 fun y μ2 => (match y, μ2 l with
    | .v d, some xs => xs.length < 1000 ∧ Q (.v .none) (muSet μ2 l (xs ++ [d]))
    | _, _ => False)
  | _ => False
theorem de_append (ho : DE X o to) (ha : DE X e te) (hbase : attributeBase o "append" X.env (eval o X.env) = eval o X.env := by rfl)
    (hfew : ((backTo cpos (starEach [e] X.env)).all (fun x => !x.1) && (backToKw cpos (keywordEach [] X.env)).all (fun x => x.1.isSome)
      && decide ([e].length + ([] : List Keyword).length + (if ([] : List Keyword).isEmpty then 0 else 1) < 30)) = true := by rfl)
    (hline : (apos.endLine == cpos.line) = true := by rfl) (hs : starEach [e] X.env = (false, eval e X.env) :: starEach [] X.env := by rfl) (hplain : (backTo cpos (starEach [] X.env)).any (·.1) = false := by rfl) :
    DE X (.Call (.Attribute o "append" apos) [e] [] cpos) (dApp to te) := by
  obtain ⟨t1, p1, l1⟩ := ho
  obtain ⟨t2, p2, l2⟩ := ha
  refine ⟨_, pe_bm PySem.F.plainAttrs_list PySem.F.slot_list_append PySem.F.type_list_append mt_append p1 (pa_cons p2 pa_nil hs) hbase hfew hline hs hplain, fun σ H ρ μ Qd Q S h k => ?_⟩
  refine l1 σ H ρ μ _ _ S h fun x ux μ1 H1 e1 S1 rx h1 => ?_
  cases x with
  | m l =>
    obtain ⟨rfl, ds, hm⟩ := id rx
    obtain ⟨us, hl, rl⟩ := S1.mu l ds hm
    refine ⟨.inl ⟨rfl, us, SqL.of hl⟩, ?_⟩
    refine l2 σ H1 ρ μ1 _ _ S1 h1 fun y uy μ2 H2 e2 S2 ry h2 => ?_
    obtain ⟨_, ds2, hm2⟩ := rx.ext S1.mu e2
    obtain ⟨us2, hl2, rl2⟩ := S2.mu l ds2 hm2
    rw [hm2] at h2
    cases y with
    | v d =>
      have h3 : ds2.length < 1000 ∧ Qd (.v .none) (muSet μ2 l (ds2 ++ [d])) := h2
      refine ⟨l, us2, uy, rfl, rfl, hl2, by rw [← rl2.length]; exact small1000 (Nat.le_of_lt h3.1), ?_⟩
      have ex : Ext X.K μ2 H2 (muSet μ2 l (ds2 ++ [d])) (upd H2 l (.lst (us2 ++ [uy]))) := ext_set hm2
      exact k (.v .none) .non _ _ (e1.trans (e2.trans ex)) ⟨S2.mu.set hm2 (rl2.append (.cons ry .nil)), S2.rho.ext S2.mu ex⟩ Rp.none h3.2
    | m _ => exact h2.elim
    | s _ => exact h2.elim
    | o _ => exact h2.elim
    | q _ => exact h2.elim
  | v d => exact h1.elim
  | s ns => exact h1.elim
  | o _ => exact h1.elim
  | q _ => exact h1.elim
def dExt (to te : DTE) : DTE := fun ρ μ Q => to ρ μ fun x μ1 => match x with
  | .m l => te ρ μ1 fun y μ2 => (match y, μ2 l with
    | .v (.list ys), some xs => xs.length + ys.length ≤ 1000 ∧ Q (.v .none) (muSet μ2 l (xs ++ ys))
    | _, _ => False)
  | _ => False
def dBits (to : DTE) : DTE := fun ρ μ Q => to ρ μ fun x μ1 => match x with
  | .v (.int i) => Q (.v (.int (Builtin.Int.intBits i : Nat))) μ1
  | _ => False
end
open PySem PySem.Spec PyProof.Rows
theorem codeAny_compLoopG {prog : Program} {w : World} {A : Around} {R : Result → Shared → Prop} {s : Shared} {elt target iter : Expr} {ifs : List Expr} {scope : Scope} {pos : Pos} {it acc : Value} {env : Env} (I : Nat → Shared → Prop)
    (turn : ∀ n s, I n s → wpAny (model prog w) A (pyNext it) (fun r s₁ => match r with
      | none => R (.ok .next) s₁
      | some v => wpAny (model prog w) A (letOwnedTupleGo target it v) (fun _ s' => wpAny (model prog w) A (assign target env v) (fun _ s₂ =>
          wpAny (model prog w) A (forIn ifs true fun c r => if r = true then do let ok ← isTrue c env (eval c env); pure (ForInStep.yield ok) else pure (ForInStep.yield r)) (fun ok s₃ =>
            if ok = true then wpAny (model prog w) A (eval elt env) (fun x s₄ =>
              wpAny (model prog w) A (call (.builtin "list.append") [acc, x]) (fun _ s₅ => ∃ m, m < n ∧ I m s₅) (fun _ _ => False) s₄) (fun _ _ => False) s₃
            else ∃ m, m < n ∧ I m s₃) (fun _ _ => False) s₂) (fun _ _ => False) s') (fun _ _ => False) s₁) (fun _ _ => False) s)
    (n : Nat) (h : I n s) :
    codeAny (model prog w) A (.compLoop (.ListComp elt [⟨target, iter, ifs, 0⟩] scope pos) 0 it acc env) R s := by
  refine codeAny_loop rfl I (fun n s hI => ?_) n h
  show wpAny _ A ((compTurn (.ListComp elt [⟨target, iter, ifs, 0⟩] scope pos) 0 it acc env).onRaise (fun x => do noteFrame x env; theTreesLotGoes x)) _ _ s
  refine wpAny_noted ?_
  rw [compTurn_list]
  refine wpAny_bind (wpAny_standAt (wpAny_bind (wpAny_mono (turn n s hI) (fun r s₁ h₁ => ?_) fun _ _ h' => h'.elim)))
  cases r with
  | none => exact wpAny_pure h₁
  | some v =>
    refine wpAny_bind (wpAny_mono h₁ (fun _ s' h' => ?_) fun _ _ h' => h'.elim)
    refine wpAny_bind (wpAny_mono h' (fun _ s₂ h₂ => wpAny_bind (wpAny_mono h₂ (fun ok s₃ h₃ => ?_) fun _ _ h' => h'.elim)) fun _ _ h' => h'.elim)
    cases ok with
    | false => exact wpAny_pure ⟨rfl, h₃⟩
    | true =>
      exact wpAny_bind (wpAny_bind (wpAny_mono h₃ (fun x s₄ h₄ => wpAny_bind (wpAny_mono h₄ (fun _ s₅ h₅ => wpAny_pure (wpAny_pure ⟨rfl, h₅⟩)) fun _ _ h' => h'.elim)) fun _ _ h' => h'.elim))
section
variable {K : PySem.W.Frag} {μ μ' : Mu} {H : Hp}
mutual
theorem Rp.shrink {d : PyData} {u : V} (sub : ∀ a, μ' a = none → μ a = none) : Rp K μ' H d u → Rp K μ H d u
  | .none => .none
  | .bool b => .bool b
  | .int i => .int i
  | .str x => .str x
  | .list h n r => .list h (sub _ n) (RpL.shrink sub r)
  | .tuple h r => .tuple h (RpL.shrink sub r)
theorem RpL.shrink {ds : List PyData} {us : List V} (sub : ∀ a, μ' a = none → μ a = none) : RpL K μ' H ds us → RpL K μ H ds us
  | .nil => .nil
  | .cons h r => .cons (Rp.shrink sub h) (RpL.shrink sub r)
end
end
theorem de_of {X : Cx} {e : Expr} {td : DTE} (h : ∀ (pins : List (Addr × Obj)) (s : Shared) (σ : St) (H : Hp) (ρ : Rho) (μ : Mu) (Qd : DK) (Q : VK), Inv X pins σ H s → St0 X.K H ρ μ σ → td ρ μ Qd →
    (∀ d u μ' H', Ext X.K μ H μ' H' → St0 X.K H' ρ μ' σ → RpD X.K μ' H' d u → Qd d μ' → Q u H') → wpAny (model X.prog X.w) X.A (eval e X.env) (EP X pins σ Q) X.xe s) : DE X e td :=
  ⟨fun σ H Q => ∃ ρ μ Qd, St0 X.K H ρ μ σ ∧ td ρ μ Qd ∧ (∀ d u μ' H', Ext X.K μ H μ' H' → St0 X.K H' ρ μ' σ → RpD X.K μ' H' d u → Qd d μ' → Q u H'),
    fun pins s σ H Q I ⟨ρ, μ, Qd, S, q, k⟩ => h pins s σ H ρ μ Qd Q I S q k, fun σ H ρ μ Qd Q S q k => ⟨ρ, μ, Qd, S, q, k⟩⟩
def cxComp (X : Cx) (N' : List Str) (scope : Scope) (cl : List (Str × Addr)) (fp : List Addr) (s₃ : Shared) (H₃ : Hp) : Cx :=
  { X with N := N', s₀ := s₃, H₀ := H₃, env := compEnvC scope cl s₃.heap.objs.size X.env, outer := X.stack, stack := X.stack, ex := fp, fn := fun _ => false, pn := X.pn, xe := fun _ _ => False }
def Le : Rho → Rho → Prop
  | [], [] => True
  | none :: r, _ :: r' => Le r r'
  | some d :: r, some d' :: r' => d = d' ∧ Le r r'
  | _, _ => False
theorem Le.get : ∀ {ρ ρ' : Rho}, Le ρ ρ' → ρ.length = ρ'.length ∧ ∀ (i : Nat) d, ρ[i]? = some (some d) → ρ'[i]? = some (some d)
  | [], [], _ => ⟨rfl, fun _ _ h => h⟩
  | none :: r, x :: r', h => by
    obtain ⟨h1, h2⟩ := Le.get (ρ := r) (ρ' := r') h
    refine ⟨congrArg (· + 1) h1, fun i d e => ?_⟩
    cases i with
    | zero => simp at e
    | succ j => exact h2 j d (by simpa using e)
  | some d :: r, some d' :: r', h => by
    obtain ⟨rfl, h⟩ := h
    obtain ⟨h1, h2⟩ := Le.get (ρ := r) (ρ' := r') h
    refine ⟨congrArg (· + 1) h1, fun i d e => ?_⟩
    cases i with
    | zero => simpa using e
    | succ j => exact h2 j d (by simpa using e)
  | some d :: r, none :: r', h => h.elim
  | [], _ :: _, h => h.elim
  | none :: _, [], h => h.elim
  | some _ :: _, [], h => h.elim
def capF {α : Type} (cap : List (Option Nat)) (ρ : List (Option α)) : List (Option α) := cap.map fun o => o.bind fun j => (ρ[j]?).join
def dComp (cap : List (Option Nat)) (src : DTI) (g : DTG) (c : DTT) (elt : DTE) : DTE := fun ρ μ Q => src ρ μ fun xs μ1 => xs.length ≤ 1000 ∧ ∃ f : PyData → Option PyData,
  (∀ x ∈ xs, ∀ μ' : Mu, (∀ a ds, μ1 a = some ds → μ' a = some ds) → g (.v x) (capF cap ρ) μ' fun ρ2 μ2 => Le (capF cap ρ) ρ2 ∧ c ρ2 μ2 fun b μ3 =>
    if b = true then elt ρ2 μ3 fun d μ4 => μ4 = μ' ∧ (match d with | .v y => f x = some y | _ => False) else μ3 = μ' ∧ f x = none) ∧ Q (.v (.list (xs.filterMap f))) μ1
def DIfs (X : Cx) (ifs : List Expr) (c : DTT) : Prop := ∀ (pins : List (Addr × Obj)) (s : Shared) (σ : St) (H : Hp) (ρ : Rho) (μ : Mu) (Qd : Bool → Mu → Prop) (Q : Bool → Hp → Prop), Inv X pins σ H s → St0 X.K H ρ μ σ → c ρ μ Qd →
  (∀ b μ' H', Ext X.K μ H μ' H' → St0 X.K H' ρ μ' σ → Qd b μ' → Q b H') →
  wpAny (model X.prog X.w) X.A (forIn ifs true fun c r => if r = true then do let ok ← isTrue c X.env (eval c X.env); pure (ForInStep.yield ok) else pure (ForInStep.yield r)) (TP X pins σ Q) X.xe s
def dTrue : DTT := fun _ μ Q => Q true μ
theorem difs_nil {X : Cx} : DIfs X [] dTrue := fun pins s σ H ρ μ Qd Q I S h k => wpAny_tests_nil ⟨H, I, k true μ H .refl S h⟩
theorem difs_one {X : Cx} {c : Expr} {tc : DTT} (h : DT X c tc) : DIfs X [c] tc := by
  obtain ⟨t, p, l⟩ := h
  exact fun pins s σ H ρ μ Qd Q I S h k => wpAny_tests_one (p pins s σ H _ I (l σ H ρ μ _ _ S h k))
theorem Un.after {fs ex : List Addr} {H H1 : Hp} {h h1 h' : Heap} (u : Un fs ex H H1 h h1) (k : ∀ b o, b < h.objs.size → h1.get? b = some o → h'.get? b = some o) : Un fs ex H H1 h h' :=
  ⟨fun b o e n hb hx => k b o (Heap.lt_size e) (u.keep b o e n hb hx), fun b o e n hb hx => let ⟨sl, q⟩ := u.slot b o e n hb hx; ⟨sl, k b _ (Heap.lt_size e) q⟩, u.free, fun b o e hx => let ⟨o', q⟩ := u.there b o e hx; ⟨o', k b _ (Heap.lt_size e) q⟩, u.tups, u.frzs, u.tbls⟩
theorem capF_get {α : Type} {cap : List (Option Nat)} {ρ : List (Option α)} {i : Nat} {d : α} (h : (capF cap ρ)[i]? = some (some d)) : ∃ j, cap[i]? = some (some j) ∧ ρ[j]? = some (some d) := by
  unfold capF at h
  rw [List.getElem?_map] at h
  cases q : cap[i]? with
  | none => rw [q] at h; cases h
  | some o =>
    rw [q] at h
    cases o with
    | none => cases h
    | some j =>
      refine ⟨j, rfl, ?_⟩
      simp only [Option.map_some, Option.bind_some, Option.some.injEq] at h
      cases z : ρ[j]? with
      | none => rw [z] at h; cases h
      | some y => rw [z] at h; simp only [Option.join_some] at h; rw [h]
theorem capF_put {α : Type} {cap : List (Option Nat)} {ρ : List (Option α)} {i j : Nat} {d : α} (h : cap[i]? = some (some j)) (e : ρ[j]? = some (some d)) : (capF cap ρ)[i]? = some (some d) := by
  unfold capF
  rw [List.getElem?_map, h]
  simp [e]
theorem RhoOk.cap {K : PySem.W.Frag} {μ : Mu} {H : Hp} {ρ : Rho} {σ : St} {cap : List (Option Nat)} (r : RhoOk K μ H ρ σ) : RhoOk K μ H (capF cap ρ) (capF cap σ) := by
  refine ⟨by unfold capF; simp, fun i d e => ?_⟩
  obtain ⟨j, h1, h2⟩ := capF_get e
  obtain ⟨u, h3, h4⟩ := r.2 j d h2
  exact ⟨u, capF_put h1 h3, h4⟩
theorem RhoOk.le {K : PySem.W.Frag} {μ : Mu} {H : Hp} {ρ ρ' : Rho} {σ : St} (r : RhoOk K μ H ρ' σ) (l : Le ρ ρ') : RhoOk K μ H ρ σ :=
  ⟨l.get.1.trans r.1, fun i d e => r.2 i d (l.get.2 i d e)⟩
theorem fm_take {xs : List PyData} {f : PyData → Option PyData} {i : Nat} {d : PyData} (h : xs[i]? = some d) : (xs.take (i + 1)).filterMap f = (xs.take i).filterMap f ++ (f d).toList := by
  obtain ⟨hi, e⟩ := List.getElem?_eq_some_iff.mp h
  rw [List.take_succ_eq_append_getElem hi, List.filterMap_append, e]
  cases q : f d <;> simp [q]
theorem de_comp {X : Cx} {N' : List Str} {scope : Scope} {cl : List (Str × Addr)} {elt iter tg : Expr} {ifs : List Expr} {pos : Pos} {cap : List (Option Nat)} {src : DTI} {g : DTG} {c : DTT} {te : DTE} (hc : X.calm = X.calm)
    (hi : DI X tg iter src) (hg : ∀ fp s₃ H₃, DG (cxComp X N' scope cl fp s₃ H₃) tg g) (hif : ∀ fp s₃ H₃, DIfs (cxComp X N' scope cl fp s₃ H₃) ifs c) (he : ∀ fp s₃ H₃, DE (cxComp X N' scope cl fp s₃ H₃) elt te)
    (hclos : closureFor scope X.env = pure cl) (hcell : ∀ y ∈ scope.names, y.2 ≠ .cell) (hkind : scope.kind = .function) (hnames : ∀ y ∈ scope.names, y.2 = .local → scope.names.lookup y.1 = some .local)
    (hcl : ∀ x a, cl.lookup x = some a → X.env.cells.lookup x = some a) (hhas : ∀ x, (relabel scope X.env).names.lookup x = some .cell ∨ (relabel scope X.env).names.lookup x = some .free → ∃ a, cl.lookup x = some a)
    (hlen : cap.length = N'.length) (hcap : ∀ (i j : Nat) (x : Str), cap[i]? = some (some j) → N'[i]? = some x → X.N[j]? = some x ∧ Vis X.env.scope x ∧ X.env.kindOf x ≠ some .local ∧ ((relabel scope X.env).names.lookup x = some .cell ∨ (relabel scope X.env).names.lookup x = some .free))
    (hs : ∀ x, foldedSetIterable iter X.env x = pure x := by intro _; rfl) : DE X (.ListComp elt [⟨tg, iter, ifs, 0⟩] scope pos) (dComp cap src g c te) := by
  refine de_of fun pins s σ H ρ μ Qd Q I S h k => ?_
  obtain ⟨wi, pw, li⟩ := hi
  rw [eval_ListComp]
  refine wpAny_comprehension_free (use := none) rfl hs hclos hkind hnames (thn (pw pins s σ H _ I (li σ H ρ μ _ (fun J H1 => ∃ xs μ1, Ext X.K μ H μ1 H1 ∧ St0 X.K H1 ρ μ1 σ ∧ ItOk X.K J xs μ1 H1 ∧ xs.length ≤ 1000 ∧ ∃ f : PyData → Option PyData,
      (∀ x ∈ xs, ∀ μ' : Mu, (∀ a ds, μ1 a = some ds → μ' a = some ds) → g (.v x) (capF cap ρ) μ' fun ρ2 μ2 => Le (capF cap ρ) ρ2 ∧ c ρ2 μ2 fun b μ3 =>
        if b = true then te ρ2 μ3 fun d μ4 => μ4 = μ' ∧ (match d with | .v y => f x = some y | _ => False) else μ3 = μ' ∧ f x = none) ∧ Qd (.v (.list (xs.filterMap f))) μ1) S h (fun xs μ1 H1 J e1 S1 it q => ⟨xs, μ1, e1, S1, it, q⟩)))
    fun v s1 h1 => thn h1 fun itv s2 h2 => ?_)
  obtain ⟨it, fp, tn, J, H2, rfl, I2, T, st2, f2, xs, μ1, e1, S1, itok, hxs, f, body, fin⟩ := h2
  refine wpAny_newObj_type (wpAny_newFunctionEnv hcell (by intro y hy; simp at hy) (fun h₁ hns₁ hsb₁ => ?_) hkind)
  dsimp only at hns₁ hsb₁ ⊢
  have hfree2 : H2 s2.heap.objs.size = none := I2.hok.fresh (Nat.le_refl _)
  have hK2 : X.K.lookup s2.heap.objs.size = none := by
    cases z : X.K.lookup s2.heap.objs.size with
    | none => rfl
    | some o => exact absurd (Heap.lt_size (I2.kIn _ _ z)) (Nat.lt_irrefl _)
  have I3 : Inv X pins σ (upd H2 s2.heap.objs.size (.lst [])) { s2 with heap := s2.heap.push { cls := .type "list", dict := none, data := .seq ([] : List Value).toArray } } :=
    I2.laid (t' := s2.toks) (fun b u e => Heap.get?_push_of_some _ e) (Nat.le_refl _) ⟨Nat.zero_le _, [], 0, .nil, Heap.get?_push_size _ rfl⟩
  generalize hH : s2.heap.push { cls := .type "list", dict := none, data := .seq ([] : List Value).toArray } = hp3 at hns₁ hsb₁ I3 ⊢
  have hsz3 : hp3.objs.size = s2.heap.objs.size + 1 := by rw [← hH, Heap.size_push]
  have kept3 : ∀ b o, hp3.get? b = some o → h₁.get? b = some o := fun b o e => hsb₁.extBut b o (Nat.ne_of_lt (Heap.lt_size e)) (Heap.get?_push_of_some _ e)
  have old3 : ∀ b o, s2.heap.get? b = some o → hp3.get? b = some o := fun b o e => by rw [← hH]; exact Heap.get?_push_of_some _ e
  have fplt : ∀ b ∈ fp, b < s2.heap.objs.size := fun b hb => by obtain ⟨o, e, _⟩ := T.obj 0 _ st2 b hb; exact Heap.lt_size e
  have fpst : ∀ b ∈ fp, b ∉ frs X.stack := fun b hb hz => by
    rcases List.mem_cons.mp (I2.stkSub b hz) with e | e
    · exact (f2 b hb).2.1 e
    · exact (f2 b hb).2.2.1 e
  obtain ⟨s3, hs3⟩ : ∃ s3 : Shared, s3 = { s2 with heap := hp3 } := ⟨_, rfl⟩
  obtain ⟨H3, hH3⟩ : ∃ H3 : Hp, H3 = upd H2 s2.heap.objs.size (.lst []) := ⟨_, rfl⟩
  have heap3 : s3.heap = hp3 := by rw [hs3]
  rw [← hH3] at I3
  have I3' : Inv X pins σ H3 s3 := by rw [hs3]; exact I3
  have hloc : H3 hp3.objs.size = none := by have := I3'.hok.fresh (a := hp3.objs.size) (by rw [heap3]; exact Nat.le_refl _); exact this
  have okc : (cxComp X N' scope cl fp s3 H3).Ok := by
    refine ⟨I3.ok.mod, ?_, I3.ok.glob, I3.ok.blt, Nat.le_refl _, fun x y a h1 h2 => I3.ok.inj x y a (hcl x a h1) (hcl y a h2), fun x hx => hhas x hx, fun x a h => (nomatch h), I3.ok.hd, I3.ok.qt, I3.ok.frames, .inl rfl, fun b hb => ⟨?_, fun x a h => (f2 b hb).2.2.2.2.1 x a (hcl x a h)⟩,
      I3'.bs, Nat.le_trans I3.ok.bsz I3'.sz, fun b o e hb => ?_, fun b hb => fpst b hb, I3'.stack, I3'.stkFree⟩
    · exact hkind
    · show b ≠ s3.heap.objs.size
      rw [heap3, hsz3]
      exact Nat.ne_of_lt (Nat.lt_succ_of_lt (fplt b hb))
    · rcases (f2 b hb).2.2.2.1 with z | z
      · exact I3.ok.noex b o e z
      · exact absurd (Nat.lt_of_lt_of_le (Heap.lt_size (I3.ok.bs b o e).1) z) (Nat.lt_irrefl _)
  have I4 : Inv (cxComp X N' scope cl fp s3 H3) [] (capF cap σ) H3 { s2 with heap := h₁, toks := s2.toks + ([] : List (Str × Value)).length } := by
    refine ⟨okc, by show s2.os = s3.os; rw [hs3], I3.bare, Un.kept (by show ∀ b o, s3.heap.get? b = some o → _; rw [heap3]; exact kept3), ⟨_, (by show h₁.Ns s3.heap.objs.size _; rw [heap3]; exact hns₁), fun i x v e1 e2 e3 => ?_⟩, fun x a h => ?_, (by show H3 s3.heap.objs.size = none; rw [heap3]; exact hloc), fun x a h => I3.freeC x a (hcl x a h), fun p hp => ?_, I3.hok.kept kept3, ?_⟩
    · obtain ⟨j, h1, h2⟩ := capF_get e2
      obtain ⟨hN, hv, hnl, hk⟩ := hcap i j x h1 e1
      obtain ⟨m, _, hl⟩ := I3.loc
      obtain ⟨u, r, lk⟩ := hl j x v hN h2 hv
      refine ⟨u, r, .inr ⟨hk, ?_⟩⟩
      obtain ⟨a, ha⟩ := hhas x hk
      rcases lk with ⟨z, _⟩ | ⟨_, a', z1, z2⟩
      · exact absurd z hnl
      · have : a' = a := by have q := hcl x a ha; rw [z1] at q; exact Option.some.inj q
        subst this
        obtain ⟨o, ho, hd⟩ := z2
        exact ⟨a', ha, o, kept3 _ _ ho, hd⟩
    · obtain ⟨v, o, ho, hd⟩ := I3.cell x a (hcl x a h)
      exact ⟨v, o, kept3 _ _ ho, hd⟩
    · have hp' : p ∈ X.pn ++ pins := List.mem_append_left _ (by simpa using (show p ∈ X.pn ++ [] from hp))
      obtain ⟨z1, z2, z3, z4, z5⟩ := I3'.pin p hp'
      refine ⟨kept3 _ _ (by rw [← heap3]; exact z1), z2, (show p.1 ≠ s3.heap.objs.size from Nat.ne_of_lt (Heap.lt_size z1)), fun z => ?_, z5⟩
      rcases List.mem_cons.mp (I3'.stkSub p.1 z) with e | e
      · exact z3 e
      · exact z4 e
    · show (capF cap σ).length = N'.length
      unfold capF
      rw [List.length_map]
      exact hlen
  have hμ1 : μ1 s2.heap.objs.size = none := S1.mu.free hfree2
  have sub1 : ∀ ys a ds, μ1 a = some ds → muSet μ1 s2.heap.objs.size ys a = some ds := fun ys a ds e => by
    have : a ≠ s2.heap.objs.size := fun z => by rw [z, hμ1] at e; cases e
    rw [muSet_ne this]; exact e
  have loop : codeAny (model X.prog X.w) X.A (.compLoop (.ListComp elt [⟨tg, iter, ifs, 0⟩] scope pos) 0 (.ref it) (.ref s2.heap.objs.size) (cxComp X N' scope cl fp s3 H3).env)
      (compPost (model X.prog X.w) X.A X.xe none (EP X pins σ Q) (.ref s2.heap.objs.size) hp3.objs.size) { s2 with heap := h₁, toks := s2.toks + ([] : List (Str × Value)).length } := by
    refine codeAny_compLoopG (fun n s' => ∃ (i : Nat) (σc : St) (Hc : Hp), n = xs.length - i ∧ i ≤ xs.length ∧ Inv (cxComp X N' scope cl fp s3 H3) [] σc Hc s' ∧ tn i s'.heap ∧ (∀ b ∈ fp, Hc b = none) ∧
      St0 X.K Hc (capF cap ρ) (muSet μ1 s2.heap.objs.size ((xs.take i).filterMap f)) σc ∧ Ext X.K μ1 H2 (muSet μ1 s2.heap.objs.size ((xs.take i).filterMap f)) Hc) ?_ xs.length
      ⟨0, capF cap σ, H3, by simp, Nat.zero_le _, I4, T.keep 0 _ _ st2 (fun b hb o e => kept3 b o (old3 b o e)), fun b hb => ?_, ?_, ?_⟩
    · rintro n s' ⟨i, σc, Hc, rfl, hi, Ic, tc, frc, Sc, Ec⟩
      have stat : ∀ {Hd : Hp}, (∀ b ∈ fp, Hd b = none) → ∀ b ∈ fp, FpOk (cxComp X N' scope cl fp s3 H3) [] Hd b := fun hn b hb =>
        ⟨hn b hb, (okc.exf b hb).1, fpst b hb, .inl hb, fun x a h => (okc.exf b hb).2 x a h, fun p hp => (f2 b hb).2.2.2.2.2 p (List.mem_append_left _ (by simpa using (show p ∈ X.pn ++ [] from hp)))⟩
      obtain ⟨go, stop⟩ := itok _ Hc Ec Sc.mu i
      by_cases hlt : i < xs.length
      · obtain ⟨g1, y1⟩ := go hlt
        refine thn (T.item (cxComp X N' scope cl fp s3 H3) rfl rfl rfl (fun z => z) i [] s' σc Hc (fun _ _ => False) Ic (stat frc) tc g1) fun r s4 ⟨u, hr, h4⟩ => ?_
        subst hr
        refine thn h4 fun _ s5 ⟨x, H5, I5, r5, y5, st5, fr5⟩ => ?_
        obtain ⟨d, hd, sm, rd⟩ := y1 x H5 y5
        have I5' := I5.pinned (stat fr5) (T.obj _ _ st5)
        have e5 : Ext X.K _ Hc _ H5 := .of_same (μ := muSet μ1 s2.heap.objs.size ((xs.take i).filterMap f)) sm
        have S5 : St0 X.K H5 (capF cap ρ) (muSet μ1 s2.heap.objs.size ((xs.take i).filterMap f)) σc := ⟨Sc.mu.ext0 e5 sm, Sc.rho.ext Sc.mu e5⟩
        obtain ⟨gt, pg, lg⟩ := hg fp s3 H3
        have hmem : d ∈ xs := List.mem_of_getElem? hd
        refine thn (pg _ s5 σc H5 x u (fun σ' H' => ∃ ρ' μ', Ext X.K (muSet μ1 s2.heap.objs.size ((xs.take i).filterMap f)) H5 μ' H' ∧ St0 X.K H' ρ' μ' σ' ∧ Le (capF cap ρ) ρ' ∧ c ρ' μ' fun b μ3 =>
            if b = true then te ρ' μ3 fun d' μ4 => μ4 = muSet μ1 s2.heap.objs.size ((xs.take i).filterMap f) ∧ (match d' with | .v y => f d = some y | _ => False) else μ3 = muSet μ1 s2.heap.objs.size ((xs.take i).filterMap f) ∧ f d = none) I5' r5
          (lg σc H5 (capF cap ρ) _ (.v d) x _ _ S5 rd (body d hmem _ (sub1 _)) fun σ' ρ' μ' H' e' S' q => ⟨ρ', μ', e', S', q⟩)) fun _ s6 ⟨σ6, H6, I6, ρ6, μ6, e6, S6, le6, q6⟩ => ?_
        refine thn (hif fp s3 H3 _ s6 σ6 H6 ρ6 μ6 _ (fun b H' => ∃ μ', Ext X.K μ6 H6 μ' H' ∧ St0 X.K H' ρ6 μ' σ6 ∧ if b = true then te ρ6 μ' fun d' μ4 => μ4 = muSet μ1 s2.heap.objs.size ((xs.take i).filterMap f) ∧ (match d' with | .v y => f d = some y | _ => False) else μ' = muSet μ1 s2.heap.objs.size ((xs.take i).filterMap f) ∧ f d = none)
          I6 S6 q6 fun b μ' H' e' S' q => ⟨μ', e', S', q⟩) fun b s7 ⟨H7, I7, μ7, e7, S7, q7⟩ => ?_
        have again : ∀ {H9 : Hp} {s9 : Shared}, Inv (cxComp X N' scope cl fp s3 H3) ([] ++ pinsAt fp s5.heap) σ6 H9 s9 → MuOk X.K (muSet μ1 s2.heap.objs.size ((xs.take (i + 1)).filterMap f)) H9 → RhoOk X.K (muSet μ1 s2.heap.objs.size ((xs.take (i + 1)).filterMap f)) H9 (capF cap ρ) σ6 →
            Ext X.K μ1 H2 (muSet μ1 s2.heap.objs.size ((xs.take (i + 1)).filterMap f)) H9 → ∃ m, m < xs.length - i ∧ ∃ (i : Nat) (σc : St) (Hc : Hp), m = xs.length - i ∧ i ≤ xs.length ∧ Inv (cxComp X N' scope cl fp s3 H3) [] σc Hc s9 ∧ tn i s9.heap ∧ (∀ b ∈ fp, Hc b = none) ∧
              St0 X.K Hc (capF cap ρ) (muSet μ1 s2.heap.objs.size ((xs.take i).filterMap f)) σc ∧ Ext X.K μ1 H2 (muSet μ1 s2.heap.objs.size ((xs.take i).filterMap f)) Hc := fun {H9 s9} I9 m9 r9 e9 => by
          refine ⟨xs.length - (i + 1), by omega, i + 1, σ6, H9, rfl, hlt, I9.unpinned, T.keep _ _ _ st5 fun b hb o e => (I9.pin (b, o) (List.mem_append_right _ (List.mem_append_right _ (mem_pinsAt hb e)))).1, fun b hb => ?_, ⟨m9, r9⟩, e9⟩
          obtain ⟨o, e, _⟩ := T.obj _ _ st5 b hb
          exact (I9.pin (b, o) (List.mem_append_right _ (List.mem_append_right _ (mem_pinsAt hb e)))).2.1
        cases b with
        | false =>
          have q8 : μ7 = muSet μ1 s2.heap.objs.size ((xs.take i).filterMap f) ∧ f d = none := by simpa using q7
          refine iteF ?_
          have et : (xs.take (i + 1)).filterMap f = (xs.take i).filterMap f := by rw [fm_take hd, q8.2]; simp
          have eμ : muSet μ1 s2.heap.objs.size ((xs.take (i + 1)).filterMap f) = μ7 := by rw [et, q8.1]
          refine again I7 (by rw [eμ]; exact S7.mu) (by rw [eμ]; exact S7.rho.le le6) ?_
          rw [eμ]
          exact Ec.trans (e5.trans (e6.trans e7))
        | true =>
          refine iteT ?_
          obtain ⟨t8, p8, l8⟩ := he fp s3 H3
          refine thn (p8 _ s7 σ6 H7 (fun v H' => ∃ y, Ext X.K μ7 H7 (muSet μ1 s2.heap.objs.size ((xs.take i).filterMap f)) H' ∧ St0 X.K H' ρ6 (muSet μ1 s2.heap.objs.size ((xs.take i).filterMap f)) σ6 ∧ Rp X.K (muSet μ1 s2.heap.objs.size ((xs.take i).filterMap f)) H' y v ∧ f d = some y) I7
            (l8 σ6 H7 ρ6 μ7 _ _ S7 (by simpa using q7) fun d' v μ8 H8 e8 S8 r8 q8 => ?_)) fun v s8 ⟨v8, H8, I8, r8, y, e8, S8, ry, fy⟩ => ?_
          · obtain ⟨rfl, q8⟩ := q8
            cases d' with
            | v y => exact ⟨y, e8, S8, r8, q8⟩
            | m _ => exact q8.elim
            | s _ => exact q8.elim
            | o _ => exact q8.elim
            | q _ => exact q8.elim
          · obtain ⟨us, hacc, rus⟩ := S8.mu s2.heap.objs.size _ muSet_same
            have hle : ((xs.take i).filterMap f).length ≤ 1000 := Nat.le_trans (List.length_filterMap_le _ _) (Nat.le_trans (by rw [List.length_take]; exact Nat.min_le_right _ _) hxs)
            refine thn (mt_append (X := cxComp X N' scope cl fp s3 H3) _ s8 σ6 H8 (.ref s2.heap.objs.size) [v8] (.ref s2.heap.objs.size) [v] (fun _ H' => H' = upd H8 s2.heap.objs.size (.lst (us ++ [v8]))) I8 rfl (.cons r8 .nil) ⟨_, us, v8, rfl, rfl, hacc, by rw [← rus.length]; exact small1000 hle, rfl⟩) fun _ s9 ⟨_, H9, I9, _, e9⟩ => ?_
            subst e9
            have et : (xs.take (i + 1)).filterMap f = (xs.take i).filterMap f ++ [y] := by rw [fm_take hd, fy]; rfl
            have mset : muSet (muSet μ1 s2.heap.objs.size ((xs.take i).filterMap f)) s2.heap.objs.size ((xs.take (i + 1)).filterMap f) = muSet μ1 s2.heap.objs.size ((xs.take (i + 1)).filterMap f) := muSet_set
            have ex : Ext X.K (muSet μ1 s2.heap.objs.size ((xs.take i).filterMap f)) H8 (muSet μ1 s2.heap.objs.size ((xs.take (i + 1)).filterMap f)) (upd H8 s2.heap.objs.size (.lst (us ++ [v8]))) := by
              rw [← mset]
              exact ext_set muSet_same
            refine again I9 ?_ ((S8.rho.le le6).ext S8.mu ex) (Ec.trans (e5.trans (e6.trans (e7.trans (e8.trans ex)))))
            rw [← mset]
            refine S8.mu.set muSet_same ?_
            rw [et]
            exact rus.append (.cons ry .nil)
      · have ei : i = xs.length := by omega
        subst ei
        refine thn (T.done (cxComp X N' scope cl fp s3 H3) rfl rfl rfl (fun z => z) _ [] s' σc Hc (fun _ _ => False) Ic (stat frc) tc (stop rfl)) fun r s4 ⟨hr, I5⟩ => ?_
        subst hr
        rw [List.take_length] at Sc Ec
        obtain ⟨m, hn, _⟩ := I5.loc
        refine ⟨m, (by have z : s4.heap.Ns s3.heap.objs.size m := hn; rw [heap3] at z; exact z), fun h' hs' => ?_⟩
        have kp : ∀ b o, b < s2.heap.objs.size → s4.heap.get? b = some o → h'.get? b = some o := fun b o hb e => hs'.extBut b o (by rw [hsz3]; exact Nat.ne_of_lt (Nat.lt_succ_of_lt hb)) e
        have hcC : Hc hp3.objs.size = none := by have z : Hc s3.heap.objs.size = none := I5.free; rw [heap3] at z; exact z
        have hok' : HOk X.prog X.w Hc h' := fun b ob e => by
          refine (I5.hok b ob e).stay (fun cc v hcc q => hs'.extBut cc v ?_ q) (fun _ q => q) fun _ _ q => q
          rintro rfl
          rcases hcc with z | z
          · rw [← z, hcC] at e; cases e
          · rw [hcC] at z; cases z
        have u1 : Un (frs X.stack) fp H2 H3 s2.heap s3.heap := by rw [heap3, hH3]; exact Un.laid old3 (Nat.le_refl _) hfree2
        have u2 : Un (frs X.stack) fp H3 Hc s3.heap s4.heap := I5.base
        have If : Inv X pins σ Hc { s4 with heap := h' } := I2.call' (ch := fp) (by show s4.os = s2.os; have z : s4.os = s3.os := I5.os; rw [z, hs3]) (Un.after (u1.trans u2) kp) hok' I5.bare fun b hb => ⟨(f2 b hb).2.2.2.1, (f2 b hb).2.1, (f2 b hb).2.2.2.2.1, (f2 b hb).2.2.2.2.2⟩
        obtain ⟨us, hacc, rus⟩ := Sc.mu s2.heap.objs.size _ muSet_same
        have shr : ∀ a, muSet μ1 s2.heap.objs.size (xs.filterMap f) a = none → μ1 a = none := fun a e => by
          by_cases ha : a = s2.heap.objs.size
          · rw [ha]; exact hμ1
          · rw [muSet_ne ha] at e; exact e
        have eF : Ext X.K μ1 H2 μ1 Hc := ⟨Ec.keep, Ec.tb, fun _ ds q => ⟨ds, q⟩, fun _ q _ => q⟩
        have mF : MuOk X.K μ1 Hc := ⟨fun a ds q => by
          obtain ⟨ys, z1, z2⟩ := Sc.mu a ds (sub1 _ a ds q)
          exact ⟨ys, z1, z2.shrink shr⟩, Sc.mu.tab⟩
        exact ⟨.ref s2.heap.objs.size, Hc, If, rfl, k (.v (.list (xs.filterMap f))) _ μ1 Hc (e1.trans eF) ⟨mF, S1.rho.ext S1.mu eF⟩ (Rp.list hacc hμ1 (rus.shrink shr)) fin⟩
    · have z : b ≠ s2.heap.objs.size := Nat.ne_of_lt (fplt b hb)
      rw [hH3, upd_ne z]
      exact (f2 b hb).1
    · have ex := ext_mut (o := .lst []) (ds := []) S1.mu hfree2 hK2
      rw [hH3]
      exact ⟨S1.mu.mut .nil hfree2 hK2, (S1.rho.ext S1.mu ex).cap⟩
    · rw [hH3]
      exact ext_mut (o := .lst []) (ds := []) S1.mu hfree2 hK2
  have envE : (cxComp X N' scope cl fp s3 H3).env = compEnvC scope cl hp3.objs.size X.env := by show compEnvC scope cl s3.heap.objs.size X.env = _; rw [heap3]
  rw [envE] at loop
  exact codeAny_compStart_list loop (T.self X.A 0 _ _ _ (T.keep 0 _ _ st2 (fun b hb o e => kept3 b o (old3 b o e))) loop)
open PySem PySem.Spec PyProof.Rows
section
variable {X : Cx} {a b c : Expr} {ta tb tc : DTE} {pos : Pos}
def dChain (r r' : D → D → Mu → DK → Prop) (ta tb tc : DTE) : DTE := fun ρ μ Q => ta ρ μ fun x μ1 => tb ρ μ1 fun y μ2 => r x y μ2 fun z μ3 => match z with
  | .v (.bool k) => if k = true then tc ρ μ3 fun w μ4 => r' y w μ4 Q else Q (.v (.bool false)) μ3
  | _ => False
end
open PySem PySem.Spec PyProof.Rows
theorem atI_0 {α : Type} {x : α} {xs : List α} : atI (x :: xs) 0 = some x := by unfold atI ixN; simp
theorem atI_1 {α : Type} {x y : α} {xs : List α} : atI (x :: y :: xs) 1 = some y := by
  have h := atI_nat (xs := x :: y :: xs) (j := 1) (v := y) rfl
  exact h
theorem atI_2 {α : Type} {x y z : α} {xs : List α} : atI (x :: y :: z :: xs) 2 = some z := by
  have h := atI_nat (xs := x :: y :: z :: xs) (j := 2) (v := z) rfl
  exact h
theorem atI_3 {α : Type} {x y z u : α} {xs : List α} : atI (x :: y :: z :: u :: xs) 3 = some u := by
  have h := atI_nat (xs := x :: y :: z :: u :: xs) (j := 3) (v := u) rfl
  exact h
def rAddD : D → D → Mu → DK → Prop := fun x y μ Q => match x, y with
  | .v (.int i), .v (.int j) => Q (.v (.int (i + j))) μ
  | .v (.tuple xs), .v (.tuple ys) => xs.length + ys.length ≤ 1000 ∧ Q (.v (.tuple (xs ++ ys))) μ
  | _, _ => rCatD x y μ Q
theorem OpR.or {X : Cx} {f} {r1 r2 : R2} (h1 : OpR X f r1) (h2 : OpR X f r2) : OpR X f (fun x y H Q => r1 x y H Q ∨ r2 x y H Q) := by
  intro pins s σ H x y v u Q I rx ry h
  rcases h with h | h
  · exact h1 pins s σ H x y v u Q I rx ry h
  · exact h2 pins s σ H x y v u Q I rx ry h
theorem lo_add {K : PySem.W.Frag} : LiftO K (fun x y H Q => (rI0 fun i j => .int (i + j)) x y H Q ∨ ((rCatTT K) x y H Q ∨ rCat x y H Q)) rAddD := by
  intro x y ux uy H μ Qd Q ok rx ry h k
  unfold rAddD at h
  split at h
  · exact .inl (lo_I0 (K := K) (gd := fun i j => .int (i + j)) (fun _ _ _ _ => .int _) _ _ ux uy H μ Qd Q ok rx ry h k)
  · exact .inr (.inl (lo_catT _ _ ux uy H μ Qd Q ok rx ry h k))
  · exact .inr (.inr (lo_cat _ _ ux uy H μ Qd Q ok rx ry h k))
theorem de_plus {X : Cx} {a b : Expr} {ta tb : DTE} {pos : Pos} (ha : DE X a ta) (hb : DE X b tb) : DE X (.BinOp a .Add b pos) (dOp rAddD ta tb) := de_op (op_add.or (op_catTT.or op_cat)) lo_add ha hb
section
variable {ρ : Rho} {μ : Mu} {Q : DK} {QT : Bool → Mu → Prop} {QA : List D → Mu → Prop} {QG : Rho → Mu → Prop} {QI : List PyData → Mu → Prop} {QO : Option Int → Mu → Prop} {Dd : DEnds} {ta tb tc : DTE} {t u : DTT} {tA : DTA} {s1 s2 : DTS} {i j : Int} {x y : PyData} {xs ys : List PyData} {d e : D}
def dNever : DTS := fun _ _ _ => False
theorem ds_never {X : Cx} {st : Stmt} : DS X st dNever := ⟨fun _ _ _ => False, fun _ _ _ _ _ _ h => h.elim, fun _ _ _ _ _ _ _ h => h.elim⟩
theorem q_var0 {o : Rho} : dVar 0 (some d :: o) μ Q = Q d μ := propext Iff.rfl
theorem q_var1 {a} {o : Rho} : dVar 1 (a :: some d :: o) μ Q = Q d μ := propext Iff.rfl
theorem q_var2 {a b} {o : Rho} : dVar 2 (a :: b :: some d :: o) μ Q = Q d μ := propext Iff.rfl
theorem q_var3 {a b c} {o : Rho} : dVar 3 (a :: b :: c :: some d :: o) μ Q = Q d μ := propext Iff.rfl
theorem q_var4 {a b c f} {o : Rho} : dVar 4 (a :: b :: c :: f :: some d :: o) μ Q = Q d μ := propext Iff.rfl
theorem q_var5 {a b c f g} {o : Rho} : dVar 5 (a :: b :: c :: f :: g :: some d :: o) μ Q = Q d μ := propext Iff.rfl
theorem q_var6 {a b c f g h} {o : Rho} : dVar 6 (a :: b :: c :: f :: g :: h :: some d :: o) μ Q = Q d μ := propext Iff.rfl
theorem q_var7 {a b c f g h k} {o : Rho} : dVar 7 (a :: b :: c :: f :: g :: h :: k :: some d :: o) μ Q = Q d μ := propext Iff.rfl
theorem q_var8 {a b c f g h k l} {o : Rho} : dVar 8 (a :: b :: c :: f :: g :: h :: k :: l :: some d :: o) μ Q = Q d μ := propext Iff.rfl
theorem q_var9 {a b c f g h k l m} {o : Rho} : dVar 9 (a :: b :: c :: f :: g :: h :: k :: l :: m :: some d :: o) μ Q = Q d μ := propext Iff.rfl
theorem q_var10 {a b c f g h k l m n} {o : Rho} : dVar 10 (a :: b :: c :: f :: g :: h :: k :: l :: m :: n :: some d :: o) μ Q = Q d μ := propext Iff.rfl
theorem q_c : dC x ρ μ Q = Q (.v x) μ := propext Iff.rfl
theorem q_op {r} : dOp r ta tb ρ μ Q = ta ρ μ fun x μ1 => tb ρ μ1 fun y μ2 => r x y μ2 Q := propext Iff.rfl
theorem q_B : dB ta ρ μ QT = ta ρ μ fun d μ1 => match d with | .v (.bool k) => QT k μ1 | _ => False := propext Iff.rfl
theorem q_II {C : Int → Int → Prop} {g : Int → Int → PyData} : rII C g (.v (.int i)) (.v (.int j)) μ Q = (C i j ∧ Q (.v (g i j)) μ) := propext Iff.rfl
theorem q_I00 {g : Int → Int → PyData} : rI00 g (.v (.int i)) (.v (.int j)) μ Q = Q (.v (g i j)) μ := propext Iff.rfl
theorem q_neg : dNeg ta ρ μ Q = ta ρ μ fun x μ1 => match x with | .v (.int i) => Q (.v (.int (-i))) μ1 | _ => False := propext Iff.rfl
theorem q_andT : dAndT t u ρ μ QT = t ρ μ fun c μ1 => if c = true then u ρ μ1 QT else QT false μ1 := propext Iff.rfl
theorem q_orT : dOrT t u ρ μ QT = t ρ μ fun c μ1 => if c = true then QT true μ1 else u ρ μ1 QT := propext Iff.rfl
theorem q_notT : dNotT t ρ μ QT = t ρ μ fun c μ1 => QT (!c) μ1 := propext Iff.rfl
theorem q_andV : dAndV ta tb ρ μ Q = ta ρ μ fun x μ1 => match x with | .v (.bool c) => if c = true then tb ρ μ1 Q else Q (.v (.bool false)) μ1 | _ => False := propext Iff.rfl
theorem q_orV : dOrV ta tb ρ μ Q = ta ρ μ fun x μ1 => match x with | .v (.bool c) => if c = true then Q (.v (.bool true)) μ1 else tb ρ μ1 Q | _ => False := propext Iff.rfl
theorem q_notV : dNotV ta ρ μ Q = ta ρ μ fun x μ1 => match x with | .v (.bool c) => Q (.v (.bool (!c))) μ1 | _ => False := propext Iff.rfl
theorem q_if : dIf t ta tb ρ μ Q = t ρ μ fun c μ1 => if c = true then ta ρ μ1 Q else tb ρ μ1 Q := propext Iff.rfl
theorem q_nil : dNil ρ μ QA = QA [] μ := propext Iff.rfl
theorem q_cons : dCons ta tA ρ μ QA = ta ρ μ fun x μ1 => tA ρ μ1 fun xs μ2 => QA (x :: xs) μ2 := propext Iff.rfl
theorem q_tup : dTup tA ρ μ Q = tA ρ μ fun ds μ1 => match asData ds with | some xs => Q (.v (.tuple xs)) μ1 | none => False := propext Iff.rfl
theorem q_lst : dLst tA ρ μ Q = tA ρ μ fun ds μ1 => match asData ds with | some xs => Q (.v (.list xs)) μ1 | none => False := propext Iff.rfl
theorem q_lstM : dLstM tA ρ μ Q = tA ρ μ fun ds μ1 => match asData ds with | some xs => ∀ p, μ1 p = none → Q (.m p) (muSet μ1 p xs) | none => False := propext Iff.rfl
theorem q_asN : asData [] = some [] := by rw [asData]
theorem q_asC {r : List D} : asData (.v x :: r) = (asData r).map (x :: ·) := by rw [asData]
theorem q_eqD {neg : Bool} : rEqD neg (.v x) (.v y) μ Q = (SeqAt.shaped x = true ∧ SeqAt.shaped y = true ∧ Q (.v (.bool (neg ^^ PyData.eqv x y))) μ) := propext Iff.rfl
theorem q_eqI {neg : Bool} : rEqD neg (.v (.int i)) (.v (.int j)) μ Q = Q (.v (.bool (neg ^^ decide (i = j)))) μ := by
  have e : PyData.eqv (.int i) (.int j) = decide (i = j) := by simp [PyData.eqv]; rfl
  rw [q_eqD, e]
  exact propext ⟨fun h => h.2.2, fun h => ⟨rfl, rfl, h⟩⟩
theorem q_eqT {neg : Bool} : rEqD neg (.v (.tuple xs)) (.v (.tuple ys)) μ Q = (SeqAt.shaped (.tuple xs) = true ∧ SeqAt.shaped (.tuple ys) = true ∧ Q (.v (.bool (neg ^^ PyData.eqv (.tuple xs) (.tuple ys)))) μ) := propext Iff.rfl
theorem q_eqL {neg : Bool} : rEqD neg (.v (.list xs)) (.v (.list ys)) μ Q = (SeqAt.shaped (.list xs) = true ∧ SeqAt.shaped (.list ys) = true ∧ Q (.v (.bool (neg ^^ PyData.eqv (.list xs) (.list ys)))) μ) := propext Iff.rfl
theorem q_eqB {neg a b : Bool} : rEqD neg (.v (.bool a)) (.v (.bool b)) μ Q = Q (.v (.bool (neg ^^ (a == b)))) μ := by
  have e : PyData.eqv (.bool a) (.bool b) = (a == b) := by cases a <;> cases b <;> simp [PyData.eqv] <;> rfl
  rw [q_eqD, e]
  exact propext ⟨fun h => h.2.2, fun h => ⟨rfl, rfl, h⟩⟩
theorem q_inD {neg : Bool} : rInD neg (.v x) (.v (.list ys)) μ Q = (PyData.canLayAll0 ys = true ∧ x.canLay0 = true ∧ PyData.depth x ≤ 60 ∧ Q (.v (.bool (neg ^^ ys.any fun b => PyData.eqv b x))) μ) := propext Iff.rfl
theorem q_ixL : rIxD (.v (.list xs)) (.v (.int i)) μ Q = (match atI xs i with | some d => Q (.v d) μ | none => False) := propext Iff.rfl
theorem q_ixT : rIxD (.v (.tuple xs)) (.v (.int i)) μ Q = (match atI xs i with | some d => Q (.v d) μ | none => False) := propext Iff.rfl
theorem q_ixM {l : Addr} : rIxD (.m l) (.v (.int i)) μ Q = (match μ l with | some xs => (match atI xs i with | some d => Q (.v d) μ | none => False) | none => False) := propext Iff.rfl
theorem q_ixS {ns : List Int} : rIxD (.s ns) (.v (.int i)) μ Q = (match atI ns i with | some d => Q (.v (.int d)) μ | none => False) := propext Iff.rfl
theorem q_ixL0 : rIxD (.v (.list (x :: xs))) (.v (.int 0)) μ Q = Q (.v x) μ := by rw [q_ixL, atI_0]
theorem q_ixT0 : rIxD (.v (.tuple (x :: xs))) (.v (.int 0)) μ Q = Q (.v x) μ := by rw [q_ixT, atI_0]
theorem q_ixL1 {z} : rIxD (.v (.list (z :: x :: xs))) (.v (.int 1)) μ Q = Q (.v x) μ := by rw [q_ixL, atI_1]
theorem q_ixT1 {z} : rIxD (.v (.tuple (z :: x :: xs))) (.v (.int 1)) μ Q = Q (.v x) μ := by rw [q_ixT, atI_1]
theorem q_ixL2 {z w} : rIxD (.v (.list (z :: w :: x :: xs))) (.v (.int 2)) μ Q = Q (.v x) μ := by rw [q_ixL, atI_2]
theorem q_ixT2 {z w} : rIxD (.v (.tuple (z :: w :: x :: xs))) (.v (.int 2)) μ Q = Q (.v x) μ := by rw [q_ixT, atI_2]
theorem q_ixT3 {z w v} : rIxD (.v (.tuple (z :: w :: v :: x :: xs))) (.v (.int 3)) μ Q = Q (.v x) μ := by rw [q_ixT, atI_3]
theorem q_cat : rCatD d e μ Q = (match lstOf μ d, lstOf μ e with | some xs, some ys => xs.length + ys.length ≤ 1000 ∧ Q (.v (.list (xs ++ ys))) μ | _, _ => False) := propext Iff.rfl
theorem q_catT : rCatTD (.v (.tuple xs)) (.v (.tuple ys)) μ Q = (xs.length + ys.length ≤ 1000 ∧ Q (.v (.tuple (xs ++ ys))) μ) := propext Iff.rfl
theorem q_addI : rAddD (.v (.int i)) (.v (.int j)) μ Q = Q (.v (.int (i + j))) μ := propext Iff.rfl
theorem q_addT : rAddD (.v (.tuple xs)) (.v (.tuple ys)) μ Q = (xs.length + ys.length ≤ 1000 ∧ Q (.v (.tuple (xs ++ ys))) μ) := propext Iff.rfl
theorem q_addL : rAddD (.v (.list xs)) (.v (.list ys)) μ Q = (xs.length + ys.length ≤ 1000 ∧ Q (.v (.list (xs ++ ys))) μ) := propext Iff.rfl
theorem q_addM {a : Addr} : rAddD (.m a) e μ Q = rCatD (.m a) e μ Q := propext Iff.rfl
theorem q_sl {tl th : DTO} : dSl ta tl th ρ μ Q = ta ρ μ fun x μ1 => tl ρ μ1 fun l μ2 => th ρ μ2 fun u μ3 => rSlD x l u μ3 Q := propext Iff.rfl
theorem q_noPart : dNoPart ρ μ QO = QO none μ := propext Iff.rfl
theorem q_part : dPart ta ρ μ QO = ta ρ μ fun x μ1 => match x with | .v (.int i) => QO (some i) μ1 | _ => False := propext Iff.rfl
theorem q_slT {lo hi : Option Int} : rSlD (.v (.tuple xs)) lo hi μ Q = Q (.v (.tuple (cutP xs lo hi))) μ := propext Iff.rfl
theorem q_slL {lo hi : Option Int} : rSlD (.v (.list xs)) lo hi μ Q = Q (.v (.list (cutP xs lo hi))) μ := propext Iff.rfl
theorem q_rev : dRev ta ρ μ Q = ta ρ μ fun x μ1 => match x with | .v (.tuple xs) => Q (.v (.tuple xs.reverse)) μ1 | .v (.list xs) => Q (.v (.list xs.reverse)) μ1 | .m l => (match μ1 l with | some xs => Q (.v (.list xs.reverse)) μ1 | none => False) | _ => False := propext Iff.rfl
theorem q_cb {rd} : dCB rd tA ρ μ Q = tA ρ μ fun ds μ1 => rd ds μ1 Q := propext Iff.rfl
theorem q_lenL : rLenD [.v (.list ys)] μ Q = Q (.v (.int (ys.length : Nat))) μ := propext Iff.rfl
theorem q_lenT : rLenD [.v (.tuple ys)] μ Q = Q (.v (.int (ys.length : Nat))) μ := propext Iff.rfl
theorem q_lenS {ns : List Int} : rLenD [.s ns] μ Q = Q (.v (.int (ns.length : Nat))) μ := propext Iff.rfl
theorem q_lenM {l : Addr} : rLenD [.m l] μ Q = (match μ l with | some ys => Q (.v (.int (ys.length : Nat))) μ | none => False) := propext Iff.rfl
theorem q_abs : rAbsD [.v (.int i)] μ Q = Q (.v (.int (i.natAbs : Nat))) μ := propext Iff.rfl
theorem q_2I {g : Int → Int → Int} : r2ID g [.v (.int i), .v (.int j)] μ Q = Q (.v (.int (g i j))) μ := propext Iff.rfl
theorem q_intB {k : Bool} : rIntD [.v (.bool k)] μ Q = Q (.v (.int (if k then 1 else 0))) μ := propext Iff.rfl
theorem q_intI : rIntD [.v (.int i)] μ Q = Q (.v (.int i)) μ := propext Iff.rfl
theorem q_listL : rListD [.v (.list ys)] μ Q = Q (.v (.list ys)) μ := propext Iff.rfl
theorem q_listT : rListD [.v (.tuple ys)] μ Q = Q (.v (.list ys)) μ := propext Iff.rfl
theorem q_all : rAllD [.v (.list ys)] μ Q = (match asBools ys with | some bs => Q (.v (.bool (bs.all id))) μ | none => False) := propext Iff.rfl
theorem q_isi {T : String} : dIsi T ta ρ μ Q = ta ρ μ fun x μ1 => match x with | .v d => Q (.v (.bool (isT T d))) μ1 | _ => False := propext Iff.rfl
theorem q_isB {a b : Bool} : rIsD (.v (.bool a)) (.v (.bool b)) μ Q = Q (.v (.bool (a == b))) μ := propext Iff.rfl
theorem q_isN : rIsD (.v .none) (.v .none) μ Q = Q (.v (.bool true)) μ := propext Iff.rfl
theorem q_gName {n : Nat} : gdName n d ρ μ QG = QG (ρ.set n (some d)) μ := propext Iff.rfl
theorem q_gNil : gdNil [] ρ μ QG = QG ρ μ := propext Iff.rfl
theorem q_gCons {g : DTG} {gs : DTGs} : gdCons g gs (x :: xs) ρ μ QG = g (.v x) ρ μ fun ρ1 μ1 => gs xs ρ1 μ1 QG := propext Iff.rfl
theorem q_gTup {n : Nat} {gs : DTGs} : gdTup n gs (.v (.tuple xs)) ρ μ QG = (xs.length = n ∧ gs xs ρ μ QG) := propext Iff.rfl
theorem q_gSub : gdSub ta tb d ρ μ QG = ta ρ μ fun o μ1 => tb ρ μ1 fun i μ2 => match o, i, d with
  | .m l, .v (.int k), .v x => (match μ2 l with
    | some xs => (match ixN xs.length k with
      | some j => QG ρ (muSet μ2 l (xs.set j x))
      | none => False)
    | none => False)
  | _, _, _ => False := propext Iff.rfl
theorem q_asg {g : DTG} : dAsg ta g Dd ρ μ = ta ρ μ fun d μ1 => g d ρ μ1 Dd.nx := propext Iff.rfl
theorem q_par {i j : Nat} : dPar i j tA Dd ρ μ = tA ρ μ fun ds μ1 => match ds with | [v, w] => Dd.nx ((ρ.set i (some v)).set j (some w)) μ1 | _ => False := propext Iff.rfl
theorem q_next : dNext Dd ρ μ = Dd.nx ρ μ := propext Iff.rfl
theorem q_seq : dSeq s1 s2 Dd ρ μ = s1 { Dd with nx := s2 Dd } ρ μ := propext Iff.rfl
theorem q_ret : dRet ta Dd ρ μ = ta ρ μ Dd.rt := propext Iff.rfl
theorem q_drop : dDrop ta Dd ρ μ = ta ρ μ fun _ μ1 => Dd.nx ρ μ1 := propext Iff.rfl
theorem q_ifS : dIfS t s1 s2 Dd ρ μ = t ρ μ fun b μ1 => if b = true then s1 Dd ρ μ1 else s2 Dd ρ μ1 := propext Iff.rfl
theorem q_never : dNever Dd ρ μ = False := propext Iff.rfl
theorem q_call {dsp : DSp} : dCall dsp tA ρ μ Q = tA ρ μ fun ds μ1 => dsp ds μ1 Q := propext Iff.rfl
theorem q_app : dApp ta tb ρ μ Q = ta ρ μ fun x μ1 => match x with
  | .m l => tb ρ μ1 fun y μ2 => (match y, μ2 l with
    | .v d, some xs => xs.length < 1000 ∧ Q (.v .none) (muSet μ2 l (xs ++ [d]))
    | _, _ => False)
  | _ => False := propext Iff.rfl
theorem q_ext : dExt ta tb ρ μ Q = ta ρ μ fun x μ1 => match x with
  | .m l => tb ρ μ1 fun y μ2 => (match y, μ2 l with
    | .v (.list ys), some xs => xs.length + ys.length ≤ 1000 ∧ Q (.v .none) (muSet μ2 l (xs ++ ys))
    | _, _ => False)
  | _ => False := propext Iff.rfl
theorem q_bits : dBits ta ρ μ Q = ta ρ μ fun x μ1 => match x with | .v (.int i) => Q (.v (.int (Builtin.Int.intBits i : Nat))) μ1 | _ => False := propext Iff.rfl
theorem q_chain {r r'} : dChain r r' ta tb tc ρ μ Q = ta ρ μ fun x μ1 => tb ρ μ1 fun y μ2 => r x y μ2 fun z μ3 => match z with
  | .v (.bool k) => if k = true then tc ρ μ3 fun w μ4 => r' y w μ4 Q else Q (.v (.bool false)) μ3
  | _ => False := propext Iff.rfl
theorem q_true : dTrue ρ μ QT = QT true μ := propext Iff.rfl
theorem q_diList : diList ta ρ μ QI = ta ρ μ fun d μ1 => match d with | .v (.list xs) => QI xs μ1 | _ => False := propext Iff.rfl
theorem q_diTup : diTup ta ρ μ QI = ta ρ μ fun d μ1 => match d with | .v (.tuple xs) => QI xs μ1 | _ => False := propext Iff.rfl
theorem q_diRng1 : diRng1 tA ρ μ QI = tA ρ μ fun ds μ1 => match ds with | [.v (.int j)] => (-(2 ^ 62) ≤ j ∧ j < 2 ^ 62) ∧ QI (rngD 0 j.toNat) μ1 | _ => False := propext Iff.rfl
theorem q_diRng2 : diRng2 tA ρ μ QI = tA ρ μ fun ds μ1 => match ds with | [.v (.int i), .v (.int j)] => (-(2 ^ 62) ≤ i ∧ i < 2 ^ 62 ∧ -(2 ^ 62) ≤ j ∧ j < 2 ^ 62) ∧ QI (rngD i (j - i).toNat) μ1 | _ => False := propext Iff.rfl
theorem q_for {src : DTI} {g : DTG} : dFor src g s1 Dd ρ μ = src ρ μ fun xs μ1 => ∃ Pv : Nat → Rho → Mu → Prop, Pv 0 ρ μ1 ∧
  (∀ i x ρ' μ', xs[i]? = some x → Pv i ρ' μ' → g (.v x) ρ' μ' fun ρ2 μ2 => s1 { Dd with nx := Pv (i + 1), ct := Pv (i + 1), bk := Dd.nx } ρ2 μ2) ∧ (∀ ρ' μ', Pv xs.length ρ' μ' → Dd.nx ρ' μ') := propext Iff.rfl
theorem q_comp {cap : List (Option Nat)} {src : DTI} {g : DTG} : dComp cap src g t ta ρ μ Q = src ρ μ fun xs μ1 => xs.length ≤ 1000 ∧ ∃ f : PyData → Option PyData,
  (∀ x ∈ xs, ∀ μ' : Mu, (∀ a ds, μ1 a = some ds → μ' a = some ds) → g (.v x) (capF cap ρ) μ' fun ρ2 μ2 => Le (capF cap ρ) ρ2 ∧ t ρ2 μ2 fun b μ3 =>
    if b = true then ta ρ2 μ3 fun d μ4 => μ4 = μ' ∧ (match d with | .v y => f x = some y | _ => False) else μ3 = μ' ∧ f x = none) ∧ Q (.v (.list (xs.filterMap f))) μ1 := propext Iff.rfl
theorem q_capN {α : Type} {r : List (Option α)} : capF [] r = [] := rfl
theorem q_capC {α : Type} {o : Option Nat} {c : List (Option Nat)} {r : List (Option α)} : capF (o :: c) r = (o.bind fun j => (r[j]?).join) :: capF c r := rfl
theorem q_leN : Le [] [] = True := propext ⟨fun _ => trivial, fun h => h⟩
theorem q_le0 {r r' : Rho} {o : Option D} : Le (none :: r) (o :: r') = Le r r' := propext Iff.rfl
theorem q_le1 {r r' : Rho} {d d' : D} : Le (some d :: r) (some d' :: r') = (d = d' ∧ Le r r') := propext Iff.rfl
theorem asBools_map {α : Type} (p : α → Bool) : ∀ xs : List α, asBools (xs.map fun x => PyData.bool (p x)) = some (xs.map p)
  | [] => rfl
  | x :: r => by rw [List.map_cons, asBools, asBools_map p r]; rfl
theorem fm_some {α β : Type} (p : α → β) : ∀ xs : List α, xs.filterMap (fun x => some (p x)) = xs.map p
  | [] => rfl
  | x :: r => by rw [List.filterMap_cons, fm_some p r]; rfl
end
theorem lk_mem {α β : Type} [BEq α] [LawfulBEq α] {x : α} {k : β} : ∀ {l : List (α × β)}, l.lookup x = some k → (x, k) ∈ l
  | [], h => by cases h
  | (y, j) :: r, h => by
    rw [List.lookup_cons] at h
    cases e : x == y with
    | true =>
      rw [e] at h
      simp only [Option.some.injEq] at h
      have : x = y := eq_of_beq e
      subst this h
      exact List.mem_cons_self
    | false =>
      rw [e] at h
      exact List.mem_cons_of_mem _ (lk_mem h)
def cfK : NameKind → Bool
  | .cell => true
  | .free => true
  | _ => false
theorem has_of {names : List (Str × NameKind)} {cl : List (Str × Addr)} (h : (names.all fun y => !(cfK y.2) || (cl.lookup y.1).isSome) = true) (x : Str) (hx : names.lookup x = some .cell ∨ names.lookup x = some .free) : ∃ a, cl.lookup x = some a := by
  rw [List.all_eq_true] at h
  have key : ∀ k, cfK k = true → names.lookup x = some k → ∃ a, cl.lookup x = some a := fun k hk e => by
    have q := h _ (lk_mem e)
    simp only [hk, Bool.not_true, Bool.false_or] at q
    exact Option.isSome_iff_exists.mp q
  rcases hx with e | e
  · exact key _ rfl e
  · exact key _ rfl e
def CapOk (X : Cx) (sc : Scope) : List (Option Nat) → List Str → Prop
  | none :: c, _ :: n => CapOk X sc c n
  | some j :: c, x :: n => (X.N[j]? = some x ∧ Vis X.env.scope x ∧ X.env.kindOf x ≠ some .local ∧ ((relabel sc X.env).names.lookup x = some .cell ∨ (relabel sc X.env).names.lookup x = some .free)) ∧ CapOk X sc c n
  | _, _ => True
theorem cap_of {X : Cx} {sc : Scope} : ∀ {c : List (Option Nat)} {n : List Str}, CapOk X sc c n → ∀ (i j : Nat) (x : Str), c[i]? = some (some j) → n[i]? = some x →
    X.N[j]? = some x ∧ Vis X.env.scope x ∧ X.env.kindOf x ≠ some .local ∧ ((relabel sc X.env).names.lookup x = some .cell ∨ (relabel sc X.env).names.lookup x = some .free)
  | [], _, _, i, j, x, h, _ => by simp at h
  | _ :: _, [], _, i, j, x, _, h => by simp at h
  | none :: c, y :: n, k, 0, j, x, h, _ => by simp at h
  | none :: c, y :: n, k, i + 1, j, x, h, g => cap_of (c := c) (n := n) k i j x (by simpa using h) (by simpa using g)
  | some l :: c, y :: n, k, 0, j, x, h, g => by
    simp only [List.getElem?_cons_zero, Option.some.injEq] at h g
    subst h g
    exact k.1
  | some l :: c, y :: n, k, i + 1, j, x, h, g => cap_of (c := c) (n := n) k.2 i j x (by simpa using h) (by simpa using g)
theorem cap1 {X : Cx} {sc : Scope} {j : Nat} {x : Str} (h1 : X.N[j]? = some x := by rfl) (h2 : Vis X.env.scope x := by first | exact Or.inl rfl | exact Or.inr (Or.inl rfl) | exact Or.inr (Or.inr rfl)) (h3 : X.env.kindOf x ≠ some .local := by first | (intro z; cases z) | exact (fun z => nomatch z))
    (h4 : (relabel sc X.env).names.lookup x = some .cell ∨ (relabel sc X.env).names.lookup x = some .free := by first | exact Or.inl rfl | exact Or.inr rfl) : X.N[j]? = some x ∧ Vis X.env.scope x ∧ X.env.kindOf x ≠ some .local ∧ ((relabel sc X.env).names.lookup x = some .cell ∨ (relabel sc X.env).names.lookup x = some .free) := ⟨h1, h2, h3, h4⟩
open PySem PySem.Spec PyProof.Rows
def muDel (μ : Mu) (p : Addr) : Mu := fun b => if b = p then none else μ b
def dCompI (cap : List (Option Nat)) (src : DTI) (g : DTG) (c : DTT) (elt : DTE) : DTE := fun ρ μ Q => src ρ μ fun xs μ1 => xs.length ≤ 1000 ∧ ∀ p, μ1 p = none → ∃ Pv : Nat → List PyData → Mu → Prop, Pv 0 [] (muSet μ1 p []) ∧
  (∀ i x acc μ', xs[i]? = some x → μ' p = some acc → Pv i acc μ' → g (.v x) (capF cap ρ) μ' fun ρ2 μ2 => Le (capF cap ρ) ρ2 ∧ c ρ2 μ2 fun b μ3 =>
    if b = true then elt ρ2 μ3 fun d μ4 => μ4 p = some acc ∧ (match d with | .v y => Pv (i + 1) (acc ++ [y]) (muSet μ4 p (acc ++ [y])) | _ => False) else μ3 p = some acc ∧ Pv (i + 1) acc μ3) ∧
  (∀ acc μ', Pv xs.length acc μ' → μ' p = some acc → Q (.v (.list acc)) (muDel μ' p))
theorem comp_core {X : Cx} {pos2 : Pos} {use : Option (Value → Sem Unit)} {QQ : Value → Shared → Prop} {pins : List (Addr × Obj)} {s : Shared} {σ : St} {H : Hp} {ρ : Rho} {μ : Mu} {Qd : DK} {N' : List Str} {scope : Scope} {cl : List (Str × Addr)} {elt iter tg : Expr} {ifs : List Expr} {pos : Pos} {cap : List (Option Nat)} {src : DTI} {g : DTG} {c : DTT} {te : DTE} (hc : X.calm = X.calm)
    (hi : DI X tg iter src) (hg : ∀ fp s₃ H₃, DG (cxComp X N' scope cl fp s₃ H₃) tg g) (hif : ∀ fp s₃ H₃, DIfs (cxComp X N' scope cl fp s₃ H₃) ifs c) (he : ∀ fp s₃ H₃, DE (cxComp X N' scope cl fp s₃ H₃) elt te)
    (hclos : closureFor scope X.env = pure cl) (hcell : ∀ y ∈ scope.names, y.2 ≠ .cell) (hkind : scope.kind = .function) (hnames : ∀ y ∈ scope.names, y.2 = .local → scope.names.lookup y.1 = some .local)
    (hcl : ∀ x a, cl.lookup x = some a → X.env.cells.lookup x = some a) (hhas : ∀ x, (relabel scope X.env).names.lookup x = some .cell ∨ (relabel scope X.env).names.lookup x = some .free → ∃ a, cl.lookup x = some a)
    (hlen : cap.length = N'.length) (hcap : ∀ (i j : Nat) (x : Str), cap[i]? = some (some j) → N'[i]? = some x → X.N[j]? = some x ∧ Vis X.env.scope x ∧ X.env.kindOf x ≠ some .local ∧ ((relabel scope X.env).names.lookup x = some .cell ∨ (relabel scope X.env).names.lookup x = some .free))
    (hs : ∀ x, foldedSetIterable iter X.env x = pure x )
    (I : Inv X pins σ H s) (S : St0 X.K H ρ μ σ) (h : dCompI cap src g c te ρ μ Qd)
    (hend : ∀ (s4 : Shared) (Hc : Hp) (C pa : Addr) (m : Str → Option Value) (acc : List PyData) (μF : Mu), s4.heap.Ns C m → FpOk X pins Hc C → (∀ h', Heap.SameBut C s4.heap h' → Inv X pins σ Hc { s4 with heap := h' }) →
      Ext X.K μ H μF Hc → St0 X.K Hc ρ μF σ → Rp X.K μF Hc (.list acc) (.ref pa) → Qd (.v (.list acc)) μF → compPost (model X.prog X.w) X.A X.xe use QQ (.ref pa) C (.ok .next) s4) :
    wpAny (model X.prog X.w) X.A (comprehension (.ListComp elt [⟨tg, iter, ifs, 0⟩] scope pos) scope X.env pos2 (newList []) false (eval iter X.env) use) QQ X.xe s := by
  obtain ⟨wi, pw, li⟩ := hi
  refine wpAny_comprehension_free rfl hs hclos hkind hnames (thn (pw pins s σ H _ I (li σ H ρ μ _ (fun J H1 => ∃ xs μ1, Ext X.K μ H μ1 H1 ∧ St0 X.K H1 ρ μ1 σ ∧ ItOk X.K J xs μ1 H1 ∧ xs.length ≤ 1000 ∧ ∀ p, μ1 p = none → ∃ Pv : Nat → List PyData → Mu → Prop, Pv 0 [] (muSet μ1 p []) ∧
      (∀ i x acc μ', xs[i]? = some x → μ' p = some acc → Pv i acc μ' → g (.v x) (capF cap ρ) μ' fun ρ2 μ2 => Le (capF cap ρ) ρ2 ∧ c ρ2 μ2 fun b μ3 =>
        if b = true then te ρ2 μ3 fun d μ4 => μ4 p = some acc ∧ (match d with | .v y => Pv (i + 1) (acc ++ [y]) (muSet μ4 p (acc ++ [y])) | _ => False) else μ3 p = some acc ∧ Pv (i + 1) acc μ3) ∧
      (∀ acc μ', Pv xs.length acc μ' → μ' p = some acc → Qd (.v (.list acc)) (muDel μ' p))) S h (fun xs μ1 H1 J e1 S1 it q => ⟨xs, μ1, e1, S1, it, q⟩)))
    fun v s1 h1 => thn h1 fun itv s2 h2 => ?_)
  obtain ⟨it, fp, tn, J, H2, rfl, I2, T, st2, f2, xs, μ1, e1, S1, itok, hxs, allp⟩ := h2
  refine wpAny_newObj_type (wpAny_newFunctionEnv hcell (by intro y hy; simp at hy) (fun h₁ hns₁ hsb₁ => ?_) hkind)
  dsimp only at hns₁ hsb₁ ⊢
  have hfree2 : H2 s2.heap.objs.size = none := I2.hok.fresh (Nat.le_refl _)
  have hK2 : X.K.lookup s2.heap.objs.size = none := by
    cases z : X.K.lookup s2.heap.objs.size with
    | none => rfl
    | some o => exact absurd (Heap.lt_size (I2.kIn _ _ z)) (Nat.lt_irrefl _)
  have I3 : Inv X pins σ (upd H2 s2.heap.objs.size (.lst [])) { s2 with heap := s2.heap.push { cls := .type "list", dict := none, data := .seq ([] : List Value).toArray } } :=
    I2.laid (t' := s2.toks) (fun b u e => Heap.get?_push_of_some _ e) (Nat.le_refl _) ⟨Nat.zero_le _, [], 0, .nil, Heap.get?_push_size _ rfl⟩
  generalize hH : s2.heap.push { cls := .type "list", dict := none, data := .seq ([] : List Value).toArray } = hp3 at hns₁ hsb₁ I3 ⊢
  have hsz3 : hp3.objs.size = s2.heap.objs.size + 1 := by rw [← hH, Heap.size_push]
  have kept3 : ∀ b o, hp3.get? b = some o → h₁.get? b = some o := fun b o e => hsb₁.extBut b o (Nat.ne_of_lt (Heap.lt_size e)) (Heap.get?_push_of_some _ e)
  have old3 : ∀ b o, s2.heap.get? b = some o → hp3.get? b = some o := fun b o e => by rw [← hH]; exact Heap.get?_push_of_some _ e
  have fplt : ∀ b ∈ fp, b < s2.heap.objs.size := fun b hb => by obtain ⟨o, e, _⟩ := T.obj 0 _ st2 b hb; exact Heap.lt_size e
  have fpst : ∀ b ∈ fp, b ∉ frs X.stack := fun b hb hz => by
    rcases List.mem_cons.mp (I2.stkSub b hz) with e | e
    · exact (f2 b hb).2.1 e
    · exact (f2 b hb).2.2.1 e
  obtain ⟨s3, hs3⟩ : ∃ s3 : Shared, s3 = { s2 with heap := hp3 } := ⟨_, rfl⟩
  obtain ⟨H3, hH3⟩ : ∃ H3 : Hp, H3 = upd H2 s2.heap.objs.size (.lst []) := ⟨_, rfl⟩
  have heap3 : s3.heap = hp3 := by rw [hs3]
  rw [← hH3] at I3
  have I3' : Inv X pins σ H3 s3 := by rw [hs3]; exact I3
  have hloc : H3 hp3.objs.size = none := by have := I3'.hok.fresh (a := hp3.objs.size) (by rw [heap3]; exact Nat.le_refl _); exact this
  have okc : (cxComp X N' scope cl fp s3 H3).Ok := by
    refine ⟨I3.ok.mod, ?_, I3.ok.glob, I3.ok.blt, Nat.le_refl _, fun x y a h1 h2 => I3.ok.inj x y a (hcl x a h1) (hcl y a h2), fun x hx => hhas x hx, fun x a h => (nomatch h), I3.ok.hd, I3.ok.qt, I3.ok.frames, .inl rfl, fun b hb => ⟨?_, fun x a h => (f2 b hb).2.2.2.2.1 x a (hcl x a h)⟩,
      I3'.bs, Nat.le_trans I3.ok.bsz I3'.sz, fun b o e hb => ?_, fun b hb => fpst b hb, I3'.stack, I3'.stkFree⟩
    · exact hkind
    · show b ≠ s3.heap.objs.size
      rw [heap3, hsz3]
      exact Nat.ne_of_lt (Nat.lt_succ_of_lt (fplt b hb))
    · rcases (f2 b hb).2.2.2.1 with z | z
      · exact I3.ok.noex b o e z
      · exact absurd (Nat.lt_of_lt_of_le (Heap.lt_size (I3.ok.bs b o e).1) z) (Nat.lt_irrefl _)
  have I4 : Inv (cxComp X N' scope cl fp s3 H3) [] (capF cap σ) H3 { s2 with heap := h₁, toks := s2.toks + ([] : List (Str × Value)).length } := by
    refine ⟨okc, by show s2.os = s3.os; rw [hs3], I3.bare, Un.kept (by show ∀ b o, s3.heap.get? b = some o → _; rw [heap3]; exact kept3), ⟨_, (by show h₁.Ns s3.heap.objs.size _; rw [heap3]; exact hns₁), fun i x v e1 e2 e3 => ?_⟩, fun x a h => ?_, (by show H3 s3.heap.objs.size = none; rw [heap3]; exact hloc), fun x a h => I3.freeC x a (hcl x a h), fun p hp => ?_, I3.hok.kept kept3, ?_⟩
    · obtain ⟨j, h1, h2⟩ := capF_get e2
      obtain ⟨hN, hv, hnl, hk⟩ := hcap i j x h1 e1
      obtain ⟨m, _, hl⟩ := I3.loc
      obtain ⟨u, r, lk⟩ := hl j x v hN h2 hv
      refine ⟨u, r, .inr ⟨hk, ?_⟩⟩
      obtain ⟨a, ha⟩ := hhas x hk
      rcases lk with ⟨z, _⟩ | ⟨_, a', z1, z2⟩
      · exact absurd z hnl
      · have : a' = a := by have q := hcl x a ha; rw [z1] at q; exact Option.some.inj q
        subst this
        obtain ⟨o, ho, hd⟩ := z2
        exact ⟨a', ha, o, kept3 _ _ ho, hd⟩
    · obtain ⟨v, o, ho, hd⟩ := I3.cell x a (hcl x a h)
      exact ⟨v, o, kept3 _ _ ho, hd⟩
    · have hp' : p ∈ X.pn ++ pins := List.mem_append_left _ (by simpa using (show p ∈ X.pn ++ [] from hp))
      obtain ⟨z1, z2, z3, z4, z5⟩ := I3'.pin p hp'
      refine ⟨kept3 _ _ (by rw [← heap3]; exact z1), z2, (show p.1 ≠ s3.heap.objs.size from Nat.ne_of_lt (Heap.lt_size z1)), fun z => ?_, z5⟩
      rcases List.mem_cons.mp (I3'.stkSub p.1 z) with e | e
      · exact z3 e
      · exact z4 e
    · show (capF cap σ).length = N'.length
      unfold capF
      rw [List.length_map]
      exact hlen
  have hμ1 : μ1 s2.heap.objs.size = none := S1.mu.free hfree2
  obtain ⟨Pv, pv0, body, fin⟩ := allp s2.heap.objs.size hμ1
  have loop : codeAny (model X.prog X.w) X.A (.compLoop (.ListComp elt [⟨tg, iter, ifs, 0⟩] scope pos) 0 (.ref it) (.ref s2.heap.objs.size) (cxComp X N' scope cl fp s3 H3).env)
      (compPost (model X.prog X.w) X.A X.xe use QQ (.ref s2.heap.objs.size) hp3.objs.size) { s2 with heap := h₁, toks := s2.toks + ([] : List (Str × Value)).length } := by
    refine codeAny_compLoopG (fun n s' => ∃ (i : Nat) (σc : St) (Hc : Hp) (acc : List PyData) (μc : Mu), n = xs.length - i ∧ i ≤ xs.length ∧ Inv (cxComp X N' scope cl fp s3 H3) [] σc Hc s' ∧ tn i s'.heap ∧ (∀ b ∈ fp, Hc b = none) ∧
      acc.length ≤ i ∧ μc s2.heap.objs.size = some acc ∧ Pv i acc μc ∧ St0 X.K Hc (capF cap ρ) μc σc ∧ Ext X.K μ1 H2 μc Hc) ?_ xs.length
      ⟨0, capF cap σ, H3, [], muSet μ1 s2.heap.objs.size [], by simp, Nat.zero_le _, I4, T.keep 0 _ _ st2 (fun b hb o e => kept3 b o (old3 b o e)), fun b hb => ?_, Nat.le_refl _, muSet_same, pv0, ?_, ?_⟩
    · rintro n s' ⟨i, σc, Hc, acc, μc, rfl, hi, Ic, tc, frc, hal, hpa, pvi, Sc, Ec⟩
      have stat : ∀ {Hd : Hp}, (∀ b ∈ fp, Hd b = none) → ∀ b ∈ fp, FpOk (cxComp X N' scope cl fp s3 H3) [] Hd b := fun hn b hb =>
        ⟨hn b hb, (okc.exf b hb).1, fpst b hb, .inl hb, fun x a h => (okc.exf b hb).2 x a h, fun p hp => (f2 b hb).2.2.2.2.2 p (List.mem_append_left _ (by simpa using (show p ∈ X.pn ++ [] from hp)))⟩
      obtain ⟨go, stop⟩ := itok _ Hc Ec Sc.mu i
      by_cases hlt : i < xs.length
      · obtain ⟨g1, y1⟩ := go hlt
        refine thn (T.item (cxComp X N' scope cl fp s3 H3) rfl rfl rfl (fun z => z) i [] s' σc Hc (fun _ _ => False) Ic (stat frc) tc g1) fun r s4 ⟨u, hr, h4⟩ => ?_
        subst hr
        refine thn h4 fun _ s5 ⟨x, H5, I5, r5, y5, st5, fr5⟩ => ?_
        obtain ⟨d, hd, sm, rd⟩ := y1 x H5 y5
        have I5' := I5.pinned (stat fr5) (T.obj _ _ st5)
        have e5 : Ext X.K _ Hc _ H5 := .of_same (μ := μc) sm
        have S5 : St0 X.K H5 (capF cap ρ) μc σc := ⟨Sc.mu.ext0 e5 sm, Sc.rho.ext Sc.mu e5⟩
        obtain ⟨gt, pg, lg⟩ := hg fp s3 H3
        refine thn (pg _ s5 σc H5 x u (fun σ' H' => ∃ ρ' μ', Ext X.K μc H5 μ' H' ∧ St0 X.K H' ρ' μ' σ' ∧ Le (capF cap ρ) ρ' ∧ c ρ' μ' fun b μ3 =>
            if b = true then te ρ' μ3 fun d' μ4 => μ4 s2.heap.objs.size = some acc ∧ (match d' with | .v y => Pv (i + 1) (acc ++ [y]) (muSet μ4 s2.heap.objs.size (acc ++ [y])) | _ => False) else μ3 s2.heap.objs.size = some acc ∧ Pv (i + 1) acc μ3) I5' r5
          (lg σc H5 (capF cap ρ) _ (.v d) x _ _ S5 rd (body i d acc μc hd hpa pvi) fun σ' ρ' μ' H' e' S' q => ⟨ρ', μ', e', S', q⟩)) fun _ s6 ⟨σ6, H6, I6, ρ6, μ6, e6, S6, le6, q6⟩ => ?_
        refine thn (hif fp s3 H3 _ s6 σ6 H6 ρ6 μ6 _ (fun b H' => ∃ μ', Ext X.K μ6 H6 μ' H' ∧ St0 X.K H' ρ6 μ' σ6 ∧ if b = true then te ρ6 μ' fun d' μ4 => μ4 s2.heap.objs.size = some acc ∧ (match d' with | .v y => Pv (i + 1) (acc ++ [y]) (muSet μ4 s2.heap.objs.size (acc ++ [y])) | _ => False) else μ' s2.heap.objs.size = some acc ∧ Pv (i + 1) acc μ')
          I6 S6 q6 fun b μ' H' e' S' q => ⟨μ', e', S', q⟩) fun b s7 ⟨H7, I7, μ7, e7, S7, q7⟩ => ?_
        have again : ∀ {H9 : Hp} {s9 : Shared} {acc' : List PyData} {μ9 : Mu}, Inv (cxComp X N' scope cl fp s3 H3) ([] ++ pinsAt fp s5.heap) σ6 H9 s9 → acc'.length ≤ i + 1 → μ9 s2.heap.objs.size = some acc' → Pv (i + 1) acc' μ9 → MuOk X.K μ9 H9 → RhoOk X.K μ9 H9 (capF cap ρ) σ6 →
            Ext X.K μ1 H2 μ9 H9 → ∃ m, m < xs.length - i ∧ ∃ (i : Nat) (σc : St) (Hc : Hp) (acc : List PyData) (μc : Mu), m = xs.length - i ∧ i ≤ xs.length ∧ Inv (cxComp X N' scope cl fp s3 H3) [] σc Hc s9 ∧ tn i s9.heap ∧ (∀ b ∈ fp, Hc b = none) ∧
              acc.length ≤ i ∧ μc s2.heap.objs.size = some acc ∧ Pv i acc μc ∧ St0 X.K Hc (capF cap ρ) μc σc ∧ Ext X.K μ1 H2 μc Hc := fun {H9 s9 acc' μ9} I9 l9 p9 v9 m9 r9 e9 => by
          refine ⟨xs.length - (i + 1), by omega, i + 1, σ6, H9, acc', μ9, rfl, hlt, I9.unpinned, T.keep _ _ _ st5 fun b hb o e => (I9.pin (b, o) (List.mem_append_right _ (List.mem_append_right _ (mem_pinsAt hb e)))).1, fun b hb => ?_, l9, p9, v9, ⟨m9, r9⟩, e9⟩
          obtain ⟨o, e, _⟩ := T.obj _ _ st5 b hb
          exact (I9.pin (b, o) (List.mem_append_right _ (List.mem_append_right _ (mem_pinsAt hb e)))).2.1
        cases b with
        | false =>
          have q8 : μ7 s2.heap.objs.size = some acc ∧ Pv (i + 1) acc μ7 := by simpa using q7
          refine iteF ?_
          exact again I7 (by omega) q8.1 q8.2 S7.mu (S7.rho.le le6) (Ec.trans (e5.trans (e6.trans e7)))
        | true =>
          refine iteT ?_
          obtain ⟨t8, p8, l8⟩ := he fp s3 H3
          refine thn (p8 _ s7 σ6 H7 (fun v H' => ∃ y μ8, Ext X.K μ7 H7 μ8 H' ∧ St0 X.K H' ρ6 μ8 σ6 ∧ Rp X.K μ8 H' y v ∧ μ8 s2.heap.objs.size = some acc ∧ Pv (i + 1) (acc ++ [y]) (muSet μ8 s2.heap.objs.size (acc ++ [y]))) I7
            (l8 σ6 H7 ρ6 μ7 _ _ S7 (by simpa using q7) fun d' v μ8 H8 e8 S8 r8 q8 => ?_)) fun v s8 ⟨v8, H8, I8, r8, y, μ8, e8, S8, ry, pa8, fy⟩ => ?_
          · obtain ⟨q80, q8⟩ := q8
            cases d' with
            | v y => exact ⟨y, μ8, e8, S8, r8, q80, q8⟩
            | m _ => exact q8.elim
            | s _ => exact q8.elim
            | o _ => exact q8.elim
            | q _ => exact q8.elim
          · obtain ⟨us, hacc, rus⟩ := S8.mu s2.heap.objs.size _ pa8
            have hle : acc.length ≤ 1000 := by omega
            refine thn (mt_append (X := cxComp X N' scope cl fp s3 H3) _ s8 σ6 H8 (.ref s2.heap.objs.size) [v8] (.ref s2.heap.objs.size) [v] (fun _ H' => H' = upd H8 s2.heap.objs.size (.lst (us ++ [v8]))) I8 rfl (.cons r8 .nil) ⟨_, us, v8, rfl, rfl, hacc, by rw [← rus.length]; exact small1000 hle, rfl⟩) fun _ s9 ⟨_, H9, I9, _, e9⟩ => ?_
            subst e9
            have ex : Ext X.K μ8 H8 (muSet μ8 s2.heap.objs.size (acc ++ [y])) (upd H8 s2.heap.objs.size (.lst (us ++ [v8]))) := ext_set pa8
            exact again I9 (by rw [List.length_append, List.length_singleton]; omega) muSet_same fy (S8.mu.set pa8 (rus.append (.cons ry .nil))) ((S8.rho.le le6).ext S8.mu ex) (Ec.trans (e5.trans (e6.trans (e7.trans (e8.trans ex)))))
      · have ei : i = xs.length := by omega
        subst ei
        refine thn (T.done (cxComp X N' scope cl fp s3 H3) rfl rfl rfl (fun z => z) _ [] s' σc Hc (fun _ _ => False) Ic (stat frc) tc (stop rfl)) fun r s4 ⟨hr, I5⟩ => ?_
        subst hr
        obtain ⟨m, hn, _⟩ := I5.loc
        have hcC : Hc hp3.objs.size = none := by have z : Hc s3.heap.objs.size = none := I5.free; rw [heap3] at z; exact z
        obtain ⟨us, hacc, rus⟩ := Sc.mu s2.heap.objs.size _ hpa
        have shr : ∀ a, μc a = none → muDel μc s2.heap.objs.size a = none := fun a e => by
          unfold muDel
          split
          · rfl
          · exact e
        have dne : ∀ a ds, muDel μc s2.heap.objs.size a = some ds → μc a = some ds := fun a ds e => by
          unfold muDel at e
          split at e
          · cases e
          · exact e
        have eF : Ext X.K μ1 H2 (muDel μc s2.heap.objs.size) Hc := by
          refine ⟨Ec.keep, Ec.tb, fun b ds q => ?_, fun b q z => shr b (Ec.fresh b q z)⟩
          obtain ⟨es, q2⟩ := Ec.dom b ds q
          have : b ≠ s2.heap.objs.size := fun z => by rw [z, hμ1] at q; cases q
          exact ⟨es, by unfold muDel; rw [if_neg this]; exact q2⟩
        have mF : MuOk X.K (muDel μc s2.heap.objs.size) Hc := ⟨fun a ds q => by
          obtain ⟨ys, z1, z2⟩ := Sc.mu a ds (dne a ds q)
          exact ⟨ys, z1, z2.shrink shr⟩, Sc.mu.tab⟩
        refine hend s4 Hc hp3.objs.size s2.heap.objs.size m acc (muDel μc s2.heap.objs.size) (by have z : s4.heap.Ns s3.heap.objs.size m := hn; rw [heap3] at z; exact z) (I2.fpOk (by rw [hsz3]; exact Nat.le_succ _) hcC) (fun h' hs' => ?_) (e1.trans eF) ⟨mF, S1.rho.ext S1.mu eF⟩ (Rp.list hacc (by unfold muDel; rw [if_pos rfl]) (rus.shrink shr)) (fin acc μc pvi hpa)
        have kp : ∀ b o, b < s2.heap.objs.size → s4.heap.get? b = some o → h'.get? b = some o := fun b o hb e => hs'.extBut b o (by rw [hsz3]; exact Nat.ne_of_lt (Nat.lt_succ_of_lt hb)) e
        have hok' : HOk X.prog X.w Hc h' := fun b ob e => by
          refine (I5.hok b ob e).stay (fun cc v hcc q => hs'.extBut cc v ?_ q) (fun _ q => q) fun _ _ q => q
          rintro rfl
          rcases hcc with z | z
          · rw [← z, hcC] at e; cases e
          · rw [hcC] at z; cases z
        have u1 : Un (frs X.stack) fp H2 H3 s2.heap s3.heap := by rw [heap3, hH3]; exact Un.laid old3 (Nat.le_refl _) hfree2
        have u2 : Un (frs X.stack) fp H3 Hc s3.heap s4.heap := I5.base
        exact I2.call' (ch := fp) (by show s4.os = s2.os; have z : s4.os = s3.os := I5.os; rw [z, hs3]) (Un.after (u1.trans u2) kp) hok' I5.bare fun b hb => ⟨(f2 b hb).2.2.2.1, (f2 b hb).2.1, (f2 b hb).2.2.2.2.1, (f2 b hb).2.2.2.2.2⟩
    · have z : b ≠ s2.heap.objs.size := Nat.ne_of_lt (fplt b hb)
      rw [hH3, upd_ne z]
      exact (f2 b hb).1
    · have ex := ext_mut (o := .lst []) (ds := []) S1.mu hfree2 hK2
      rw [hH3]
      exact ⟨S1.mu.mut .nil hfree2 hK2, (S1.rho.ext S1.mu ex).cap⟩
    · rw [hH3]
      exact ext_mut (o := .lst []) (ds := []) S1.mu hfree2 hK2
  have envE : (cxComp X N' scope cl fp s3 H3).env = compEnvC scope cl hp3.objs.size X.env := by show compEnvC scope cl s3.heap.objs.size X.env = _; rw [heap3]
  rw [envE] at loop
  exact codeAny_compStart_list loop (T.self X.A 0 _ _ _ (T.keep 0 _ _ st2 (fun b hb o e => kept3 b o (old3 b o e))) loop)
theorem ns_obj {h : Heap} {C : Addr} {m : Str → Option Value} (hn : h.Ns C m) : ∃ o, h.get? C = some o ∧ ∀ v, o.data ≠ .cell v := let ⟨o, es, ep, ho, hd, _⟩ := hn; ⟨o, ho, fun v z => by rw [hd] at z; cases z⟩
theorem ns_same {h h' : Heap} {C : Addr} {m : Str → Option Value} (hn : h.Ns C m) (e : h'.get? C = h.get? C) : h'.Ns C m := let ⟨o, es, ep, ho, r⟩ := hn; ⟨o, es, ep, e.trans ho, r⟩
theorem ds_setC {X : Cx} {i : Nat} {x : Str} {pos' spos : Pos} {N' : List Str} {scope : Scope} {cl : List (Str × Addr)} {elt iter tg : Expr} {ifs : List Expr} {pos : Pos} {cap : List (Option Nat)} {src : DTI} {g : DTG} {c : DTT} {te : DTE} (hN : X.N.Nodup) (hix : X.N[i]? = some x) (hx : X.env.scope.names.lookup x = some .local) (hc : X.calm = X.calm)
    (hi : DI X tg iter src) (hg : ∀ fp s₃ H₃, DG (cxComp X N' scope cl fp s₃ H₃) tg g) (hif : ∀ fp s₃ H₃, DIfs (cxComp X N' scope cl fp s₃ H₃) ifs c) (he : ∀ fp s₃ H₃, DE (cxComp X N' scope cl fp s₃ H₃) elt te)
    (hclos : closureFor scope X.env = pure cl) (hcell : ∀ y ∈ scope.names, y.2 ≠ .cell) (hkind : scope.kind = .function) (hnames : ∀ y ∈ scope.names, y.2 = .local → scope.names.lookup y.1 = some .local)
    (hcl : ∀ x a, cl.lookup x = some a → X.env.cells.lookup x = some a) (hhas : ∀ x, (relabel scope X.env).names.lookup x = some .cell ∨ (relabel scope X.env).names.lookup x = some .free → ∃ a, cl.lookup x = some a)
    (hlen : cap.length = N'.length) (hcap : ∀ (i j : Nat) (x : Str), cap[i]? = some (some j) → N'[i]? = some x → X.N[j]? = some x ∧ Vis X.env.scope x ∧ X.env.kindOf x ≠ some .local ∧ ((relabel scope X.env).names.lookup x = some .cell ∨ (relabel scope X.env).names.lookup x = some .free))
    (hs : ∀ x, foldedSetIterable iter X.env x = pure x := by intro _; rfl)
    (hsw : swapsWith (.ListComp elt [⟨tg, iter, ifs, 0⟩] scope pos) (some (.Name x pos')) spos.line X.env = pure true := by rfl) : DS X (.Assign [.Name x pos'] (.ListComp elt [⟨tg, iter, ifs, 0⟩] scope pos) spos) (dAsg (dCompI cap src g c te) (gdName i)) := by
  refine ⟨fun D σ H => ∃ ρ μ Dd, St0 X.K H ρ μ σ ∧ dAsg (dCompI cap src g c te) (gdName i) Dd ρ μ ∧ (∀ σ' ρ' μ' H', Ext X.K μ H μ' H' → St0 X.K H' ρ' μ' σ' → Dd.nx ρ' μ' → D.nx σ' H'), ?_, fun σ H ρ μ Dd De S h k1 k2 k3 k4 => ⟨ρ, μ, Dd, S, h, k1⟩⟩
  rintro pins s σ H D I ⟨ρ, μ, Dd, S, h, k1⟩
  rw [exec_Assign_Name_used _ _ _ _ hsw]
  refine wpAny_bind (wpAny_standAt ?_)
  show wpAny _ _ ((comprehension (.ListComp elt [⟨tg, iter, ifs, 0⟩] scope pos) scope X.env (firstIterPos [⟨tg, iter, ifs, 0⟩] pos) (newList []) false (eval iter X.env) (some (assign (.Name x pos') X.env)) >>= fun _ => pure ()) >>= _) _ _ s
  refine wpAny_bind (wpAny_bind (comp_core (Qd := fun d μ1 => gdName i d ρ μ1 Dd.nx) hc hi hg hif he hclos hcell hkind hnames hcl hhas hlen hcap hs I S h fun s4 Hc C pa m acc μF hn fC hI e1 S1 r q => ?_))
  have I4 : Inv X pins σ Hc s4 := hI s4.heap (Heap.SameBut.refl _ _)
  obtain ⟨oC, hoC, hdC⟩ : ∃ o, s4.heap.get? C = some o ∧ ∀ v, o.data ≠ .cell v := by
    obtain ⟨o, h1, h2⟩ := ns_obj hn
    exact ⟨o, h1, h2⟩
  have I5 := I4.pinned (fp := [C]) (fun b hb => by rw [List.mem_singleton.mp hb]; exact fC) (fun b hb => by rw [List.mem_singleton.mp hb]; exact ⟨oC, hoC, hdC⟩)
  show wpAny _ _ (assign (.Name x pos') X.env (.ref pa)) _ _ s4
  refine wpAny_assign_Name (store_ok I5 hN hix (Or.inl hx) (show RelV (.ref pa) (.ref pa) from rfl) (fun s' I' => ?_) (.inr hx))
  have keepC : s'.heap.get? C = some oC := (I'.pin (C, oC) (List.mem_append_right _ (List.mem_append_right _ (mem_pinsAt (List.mem_singleton.mpr rfl) hoC)))).1
  have hn' : s'.heap.Ns C m := ns_same hn (by rw [keepC, hoC])
  refine ⟨m, hn', fun h' hs' => wpAny_pure (wpAny_pure ?_)⟩
  refine ⟨σ.set i (some (.ref pa)), Hc, ?_, k1 _ _ _ _ e1 ⟨S1.mu, S1.rho.set (d := .v (.list acc)) r⟩ q⟩
  refine I'.unpinned.call' (ch := [C]) rfl ⟨fun b o e n hb hx => ?_, fun b o e n hb hx => ?_, fun b o e n hx => n, fun b o e hx => ?_, fun b xs e => e, fun b o u e => e, fun b ps e => ⟨#[], by rw [Array.append_empty]; exact e⟩⟩ ?_ I'.bare fun b hb => ?_
  · exact hs'.extBut b o (fun z => hx (List.mem_singleton.mpr z)) e
  · exact ⟨o.slots, hs'.extBut b o (fun z => hx (List.mem_singleton.mpr z)) e⟩
  · exact ⟨o, hs'.extBut b o (fun z => hx (List.mem_singleton.mpr z)) e⟩
  · exact fun b ob e => by
      refine (I'.hok b ob e).stay (fun cc v hcc q => hs'.extBut cc v ?_ q) (fun _ q => q) fun _ _ q => q
      rintro rfl
      rcases hcc with z | z
      · rw [← z, fC.1] at e; cases e
      · rw [fC.1] at z; cases z
  · rw [List.mem_singleton.mp hb]
    exact ⟨fC.2.2.2.1, fC.2.1, fC.2.2.2.2.1, fC.2.2.2.2.2⟩
theorem q_compI {cap : List (Option Nat)} {src : DTI} {g : DTG} {t : DTT} {ta : DTE} {ρ : Rho} {μ : Mu} {Q : DK} : dCompI cap src g t ta ρ μ Q = src ρ μ fun xs μ1 => xs.length ≤ 1000 ∧ ∀ p, μ1 p = none → ∃ Pv : Nat → List PyData → Mu → Prop, Pv 0 [] (muSet μ1 p []) ∧
  (∀ i x acc μ', xs[i]? = some x → μ' p = some acc → Pv i acc μ' → g (.v x) (capF cap ρ) μ' fun ρ2 μ2 => Le (capF cap ρ) ρ2 ∧ t ρ2 μ2 fun b μ3 =>
    if b = true then ta ρ2 μ3 fun d μ4 => μ4 p = some acc ∧ (match d with | .v y => Pv (i + 1) (acc ++ [y]) (muSet μ4 p (acc ++ [y])) | _ => False) else μ3 p = some acc ∧ Pv (i + 1) acc μ3) ∧
  (∀ acc μ', Pv xs.length acc μ' → μ' p = some acc → Q (.v (.list acc)) (muDel μ' p)) := propext Iff.rfl
theorem muDel_set {μ : Mu} {p : Addr} {ds : List PyData} (h : μ p = none) : muDel (muSet μ p ds) p = μ := by
  funext b
  unfold muDel muSet
  by_cases e : b = p
  · rw [if_pos e, e, h]
  · rw [if_neg e, if_neg e]
theorem fmTake {xs : List PyData} {f : PyData → Option PyData} {i : Nat} {d : PyData} (h : xs[i]? = some d) : (xs.take (i + 1)).filterMap f = (xs.take i).filterMap f ++ (f d).toList := fm_take h
open PySem PySem.Spec PyProof.Rows
section
variable {X : Cx} {es : List Expr} {x1 : Nat} {tpos : Pos}
def zipD : List PyData → List PyData → List PyData
  | x :: xs, y :: ys => .tuple [x, y] :: zipD xs ys
  | _, _ => []
def diZip (t : DTA) : DTI := fun ρ μ Q => t ρ μ fun ds μ1 => match ds with
  | [.v (.list xs), .v (.list ys)] => Q (zipD xs ys) μ1
  | _ => False
theorem q_diZip {t : DTA} {ρ : Rho} {μ : Mu} {Q : List PyData → Mu → Prop} : diZip t ρ μ Q = t ρ μ fun ds μ1 => match ds with | [.v (.list xs), .v (.list ys)] => Q (zipD xs ys) μ1 | _ => False := propext Iff.rfl
end
open PySem PySem.Spec PyProof.Rows
section
variable {X : Cx} {a b e : Expr} {es : List Expr} {ta tb te : DTE} {t : DTA} {p pos : Pos}
def rTupOfD : List D → Mu → DK → Prop := fun xs μ Q => match xs with
  | [.v (.list ys)] => Q (.v (.tuple ys)) μ
  | [.v (.tuple ys)] => Q (.v (.tuple ys)) μ
  | [.m l] => (match μ l with | some ys => Q (.v (.tuple ys)) μ | none => False)
  | _ => False
theorem lc_tupOf {K : PySem.W.Frag} : LiftC K (fun xs H Q => ∃ p ys, xs = [.ref p] ∧ ((SqL K H p ys ∧ ∀ l, H l = none → Q (.ref l) (upd H l (.tup ys))) ∨ (SqT K H p ys ∧ Q (.ref p) H))) rTupOfD := by
  intro xs us H μ Qd Q ok rs h k
  unfold rTupOfD at h
  split at h
  · cases rs with
    | cons r1 r2 =>
      cases r2
      cases r1 with
      | list hs hn r => exact ⟨_, _, rfl, .inl ⟨SqL.of hs, fun l hl => k (.v _) _ μ _ (ext_new hl) (ok.new hl) (rp_tup_new ok r hl) h⟩⟩
  · cases rs with
    | cons r1 r2 =>
      cases r2
      cases id r1 with
      | tuple hs r => exact ⟨_, _, rfl, .inr ⟨hs, k (.v _) _ μ H .refl ok r1 h⟩⟩
  · cases rs with
    | cons r1 r2 =>
      cases r2
      obtain ⟨rfl, ds, hm⟩ := r1
      rw [hm] at h
      obtain ⟨us, hl, r⟩ := ok _ ds hm
      exact ⟨_, _, rfl, .inl ⟨SqL.of hl, fun l hl' => k (.v _) _ μ _ (ext_new hl') (ok.new hl') (rp_tup_new ok r hl') h⟩⟩
  · exact h.elim
theorem de_tupOf (hg : Gl X "tuple") (hm : X.mg "tuple" = none) (ha : DA X (e :: es) t)
    (he : starEach (e :: es) X.env = (false, eval e X.env) :: starEach es X.env := by rfl) (hpl : (backTo pos (starEach es X.env)).any (·.1) = false := by rfl) : DE X (.Call (.Name "tuple" p) (e :: es) [] pos) (dCB rTupOfD t) :=
  de_callTy call_tuple_of lc_tupOf hg hm PyProof.Rows.Boot.«tuple» ha (by decide) (by decide) he hpl
theorem q_tupOfL {ys : List PyData} {μ : Mu} {Q : DK} : rTupOfD [.v (.list ys)] μ Q = Q (.v (.tuple ys)) μ := propext Iff.rfl
theorem q_tupOfT {ys : List PyData} {μ : Mu} {Q : DK} : rTupOfD [.v (.tuple ys)] μ Q = Q (.v (.tuple ys)) μ := propext Iff.rfl
theorem q_tupOfM {l : Addr} {μ : Mu} {Q : DK} : rTupOfD [.m l] μ Q = (match μ l with | some ys => Q (.v (.tuple ys)) μ | none => False) := propext Iff.rfl
def rRepD : D → D → Mu → DK → Prop := fun x y μ Q => match x, y with
  | .v (.list xs), .v (.int k) => (0 ≤ k ∧ k ≤ 1000 ∧ xs.length * k.toNat ≤ 1000) ∧ Q (.v (.list (List.replicate k.toNat xs).flatten)) μ
  | _, _ => False
theorem q_rep {xs : List PyData} {k : Int} {μ : Mu} {Q : DK} : rRepD (.v (.list xs)) (.v (.int k)) μ Q = ((0 ≤ k ∧ k ≤ 1000 ∧ xs.length * k.toNat ≤ 1000) ∧ Q (.v (.list (List.replicate k.toNat xs).flatten)) μ) := propext Iff.rfl
end
open PySem PySem.Spec PyProof.Rows
section
variable {prog : Program} {w : World} {A : Around} {E : Value → Shared → Prop} {s : Shared}
end
open PySem PySem.Spec PyProof.Rows
section
variable {X : Cx} {es : List Expr} {x1 : Nat} {tpos : Pos}
end
section
variable {X : Cx} {es : List Expr} {pos : Pos}
end
open PySem PySem.Spec PyProof.Rows
section
variable {X : Cx} {e : Expr} {es : List Expr} {t : DTA} {p pos : Pos}
end
section
variable {X : Cx} {e tg : Expr} {te : DTE} {td : DTS} {pos : Pos}
end
section
variable {X : Cx} {a b c : Expr} {ta tb tc : DTE} {pos : Pos}
end
open PySem PySem.Spec PyProof.Rows
section
variable {X : Cx} {o e : Expr} {to te : DTE} {apos cpos pos : Pos}
end
section
variable {X : Cx} {e : Expr} {es : List Expr} {t : DTA} {p pos : Pos}
end
section
variable {X : Cx} {a b : Expr} {ta tb : DTE} {pos : Pos}
end
open PySem PySem.Spec PyProof.Rows
def ClIn (cells : List (Str × Addr)) : List (Str × Addr) → Prop
  | [] => True
  | (k, v) :: r => cells.lookup k = some v ∧ ClIn cells r
theorem cl_n {cells : List (Str × Addr)} : ClIn cells [] := trivial
theorem cl_c {cells r : List (Str × Addr)} {k : Str} {v : Addr} (h : cells.lookup k = some v) (t : ClIn cells r) : ClIn cells ((k, v) :: r) := ⟨h, t⟩
theorem cl_of {cells : List (Str × Addr)} : ∀ {cl : List (Str × Addr)}, ClIn cells cl → ∀ x a, cl.lookup x = some a → cells.lookup x = some a
  | [], _, _, _, h => by simp at h
  | (k, v) :: r, c, x, a, h => by
    rw [List.lookup_cons] at h
    cases e : x == k with
    | true =>
      have e' : x = k := by simpa using e
      rw [e] at h
      subst e'
      rw [c.1]; exact h
    | false =>
      rw [e] at h
      exact cl_of c.2 x a h
open PySem PySem.Spec PyProof.Rows
def Fly (O : Addr → Prop) (h : Heap) (e : Addr) (cls fl : Value) : Prop := (∀ b, O b → b < h.objs.size) ∧ ∃ oe vs T oT ts, h.get? e = some oe ∧ oe.cls = cls ∧ oe.data = .fields vs ∧ vs[1]? = some (.ref T) ∧ vs[2]? = some .none ∧ ¬ O e ∧ ¬ O T ∧ T ≠ e ∧ h.get? T = some oT ∧ oT.data = .fields ts ∧ ts[3]? = some fl
structure Kp (O : Addr → Prop) (fs : List Addr) (h h' : Heap) : Prop where
  keep : ∀ b o, h.get? b = some o → O b → b ∉ fs → h'.get? b = some o
  slot : ∀ b o, h.get? b = some o → (∀ vs, o.data ≠ .fields vs) → ∃ sl, h'.get? b = some { o with slots := sl }
section
variable {O : Addr → Prop} {fs : List Addr} {h h1 h2 : Heap}
theorem Kp.refl : Kp O fs h h := ⟨fun _ _ e _ _ => e, fun _ o e _ => ⟨o.slots, e⟩⟩
theorem Kp.trans (a : Kp O fs h h1) (b : Kp O fs h1 h2) : Kp O fs h h2 := ⟨fun c o e l f => b.keep c o (a.keep c o e l f) l f, fun c o e d => let ⟨_, e1⟩ := a.slot c o e d; let ⟨sl, e2⟩ := b.slot c _ e1 d; ⟨sl, e2⟩⟩
theorem Kp.of (k : ∀ b o, h.get? b = some o → h1.get? b = some o) : Kp O fs h h1 := ⟨fun b o e _ _ => k b o e, fun b o e _ => ⟨o.slots, k b o e⟩⟩
theorem Kp.sub {fs' : List Addr} (a : Kp O fs h h1) (s : ∀ b ∈ fs, b ∈ fs') : Kp O fs' h h1 := ⟨fun b o e l f => a.keep b o e l fun z => f (s b z), a.slot⟩
theorem Kp.frames {base : Heap} {l : List Env} (a : Kp O fs h h1) (k : h.FunFrames base l) : h1.FunFrames base l := k.of_keeps fun b o e d => let ⟨_, e1⟩ := a.slot b o e d; ⟨_, e1, rfl⟩
end
section
variable {M : Model} {A : Around} {E : Value → Shared → Prop} {s : Shared} {O : Addr → Prop} {e L : Addr} {cls fl : Value} {env : Env} {outer : List Env} {base : Heap} {Q : Unit → Shared → Prop}
theorem head_new {oe : Obj} {vs : Array Value} {head : Value} {hadNext : Bool} (hfr : A.frames = some (env :: outer)) (hl : s.heap.FunFrames base (env :: outer)) (hf : env.frame = some L)
    (he : s.heap.get? e = some oe) (hc : oe.cls = cls) (hd : oe.data = .fields vs) (hz : 1 < vs.size) (h2 : vs[2]? = some .none) (hO : ∀ b, O b → b < s.heap.objs.size) (hn : ¬ O e)
    (k : ∀ h', Kp O (frs (env :: outer)) s.heap h' → Fly O h' e cls (rawInt L) → Q () { s with heap := h' }) :
    wpAny M A (do let a ← frameOf env; let pl ← entryPlaceOf L hadNext; let b ← EntryCells.newEntry head a .none (rawInt L) .none pl; setField (.ref e) 1 b) Q E s := by
  have ene : e ∉ frs (env :: outer) := fun hm => by
    obtain ⟨_, o, ho, hnf⟩ := hl.mem hm
    rw [he] at ho
    exact hnf vs (by rw [← Option.some.inj ho]; exact hd)
  refine wpAny_bind (wpAny_frameOf_fun hfr hl hf fun g1 s1 => wpAny_bind (wpAny_entryPlaceOf fun pl hpl => ?_))
  unfold EntryCells.newEntry newFields; refine wpAny_bind (wpAny_newObj_type ?_ (hpl.sizeOk5 _ _ _ _ _))
  generalize hob : ({ cls := .type "traceback", dict := none, data := .fields ([head, .ref L, .none, rawInt L, .none] ++ (if pl.isEmpty then List.replicate 6 Value.none else pl)).toArray } : Obj) = ob
  have e1 : g1.get? e = some oe := (s1.2.1 e ene).trans he
  have e2 : (g1.push ob).get? e = some oe := Heap.get?_push_of_some ob e1
  have neT : g1.objs.size ≠ e := Nat.ne_of_gt (Heap.lt_size e1)
  have d3 := Obj.data_mapFields hd (·.setIfInBounds 1 (Value.ref g1.objs.size))
  have szs : ¬ O g1.objs.size := fun z => absurd (hO _ z) (by rw [s1.1]; exact Nat.lt_irrefl _)
  refine wpAny_setField e2 hd hz (k _ ⟨fun b o q l f => ?_, fun b o q d => ?_⟩ ?_)
  · have bne : e ≠ b := fun z => hn (by rw [z]; exact l)
    rw [Heap.get?_update_other _ _ bne]
    exact Heap.get?_push_of_some _ ((s1.2.1 b f).trans q)
  · have bne : e ≠ b := fun z => by rw [← z, he] at q; exact d vs (by rw [← Option.some.inj q]; exact hd)
    obtain ⟨sl, q1⟩ := s1.2.2 b o q
    exact ⟨sl, by rw [Heap.get?_update_other _ _ bne]; exact Heap.get?_push_of_some _ q1⟩
  · refine ⟨fun b z => Nat.lt_of_lt_of_le (hO b z) (by rw [Heap.size_after_update, Heap.size_push, s1.1]; exact Nat.le_succ _), _, _, g1.objs.size, ob, _, Heap.get?_update_self _ e2 (Obj.isFreed_of_fields d3), (Obj.cls_mapFields ..).trans hc, d3, by simp [hz], by rw [Array.getElem?_setIfInBounds_ne (by decide)]; exact h2, hn, szs, neT, ?_, by rw [← hob], ?_⟩
    · rw [Heap.get?_update_other _ _ (Ne.symm neT)]
      exact Heap.get?_push_size g1 (by rw [← hob]; rfl)
    · rcases hpl with z | ⟨_, _, _, _, _, _, _, z⟩ <;> (rw [z]; rfl)
theorem note_first {oe : Obj} {vs : Array Value} (hfr : A.frames = some (env :: outer)) (hl : s.heap.FunFrames base (env :: outer)) (hf : env.frame = some L)
    (he : s.heap.get? e = some oe) (hc : oe.cls = cls) (hd : oe.data = .fields vs) (h1 : vs[1]? = some .none) (h2 : vs[2]? = some .none) (hO : ∀ b, O b → b < s.heap.objs.size) (hn : ¬ O e)
    (k : ∀ h', Kp O (frs (env :: outer)) s.heap h' → Fly O h' e cls (rawInt L) → Q () { s with heap := h' }) : wpAny M A (noteFrame (.ref e) env) Q E s := by
  unfold noteFrame; simp only [hf]
  refine wpAny_bind (wpAny_field he hd h1 ?_)
  rw [if_neg (by decide)]
  exact head_new hfr hl hf he hc hd (Array.getElem?_eq_some_iff.mp h1).1 h2 hO hn k
theorem note_next (hfr : A.frames = some (env :: outer)) (hl : s.heap.FunFrames base (env :: outer)) (hf : env.frame = some L) (F : Fly O s.heap e cls .none)
    (k : ∀ h', Kp O (frs (env :: outer)) s.heap h' → Fly O h' e cls (rawInt L) → Q () { s with heap := h' }) : wpAny M A (noteFrame (.ref e) env) Q E s := by
  obtain ⟨hO, oe, vs, T, oT, ts, he, hc, hd, h1, h2, hn, hT, nT, gT, dT, h3⟩ := F
  unfold noteFrame; simp only [hf]
  refine wpAny_bind (wpAny_field he hd h1 ?_)
  rw [if_pos (by simp)]
  refine wpAny_bind (wpAny_field gT dT h3 ?_)
  rw [if_neg (by simp [rawInt])]
  have oth : ∀ b, b ≠ T → (s.heap.update T (Obj.mapFields (·.setIfInBounds 3 Value.none))).get? b = s.heap.get? b := fun b hb => Heap.get?_update_other _ _ (Ne.symm hb)
  have kp : Kp O (frs (env :: outer)) s.heap (s.heap.update T (Obj.mapFields (·.setIfInBounds 3 Value.none))) :=
    ⟨fun b o q l _ => (oth b fun z => hT (by rw [← z]; exact l)).trans q, fun b o q d => ⟨o.slots, (oth b fun z => by rw [z, gT] at q; exact d ts (by rw [← Option.some.inj q]; exact dT)).trans q⟩⟩
  refine wpAny_bind (wpAny_setField gT dT (Array.getElem?_eq_some_iff.mp h3).1 ?_)
  exact head_new (s := { s with heap := s.heap.update T (Obj.mapFields (·.setIfInBounds 3 Value.none)) }) hfr (kp.frames hl) hf ((oth e (Ne.symm nT)).trans he) hc hd (Array.getElem?_eq_some_iff.mp h1).1 h2 (fun b z => by rw [Heap.size_after_update]; exact hO b z) hn fun h' a b => k h' (kp.trans a) b
theorem flight_none {fs : List Addr} (F : Fly O s.heap e cls fl) (k : ∀ h', Kp O fs s.heap h' → Fly O h' e cls .none → Q () { s with heap := h' }) : wpAny M A (setFlight (.ref e) none) Q E s := by
  obtain ⟨hO, oe, vs, T, oT, ts, he, hc, hd, h1, h2, hn, hT, nT, gT, dT, h3⟩ := F
  have z3 : 3 < ts.size := (Array.getElem?_eq_some_iff.mp h3).1
  unfold setFlight
  refine wpAny_bind (wpAny_field he hd h1 ?_)
  rw [if_pos (by simp)]
  have oth : ∀ b, b ≠ T → (s.heap.update T (Obj.mapFields (·.setIfInBounds 3 ((none : Option Addr).elim Value.none fun f => rawInt f)))).get? b = s.heap.get? b := fun b hb => Heap.get?_update_other _ _ (Ne.symm hb)
  refine wpAny_setField gT dT z3 (k _ ⟨fun b o q l _ => (oth b fun z => hT (by rw [← z]; exact l)).trans q, fun b o q d => ⟨o.slots, (oth b fun z => by rw [z, gT] at q; exact d ts (by rw [← Option.some.inj q]; exact dT)).trans q⟩⟩ ?_)
  exact ⟨fun b z => by rw [Heap.size_after_update]; exact hO b z, oe, vs, T, _, _, (oth e (Ne.symm nT)).trans he, hc, hd, h1, h2, hn, hT, nT, Heap.get?_update_self _ gT (Obj.isFreed_of_fields (Obj.data_mapFields dT _)), Obj.data_mapFields dT _, by simp [z3]⟩
theorem leave_first {oe : Obj} {vs : Array Value} (hfr : A.frames = some (env :: outer)) (hl : s.heap.FunFrames base (env :: outer)) (hf : env.frame = some L)
    (he : s.heap.get? e = some oe) (hc : oe.cls = cls) (hd : oe.data = .fields vs) (h1 : vs[1]? = some .none) (h2 : vs[2]? = some .none) (hO : ∀ b, O b → b < s.heap.objs.size) (hn : ¬ O e)
    (k : ∀ h', Kp O (frs (env :: outer)) s.heap h' → Fly O h' e cls .none → Q () { s with heap := h' }) : wpAny M A (leaving env (.ref e)) Q E s := by
  unfold leaving
  exact wpAny_bind (note_first hfr hl hf he hc hd h1 h2 hO hn fun h' a b => flight_none (s := { s with heap := h' }) b fun h'' a' b' => k h'' (a.trans a') b')
theorem leave_next (hfr : A.frames = some (env :: outer)) (hl : s.heap.FunFrames base (env :: outer)) (hf : env.frame = some L) (F : Fly O s.heap e cls .none)
    (k : ∀ h', Kp O (frs (env :: outer)) s.heap h' → Fly O h' e cls .none → Q () { s with heap := h' }) : wpAny M A (leaving env (.ref e)) Q E s := by
  unfold leaving
  exact wpAny_bind (note_next hfr hl hf F fun h' a b => flight_none (s := { s with heap := h' }) b fun h'' a' b' => k h'' (a.trans a') b')
end
open PySem PySem.Spec PyProof.Rows
def CX1 (P : Program) (w : World) : CXT := fun outer H s E e s' => ∃ (O : Addr → Prop) (ea : Addr) (cls : Value) (H' : Hp), e = .ref ea ∧ s'.os = s.os ∧ AllBare s'.gens ∧ Un (frs outer) [] H H' s.heap s'.heap ∧ HOk P w H' s'.heap ∧
  (∀ b o, s.heap.get? b = some o → O b) ∧ (∀ b, H' b ≠ none → O b) ∧ Fly O s'.heap ea cls .none ∧ E cls none H'
theorem Un.fly {fs : List Addr} {L : Addr} {H H' : Hp} {h h1 h2 : Heap} {O : Addr → Prop} (u : Un fs [] H H' h h1) (k : Kp O (L :: fs) h1 h2) (hO : ∀ b o, h.get? b = some o → O b) (hL : ∀ o, h.get? L ≠ some o) (hd : ∀ b ∈ fs, ∀ o, h1.get? b = some o → ∀ vs, o.data ≠ .fields vs) : Un fs [] H H' h h2 where
  keep := fun b o e n f x => k.keep b o (u.keep b o e n f x) (hO b o e) fun z => by
    rcases List.mem_cons.mp z with z | z
    · exact hL o (by rw [← z]; exact e)
    · exact f z
  slot := fun b o e n f x => by
    obtain ⟨sl, e1⟩ := u.slot b o e n f x
    obtain ⟨sl', e2⟩ := k.slot b _ e1 (hd b f _ e1)
    exact ⟨sl', e2⟩
  free := u.free
  there := fun b o e x => by
    obtain ⟨o1, e1⟩ := u.there b o e x
    by_cases f : b ∈ fs
    · obtain ⟨sl, e2⟩ := k.slot b _ e1 (hd b f _ e1)
      exact ⟨_, e2⟩
    · exact ⟨o1, k.keep b o1 e1 (hO b o e) fun z => by
        rcases List.mem_cons.mp z with z | z
        · exact hL o (by rw [← z]; exact e)
        · exact f z⟩
  tups := u.tups
  frzs := u.frzs
  tbls := u.tbls
theorem HOk.fly {P : Program} {w : World} {H : Hp} {h h1 : Heap} {O : Addr → Prop} {fs : List Addr} (x : HOk P w H h) (k : Kp O fs h h1) (hO : ∀ b, H b ≠ none → O b) (hf : ∀ b ∈ fs, H b = none) : HOk P w H h1 := fun a o e => by
  refine (x a o e).stay (fun b u hb q => ?_) (fun _ q => q) fun _ _ q => q
  have hb' : H b ≠ none := by
    rcases hb with rfl | hb
    · rw [e]; exact fun z => nomatch z
    · rw [hb]; exact fun z => nomatch z
  exact k.keep b u q (hO b hb') fun z => hb' (hf b z)
theorem obj_there {P : Program} {w : World} {H : Hp} {h : Heap} {a : Addr} {o : HO} (x : ObjOk P w H h a o) : ∃ u, h.get? a = some u := by
  cases o with
  | lst xs => obtain ⟨_, _, _, _, e⟩ := x; exact ⟨_, e⟩
  | tup xs => obtain ⟨_, _, _, _, e, _⟩ := x; exact ⟨_, e⟩
  | dK kvs => obtain ⟨_, _, _, _, _, _, _, e, _⟩ := x; exact ⟨_, e⟩
  | dT kvs => obtain ⟨_, _, _, _, _, _, _, e, _⟩ := x; exact ⟨_, e⟩
  | set S n => obtain ⟨_, _, _, _, e, _⟩ := x; exact ⟨_, e⟩
  | ins C dx fs => obtain ⟨_, _, _, e, _⟩ := x; exact ⟨_, e⟩
  | own y => exact x
  | xd fs => obtain ⟨_, ⟨_, _, _, e, _⟩, _⟩ := x; exact ⟨_, e⟩
  | rng lo hi => obtain ⟨_, _, _, e⟩ := x; exact ⟨_, e⟩
  | frz ob u => obtain ⟨e, _⟩ := x; exact ⟨_, e⟩
  | tbl ps => exact ⟨_, (show h.get? a = some _ from x)⟩
  | met f y => exact ⟨_, (show h.get? a = some _ from x)⟩
  | ext φ => obtain ⟨_, e, _⟩ := x; exact e
section
variable {X : Cx} {pins : List (Addr × Obj)} {σ : St} {H : Hp} {s : Shared} {O : Addr → Prop} {ea : Addr} {cls : Value} {E : XK} {base : Heap}
structure Frm (X : Cx) : Prop where
  stk : X.stack = X.env :: X.outer
  fr : X.env.frame = some X.env.locals
  ex : X.ex = []
theorem frm_frs (hF : Frm X) : frs (X.env :: X.outer) = X.env.locals :: X.fs := by
  unfold Cx.fs frs
  rw [List.filterMap_cons, hF.fr]
theorem frm_dat (I : Inv X pins σ H s) : ∀ b ∈ X.fs, ∀ o, s.heap.get? b = some o → ∀ vs, o.data ≠ .fields vs := fun b hb o e vs => by
  obtain ⟨_, o', e', d⟩ := I.funs.mem hb
  rw [e] at e'
  rw [Option.some.inj e']
  exact d vs
theorem frm_loc (I : Inv X pins σ H s) : ∀ o, X.s₀.heap.get? X.env.locals ≠ some o := fun o e => absurd (Heap.lt_size e) (Nat.not_lt.mpr I.ok.above)
theorem frm_free (hF : Frm X) (I : Inv X pins σ H s) : ∀ b ∈ frs (X.env :: X.outer), H b = none := fun b hb => by
  rw [frm_frs hF] at hb
  rcases List.mem_cons.mp hb with e | hb
  · rw [e]; exact I.free
  · exact I.stkFree b (by rw [hF.stk, frm_frs hF]; exact List.mem_cons_of_mem _ hb)
theorem frm_stack (hF : Frm X) (I : Inv X pins σ H s) : s.heap.FunFrames X.base (X.env :: X.outer) := by
  have := I.stack
  rw [hF.stk] at this
  exact this
theorem cx_end (hF : Frm X) (I : Inv X pins σ H s) (hO : ∀ b o, X.s₀.heap.get? b = some o → O b) (ht : ∀ b, H b ≠ none → O b) {h' : Heap} (k : Kp O (frs (X.env :: X.outer)) s.heap h') (F : Fly O h' ea cls .none) (q : E cls none H) :
    CX1 X.prog X.w X.outer X.H₀ X.s₀ E (.ref ea) { s with heap := h' } := by
  refine ⟨O, ea, cls, H, rfl, I.os, I.bare, ?_, HOk.fly I.hok k ht (frm_free hF I), hO, ht, F, q⟩
  rw [frm_frs hF] at k
  have u := I.base
  rw [hF.ex] at u
  exact Un.fly u k hO (frm_loc I) (frm_dat I)
theorem leave_new {vs : List Value} {h1 : Heap} {Qe : Value → Shared → Prop} (hF : Frm X) (I : Inv X pins σ H s) (hx : Heap.MadeExcOf s.heap h1 ea cls vs) (q : E cls none H) :
    wpAny (model X.prog X.w) X.A (leaving X.env (.ref ea)) (fun _ s'' => CX1 X.prog X.w X.outer X.H₀ X.s₀ E (.ref ea) s'') Qe { s with heap := h1 } := by
  obtain ⟨t, he, _, _⟩ := hx.there
  have I1 : Inv X pins σ H { s with heap := h1 } := I.kept (t' := s.toks) hx.keeps
  have fr : X.A.frames = some (X.env :: X.outer) := by rw [← hF.stk]; exact I.ok.frames
  have kp : Kp (fun b => ∃ o, s.heap.get? b = some o) (frs (X.env :: X.outer)) s.heap h1 := .of hx.keeps
  refine leave_first (O := fun b => ∃ o, s.heap.get? b = some o) (s := { s with heap := h1 }) fr (frm_stack hF I1) hF.fr he rfl rfl rfl rfl (fun b ⟨o, e⟩ => Heap.lt_size (hx.keeps b o e)) (fun ⟨o, e⟩ => by rw [hx.new] at e; cases e) fun h' k F => ?_
  have e := cx_end (s := s) (X := X) hF I (fun b o e => I.base.there b o e (by rw [hF.ex]; exact fun z => nomatch z)) (fun b hb => by
    cases z : H b with
    | none => exact absurd z hb
    | some o => exact obj_there (I.hok b o z)) (kp.trans k) F q
  exact e
end
structure XOk (X : Cx) (E : XK) : Prop where
  new : ∀ (pins : List (Addr × Obj)) (σ : St) (H : Hp) (s : Shared) (ea : Addr) (cls : Value) (vs : List Value) (h1 : Heap), Inv X pins σ H s → Heap.MadeExcOf s.heap h1 ea cls vs → E cls none H → X.xe (.ref ea) { s with heap := h1 }
  pas : Passes (CX1 X.prog X.w) X E
theorem pass_next {X : Cx} {pins : List (Addr × Obj)} {σ : St} {H : Hp} {s s' : Shared} {E : XK} {e : Value} {Qe : Value → Shared → Prop} (hF : Frm X) (I : Inv X pins σ H s) (h : CX1 X.prog X.w X.stack H s E e s') :
    wpAny (model X.prog X.w) X.A (leaving X.env e) (fun _ s'' => CX1 X.prog X.w X.outer X.H₀ X.s₀ E e s'') Qe s' := by
  obtain ⟨O, ea, cls, H', rfl, os, bare, un, hok, hO, ht, F, q⟩ := h
  have I' : Inv X pins σ H' s' := I.call' (ch := []) os un hok bare (fun b z => nomatch z)
  have fr : X.A.frames = some (X.env :: X.outer) := by rw [← hF.stk]; exact I.ok.frames
  refine leave_next (s := s') fr (frm_stack hF I') hF.fr F fun h' k F' => ?_
  exact cx_end (s := s') hF I' (fun b o e => by
    obtain ⟨o', e'⟩ := I.base.there b o e (by rw [hF.ex]; exact fun z => nomatch z)
    exact hO b o' e') ht k F' q
theorem xok_def {P : Program} {w : World} {K : PySem.W.Frag} {mg : Str → Option Value} {base : Heap} {N : List Str} {qual : Str} {scope : Scope} {f : Addr} {cd : Value} {A : Around} {outer : List Env} {s : Shared} {H : Hp} {E : XK} :
    XOk (cxOf (CX1 P w) P w K mg base N qual scope f cd A outer s H E) E where
  new := fun pins σ H1 s1 ea cls vs h1 I hx q => leave_new (X := cxOf (CX1 P w) P w K mg base N qual scope f cd A outer s H E) ⟨rfl, rfl, rfl⟩ I hx q
  pas := fun pins σ H1 s1 e s' I h => pass_next (X := cxOf (CX1 P w) P w K mg base N qual scope f cd A outer s H E) ⟨rfl, rfl, rfl⟩ I h
abbrev DTX := Rho → Mu → (Mu → Prop) → Prop
abbrev XSp := List D → Mu → (Mu → Prop) → Prop
def Wish (K : PySem.W.Frag) (E : XK) (C : Value) (μ : Mu) (H : Hp) (Xk : Mu → Prop) : Prop := ∀ μ' H', Ext K μ H μ' H' → MuOk K μ' H' → Xk μ' → E C none H'
theorem Wish.on {K : PySem.W.Frag} {E : XK} {C : Value} {μ μ1 : Mu} {H H1 : Hp} {Xk : Mu → Prop} (w : Wish K E C μ H Xk) (e : Ext K μ H μ1 H1) : Wish K E C μ1 H1 Xk := fun μ' H' e' => w μ' H' (e.trans e')
def XE (X : Cx) (E : XK) (C : Value) (e : Expr) (tx : DTX) : Prop := ∃ t : TE, PE X e t ∧ ∀ σ H ρ μ Xk Q, St0 X.K H ρ μ σ → tx ρ μ Xk → Wish X.K E C μ H Xk → t σ H Q
def XS (X : Cx) (E : XK) (C : Value) (st : Stmt) (tx : DTX) : Prop := ∃ t : TS, PS X st t ∧ ∀ σ H ρ μ Xk D, St0 X.K H ρ μ σ → tx ρ μ Xk → Wish X.K E C μ H Xk → t D σ H
def XSs (X : Cx) (E : XK) (C : Value) (st : List Stmt) (tx : DTX) : Prop := ∃ t : TS, PSs X st t ∧ ∀ σ H ρ μ Xk D, St0 X.K H ρ μ σ → tx ρ μ Xk → Wish X.K E C μ H Xk → t D σ H
def spX (K : PySem.W.Frag) (C : Value) (dsp : XSp) : Sp := fun vs H _ E => ∃ (ds : List D) (μ : Mu) (Xk : Mu → Prop), MuOk K μ H ∧ RpDs K μ H ds vs ∧ dsp ds μ Xk ∧ Wish K E C μ H Xk
section
variable {X : Cx} {E : XK} {C : Value} {e : Expr} {es : List Expr} {t : DTA} {te : DTE} {tx ty : DTX} {p pos : Pos} {x : Str} {k : Nat} {f : Addr} {fd : FuncData} {ps : List Str} {dsp : XSp} {st : Stmt} {sts : List Stmt}
def xCall (dsp : XSp) (t : DTA) : DTX := fun ρ μ Xk => t ρ μ fun ds μ1 => dsp ds μ1 Xk
theorem xe_call (F : FnOk X.prog X.w X.K X.mg X.base (CX1 X.prog X.w) k f fd ps (spX X.K C dsp)) (hr : Room k X.A) (hg : Gl X x) (hm : X.mg x = some (.ref f)) (hk : PySem.W.keepIn X.K (.ref f) = true) (hb : Binds X.K fd ps []) (hx : XOk X E)
    (ha : DA X (e :: es) t) (hdb : (x == ("__debug__" : Str)) = false := by decide) (he : starEach (e :: es) X.env = (false, eval e X.env) :: starEach es X.env := by rfl) (hpl : (backTo pos (starEach es X.env)).any (·.1) = false := by rfl) :
    XE X E C (.Call (.Name x p) (e :: es) [] pos) (xCall dsp t) := by
  obtain ⟨t1, p1, l1⟩ := ha
  refine ⟨_, pe_call F hr hg hm hk hb .nil hx.pas p1 hdb he hpl, fun σ H ρ μ Xk Q S h wsh => ?_⟩
  refine l1 σ H ρ μ _ _ S h fun ds us μ1 H1 e1 S1 rs len h1 => ?_
  exact ⟨ds, μ1, Xk, S1.mu, by rw [List.append_nil]; exact rs, h1, wsh.on e1⟩
theorem xs_expr (h : XE X E C e tx) (hs : swapsWith e none pos.line X.env = pure false := by rfl) : XS X E C (.Expr e pos) tx := by
  obtain ⟨t1, p1, l1⟩ := h
  exact ⟨_, ps_expr p1 hs, fun σ H ρ μ Xk D S h wsh => l1 σ H ρ μ Xk _ S h wsh⟩
def xNever : DTX := fun _ _ _ => False
theorem xss_never : XSs X E C sts xNever := ⟨_, pss_never, fun _ _ _ _ _ _ _ h _ => h.elim⟩
def xIf (tc : DTT) (tx ty : DTX) : DTX := fun ρ μ Xk => tc ρ μ fun b μ1 => if b = true then tx ρ μ1 Xk else ty ρ μ1 Xk
theorem xs_if {c : Expr} {a b : List Stmt} {tc : DTT} (hc : DT X c tc) (ha : XSs X E C a tx) (hb : XSs X E C b ty) : XS X E C (.If c a b pos) (xIf tc tx ty) := by
  obtain ⟨t0, p0, l0⟩ := hc
  obtain ⟨t1, p1, l1⟩ := ha
  obtain ⟨t2, p2, l2⟩ := hb
  refine ⟨_, ps_if p0 p1 p2, fun σ H ρ μ Xk D S h wsh => ?_⟩
  refine l0 σ H ρ μ _ _ S h fun c μ1 H1 e1 S1 h1 => ?_
  cases c with
  | true => exact iteT (l1 σ H1 ρ μ1 Xk D S1 (by simpa using h1) (wsh.on e1))
  | false => exact iteF (l2 σ H1 ρ μ1 Xk D S1 (by simpa using h1) (wsh.on e1))
theorem xss_here (h : XS X E C st tx) : XSs X E C (st :: sts) tx := by
  obtain ⟨t1, p1, l1⟩ := h
  exact ⟨_, pss_cons p1 pss_never, fun σ H ρ μ Xk D S h wsh => l1 σ H ρ μ Xk _ S h wsh⟩
def xSeq (td : DTS) (tx : DTX) : DTX := fun ρ μ Xk => td { nx := fun ρ' μ' => tx ρ' μ' Xk, rt := fun _ _ => False } ρ μ
theorem xss_next {td : DTS} (h : DS X st td) (hr : XSs X E C sts tx) : XSs X E C (st :: sts) (xSeq td tx) := by
  obtain ⟨t1, p1, l1⟩ := h
  obtain ⟨t2, p2, l2⟩ := hr
  refine ⟨_, pss_cons p1 p2, fun σ H ρ μ Xk D S h wsh => ?_⟩
  refine l1 σ H ρ μ _ _ S h (fun σ' ρ' μ' H' e' S' q => ?_) (fun d u μ' H' e' ok r q => q.elim) (fun σ' ρ' μ' H' e' S' q => q.elim) (fun σ' ρ' μ' H' e' S' q => q.elim)
  exact l2 σ' H' ρ' μ' Xk D S' q (wsh.on e')
end
theorem _root_.L2.Fun.okX {P : Program} {w : World} {K : PySem.W.Frag} {mg : Str → Option Value} {base : Heap} {x qual : Str} {st : Stmt} {f : Addr} {fd : FuncData} {N ps : List Str} {k : Nat} {C : Value} {dsp : XSp} (F : Fun K x qual st f fd) (S : FnScope N ps (defScope st)) (len : ∀ ds μ Xk, dsp ds μ Xk → ds.length = ps.length)
    (hbody : ∀ (cdv : Value) (A : Around) (outer : List Env) (s : Shared) (H : Hp) (E : XK), Room k (A.deeper (envOfC qual (defScope st) s.heap.objs.size f cdv)) →
      ∃ tx, XSs (cxOf (CX1 P w) P w K mg base N qual (defScope st) f cdv A outer s H E) E C (defBody st) tx ∧ ∀ ds μ Xk, dsp ds μ Xk → tx (startD N ds) μ Xk) : FnOk P w K mg base (CX1 P w) (k + 1) f fd ps (spX K C dsp) := by
  obtain ⟨oc, od, kV, doc, pm, an, cdv, ct, osl, rfl, lk, hcd⟩ := F.ex
  refine fn_of lk hcd S (fun vs H Q E h => ?_) fun A outer s H vs Q E hr hsp => ?_
  · obtain ⟨ds, μ, Xk, _, r, h, _⟩ := h
    rw [← r.length]; exact len ds μ Xk h
  · obtain ⟨tx, ⟨t, p, l⟩, q⟩ := hbody cdv A outer s H E hr
    obtain ⟨ds, μ, Xk, ok, r, h, wsh⟩ := hsp
    exact ⟨t, p, l (start N vs) H (startD N ds) μ Xk _ ⟨ok, rho_start r⟩ (q ds μ Xk h) wsh⟩
open PySem PySem.Spec PyProof.Rows
theorem exc_obj {K : PySem.W.Frag} {h : Heap} {C : Addr} {bmB : List Value} {newId : String} (X : K.In h) (q : PySem.W.excIn K C bmB newId = true) :
    ∃ bm N nm q bs hdct sn sub ab col dd k0 k1 k2 k3 k5 mN, h.get? C = some (excClassObj nm q C N bs bm hdct sn sub ab col dd k0 k1 k2 k3 k5 newId) ∧ h.Ns N mN ∧ mN "__init__" = none ∧ OwnTail h bmB bm := by
  unfold PySem.W.excIn at q
  split at q; rotate_left; · cases q
  rename_i dd cd sl ho; split at q; rotate_left; · cases q
  rename_i C' bm k0 k1 k2 k3 n k5 hm hs
  simp only [Bool.and_eq_true, beq_iff_eq, Bool.not_eq_true'] at q; obtain ⟨⟨⟨⟨⟨rfl, rfl⟩, hdel⟩, ht⟩, hok⟩, hni⟩ := q
  obtain ⟨nm, bs, mro, ns, qn, hd, sn, sub, ab, col, del⟩ := cd; dsimp only at hm hdel hok hni; subst hm hdel
  obtain rfl : sl = #[k0, k1, k2, k3, some (.builtin n), k5] := by obtain ⟨l⟩ := sl; exact congrArg Array.mk hs
  exact ⟨bm, ns, nm, qn, bs, hd, sn, sub, ab, col, dd, k0, k1, k2, k3, k5, _, X _ _ ho, .of_isNs (PySem.W.isNs_of_in X hok), PySem.W.nsMap_none_of_in X hok hni, PySem.W.tail_of_in X ht⟩
section
variable {X : Cx} {E : XK} {x : Str} {C : Addr}
theorem xs_raise {txt : Str} {j} {np kp cpos pos : Pos} (hx : XOk X E) (hg : Gl X x) (hm : X.mg x = some (.ref C)) (hq : PySem.W.excIn X.K C bmV "ValueError.__new__" = true) (hc : X.calm = true := by rfl) (hdb : (x == ("__debug__" : Str)) = false := by decide)
    (hs : starEach [.Constant (.str txt) j kp] X.env = [(false, eval (.Constant (.str txt) j kp) X.env)] := by rfl) :
    XS X E (.ref C) (.Raise (some (.Call (.Name x np) [.Constant (.str txt) j kp] [] cpos)) none pos) (fun _ μ Xk => Xk μ) := by
  refine ⟨fun D σ H => E (.ref C) none H, fun pins s σ H D I h => ?_, fun σ H ρ μ Xk D S h wsh => wsh μ H .refl S.mu h⟩
  obtain ⟨tl, N, nm, q, bs, hdct, sn, sub, ab, col, dd, k0, k1, k2, k3, k5, mN, hC, hN, hni, T⟩ := exc_obj I.mod.kin hq
  refine wpAny_Raise_call_subT (C := C) (nm := nm) (q := q) (N := N) (bs := bs) (bm := tl) (hdct := hdct) (sn := sn) (sub := sub) (ab := ab) (col := col) (dd := dd) (k0 := k0) (k1 := k1) (k2 := k2) (k3 := k3) (k5 := k5)
    PySem.F.excBase_ValueError (mN := mN) (T.hasType PySem.F.excBase_ValueError.hasBase) (I.ok.hd hc) (by rw [hs]; rfl) hni (ld_glob I hg hm ⟨rfl, ?_⟩ hdb)
  have pa := pa_cons (X := X) (es := []) (pe_str (x := txt) (j := j) (pos := kp)) pa_nil (by rw [hs]; rfl) cpos pins s σ H (fun vs H1 => vs.length = 1 ∧ H1 = H) I ⟨rfl, rfl⟩
  rw [hs] at pa ⊢
  refine Calls.evalArgs_plain (thn pa fun us s2 ⟨vs, H1, I1, r, l, e1⟩ => ?_)
  subst e1
  exact ⟨rfl, by rw [← r.length, l]; decide, I1.bk _ _ hC, hN.keeps I1.bk, T.keeps I1.bk, fun h' e hm' => hx.new pins σ H1 s2 e _ _ h' I1 hm' h⟩
end
open PySem PySem.Spec PyProof.Rows
structure ExcQ (K : PySem.W.Frag) (C : Addr) : Prop where
  ga : PySem.W.findIn K (.ref C) "__getattribute__" = some (some (.builtin "BaseException.__getattribute__"))
  gx : PySem.W.findIn K (.ref C) "__getattr__" = some none
  cl : PySem.W.findIn K (.ref C) "__class__" = some (some (.builtin "object.__class__"))
  ob : PySem.W.mroIn K C (.type "object") = some true
  be : PySem.W.mroIn K C (.type "BaseException") = some true
  ci : (PySem.W.clsIn K C).isSome = true
section
variable {prog : Program} {w : World} {A : Around} {E : Value → Shared → Prop} {h : Heap} {g : Array GenState} {d : Drawn} {t : Nat} {os : OsState} {a C : Addr} {o : Obj} {K : PySem.W.Frag}
theorem cls_get {R : Result → Shared → Prop} (X : K.In h) (Z : ExcQ K C) (hx : h.get? a = some o) (hc : o.cls = .ref C) (hq : R (.ok (.ret (.ref C))) ⟨h, g, d, t, os⟩) :
    codeAny (model prog w) A (.call (.builtin "getset_descriptor.__get__") ⟨[.builtin "object.__class__", .ref a, .ref C], []⟩) R ⟨h, g, d, t, os⟩ := by
  have hT5 : (⟨h, g, d, t, os⟩ : Shared).TypeIs (.builtin "object.__class__") "getset_descriptor" := F.typeOf_object_class
  have sub : ∀ {A' : Around} {Q' : Bool → Shared → Prop} {E' : Value → Shared → Prop} {g' d' t' os'}, Q' true ⟨h, g', d', t', os'⟩ → wpAny (model prog w) A' (isSubtype (.ref C) (.type (".".intercalate ("object.__class__".cutAt '.').dropLast))) Q' E' ⟨h, g', d', t', os'⟩ := fun q => by
    rw [F.owner_object_class]; exact (PySem.W.looks_mroIn X Z.ob).here q
  refine codeAny_call_builtin F.slot_gs_get.plain F.entry_gs_get (F.slot_gs_get.check _ _ _ _ _ _ _ _ hT5 (F.args_gs_get _ _ _) ?_)
  repeat (any_goals (first | assumption | (with_reducible refine wpAny_loadPart_at hx ?_; rw [hc]) | with_reducible refine sub ?_ | wp_step))
  refine ⟨Code.quiet_builtin _ (by decide +kernel), codeAny_builtin F.entry_object_class ?_⟩
  repeat (any_goals (first | assumption | (with_reducible refine wpAny_loadPart_at hx ?_; rw [hc]) | wp_step))
theorem cls_entry {tk : Tok} {Q : Fin → Shared → Prop} (X : K.In h) (Z : ExcQ K C) (hx : h.get? a = some o) (hc : o.cls = .ref C) (hq : Q (.done (.ret (.ref C))) ⟨h, g, d, t, os⟩) :
    wpAny (model prog w) A (Builtin.«object.__getattribute__» ⟨[.ref a, .str "__class__" tk], []⟩) Q E ⟨h, g, d, t, os⟩ := by
  have hT5 : (⟨h, g, d, t, os⟩ : Shared).TypeIs (.builtin "object.__class__") "getset_descriptor" := F.typeOf_object_class
  have f5 := F.typeOf_object_class; have f6 := F.slot_gs_get.lookup; have f7 := F.slot_gs_set.lookup
  have lk : ∀ {A' : Around} {Q' : Option Value → Shared → Prop} {E' : Value → Shared → Prop} {g' d' t' os'}, Q' (some (.builtin "object.__class__")) ⟨h, g', d', t', os'⟩ → wpAny (model prog w) A' (typeLookup (.ref C) "__class__") Q' E' ⟨h, g', d', t', os'⟩ := fun q => (PySem.W.looks_findIn X Z.cl).here q
  repeat (any_goals (first | assumption | (with_reducible refine wpAny_loadPart_at hx ?_; rw [hc]) | with_reducible refine lk ?_ | wp_step))
  refine cls_get X Z hx hc ?_
  repeat (any_goals (first | assumption | wp_step))
theorem cls_check {nv : Value} {Q : Unit → Shared → Prop} (X : K.In h) (Z : ExcQ K C) (hx : h.get? a = some o) (hc : o.cls = .ref C) (hq : Q () ⟨h, g, d, t, os⟩) : wpAny (model prog w) A (checkBuiltinCall "BaseException.__getattribute__" ⟨[.ref a, nv], []⟩) Q E ⟨h, g, d, t, os⟩ := by
  have hk : builtinKind "BaseException.__getattribute__" = some .slot := by decide +kernel
  have hsp : splitId "BaseException.__getattribute__" = some ("BaseException", "__getattribute__") := by decide +kernel
  have ha := F.args_bexc_ga (.ref a) nv
  have sub : ∀ {A' : Around} {Q' : Bool → Shared → Prop} {E' : Value → Shared → Prop} {g' d' t' os'}, Q' true ⟨h, g', d', t', os'⟩ → wpAny (model prog w) A' (isSubtype (.ref C) (.type "BaseException")) Q' E' ⟨h, g', d', t', os'⟩ := fun q => (PySem.W.looks_mroIn X Z.be).here q
  simp only [checkBuiltinCall, hk, hsp]
  refine wpAny_bind ?_
  unfold isInstance
  repeat (first | (with_reducible refine wpAny_loadPart_at hx ?_; rw [hc]) | with_reducible refine sub ?_ | wp_step)
  exact hq
theorem cls_call {tk : Tok} {R : Result → Shared → Prop} (X : K.In h) (Z : ExcQ K C) (hx : h.get? a = some o) (hc : o.cls = .ref C) (hq : R (.ok (.ret (.ref C))) ⟨h, g, d, t, os⟩) :
    codeAny (model prog w) A (.call (.builtin "BaseException.__getattribute__") ⟨[.ref a, .str "__class__" tk], []⟩) R ⟨h, g, d, t, os⟩ :=
  codeAny_call_builtin F.attr_ValueError.ga.plain F.entry_bexc_ga (cls_check X Z hx hc (cls_entry X Z hx hc hq))
theorem cls_by {tk : Tok} {Q : Value → Shared → Prop} (X : K.In h) (Z : ExcQ K C) (hx : h.get? a = some o) (hc : o.cls = .ref C) (hq : Q (.ref C) ⟨h, g, d, t, os⟩) : wpAny (model prog w) A (getAttrBy (.ref a) (.str "__class__" tk) false) Q E ⟨h, g, d, t, os⟩ := by
  have f3 := F.attr_ValueError.ga.bind (.ref a)
  have hx2 : (Value.builtin "BaseException.__getattribute__" == Value.builtin "object.__getattribute__") = false := by decide +kernel
  have hx1 : (onTheHeap (Value.ref C) && Value.builtin "BaseException.__getattribute__" == Value.builtin "object.__getattribute__") = false := by rw [hx2]; rfl
  have lk : ∀ {A' : Around} {Q' : Option Value → Shared → Prop} {E' : Value → Shared → Prop} {g' d' t' os'}, Q' (some (.builtin "BaseException.__getattribute__")) ⟨h, g', d', t', os'⟩ → wpAny (model prog w) A' (typeLookup (.ref C) "__getattribute__") Q' E' ⟨h, g', d', t', os'⟩ := fun q => (PySem.W.looks_findIn X Z.ga).here q
  have lx : ∀ {A' : Around} {Q' : Option Value → Shared → Prop} {E' : Value → Shared → Prop} {g' d' t' os'}, Q' none ⟨h, g', d', t', os'⟩ → wpAny (model prog w) A' (typeLookup (.ref C) "__getattr__") Q' E' ⟨h, g', d', t', os'⟩ := fun q => (PySem.W.looks_findIn X Z.gx).here q
  repeat (any_goals (first | assumption | (with_reducible refine wpAny_loadPart_at hx ?_; rw [hc]) | with_reducible refine lk ?_ | with_reducible refine lx ?_ | wp_step))
  refine cls_call X Z hx hc ?_
  repeat (any_goals (first | assumption | wp_step))
theorem cls_attr {Q : Option Value → Shared → Prop} (X : K.In h) (Z : ExcQ K C) (hx : h.get? a = some o) (hc : o.cls = .ref C) (hq : Q (some (.ref C)) ⟨h, g, d, t + 1, os⟩) : wpAny (model prog w) A (getAttr? (.ref a) "__class__") Q E ⟨h, g, d, t, os⟩ := by
  unfold getAttr? getAttrBy?
  repeat (any_goals (first | assumption | with_reducible apply cls_by X Z hx hc | wp_step))
theorem kitx_exc (Z : ExcQ K C) : PySem.W.KitX K (.ref a) (.ref C) (fun h => ∃ o, h.get? a = some o ∧ o.cls = .ref C) where
  ty := fun M h X ⟨o, e, c⟩ => by
    intro A' Q' E' s' k q
    unfold typeOf
    refine wpAny_bind (wpAny_loadPart (k _ _ e) ?_)
    rw [c]
    exact wpAny_pure q
  it := fun M h X _ => by
    have z := Z.ci
    unfold PySem.W.clsIn at z
    split at z
    · rename_i ho
      intro A' Q' E' s' k q
      unfold isType loadHead
      exact wpAny_bind (wpAny_loadPart (k _ _ (X _ _ ho)) (wpAny_pure q))
    · cases z
  ne := fun h tp dd its n sl X htp => by
    refine Bool.eq_false_iff.mpr fun q => ?_
    obtain rfl : C = tp := Value.ref.inj (beq_iff_eq.mp q)
    have z := Z.ci
    unfold PySem.W.clsIn at z
    split at z
    · rename_i ho; have z' := (X _ _ ho).symm.trans htp; cases z'
    · cases z
  ca := fun {_ _ _ _ _ s} X ⟨o, e, c⟩ k => by obtain ⟨h, g, d, t, os⟩ := s; exact cls_attr X Z e c k
end
open PySem PySem.Spec PyProof.Rows
theorem code_hd {K : PySem.W.Frag} {h : Heap} {c P : Addr} {o : Obj} {q : Str} (X : K.In h) (l : K.lookup c = some o) (e : lamCode o = some (P, q)) (ne : c ≠ P) : PySem.W.CodeHd h c P := by
  have ho := X _ _ l
  unfold lamCode at e
  split at e
  · rename_i cn vs hcls hd
    split at e
    · rename_i hcn
      subst hcn
      split at e
      · rename_i q' t' f1 f2 f3 f4 f5 f6 P' f7 f8 e1 e7 e9 e10 e11 e18
        split at e
        · cases e
          refine ⟨o, vs, f7, f8, f2, f3, f4, f5, f6, ho, hcls, hd, e11, ?_, ?_, ?_, ?_, ?_, ne⟩
          · rw [Array.getD_eq_getD_getElem?, e11]; rfl
          · rw [Array.getD_eq_getD_getElem?, e18]; rfl
          · rw [Array.getD_eq_getD_getElem?, e7]; rfl
          · rw [Array.getD_eq_getD_getElem?, e9]; rfl
          · rw [Array.getD_eq_getD_getElem?, e10]; rfl
        · cases e
      · cases e
    · cases e
  · cases e
def BltK (K : PySem.W.Frag) (mg : Str → Option Value) : Prop := ∃ bm ob, mg "__builtins__" = some (.ref bm) ∧ bm ≠ builtinsNs ∧ K.lookup bm = some ob ∧ ob.cls = .type "module" ∧ ob.dict = some builtinsNs ∧ ob.data = .plain
theorem among_app {pos : Pos} {w : Value} {l3 : List Value} : ∀ {l : List Value}, TriplesOk l → codeAmong pos l = some w → codeAmong pos (l ++ l3) = some w := by
  intro l
  fun_induction TriplesOk l with
  | case1 => intro _ e; simp [codeAmong] at e
  | case2 a t b u x rest ih =>
    intro h e
    simp only [List.cons_append, codeAmong] at e ⊢
    split at e
    · rename_i hc; rw [if_pos hc]; exact e
    · rename_i hc; rw [if_neg hc]; exact ih h e
  | case3 l h1 h2 => intro h; exact h.elim
theorem among_new {pos lpos : Pos} {cv : Value} {c : Value} : ∀ {l : List Value}, TriplesOk l → codeAmong pos l = none → codeAmong pos (l ++ [rawInt lpos.line, rawInt lpos.col, c]) = some cv → cv = c := by
  intro l
  fun_induction TriplesOk l with
  | case1 =>
    intro _ _ e
    simp only [List.nil_append, codeAmong, rawInt] at e
    split at e
    · exact (Option.some.inj e).symm
    · cases e
  | case2 a t b u x rest ih =>
    intro h n e
    simp only [List.cons_append, codeAmong] at n e
    split at n
    · cases n
    · rename_i hc; rw [if_neg hc] at e; exact ih h n e
  | case3 l h1 h2 => intro h; exact h.elim
section
variable {X : Cx} {pins : List (Addr × Obj)} {σ : St} {H : Hp} {s : Shared}
theorem inv_table {P c' : Addr} {ps : Array Value} {l3 : List Value} {h' : Heap} {tk : Nat} {φ : Heap → Prop} (I : Inv X pins σ H s) (hP : H P = some (.tbl ps)) (hx : Heap.ExtBut P s.heap h') (ht : h'.get? P = some (PySem.W.tabObj (ps ++ l3.toArray))) (hc : s.heap.objs.size ≤ c') (hφ : φ h') (hc' : ∃ o, h'.get? c' = some o) (hst : ∀ h1 h2 : Heap, φ h1 → (∀ o, h1.get? c' = some o → h2.get? c' = some o) → φ h2) :
    Inv X pins σ (upd (upd H P (.tbl (ps ++ l3.toArray))) c' (.ext φ)) { s with heap := h', toks := tk } := by
  have fc : H c' = none := I.hok.fresh hc
  have nPc : P ≠ c' := ne_of_none hP fc
  have low : ∀ b o, s.heap.get? b = some o → b ≠ c' := fun b o e z => absurd (Heap.lt_size e) (by rw [z]; exact Nat.not_lt.mpr hc)
  have old : ∀ b, b ≠ P → b ≠ c' → upd (upd H P (.tbl (ps ++ l3.toArray))) c' (.ext φ) b = H b := fun b h1 h2 => by rw [upd_ne h2, upd_ne h1]
  have atP : upd (upd H P (.tbl (ps ++ l3.toArray))) c' (.ext φ) P = some (.tbl (ps ++ l3.toArray)) := by rw [upd_ne nPc]; exact upd_same
  refine I.un (t' := tk) ⟨fun b o e n _ _ => hx b o (fun z => by rw [z, hP] at n; cases n) e, fun b o e n _ _ => ⟨o.slots, hx b o (fun z => by rw [z, hP] at n; cases n) e⟩, fun b o e n _ => ?_, fun b o e _ => ?_, fun b xs e => ?_, fun b o u e => ?_, fun b qs e => ?_⟩ fun b o e => ?_
  · rw [old b (fun z => by rw [z, hP] at n; cases n) (low b o e)]; exact n
  · by_cases z : b = P
    · exact ⟨_, by rw [z]; exact ht⟩
    · exact ⟨o, hx b o z e⟩
  · rw [old b (fun z => by rw [z, hP] at e; cases e) (ne_of_none e fc)]; exact e
  · rw [old b (fun z => by rw [z, hP] at e; cases e) (ne_of_none e fc)]; exact e
  · by_cases z : b = P
    · rw [z] at e; rw [hP] at e; cases e
      exact ⟨l3.toArray, by rw [z]; exact atP⟩
    · exact ⟨#[], by rw [old b z (ne_of_none e fc)]; simpa using e⟩
  · by_cases zc : b = c'
    · subst zc
      rw [upd_same] at e; cases e
      exact ⟨hφ, hc', hst⟩
    · by_cases z : b = P
      · subst z
        rw [atP] at e; cases e
        exact ht
      · rw [old b z zc] at e
        refine (I.hok b o e).stay (fun d u hd q => hx d u ?_ q) (fun d q => ?_) fun d xs q => ?_
        · rcases hd with rfl | hd
          · exact z
          · exact fun y => by rw [y, hP] at hd; cases hd
        · rw [old d (fun y => by rw [y, hP] at q; cases q) (ne_of_none q fc)]; exact q
        · rw [old d (fun y => by rw [y, hP] at q; cases q) (ne_of_none q fc)]; exact q
theorem tab_step {K : PySem.W.Frag} {P c' : Addr} {ps : Array Value} {q : Str} {lpos : Pos} (t : Tabs K H) (hP : H P = some (.tbl ps)) (htr : TriplesOk ps.toList) (hcs : ∀ pos cv, codeAmong pos ps.toList = some cv → ∃ c, cv = .ref c ∧ H c = some (.ext (codeAt c (lamQual q)))) (hf : codeAmong lpos ps.toList = none) (fc : H c' = none)
    (hu : ∀ c2 o2 q2, K.lookup c2 = some o2 → lamCode o2 = some (P, q2) → q2 = q) :
    Tabs K (upd (upd H P (.tbl (ps ++ [rawInt lpos.line, rawInt lpos.col, .ref c'].toArray))) c' (.ext (codeAt c' (lamQual q)))) := fun c2 o2 P2 q2 l2 e2 => by
  have nPc : P ≠ c' := ne_of_none hP fc
  have old : ∀ b, b ≠ P → b ≠ c' → upd (upd H P (.tbl (ps ++ [rawInt lpos.line, rawInt lpos.col, .ref c'].toArray))) c' (.ext (codeAt c' (lamQual q))) b = H b := fun b h1 h2 => by rw [upd_ne h2, upd_ne h1]
  have cold : ∀ c qq, H c = some (.ext (codeAt c qq)) → upd (upd H P (.tbl (ps ++ [rawInt lpos.line, rawInt lpos.col, .ref c'].toArray))) c' (.ext (codeAt c' (lamQual q))) c = some (.ext (codeAt c qq)) := fun c qq h => by rw [old c (fun z => by rw [z, hP] at h; cases h) (ne_of_none h fc)]; exact h
  by_cases z : P2 = P
  · subst z
    obtain rfl := hu c2 o2 q2 l2 e2
    refine ⟨_, by rw [upd_ne nPc]; exact upd_same, by rw [Array.toList_append]; exact TriplesOk_snoc _ _ _ _ htr, fun pos cv e => ?_⟩
    rw [Array.toList_append] at e
    cases hp : codeAmong pos ps.toList with
    | some w =>
      obtain ⟨c, hw, hc⟩ := hcs pos w hp
      have : codeAmong pos (ps.toList ++ [rawInt lpos.line, rawInt lpos.col, .ref c']) = some w := among_app htr hp
      have e' : some w = some cv := this.symm.trans e
      cases e'
      exact ⟨c, hw, cold c _ hc⟩
    | none =>
      have := among_new htr hp (show codeAmong pos (ps.toList ++ [rawInt lpos.line, rawInt lpos.col, .ref c']) = some cv from e)
      exact ⟨c', this, upd_same⟩
  · obtain ⟨qs, a1, a2, a3⟩ := t c2 o2 P2 q2 l2 e2
    exact ⟨qs, by rw [old P2 z (ne_of_none a1 fc)]; exact a1, a2, fun pos cv e => let ⟨c, w1, w2⟩ := a3 pos cv e; ⟨c, w1, cold c _ w2⟩⟩
end
open PySem PySem.Spec PyProof.Rows
def lamEnv (lsc : Scope) (cl : List (Str × Addr)) (q : Str) (fa c1 L : Addr) : Env := { scope := lsc, locals := L, globals := mainGlobals, cells := cl, qual := q ++ ".<locals>.", func := some fa, code := .ref c1, frame := some L, builtins := builtinsNs }
def cxLam (P : Program) (w : World) (K : PySem.W.Frag) (mg : Str → Option Value) (base : Heap) (N : List Str) (lsc : Scope) (cl : List (Str × Addr)) (q : Str) (fa c1 : Addr) (A : Around) (outer : List Env) (s : Shared) (H : Hp) (E : XK) : Cx where
  prog := P
  w := w
  K := K
  mg := mg
  base := base
  A := A.deeper (lamEnv lsc cl q fa c1 s.heap.objs.size)
  N := N
  s₀ := s
  H₀ := H
  env := lamEnv lsc cl q fa c1 s.heap.objs.size
  outer := outer
  stack := lamEnv lsc cl q fa c1 s.heap.objs.size :: outer
  ex := []
  calm := true
  fn := fun _ => false
  pn := []
  xe := fun e s' => wpAny (model P w) (A.deeper (lamEnv lsc cl q fa c1 s.heap.objs.size)) (leaving (lamEnv lsc cl q fa c1 s.heap.objs.size) e) (fun _ s'' => CX1 P w outer H s E e s'') (fun e' s'' => CX1 P w outer H s E e' s'') s'
section
variable {P : Program} {w : World} {K : PySem.W.Frag} {mg : Str → Option Value} {base : Heap} {N : List Str} {lsc : Scope} {cl : List (Str × Addr)} {q : Str} {fa c1 : Addr} {A : Around} {outer : List Env} {s : Shared} {H : Hp} {E : XK} {σ : St} {k : Nat} {params : Arguments} {body : Expr} {pm ctv : Value} {t : TE}
theorem xok_lam : XOk (cxLam P w K mg base N lsc cl q fa c1 A outer s H E) E where
  new := fun pins σ H1 s1 ea cls vs h1 I hx qq => leave_new (X := cxLam P w K mg base N lsc cl q fa c1 A outer s H E) ⟨rfl, rfl, rfl⟩ I hx qq
  pas := fun pins σ H1 s1 e s' I h => pass_next (X := cxLam P w K mg base N lsc cl q fa c1 A outer s H E) ⟨rfl, rfl, rfl⟩ I h
structure Clo (lsc : Scope) (cl : List (Str × Addr)) (N : List Str) (σ : St) (h : Heap) (H : Hp) : Prop where
  cell : ∀ x c, cl.lookup x = some c → ∃ v, h.IsCell c v
  free : ∀ x c, cl.lookup x = some c → H c = none
  inj : ∀ x y c, cl.lookup x = some c → cl.lookup y = some c → x = y
  has : ∀ x, lsc.names.lookup x = some .cell ∨ lsc.names.lookup x = some .free → ∃ a, cl.lookup x = some a
  vals : ∀ (i : Nat) (x : Str) (v : V), N[i]? = some x → σ[i]? = some (some v) → Vis lsc x → ∃ u c, RelV v u ∧ lsc.names.lookup x = some .free ∧ cl.lookup x = some c ∧ h.IsCell c (some u)
  len : σ.length = N.length
theorem lam_call {Q : VK} (hk : lsc.kind = .function) (hco : lsc.isCoroutine = false) (hgen : lsc.isGenerator = false) (hcell : ∀ y ∈ lsc.names, y.2 ≠ .cell) (hr : Room (k + 1) A) (e0 : Env0 P w K mg base A outer s H)
    (ho : s.heap.get? fa = some { cls := .type "function", data := .func (PySem.W.kla_fn "<lambda>" q params body lsc cl pm (.ref c1) ctv) }) (hcd : H c1 = some (.ext (codeAt c1 q))) (hbind : bindArgs (PySem.W.kla_fn "<lambda>" q params body lsc cl pm (.ref c1) ctv) ⟨[], []⟩ = pure [])
    (C : Clo lsc cl N σ s.heap H) (pe : PE (cxLam P w K mg base N lsc cl q fa c1 A outer s H E) body t) (ht : t σ H Q) :
    codeAny (model P w) A (.call (.ref fa) ⟨[], []⟩) (CR (CX1 P w) outer P w H s Q E) s := by
  have crec : s.heap.CodeRec (.ref c1) q := by
    obtain ⟨⟨o, vs, t, g, d, v⟩, _, _⟩ := e0.hok c1 _ hcd
    exact ⟨c1, o, vs, t, rfl, g, d, v⟩
  refine PySem.W.kla_callFunE hr.depth ho rfl hco hgen rfl crec ?_
  rw [hbind]
  refine wpAny_pure (wpAny_newFunctionEnv hcell (fun y hy => nomatch hy) (fun h₁ hns hsb => ?_) hk)
  have hk₁ : ∀ b o, s.heap.get? b = some o → h₁.get? b = some o := fun b o e => hsb.extBut b o (Nat.ne_of_lt (Heap.lt_size e)) (Heap.get?_push_of_some _ e)
  have lim : h₁.NoLimit := e0.mod.nolimit.keeps fun b o e => hk₁ b o (e0.bs b o e).1
  refine ⟨lim, ?_⟩
  have noA : ∀ b : Addr, b ∉ (cxLam P w K mg base N lsc cl q fa c1 A outer s H E).ex := fun b z => nomatch z
  have I : Inv (cxLam P w K mg base N lsc cl q fa c1 A outer s H E) [] σ H { s with heap := h₁, toks := s.toks + ([] : List (Str × Value)).length } := by
    refine ⟨⟨e0.mod, hk, rfl, rfl, Nat.le_refl _, C.inj, C.has, fun _ _ z => (nomatch z), fun _ => hr.hd, .inl hr.hd, Around.frames_deeper e0.frames, .inr ⟨rfl, rfl⟩, fun b z => absurd z (noA b), e0.bs, e0.bsz, fun b _ _ => noA b, fun b z => absurd z (noA b), e0.funs, e0.frf⟩,
      rfl, e0.bare, Un.kept hk₁, ⟨_, hns, fun i x v h1 h2 h3 => ?_⟩, fun x c h => ?_, e0.hok.fresh (Nat.le_refl _), C.free, fun p hp => (nomatch hp), e0.hok.kept hk₁, C.len⟩
    · obtain ⟨u, c, r, f1, f2, o, f3, f4⟩ := C.vals i x v h1 h2 h3
      exact ⟨u, r, .inr ⟨.inr f1, c, f2, o, hk₁ _ _ f3, f4⟩⟩
    · obtain ⟨v, o, f3, f4⟩ := C.cell x c h
      exact ⟨v, o, hk₁ _ _ f3, f4⟩
  show codeAny _ _ (.expr body (lamEnv lsc cl q fa c1 s.heap.objs.size)) _ _
  refine PySem.W.kla_codeExpr (wpAny_mono (pe [] _ σ H Q I ht) (fun v s' hv => ?_) fun e s' hs => hs)
  obtain ⟨x, H', J, r, qq⟩ := hv
  exact ⟨x, H', J.os, J.bare, J.base, J.hok, r, qq⟩
end
open PySem PySem.Spec PyProof.Rows
def cxH (X : Cx) (ea : Addr) (oe : Obj) : Cx := { X with A := X.A.mark (some (.ref ea)), calm := false, pn := (ea, oe) :: X.pn, xe := fun _ _ => False }
section
variable {X : Cx} {pins : List (Addr × Obj)} {σ : St} {H : Hp} {s : Shared} {O : Addr → Prop} {ea : Addr} {oe : Obj} {vs : Array Value}
theorem inv_fly {h' : Heap} (hF : Frm X) (I : Inv X pins σ H s) (k : Kp O (frs (X.env :: X.outer)) s.heap h') (hO : ∀ b o, X.s₀.heap.get? b = some o → O b) (ht : ∀ b, H b ≠ none → O b) (hp : ∀ p ∈ X.pn ++ pins, O p.1) : Inv X pins σ H { s with heap := h' } := by
  have cellK : ∀ c v, s.heap.IsCell c v → h'.IsCell c v := fun c v ⟨o, e, d⟩ => by
    obtain ⟨sl, e'⟩ := k.slot c o e fun vs z => by rw [d] at z; cases z
    exact ⟨_, e', d⟩
  refine ⟨I.ok, I.os, I.bare, ?_, ?_, fun x c e => let ⟨v, q⟩ := I.cell x c e; ⟨v, cellK c v q⟩, I.free, I.freeC, fun p hp' => ?_, HOk.fly I.hok k ht (frm_free hF I), I.len⟩
  · have k' := k
    rw [frm_frs hF] at k'
    have u := I.base
    rw [hF.ex] at u ⊢
    exact Un.fly u k' hO (frm_loc I) (frm_dat I)
  · obtain ⟨m, ⟨o, es, ep, e, d, r⟩, hl⟩ := I.loc
    obtain ⟨sl, e'⟩ := k.slot _ o e fun vs z => by rw [d] at z; cases z
    refine ⟨m, ⟨_, es, ep, e', d, r⟩, fun i x v h1 h2 h3 => ?_⟩
    obtain ⟨u, ru, lk⟩ := hl i x v h1 h2 h3
    refine ⟨u, ru, ?_⟩
    rcases lk with z | ⟨z, c, z1, z2⟩
    · exact .inl z
    · exact .inr ⟨z, c, z1, cellK _ _ z2⟩
  · obtain ⟨a1, a2, a3, a4, a5⟩ := I.pin p hp'
    exact ⟨k.keep _ _ a1 (hp p hp') fun z => by
      rw [frm_frs hF] at z
      rcases List.mem_cons.mp z with z | z
      · exact a3 z
      · exact a4 z, a2, a3, a4, a5⟩
theorem inv_H (I : Inv X pins σ H s) (he : s.heap.get? ea = some oe) (hH : H ea = none) (hL : ea ≠ X.env.locals) (hfs : ea ∉ X.fs) (hd : oe.data = .fields vs) (h2 : vs[2]? = some .none) : Inv (cxH X ea oe) pins σ H s :=
  ⟨⟨I.ok.mod, I.ok.kind, I.ok.glob, I.ok.blt, I.ok.above, I.ok.inj, I.ok.has, I.ok.cab, fun z => (nomatch z), .inr ⟨ea, oe, vs, rfl, List.mem_cons_self, hd, h2⟩, I.ok.frames, I.ok.stk, I.ok.exf, I.ok.bs, I.ok.bsz, I.ok.noex, I.ok.exfs, I.ok.funs, I.ok.frf⟩,
    I.os, I.bare, I.base, I.loc, I.cell, I.free, I.freeC, fun p hp => by
      rcases List.mem_cons.mp (show p ∈ (ea, oe) :: (X.pn ++ pins) from hp) with z | z
      · rw [z]; exact ⟨he, hH, hL, hfs, fun v y => by rw [hd] at y; cases y⟩
      · exact I.pin p z, I.hok, I.len⟩
theorem inv_gone {h' : Heap} {m' : Str → Option Value} {tk : Nat} (ok : X.Ok) (I : Inv (cxH X ea oe) pins σ H s) (hn : h'.Ns X.env.locals m') (hs : Heap.SameBut X.env.locals s.heap h') (hx : X.ex = []) : Inv X pins (List.replicate X.N.length none) H { s with heap := h', toks := tk } := by
  have kp : ∀ b o, b ≠ X.env.locals → s.heap.get? b = some o → h'.get? b = some o := fun b o hb e => (hs.2 b hb).trans e
  have low : ∀ b o, X.s₀.heap.get? b = some o → b ≠ X.env.locals := fun b o e => Nat.ne_of_lt (Nat.lt_of_lt_of_le (Heap.lt_size e) ok.above)
  have cne : ∀ x c, X.env.cells.lookup x = some c → c ≠ X.env.locals := I.cne
  have u : Un X.fs X.ex X.H₀ H X.s₀.heap s.heap := I.base
  have hneL : ∀ b ∈ X.fs, b ≠ X.env.locals := fun b hb z => by
    obtain ⟨_, o, e, _⟩ := ok.funs.mem hb
    exact low b o e z
  refine ⟨ok, I.os, I.bare, ⟨fun b o e n f x => kp b o (low b o e) (u.keep b o e n f x), fun b o e n f x => ?_, u.free, fun b o e x => ?_, u.tups, u.frzs, u.tbls⟩, ⟨m', hn, fun i x v h1 h2 h3 => ?_⟩, fun x c e => ?_, I.free, I.freeC, fun p hp => ?_, fun b o e => ?_, by simp⟩
  · obtain ⟨sl, e1⟩ := u.slot b o e n f x
    exact ⟨sl, kp b _ (low b o e) e1⟩
  · obtain ⟨o1, e1⟩ := u.there b o e x
    exact ⟨o1, kp b o1 (low b o e) e1⟩
  · rw [List.getElem?_replicate] at h2
    split at h2 <;> cases h2
  · obtain ⟨v, o, e1, d⟩ := I.cell x c e
    exact ⟨v, o, kp c o (cne x c e) e1, d⟩
  · obtain ⟨a1, a2, a3, a4, a5⟩ := I.pin p (List.mem_cons_of_mem _ hp)
    exact ⟨kp _ _ a3 a1, a2, a3, a4, a5⟩
  · refine (I.hok b o e).stay (fun d v hd q => kp d v ?_ q) (fun _ q => q) fun _ _ q => q
    have fr : H X.env.locals = none := I.free
    rintro rfl
    rcases hd with z | z
    · rw [← z, fr] at e; cases e
    · rw [fr] at z; cases z
def tTry (X : Cx) (di ni : Nat) (C : Value) (tS : Addr → Obj → TS) : TS := fun D σ H => ∃ (fa : Addr) (Good : Hp → Prop), σ[di]? = some (some (.ref fa)) ∧
  (∀ s1, Inv X [] σ H s1 → PySem.W.FnAt fa s1.heap ∧ codeAny (model X.prog X.w) X.A (.call (.ref fa) ⟨[], []⟩) (CR (CX1 X.prog X.w) X.stack X.prog X.w H s1 (fun _ _ => False) (fun cls _ H' => cls = C ∧ Good H')) s1) ∧
  ∀ H' ea oe, Good H' → oe.cls = C → H' ea = none → tS ea oe { nx := fun _ _ => False, rt := D.rt } (σ.set ni (some (.ref ea))) H'
theorem ps_try {dn x n : Str} {dp cp ep np hp pos : Pos} {di ni : Nat} {b₀ : Stmt} {suite : List Stmt} {C FE : Addr} {tS : Addr → Obj → TS} (hF : Frm X) (hpn : X.pn = []) (hNd : X.N.Nodup) (hd : X.N[di]? = some dn) (hv : Vis X.env.scope dn) (hn : X.N[ni]? = some n) (hl : X.env.kindOf n = some .local) (hg : Gl X x) (hm : X.mg x = some (.ref FE))
    (hex : PySem.W.exmOne X.K (.ref C) (.ref FE) = some true) (hs : ∀ ea oe, PSs (cxH X ea oe) (b₀ :: suite) (tS ea oe)) (hdb : (dn == ("__debug__" : Str)) = false := by decide) (hdc : (dn == ("__classdict__" : Str)) = false := by decide) (hxb : (x == ("__debug__" : Str)) = false := by decide)
    (hsw : swapsWith (.Call (.Name dn dp) [] [] cp) none ep.line X.env = pure false := by rfl) (pins0 : List (Addr × Obj)) (s : Shared) (σ : St) (H : Hp) (D : Ends) (hp0 : pins0 = []) (I0 : Inv X pins0 σ H s) (h : tTry X di ni (.ref C) tS D σ H) :
    wpAny (model X.prog X.w) X.A (exec (.Try [.Expr (.Call (.Name dn dp) [] [] cp) ep] [.ExceptHandler (some (.Name x np)) (some n) (b₀ :: suite) hp] [] [] pos) X.env) (SP X pins0 D) X.xe s := by
  subst hp0
  obtain ⟨fa, Good, hσ, deed, good⟩ := h
  refine wpAny_Try_except (wpAny_execs_cons (wpAny_Expr_any (wpAny_Call_Name_kw (wpAny_mono (pe_var (X := X.nox) hd hv hdb hdc [] s σ H (fun v H1 => v = .ref fa ∧ H1 = H) (I0.wish _) ⟨.ref fa, hσ, rfl, rfl⟩) (fun v s1 hv1 => ?_) fun _ _ z => z.elim)) I0.quiet hsw))
  obtain ⟨y, H1, I1, r, e1, e2⟩ := hv1
  subst e1 e2
  cases r
  have I1 := I1.unwish
  obtain ⟨fn, code⟩ := deed s1 I1
  refine PySem.W.callWith_F0 fn (wpAny_call (codeAny_mono code fun r s' hr => ?_))
  cases r with
  | ok fl =>
    cases fl with
    | ret u => obtain ⟨_, _, _, _, _, _, _, z⟩ := hr; exact z.elim
    | next => exact hr.elim
    | brk => exact hr.elim
    | cont => exact hr.elim
  | error e =>
    obtain ⟨O, ea, cls, H', rfl, os, bare, un, hok, hO, ht, F, rfl, gd⟩ := hr
    have I' : Inv X [] σ H' s' := I1.call' (ch := []) os un hok bare (fun b z => nomatch z)
    have fr : X.A.frames = some (X.env :: X.outer) := by rw [← hF.stk]; exact I0.ok.frames
    have hO0 : ∀ b o, X.s₀.heap.get? b = some o → O b := fun b o e => by
      obtain ⟨o', e'⟩ := I1.base.there b o e (by rw [hF.ex]; exact fun z => nomatch z)
      exact hO b o' e'
    have hpp : ∀ p ∈ X.pn ++ ([] : List (Addr × Obj)), O p.1 := fun p hp => by rw [hpn] at hp; exact nomatch hp
    have hLO : O X.env.locals := by
      obtain ⟨m, ⟨o, es, ep, e, _⟩, _⟩ := I1.loc
      exact hO _ o e
    refine note_next (s := s') fr (frm_stack hF I') hF.fr F fun h2 k2 F2 => ?_
    have I2 := inv_fly hF I' k2 hO0 ht hpp
    refine flight_none (s := { s' with heap := h2 }) (fs := frs (X.env :: X.outer)) F2 fun h3 k3 F3 => ?_
    have I3 := inv_fly hF I2 k3 hO0 ht hpp
    have keyE : ∀ {h : Heap} {fl : Value}, Fly O h ea (.ref C) fl → ∀ {s4 : Shared}, s4.heap = h → Inv X [] σ H' s4 → ∃ oe, oe.cls = .ref C ∧ s4.heap.get? ea = some oe ∧ H' ea = none ∧ Inv (cxH X ea oe) [] σ H' s4 := fun {h fl} G {s4} e4 I4 => by
      obtain ⟨_, oe, vs, T, oT, ts, g1, g2, g3, g4, g5, g6, _⟩ := G
      have hH : H' ea = none := by
        cases z : H' ea with
        | none => rfl
        | some o => exact absurd (ht ea (by rw [z]; exact fun y => nomatch y)) g6
      refine ⟨oe, g2, by rw [e4]; exact g1, hH, inv_H I4 (by rw [e4]; exact g1) hH (fun z => g6 (by rw [z]; exact hLO)) (fun z => ?_) g3 g5⟩
      exact frm_dat I4 ea z oe (by rw [e4]; exact g1) vs g3
    obtain ⟨oe3, c3, g3, n3, H3⟩ := keyE F3 rfl I3
    refine wpAny_handleBy_cons (codeAny_handlers_test (ld_glob (X := cxH X ea oe3) H3 hg hm ?_ hxb)) (by intro z; cases z)
    refine (PySem.W.exm_one (M := model X.prog X.w) (K := X.K) (h := h3) I3.kIn (fun A' Q' E' s4 kk q => ?_) hex).here ?_
    · have e3 := kk _ _ g3
      unfold typeOf
      refine wpAny_bind (wpAny_loadPart e3 ?_)
      rw [c3]
      exact wpAny_pure q
    · refine codeAny_handlers_suite_as (flight_none (s := { s' with heap := h3 }) (fs := frs (X.env :: X.outer)) F3 fun h4 k4 F4 => ?_)
      have I4 := inv_fly hF I3 k4 hO0 ht hpp
      obtain ⟨oe, c4, g4, n4, H4⟩ := keyE F4 rfl I4
      refine store_ok (X := cxH X ea oe) (v := .ref ea) H4 hNd hn (Or.inl hl) rfl (fun s5 I5 => ?_) (Or.inr hl)
      refine wpAny_mono (hs ea oe [] s5 _ H' { nx := fun _ _ => False, rt := D.rt } I5 (good H' ea oe gd c4 n4)) (fun f s6 h6 => ?_) fun e s6 z => z.elim
      cases f with
      | next => obtain ⟨_, _, _, z⟩ := h6; exact z.elim
      | brk => obtain ⟨_, _, _, z⟩ := h6; exact z.elim
      | cont => obtain ⟨_, _, _, z⟩ := h6; exact z.elim
      | ret u =>
        obtain ⟨v, σ', H6, I6, r6, q6⟩ := h6
        obtain ⟨m6, hn6, _⟩ := I6.loc
        refine wpAny_nameGoes (env := X.env) hl hn6 (by rw [I0.ok.kind]; rfl) fun h7 m7 hn7 hs7 => ?_
        exact ⟨v, _, H6, inv_gone I0.ok I6 hn7 hs7 hF.ex, r6, q6⟩
end
open PySem PySem.Spec PyProof.Rows
theorem fn_at {CX : CXT} {P : Program} {w : World} {K : PySem.W.Frag} {mg : Str → Option Value} {base : Heap} {k : Nat} {f : Addr} {name qual : Str} {params : Arguments} {body : List Stmt} {scope : Scope} {dV kV doc pm cdv ct oc : Value} {an od : Option Addr} {osl : Array (Option Value)} {N ps : List Str}
    {A : Around} {outer : List Env} {s : Shared} {H : Hp} {args : Args} {us : List Value} {vs : List V} {Q : VK} {E : XK} (lk : K.lookup f = some ⟨oc, od, .func (PySem.W.fnOf name qual params body scope dV kV doc pm an cdv ct), osl⟩) (hcd : PySem.W.codeIn K cdv qual = true) (S : FnScope N ps scope)
    (hl : vs.length = ps.length) (hr : Room (k + 1) A) (e0 : Env0 P w K mg base A outer s H) (hb : BindsTo s (PySem.W.fnOf name qual params body scope dV kV doc pm an cdv ct) args (ps.zip us)) (r : Vals vs us)
    (hq : ∀ s1, Inv (cxOf CX P w K mg base N qual scope f cdv A outer s H E) [] (start N vs) H s1 → wpAny (model P w) (A.deeper (envOfC qual scope s.heap.objs.size f cdv)) (execs body (envOfC qual scope s.heap.objs.size f cdv)) (SP (cxOf CX P w K mg base N qual scope f cdv A outer s H E) [] { nx := fun _ H' => Q .non H', rt := Q }) (cxOf CX P w K mg base N qual scope f cdv A outer s H E).xe s1) :
    codeAny (model P w) A (.call (.ref f) args) (CR CX outer P w H s Q E) s := by
  have KX : K.In s.heap := e0.mod.kin.keeps fun b o e => (e0.bs b o e).1
  have lim : s.heap.NoLimit := e0.mod.nolimit.keeps fun b o e => (e0.bs b o e).1
  have hkind : ∀ y ∈ ps.zip us, scope.names.lookup y.1 = some .local ∨ (scope.names.lookup y.1 = some .cell ∧ ((cellsFrom (s.heap.objs.size + 1) scope.names []).lookup y.1).isSome = true) := fun ⟨n, v⟩ hy => by
    rcases S.par n (List.of_mem_zip hy).1 with q | q
    · exact .inl q
    · exact .inr ⟨q, PySem.W.cellsFrom_some _ _ _ (.inl q)⟩
  refine codeAny_call_function hr.depth (KX _ _ lk) rfl S.co S.gen rfl (PySem.W.codeRec_of KX hcd) (hb _ _ _ _ ?_)
  refine wpAny_newFunctionEnv_cells S.kind hkind fun env he s1 x => ?_
  subst he
  refine ⟨lim.keeps x.toInCall.keep, codeAny_func ?_⟩
  have I : Inv (cxOf CX P w K mg base N qual scope f cdv A outer s H E) [] (start N vs) H s1 := inv_start S hr.hd e0 hl r x
  refine wpAny_mono (hq s1 I) (fun fl s' hs => ?_) fun e s' hs => hs
  have fin : ∀ {σ' : St} {H' : Hp} {v : V} {u : Value}, Inv (cxOf CX P w K mg base N qual scope f cdv A outer s H E) [] σ' H' s' → RelV v u → Q v H' → CE outer P w H s Q u s' :=
    fun {σ' H' v u} J rv q => ⟨v, H', J.os, J.bare, J.base, J.hok, rv, q⟩
  cases fl with
  | ret u => obtain ⟨v, σ', H', J, rv, q⟩ := hs; exact fin J rv q
  | next => obtain ⟨σ', H', J, q⟩ := hs; exact fin (v := V.non) (u := Value.none) J rfl q
  | brk => obtain ⟨_, _, _, q⟩ := hs; exact False.elim q
  | cont => obtain ⟨_, _, _, q⟩ := hs; exact False.elim q
structure RefOk (P : Program) (w : World) (K : PySem.W.Frag) (mg : Str → Option Value) (base : Heap) (k : Nat) (f : Addr) (fd : FuncData) (dn : Str) (C : Value) (nm : Str) : Prop where
  run : ∀ (A : Around) (outer : List Env) (s : Shared) (H : Hp) (fa : Addr) (Good : Hp → Prop) (Q : VK), Room (k + 1) A → Env0 P w K mg base A outer s H → BindsTo s fd ⟨[.ref fa], []⟩ ([dn].zip [.ref fa]) →
    (∀ (A' : Around) (outer' : List Env) (s' : Shared), Room k A' → Env0 P w K mg base A' outer' s' H → Un (frs outer) [] H H s.heap s'.heap → PySem.W.FnAt fa s'.heap ∧ codeAny (model P w) A' (.call (.ref fa) ⟨[], []⟩) (CR (CX1 P w) outer' P w H s' (fun _ _ => False) (fun cls _ H' => cls = C ∧ Good H')) s') →
    (∀ H', Good H' → ∃ μ, MuOk K μ H' ∧ ∀ H'', Ext K μ H' μ H'' → MuOk K μ H'' → Q (.str nm) H'') →
    codeAny (model P w) A (.call (.ref f) ⟨[.ref fa], []⟩) (CR CX0 outer P w H s Q E0) s
theorem ref_mk {P : Program} {w : World} {K : PySem.W.Frag} {mg : Str → Option Value} {base : Heap} {k : Nat} {f : Addr} {fd : FuncData} {fx qual : Str} {st : Stmt} {dn n y1 y2 x : Str} {dp cp ep np hp pos : Pos} {b₀ : Stmt} {suite rest : List Stmt} {C FE : Addr} {nm : Str} {td : Addr → DTS}
    (F : Fun K fx qual st f fd) (S : FnScope [dn, n, y1, y2] [dn] (defScope st))
    (hbody : defBody st = .Try [.Expr (.Call (.Name dn dp) [] [] cp) ep] [.ExceptHandler (some (.Name x np)) (some n) (b₀ :: suite) hp] [] [] pos :: rest)
    (hv : (defScope st).names.lookup dn = some .local) (hl : (defScope st).names.lookup n = some .local) (hg : (defScope st).names.lookup x = some .globalImplicit) (hm : mg x = some (.ref FE)) (hex : PySem.W.exmOne K (.ref C) (.ref FE) = some true)
    (hdb : (dn == ("__debug__" : Str)) = false) (hdc : (dn == ("__classdict__" : Str)) = false) (hxb : (x == ("__debug__" : Str)) = false)
    (hsw : ∀ env : Env, swapsWith (.Call (.Name dn dp) [] [] cp) none ep.line env = pure false)
    (hs : ∀ (cdv : Value) (A : Around) (outer : List Env) (s : Shared) (H : Hp) (ea : Addr) (oe : Obj), oe.cls = .ref C → Room k (cxOf CX0 P w K mg base [dn, n, y1, y2] qual (defScope st) f cdv A outer s H E0).A → DSs (cxH (cxOf CX0 P w K mg base [dn, n, y1, y2] qual (defScope st) f cdv A outer s H E0) ea oe) (b₀ :: suite) (td ea))
    (hrd : ∀ (ea fa : Addr) (μ : Mu) (Qd : DK), Qd (.v (.str nm)) μ → td ea { nx := fun _ _ => False, rt := Qd } [some (.o fa), some (.o ea), none, none] μ) : RefOk P w K mg base (k + 1) f fd dn (.ref C) nm where
  run := fun A outer s H fa Good Q hr e0 hb deed fin => by
    obtain ⟨oc, od, kV, doc, pm, an, cdv, ct, osl, rfl, lk, hcd⟩ := F.ex
    refine fn_at (k := k + 1) (vs := [.ref fa]) (us := [.ref fa]) lk hcd S rfl hr e0 hb (.cons rfl .nil) fun s1 I => ?_
    show wpAny _ _ (execs (defBody st) _) _ _ _
    rw [hbody]
    have hX : ∀ ea oe, PSs (cxH (cxOf CX0 P w K mg base [dn, n, y1, y2] qual (defScope st) f cdv A outer s H E0) ea oe) (b₀ :: suite) (fun D σ' H' => oe.cls = .ref C ∧ H' ea = none ∧ σ' = (start [dn, n, y1, y2] [V.ref fa]).set 1 (some (.ref ea)) ∧ ∃ μ, MuOk K μ H' ∧ ∀ H'', Ext K μ H' μ H'' → MuOk K μ H'' → D.rt (.str nm) H'') := fun ea oe pins' s' σ' H' D I' h => by
      obtain ⟨hc, hH, rfl, μ, ok, q⟩ := h
      obtain ⟨t, p, l⟩ := hs cdv A outer s H ea oe hc ((hr.deeper _).mono (Nat.le_succ _))
      refine p pins' s' _ H' D I' (l _ H' [some (.o fa), some (.o ea), none, none] μ { nx := fun _ _ => False, rt := fun d μ' => d = .v (.str nm) ∧ μ' = μ } D ⟨ok, rfl, fun i d e => ?_⟩ (hrd ea fa μ _ ⟨rfl, rfl⟩) (fun _ _ _ _ _ _ z => z.elim) (fun d u μ' H'' e' ok' r ⟨z1, z2⟩ => ?_) (fun _ _ _ _ _ _ z => z.elim) (fun _ _ _ _ _ _ z => z.elim))
      · match i, e with
        | 0, e => cases e; exact ⟨.ref fa, rfl, rfl⟩
        | 1, e => cases e; exact ⟨.ref ea, rfl, rfl⟩
        | 2, e => cases e
        | 3, e => cases e
      · subst z1 z2
        cases r
        exact q H'' e' ok'
    refine wpAny_execs_cons (wpAny_mono (ps_try (X := cxOf CX0 P w K mg base [dn, n, y1, y2] qual (defScope st) f cdv A outer s H E0) (C := C) (FE := FE) (di := 0) (ni := 1) ⟨rfl, rfl, rfl⟩ rfl S.nd rfl (Or.inl hv) rfl hl hg hm hex hX hdb hdc hxb (hsw _) [] s1 _ H { nx := fun _ _ => False, rt := Q } rfl I
      ⟨fa, Good, rfl, fun s2 I2 => deed _ _ s2 (hr.deeper _) I2.env0 I2.base, fun H' ea oe gd c hn => ⟨c, hn, rfl, fin H' gd⟩⟩) (fun fl s' hs' => ?_) fun _ _ z => z)
    cases fl with
    | ret u => exact hs'
    | next => obtain ⟨_, _, _, z⟩ := hs'; exact z.elim
    | brk => obtain ⟨_, _, _, z⟩ := hs'; exact z.elim
    | cont => obtain ⟨_, _, _, z⟩ := hs'; exact z.elim
open PySem PySem.Spec PyProof.Rows
section
variable {X : Cx} {e : Expr} {te : DTE} {p py pos : Pos} {y : Str} {C : Addr} {b : Bool} {ea : Addr} {oe : Obj}
def dIsE (ea : Addr) (b : Bool) (te : DTE) : DTE := fun ρ μ Q => te ρ μ fun x μ1 => match x with
  | .o a => a = ea ∧ Q (.v (.bool b)) μ1
  | _ => False
theorem call_isE {cv : V} {w : Value} (Z : ExcQ X.K C) (hp : (ea, oe) ∈ X.pn) (hc : oe.cls = .ref C) (r : RelV cv w) (hw : ∀ u, RelV cv u → u = w) (ek : PySem.W.kitOne X.K (.ref C) w = some b) : CallR X (.builtin "isinstance") (fun xs H Q => xs = [.ref ea, cv] ∧ Q (.bl b) H) := by
  intro pins s σ H xs us Q I rr h
  obtain ⟨rfl, q⟩ := h
  obtain ⟨v, w', rfl, r1, r2⟩ := vals2 rr
  cases r1
  obtain rfl := hw w' r2
  exact PySem.W.kia_one (kitx_exc Z) I.kIn ⟨oe, (I.pin (ea, oe) (List.mem_append_left _ hp)).1, hc⟩ ek (fun z => nomatch z) fun tk => ⟨.bl b, H, I.tok _, rfl, q⟩
theorem de_isE {C' : Addr} (Z : ExcQ X.K C) (hp : (ea, oe) ∈ X.pn) (hc : oe.cls = .ref C) (ek : PySem.W.kitOne X.K (.ref C) (.ref C') = some b) (hg : Gl X "isinstance") (hm : X.mg "isinstance" = none) (hgy : Gl X y) (hmy : X.mg y = some (.ref C')) (ha : DE X e te) (hdy : (y == ("__debug__" : Str)) = false := by decide)
    (he : starEach [e, .Name y py] X.env = (false, eval e X.env) :: starEach [.Name y py] X.env := by rfl) (he2 : starEach [.Name y py] X.env = [(false, eval (.Name y py) X.env)] := by rfl) (hpl : (backTo pos (starEach [.Name y py] X.env)).any (·.1) = false := by rfl) : DE X (.Call (.Name "isinstance" p) [e, .Name y py] [] pos) (dIsE ea b te) := by
  obtain ⟨t1, p1, l1⟩ := ha
  refine ⟨_, pe_callB (call_isE (cv := .ref C') Z hp hc rfl (fun u h => h) ek) hg hm PyProof.Rows.Boot.«isinstance» (pa_cons p1 (pa_cons (pe_glob (v := .ref C') hgy hmy rfl hdy) pa_nil he2) he) (by decide) (by decide) he hpl, fun σ H ρ μ Qd Q S h k => ?_⟩
  refine l1 σ H ρ μ _ _ S h fun x ux μ1 H1 e1 S1 rx h1 => ?_
  split at h1
  · obtain ⟨rfl, h1⟩ := h1
    obtain rfl : ux = .ref _ := rx
    exact ⟨rfl, k (.v _) _ μ1 H1 e1 S1 (Rp.bool _) h1⟩
  · exact h1.elim
theorem de_isEB {T : String} (Z : ExcQ X.K C) (hp : (ea, oe) ∈ X.pn) (hc : oe.cls = .ref C) (ek : PySem.W.kitOne X.K (.ref C) (.type T) = some b) (hg : Gl X "isinstance") (hm : X.mg "isinstance" = none) (hgy : Gl X y) (hmy : X.mg y = none) (hvy : bootBuiltins y = some (.type T)) (ha : DE X e te) (hny : y ≠ "__name__" := by decide) (hdy : (y == ("__debug__" : Str)) = false := by decide)
    (he : starEach [e, .Name y py] X.env = (false, eval e X.env) :: starEach [.Name y py] X.env := by rfl) (he2 : starEach [.Name y py] X.env = [(false, eval (.Name y py) X.env)] := by rfl) (hpl : (backTo pos (starEach [.Name y py] X.env)).any (·.1) = false := by rfl) : DE X (.Call (.Name "isinstance" p) [e, .Name y py] [] pos) (dIsE ea b te) := by
  obtain ⟨t1, p1, l1⟩ := ha
  refine ⟨_, pe_callB (call_isE (cv := .ty T) Z hp hc rfl (fun u h => h) ek) hg hm PyProof.Rows.Boot.«isinstance» (pa_cons p1 (pa_cons (pe_bltn (v := .ty T) hgy hmy hvy rfl hny hdy) pa_nil he2) he) (by decide) (by decide) he hpl, fun σ H ρ μ Qd Q S h k => ?_⟩
  refine l1 σ H ρ μ _ _ S h fun x ux μ1 H1 e1 S1 rx h1 => ?_
  split at h1
  · obtain ⟨rfl, h1⟩ := h1
    obtain rfl : ux = .ref _ := rx
    exact ⟨rfl, k (.v _) _ μ1 H1 e1 S1 (Rp.bool _) h1⟩
  · exact h1.elim
end
structure LamD (K : PySem.W.Frag) (mg : Str → Option Value) (c P : Addr) (q : Str) : Prop where
  obj : ∃ o, K.lookup c = some o ∧ lamCode o = some (P, q)
  one : ∀ c2 o2 q2, K.lookup c2 = some o2 → lamCode o2 = some (P, q2) → q2 = q
  blt : BltK K mg
end L2.DL
set_option Elab.async false
set_option linter.all false
set_option maxRecDepth 100000
set_option maxHeartbeats 4000000
namespace L2
open PySem PySem.Spec PyProof.Rows DL
def OnlyT (tabs : List Addr) (H : Hp) : Prop := ∀ b, H b = none ∨ (∃ o xs, H b = some (.frz o (.lst xs))) ∨ (b ∈ tabs ∧ H b = some (.tbl #[]))
theorem law_callT {P : Program} {w : World} {K : PySem.W.Frag} {mg mb : Str → Option Value} {CX : CXT} {k : Nat} {fa a : Addr} {fd : FuncData} {x : Str} {sp : Sp} {s₁ : Shared} {vs : List Value} {ns : List Int} (tabs : List Addr)
    (hT : ∀ p ∈ tabs, s₁.heap.get? p = some (PySem.W.tabObj #[]) ∧ K.lookup p = none) (hA2 : ∀ c o p q, K.lookup c = some o → lamCode o = some (p, q) → p ∈ tabs) (hC : ∀ p ∈ tabs, isCodeTable s₁.heap p)
    (KX : K.In s₁.heap) (hns : s₁.heap.Ns mainGlobals mg) (hb : s₁.heap.Ns builtinsNs mb) (hbb : ∀ x : Str, x ≠ "__name__" → mb x = bootBuiltins x) (hlim : s₁.heap.NoLimit) (hg : s₁.gens = #[])
    (ha : s₁.heap.get? a = some { cls := .type "list", data := .seq vs.toArray }) (hi : IntsAre vs ns) (hl : ns.length ≤ sizeLine) (hr : Room k callerA)
    (F : ∀ base : Heap, K.In base → base.Ns mainGlobals mg → FnOk P w K mg base CX k fa fd [x] sp) (hbind : ∀ (s : Shared) (u : Value), BindsTo s fd ⟨[u], []⟩ [(x, u)])
    (hsp : ∀ H : Hp, Tabs K H → SqL K H a (ns.map V.int) → sp [.ref a] H (fun v _ => v = .bl true) fun _ _ _ => False)
    (hCX : ∀ H e s', CX [] H s₁ (fun _ _ _ => False) e s' → False) :
    codeAny (model P w) callerA (.call (.ref fa) ⟨[.ref a], []⟩) (fun r s' => r = .ok (.ret (.bool true)) ∧ OldK s₁.heap s'.heap ∧ s'.os = s₁.os ∧ AllBare s'.gens) s₁ := by
  have rv := vals_ints hi
  have lenV := hi.length
  have ant : a ∉ tabs := fun z => by have := (hT a z).1; rw [ha] at this; cases this
  have core : ∀ H : Hp, OnlyT tabs H → SqL K H a (ns.map V.int) → HOk P w H s₁.heap → (∀ b, H b ≠ none → b = a ∨ b ∈ tabs) → (H a ≠ none → K.lookup a = none) → (∀ p ∈ tabs, H p = some (.tbl #[])) →
      codeAny (model P w) callerA (.call (.ref fa) ⟨[.ref a], []⟩) (fun r s' => r = .ok (.ret (.bool true)) ∧ OldK s₁.heap s'.heap ∧ s'.os = s₁.os ∧ AllBare s'.gens) s₁ := by
    intro H hO hS hok hA hK hP
    have base_of : ∀ {b : Addr} {o : Obj}, s₁.heap.get? b = some o → H b = none → (hidT s₁.heap H).get? b = some o := fun e n => hidT_get e n
    have noA : ∀ {b : Addr} {o : Obj} {es : Array DictEntry} {ep : Nat}, s₁.heap.get? b = some o → o.data = .dict es ep → H b = none := fun {b o es ep} e d => by
      cases q : H b with
      | none => rfl
      | some u =>
        rcases hA b (by rw [q]; simp) with e' | e'
        · subst e'
          rw [ha] at e; cases e
          have d' : Data.seq vs.toArray _ = Data.dict es ep := d
          cases d'
        · rw [(hT b e').1] at e; cases e
          have d' : Data.fields #[] = Data.dict es ep := d
          cases d'
    have nsK : ∀ {b : Addr} {m : Str → Option Value}, s₁.heap.Ns b m → (hidT s₁.heap H).Ns b m := fun {b m} ⟨o, es, ep, e, d, r⟩ => ⟨o, es, ep, base_of e (noA e d), d, r⟩
    have hKb : K.In (hidT s₁.heap H) := fun b o e => base_of (KX b o e) (by
      cases q : H b with
      | none => rfl
      | some u =>
        rcases hA b (by rw [q]; simp) with e' | e'
        · subst e'
          rw [hK (by rw [q]; simp)] at e; cases e
        · have e2 := e; rw [show K.lookup b = none from (hT b e').2] at e2; cases e2)
    have hM : Mod K mg (hidT s₁.heap H) := ⟨hKb, nsK hns, ⟨mb, nsK hb, hbb⟩, let ⟨mc, h1, h2⟩ := hlim; ⟨mc, nsK h1, h2⟩⟩
    have e0 : Env0 P w K mg (hidT s₁.heap H) callerA [] s₁ H := ⟨rfl, hM, fun b o e => of_hidT e, Nat.le_of_eq (hidT_size _ _), trivial, fun b hb => absurd (show b ∈ ([] : List Addr) from hb) (by simp), hok, .of_eq hg⟩
    have tb : Tabs K H := fun c o p q h1 h2 => ⟨#[], hP p (hA2 c o p q h1 h2), trivial, fun pos cv e => by simp [codeAmong] at e⟩
    refine codeAny_mono ((F _ hKb (nsK hns)).run callerA [] s₁ H ⟨[.ref a], []⟩ [.ref a] [.ref a] _ _ hr e0 (hbind s₁ (.ref a)) (.cons rfl .nil) (hsp H tb hS)) fun r s' h => ?_
    cases r with
    | error e => exact (hCX H e s' h).elim
    | ok fl =>
      cases fl with
      | next => exact False.elim h
      | brk => exact False.elim h
      | cont => exact False.elim h
      | ret u =>
        obtain ⟨v, H', os, bare, un, hok', r', q⟩ := h
        have q' : v = .bl true := q
        subst q'
        obtain rfl : u = Value.bool true := r'
        refine ⟨rfl, ⟨fun b o e => ?_, fun b o e => un.there b o e (by simp)⟩, os, bare⟩
        cases q : H b with
        | none => exact .inl (un.keep b o e q (by intro z; exact absurd (show b ∈ ([] : List Addr) from z) (by simp)) (by simp))
        | some u =>
          rcases hO b with z | ⟨ob, xs, z⟩ | ⟨zt, z⟩
          · rw [q] at z; cases z
          · have z2 := un.frzs b ob _ z
            obtain ⟨e1, _⟩ := hok b _ z
            obtain ⟨e2, _⟩ := hok' b _ z2
            rw [e] at e1; cases e1
            exact .inl e2
          · obtain ⟨more, z2⟩ := un.tbls b _ z
            have e2 : s'.heap.get? b = some { cls := .none, data := .fields (#[] ++ more) } := hok' b _ z2
            have e1 := (hT b zt).1
            rw [e] at e1; cases e1
            exact .inr (.inl ⟨hC b zt, rfl, #[], more, rfl, e2⟩)
  have okT : ∀ p ∈ tabs, s₁.heap.get? p = some { cls := .none, data := .fields #[] } := fun p hp => (hT p hp).1
  cases hk : K.lookup a with
  | some o =>
    have e := KX a o hk
    rw [ha] at e
    cases e
    refine core (fun b => if b ∈ tabs then some (.tbl #[]) else none) (fun b => ?_) (.inr ⟨_, vs.toArray, _, hk, rfl, rfl, rfl, by rw [List.size_toArray, lenV]; exact hl, by simpa using rv⟩) (fun b u z => ?_) (fun b z => ?_) (fun z => absurd (if_neg ant) z) (fun p hp => if_pos hp)
    · by_cases hb : b ∈ tabs
      · exact .inr (.inr ⟨hb, if_pos hb⟩)
      · exact .inl (if_neg hb)
    · by_cases hb : b ∈ tabs
      · have z' := (if_pos hb).symm.trans z; cases z'; exact okT b hb
      · have z' := (if_neg hb).symm.trans z; cases z'
    · by_cases hb : b ∈ tabs
      · exact .inr hb
      · exact absurd (if_neg hb) z
  | none =>
    refine core (fun b => if b = a then some (.frz { cls := .type "list", data := .seq vs.toArray } (.lst (ns.map V.int))) else if b ∈ tabs then some (.tbl #[]) else none) (fun b => ?_) (.inl (.inr ⟨{ cls := .type "list", data := .seq vs.toArray }, if_pos rfl⟩)) (fun b u z => ?_) (fun b z => ?_) (fun _ => hk) (fun p hp => by
      have : p ≠ a := fun y => ant (by rw [← y]; exact hp)
      exact (if_neg this).trans (if_pos hp))
    · by_cases hb : b = a
      · exact .inr (.inl ⟨_, _, if_pos hb⟩)
      · by_cases hb2 : b ∈ tabs
        · exact .inr (.inr ⟨hb2, (if_neg hb).trans (if_pos hb2)⟩)
        · exact .inl ((if_neg hb).trans (if_neg hb2))
    · by_cases hb : b = a
      · have z' := (if_pos hb).symm.trans z
        cases z'
        subst hb
        exact ⟨ha, by rw [List.length_map]; exact hl, vs, _, rv, ha⟩
      · by_cases hb2 : b ∈ tabs
        · have z' := ((if_neg hb).trans (if_pos hb2)).symm.trans z; cases z'; exact okT b hb2
        · have z' := ((if_neg hb).trans (if_neg hb2)).symm.trans z; cases z'
    · by_cases hb : b = a
      · exact .inl hb
      · by_cases hb2 : b ∈ tabs
        · exact .inr hb2
        · exact absurd ((if_neg hb).trans (if_neg hb2)) z
theorem walk_ofT {l : PySem.W.OpenLaw} {n k : Nat} {q : Program} {loose : List Str} {XP : (Str → Option Value) → Heap → Prop} {YP : World → Heap → Prop} {d : DefRec} {K : Params → PySem.W.Frag} {CX : World → CXT} {sp : World → Sp} {x : Str} (tabs : List Addr)
    (hn : l.most = some n) (hn2 : n ≤ sizeLine) (hdf : d.params.defaults = []) (hr : Room k callerA)
    (hY : ∀ (w : World) (h : Heap), YP w h → (K w.params).In h ∧ (∀ p ∈ tabs, h.get? p = some (PySem.W.tabObj #[]) ∧ (K w.params).lookup p = none) ∧ (∀ p ∈ tabs, isCodeTable h p))
    (hA2 : ∀ (w : World) c o p q, (K w.params).lookup c = some o → lamCode o = some (p, q) → p ∈ tabs)
    (F : ∀ (w : World) (mg : Str → Option Value) (fa : Addr) (h : Heap), (K w.params).In h → h.Ns mainGlobals mg → mg d.name = some (.ref fa) →
      ∃ fd : FuncData, (∀ (s : Shared) (u : Value), BindsTo s fd ⟨[u], []⟩ [(x, u)]) ∧
        ∀ base : Heap, (K w.params).In base → base.Ns mainGlobals mg → FnOk l.prog w (K w.params) mg base (CX w) k fa fd [x] (sp w))
    (hsp : ∀ (w : World) (H : Hp) (a : Addr) (ns : List Int), ns.length ≤ n → Tabs (K w.params) H → SqL (K w.params) H a (ns.map V.int) → sp w [.ref a] H (fun v _ => v = .bl true) fun _ _ _ => False)
    (hCX : ∀ (w : World) (H : Hp) (s : Shared) (e : Value) (s' : Shared), CX w [] H s (fun _ _ _ => False) e s' → False) :
    PySem.W.WalkO q loose XP YP l.row.toRowW d [] (fun f vs => PySem.call f vs) := by
  refine Att.attach_call hn hdf fun w s₀ s₁ mg mb fa o pm cd doc a vs ns G Y ho hd hcd hmg hobj hints hlen hg => ?_
  obtain ⟨KX, hT, hC⟩ := hY w _ Y
  obtain ⟨fd, hb, hF⟩ := F w mg fa _ KX G.T.g hmg
  exact law_callT tabs hT (hA2 w) hC KX G.T.g G.T.b G.T.builtins G.T.nolimit hg hobj hints (Nat.le_trans hlen hn2) hr hF hb (fun H hO hS => hsp w H a ns hlen hO hS) fun H e s' => hCX w H s₁ e s'
end L2
namespace L2.DL
open PySem PySem.Spec PyProof.Rows
theorem _root_.L2.Fun.okDL {P : Program} {w : World} {K : PySem.W.Frag} {mg : Str → Option Value} {base : Heap} {x qual : Str} {st : Stmt} {f : Addr} {fd : FuncData} {N ps : List Str} {k : Nat} {dsp : DSp} (F : Fun K x qual st f fd) (S : FnScope N ps (defScope st)) (len : ∀ ds μ Q, dsp ds μ Q → ds.length = ps.length)
    (hbody : ∀ (cdv : Value), fd.code = cdv → ∀ (A : Around) (outer : List Env) (s : Shared) (H : Hp) (E : XK), Room k (A.deeper (envOfC qual (defScope st) s.heap.objs.size f cdv)) →
      ∃ td, DSs (cxOf CX0 P w K mg base N qual (defScope st) f cdv A outer s H E).nox (defBody st) td ∧ ∀ ds μ Qd, dsp ds μ Qd → td { nx := fun _ μ' => Qd (.v .none) μ', rt := Qd } (startD N ds) μ) : FnOk P w K mg base CX0 (k + 1) f fd ps (spD K dsp) := by
  obtain ⟨oc, od, kV, doc, pm, an, cdv, ct, osl, rfl, lk, hcd⟩ := F.ex
  refine fn_of lk hcd S (fun vs H Q E h => ?_) fun A outer s H vs Q E hr h => ?_
  · obtain ⟨ds, μ, Qd, _, r, h, _⟩ := h
    rw [← r.length]; exact len ds μ Qd h
  · obtain ⟨ds, μ, Qd, ok, r, h, fin⟩ := h
    obtain ⟨td, ⟨t, p, l⟩, rd⟩ := hbody cdv rfl A outer s H E hr
    exact ⟨t, p.nox, l (start N vs) H (startD N ds) μ _ _ ⟨ok, rho_start r⟩ (rd ds μ Qd h) (fun σ' ρ' μ' H' e' S' q => fin (.v .none) .non μ' H' e' S'.mu Rp.none q) (fun d u μ' H' e' ok' r' q => fin d u μ' H' e' ok' r' q) (fun _ _ _ _ _ _ q => q) (fun _ _ _ _ _ _ q => q)⟩
def CapL1 (X : Cx) (lsc : Scope) : Option Nat → Str → Prop
  | some j, x => X.N[j]? = some x ∧ Vis X.env.scope x ∧ X.env.kindOf x ≠ some .local ∧ lsc.names.lookup x = some .free
  | none, _ => True
def CapL (X : Cx) (lsc : Scope) : List (Option Nat) → List Str → Prop
  | c :: r, x :: r' => CapL1 X lsc c x ∧ CapL X lsc r r'
  | _, _ => True
theorem capL_of {X : Cx} {lsc : Scope} : ∀ {cap : List (Option Nat)} {N' : List Str}, CapL X lsc cap N' → ∀ (i j : Nat) (x : Str), cap[i]? = some (some j) → N'[i]? = some x → X.N[j]? = some x ∧ Vis X.env.scope x ∧ X.env.kindOf x ≠ some .local ∧ lsc.names.lookup x = some .free
  | [], _, _, i, j, x, h, _ => by simp at h
  | _ :: _, [], _, i, j, x, _, h => by simp at h
  | c :: r, y :: r', h, 0, j, x, h1, h2 => by
    simp at h1 h2; subst h1 h2; exact h.1
  | c :: r, y :: r', h, i + 1, j, x, h1, h2 => capL_of h.2 i j x (by simpa using h1) (by simpa using h2)
theorem capL1 {X : Cx} {lsc : Scope} {j : Nat} {x : Str} (h1 : X.N[j]? = some x := by rfl) (h2 : X.env.kindOf x = some .cell := by rfl) (h3 : lsc.names.lookup x = some .free := by rfl) : CapL1 X lsc (some j) x :=
  ⟨h1, .inr (.inl h2), (by rw [h2]; decide), h3⟩
theorem lam_mem {K : PySem.W.Frag} {l : List (Addr × Str)} (h : (K.filterMap fun p => lamCode p.2) = l) {c : Addr} {o : Obj} {P : Addr} {q : Str} (e : K.lookup c = some o) (e2 : lamCode o = some (P, q)) : (P, q) ∈ l := by
  rw [← h]
  have mem : ∀ (L : List (Addr × Obj)), List.lookup c L = some o → (c, o) ∈ L := fun L => by
    induction L with
    | nil => intro z; cases z
    | cons a r ih =>
      intro z
      rw [List.lookup_cons] at z
      by_cases y : c = a.1
      · rw [y] at z ⊢; simp at z; rw [← z]; exact List.mem_cons_self
      · rw [show (c == a.1) = false from by simpa using y] at z
        exact List.mem_cons_of_mem _ (ih z)
  exact List.mem_filterMap.mpr ⟨(c, o), mem K e, e2⟩
theorem lam_table {K : PySem.W.Frag} {h : Heap} {c P : Addr} {o : Obj} {q : Str} (X : K.In h) (l : K.lookup c = some o) (e : lamCode o = some (P, q)) : isCodeTable h P := by
  have ho := X _ _ l
  unfold lamCode at e
  split at e
  · rename_i cn vs hcls hd
    split at e
    · rename_i hcn
      subst hcn
      split at e
      · rename_i e11 e18
        split at e
        · cases e
          exact ⟨c, o, vs, ho, hcls, hd, by assumption⟩
        · cases e
      · cases e
    · cases e
  · cases e
theorem lam_obj {K : PySem.W.Frag} {c P : Addr} {q : Str} (h : (K.lookup c).bind lamCode = some (P, q)) : ∃ o, K.lookup c = some o ∧ lamCode o = some (P, q) := Option.bind_eq_some_iff.mp h
theorem frag_in {K T : PySem.W.Frag} {h : Heap} (X : PySem.W.Frag.In (K ++ T) h) : K.In h := fun b o e => X b o (by
  show List.lookup b (K ++ T) = some o
  rw [List.lookup_append, show List.lookup b K = some o from e]; rfl)
theorem blt_mk {K : PySem.W.Frag} {mg : Str → Option Value} {bm : Addr} {sl : Array (Option Value)} (h1 : mg "__builtins__" = some (.ref bm)) (h2 : bm ≠ builtinsNs) (h3 : K.lookup bm = some ⟨.type "module", some builtinsNs, .plain, sl⟩) : BltK K mg := ⟨bm, _, h1, h2, h3, rfl, rfl, rfl⟩
theorem q_xCall {dsp : XSp} {t : DTA} {ρ : Rho} {μ : Mu} {Xk : Mu → Prop} : xCall dsp t ρ μ Xk = t ρ μ (fun ds μ1 => dsp ds μ1 Xk) := propext Iff.rfl
theorem q_xIf {tc : DTT} {tx ty : DTX} {ρ : Rho} {μ : Mu} {Xk : Mu → Prop} : xIf tc tx ty ρ μ Xk = tc ρ μ (fun b μ1 => if b = true then tx ρ μ1 Xk else ty ρ μ1 Xk) := propext Iff.rfl
theorem q_xSeq {td : DTS} {tx : DTX} {ρ : Rho} {μ : Mu} {Xk : Mu → Prop} : xSeq td tx ρ μ Xk = td { nx := fun ρ' μ' => tx ρ' μ' Xk, rt := fun _ _ => False } ρ μ := propext Iff.rfl
theorem q_isE {ea : Addr} {b : Bool} {i : Nat} {ρ : Rho} {μ : Mu} {Q : DK} (h : ρ[i]? = some (some (.o ea))) : dIsE ea b (dVar i) ρ μ Q = Q (.v (.bool b)) μ := by
  unfold dIsE dVar
  rw [h]
  exact propext ⟨fun z => z.2, fun z => ⟨rfl, z⟩⟩
theorem q_isE1 {ea : Addr} {b : Bool} {x : Option D} {r : Rho} {μ : Mu} {Q : DK} : dIsE ea b (dVar 1) (x :: some (.o ea) :: r) μ Q = Q (.v (.bool b)) μ := q_isE rfl
def refF : PyData → Option PyData
  | .tuple [.str n, .bool b] => if b = true then some (.str n) else none
  | _ => none
theorem comp_ref {r : Rho} {μ : Mu} {Q : DK} {ns : List (Str × Bool)} {i : Nat} (hi : r[i]? = some (some (.v (.list (ns.map fun n => .tuple [.str n.1, .bool n.2]))))) (hl : ns.length ≤ 1000) (q : Q (.v (.list ((ns.map fun n => (.tuple [.str n.1, .bool n.2] : PyData)).filterMap refF))) μ) :
    dCompI [none, none] (diList (dVar i)) (gdTup 2 (gdCons (gdName 0) (gdCons (gdName 1) gdNil))) (dB (dVar 1)) (dVar 0) r μ Q := by
  rw [q_compI]
  show (match r[i]? with | some (some d) => _ | _ => False)
  rw [hi]
  refine ⟨by rw [List.length_map]; exact hl, fun p hp => ⟨fun i acc μ' => acc = ((ns.map fun n => (.tuple [.str n.1, .bool n.2] : PyData)).take i).filterMap refF ∧ μ' = muSet μ p acc, ⟨rfl, rfl⟩, ?_, ?_⟩⟩
  · rintro i x acc μ' hx hpa ⟨e0, e1⟩
    obtain ⟨n, hn, rfl⟩ := List.mem_map.mp (List.mem_of_getElem? hx)
    have st := fm_take (f := refF) hx
    obtain ⟨n, b⟩ := n
    refine ⟨rfl, ⟨trivial, ?_⟩⟩
    show if b = true then _ else _
    cases b with
    | true =>
      rw [if_pos rfl]
      refine ⟨hpa, ?_, ?_⟩
      · rw [st, ← e0]; rfl
      · rw [e1, muSet_set]
    | false =>
      rw [if_neg (by decide)]
      refine ⟨hpa, ?_, e1⟩
      rw [st, ← e0]; simp [refF]
  · rintro acc μ' ⟨e0, e1⟩ hpa
    rw [List.take_length] at e0
    rw [e1, e0, muDel_set hp]
    exact q
open PySem PySem.Spec PyProof.Rows
section
end
open PySem PySem.Spec PyProof.Rows
section
variable {X : Cx} {a b e : Expr} {es : List Expr} {ta tb te : DTE} {t : DTA} {p pos : Pos} {x : Str} {bid T : String}
end
open PySem PySem.Spec PyProof.Rows
section
variable {X : Cx} {es : List Expr} {x1 : Nat} {tpos : Pos}
end
open PySem PySem.Spec PyProof.Rows
section
variable {X : Cx} {e : Expr} {te : DTE} {p p2 pos pos2 : Pos}
end
open PySem PySem.Spec PyProof.Rows
def lamAt (fa c1 : Addr) (q : Str) (params : Arguments) (body : Expr) (lsc : Scope) (cl : List (Str × Addr)) (h : Heap) : Prop := ∃ pm ctv, h.get? fa = some { cls := .type "function", data := .func (PySem.W.kla_fn "<lambda>" (lamQual q) params body lsc cl pm (.ref c1) ctv) }
def LamV (q : Str) (params : Arguments) (body : Expr) (lsc : Scope) (cl : List (Str × Addr)) : PQ := fun _ u μ H => ∃ fa c1, u = .ref fa ∧ H fa = some (.ext (lamAt fa c1 q params body lsc cl)) ∧ H c1 = some (.ext (codeAt c1 (lamQual q))) ∧ μ fa = none ∧ μ c1 = none
def QL (ds : List D) : PQ := fun K u μ H => ∃ a us, u = .ref a ∧ H a = some (.lst us) ∧ μ a = none ∧ RpDs K μ H ds us
def QT (ds : List D) : PQ := fun K u μ H => ∃ a us, u = .ref a ∧ H a = some (.tup us) ∧ RpDs K μ H ds us
section
variable {X : Cx} {pins : List (Addr × Obj)} {σ : St} {H : Hp} {s : Shared}
theorem mk_lamT {μ : Mu} {params : Arguments} {body : Expr} {lsc : Scope} {lpos : Pos} {cl : List (Str × Addr)} {c P : Addr} {o : Obj} {q : Str} {Qd : Value → Shared → Prop} (I : Inv X pins σ H s) (ok : MuOk X.K μ H) (hcode : X.env.code = .ref c) (hl : X.K.lookup c = some o)
    (hlc : lamCode o = some (P, q)) (hu : ∀ c2 o2 q2, X.K.lookup c2 = some o2 → lamCode o2 = some (P, q2) → q2 = q) (hq : X.env.qual = q ++ ".<locals>.") (hB : BltK X.K X.mg) (hcl : closureFor lsc X.env = pure cl) (hdef : defaultsOf params X.env = ([], []))
    (k : ∀ (fa c1 : Addr) (H1 : Hp) (s1 : Shared), Inv X pins σ H1 s1 → Ext X.K μ H μ H1 → MuOk X.K μ H1 → H1 fa = some (.ext (lamAt fa c1 q params body lsc cl)) → H1 c1 = some (.ext (codeAt c1 (lamQual q))) → Qd (.ref fa) s1) :
    wpAny (model X.prog X.w) X.A (eval (.Lambda params body lsc lpos) X.env) Qd X.xe s := by
  refine PySem.W.kla_eval hdef ?_
  rw [hq]
  obtain ⟨ps, hP, htr, hcs⟩ := ok.tab c o P q hl hlc
  have getP : s.heap.get? P = some (PySem.W.tabObj ps) := I.hok P _ hP
  have nK : ∀ b ob, X.K.lookup b = some ob → b ≠ P := fun b ob e z => by
    have := (I.bs b ob (I.mod.kin b ob e)).2
    rw [z, hP] at this; cases this
  have C := code_hd I.kIn hl hlc (nK c o hl)
  have hg : s.heap.Ns mainGlobals X.mg := I.mod.glob.keeps I.bk
  have hgP : mainGlobals ≠ P := fun z => by
    obtain ⟨og, es, ep, e, d, _⟩ := hg
    rw [z, getP] at e; cases e; cases d
  have hb : s.heap.BuiltinsAt X.mg P := by
    obtain ⟨bm, ob, b1, b2, b3, b4, b5, b6⟩ := hB
    refine ⟨bm, ob, b1, b2, fun z => ?_, nK bm ob b3, I.kIn _ _ b3, b4, b5, b6⟩
    obtain ⟨og, es, ep, e, d, _⟩ := hg
    rw [← z, I.kIn _ _ b3] at e; cases e; rw [b6] at d; cases d
  have stk : ∀ b, s.heap.objs.size ≤ b → b ∉ frs X.stack := fun b hb hm => by
    obtain ⟨_, ob, e, _⟩ := I.stack.mem hm
    exact absurd (Heap.lt_size e) (Nat.not_lt.mpr hb)
  cases hf : codeAmong lpos ps.toList with
  | some cv =>
    obtain ⟨c1, rfl, hc1⟩ := hcs lpos cv hf
    refine PySem.W.kla_makeFunctionHit hcl I.ok.glob hg hcode C getP htr hf hb fun ctv h' tk hk hsz => ?_
    have fr := I.hok.fresh hsz
    have I2 := I.laid (t' := tk) (h' := h'.push { cls := .type "function", data := .func (PySem.W.kla_fn "<lambda>" (lamQual q) params body lsc cl ((X.mg "__name__").getD .none) (.ref c1) ctv) }) (a := h'.objs.size) (o := .ext (lamAt h'.objs.size c1 q params body lsc cl)) (fun b u e => Heap.get?_push_of_some _ (hk b u e)) hsz ⟨⟨_, _, Heap.get?_push_size _ rfl⟩, ⟨_, Heap.get?_push_size _ rfl⟩, fun h1 h2 ⟨pm, ct, e⟩ kk => ⟨pm, ct, kk _ e⟩⟩
    exact k h'.objs.size c1 _ _ I2 (ext_new fr) (ok.new fr) upd_same (by rw [upd_ne (ne_of_none hc1 fr)]; exact hc1)
  | none =>
    refine PySem.W.kla_makeFunction hcl I.ok.glob hg hcode C getP htr hf hgP hb fun c' ctv h' tk hx hge hlt hrec htb => ?_
    have hca : codeAt c' (lamQual q) h' := by
      obtain ⟨c2, oc, vs, t, e2, g2, d2, v2⟩ := hrec
      cases e2
      exact ⟨oc, vs, t, g2, d2, v2⟩
    have fc : H c' = none := I.hok.fresh hge
    have I1 : Inv X pins σ (upd (upd H P (.tbl (ps ++ [rawInt lpos.line, rawInt lpos.col, .ref c'].toArray))) c' (.ext (codeAt c' (lamQual q)))) { s with heap := h', toks := tk } := inv_table (φ := codeAt c' (lamQual q)) I hP hx htb hge hca (let ⟨oc, _, _, g2, _⟩ := hca; ⟨oc, g2⟩) (fun h1 h2 ⟨oc, vs, t, g2, d2, v2⟩ kk => ⟨oc, vs, t, kk _ g2, d2, v2⟩)
    have old : ∀ b, b ≠ P → b ≠ c' → upd (upd H P (.tbl (ps ++ [rawInt lpos.line, rawInt lpos.col, .ref c'].toArray))) c' (.ext (codeAt c' (lamQual q))) b = H b := fun b h1 h2 => by rw [upd_ne h2, upd_ne h1]
    have nPc : P ≠ c' := ne_of_none hP fc
    have ex : Ext X.K μ H μ (upd (upd H P (.tbl (ps ++ [rawInt lpos.line, rawInt lpos.col, .ref c'].toArray))) c' (.ext (codeAt c' (lamQual q)))) := ⟨fun b u e n nt => by rw [old b (fun z => by rw [z, hP] at e; cases e; exact nt) (ne_of_none e fc)]; exact e, fun b qs e n => by
      by_cases z : b = P
      · exact ⟨_, by rw [z, upd_ne nPc]; exact upd_same⟩
      · exact ⟨qs, by rw [old b z (ne_of_none e fc)]; exact e⟩, fun _ ds e => ⟨ds, e⟩, fun _ e _ => e⟩
    have mu : MuOk X.K μ (upd (upd H P (.tbl (ps ++ [rawInt lpos.line, rawInt lpos.col, .ref c'].toArray))) c' (.ext (codeAt c' (lamQual q)))) := ⟨fun a ds e => by
      obtain ⟨xs, h1, h2⟩ := ok a ds e
      exact ⟨xs, by rw [old a (fun z => by rw [z, hP] at h1; cases h1) (ne_of_none h1 fc)]; exact h1, h2.ext ok ex⟩, tab_step ok.tab hP htr hcs hf fc hu⟩
    have hfr : s.heap.objs.size ≤ h'.objs.size := Nat.le_trans hge (Nat.le_of_lt hlt)
    have frn : (upd (upd H P (.tbl (ps ++ [rawInt lpos.line, rawInt lpos.col, .ref c'].toArray))) c' (.ext (codeAt c' (lamQual q)))) h'.objs.size = none := by
      have : h'.objs.size ≠ c' := Nat.ne_of_gt hlt
      by_cases z : h'.objs.size = P
      · exact absurd (Heap.lt_size getP) (by rw [← z]; exact Nat.not_lt.mpr hfr)
      · rw [old _ z this]; exact I.hok.fresh hfr
    have I2 := I1.laid (t' := tk) (h' := h'.push { cls := .type "function", data := .func (PySem.W.kla_fn "<lambda>" (lamQual q) params body lsc cl ((X.mg "__name__").getD .none) (.ref c') ctv) }) (a := h'.objs.size) (o := .ext (lamAt h'.objs.size c' q params body lsc cl)) (fun b u e => Heap.get?_push_of_some _ e) (Nat.le_refl _) ⟨⟨_, _, Heap.get?_push_size _ rfl⟩, ⟨_, Heap.get?_push_size _ rfl⟩, fun h1 h2 ⟨pm, ct, e⟩ kk => ⟨pm, ct, kk _ e⟩⟩
    have hc1 : (upd (upd H P (.tbl (ps ++ [rawInt lpos.line, rawInt lpos.col, .ref c'].toArray))) c' (.ext (codeAt c' (lamQual q)))) c' = some (.ext (codeAt c' (lamQual q))) := upd_same
    exact k h'.objs.size c' _ _ I2 (ex.trans (ext_new frn)) (mu.new frn) upd_same (by rw [upd_ne (ne_of_none hc1 frn)]; exact hc1)
end
section
variable {K : PySem.W.Frag} {μ : Mu} {H : Hp} {a : Addr} {us : List V} {ds : List D}
theorem rp_QL (ok : MuOk K μ H) (ha : H a = some (.lst us)) (hn : μ a = none) (r : RpDs K μ H ds us) : RpD K μ H (.q (QL ds)) (.ref a) := fun μ' H' e => ⟨a, us, rfl, e.keep _ _ ha hn trivial, e.fresh _ hn (.inl (by rw [ha]; exact fun z => nomatch z)), r.ext ok e⟩
theorem rp_lam {fa c1 : Addr} {q : Str} {params : Arguments} {body : Expr} {lsc : Scope} {cl : List (Str × Addr)} (ok : MuOk K μ H) (h1 : H fa = some (.ext (lamAt fa c1 q params body lsc cl))) (h2 : H c1 = some (.ext (codeAt c1 (lamQual q)))) : RpD K μ H (.q (LamV q params body lsc cl)) (.ref fa) := fun μ' H' e => by
  have n1 := ok.not h1 fun _ z => nomatch z
  have n2 := ok.not h2 fun _ z => nomatch z
  exact ⟨fa, c1, rfl, e.keep _ _ h1 n1 trivial, e.keep _ _ h2 n2 trivial, e.fresh _ n1 (.inl (by rw [h1]; exact fun z => nomatch z)), e.fresh _ n2 (.inl (by rw [h2]; exact fun z => nomatch z))⟩
end
section
variable {X : Cx} {es : List Expr} {t : DTA} {pos : Pos}
def dKq (P : PQ) : DTE := fun _ μ Q => Q (.q P) μ
theorem de_lam {c P : Addr} {q : Str} {params : Arguments} {body : Expr} {lsc : Scope} {lpos : Pos} {cl : List (Str × Addr)} (L : LamD X.K X.mg c P q) (hcode : X.env.code = .ref c) (hq : X.env.qual = q ++ ".<locals>.") (hdef : defaultsOf params X.env = ([], [])) (hclos : closureFor lsc X.env = pure cl) :
    DE X (.Lambda params body lsc lpos) (dKq (LamV q params body lsc cl)) := by
  refine de_of fun pins s σ H ρ μ Qd Q I S h kk => ?_
  obtain ⟨o, hl, hlc⟩ := L.obj
  refine mk_lamT I S.mu hcode hl hlc L.one hq L.blt hclos hdef fun fa c1 H1 s1 I1 ex mu h1 h2 => ?_
  exact ⟨.ref fa, H1, I1, rfl, kk (.q _) (.ref fa) μ H1 ex ⟨mu, S.rho.ext S.mu ex⟩ (rp_lam mu h1 h2) h⟩
def dLstQ (t : DTA) : DTE := fun ρ μ Q => t ρ μ fun ds μ1 => Q (.q (QL ds)) μ1
theorem de_lstQ (h : DA X es t) (hl : es.length ≤ 1000 := by decide) : DE X (.List es pos) (dLstQ t) := by
  obtain ⟨t1, p1, l1⟩ := h
  refine ⟨_, pe_lst p1, fun σ H ρ μ Qd Q S h k => ?_⟩
  refine l1 σ H ρ μ _ _ S h fun ds us μ1 H1 e1 S1 rs len h1 => ?_
  refine ⟨Nat.le_of_lt (small1000 (by rw [← rs.length, len]; exact hl)), fun p hp => ?_⟩
  have e2 := ext_new (K := X.K) (μ := μ1) (o := .lst us) hp
  have S2 := S1.new (o := .lst us) hp
  exact k (.q (QL ds)) _ μ1 _ (e1.trans e2) S2 (rp_QL S2.mu upd_same (S1.mu.free hp) (rs.ext S1.mu e2)) h1
end
open PySem PySem.Spec PyProof.Rows
def ItOkQ (K : PySem.W.Frag) (J : It) (xs : List D) (μ1 : Mu) (H1 : Hp) : Prop := ∀ μ2 H2, Ext K μ1 H1 μ2 H2 → MuOk K μ2 H2 → ∀ i, (i < xs.length → J.go i H2 ∧ ∀ x H', J.yld i H2 x H' → ∃ d, xs[i]? = some d ∧ Same H2 H' ∧ RpD K μ2 H' d x) ∧ (i = xs.length → J.stop i H2)
abbrev DTIQ := Rho → Mu → (List D → Mu → Prop) → Prop
def LiftIQ (K : PySem.W.Frag) (wi : TI) (src : DTIQ) : Prop := ∀ (σ : St) (H : Hp) (ρ : Rho) (μ : Mu) (Qd : List D → Mu → Prop) (R : It → Hp → Prop), St0 K H ρ μ σ → src ρ μ Qd →
  (∀ xs μ1 H1 J, Ext K μ H μ1 H1 → St0 K H1 ρ μ1 σ → ItOkQ K J xs μ1 H1 → Qd xs μ1 → R J H1) → wi σ H R
def diQ (te : DTE) : DTIQ := fun ρ μ Q => te ρ μ fun d μ1 => ∃ ds, d = .q (QL ds) ∧ Q ds μ1
theorem di_q {X : Cx} {e tg : Expr} {te : DTE} (h : DE X e te) : ∃ wi, PI X tg e wi ∧ LiftIQ X.K wi (diQ te) := by
  obtain ⟨t1, p1, l1⟩ := h
  refine ⟨_, pi_list p1, fun σ H ρ μ Qd R S h k => ?_⟩
  refine l1 σ H ρ μ _ _ S h fun d u μ1 H1 e1 S1 r h1 => ?_
  obtain ⟨ds, rfl, h1⟩ := h1
  obtain ⟨a, us, rfl, ha, hn, ra⟩ := r μ1 H1 .refl
  refine ⟨a, rfl, ⟨us, SqL.of ha⟩, k ds μ1 H1 _ e1 S1 (fun μ2 H2 e2 ok2 i => ⟨fun hi => ?_, fun hi => ?_⟩) h1⟩
  · have ha2 := e2.keep _ _ ha hn trivial
    have hiu : i < us.length := by rw [← ra.length]; exact hi
    refine ⟨⟨us, us[i], SqL.of ha2, by simp [hiu]⟩, fun x H' ⟨eH, hx⟩ => ?_⟩
    subst eH
    obtain ⟨u', h1', h2'⟩ := (ra.ext S1.mu e2).get (i := i) (d := ds[i]) (by simp [hi])
    have := hx us (SqL.of ha2)
    rw [this] at h1'
    cases h1'
    exact ⟨ds[i], by simp [hi], Same.refl _, h2'⟩
  · have ha2 := e2.keep _ _ ha hn trivial
    exact ⟨us, SqL.of ha2, by rw [← ra.length]; omega⟩
theorem rho_app {K : PySem.W.Frag} {μ : Mu} {H : Hp} {ρ : Rho} {σ : St} {d : D} {u : V} (r : RhoOk K μ H ρ σ) (h : RpD K μ H d u) : RhoOk K μ H (ρ ++ [some d]) (σ ++ [some u]) := by
  refine ⟨by simp [r.1], fun i x e => ?_⟩
  rcases Nat.lt_or_ge i ρ.length with z | z
  · rw [List.getElem?_append_left z] at e
    obtain ⟨v, h1, h2⟩ := r.2 i x e
    exact ⟨v, by rw [List.getElem?_append_left (by rw [← r.1]; exact z)]; exact h1, h2⟩
  · rw [List.getElem?_append_right z] at e
    have zi : i - ρ.length = 0 := by
      rcases Nat.eq_zero_or_pos (i - ρ.length) with q | q
      · exact q
      · rw [List.getElem?_eq_none (by simp; omega)] at e; cases e
    rw [zi] at e
    cases e
    exact ⟨u, by rw [List.getElem?_append_right (by rw [← r.1]; exact z), ← r.1, zi]; rfl, h⟩
def dCompQ (cap : List (Option Nat)) (src : DTE) (g : DTG) (te : Rho → PQ → DTE) : DTE := fun ρ μ Q => diQ src ρ μ fun xs μ1 => xs.length ≤ 1000 ∧ ∃ f : Nat → PyData, (∀ (G : PQ) (i : Nat) (x : D), xs[i]? = some x → ∀ μ' : Mu, (∀ a ds, μ1 a = some ds → μ' a = some ds) → g x (capF cap ρ ++ [some (D.q G)]) μ' fun ρ2 μ2 => Le (capF cap ρ ++ [some (D.q G)]) ρ2 ∧ te ρ G ρ2 μ2 fun d μ4 => μ4 = μ' ∧ d = .v (f i)) ∧ Q (.v (.list ((List.range xs.length).map f))) μ1
theorem de_compQ {X : Cx} {N' : List Str} {gx : Str} {scope : Scope} {cl : List (Str × Addr)} {elt iter tg : Expr} {pos : Pos} {cap : List (Option Nat)} {src : DTE} {g : DTG} {te : Rho → PQ → DTE} (hc : X.calm = X.calm)
    (hi0 : DE X iter src) (hg : ∀ fp s₃ H₃, DG (cxComp X (N' ++ [gx]) scope cl fp s₃ H₃) tg g)
    (he : ∀ fp s₃ H₃ pins σ ρ μ₁ (G : PQ), Inv X pins σ H₃ s₃ → St0 X.K H₃ ρ μ₁ σ → (∀ b ∈ fp, ∀ x a, X.env.cells.lookup x = some a → a ≠ b) → (∀ u μ H, G X.K u μ H → RhoOk X.K μ H ρ σ) → DE (cxComp X (N' ++ [gx]) scope cl fp s₃ H₃) elt (te ρ G))
    (hclos : closureFor scope X.env = pure cl) (hcell : ∀ y ∈ scope.names, y.2 ≠ .cell) (hkind : scope.kind = .function) (hnames : ∀ y ∈ scope.names, y.2 = .local → scope.names.lookup y.1 = some .local)
    (hcl : ∀ x a, cl.lookup x = some a → X.env.cells.lookup x = some a) (hhas : ∀ x, (relabel scope X.env).names.lookup x = some .cell ∨ (relabel scope X.env).names.lookup x = some .free → ∃ a, cl.lookup x = some a)
    (hlen : cap.length = N'.length) (hcap : ∀ (i j : Nat) (x : Str), cap[i]? = some (some j) → N'[i]? = some x → X.N[j]? = some x ∧ Vis X.env.scope x ∧ X.env.kindOf x ≠ some .local ∧ ((relabel scope X.env).names.lookup x = some .cell ∨ (relabel scope X.env).names.lookup x = some .free))
    (hgx : (relabel scope X.env).names.lookup gx = none) (hs : ∀ x, foldedSetIterable iter X.env x = pure x := by intro _; rfl) : DE X (.ListComp elt [⟨tg, iter, [], 0⟩] scope pos) (dCompQ cap src g te) := by
  refine de_of fun pins s σ H ρ μ Qd Q I S h k => ?_
  obtain ⟨wi, pw, li⟩ := di_q (tg := tg) hi0
  rw [eval_ListComp]
  refine wpAny_comprehension_free (use := none) rfl hs hclos hkind hnames (thn (pw pins s σ H _ I (li σ H ρ μ _ (fun J H1 => ∃ xs μ1, Ext X.K μ H μ1 H1 ∧ St0 X.K H1 ρ μ1 σ ∧ ItOkQ X.K J xs μ1 H1 ∧ xs.length ≤ 1000 ∧ ∃ f : Nat → PyData, (∀ (G : PQ) (i : Nat) (x : D), xs[i]? = some x → ∀ μ' : Mu, (∀ a ds, μ1 a = some ds → μ' a = some ds) → g x (capF cap ρ ++ [some (D.q G)]) μ' fun ρ2 μ2 => Le (capF cap ρ ++ [some (D.q G)]) ρ2 ∧ te ρ G ρ2 μ2 fun d μ4 => μ4 = μ' ∧ d = .v (f i)) ∧ Qd (.v (.list ((List.range xs.length).map f))) μ1) S h (fun xs μ1 H1 J e1 S1 it q => ⟨xs, μ1, e1, S1, it, q⟩)))
    fun v s1 h1 => thn h1 fun itv s2 h2 => ?_)
  obtain ⟨it, fp, tn, J, H2, rfl, I2, T, st2, f2, xs, μ1, e1, S1, itok, hxs, f, body, fin⟩ := h2
  refine wpAny_newObj_type (wpAny_newFunctionEnv hcell (by intro y hy; simp at hy) (fun h₁ hns₁ hsb₁ => ?_) hkind)
  dsimp only at hns₁ hsb₁ ⊢
  have hfree2 : H2 s2.heap.objs.size = none := I2.hok.fresh (Nat.le_refl _)
  have hK2 : X.K.lookup s2.heap.objs.size = none := by
    cases z : X.K.lookup s2.heap.objs.size with
    | none => rfl
    | some o => exact absurd (Heap.lt_size (I2.kIn _ _ z)) (Nat.lt_irrefl _)
  have I3 : Inv X pins σ (upd H2 s2.heap.objs.size (.lst [])) { s2 with heap := s2.heap.push { cls := .type "list", dict := none, data := .seq ([] : List Value).toArray } } :=
    I2.laid (t' := s2.toks) (fun b u e => Heap.get?_push_of_some _ e) (Nat.le_refl _) ⟨Nat.zero_le _, [], 0, .nil, Heap.get?_push_size _ rfl⟩
  generalize hH : s2.heap.push { cls := .type "list", dict := none, data := .seq ([] : List Value).toArray } = hp3 at hns₁ hsb₁ I3 ⊢
  have hsz3 : hp3.objs.size = s2.heap.objs.size + 1 := by rw [← hH, Heap.size_push]
  have kept3 : ∀ b o, hp3.get? b = some o → h₁.get? b = some o := fun b o e => hsb₁.extBut b o (Nat.ne_of_lt (Heap.lt_size e)) (Heap.get?_push_of_some _ e)
  have old3 : ∀ b o, s2.heap.get? b = some o → hp3.get? b = some o := fun b o e => by rw [← hH]; exact Heap.get?_push_of_some _ e
  have fplt : ∀ b ∈ fp, b < s2.heap.objs.size := fun b hb => by obtain ⟨o, e, _⟩ := T.obj 0 _ st2 b hb; exact Heap.lt_size e
  have fpst : ∀ b ∈ fp, b ∉ frs X.stack := fun b hb hz => by
    rcases List.mem_cons.mp (I2.stkSub b hz) with e | e
    · exact (f2 b hb).2.1 e
    · exact (f2 b hb).2.2.1 e
  obtain ⟨s3, hs3⟩ : ∃ s3 : Shared, s3 = { s2 with heap := hp3 } := ⟨_, rfl⟩
  obtain ⟨H3, hH3⟩ : ∃ H3 : Hp, H3 = upd H2 s2.heap.objs.size (.lst []) := ⟨_, rfl⟩
  have heap3 : s3.heap = hp3 := by rw [hs3]
  rw [← hH3] at I3
  have I3' : Inv X pins σ H3 s3 := by rw [hs3]; exact I3
  have hloc : H3 hp3.objs.size = none := by have := I3'.hok.fresh (a := hp3.objs.size) (by rw [heap3]; exact Nat.le_refl _); exact this
  have okc : (cxComp X (N' ++ [gx]) scope cl fp s3 H3).Ok := by
    refine ⟨I3.ok.mod, ?_, I3.ok.glob, I3.ok.blt, Nat.le_refl _, fun x y a h1 h2 => I3.ok.inj x y a (hcl x a h1) (hcl y a h2), fun x hx => hhas x hx, fun x a h => (nomatch h), I3.ok.hd, I3.ok.qt, I3.ok.frames, .inl rfl, fun b hb => ⟨?_, fun x a h => (f2 b hb).2.2.2.2.1 x a (hcl x a h)⟩,
      I3'.bs, Nat.le_trans I3.ok.bsz I3'.sz, fun b o e hb => ?_, fun b hb => fpst b hb, I3'.stack, I3'.stkFree⟩
    · exact hkind
    · show b ≠ s3.heap.objs.size
      rw [heap3, hsz3]
      exact Nat.ne_of_lt (Nat.lt_succ_of_lt (fplt b hb))
    · rcases (f2 b hb).2.2.2.1 with z | z
      · exact I3.ok.noex b o e z
      · exact absurd (Nat.lt_of_lt_of_le (Heap.lt_size (I3.ok.bs b o e).1) z) (Nat.lt_irrefl _)
  have I4 : Inv (cxComp X (N' ++ [gx]) scope cl fp s3 H3) [] (capF cap σ ++ [some .non]) H3 { s2 with heap := h₁, toks := s2.toks + ([] : List (Str × Value)).length } := by
    refine ⟨okc, by show s2.os = s3.os; rw [hs3], I3.bare, Un.kept (by show ∀ b o, s3.heap.get? b = some o → _; rw [heap3]; exact kept3), ⟨_, (by show h₁.Ns s3.heap.objs.size _; rw [heap3]; exact hns₁), fun i x v e1 e2 e3 => ?_⟩, fun x a h => ?_, (by show H3 s3.heap.objs.size = none; rw [heap3]; exact hloc), fun x a h => I3.freeC x a (hcl x a h), fun p hp => ?_, I3.hok.kept kept3, ?_⟩
    · have lenS : (capF cap σ).length = N'.length := by unfold capF; rw [List.length_map]; exact hlen
      have hlt : i < N'.length := by
        rcases Nat.lt_trichotomy i N'.length with z | z | z
        · exact z
        · exfalso
          have e1' : (N' ++ [gx])[i]? = some x := e1
          rw [z, List.getElem?_append_right (Nat.le_refl _), Nat.sub_self] at e1'
          have : gx = x := by simpa using e1'
          subst this
          have e3' : Vis (relabel scope X.env) gx := e3
          rcases e3' with q | q | q <;> rw [hgx] at q <;> cases q
        · exfalso
          have e1' : (N' ++ [gx])[i]? = some x := e1
          rw [List.getElem?_eq_none (by simp; omega)] at e1'
          cases e1'
      have e1 : N'[i]? = some x := by have q : (N' ++ [gx])[i]? = some x := e1; rwa [List.getElem?_append_left hlt] at q
      have e2 : (capF cap σ)[i]? = some (some v) := by rwa [List.getElem?_append_left (by rw [lenS]; exact hlt)] at e2
      obtain ⟨j, h1, h2⟩ := capF_get e2
      obtain ⟨hN, hv, hnl, hk⟩ := hcap i j x h1 e1
      obtain ⟨m, _, hl⟩ := I3.loc
      obtain ⟨u, r, lk⟩ := hl j x v hN h2 hv
      refine ⟨u, r, .inr ⟨hk, ?_⟩⟩
      obtain ⟨a, ha⟩ := hhas x hk
      rcases lk with ⟨z, _⟩ | ⟨_, a', z1, z2⟩
      · exact absurd z hnl
      · have : a' = a := by have q := hcl x a ha; rw [z1] at q; exact Option.some.inj q
        subst this
        obtain ⟨o, ho, hd⟩ := z2
        exact ⟨a', ha, o, kept3 _ _ ho, hd⟩
    · obtain ⟨v, o, ho, hd⟩ := I3.cell x a (hcl x a h)
      exact ⟨v, o, kept3 _ _ ho, hd⟩
    · have hp' : p ∈ X.pn ++ pins := List.mem_append_left _ (by simpa using (show p ∈ X.pn ++ [] from hp))
      obtain ⟨z1, z2, z3, z4, z5⟩ := I3'.pin p hp'
      refine ⟨kept3 _ _ (by rw [← heap3]; exact z1), z2, (show p.1 ≠ s3.heap.objs.size from Nat.ne_of_lt (Heap.lt_size z1)), fun z => ?_, z5⟩
      rcases List.mem_cons.mp (I3'.stkSub p.1 z) with e | e
      · exact z3 e
      · exact z4 e
    · show (capF cap σ ++ [some V.non]).length = (N' ++ [gx]).length
      unfold capF
      rw [List.length_append, List.length_append, List.length_map, hlen]
      rfl
  have hμ1 : μ1 s2.heap.objs.size = none := S1.mu.free hfree2
  have sub1 : ∀ ys a ds, μ1 a = some ds → muSet μ1 s2.heap.objs.size ys a = some ds := fun ys a ds e => by
    have : a ≠ s2.heap.objs.size := fun z => by rw [z, hμ1] at e; cases e
    rw [muSet_ne this]; exact e
  obtain ⟨G, hG⟩ : ∃ G : PQ, G = fun K _ μ H => RhoOk K μ H ρ σ := ⟨_, rfl⟩
  have hGr : ∀ u μ H, G X.K u μ H → RhoOk X.K μ H ρ σ := fun u μ H h => by rw [hG] at h; exact h
  have S3r : St0 X.K H3 ρ μ1 σ := by rw [hH3]; exact S1.new hfree2
  have loop : codeAny (model X.prog X.w) X.A (.compLoop (.ListComp elt [⟨tg, iter, [], 0⟩] scope pos) 0 (.ref it) (.ref s2.heap.objs.size) (cxComp X (N' ++ [gx]) scope cl fp s3 H3).env)
      (compPost (model X.prog X.w) X.A X.xe none (EP X pins σ Q) (.ref s2.heap.objs.size) hp3.objs.size) { s2 with heap := h₁, toks := s2.toks + ([] : List (Str × Value)).length } := by
    refine codeAny_compLoopG (fun n s' => ∃ (i : Nat) (σc : St) (Hc : Hp), n = xs.length - i ∧ i ≤ xs.length ∧ Inv (cxComp X (N' ++ [gx]) scope cl fp s3 H3) [] σc Hc s' ∧ tn i s'.heap ∧ (∀ b ∈ fp, Hc b = none) ∧
      St0 X.K Hc (capF cap ρ ++ [some (D.q G)]) (muSet μ1 s2.heap.objs.size ((List.range i).map f)) σc ∧ Ext X.K μ1 H2 (muSet μ1 s2.heap.objs.size ((List.range i).map f)) Hc) ?_ xs.length
      ⟨0, capF cap σ ++ [some .non], H3, by simp, Nat.zero_le _, I4, T.keep 0 _ _ st2 (fun b hb o e => kept3 b o (old3 b o e)), fun b hb => ?_, ?_, ?_⟩
    · rintro n s' ⟨i, σc, Hc, rfl, hi, Ic, tc, frc, Sc, Ec⟩
      have stat : ∀ {Hd : Hp}, (∀ b ∈ fp, Hd b = none) → ∀ b ∈ fp, FpOk (cxComp X (N' ++ [gx]) scope cl fp s3 H3) [] Hd b := fun hn b hb =>
        ⟨hn b hb, (okc.exf b hb).1, fpst b hb, .inl hb, fun x a h => (okc.exf b hb).2 x a h, fun p hp => (f2 b hb).2.2.2.2.2 p (List.mem_append_left _ (by simpa using (show p ∈ X.pn ++ [] from hp)))⟩
      obtain ⟨go, stop⟩ := itok _ Hc Ec Sc.mu i
      by_cases hlt : i < xs.length
      · obtain ⟨g1, y1⟩ := go hlt
        refine thn (T.item (cxComp X (N' ++ [gx]) scope cl fp s3 H3) rfl rfl rfl (fun z => z) i [] s' σc Hc (fun _ _ => False) Ic (stat frc) tc g1) fun r s4 ⟨u, hr, h4⟩ => ?_
        subst hr
        refine thn h4 fun _ s5 ⟨x, H5, I5, r5, y5, st5, fr5⟩ => ?_
        obtain ⟨d, hd, sm, rd⟩ := y1 x H5 y5
        have I5' := I5.pinned (stat fr5) (T.obj _ _ st5)
        have e5 : Ext X.K _ Hc _ H5 := .of_same (μ := muSet μ1 s2.heap.objs.size ((List.range i).map f)) sm
        have S5 : St0 X.K H5 (capF cap ρ ++ [some (D.q G)]) (muSet μ1 s2.heap.objs.size ((List.range i).map f)) σc := ⟨Sc.mu.ext0 e5 sm, Sc.rho.ext Sc.mu e5⟩
        obtain ⟨gt, pg, lg⟩ := hg fp s3 H3
        have hmem : d ∈ xs := List.mem_of_getElem? hd
        refine thn (pg _ s5 σc H5 x u (fun σ' H' => ∃ ρ' μ', Ext X.K (muSet μ1 s2.heap.objs.size ((List.range i).map f)) H5 μ' H' ∧ St0 X.K H' ρ' μ' σ' ∧ Le (capF cap ρ ++ [some (D.q G)]) ρ' ∧ te ρ G ρ' μ' fun d' μ4 => μ4 = muSet μ1 s2.heap.objs.size ((List.range i).map f) ∧ d' = .v (f i)) I5' r5
          (lg σc H5 (capF cap ρ ++ [some (D.q G)]) _ d x _ _ S5 rd (body G i d hd _ (sub1 _)) fun σ' ρ' μ' H' e' S' q => ⟨ρ', μ', e', S', q⟩)) fun _ s6 ⟨σ6, H6, I6, ρ6, μ6, e6, S6, le6, q6⟩ => ?_
        have again : ∀ {H9 : Hp} {s9 : Shared}, Inv (cxComp X (N' ++ [gx]) scope cl fp s3 H3) ([] ++ pinsAt fp s5.heap) σ6 H9 s9 → MuOk X.K (muSet μ1 s2.heap.objs.size ((List.range (i + 1)).map f)) H9 → RhoOk X.K (muSet μ1 s2.heap.objs.size ((List.range (i + 1)).map f)) H9 (capF cap ρ ++ [some (D.q G)]) σ6 →
            Ext X.K μ1 H2 (muSet μ1 s2.heap.objs.size ((List.range (i + 1)).map f)) H9 → ∃ m, m < xs.length - i ∧ ∃ (i : Nat) (σc : St) (Hc : Hp), m = xs.length - i ∧ i ≤ xs.length ∧ Inv (cxComp X (N' ++ [gx]) scope cl fp s3 H3) [] σc Hc s9 ∧ tn i s9.heap ∧ (∀ b ∈ fp, Hc b = none) ∧
              St0 X.K Hc (capF cap ρ ++ [some (D.q G)]) (muSet μ1 s2.heap.objs.size ((List.range i).map f)) σc ∧ Ext X.K μ1 H2 (muSet μ1 s2.heap.objs.size ((List.range i).map f)) Hc := fun {H9 s9} I9 m9 r9 e9 => by
          refine ⟨xs.length - (i + 1), by omega, i + 1, σ6, H9, rfl, hlt, I9.unpinned, T.keep _ _ _ st5 fun b hb o e => (I9.pin (b, o) (List.mem_append_right _ (List.mem_append_right _ (mem_pinsAt hb e)))).1, fun b hb => ?_, ⟨m9, r9⟩, e9⟩
          obtain ⟨o, e, _⟩ := T.obj _ _ st5 b hb
          exact (I9.pin (b, o) (List.mem_append_right _ (List.mem_append_right _ (mem_pinsAt hb e)))).2.1
        refine wpAny_tests_nil (iteT ?_)
        · skip
          obtain ⟨t8, p8, l8⟩ := he fp s3 H3 pins σ ρ μ1 G I3' S3r (fun b hb x a h => (f2 b hb).2.2.2.2.1 x a h) hGr
          refine thn (p8 _ s6 σ6 H6 (fun v H' => ∃ y, Ext X.K μ6 H6 (muSet μ1 s2.heap.objs.size ((List.range i).map f)) H' ∧ St0 X.K H' ρ6 (muSet μ1 s2.heap.objs.size ((List.range i).map f)) σ6 ∧ Rp X.K (muSet μ1 s2.heap.objs.size ((List.range i).map f)) H' y v ∧ f i = y) I6
            (l8 σ6 H6 ρ6 μ6 _ _ S6 q6 fun d' v μ8 H8 e8 S8 r8 q8 => ?_)) fun v s8 ⟨v8, H8, I8, r8, y, e8, S8, ry, fy⟩ => ?_
          · obtain ⟨rfl, rfl⟩ := q8
            exact ⟨_, e8, S8, r8, rfl⟩
          · obtain ⟨us, hacc, rus⟩ := S8.mu s2.heap.objs.size _ muSet_same
            have hle : ((List.range i).map f).length ≤ 1000 := by rw [List.length_map, List.length_range]; omega
            refine thn (mt_append (X := cxComp X (N' ++ [gx]) scope cl fp s3 H3) _ s8 σ6 H8 (.ref s2.heap.objs.size) [v8] (.ref s2.heap.objs.size) [v] (fun _ H' => H' = upd H8 s2.heap.objs.size (.lst (us ++ [v8]))) I8 rfl (.cons r8 .nil) ⟨_, us, v8, rfl, rfl, hacc, by rw [← rus.length]; exact small1000 hle, rfl⟩) fun _ s9 ⟨_, H9, I9, _, e9⟩ => ?_
            subst e9
            have et : (List.range (i + 1)).map f = (List.range i).map f ++ [y] := by rw [List.range_succ, List.map_append, ← fy]; rfl
            have mset : muSet (muSet μ1 s2.heap.objs.size ((List.range i).map f)) s2.heap.objs.size ((List.range (i + 1)).map f) = muSet μ1 s2.heap.objs.size ((List.range (i + 1)).map f) := muSet_set
            have ex : Ext X.K (muSet μ1 s2.heap.objs.size ((List.range i).map f)) H8 (muSet μ1 s2.heap.objs.size ((List.range (i + 1)).map f)) (upd H8 s2.heap.objs.size (.lst (us ++ [v8]))) := by
              rw [← mset]
              exact ext_set muSet_same
            refine again I9 ?_ ((S8.rho.le le6).ext S8.mu ex) (Ec.trans (e5.trans (e6.trans (e8.trans ex))))
            rw [← mset]
            refine S8.mu.set muSet_same ?_
            rw [et]
            exact rus.append (.cons ry .nil)
      · have ei : i = xs.length := by omega
        subst ei
        refine thn (T.done (cxComp X (N' ++ [gx]) scope cl fp s3 H3) rfl rfl rfl (fun z => z) _ [] s' σc Hc (fun _ _ => False) Ic (stat frc) tc (stop rfl)) fun r s4 ⟨hr, I5⟩ => ?_
        subst hr
        obtain ⟨m, hn, _⟩ := I5.loc
        refine ⟨m, (by have z : s4.heap.Ns s3.heap.objs.size m := hn; rw [heap3] at z; exact z), fun h' hs' => ?_⟩
        have kp : ∀ b o, b < s2.heap.objs.size → s4.heap.get? b = some o → h'.get? b = some o := fun b o hb e => hs'.extBut b o (by rw [hsz3]; exact Nat.ne_of_lt (Nat.lt_succ_of_lt hb)) e
        have hcC : Hc hp3.objs.size = none := by have z : Hc s3.heap.objs.size = none := I5.free; rw [heap3] at z; exact z
        have hok' : HOk X.prog X.w Hc h' := fun b ob e => by
          refine (I5.hok b ob e).stay (fun cc v hcc q => hs'.extBut cc v ?_ q) (fun _ q => q) fun _ _ q => q
          rintro rfl
          rcases hcc with z | z
          · rw [← z, hcC] at e; cases e
          · rw [hcC] at z; cases z
        have u1 : Un (frs X.stack) fp H2 H3 s2.heap s3.heap := by rw [heap3, hH3]; exact Un.laid old3 (Nat.le_refl _) hfree2
        have u2 : Un (frs X.stack) fp H3 Hc s3.heap s4.heap := I5.base
        have If : Inv X pins σ Hc { s4 with heap := h' } := I2.call' (ch := fp) (by show s4.os = s2.os; have z : s4.os = s3.os := I5.os; rw [z, hs3]) (Un.after (u1.trans u2) kp) hok' I5.bare fun b hb => ⟨(f2 b hb).2.2.2.1, (f2 b hb).2.1, (f2 b hb).2.2.2.2.1, (f2 b hb).2.2.2.2.2⟩
        obtain ⟨us, hacc, rus⟩ := Sc.mu s2.heap.objs.size _ muSet_same
        have shr : ∀ a, muSet μ1 s2.heap.objs.size ((List.range xs.length).map f) a = none → μ1 a = none := fun a e => by
          by_cases ha : a = s2.heap.objs.size
          · rw [ha]; exact hμ1
          · rw [muSet_ne ha] at e; exact e
        have eF : Ext X.K μ1 H2 μ1 Hc := ⟨Ec.keep, Ec.tb, fun _ ds q => ⟨ds, q⟩, fun _ q _ => q⟩
        have mF : MuOk X.K μ1 Hc := ⟨fun a ds q => by
          obtain ⟨ys, z1, z2⟩ := Sc.mu a ds (sub1 _ a ds q)
          exact ⟨ys, z1, z2.shrink shr⟩, Sc.mu.tab⟩
        exact ⟨.ref s2.heap.objs.size, Hc, If, rfl, k (.v (.list ((List.range xs.length).map f))) _ μ1 Hc (e1.trans eF) ⟨mF, S1.rho.ext S1.mu eF⟩ (Rp.list hacc hμ1 (rus.shrink shr)) fin⟩
    · have z : b ≠ s2.heap.objs.size := Nat.ne_of_lt (fplt b hb)
      rw [hH3, upd_ne z]
      exact (f2 b hb).1
    · have ex := ext_mut (o := .lst []) (ds := []) S1.mu hfree2 hK2
      rw [hH3]
      exact ⟨S1.mu.mut .nil hfree2 hK2, rho_app (S1.rho.ext S1.mu ex).cap (fun μ' H' e' => by rw [hG]; exact (S1.rho.ext S1.mu ex).ext (S1.mu.mut .nil hfree2 hK2) e')⟩
    · rw [hH3]
      exact ext_mut (o := .lst []) (ds := []) S1.mu hfree2 hK2
  have envE : (cxComp X (N' ++ [gx]) scope cl fp s3 H3).env = compEnvC scope cl hp3.objs.size X.env := by show compEnvC scope cl s3.heap.objs.size X.env = _; rw [heap3]
  rw [envE] at loop
  exact codeAny_compStart_list loop (T.self X.A 0 _ _ _ (T.keep 0 _ _ st2 (fun b hb o e => kept3 b o (old3 b o e))) loop)
open PySem PySem.Spec PyProof.Rows
structure RefE where
  P : PQ
  cap : List (Option Nat)
  tx : DTX
  nm : PyData
def dRefV (ρo : Rho) (G : PQ) (gi vi : Nat) (tb : List RefE) : DTE := fun ρ μ Q => ρ[gi]? = some (some (.q G)) ∧ ∃ e ∈ tb, ρ[vi]? = some (some (.q e.P)) ∧ e.tx (capF e.cap ρo) μ fun μ' => Q (.v e.nm) μ'
def RefEOk (X : Cx) (k : Nat) (f : Addr) (fd : FuncData) (dn : Str) (e : RefE) : Prop :=
  ∃ (C : Value) (q : Str) (params : Arguments) (body : Expr) (lsc : Scope) (cl : List (Str × Addr)) (N' : List Str) (nm : Str), e.nm = .str nm ∧ e.P = LamV q params body lsc cl ∧ RefOk X.prog X.w X.K X.mg X.base k f fd dn C nm ∧
    (∀ (A' : Around) (outer' : List Env) (s' : Shared) (H' : Hp) (fa c1 : Addr) (E : XK), Room (k - 1) (cxLam X.prog X.w X.K X.mg X.base N' lsc cl (lamQual q) fa c1 A' outer' s' H' E).A → XE (cxLam X.prog X.w X.K X.mg X.base N' lsc cl (lamQual q) fa c1 A' outer' s' H' E) E C body e.tx) ∧
    (∀ (pm ctv : Value) (c1 : Addr), bindArgs (PySem.W.kla_fn "<lambda>" (lamQual q) params body lsc cl pm (.ref c1) ctv) ⟨[], []⟩ = pure []) ∧ lsc.kind = .function ∧ lsc.isCoroutine = false ∧ lsc.isGenerator = false ∧ (∀ y ∈ lsc.names, y.2 ≠ .cell) ∧
    (∀ x a, cl.lookup x = some a → X.env.cells.lookup x = some a) ∧ (∀ x, lsc.names.lookup x = some .cell ∨ lsc.names.lookup x = some .free → ∃ a, cl.lookup x = some a) ∧ e.cap.length = N'.length ∧
    (∀ (i j : Nat) (x : Str), e.cap[i]? = some (some j) → N'[i]? = some x → X.N[j]? = some x ∧ Vis X.env.scope x ∧ X.env.kindOf x ≠ some .local ∧ lsc.names.lookup x = some .free)
theorem ref_e {X : Cx} {k : Nat} {f : Addr} {fd : FuncData} {dn q nm : Str} {C : Value} {params : Arguments} {body : Expr} {lsc : Scope} {cl : List (Str × Addr)} {N' : List Str} {cap : List (Option Nat)} {tx : DTX}
    (R : RefOk X.prog X.w X.K X.mg X.base k f fd dn C nm) (he : ∀ (A' : Around) (outer' : List Env) (s' : Shared) (H' : Hp) (fa c1 : Addr) (E : XK), Room (k - 1) (cxLam X.prog X.w X.K X.mg X.base N' lsc cl (lamQual q) fa c1 A' outer' s' H' E).A → XE (cxLam X.prog X.w X.K X.mg X.base N' lsc cl (lamQual q) fa c1 A' outer' s' H' E) E C body tx)
    (hbind : ∀ (pm ctv : Value) (c1 : Addr), bindArgs (PySem.W.kla_fn "<lambda>" (lamQual q) params body lsc cl pm (.ref c1) ctv) ⟨[], []⟩ = pure [])
    (hkind : lsc.kind = .function) (hco : lsc.isCoroutine = false) (hgen : lsc.isGenerator = false) (hcell : ∀ y ∈ lsc.names, y.2 ≠ .cell) (hcl : ∀ x a, cl.lookup x = some a → X.env.cells.lookup x = some a) (hhas : ∀ x, lsc.names.lookup x = some .cell ∨ lsc.names.lookup x = some .free → ∃ a, cl.lookup x = some a)
    (hlen : cap.length = N'.length) (hcap : ∀ (i j : Nat) (x : Str), cap[i]? = some (some j) → N'[i]? = some x → X.N[j]? = some x ∧ Vis X.env.scope x ∧ X.env.kindOf x ≠ some .local ∧ lsc.names.lookup x = some .free) :
    RefEOk X k f fd dn ⟨LamV q params body lsc cl, cap, tx, .str nm⟩ := ⟨C, q, params, body, lsc, cl, N', nm, rfl, rfl, R, he, hbind, hkind, hco, hgen, hcell, hcl, hhas, hlen, hcap⟩
def RefsOk (X : Cx) (k : Nat) (f : Addr) (fd : FuncData) (dn : Str) (tb : List RefE) : Prop := ∀ e ∈ tb, RefEOk X k f fd dn e
theorem refs_nil {X : Cx} {k : Nat} {f : Addr} {fd : FuncData} {dn : Str} : RefsOk X k f fd dn [] := fun _ h => nomatch h
theorem refs_cons {X : Cx} {k : Nat} {f : Addr} {fd : FuncData} {dn : Str} {e : RefE} {tb : List RefE} (h : RefEOk X k f fd dn e) (t : RefsOk X k f fd dn tb) : RefsOk X k f fd dn (e :: tb) := fun x hx => by
  rcases List.mem_cons.mp hx with rfl | hx
  · exact h
  · exact t x hx
theorem de_refuseV {X : Cx} {k : Nat} {f : Addr} {fd : FuncData} {dn rn vn : Str} {N₁ : List Str} {scope : Scope} {cl₀ : List (Str × Addr)} {fp : List Addr} {s₃ : Shared} {H₃ : Hp} {pins : List (Addr × Obj)} {σ : St} {ρo : Rho} {G : PQ} {gi vi : Nat} {tb : List RefE} {p pv pos : Pos}
    (I3 : Inv X pins σ H₃ s₃) (hfp : ∀ b ∈ fp, ∀ x a, X.env.cells.lookup x = some a → a ≠ b) (hG : ∀ u μ H, G X.K u μ H → RhoOk X.K μ H ρo σ) (T : RefsOk X k f fd dn tb)
    (hr : Room (k + 1) X.A) (hk0 : 0 < k) (hg : Gl (cxComp X N₁ scope cl₀ fp s₃ H₃) rn) (hm : X.mg rn = some (.ref f)) (hk : PySem.W.keepIn X.K (.ref f) = true) (hb : Binds X.K fd [dn] [])
    (hN : N₁[vi]? = some vn) (hv : Vis (cxComp X N₁ scope cl₀ fp s₃ H₃).env.scope vn)
    (hdb : (rn == ("__debug__" : Str)) = false := by decide) (hd : (vn == ("__debug__" : Str)) = false := by decide) (hcd : (vn == ("__classdict__" : Str)) = false := by decide)
    (hst : starEach [.Name vn pv] (cxComp X N₁ scope cl₀ fp s₃ H₃).env = [(false, eval (.Name vn pv) (cxComp X N₁ scope cl₀ fp s₃ H₃).env)] := by rfl) :
    DE (cxComp X N₁ scope cl₀ fp s₃ H₃) (.Call (.Name rn p) [.Name vn pv] [] pos) (dRefV ρo G gi vi tb) := by
  refine de_of fun pins' s' σ' H' ρ' μ' Qd Q I S h kk => ?_
  obtain ⟨hgi, e, he, hvi, htx⟩ := h
  obtain ⟨C, q, params, body, lsc, cl, N', nm, hnm, hP, R, hbody, hbind, hkind, hco, hgen, hcell, hcl, hhas, hlen, hcap⟩ := T e he
  obtain ⟨ug, hug, rg⟩ := S.rho.2 gi _ hgi
  have rr : RhoOk X.K μ' H' ρo σ := hG ug μ' H' (rg μ' H' .refl)
  obtain ⟨ul, hul, rl⟩ := S.rho.2 vi _ hvi
  rw [hP] at rl
  rw [hnm] at htx
  obtain ⟨fa, c1, rfl, hfa, hc1, n1, n2⟩ := rl μ' H' .refl
  refine wpAny_Call_Name_kw (ld_glob I hg hm ?_ hdb)
  have pa : PA (cxComp X N₁ scope cl₀ fp s₃ H₃) [.Name vn pv] (tCons (tVar vi) tNil) := pa_cons (pe_var hN hv hd hcd) pa_nil (by rw [hst]; rfl)
  refine PySem.W.callWith_K (h₀ := X.base) I.ok.mod.kin hk (thn (pa pos pins' s' σ' H' (fun xs H1 => xs = [.ref fa] ∧ H1 = H') I ⟨.ref fa, hul, rfl, rfl⟩) fun us s1 ⟨vs, H1, I1, r, z1, z2⟩ => ⟨I1.kIn, ?_⟩) (by rw [hst]; rfl) rfl
  subst z1 z2
  obtain rfl : us = [.ref fa] := by
    cases r with
    | cons r1 r2 => cases r2; cases r1; rfl
  refine wpAny_call (codeAny_mono (R.run X.A X.stack s1 H1 fa (fun H' => ∃ μ'', Ext X.K μ' H1 μ'' H' ∧ MuOk X.K μ'' H' ∧ Qd (.v (.str nm)) μ'') Q hr I1.env0 (hb s1 [.ref fa] I1.kIn rfl) (fun A' outer' s' hr' e0' un => ?_) fun H' ⟨μ'', e', ok', q'⟩ => ?_) fun r s' hq' => ?_)
  · obtain ⟨⟨pm, ctv, ho'⟩, _, _⟩ := e0'.hok fa _ hfa
    refine ⟨⟨_, _, _, _, ho'⟩, ?_⟩
    obtain ⟨k', rfl⟩ : ∃ k', k = k' + 1 := ⟨k - 1, by omega⟩
    obtain ⟨t, pe, l⟩ := hbody A' outer' s' H1 fa c1 (fun cls _ H' => cls = C ∧ ∃ μ'', Ext X.K μ' H1 μ'' H' ∧ MuOk X.K μ'' H' ∧ Qd (.v (.str nm)) μ'') (hr'.deeper _)
    have base : Un (cxComp X N₁ scope cl₀ fp s₃ H₃).fs fp H₃ H1 s₃.heap s1.heap := I1.base
    have nfp : ∀ x cc, X.env.cells.lookup x = some cc → cc ∉ fp := fun x cc hx z => hfp cc z x cc hx rfl
    have frC : ∀ x cc, X.env.cells.lookup x = some cc → H1 cc = none := fun x cc hx => by
      obtain ⟨v, oc, ec, dc⟩ := I3.cell x cc hx
      exact base.free cc oc ec (I3.freeC x cc hx) (nfp x cc hx)
    have cellK : ∀ x cc v, X.env.cells.lookup x = some cc → s₃.heap.IsCell cc v → s'.heap.IsCell cc v := fun x cc v hx ⟨oc, ec, dc⟩ => by
      obtain ⟨sl, e2⟩ := base.any ec (I3.freeC x cc hx) (nfp x cc hx)
      obtain ⟨sl', e3⟩ := un.any e2 (frC x cc hx) (fun z => nomatch z)
      exact ⟨_, e3, dc⟩
    refine lam_call (σ := capF e.cap σ) (N := N') hkind hco hgen hcell hr' e0' ho' hc1 (hbind pm ctv c1) ⟨fun x cc hx => ?_, fun x cc hx => frC x cc (hcl x cc hx), fun x y cc h1 h2 => I3.ok.inj x y cc (hcl x cc h1) (hcl y cc h2), hhas, fun i x v h1 h2 h3 => ?_, ?_⟩ pe (l _ H1 (capF e.cap ρo) μ' (fun μ'' => Qd (.v (.str nm)) μ'') _ ⟨S.mu, rr.cap⟩ htx fun μ'' H' e' ok' q' => ⟨rfl, μ'', e', ok', q'⟩)
    · obtain ⟨v, hv⟩ := I3.cell x cc (hcl x cc hx)
      exact ⟨v, cellK x cc v (hcl x cc hx) hv⟩
    · obtain ⟨j, j1, j2⟩ := capF_get h2
      obtain ⟨hN, hv, hnl, hfree⟩ := hcap i j x j1 h1
      obtain ⟨m, _, hll⟩ := I3.loc
      obtain ⟨u, ru, lk⟩ := hll j x v hN j2 hv
      obtain ⟨a, ha⟩ := hhas x (.inr hfree)
      rcases lk with ⟨z, _⟩ | ⟨_, a', z1, z2⟩
      · exact absurd z hnl
      · obtain rfl : a' = a := by have qq := hcl x a ha; rw [z1] at qq; exact Option.some.inj qq
        exact ⟨u, a', ru, hfree, ha, cellK x a' _ z1 z2⟩
    · unfold capF; rw [List.length_map]; exact hlen
  · exact ⟨μ'', ok', fun H'' e'' ok'' => kk (.v (.str nm)) (.str nm) μ'' H'' (e'.trans e'') ⟨ok'', S.rho.ext S.mu (e'.trans e'')⟩ (Rp.str nm) q'⟩
  · cases r with
    | error e => exact hq'.elim
    | ok fl =>
      cases fl with
      | ret u => exact I1.after hq'
      | next => exact hq'.elim
      | brk => exact hq'.elim
      | cont => exact hq'.elim
def xOr (tx ty : DTX) : DTX := fun ρ μ Xk => tx ρ μ Xk ∨ ty ρ μ Xk
theorem xss_or {X : Cx} {E : XK} {C : Value} {sts : List Stmt} {tx ty : DTX} (h1 : XSs X E C sts tx) (h2 : XSs X E C sts ty) : XSs X E C sts (xOr tx ty) := by
  obtain ⟨t1, p1, l1⟩ := h1
  obtain ⟨t2, p2, l2⟩ := h2
  refine ⟨fun D σ H => t1 D σ H ∨ t2 D σ H, fun pins s σ H D I h => h.elim (p1 pins s σ H D I) (p2 pins s σ H D I), fun σ H ρ μ Xk D S h wsh => ?_⟩
  rcases h with h | h
  · exact .inl (l1 σ H ρ μ Xk D S h wsh)
  · exact .inr (l2 σ H ρ μ Xk D S h wsh)
theorem q_xOr {tx ty : DTX} {ρ : Rho} {μ : Mu} {Xk : Mu → Prop} : xOr tx ty ρ μ Xk = (tx ρ μ Xk ∨ ty ρ μ Xk) := propext Iff.rfl
theorem comp_refs {ρ : Rho} {μ : Mu} {Q : DK} {i : Nat} {tb : List RefE} {nm : Str} (hi : ρ[i]? = some (some (.q (QL (tb.map fun e => .q e.P))))) (hl : tb.length ≤ 1000) (hnm : ∀ e ∈ tb, e.nm = .str nm) (hs : SeqAt.shaped (.str nm) = true)
    (htx : ∀ e ∈ tb, ∀ μ' : Mu, (∀ a es, μ a = some es → μ' a = some es) → ∀ Xk : Mu → Prop, Xk μ' → e.tx (capF e.cap ρ) μ' Xk) (q : Q (.v (.list ((List.range tb.length).map fun _ => .bool true))) μ) :
    dCompQ [none] (dVar i) (gdName 0) (fun ρo G => dOp (rEqD false) (dRefV ρo G 1 0 tb) (dC (.str nm))) ρ μ Q := by
  unfold dCompQ diQ dVar
  rw [hi]
  refine ⟨_, rfl, by rw [List.length_map]; exact hl, fun _ => .bool true, fun G j x hx μ' sub => ⟨⟨rfl, trivial⟩, rfl, ?_⟩, by rw [List.length_map]; exact q⟩
  rw [List.getElem?_map] at hx
  cases he : tb[j]? with
  | none => rw [he] at hx; cases hx
  | some e =>
    rw [he] at hx
    cases hx
    have hm := List.mem_of_getElem? he
    refine ⟨e, hm, rfl, htx e hm μ' sub _ ?_⟩
    rw [hnm e hm]
    exact ⟨hs, hs, rfl, by rw [SeqAt.eqv_refl _ (SeqAt.canLay_of_shaped hs)]; rfl⟩
theorem q_kq {P : PQ} {ρ : Rho} {μ : Mu} {Q : DK} : dKq P ρ μ Q = Q (.q P) μ := propext Iff.rfl
theorem q_lstQ {t : DTA} {ρ : Rho} {μ : Mu} {Q : DK} : dLstQ t ρ μ Q = t ρ μ fun ds μ1 => Q (.q (QL ds)) μ1 := propext Iff.rfl
end L2.DL
set_option linter.all false
set_option maxRecDepth 100000
set_option maxHeartbeats 1000000
namespace NM
section
variable {d : Int} {x y z k s o : N3} {A B C A' B' C' P Q R E F G : Int}
theorem Rep.conv (h : Rep x A B C) (hc : C' ≠ 0) (e1 : A * C' = A' * C) (e2 : B * C' = B' * C) : Rep x A' B' C' := by
  obtain ⟨h0, h1, h2⟩ := h
  refine ⟨hc, Int.eq_of_mul_eq_mul_right h0 ?_, Int.eq_of_mul_eq_mul_right h0 ?_⟩
  · have : x.a * C' * C = (x.a * C) * C' := by grind
    rw [this, h1]
    have : A * x.c * C' = (A * C') * x.c := by grind
    rw [this, e1]
    grind
  · have : x.b * C' * C = (x.b * C) * C' := by grind
    rw [this, h2]
    have : B * x.c * C' = (B * C') * x.c := by grind
    rw [this, e2]
    grind
theorem rep_b0 (h : Rep x A B C) (ox : Ok x) : x.b = 0 ↔ B = 0 := by
  have e := h.b
  constructor
  · intro z
    rw [z, Int.zero_mul] at e
    exact (Int.mul_eq_zero.mp e.symm).resolve_right ox.cn
  · intro z
    rw [z, Int.zero_mul] at e
    exact (Int.mul_eq_zero.mp e).resolve_right h.c
theorem le_sq {u v : Int} (hv : v ≠ 0) : 0 ≤ u * (v * v) ↔ 0 ≤ u := by
  have h := sq_pos hv
  constructor
  · intro z
    rcases Int.lt_or_le u 0 with w | w
    · have := Int.mul_neg_of_neg_of_pos w h; omega
    · exact w
  · intro z; exact Int.mul_nonneg z (Int.le_of_lt h)
theorem le_posr {u v : Int} (hv : 0 < v) : 0 ≤ u * v ↔ 0 ≤ u := by
  constructor
  · intro z
    rcases Int.lt_or_le u 0 with w | w
    · have := Int.mul_neg_of_neg_of_pos w hv; omega
    · exact w
  · intro z; exact Int.mul_nonneg z (Int.le_of_lt hv)
theorem le_negr {u v : Int} (hv : v < 0) : 0 ≤ u * v ↔ u ≤ 0 := by
  have := le_posr (u := -u) (v := -v) (by omega)
  rw [Int.neg_mul_neg] at this
  omega
def isShare (d : Int) (x : N3) : Bool := decide (x.b = 0) && decide (0 ≤ sg d x.a x.b)
theorem sg0 {n : Int} : 0 ≤ sg d n 0 ↔ 0 ≤ n := by
  rw [sg_int]
  split
  · omega
  · split <;> omega
theorem rep_share (ox : Ok x) (h : Rep x A 0 C) : isShare d x = true ↔ 0 ≤ A * C := by
  have hb := (rep_b0 h ox).mpr rfl
  unfold isShare
  rw [hb]
  simp only [decide_true, Bool.true_and, decide_eq_true_eq, sg0]
  have e := h.a
  rw [← le_posr ox.c, ← le_sq (u := x.a * x.c) h.c]
  have e2 : x.a * x.c * (C * C) = (A * C) * (x.c * x.c) := by
    have : x.a * x.c * (C * C) = (x.a * C) * (x.c * C) := by grind
    rw [this, e]; grind
  rw [e2, le_sq ox.cn]
def shA (d : Int) (k s : N3) : N3 := times d s (contrary d k)
def prt (d : Int) (k : N3) : N3 := times d (contrary d k) (contrary d k)
def shV (d : Int) (k s : N3) : N3 := low ((shA d k s).b * (prt d k).c) 0 ((shA d k s).c * (prt d k).b)
def shU (d : Int) (k s : N3) : N3 := less (shA d k s) (times d (shV d k s) (prt d k))
def mixU (d : Int) (k s : N3) : N3 := if (times d k k).b = 0 then shA d k s else shU d k s
def mixV (d : Int) (k s : N3) : N3 := if (times d k k).b = 0 then nought else shV d k s
def isMix (d : Int) (k s : N3) : Bool := isShare d (mixU d k s) && isShare d (mixV d k s)
theorem b_low {a b c : Int} (hc : c ≠ 0) : (low a b c).b = 0 ↔ b = 0 := rep_b0 (rep_low hc) (low_ok _ _ hc)
theorem lone_iff (ok : Ok k) : (times d k k).b = 0 ↔ k.a * k.b = 0 := by
  unfold times
  rw [b_low (mulc ok ok)]
  have : k.a * k.b + k.b * k.a = 2 * (k.a * k.b) := by grind
  omega
theorem rep_con (hn : norm d k ≠ 0) : Rep (contrary d k) (k.c * k.a) (-k.c * k.b) (norm d k) := rep_low hn
theorem norm_ne (ok : Ok k) (hn : norm d k ≠ 0) (rk : Rep k P Q R) : P * P - d * Q * Q ≠ 0 := fun z => by
  have h := rk.norm (d := d)
  rw [z, Int.zero_mul] at h
  rcases Int.mul_eq_zero.mp h with w | w
  · exact hn w
  · rcases Int.mul_eq_zero.mp w with w | w <;> exact rk.c w
theorem ok_shA (os : Ok s) (hn : norm d k ≠ 0) : Ok (shA d k s) := ok_times os (ok_contrary hn)
theorem ok_prt (hn : norm d k ≠ 0) : Ok (prt d k) := ok_times (ok_contrary hn) (ok_contrary hn)
theorem rep_A (ok : Ok k) (os : Ok s) (hn : norm d k ≠ 0) (rk : Rep k P Q R) (rs : Rep s E F G) : Rep (shA d k s) (R * (E * P - d * F * Q)) (R * (F * P - E * Q)) (G * (P * P - d * Q * Q)) :=
  (Rep.times os (ok_contrary hn) rs (rk.contrary ok hn)).congr (by grind) (by grind) rfl
theorem rep_P (ok : Ok k) (hn : norm d k ≠ 0) (rk : Rep k P Q R) : Rep (prt d k) (R * R * (P * P + d * Q * Q)) (-(2 * (R * R * (P * Q)))) ((P * P - d * Q * Q) * (P * P - d * Q * Q)) :=
  (Rep.times (ok_contrary hn) (ok_contrary hn) (rk.contrary ok hn) (rk.contrary ok hn)).congr (by grind) (by grind) rfl
theorem prt_b (ok : Ok k) (hn : norm d k ≠ 0) (rk : Rep k P Q R) (hab : P * Q ≠ 0) : (prt d k).b ≠ 0 := fun z => by
  have := (rep_b0 (rep_P ok hn rk) (ok_prt hn)).mp z
  have h2 : R * R * (P * Q) = 0 := by omega
  exact (Int.mul_ne_zero (Int.mul_ne_zero rk.c rk.c) hab) h2
theorem lone_rep (ok : Ok k) (rk : Rep k P Q R) : P * Q = 0 ↔ k.a * k.b = 0 := by
  have e : (k.a * k.b) * (R * R) = (P * Q) * (k.c * k.c) := by
    have h1 := rk.a
    have h2 := rk.b
    have : (k.a * k.b) * (R * R) = (k.a * R) * (k.b * R) := by grind
    rw [this, h1, h2]; grind
  constructor
  · intro z
    rw [z, Int.zero_mul] at e
    exact (Int.mul_eq_zero.mp e).resolve_right (Int.mul_ne_zero rk.c rk.c)
  · intro z
    rw [z, Int.zero_mul] at e
    exact (Int.mul_eq_zero.mp e.symm).resolve_right (Int.mul_ne_zero ok.cn ok.cn)
theorem vv {wb wc pb pc r D g M N : Int} (e1 : wb * (g * N) = r * D * wc) (e2 : pb * (N * N) = -(2 * (r * r * M)) * pc) (hK : g * N * (N * N) ≠ 0) : wb * pc * (2 * (g * r * M)) = N * -D * (wc * pb) := by
  apply Int.eq_of_mul_eq_mul_right hK
  have a1 : wb * pc * (2 * (g * r * M)) * (g * N * (N * N)) = (wb * (g * N)) * (pc * (2 * (g * r * M)) * (N * N)) := by grind
  have a2 : N * -D * (wc * pb) * (g * N * (N * N)) = (N * -D * wc * (g * N)) * (pb * (N * N)) := by grind
  rw [a1, a2, e1, e2]
  grind
theorem rep_V (ok : Ok k) (os : Ok s) (hn : norm d k ≠ 0) (rk : Rep k P Q R) (rs : Rep s E F G) (hab : P * Q ≠ 0) : Rep (shV d k s) ((P * P - d * Q * Q) * (E * Q - F * P)) 0 (2 * (G * R * (P * Q))) := by
  have ra := rep_A ok os hn rk rs
  have rp := rep_P ok hn rk
  have hN := norm_ne ok hn rk
  have h1 := ra.b
  have h2 := rp.b
  have hc : (shA d k s).c * (prt d k).b ≠ 0 := Int.mul_ne_zero (ok_shA os hn).cn (prt_b ok hn rk hab)
  have h0 := rep_low (a := (shA d k s).b * (prt d k).c) (b := 0) hc
  have hC : 2 * (G * R * (P * Q)) ≠ 0 := Int.mul_ne_zero (by decide) (Int.mul_ne_zero (Int.mul_ne_zero rs.c rk.c) hab)
  refine Rep.conv h0 hC ?_ (by simp)
  have := vv h1 h2 (Int.mul_ne_zero (Int.mul_ne_zero rs.c hN) (Int.mul_ne_zero hN hN))
  rw [this]
  grind
theorem ok_shV (ok : Ok k) (os : Ok s) (hn : norm d k ≠ 0) (hab : k.a * k.b ≠ 0) : Ok (shV d k s) := low_ok _ _ (Int.mul_ne_zero (ok_shA os hn).cn (prt_b ok hn (rep_self ok) hab))
theorem uu {e f g p q r d N : Int} (hN : N = p * p - d * q * q) : (r * (e * p - d * f * q) * (2 * (g * (p * q) * N)) - r * (e * q - f * p) * (p * p + d * q * q) * (g * N)) * (2 * (g * (p * q))) = r * (e * q + f * p) * (g * N * (2 * (g * (p * q) * N))) := by
  have key : (e * p - d * f * q) * (2 * (p * q)) - (e * q - f * p) * (p * p + d * q * q) = (e * q + f * p) * N := by subst hN; grind
  have : (r * (e * p - d * f * q) * (2 * (g * (p * q) * N)) - r * (e * q - f * p) * (p * p + d * q * q) * (g * N)) = r * g * N * ((e * p - d * f * q) * (2 * (p * q)) - (e * q - f * p) * (p * p + d * q * q)) := by grind
  rw [this, key]
  grind
theorem rep_U (ok : Ok k) (os : Ok s) (hn : norm d k ≠ 0) (rk : Rep k P Q R) (rs : Rep s E F G) (hab : P * Q ≠ 0) : Rep (shU d k s) (R * (E * Q + F * P)) 0 (2 * (G * (P * Q))) := by
  have ra := rep_A ok os hn rk rs
  have rp := rep_P ok hn rk
  have rv := rep_V ok os hn rk rs hab
  have hN := norm_ne ok hn rk
  have hab' : k.a * k.b ≠ 0 := fun z => hab ((lone_rep ok rk).mpr z)
  have oa := ok_shA (s := s) os hn
  have op := ok_prt (k := k) hn
  have ov := ok_shV ok os hn hab'
  have rt := Rep.times (d := d) ov op rv rp
  generalize hM : P * P - d * Q * Q = N at *
  have hC2 : 2 * (G * (P * Q) * N) ≠ 0 := Int.mul_ne_zero (by decide) (Int.mul_ne_zero (Int.mul_ne_zero rs.c hab) hN)
  have rt2 : Rep (times d (shV d k s) (prt d k)) (R * (E * Q - F * P) * (P * P + d * Q * Q)) (-(2 * (R * (E * Q - F * P) * (P * Q)))) (2 * (G * (P * Q) * N)) := by
    refine rt.conv hC2 ?_ ?_
    · generalize E * Q - F * P = T
      generalize P * P + d * Q * Q = S
      generalize P * Q = M
      grind
    · generalize E * Q - F * P = T
      generalize P * P + d * Q * Q = S
      generalize P * Q = M
      grind
  have rl := Rep.less oa (ok_times ov op) ra rt2
  have hC : 2 * (G * (P * Q)) ≠ 0 := Int.mul_ne_zero (by decide) (Int.mul_ne_zero rs.c hab)
  refine rl.conv hC ?_ ?_
  · exact uu hM.symm
  · rw [Int.zero_mul]
    have : R * (F * P - E * Q) * (2 * (G * (P * Q) * N)) - -(2 * (R * (E * Q - F * P) * (P * Q))) * (G * N) = 0 := by grind
    rw [this, Int.zero_mul]
end
end NM
set_option linter.all false
set_option maxRecDepth 100000
set_option maxHeartbeats 4000000
namespace NM
section
variable {d : Int} {x y z : N3}
section
variable {f : N3}
theorem sg_frac (h : 0 < f.a) (fb : f.b = 0) : sg d f.a f.b = 1 := by rw [fb, sg_int, if_neg (by omega), if_pos h]
end
end
end NM
set_option linter.all false
set_option maxRecDepth 100000
set_option maxHeartbeats 4000000
namespace NM
def Ht (d : Int) (n : Nat) (x : N3) : Prop := ∃ a b e f : Int, Sz n a ∧ Sz n b ∧ Sz n e ∧ Sz n f ∧ e * e - d * f * f ≠ 0 ∧ x.a * e + d * x.b * f = a * x.c ∧ x.a * f + x.b * e = b * x.c
section
variable {d : Int} {n m : Nat} {x y : N3}
theorem Ht.mono (h : Ht d n x) (l : n ≤ m) : Ht d m x := by
  obtain ⟨a, b, e, f, h1, h2, h3, h4, r⟩ := h
  exact ⟨a, b, e, f, h1.mono l, h2.mono l, h3.mono l, h4.mono l, r⟩
theorem sz0 : Sz n 0 := Sz.of (by simp; exact Nat.pos_of_ne_zero (by simp))
end
end NM
set_option linter.all false
set_option maxRecDepth 100000
set_option maxHeartbeats 4000000
namespace NM
section
variable {d : Int} {x y z : N3}
def gtL (d : Int) (k o : N3) : Prop := ((leanF d o).a.natAbs : Int) * (leanF d k).c < ((leanF d k).a.natAbs : Int) * (leanF d o).c
instance : Decidable (gtL d x y) := by unfold gtL; infer_instance
end
end NM
set_option linter.all false
set_option maxRecDepth 100000
set_option maxHeartbeats 400000
namespace NM
section
variable {d : Int} {x y z k s o f : N3}
def Lay (d : Int) (k s : N3) : Prop := (0 < norm d k ∧ 0 < norm d s ∧ s.b * s.b * (k.a * k.a) ≤ s.a * s.a * (k.b * k.b)) ∨ (norm d k < 0 ∧ norm d s < 0 ∧ s.a * s.a * (k.b * k.b) ≤ s.b * s.b * (k.a * k.a))
theorem abs_sq {u v : Int} (hv : 0 ≤ v) (h : u * u ≤ v * v) : 0 ≤ v + u ∧ 0 ≤ v - u := by
  rcases Int.lt_or_le u 0 with w | w
  · have := sq_le (u := -u) (v := v) (by omega) (by rw [Int.neg_mul_neg]; exact h) hv
    omega
  · have := sq_le w h hv
    omega
theorem ly1 {d P Q E F : Int} (hd : 0 < d) (hQ : Q ≠ 0) (hP : P ≠ 0) (hN : d * Q * Q < P * P) (h1 : 0 ≤ (E * Q + F * P) * (P * Q)) (h2 : 0 ≤ (E * Q - F * P) * (P * Q)) : F * F * (P * P) ≤ E * E * (Q * Q) ∧ d * F * F ≤ E * E := by
  have h := Int.mul_nonneg h1 h2
  have e : (E * Q + F * P) * (P * Q) * ((E * Q - F * P) * (P * Q)) = (E * E * (Q * Q) - F * F * (P * P)) * ((P * Q) * (P * Q)) := by grind
  rw [e, le_sq (Int.mul_ne_zero hP hQ)] at h
  refine ⟨by omega, ?_⟩
  have h3 : 0 ≤ (P * P - d * Q * Q) * (F * F) := Int.mul_nonneg (by omega) (sq_nonneg F)
  have e2 : (P * P - d * Q * Q) * (F * F) = F * F * (P * P) - d * F * F * (Q * Q) := by grind
  have h4 : 0 ≤ (E * E - d * F * F) * (Q * Q) := by
    have : (E * E - d * F * F) * (Q * Q) = E * E * (Q * Q) - d * F * F * (Q * Q) := by grind
    rw [this]; omega
  rw [le_sq hQ] at h4
  omega
theorem ly2 {P Q E F : Int} (hP : 0 < P) (hE : 0 ≤ E) (h : F * F * (P * P) ≤ E * E * (Q * Q)) : 0 ≤ (E * Q + F * P) * (P * Q) ∧ 0 ≤ (E * Q - F * P) * (P * Q) := by
  have hX : 0 ≤ E * P * (Q * Q) := Int.mul_nonneg (Int.mul_nonneg hE (by omega)) (sq_nonneg Q)
  have hs : (F * (P * P) * Q) * (F * (P * P) * Q) ≤ (E * P * (Q * Q)) * (E * P * (Q * Q)) := by
    have h1 := Int.mul_nonneg (show 0 ≤ E * E * (Q * Q) - F * F * (P * P) by omega) (sq_nonneg (P * Q))
    have e1 : (E * E * (Q * Q) - F * F * (P * P)) * (P * Q * (P * Q)) = (E * P * (Q * Q)) * (E * P * (Q * Q)) - (F * (P * P) * Q) * (F * (P * P) * Q) := by grind
    omega
  obtain ⟨a1, a2⟩ := abs_sq hX hs
  have e1 : (E * Q + F * P) * (P * Q) = E * P * (Q * Q) + F * (P * P) * Q := by grind
  have e2 : (E * Q - F * P) * (P * Q) = E * P * (Q * Q) - F * (P * P) * Q := by grind
  rw [e1, e2]
  exact ⟨a1, a2⟩
theorem ly3 {d P Q E F : Int} (hd : 0 < d) (hQ : Q ≠ 0) (hP : P ≠ 0) (hN : P * P < d * Q * Q) (h1 : 0 ≤ (E * Q + F * P) * (P * Q)) (h2 : (E * Q - F * P) * (P * Q) ≤ 0) : E * E * (Q * Q) ≤ F * F * (P * P) ∧ E * E ≤ d * F * F := by
  have h := Int.mul_nonneg h1 (show 0 ≤ -((E * Q - F * P) * (P * Q)) by omega)
  have e : (E * Q + F * P) * (P * Q) * -((E * Q - F * P) * (P * Q)) = (F * F * (P * P) - E * E * (Q * Q)) * ((P * Q) * (P * Q)) := by grind
  rw [e, le_sq (Int.mul_ne_zero hP hQ)] at h
  refine ⟨by omega, ?_⟩
  have h3 : 0 ≤ (d * Q * Q - P * P) * (F * F) := Int.mul_nonneg (by omega) (sq_nonneg F)
  have e2 : (d * Q * Q - P * P) * (F * F) = d * F * F * (Q * Q) - F * F * (P * P) := by grind
  have h4 : 0 ≤ (d * F * F - E * E) * (Q * Q) := by
    have : (d * F * F - E * E) * (Q * Q) = d * F * F * (Q * Q) - E * E * (Q * Q) := by grind
    rw [this]; omega
  rw [le_sq hQ] at h4
  omega
theorem ly4 {P Q E F : Int} (hQ : 0 < Q) (hF : 0 ≤ F) (h : E * E * (Q * Q) ≤ F * F * (P * P)) : 0 ≤ (E * Q + F * P) * (P * Q) ∧ (E * Q - F * P) * (P * Q) ≤ 0 := by
  have hY : 0 ≤ F * (P * P) * Q := Int.mul_nonneg (Int.mul_nonneg hF (sq_nonneg P)) (by omega)
  have hs : (E * P * (Q * Q)) * (E * P * (Q * Q)) ≤ (F * (P * P) * Q) * (F * (P * P) * Q) := by
    have h1 := Int.mul_nonneg (show 0 ≤ F * F * (P * P) - E * E * (Q * Q) by omega) (sq_nonneg (P * Q))
    have e1 : (F * F * (P * P) - E * E * (Q * Q)) * (P * Q * (P * Q)) = (F * (P * P) * Q) * (F * (P * P) * Q) - (E * P * (Q * Q)) * (E * P * (Q * Q)) := by grind
    omega
  obtain ⟨a1, a2⟩ := abs_sq hY hs
  have e1 : (E * Q + F * P) * (P * Q) = F * (P * P) * Q + E * P * (Q * Q) := by grind
  have e2 : (E * Q - F * P) * (P * Q) = -(F * (P * P) * Q - E * P * (Q * Q)) := by grind
  rw [e1, e2]
  exact ⟨a1, by omega⟩
theorem pos_a (hd : IsRoot d) (hs : sg d s.a s.b = 1) (hn : 0 < norm d s) : 0 < s.a := by
  have h : d * s.b * s.b < s.a * s.a := by have : norm d s = s.a * s.a - d * s.b * s.b := rfl; omega
  exact (P_first hd h).mp ((sg_one hd).mp hs)
theorem pos_b (hd : IsRoot d) (hs : sg d s.a s.b = 1) (hn : norm d s < 0) : 0 < s.b := by
  have h : s.a * s.a < d * s.b * s.b := by have : norm d s = s.a * s.a - d * s.b * s.b := rfl; omega
  exact (P_second hd h).mp ((sg_one hd).mp hs)
theorem share_nought : isShare d nought = true := by
  unfold isShare
  rw [show nought.b = 0 from rfl, show nought.a = 0 from rfl, show sg d 0 0 = 0 from sg_zero.mpr ⟨rfl, rfl⟩]
  rfl
theorem sgA (hd : IsRoot d) (ok : Ok k) (os : Ok s) (hk : sg d k.a k.b = 1) (hs : sg d s.a s.b = 1) : sg d (shA d k s).a (shA d k s).b = 1 := by
  have hn := pos_norm hd ok hk
  unfold shA
  rw [sg_timesP hd os (ok_contrary hn), hs, sg_contrary hd ok hk]
  rfl
theorem mix_lone (hd : IsRoot d) (ok : Ok k) (os : Ok s) (hk : sg d k.a k.b = 1) (hs : sg d s.a s.b = 1) (hl : k.a * k.b = 0) : isMix d k s = true ↔ s.b * k.a = s.a * k.b := by
  have hn := pos_norm hd ok hk
  unfold isMix mixU mixV
  rw [if_pos ((lone_iff ok).mpr hl), if_pos ((lone_iff ok).mpr hl), share_nought, Bool.and_true]
  unfold isShare
  rw [sgA hd ok os hk hs]
  simp only [show decide ((0 : Int) ≤ 1) = true from rfl, Bool.and_true, decide_eq_true_eq]
  rw [rep_b0 (rep_A ok os hn (rep_self ok) (rep_self os)) (ok_shA os hn)]
  constructor
  · intro h
    have := (Int.mul_eq_zero.mp h).resolve_left ok.cn
    omega
  · intro h
    rw [show s.b * k.a - s.a * k.b = 0 by omega, Int.mul_zero]
theorem mix_two (hd : IsRoot d) (ok : Ok k) (os : Ok s) (hk : sg d k.a k.b = 1) (hl : k.a * k.b ≠ 0) : isMix d k s = true ↔ 0 ≤ (s.a * k.b + s.b * k.a) * (k.a * k.b) ∧ 0 ≤ norm d k * ((s.a * k.b - s.b * k.a) * (k.a * k.b)) := by
  have hn := pos_norm hd ok hk
  have hl' : ¬ (times d k k).b = 0 := fun z => hl ((lone_iff ok).mp z)
  unfold isMix mixU mixV
  rw [if_neg hl', if_neg hl', Bool.and_eq_true]
  have ru := rep_U ok os hn (rep_self ok) (rep_self os) hl
  have rv := rep_V ok os hn (rep_self ok) (rep_self os) hl
  have ou : Ok (shU d k s) := ok_less (ok_shA os hn) (ok_times (ok_shV ok os hn hl) (ok_prt hn))
  rw [rep_share ou ru, rep_share (ok_shV ok os hn hl) rv]
  have hc := ok.c
  have hg := os.c
  have e1 : k.c * (s.a * k.b + s.b * k.a) * (2 * (s.c * (k.a * k.b))) = (s.a * k.b + s.b * k.a) * (k.a * k.b) * (2 * (k.c * s.c)) := by grind
  have e2 : (k.a * k.a - d * k.b * k.b) * (s.a * k.b - s.b * k.a) * (2 * (s.c * k.c * (k.a * k.b))) = norm d k * ((s.a * k.b - s.b * k.a) * (k.a * k.b)) * (2 * (k.c * s.c)) := by
    show norm d k * _ * _ = _
    grind
  have hp : 0 < 2 * (k.c * s.c) := Int.mul_pos (by decide) (Int.mul_pos hc hg)
  rw [e1, e2, le_posr hp, le_posr hp]
theorem mix_lay (hd : IsRoot d) (ok : Ok k) (os : Ok s) (hk : sg d k.a k.b = 1) (hs : sg d s.a s.b = 1) : isMix d k s = true ↔ Lay d k s := by
  have hn := pos_norm hd ok hk
  have hm := pos_norm hd os hs
  have d0 : 0 < d := by have := hd.1; omega
  have nk : norm d k = k.a * k.a - d * k.b * k.b := rfl
  have ns : norm d s = s.a * s.a - d * s.b * s.b := rfl
  by_cases hl : k.a * k.b = 0
  · rw [mix_lone hd ok os hk hs hl]
    rcases Int.mul_eq_zero.mp hl with h0 | h0
    · have kb : k.b ≠ 0 := fun z => by rw [h0, z] at nk; simp at nk; exact hn nk
      have n1 : norm d k < 0 := by
        have := Int.mul_pos d0 (sq_pos kb)
        rw [nk, h0, Int.mul_assoc]; simp; omega
      rw [h0, Int.mul_zero]
      constructor
      · intro h
        have hE : s.a = 0 := (Int.mul_eq_zero.mp h.symm).resolve_right kb
        have sb : s.b ≠ 0 := fun z => by rw [hE, z] at ns; simp at ns; exact hm ns
        refine .inr ⟨n1, ?_, ?_⟩
        · have := Int.mul_pos d0 (sq_pos sb)
          rw [ns, hE, Int.mul_assoc]; simp; omega
        · rw [hE]; simp [h0]
      · rintro (⟨z, _⟩ | ⟨_, _, h⟩)
        · omega
        · rw [h0] at h
          simp only [Int.mul_zero] at h
          have h2 := Int.mul_nonneg (sq_nonneg s.a) (sq_nonneg k.b)
          have h3 : s.a * s.a * (k.b * k.b) = 0 := by omega
          have h4 := (Int.mul_eq_zero.mp h3).resolve_right (Int.mul_ne_zero kb kb)
          have h5 : s.a = 0 := by rcases Int.mul_eq_zero.mp h4 with w | w <;> exact w
          rw [h5]; simp
    · have ka : k.a ≠ 0 := fun z => by rw [h0, z] at nk; simp at nk; exact hn nk
      have n1 : 0 < norm d k := by
        have := sq_pos ka
        rw [nk, h0]; simp; omega
      rw [h0, Int.mul_zero]
      constructor
      · intro h
        have hF : s.b = 0 := (Int.mul_eq_zero.mp h).resolve_right ka
        have sa : s.a ≠ 0 := fun z => by rw [hF, z] at ns; simp at ns; exact hm ns
        refine .inl ⟨n1, ?_, ?_⟩
        · have := sq_pos sa
          rw [ns, hF]; simp; omega
        · rw [hF]; simp [h0]
      · rintro (⟨_, _, h⟩ | ⟨z, _⟩)
        · rw [h0] at h
          simp only [Int.mul_zero] at h
          have h2 := Int.mul_nonneg (sq_nonneg s.b) (sq_nonneg k.a)
          have h3 : s.b * s.b * (k.a * k.a) = 0 := by omega
          have h4 := (Int.mul_eq_zero.mp h3).resolve_right (Int.mul_ne_zero ka ka)
          have h5 : s.b = 0 := by rcases Int.mul_eq_zero.mp h4 with w | w <;> exact w
          rw [h5]; simp
        · omega
  · rw [mix_two hd ok os hk hl]
    have ka : k.a ≠ 0 := fun z => hl (by rw [z, Int.zero_mul])
    have kb : k.b ≠ 0 := fun z => hl (by rw [z, Int.mul_zero])
    rcases Int.lt_or_le 0 (norm d k) with n1 | n1
    · have hk' := pos_a hd hk n1
      rw [show (0 ≤ norm d k * ((s.a * k.b - s.b * k.a) * (k.a * k.b))) ↔ 0 ≤ (s.a * k.b - s.b * k.a) * (k.a * k.b) from by rw [Int.mul_comm]; exact le_posr n1]
      constructor
      · rintro ⟨h1, h2⟩
        obtain ⟨a1, a2⟩ := ly1 d0 kb ka (by omega) h1 h2
        exact .inl ⟨n1, by omega, a1⟩
      · rintro (⟨_, n2, h⟩ | ⟨z, _⟩)
        · have := pos_a hd hs n2
          exact ly2 hk' (by omega) h
        · omega
    · have n1 : norm d k < 0 := by omega
      have hk' := pos_b hd hk n1
      rw [show (0 ≤ norm d k * ((s.a * k.b - s.b * k.a) * (k.a * k.b))) ↔ (s.a * k.b - s.b * k.a) * (k.a * k.b) ≤ 0 from by rw [Int.mul_comm]; exact le_negr n1]
      constructor
      · rintro ⟨h1, h2⟩
        obtain ⟨a1, a2⟩ := ly3 d0 kb ka (by omega) h1 h2
        exact .inr ⟨n1, by omega, a1⟩
      · rintro (⟨z, _⟩ | ⟨_, n2, h⟩)
        · omega
        · have := pos_b hd hs n2
          exact ly4 hk' (by omega) h
end
end NM
set_option linter.all false
set_option maxRecDepth 100000
set_option maxHeartbeats 400000
namespace NM
section
variable {d : Int} {x y z k s o f : N3}
theorem ok_U (ok : Ok k) (os : Ok s) (hn : norm d k ≠ 0) : Ok (mixU d k s) := by
  unfold mixU
  split
  · exact ok_shA os hn
  · rename_i h
    exact ok_less (ok_shA os hn) (ok_times (ok_shV ok os hn (fun z => h ((lone_iff ok).mpr z))) (ok_prt hn))
theorem ok_V (ok : Ok k) (os : Ok s) (hn : norm d k ≠ 0) : Ok (mixV d k s) := by
  unfold mixV
  split
  · exact ok_nought
  · rename_i h
    exact ok_shV ok os hn (fun z => h ((lone_iff ok).mpr z))
theorem U_lone (hl : (times d k k).b = 0) : mixU d k s = shA d k s := if_pos hl
theorem V_lone (hl : (times d k k).b = 0) : mixV d k s = nought := if_pos hl
theorem U_two (hl : ¬ (times d k k).b = 0) : mixU d k s = shU d k s := if_neg hl
theorem V_two (hl : ¬ (times d k k).b = 0) : mixV d k s = shV d k s := if_neg hl
theorem share_b (h : isShare d x = true) : x.b = 0 := by
  unfold isShare at h
  simp only [Bool.and_eq_true, decide_eq_true_eq] at h
  exact h.1
theorem share_a (h : isShare d x = true) : 0 ≤ x.a := by
  have hb := share_b h
  unfold isShare at h
  simp only [Bool.and_eq_true, decide_eq_true_eq] at h
  rw [hb] at h
  exact sg0.mp h.2
theorem mix_sum (ok : Ok k) (os : Ok s) (hn : norm d k ≠ 0) : plus (times d (mixU d k s) k) (times d (mixV d k s) (contrary d k)) = s := by
  have oc := ok_contrary hn
  by_cases hl : (times d k k).b = 0
  · rw [U_lone hl, V_lone hl]
    have oa := ok_shA os hn
    have r := Rep.plus (ok_times (d := d) oa ok) (ok_times (d := d) ok_nought oc) (Rep.times (d := d) oa ok (rep_A ok os hn (rep_self ok) (rep_self os)) (rep_self ok)) (Rep.times (d := d) ok_nought oc (rep_self ok_nought) (rep_con hn))
    refine Rep.eq (ok_plus (ok_times oa ok) (ok_times ok_nought oc)) os r (rep_self os) ?_ ?_
    · show ((_ + _) * (1 * _) + (0 * _ + d * 0 * _) * _) * _ = _
      show _ = s.a * (s.c * norm d k * k.c * (1 * norm d k))
      have : norm d k = k.a * k.a - d * k.b * k.b := rfl
      generalize norm d k = N at *
      subst this
      grind
    · show ((_ + _) * (1 * _) + (0 * _ + 0 * _) * _) * _ = _
      show _ = s.b * (s.c * norm d k * k.c * (1 * norm d k))
      have : norm d k = k.a * k.a - d * k.b * k.b := rfl
      generalize norm d k = N at *
      subst this
      grind
  · have h' : k.a * k.b ≠ 0 := fun z => hl ((lone_iff ok).mpr z)
    have ou := ok_U (d := d) ok os hn
    have ov := ok_V (d := d) ok os hn
    rw [U_two hl] at ou ⊢
    rw [V_two hl] at ov ⊢
    have r := Rep.plus (ok_times (d := d) ou ok) (ok_times (d := d) ov oc) (Rep.times (d := d) ou ok (rep_U ok os hn (rep_self ok) (rep_self os) h') (rep_self ok)) (Rep.times (d := d) ov oc (rep_V ok os hn (rep_self ok) (rep_self os) h') (rep_con hn))
    refine Rep.eq (ok_plus (ok_times ou ok) (ok_times ov oc)) os r (rep_self os) ?_ ?_
    · have : k.a * k.a - d * k.b * k.b = norm d k := rfl
      rw [this]
      generalize norm d k = N at *
      grind
    · have : k.a * k.a - d * k.b * k.b = norm d k := rfl
      rw [this]
      generalize norm d k = N at *
      grind
end
end NM
set_option Elab.async false
set_option linter.all false
set_option maxRecDepth 100000
set_option maxHeartbeats 4000000
namespace L2.DL
open PySem PySem.Spec PyProof.Rows NM
theorem mulOk {n m : Nat} {i j : Int} (h : Sz n i) (g : Sz m j) (l : n + m ≤ 100000) : IntMulOk i j := by
  have b1 : ∀ {k : Nat} {z : Int}, Sz k z → Builtin.Int.intBits z ≤ k := fun {k z} hz => by
    unfold Builtin.Int.intBits
    split
    · exact Nat.zero_le _
    · rename_i q
      have hz' : z.natAbs ≠ 0 := by simp at q; omega
      have := (Nat.log2_lt hz').mpr hz.lt
      omega
  have e1 := b1 h
  have e2 := b1 g
  unfold IntMulOk
  intro z
  simp only [Bool.and_eq_true] at z
  have z3 := z.2
  unfold Builtin.Int.intTooBig at z3
  simp only [decide_eq_true_eq] at z3
  have : (100000 : Int) ≤ bitsLine := by decide
  omega
theorem divOk {n : Nat} {i j : Int} (h0 : j ≠ 0) (h : Sz n j) (l : n ≤ 8900) : DivOk i j := by
  refine ⟨h0, PyProof.noPylong_of_log2 ?_⟩
  have hz' : j.natAbs ≠ 0 := by omega
  have := (Nat.log2_lt hz').mpr h.lt
  omega
theorem divC {i j : Int} (h0 : j ≠ 0) (h1 : j.natAbs < 1073741824) : DivOk i j := ⟨h0, PyProof.noPylong_small h1⟩
theorem mulL {i j : Int} (h : i.natAbs < 2 ^ 64) : IntMulOk i j := CMul.ok (.inl (by omega))
theorem mulR {i j : Int} (h : j.natAbs < 2 ^ 64) : IntMulOk i j := CMul.ok (.inr (by omega))
def dN (x : N3) : PyData := .tuple [.int x.a, .int x.b, .int x.c]
def isWhole (d : PyData) : Bool := isT "int" d && !isT "bool" d
def isNum : PyData → Bool
  | .tuple [.int a, .int b, .int c] => decide (1 ≤ c) && (g3 a b c == 1)
  | _ => false
def spWhole : DSp := fun ds μ Q => ∃ d, ds = [.v d] ∧ Q (.v (.bool (isWhole d))) μ
def spGcd : DSp := fun ds μ Q => ∃ a b : Int, ds = [.v (.int a), .v (.int b)] ∧ Q (.v (.int (Int.gcd a b : Nat))) μ
def spDiv3 : DSp := fun ds μ Q => ∃ a b c : Int, ds = [.v (.int a), .v (.int b), .v (.int c)] ∧ Q (.v (.int (g3 a b c : Nat))) μ
def Few : PyData → Prop
  | .tuple xs => xs.length ≤ 1000
  | _ => True
def spNumQ : DSp := fun ds μ Q => ∃ d, ds = [.v d] ∧ Few d ∧ Q (.v (.bool (isNum d))) μ
def spNumber : DSp := fun ds μ Q => ∃ a b c : Int, ds = [.v (.int a), .v (.int b), .v (.int c)] ∧ c ≠ 0 ∧ Sz 8800 c ∧ Q (.v (dN (low a b c))) μ
def spMate : DSp := fun ds μ Q => ∃ x : N3, ds = [.v (dN x)] ∧ Q (.v (dN (mate x))) μ
def spMinus : DSp := fun ds μ Q => ∃ x : N3, ds = [.v (dN x)] ∧ Q (.v (dN (minus x))) μ
def sp2 (f : N3 → N3 → N3) : DSp := fun ds μ Q => ∃ x y : N3, ds = [.v (dN x), .v (dN y)] ∧ Ok x ∧ Ok y ∧ Bd 4300 x ∧ Bd 4300 y ∧ Q (.v (dN (f x y))) μ
abbrev spPlus : DSp := sp2 plus
abbrev spLess : DSp := sp2 less
def spTimes : DSp := fun ds μ Q => ∃ (d : Int) (x y : N3), ds = [.v (.int d), .v (dN x), .v (dN y)] ∧ Sz 5 d ∧ Ok x ∧ Ok y ∧ Bd 4300 x ∧ Bd 4300 y ∧ Q (.v (dN (times d x y))) μ
def spContrary : DSp := fun ds μ Q => ∃ (d : Int) (x : N3), ds = [.v (.int d), .v (dN x)] ∧ Sz 5 d ∧ norm d x ≠ 0 ∧ Bd 4300 x ∧ Q (.v (dN (contrary d x))) μ
def spOver : DSp := fun ds μ Q => ∃ (d : Int) (x y : N3), ds = [.v (.int d), .v (dN x), .v (dN y)] ∧ IsRoot d ∧ Ok x ∧ Ok y ∧ y ≠ nought ∧ Bd 2100 x ∧ Bd 2100 y ∧ Q (.v (dN (times d x (contrary d y)))) μ
def spSignP : DSp := fun ds μ Q => ∃ d a b : Int, ds = [.v (.int d), .v (.int a), .v (.int b)] ∧ Sz 5 d ∧ Sz 9900 a ∧ Sz 9900 b ∧ Q (.v (.int (sg d a b))) μ
def spSign : DSp := fun ds μ Q => ∃ (d : Int) (x : N3), ds = [.v (.int d), .v (dN x)] ∧ IsRoot d ∧ Bd 8900 x ∧ Q (.v (.int (sg d x.a x.b))) μ
def Bag (μ : Mu) (a : Addr) : Prop := ∃ g m : Int, μ a = some [.int g, .int m] ∧ 0 ≤ g ∧ 0 ≤ m ∧ m < 2147483648
def Step (a : Addr) (μ μ' : Mu) : Prop := Bag μ' a ∧ ∀ b, b ≠ a → μ' b = μ b
def spBag : DSp := fun ds μ Q => ∃ (ns : List Int) (k : Int), ds = [.s ns, .v (.int k)] ∧ 0 ≤ k ∧ k ≤ 1000 ∧ ∀ p μ', μ p = none → Step p μ μ' → Q (.m p) μ'
def spTake : DSp := fun ds μ Q => ∃ (a : Addr) (n : Int), ds = [.m a, .v (.int n)] ∧ 1 ≤ n ∧ n ≤ 1000000000 ∧ Bag μ a ∧ ∀ r μ', 0 ≤ r → r < n → Step a μ μ' → Q (.v (.int r)) μ'
def spNumberL : DSp := fun ds μ Q => ∃ a : Addr, ds = [.m a] ∧ Bag μ a ∧ ∀ x μ', Ok x → Bd 20 x → Step a μ μ' → Q (.v (dN x)) μ'
def spRootL : DSp := fun ds μ Q => ∃ a : Addr, ds = [.m a] ∧ Bag μ a ∧ ∀ d μ', IsRoot d → Step a μ μ' → Q (.v (.int d)) μ'
theorem Step.trans {a : Addr} {μ μ1 μ2 : Mu} (h : Step a μ μ1) (g : Step a μ1 μ2) : Step a μ μ2 := ⟨g.1, fun b n => (g.2 b n).trans (h.2 b n)⟩
theorem Step.set {a : Addr} {μ : Mu} {g m : Int} (h1 : 0 ≤ g) (h2 : 0 ≤ m) (h3 : m < 2147483648) : Step a μ (muSet μ a [.int g, .int m]) := ⟨⟨g, m, muSet_same, h1, h2, h3⟩, fun b n => muSet_ne n⟩
local macro_rules | `(tactic| walk_at "rd") => `(tactic| simp only [↓q_var0, ↓q_var1, ↓q_var2, ↓q_var3, ↓q_var4, ↓q_var5, ↓q_var6, ↓q_var7, ↓q_var8, ↓q_var9, ↓q_var10, ↓q_c, ↓q_op, ↓q_B, ↓q_II, ↓q_I00, ↓q_neg, ↓q_andT, ↓q_orT, ↓q_notT, ↓q_andV, ↓q_orV, ↓q_notV, ↓q_if, ↓q_nil, ↓q_cons, ↓q_tup, ↓q_lst, ↓q_lstM, ↓q_asN, ↓q_asC, ↓q_eqI, ↓q_eqT, ↓q_eqL, ↓q_eqB, ↓q_inD, ↓q_ixL0, ↓q_ixL1, ↓q_ixL2, ↓q_ixT0, ↓q_ixT1, ↓q_ixT2, ↓q_ixT3, ↓q_ixL, ↓q_ixT, ↓q_ixM, ↓q_ixS, ↓q_cat, ↓q_catT, ↓q_addI, ↓q_addT, ↓q_addL, ↓q_addM, ↓q_sl, ↓q_noPart, ↓q_part, ↓q_slT, ↓q_slL, ↓q_rev, ↓q_cb, ↓q_lenL, ↓q_lenT, ↓q_lenS, ↓q_lenM, ↓q_abs, ↓q_2I, ↓q_intB, ↓q_intI, ↓q_listL, ↓q_listT, ↓q_all, ↓q_isi, ↓q_isB, ↓q_isN, ↓q_gName, ↓q_gNil, ↓q_gCons, ↓q_gTup, ↓q_gSub, ↓q_asg, ↓q_par, ↓q_next, ↓q_seq, ↓q_ret, ↓q_drop, ↓q_ifS, ↓q_never, ↓q_call, ↓q_app, ↓q_ext, ↓q_bits, ↓q_chain, ↓q_true, ↓q_diList, ↓q_diTup, ↓q_diRng1, ↓q_diRng2, ↓q_diZip, ↓q_tupOfL, ↓q_tupOfT, ↓q_tupOfM, ↓q_rep, zipD, ↓q_comp, ↓q_compI, q_capN, q_capC, q_leN, q_le0, q_le1, Option.bind_none, Option.bind_some, Option.join_some, List.getElem?_cons_zero, List.getElem?_cons_succ, startD, dN, lstOf, atI_0, atI_1, atI_2, atI_3, List.map, List.append, List.replicate, List.length_cons, List.length_nil, Nat.reduceAdd, Nat.reduceSub, List.nil_append, List.cons_append, List.set_cons_zero, List.set_cons_succ, Option.map_some, ↓reduceIte, Bool.not_true, Bool.not_false, Bool.false_eq_true, Bool.true_eq_false, Bool.xor_false, Bool.false_xor])
def td_is_whole : DTS :=
  (dRet (dAndV (dIsi "int" (dVar 0)) (dNotV (dIsi "bool" (dVar 0)))))
def td_common_divisor : DTS :=
  (dSeq (dWhile (dB (dOp (rEqD true) (dVar 1) (dC (.int 0)))) (dPar 0 1 (dCons (dVar 1) (dCons (dMod (dVar 0) (dVar 1)) dNil))))
  (dRet (dCB rAbsD (dCons (dVar 0) dNil))))
def td_divisor_of_all : DTS :=
  (dRet (dCall spGcd (dCons (dCall spGcd (dCons (dVar 2) (dCons (dVar 0) dNil))) (dCons (dVar 1) dNil))))
def td__law_shared : DTS :=
  (dSeq (dPar 0 1 (dCons (dCB rAbsD (dCons (dVar 0) dNil)) (dCons (dCB rAbsD (dCons (dVar 1) dNil)) dNil)))
  (dSeq (dWhile (dB (dOp rGt (dVar 1) (dC (.int 0)))) (dPar 0 1 (dCons (dVar 1) (dCons (dMod (dVar 0) (dVar 1)) dNil))))
  (dRet (dVar 0))))
section
theorem fmod_lt (x : Int) {y : Int} (h : y ≠ 0) : (x.fmod y).natAbs < y.natAbs := by
  have e := Int.mul_fdiv_add_fmod x y
  have := Int.fmod_def x y
  rcases Int.lt_or_gt_of_ne h with h | h
  · have k := Int.neg_fmod_neg (a := x) (b := y)
    have h1 := Int.fmod_nonneg_of_pos (-x) (show 0 < -y by omega)
    have h2 := Int.fmod_lt_of_pos (-x) (show 0 < -y by omega)
    omega
  · have h1 := Int.fmod_nonneg_of_pos x h
    have h2 := Int.fmod_lt_of_pos x h
    omega
theorem gcd_fmod (x y : Int) : Int.gcd y (x.fmod y) = Int.gcd x y := by
  have e := Int.mul_fdiv_add_fmod x y
  have e' : x.fmod y = x + y * (-(x.fdiv y)) := by rw [Int.mul_neg]; omega
  rw [e', Int.gcd_add_mul_left_right, Int.gcd_comm]
theorem rd_is_whole {μ Qd ds} (h : spWhole ds μ Qd) : td_is_whole { nx := fun _ μ' => Qd (.v .none) μ', rt := Qd } (startD ["thing"] ds) μ := by
  obtain ⟨d, rfl, q⟩ := h
  unfold td_is_whole
  walk_at "rd"
  unfold isWhole at q
  cases hb : isT "int" d <;> simp_all
theorem rd_common_divisor {μ Qd ds} (h : spGcd ds μ Qd) : td_common_divisor { nx := fun _ μ' => Qd (.v .none) μ', rt := Qd } (startD ["a", "b"] ds) μ := by
  obtain ⟨a, b, rfl, q⟩ := h
  unfold td_common_divisor
  walk_at "rd"
  refine ⟨fun m ρ μ' => ∃ x y : Int, ρ = [some (.v (.int x)), some (.v (.int y))] ∧ m = y.natAbs ∧ Int.gcd x y = Int.gcd a b ∧ μ' = μ, ⟨_, a, b, rfl, rfl, rfl, rfl⟩, ?_⟩
  rintro m ρ μ' ⟨x, y, rfl, rfl, hg, rfl⟩
  walk_at "rd"
  by_cases hy : y = 0
  · subst hy
    have e : Int.gcd x 0 = x.natAbs := Int.gcd_zero_right x
    rw [← hg, e] at q
    simpa using q
  · have z : (true ^^ decide (y = 0)) = true := by simp [hy]
    rw [if_pos z]
    exact ⟨hy, _, fmod_lt x hy, y, x.fmod y, rfl, rfl, (gcd_fmod x y).trans hg, trivial⟩
theorem rd__law_shared {μ Qd ds} (h : spGcd ds μ Qd) : td__law_shared { nx := fun _ μ' => Qd (.v .none) μ', rt := Qd } (startD ["_law_one", "_law_other"] ds) μ := by
  obtain ⟨a, b, rfl, q⟩ := h
  unfold td__law_shared
  walk_at "rd"
  refine ⟨fun m ρ μ' => ∃ x y : Int, ρ = [some (.v (.int x)), some (.v (.int y))] ∧ m = y.natAbs ∧ 0 ≤ x ∧ 0 ≤ y ∧ Int.gcd x y = Int.gcd a b ∧ μ' = μ, ⟨_, _, _, rfl, rfl, by omega, by omega, by simp [Int.gcd], rfl⟩, ?_⟩
  rintro m ρ μ' ⟨x, y, rfl, rfl, hx, hy, hg, rfl⟩
  walk_at "rd"
  by_cases h0 : 0 < y
  · rw [if_pos (by simpa using h0)]
    have hy' : y ≠ 0 := by omega
    exact ⟨hy', _, fmod_lt x hy', y, x.fmod y, rfl, rfl, by omega, Int.fmod_nonneg_of_pos x h0, (gcd_fmod x y).trans hg, trivial⟩
  · rw [if_neg (by simpa using h0)]
    have e : y = 0 := by omega
    subst e
    rw [Int.gcd_zero_right] at hg
    have : x = ((Int.gcd a b : Nat) : Int) := by omega
    rw [this]
    exact q
theorem rd_divisor_of_all {μ Qd ds} (h : spDiv3 ds μ Qd) : td_divisor_of_all { nx := fun _ μ' => Qd (.v .none) μ', rt := Qd } (startD ["a", "b", "c"] ds) μ := by
  obtain ⟨a, b, c, rfl, q⟩ := h
  unfold td_divisor_of_all
  walk_at "rd"
  rw [← g3_prog] at q
  exact ⟨c, a, rfl, _, b, rfl, q⟩
end
open PySem PySem.Spec PyProof.Rows NM
def td_number : DTS :=
  (dSeq (dIfS (dB (dOp (rEqD false) (dVar 2) (dC (.int 0)))) dNever dNext)
  (dSeq (dAsg (dCall spDiv3 (dCons (dVar 0) (dCons (dVar 1) (dCons (dVar 2) dNil)))) (gdName 3))
  (dSeq (dIfS (dB (dOp rLt (dVar 2) (dC (.int 0)))) (dAsg (dNeg (dVar 3)) (gdName 3)) dNext)
  (dRet (dTup (dCons (dDiv (dVar 0) (dVar 3)) (dCons (dDiv (dVar 1) (dVar 3)) (dCons (dDiv (dVar 2) (dVar 3)) dNil))))))))
def td__law_low : DTS :=
  (dSeq (dAsg (dMul (dCall spGcd (dCons (dCall spGcd (dCons (dVar 0) (dCons (dVar 1) dNil))) (dCons (dVar 2) dNil))) (dOp rIxD (dLst (dCons (dC (.int 1)) (dCons (dNeg (dC (.int 1))) dNil))) (dCB rIntD (dCons (dOp rLt (dVar 2) (dC (.int 0))) dNil)))) (gdName 3))
  (dRet (dTup (dCons (dDiv (dVar 0) (dVar 3)) (dCons (dDiv (dVar 1) (dVar 3)) (dCons (dDiv (dVar 2) (dVar 3)) dNil))))))
def td__law_minus : DTS :=
  (dRet (dTup (dCons (dSub (dC (.int 0)) (dOp rIxD (dVar 0) (dC (.int 0)))) (dCons (dSub (dC (.int 0)) (dOp rIxD (dVar 0) (dC (.int 1)))) (dCons (dOp rIxD (dVar 0) (dC (.int 2))) dNil)))))
def td_plus : DTS :=
  (dRet (dCall spNumber (dCons (dAdd (dMul (dOp rIxD (dVar 0) (dC (.int 0))) (dOp rIxD (dVar 1) (dC (.int 2)))) (dMul (dOp rIxD (dVar 1) (dC (.int 0))) (dOp rIxD (dVar 0) (dC (.int 2))))) (dCons (dAdd (dMul (dOp rIxD (dVar 0) (dC (.int 1))) (dOp rIxD (dVar 1) (dC (.int 2)))) (dMul (dOp rIxD (dVar 1) (dC (.int 1))) (dOp rIxD (dVar 0) (dC (.int 2))))) (dCons (dMul (dOp rIxD (dVar 0) (dC (.int 2))) (dOp rIxD (dVar 1) (dC (.int 2)))) dNil)))))
def td__law_plus : DTS :=
  (dRet (dCall spNumber (dCons (dAdd (dMul (dOp rIxD (dVar 0) (dC (.int 0))) (dOp rIxD (dVar 1) (dC (.int 2)))) (dMul (dOp rIxD (dVar 1) (dC (.int 0))) (dOp rIxD (dVar 0) (dC (.int 2))))) (dCons (dAdd (dMul (dOp rIxD (dVar 0) (dC (.int 1))) (dOp rIxD (dVar 1) (dC (.int 2)))) (dMul (dOp rIxD (dVar 1) (dC (.int 1))) (dOp rIxD (dVar 0) (dC (.int 2))))) (dCons (dMul (dOp rIxD (dVar 0) (dC (.int 2))) (dOp rIxD (dVar 1) (dC (.int 2)))) dNil)))))
def td_less : DTS :=
  (dRet (dCall spNumber (dCons (dSub (dMul (dOp rIxD (dVar 0) (dC (.int 0))) (dOp rIxD (dVar 1) (dC (.int 2)))) (dMul (dOp rIxD (dVar 1) (dC (.int 0))) (dOp rIxD (dVar 0) (dC (.int 2))))) (dCons (dSub (dMul (dOp rIxD (dVar 0) (dC (.int 1))) (dOp rIxD (dVar 1) (dC (.int 2)))) (dMul (dOp rIxD (dVar 1) (dC (.int 1))) (dOp rIxD (dVar 0) (dC (.int 2))))) (dCons (dMul (dOp rIxD (dVar 0) (dC (.int 2))) (dOp rIxD (dVar 1) (dC (.int 2)))) dNil)))))
def td_times : DTS :=
  (dRet (dCall spNumber (dCons (dAdd (dMul (dOp rIxD (dVar 1) (dC (.int 0))) (dOp rIxD (dVar 2) (dC (.int 0)))) (dMul (dMul (dVar 0) (dOp rIxD (dVar 1) (dC (.int 1)))) (dOp rIxD (dVar 2) (dC (.int 1))))) (dCons (dAdd (dMul (dOp rIxD (dVar 1) (dC (.int 0))) (dOp rIxD (dVar 2) (dC (.int 1)))) (dMul (dOp rIxD (dVar 1) (dC (.int 1))) (dOp rIxD (dVar 2) (dC (.int 0))))) (dCons (dMul (dOp rIxD (dVar 1) (dC (.int 2))) (dOp rIxD (dVar 2) (dC (.int 2)))) dNil)))))
def td__law_times : DTS :=
  (dRet (dCall spNumber (dCons (dAdd (dMul (dOp rIxD (dVar 1) (dC (.int 0))) (dOp rIxD (dVar 2) (dC (.int 0)))) (dMul (dMul (dVar 0) (dOp rIxD (dVar 1) (dC (.int 1)))) (dOp rIxD (dVar 2) (dC (.int 1))))) (dCons (dAdd (dMul (dOp rIxD (dVar 1) (dC (.int 0))) (dOp rIxD (dVar 2) (dC (.int 1)))) (dMul (dOp rIxD (dVar 1) (dC (.int 1))) (dOp rIxD (dVar 2) (dC (.int 0))))) (dCons (dMul (dOp rIxD (dVar 1) (dC (.int 2))) (dOp rIxD (dVar 2) (dC (.int 2)))) dNil)))))
def td_contrary : DTS :=
  (dSeq (dAsg (dSub (dMul (dOp rIxD (dVar 1) (dC (.int 0))) (dOp rIxD (dVar 1) (dC (.int 0)))) (dMul (dMul (dVar 0) (dOp rIxD (dVar 1) (dC (.int 1)))) (dOp rIxD (dVar 1) (dC (.int 1))))) (gdName 2))
  (dRet (dCall spNumber (dCons (dMul (dOp rIxD (dVar 1) (dC (.int 2))) (dOp rIxD (dVar 1) (dC (.int 0)))) (dCons (dMul (dNeg (dOp rIxD (dVar 1) (dC (.int 2)))) (dOp rIxD (dVar 1) (dC (.int 1)))) (dCons (dVar 2) dNil))))))
def td__law_contrary : DTS :=
  (dRet (dCall spNumber (dCons (dMul (dOp rIxD (dVar 1) (dC (.int 0))) (dOp rIxD (dVar 1) (dC (.int 2)))) (dCons (dSub (dC (.int 0)) (dMul (dOp rIxD (dVar 1) (dC (.int 1))) (dOp rIxD (dVar 1) (dC (.int 2))))) (dCons (dSub (dMul (dOp rIxD (dVar 1) (dC (.int 0))) (dOp rIxD (dVar 1) (dC (.int 0)))) (dMul (dMul (dVar 0) (dOp rIxD (dVar 1) (dC (.int 1)))) (dOp rIxD (dVar 1) (dC (.int 1))))) dNil)))))
def td_over : DTS :=
  (dSeq (dIfS (dB (dOp (rEqD false) (dVar 2) (dC (.tuple [.int 0, .int 0, .int 1])))) dNever dNext)
  (dRet (dCall spTimes (dCons (dVar 0) (dCons (dVar 1) (dCons (dCall spContrary (dCons (dVar 0) (dCons (dVar 2) dNil))) dNil))))))
def td_mate : DTS :=
  (dRet (dTup (dCons (dOp rIxD (dVar 0) (dC (.int 0))) (dCons (dNeg (dOp rIxD (dVar 0) (dC (.int 1)))) (dCons (dOp rIxD (dVar 0) (dC (.int 2))) dNil)))))
section
variable {μ : Mu} {Qd : DK} {ds : List D}
theorem eqvI (i j : Int) : PyData.eqv (.int i) (.int j) = decide (i = j) := by simp [PyData.eqv]; rfl
theorem gdv {a b c : Int} (h : Sz 8800 c) (hc : c ≠ 0) : Sz 8800 ((g3 a b c : Nat) : Int) := by
  have h1 := (g3_dvd a b c).2.2
  have h2 := Int.natAbs_dvd_natAbs.mpr h1
  exact h.le (Nat.le_of_dvd (by omega) h2)
theorem rd_number (h : spNumber ds μ Qd) : td_number { nx := fun _ μ' => Qd (.v .none) μ', rt := Qd } (startD ["a", "b", "c", "divisor"] ds) μ := by
  obtain ⟨a, b, c, rfl, hc, hz, q⟩ := h
  unfold td_number
  walk_at "rd"
  rw [decide_eq_false hc]
  simp only [Bool.xor_false, Bool.false_eq_true, ↓reduceIte]
  refine ⟨a, b, c, rfl, ?_⟩
  walk_at "rd"
  have hp := g3_pos (a := a) (b := b) hc
  have hg := gdv (a := a) (b := b) hz hc
  unfold low NM.dv dN at q
  simp only at q
  by_cases hn : c < 0
  · rw [if_pos (by simpa using hn)]
    rw [if_pos hn] at q
    have o : ∀ i : Int, DivOk i (-((g3 a b c : Nat) : Int)) := fun i => divOk (by omega) hg.neg (by decide)
    exact ⟨o _, o _, o _, q⟩
  · rw [if_neg (by simpa using hn)]
    rw [if_neg hn] at q
    have o : ∀ i : Int, DivOk i ((g3 a b c : Nat) : Int) := fun i => divOk (by omega) hg (by decide)
    exact ⟨o _, o _, o _, q⟩
theorem rd__law_low (h : spNumber ds μ Qd) : td__law_low { nx := fun _ μ' => Qd (.v .none) μ', rt := Qd } (startD ["_law_a", "_law_b", "_law_c", "_law_common"] ds) μ := by
  obtain ⟨a, b, c, rfl, hc, hz, q⟩ := h
  unfold td__law_low
  walk_at "rd"
  refine ⟨a, b, rfl, _, c, rfl, ?_⟩
  walk_at "rd"
  have hp := g3_pos (a := a) (b := b) hc
  have hg := gdv (a := a) (b := b) hz hc
  unfold low NM.dv dN at q
  simp only at q
  by_cases hn : c < 0
  · simp only [hn, decide_true, ↓reduceIte, atI_1]
    rw [if_pos hn] at q
    have e : ((Int.gcd (Int.gcd a b : Nat) c : Nat) : Int) * -1 = -((g3 a b c : Nat) : Int) := by unfold g3; omega
    walk_at "rd"
    rw [e]
    have o : ∀ i : Int, DivOk i (-((g3 a b c : Nat) : Int)) := fun i => divOk (by omega) hg.neg (by decide)
    exact ⟨mulR (by decide), o _, o _, o _, q⟩
  · simp only [hn, decide_false, Bool.false_eq_true, ↓reduceIte, atI_0]
    rw [if_neg hn] at q
    have e : ((Int.gcd (Int.gcd a b : Nat) c : Nat) : Int) * 1 = ((g3 a b c : Nat) : Int) := by unfold g3; omega
    walk_at "rd"
    rw [e]
    have o : ∀ i : Int, DivOk i ((g3 a b c : Nat) : Int) := fun i => divOk (by omega) hg (by decide)
    exact ⟨mulR (by decide), o _, o _, o _, q⟩
theorem rd_mate (h : spMate ds μ Qd) : td_mate { nx := fun _ μ' => Qd (.v .none) μ', rt := Qd } (startD ["x"] ds) μ := by
  obtain ⟨x, rfl, q⟩ := h
  unfold td_mate
  walk_at "rd"
  exact q
theorem rd__law_minus (h : spMinus ds μ Qd) : td__law_minus { nx := fun _ μ' => Qd (.v .none) μ', rt := Qd } (startD ["_law_x"] ds) μ := by
  obtain ⟨x, rfl, q⟩ := h
  unfold td__law_minus
  walk_at "rd"
  simp only [Int.zero_sub]
  exact q
theorem rd_plus (h : spPlus ds μ Qd) : td_plus { nx := fun _ μ' => Qd (.v .none) μ', rt := Qd } (startD ["x", "y"] ds) μ := by
  obtain ⟨x, y, rfl, ox, oy, bx, by', q⟩ := h
  unfold td_plus
  walk_at "rd"
  have m : ∀ {i j : Int}, Sz 4300 i → Sz 4300 j → IntMulOk i j := fun h g => mulOk h g (by decide)
  exact ⟨m bx.a by'.c, m by'.a bx.c, m bx.b by'.c, m by'.b bx.c, m bx.c by'.c, _, _, _, rfl, mulc ox oy, (bx.c.mul by'.c).mono (by decide), q⟩
theorem rd__law_plus (h : spPlus ds μ Qd) : td__law_plus { nx := fun _ μ' => Qd (.v .none) μ', rt := Qd } (startD ["_law_x", "_law_y"] ds) μ := rd_plus h
theorem rd_less (h : spLess ds μ Qd) : td_less { nx := fun _ μ' => Qd (.v .none) μ', rt := Qd } (startD ["x", "y"] ds) μ := by
  obtain ⟨x, y, rfl, ox, oy, bx, by', q⟩ := h
  unfold td_less
  walk_at "rd"
  have m : ∀ {i j : Int}, Sz 4300 i → Sz 4300 j → IntMulOk i j := fun h g => mulOk h g (by decide)
  exact ⟨m bx.a by'.c, m by'.a bx.c, m bx.b by'.c, m by'.b bx.c, m bx.c by'.c, _, _, _, rfl, mulc ox oy, (bx.c.mul by'.c).mono (by decide), q⟩
theorem rd_times (h : spTimes ds μ Qd) : td_times { nx := fun _ μ' => Qd (.v .none) μ', rt := Qd } (startD ["d", "x", "y"] ds) μ := by
  obtain ⟨d, x, y, rfl, hd, ox, oy, bx, by', q⟩ := h
  unfold td_times
  walk_at "rd"
  have m : ∀ {i j : Int}, Sz 4300 i → Sz 4300 j → IntMulOk i j := fun h g => mulOk h g (by decide)
  exact ⟨m bx.a by'.a, mulOk hd bx.b (by decide), mulOk (hd.mul bx.b) by'.b (by decide), m bx.a by'.b, m bx.b by'.a, m bx.c by'.c, _, _, _, rfl, mulc ox oy, (bx.c.mul by'.c).mono (by decide), q⟩
theorem rd__law_times (h : spTimes ds μ Qd) : td__law_times { nx := fun _ μ' => Qd (.v .none) μ', rt := Qd } (startD ["_law_d", "_law_x", "_law_y"] ds) μ := rd_times h
theorem rd_contrary (h : spContrary ds μ Qd) : td_contrary { nx := fun _ μ' => Qd (.v .none) μ', rt := Qd } (startD ["d", "x", "norm"] ds) μ := by
  obtain ⟨d, x, rfl, hd, hn, bx, q⟩ := h
  unfold td_contrary
  walk_at "rd"
  have m : ∀ {i j : Int}, Sz 4300 i → Sz 4300 j → IntMulOk i j := fun h g => mulOk h g (by decide)
  exact ⟨m bx.a bx.a, mulOk hd bx.b (by decide), mulOk (hd.mul bx.b) bx.b (by decide), m bx.c bx.a, m bx.c.neg bx.b, _, _, _, rfl, hn, (sz_norm hd bx).mono (by decide), q⟩
theorem rd__law_contrary (h : spContrary ds μ Qd) : td__law_contrary { nx := fun _ μ' => Qd (.v .none) μ', rt := Qd } (startD ["_law_d", "_law_x"] ds) μ := by
  obtain ⟨d, x, rfl, hd, hn, bx, q⟩ := h
  unfold td__law_contrary
  walk_at "rd"
  have m : ∀ {i j : Int}, Sz 4300 i → Sz 4300 j → IntMulOk i j := fun h g => mulOk h g (by decide)
  refine ⟨m bx.a bx.c, m bx.b bx.c, m bx.a bx.a, mulOk hd bx.b (by decide), mulOk (hd.mul bx.b) bx.b (by decide), _, _, _, rfl, hn, (sz_norm hd bx).mono (by decide), ?_⟩
  have e1 : x.a * x.c = x.c * x.a := Int.mul_comm ..
  have e2 : 0 - x.b * x.c = -x.c * x.b := by grind
  rw [e1, e2]
  exact q
theorem eqv3 (a b c a' b' c' : Int) : PyData.eqv (.tuple [.int a, .int b, .int c]) (.tuple [.int a', .int b', .int c']) = decide (a = a' ∧ b = b' ∧ c = c') := by
  simp [PyData.eqv, PyData.eqvAll]
  rfl
theorem rd_over (h : spOver ds μ Qd) : td_over { nx := fun _ μ' => Qd (.v .none) μ', rt := Qd } (startD ["d", "x", "y"] ds) μ := by
  obtain ⟨d, x, y, rfl, hd, ox, oy, hy, bx, by', q⟩ := h
  unfold td_over
  walk_at "rd"
  refine ⟨rfl, rfl, ?_⟩
  have hn : ¬ (y.a = 0 ∧ y.b = 0 ∧ y.c = 1) := fun z => hy (N3.ext' z.1 z.2.1 z.2.2)
  rw [eqv3, decide_eq_false hn]
  simp only [Bool.xor_false, Bool.false_eq_true, ↓reduceIte]
  have s5 := sz_d hd.1 hd.2.1
  have nz := hd.norm oy hy
  exact ⟨d, y, rfl, s5, nz, by'.mono (by decide), d, x, _, rfl, s5, ox, ok_contrary nz, bx.mono (by decide), (bd_contrary s5 nz by').mono (by decide), q⟩
end
open PySem PySem.Spec PyProof.Rows NM
def td_sign_of_parts : DTS :=
  (dSeq (dIfS (dAndT (dB (dOp (rEqD false) (dVar 1) (dC (.int 0)))) (dB (dOp (rEqD false) (dVar 2) (dC (.int 0))))) (dRet (dC (.int 0))) dNext)
  (dSeq (dIfS (dAndT (dB (dOp rGe (dVar 1) (dC (.int 0)))) (dB (dOp rGe (dVar 2) (dC (.int 0))))) (dRet (dC (.int 1))) dNext)
  (dSeq (dIfS (dAndT (dB (dOp rLe (dVar 1) (dC (.int 0)))) (dB (dOp rLe (dVar 2) (dC (.int 0))))) (dRet (dNeg (dC (.int 1)))) dNext)
  (dSeq (dAsg (dIf (dB (dOp rGt (dMul (dVar 1) (dVar 1)) (dMul (dMul (dVar 0) (dVar 2)) (dVar 2)))) (dVar 1) (dVar 2)) (gdName 3))
  (dRet (dIf (dB (dOp rGt (dVar 3) (dC (.int 0)))) (dC (.int 1)) (dNeg (dC (.int 1)))))))))
def td_sign_of : DTS :=
  (dRet (dCall spSignP (dCons (dVar 0) (dCons (dOp rIxD (dVar 1) (dC (.int 0))) (dCons (dOp rIxD (dVar 1) (dC (.int 1))) dNil)))))
def td__law_sign : DTS :=
  (dSeq (dPar 2 3 (dCons (dMul (dOp rIxD (dVar 1) (dC (.int 0))) (dOp rIxD (dVar 1) (dC (.int 0)))) (dCons (dMul (dMul (dVar 0) (dOp rIxD (dVar 1) (dC (.int 1)))) (dOp rIxD (dVar 1) (dC (.int 1)))) dNil)))
  (dSeq (dAsg (dLst (dCons (dSub (dCB rIntD (dCons (dOp rGt (dOp rIxD (dVar 1) (dC (.int 0))) (dC (.int 0))) dNil)) (dCB rIntD (dCons (dOp rLt (dOp rIxD (dVar 1) (dC (.int 0))) (dC (.int 0))) dNil))) (dCons (dSub (dCB rIntD (dCons (dOp rGt (dOp rIxD (dVar 1) (dC (.int 1))) (dC (.int 0))) dNil)) (dCB rIntD (dCons (dOp rLt (dOp rIxD (dVar 1) (dC (.int 1))) (dC (.int 0))) dNil))) dNil))) (gdName 4))
  (dSeq (dIfS (dB (dOp rGe (dMul (dOp rIxD (dVar 4) (dC (.int 0))) (dOp rIxD (dVar 4) (dC (.int 1)))) (dC (.int 0)))) (dRet (dIf (dB (dOp (rEqD true) (dOp rIxD (dVar 4) (dC (.int 0))) (dC (.int 0)))) (dOp rIxD (dVar 4) (dC (.int 0))) (dOp rIxD (dVar 4) (dC (.int 1))))) dNext)
  (dRet (dIf (dB (dOp rGt (dVar 2) (dVar 3))) (dOp rIxD (dVar 4) (dC (.int 0))) (dOp rIxD (dVar 4) (dC (.int 1))))))))
section
variable {μ : Mu} {Qd : DK} {ds : List D}
theorem rd_sign_of_parts (h : spSignP ds μ Qd) : td_sign_of_parts { nx := fun _ μ' => Qd (.v .none) μ', rt := Qd } (startD ["d", "a", "b", "prevailing"] ds) μ := by
  obtain ⟨d, a, b, rfl, hd, ha, hb, q⟩ := h
  unfold td_sign_of_parts
  walk_at "rd"
  have m1 : MulOk a a := mulOk ha ha (by decide)
  have m2 : MulOk d b := mulOk hd hb (by decide)
  have m3 : MulOk (d * b) b := mulOk (hd.mul hb) hb (by decide)
  unfold sg at q
  by_cases h1 : a = 0
  · by_cases h2 : b = 0
    · subst h1 h2; simpa using q
    · subst h1
      rcases Int.lt_or_gt_of_ne h2 with h3 | h3
      · have e : ¬ (0 ≤ b) := by omega
        have e' : b ≤ 0 := by omega
        simp only [h2, e, e', and_false, true_and, if_true, if_false, decide_true, decide_false, Int.le_refl, ↓reduceIte, Bool.false_eq_true] at q ⊢
        exact q
      · have e : (0 ≤ b) := by omega
        simp only [h2, e, and_false, true_and, if_true, if_false, decide_true, decide_false, Int.le_refl, ↓reduceIte, Bool.false_eq_true] at q ⊢
        exact q
  · by_cases h3 : 0 ≤ a <;> by_cases h4 : 0 ≤ b <;> by_cases h5 : a ≤ 0 <;> by_cases h6 : b ≤ 0 <;> by_cases h7 : d * b * b < a * a <;> (try (exfalso; omega)) <;>
      simp only [h1, h3, h4, h5, h6, h7, and_false, false_and, and_true, true_and, if_true, if_false, decide_true, decide_false, ↓reduceIte, Bool.false_eq_true, and_self, m1, m2, m3, gt_iff_lt] at q ⊢ <;> (try exact q)
    all_goals
      first
      | (by_cases h8 : 0 < a <;> simp only [h8, if_true, if_false, decide_true, decide_false, ↓reduceIte, Bool.false_eq_true] at q ⊢ <;> exact q)
      | (by_cases h8 : 0 < b <;> simp only [h8, if_true, if_false, decide_true, decide_false, ↓reduceIte, Bool.false_eq_true] at q ⊢ <;> exact q)
theorem rd_sign_of (h : spSign ds μ Qd) : td_sign_of { nx := fun _ μ' => Qd (.v .none) μ', rt := Qd } (startD ["d", "x"] ds) μ := by
  obtain ⟨d, x, rfl, hd, bx, q⟩ := h
  unfold td_sign_of
  walk_at "rd"
  exact ⟨d, x.a, x.b, rfl, sz_d hd.1 hd.2.1, bx.a.mono (by decide), bx.b.mono (by decide), q⟩
theorem sg_law {d a b sa sb : Int} (ha : (a < 0 ∧ sa = -1) ∨ (a = 0 ∧ sa = 0) ∨ (0 < a ∧ sa = 1)) (hb : (b < 0 ∧ sb = -1) ∨ (b = 0 ∧ sb = 0) ∨ (0 < b ∧ sb = 1)) :
    sg d a b = if 0 ≤ sa * sb then (if sa ≠ 0 then sa else sb) else if d * b * b < a * a then sa else sb := by
  unfold sg
  by_cases h7 : d * b * b < a * a <;> rcases ha with ⟨h1, rfl⟩ | ⟨h1, rfl⟩ | ⟨h1, rfl⟩ <;> rcases hb with ⟨h2, rfl⟩ | ⟨h2, rfl⟩ | ⟨h2, rfl⟩ <;> simp only [h7, ↓reduceIte] <;> (repeat' split) <;> omega
theorem rd__law_sign (h : spSign ds μ Qd) : td__law_sign { nx := fun _ μ' => Qd (.v .none) μ', rt := Qd } (startD ["_law_d", "_law_x", "_law_first", "_law_second", "_law_sides"] ds) μ := by
  obtain ⟨d, x, rfl, hd, bx, q⟩ := h
  unfold td__law_sign
  walk_at "rd"
  have s5 := sz_d hd.1 hd.2.1
  refine ⟨mulOk bx.a bx.a (by decide), mulOk s5 bx.b (by decide), mulOk (s5.mul bx.b) bx.b (by decide), ?_⟩
  have sd : ∀ u : Int, (u < 0 ∧ ((if decide (0 < u) = true then 1 else 0) - if decide (u < 0) = true then 1 else 0 : Int) = -1) ∨ (u = 0 ∧ ((if decide (0 < u) = true then 1 else 0) - if decide (u < 0) = true then 1 else 0 : Int) = 0) ∨ (0 < u ∧ ((if decide (0 < u) = true then 1 else 0) - if decide (u < 0) = true then 1 else 0 : Int) = 1) := fun u => by
    simp only [decide_eq_true_eq]
    split <;> split <;> omega
  have ha := sd x.a
  have hb := sd x.b
  generalize ((if decide (0 < x.a) = true then 1 else 0) - if decide (x.a < 0) = true then 1 else 0 : Int) = sa at ha ⊢
  generalize ((if decide (0 < x.b) = true then 1 else 0) - if decide (x.b < 0) = true then 1 else 0 : Int) = sb at hb ⊢
  rw [sg_law ha hb] at q
  refine ⟨mulL (by omega), ?_⟩
  by_cases c1 : 0 ≤ sa * sb <;> by_cases c2 : sa = 0 <;> by_cases c3 : d * x.b * x.b < x.a * x.a <;> simp only [c1, c2, c3, decide_true, decide_false, ↓reduceIte, Bool.false_eq_true, Bool.xor_false, Bool.xor_true, Bool.not_true, ne_eq, not_true_eq_false, not_false_eq_true, Int.zero_mul, Int.le_refl] at q ⊢ <;> exact q
end
open PySem PySem.Spec PyProof.Rows NM
def td__law_bag : DTS :=
  (dSeq (dAsg (dC (.int 0)) (gdName 2))
  (dSeq (dIfS (dB (dOp rLt (dVar 1) (dCB rLenD (dCons (dVar 0) dNil)))) (dAsg (dOp rIxD (dVar 0) (dVar 1)) (gdName 2)) dNext)
  (dSeq (dAsg (dC (.int 0)) (gdName 3))
  (dSeq (dIfS (dB (dOp rGe (dCB rAbsD (dCons (dVar 2) dNil)) (dPow (dC (.int 10)) (dC (.int 18))))) (dAsg (dCB rAbsD (dCons (dVar 2) dNil)) (gdName 3)) dNext)
  (dSeq (dAsg (dLst (dCons (dC (.int 2147483647)) (dCons (dC (.int 2147483629)) (dCons (dC (.int 2147483587)) (dCons (dC (.int 2147483579)) (dCons (dC (.int 2147483563)) (dCons (dC (.int 2147483549)) (dCons (dC (.int 2147483543)) (dCons (dC (.int 2147483497)) dNil))))))))) (gdName 4))
  (dSeq (dAsg (dAdd (dAdd (dAdd (dMul (dMod (dVar 2) (dC (.int 2147483647))) (dC (.int 69623))) (dMul (dMul (dC (.int 104729)) (dVar 1)) (dVar 1))) (dMul (dC (.int 7919)) (dVar 1))) (dC (.int 12345))) (gdName 5))
  (dRet (dLstM (dCons (dVar 3) (dCons (dMod (dVar 5) (dOp rIxD (dVar 4) (dMod (dVar 1) (dC (.int 8))))) dNil))))))))))
def td__law_take : DTS :=
  (dSeq (dIfS (dB (dOp rGt (dOp rIxD (dVar 0) (dC (.int 0))) (dC (.int 0)))) (dSeq (dAsg (dMod (dOp rIxD (dVar 0) (dC (.int 0))) (dVar 1)) (gdName 2))
  (dSeq (dAsg (dDiv (dOp rIxD (dVar 0) (dC (.int 0))) (dVar 1)) (gdSub (dVar 0) (dC (.int 0))))
  (dRet (dVar 2)))) dNext)
  (dSeq (dAsg (dMod (dAdd (dMul (dOp rIxD (dVar 0) (dC (.int 1))) (dC (.int 48271))) (dC (.int 2531011))) (dC (.int 2147483647))) (gdSub (dVar 0) (dC (.int 1))))
  (dRet (dMod (dDiv (dMod (dPow (dOp rIxD (dVar 0) (dC (.int 1))) (dC (.int 3))) (dC (.int 2147483629))) (dC (.int 64))) (dVar 1)))))
section
variable {μ : Mu} {Qd : DK} {ds : List D}
theorem atI_mem {α : Type} {xs : List α} {i : Int} (h0 : 0 ≤ i) (h : i < (xs.length : Nat)) : ∃ d, atI xs i = some d ∧ d ∈ xs := by
  have hj : i.toNat < xs.length := by omega
  have e := atI_nat (xs := xs) (j := i.toNat) (v := xs[i.toNat]) (by simp [hj])
  rw [show ((i.toNat : Nat) : Int) = i by omega] at e
  exact ⟨_, e, List.getElem_mem _⟩
theorem fmod_rng (x : Int) {y : Int} (h : 0 < y) : 0 ≤ x.fmod y ∧ x.fmod y < y := ⟨Int.fmod_nonneg_of_pos x h, Int.fmod_lt_of_pos x h⟩
theorem fdiv_nn {x y : Int} (hx : 0 ≤ x) (hy : 0 < y) : 0 ≤ x.fdiv y := by rw [Int.fdiv_eq_ediv_of_nonneg _ (by omega)]; exact Int.ediv_nonneg hx (by omega)
def bagPrimes : List PyData := [.int 2147483647, .int 2147483629, .int 2147483587, .int 2147483579, .int 2147483563, .int 2147483549, .int 2147483543, .int 2147483497]
theorem rd__law_bag (h : spBag ds μ Qd) : td__law_bag { nx := fun _ μ' => Qd (.v .none) μ', rt := Qd } (startD ["_law_script", "_law_at", "_law_cell", "_law_great", "_law_primes", "_law_mixed"] ds) μ := by
  obtain ⟨ns, k, rfl, h0, h1, q⟩ := h
  unfold td__law_bag
  have hp : ∃ pr : Int, atI bagPrimes (k.fmod 8) = some (.int pr) ∧ 0 < pr ∧ pr < 2147483648 := by
    obtain ⟨h2, h3⟩ := fmod_rng k (show (0 : Int) < 8 by decide)
    obtain ⟨p, e, hm⟩ := atI_mem (xs := bagPrimes) h2 (by exact h3)
    simp only [bagPrimes, List.mem_cons, List.not_mem_nil, or_false] at hm
    rcases hm with rfl | rfl | rfl | rfl | rfl | rfl | rfl | rfl <;> exact ⟨_, e, by decide, by decide⟩
  obtain ⟨pr, hpe, hp0, hp1⟩ := hp
  unfold bagPrimes at hpe
  walk_at "rd"
  rw [hpe]
  walk_at "rd"
  have c1 : CPow 10 18 := ⟨by decide, by decide, by decide⟩
  have z1 : (2147483647 : Int) ≠ 0 := by decide
  have z2 : (8 : Int) ≠ 0 := by decide
  have m1 : ∀ i : Int, MulOk i 69623 := fun i => mulR (by decide)
  have m2 : MulOk 104729 k := mulL (by decide)
  have m3 : MulOk (104729 * k) k := mulR (by omega)
  have m4 : MulOk 7919 k := mulL (by decide)
  have z3 : pr ≠ 0 := by omega
  have fin : ∀ G x : Int, 0 ≤ G → ∀ p, μ p = none → Qd (.m p) (muSet μ p [.int G, .int (x.fmod pr)]) := fun G x hG p hp => by
    obtain ⟨h2, h3⟩ := fmod_rng x hp0
    exact q p _ hp (Step.set hG h2 (by omega))
  by_cases hk : k < (ns.length : Nat)
  · rw [if_pos (by simpa using hk)]
    obtain ⟨c, hc, _⟩ := atI_mem h0 hk
    rw [hc]
    walk_at "rd"
    refine ⟨c1, ?_⟩
    split
    · exact ⟨z1, m1 _, m2, m3, m4, z2, z3, fin _ _ (by omega)⟩
    · exact ⟨z1, m1 _, m2, m3, m4, z2, z3, fin _ _ (by omega)⟩
  · rw [if_neg (by simpa using hk)]
    refine ⟨c1, ?_⟩
    split
    · exact ⟨z1, m1 _, m2, m3, m4, z2, z3, fin _ _ (by omega)⟩
    · exact ⟨z1, m1 _, m2, m3, m4, z2, z3, fin _ _ (by omega)⟩
theorem rd__law_take (h : spTake ds μ Qd) : td__law_take { nx := fun _ μ' => Qd (.v .none) μ', rt := Qd } (startD ["_law_bag_here", "_law_many", "_law_digit"] ds) μ := by
  obtain ⟨a, n, rfl, h0, h1, ⟨g, m, hb, hg, hm, hm'⟩, q⟩ := h
  unfold td__law_take
  walk_at "rd"
  rw [hb]
  walk_at "rd"
  rw [hb]
  walk_at "rd"
  have n0 : n ≠ 0 := by omega
  have i0 : ixN 2 0 = some 0 := by rfl
  have i1 : ixN 2 1 = some 1 := by rfl
  by_cases hg0 : 0 < g
  · rw [if_pos (by simpa using hg0)]
    simp only [hb]
    walk_at "rd"
    obtain ⟨r0, r1⟩ := fmod_rng g (show 0 < n by omega)
    refine ⟨n0, ?_⟩
    simp only [hb]
    walk_at "rd"
    refine ⟨divC n0 (by omega), ?_⟩
    simp only [hb, List.length_cons, List.length_nil, Nat.reduceAdd, i0, List.set_cons_zero]
    exact q _ _ r0 r1 (Step.set (fdiv_nn hg (by omega)) hm hm')
  · rw [if_neg (by simpa using hg0)]
    simp only [hb, i1, muSet_same]
    walk_at "rd"
    obtain ⟨s0, s1⟩ := fmod_rng (m * 48271 + 2531011) (show (0 : Int) < 2147483647 by decide)
    generalize (m * 48271 + 2531011).fmod 2147483647 = w at s0 s1 ⊢
    obtain ⟨r0, r1⟩ := fmod_rng ((((w ^ Int.toNat 3).fmod 2147483629).fdiv 64)) (show 0 < n by omega)
    refine ⟨mulL (by omega), by decide, ?_⟩
    refine ⟨⟨by decide, by decide, by omega⟩, (by show (2147483629 : Int) ≠ 0; decide), divC (by decide) (by decide), n0, ?_⟩
    exact q _ _ r0 r1 (Step.set hg s0 (by omega))
end
open PySem PySem.Spec PyProof.Rows NM
section
variable {μ : Mu} {Qd : DK} {ds : List D}
end
open PySem PySem.Spec PyProof.Rows NM
def td_is_number : DTS :=
  (dSeq (dIfS (dOrT (dNotT (dB (dIsi "tuple" (dVar 0)))) (dB (dOp (rEqD true) (dCB rLenD (dCons (dVar 0) dNil)) (dC (.int 3))))) (dRet (dC (.bool false))) dNext)
  (dSeq (dAsg (dVar 0) (gdTup 3 (gdCons (gdName 1) (gdCons (gdName 2) (gdCons (gdName 3) gdNil)))))
  (dSeq (dIfS (dOrT (dNotT (dB (dCall spWhole (dCons (dVar 1) dNil)))) (dOrT (dNotT (dB (dCall spWhole (dCons (dVar 2) dNil)))) (dNotT (dB (dCall spWhole (dCons (dVar 3) dNil)))))) (dRet (dC (.bool false))) dNext)
  (dRet (dAndV (dOp rGe (dVar 3) (dC (.int 1))) (dOp (rEqD false) (dCall spDiv3 (dCons (dVar 1) (dCons (dVar 2) (dCons (dVar 3) dNil)))) (dC (.int 1))))))))
section
variable {μ : Mu} {Qd : DK} {ds : List D}
def rootB (i : Int) : Bool := decide (2 ≤ i) && decide (i ≤ 30) && !(decide (i = 4) || decide (i = 9) || decide (i = 16) || decide (i = 25))
theorem isWhole_cases (d : PyData) : (∃ i, d = .int i ∧ isWhole d = true) ∨ ((∀ i, d ≠ .int i) ∧ isWhole d = false) := by
  cases d <;> first | exact .inl ⟨_, rfl, rfl⟩ | exact .inr ⟨fun _ z => (by cases z), rfl⟩
theorem isT_tup (d : PyData) : (∃ xs, d = .tuple xs ∧ isT "tuple" d = true) ∨ ((∀ xs, d ≠ .tuple xs) ∧ isT "tuple" d = false) := by
  cases d <;> first | exact .inl ⟨_, rfl, rfl⟩ | exact .inr ⟨fun _ z => (by cases z), rfl⟩
theorem isNum_not {d : PyData} (h : ∀ xs, d ≠ .tuple xs) : isNum d = false := by cases d <;> first | rfl | exact absurd rfl (h _)
theorem isNum_len {xs : List PyData} (h : xs.length ≠ 3) : isNum (.tuple xs) = false := by
  unfold isNum
  split
  · rename_i e; cases e; exact absurd rfl h
  · rfl
theorem three {α : Type} {xs : List α} (h : xs.length = 3) : ∃ a b c, xs = [a, b, c] := by
  match xs, h with
  | [a, b, c], _ => exact ⟨a, b, c, rfl⟩
theorem rd_is_number (h : spNumQ ds μ Qd) : td_is_number { nx := fun _ μ' => Qd (.v .none) μ', rt := Qd } (startD ["thing", "a", "b", "c"] ds) μ := by
  obtain ⟨d, rfl, _, q⟩ := h
  unfold td_is_number
  walk_at "rd"
  rcases isT_tup d with ⟨xs, rfl, e⟩ | ⟨hn, e⟩
  · rw [e]
    walk_at "rd"
    by_cases hl : xs.length = 3
    · obtain ⟨a, b, c, rfl⟩ := three hl
      have e3 : decide ((([a, b, c].length : Nat) : Int) = 3) = true := rfl
      have e3' : [a, b, c].length = 3 := rfl
      simp only [e3, Bool.xor_self, Bool.false_eq_true, ↓reduceIte]
      refine ⟨rfl, ?_⟩
      walk_at "rd"
      refine ⟨a, rfl, ?_⟩
      rcases isWhole_cases a with ⟨i, rfl, e⟩ | ⟨hn, e⟩
      · rw [e]
        walk_at "rd"
        refine ⟨b, rfl, ?_⟩
        rcases isWhole_cases b with ⟨j, rfl, e⟩ | ⟨hn, e⟩
        · rw [e]
          walk_at "rd"
          refine ⟨c, rfl, ?_⟩
          rcases isWhole_cases c with ⟨k, rfl, e⟩ | ⟨hn, e⟩
          · rw [e]
            walk_at "rd"
            have q' : Qd (.v (.bool (decide (1 ≤ k) && (g3 i j k == 1)))) μ := q
            by_cases hk : 1 ≤ k
            · rw [if_pos (by simpa using hk)]
              refine ⟨i, j, k, rfl, ?_⟩
              walk_at "rd"
              have ee : decide (((g3 i j k : Nat) : Int) = 1) = (decide (1 ≤ k) && (g3 i j k == 1)) := by
                rw [decide_eq_true hk, Bool.true_and, Bool.eq_iff_iff]; simp; omega
              rw [ee]
              exact q'
            · rw [if_neg (by simpa using hk)]
              rw [decide_eq_false hk] at q'
              exact q'
          · rw [e]
            walk_at "rd"
            have : isNum (.tuple [.int i, .int j, c]) = false := by cases c <;> first | rfl | exact absurd rfl (hn _)
            rw [this] at q
            exact q
        · rw [e]
          walk_at "rd"
          have : isNum (.tuple [.int i, b, c]) = false := by cases b <;> first | rfl | exact absurd rfl (hn _)
          rw [this] at q
          exact q
      · rw [e]
        walk_at "rd"
        have : isNum (.tuple [a, b, c]) = false := by cases a <;> first | rfl | exact absurd rfl (hn _)
        rw [this] at q
        exact q
    · rw [isNum_len hl] at q
      have : decide (((xs.length : Nat) : Int) = 3) = false := by simp; omega
      rw [this]
      simp only [Bool.xor_false, ↓reduceIte]
      exact q
  · rw [e]
    rw [isNum_not hn] at q
    walk_at "rd"
    exact q
end
open PySem PySem.Spec PyProof.Rows NM
def td__law_is_number : DTS :=
  (dSeq (dIfS (dOrT (dNotT (dB (dIsi "tuple" (dVar 0)))) (dOrT (dB (dOp (rEqD true) (dCB rLenD (dCons (dVar 0) dNil)) (dC (.int 3)))) (dNotT (dB (dCB rAllD (dCons (dComp [none] (diTup (dVar 0)) (gdName 0) dTrue (dCall spWhole (dCons (dVar 0) dNil))) dNil)))))) (dRet (dC (.bool false))) dNext)
  (dRet (dAndV (dOp rGt (dOp rIxD (dVar 0) (dC (.int 2))) (dC (.int 0))) (dOp (rEqD false) (dCall spGcd (dCons (dCall spGcd (dCons (dOp rIxD (dVar 0) (dC (.int 0))) (dCons (dOp rIxD (dVar 0) (dC (.int 1))) dNil))) (dCons (dOp rIxD (dVar 0) (dC (.int 2))) dNil))) (dC (.int 1))))))
def td__law_number : DTS :=
  (dSeq (dAsg (dOp rIxD (dLst (dCons (dC (.int 4)) (dCons (dC (.int 10)) (dCons (dC (.int 100)) (dCons (dC (.int 1000000)) dNil))))) (dCall spTake (dCons (dVar 0) (dCons (dC (.int 4)) dNil)))) (gdName 1))
  (dSeq (dPar 2 3 (dCons (dSub (dCall spTake (dCons (dVar 0) (dCons (dVar 1) dNil))) (dDiv (dVar 1) (dC (.int 2)))) (dCons (dSub (dCall spTake (dCons (dVar 0) (dCons (dVar 1) dNil))) (dDiv (dVar 1) (dC (.int 2)))) dNil)))
  (dSeq (dAsg (dAdd (dC (.int 1)) (dCall spTake (dCons (dVar 0) (dCons (dSub (dVar 1) (dC (.int 1))) dNil)))) (gdName 4))
  (dSeq (dAsg (dCall spTake (dCons (dVar 0) (dCons (dC (.int 8)) dNil))) (gdName 5))
  (dRet (dCall spNumber (dCons (dOp rIxD (dLst (dCons (dVar 2) (dCons (dVar 2) (dCons (dVar 2) (dCons (dVar 2) (dCons (dVar 2) (dCons (dVar 2) (dCons (dVar 2) (dCons (dC (.int 0)) dNil))))))))) (dVar 5)) (dCons (dOp rIxD (dLst (dCons (dVar 3) (dCons (dVar 3) (dCons (dVar 3) (dCons (dVar 3) (dCons (dVar 3) (dCons (dC (.int 0)) (dCons (dC (.int 0)) (dCons (dVar 3) dNil))))))))) (dVar 5)) (dCons (dOp rIxD (dLst (dCons (dVar 4) (dCons (dVar 4) (dCons (dC (.int 1)) (dCons (dVar 4) (dCons (dC (.int 1)) (dCons (dVar 4) (dCons (dC (.int 1)) (dCons (dVar 4) dNil))))))))) (dVar 5)) dNil)))))))))
section
variable {μ : Mu} {Qd : DK} {ds : List D}
theorem rd__law_is_number (h : spNumQ ds μ Qd) : td__law_is_number { nx := fun _ μ' => Qd (.v .none) μ', rt := Qd } (startD ["_law_thing"] ds) μ := by
  obtain ⟨d, rfl, few, q⟩ := h
  unfold td__law_is_number
  walk_at "rd"
  rcases isT_tup d with ⟨xs, rfl, e⟩ | ⟨hn, e⟩
  · rw [e]
    walk_at "rd"
    by_cases hl : xs.length = 3
    · obtain ⟨a, b, c, rfl⟩ := three hl
      have e3 : decide ((([a, b, c].length : Nat) : Int) = 3) = true := rfl
      simp only [e3, Bool.xor_self, Bool.false_eq_true, ↓reduceIte]
      refine ⟨by simp, fun x => some (.bool (isWhole x)), fun x hx μ' hs => ⟨trivial, x, rfl, rfl, rfl⟩, ?_⟩
      rw [fm_some (fun x => PyData.bool (isWhole x)), asBools_map]
      simp only [List.map_cons, List.map_nil, List.all_cons, List.all_nil, id, Bool.and_true]
      rcases isWhole_cases a with ⟨i, rfl, ea⟩ | ⟨hn, ea⟩
      · rcases isWhole_cases b with ⟨j, rfl, e1⟩ | ⟨hn, e1⟩
        · rcases isWhole_cases c with ⟨k, rfl, e2⟩ | ⟨hn, e2⟩
          · rw [ea, e1, e2]
            simp only [Bool.and_self]
            walk_at "rd"
            have q' : Qd (.v (.bool (decide (1 ≤ k) && (g3 i j k == 1)))) μ := q
            by_cases hk : 1 ≤ k
            · rw [if_pos (by simp; omega)]
              refine ⟨i, j, rfl, _, k, rfl, ?_⟩
              walk_at "rd"
              have ee : decide (((Int.gcd (Int.gcd i j : Nat) k : Nat) : Int) = 1) = (decide (1 ≤ k) && (g3 i j k == 1)) := by
                unfold g3
                rw [decide_eq_true hk, Bool.true_and, Bool.eq_iff_iff]; simp; omega
              rw [ee]
              exact q'
            · rw [if_neg (by simp; omega)]
              rw [decide_eq_false hk] at q'
              exact q'
          · rw [ea, e1, e2]
            simp only [Bool.and_false]
            walk_at "rd"
            have : isNum (.tuple [.int i, .int j, c]) = false := by cases c <;> first | rfl | exact absurd rfl (hn _)
            rw [this] at q
            exact q
        · rw [ea, e1]
          simp only [Bool.and_false, Bool.false_and]
          walk_at "rd"
          have : isNum (.tuple [.int i, b, c]) = false := by cases b <;> first | rfl | exact absurd rfl (hn _)
          rw [this] at q
          exact q
      · rw [ea]
        simp only [Bool.and_false, Bool.false_and]
        walk_at "rd"
        have : isNum (.tuple [a, b, c]) = false := by cases a <;> first | rfl | exact absurd rfl (hn _)
        rw [this] at q
        exact q
    · rw [isNum_len hl] at q
      have : decide (((xs.length : Nat) : Int) = 3) = false := by simp; omega
      rw [this]
      simp only [Bool.xor_false, ↓reduceIte]
      exact q
  · rw [e]
    rw [isNum_not hn] at q
    walk_at "rd"
    exact q
theorem pick {P : PyData → Prop} {xs : List PyData} {i : Int} (h0 : 0 ≤ i) (h1 : i < (xs.length : Nat)) (h : ∀ x ∈ xs, P x) : ∃ d, atI xs i = some d ∧ P d := let ⟨d, e, m⟩ := atI_mem h0 h1; ⟨d, e, h d m⟩
theorem Step.refl {a : Addr} (h : Bag μ a) : Step a μ μ := ⟨h, fun _ _ => rfl⟩
theorem sz20 {i : Int} (h1 : -1048576 < i) (h2 : i < 1048576) : Sz 20 i := Sz.of (by show i.natAbs < 1048576; omega)
theorem rd__law_number (h : spNumberL ds μ Qd) : td__law_number { nx := fun _ μ' => Qd (.v .none) μ', rt := Qd } (startD ["_law_bag_here", "_law_wide", "_law_a", "_law_b", "_law_c", "_law_way"] ds) μ := by
  obtain ⟨a, rfl, hb, q⟩ := h
  unfold td__law_number
  walk_at "rd"
  refine ⟨a, 4, rfl, by decide, by decide, hb, fun r0 μ1 h0 h1 s1 => ?_⟩
  walk_at "rd"
  obtain ⟨w, e, i, rfl, w0, w1⟩ := pick (P := fun d => ∃ i : Int, d = .int i ∧ 4 ≤ i ∧ i ≤ 1000000) (xs := [PyData.int 4, PyData.int 10, PyData.int 100, PyData.int 1000000]) h0 (by exact h1) (by
    intro x hx
    simp only [List.mem_cons, List.not_mem_nil, or_false] at hx
    rcases hx with rfl | rfl | rfl | rfl <;> exact ⟨_, rfl, by decide, by decide⟩)
  rw [e]
  walk_at "rd"
  refine ⟨a, i, rfl, by omega, by omega, s1.1, fun r1 μ2 h2 h3 s2 => ?_⟩
  walk_at "rd"
  refine ⟨divC (by decide) (by decide), a, i, rfl, by omega, by omega, s2.1, fun r2 μ3 h4 h5 s3 => ?_⟩
  walk_at "rd"
  refine ⟨divC (by decide) (by decide), a, i - 1, rfl, by omega, by omega, s3.1, fun r3 μ4 h6 h7 s4 => ?_⟩
  walk_at "rd"
  refine ⟨a, 8, rfl, by decide, by decide, s4.1, fun r4 μ5 h8 h9 s5 => ?_⟩
  walk_at "rd"
  have ef : i.fdiv 2 = i / 2 := Int.fdiv_eq_ediv_of_nonneg _ (by omega)
  rw [ef]
  have za : Sz 20 (r1 - i / 2) := sz20 (by omega) (by omega)
  have zb : Sz 20 (r2 - i / 2) := sz20 (by omega) (by omega)
  have zc : Sz 20 (1 + r3) := sz20 (by omega) (by omega)
  have z0 : Sz 20 0 := sz20 (by omega) (by omega)
  have z1 : Sz 20 1 := sz20 (by omega) (by omega)
  obtain ⟨d1, e1, i1, rfl, b1⟩ := pick (P := fun d => ∃ i : Int, d = .int i ∧ Sz 20 i) (xs := [PyData.int (r1 - i / 2), PyData.int (r1 - i / 2), PyData.int (r1 - i / 2), PyData.int (r1 - i / 2), PyData.int (r1 - i / 2), PyData.int (r1 - i / 2), PyData.int (r1 - i / 2), PyData.int 0]) h8 (by exact h9) (by
    intro x hx
    simp only [List.mem_cons, List.not_mem_nil, or_false] at hx
    rcases hx with rfl | rfl | rfl | rfl | rfl | rfl | rfl | rfl <;> exact ⟨_, rfl, by assumption⟩)
  rw [e1]
  walk_at "rd"
  obtain ⟨d2, e2, i2, rfl, b2⟩ := pick (P := fun d => ∃ i : Int, d = .int i ∧ Sz 20 i) (xs := [PyData.int (r2 - i / 2), PyData.int (r2 - i / 2), PyData.int (r2 - i / 2), PyData.int (r2 - i / 2), PyData.int (r2 - i / 2), PyData.int 0, PyData.int 0, PyData.int (r2 - i / 2)]) h8 (by exact h9) (by
    intro x hx
    simp only [List.mem_cons, List.not_mem_nil, or_false] at hx
    rcases hx with rfl | rfl | rfl | rfl | rfl | rfl | rfl | rfl <;> exact ⟨_, rfl, by assumption⟩)
  rw [e2]
  walk_at "rd"
  obtain ⟨d3, e3, i3, rfl, b3, p3⟩ := pick (P := fun d => ∃ i : Int, d = .int i ∧ Sz 20 i ∧ 0 < i) (xs := [PyData.int (1 + r3), PyData.int (1 + r3), PyData.int 1, PyData.int (1 + r3), PyData.int 1, PyData.int (1 + r3), PyData.int 1, PyData.int (1 + r3)]) h8 (by exact h9) (by
    intro x hx
    simp only [List.mem_cons, List.not_mem_nil, or_false] at hx
    rcases hx with rfl | rfl | rfl | rfl | rfl | rfl | rfl | rfl <;> exact ⟨_, rfl, by assumption, by omega⟩)
  rw [e3]
  walk_at "rd"
  have n3 : i3 ≠ 0 := by omega
  exact ⟨i1, i2, i3, rfl, n3, b3.mono (by decide), q _ _ (low_ok _ _ n3) (low_bd n3 b1 b2 b3) (s1.trans (s2.trans (s3.trans (s4.trans s5))))⟩
end
open PySem PySem.Spec PyProof.Rows NM
def td__law_root : DTS :=
  (dSeq (dIfS (dB (dOp (rEqD false) (dCall spTake (dCons (dVar 0) (dCons (dC (.int 2)) dNil))) (dC (.int 0)))) (dRet (dOp rIxD (dLst (dCons (dC (.int 2)) (dCons (dC (.int 3)) (dCons (dC (.int 5)) dNil)))) (dCall spTake (dCons (dVar 0) (dCons (dC (.int 3)) dNil))))) dNext)
  (dSeq (dAsg (dCompI [none] (diRng2 (dCons (dC (.int 2)) (dCons (dC (.int 31)) dNil))) (gdName 0) (dB (dOp (rInD true) (dVar 0) (dLst (dCons (dC (.int 4)) (dCons (dC (.int 9)) (dCons (dC (.int 16)) (dCons (dC (.int 25)) dNil))))))) (dVar 0)) (gdName 1))
  (dRet (dOp rIxD (dVar 1) (dCall spTake (dCons (dVar 0) (dCons (dC (.int 25)) dNil)))))))
def td__law_odd : DTS :=
  (dSeq (dAsg (dLst (dCons (dC .none) (dCons (dC (.bool true)) (dCons (dC (.bool false)) (dCons (dC (.str "1")) (dCons (dC (.str "")) (dCons (dNeg (dC (.int 1))) (dCons (dC (.int 0)) (dCons (dC (.int 1)) (dCons (dPow (dC (.int 10)) (dC (.int 59))) (dCons (dTup dNil) (dCons (dLst dNil) (dCons (dLst (dCons (dC (.int 0)) dNil)) (dCons (dTup (dCons (dC (.int 0)) (dCons (dC (.int 0)) dNil))) (dCons (dTup (dCons (dC (.int 1)) (dCons (dC (.int 0)) (dCons (dC (.int 0)) dNil)))) (dCons (dTup (dCons (dC (.int 2)) (dCons (dC (.int 0)) (dCons (dC (.int 2)) dNil)))) (dCons (dTup (dCons (dC (.int 1)) (dCons (dC (.bool true)) (dCons (dC (.int 1)) dNil)))) (dCons (dTup (dCons (dC (.int 1)) (dCons (dC (.int 1)) (dCons (dNeg (dC (.int 1))) dNil)))) (dCons (dLst (dCons (dC (.int 1)) (dCons (dC (.int 0)) (dCons (dC (.int 1)) dNil)))) (dCons (dTup (dCons (dC (.int 1)) (dCons (dC (.int 0)) dNil))) (dCons (dC (.str "a")) dNil))))))))))))))))))))) (gdName 1))
  (dRet (dOp rIxD (dVar 1) (dCall spTake (dCons (dVar 0) (dCons (dC (.int 20)) dNil))))))
def td__law_above : DTS :=
  (dSeq (dAsg (dCall spNumberL (dCons (dVar 0) dNil)) (gdName 2))
  (dSeq (dAsg (dCall spSign (dCons (dVar 1) (dCons (dVar 2) dNil))) (gdName 3))
  (dSeq (dIfS (dB (dOp (rEqD false) (dVar 3) (dC (.int 0)))) (dRet (dTup (dCons (dAdd (dC (.int 1)) (dCall spTake (dCons (dVar 0) (dCons (dC (.int 5)) dNil)))) (dCons (dC (.int 0)) (dCons (dC (.int 1)) dNil))))) dNext)
  (dRet (dIf (dB (dOp rGt (dVar 3) (dC (.int 0)))) (dVar 2) (dCall spMinus (dCons (dVar 2) dNil)))))))
section
variable {μ : Mu} {Qd : DK} {ds : List D}
theorem mem_rng {lo : Int} {n : Nat} {x : PyData} (h : x ∈ rngD lo n) : ∃ i : Int, x = .int i ∧ lo ≤ i ∧ i < lo + n := by
  unfold rngD at h
  obtain ⟨k, hk, rfl⟩ := List.mem_map.mp h
  have := List.mem_range.mp hk
  exact ⟨_, rfl, by omega, by omega⟩
def rootF : PyData → Option PyData
  | .int i => if rootB i then some (.int i) else none
  | _ => none
def roots25 : List PyData := [2, 3, 5, 6, 7, 8, 10, 11, 12, 13, 14, 15, 17, 18, 19, 20, 21, 22, 23, 24, 26, 27, 28, 29, 30].map PyData.int
theorem in4 (i : Int) : (List.any [PyData.int 4, PyData.int 9, PyData.int 16, PyData.int 25] fun b => PyData.eqv b (.int i)) = (decide (i = 4) || decide (i = 9) || decide (i = 16) || decide (i = 25)) := by
  have ev : ∀ j : Int, PyData.eqv (.int j) (.int i) = decide (i = j) := fun j => by rw [eqvI]; simp [eq_comm]
  simp only [List.any_cons, List.any_nil, ev, Bool.or_false, Bool.or_assoc]
theorem rd__law_root (h : spRootL ds μ Qd) : td__law_root { nx := fun _ μ' => Qd (.v .none) μ', rt := Qd } (startD ["_law_bag_here", "_law_some"] ds) μ := by
  obtain ⟨a, rfl, hb, q⟩ := h
  unfold td__law_root
  walk_at "rd"
  refine ⟨a, 2, rfl, by decide, by decide, hb, fun r0 μ1 h0 h1 s1 => ?_⟩
  walk_at "rd"
  by_cases hr : r0 = 0
  · rw [if_pos (by simpa using hr)]
    refine ⟨a, 3, rfl, by decide, by decide, s1.1, fun r1 μ2 h2 h3 s2 => ?_⟩
    walk_at "rd"
    obtain ⟨w, e, i, rfl, w0⟩ := pick (P := fun d => ∃ i : Int, d = .int i ∧ IsRoot i) (xs := [PyData.int 2, PyData.int 3, PyData.int 5]) h2 (by exact h3) (by
      intro x hx
      simp only [List.mem_cons, List.not_mem_nil, or_false] at hx
      rcases hx with rfl | rfl | rfl <;> exact ⟨_, rfl, by unfold IsRoot; omega⟩)
    rw [e]
    exact q _ _ w0 (s1.trans s2)
  · rw [if_neg (by simpa using hr)]
    refine ⟨⟨by decide, by decide, by decide, by decide⟩, by decide, fun p hp => ⟨fun i acc μ' => acc = ((rngD 2 29).take i).filterMap rootF ∧ μ' = muSet μ1 p acc, ⟨rfl, rfl⟩, ?_, ?_⟩⟩
    · rintro i x acc μ' hx hpa ⟨e0, e1⟩
      obtain ⟨k, rfl, i0, i1⟩ := mem_rng (List.mem_of_getElem? hx)
      refine ⟨trivial, rfl, rfl, by show 0 ≤ 60; decide, ?_⟩
      rw [in4]
      have i1' : k < 31 := by simpa using i1
      have e : rootF (.int k) = if rootB k then some (.int k) else none := rfl
      have e2 : rootB k = !(decide (k = 4) || decide (k = 9) || decide (k = 16) || decide (k = 25)) := by
        unfold rootB
        rw [decide_eq_true i0, decide_eq_true (show k ≤ 30 by omega)]
        rfl
      have ft : ((rngD 2 29).take (i + 1)).filterMap rootF = ((rngD 2 29).take i).filterMap rootF ++ (rootF (.int k)).toList := fmTake hx
      rw [e, e2] at ft
      cases hh : (decide (k = 4) || decide (k = 9) || decide (k = 16) || decide (k = 25))
      · rw [hh] at ft
        simp only [Bool.true_xor, Bool.not_false, ↓reduceIte] at ft ⊢
        refine ⟨hpa, ?_, ?_⟩
        · rw [ft, e0]; rfl
        · rw [e1, muSet_set]
      · rw [hh] at ft
        simp only [Bool.true_xor, Bool.not_true, ↓reduceIte, Bool.false_eq_true] at ft ⊢
        refine ⟨hpa, ?_, e1⟩
        rw [ft, e0]; simp
    rintro acc μ' ⟨e0, e1⟩ _
    have ed : muDel μ' p = μ1 := by rw [e1]; exact muDel_set hp
    rw [ed]
    have e0' : acc = roots25 := by rw [e0]; rfl
    rw [e0']
    refine ⟨a, 25, rfl, by decide, by decide, s1.1, fun r1 μ2 h2 h3 s2 => ?_⟩
    walk_at "rd"
    obtain ⟨w, e, i, rfl, w0⟩ := pick (P := fun d => ∃ i : Int, d = .int i ∧ IsRoot i) (xs := roots25) h2 (by exact h3) (by
      intro x hx
      unfold roots25 at hx
      obtain ⟨k, hk, rfl⟩ := List.mem_map.mp hx
      refine ⟨_, rfl, ?_⟩
      simp only [List.mem_cons, List.not_mem_nil, or_false] at hk
      unfold IsRoot
      omega)
    rw [e]
    exact q _ _ w0 (s1.trans s2)
def oddList : List PyData := [.none, .bool true, .bool false, .str "1", .str "", .int (-1), .int 0, .int 1, .int (10 ^ Int.toNat 59), .tuple [], .list [], .list [.int 0], .tuple [.int 0, .int 0], .tuple [.int 1, .int 0, .int 0], .tuple [.int 2, .int 0, .int 2], .tuple [.int 1, .bool true, .int 1], .tuple [.int 1, .int 1, .int (-1)], .list [.int 1, .int 0, .int 1], .tuple [.int 1, .int 0], .str "a"]
def spOdd : DSp := fun ds μ Q => ∃ a : Addr, ds = [.m a] ∧ Bag μ a ∧ ∀ d μ', d ∈ oddList → Step a μ μ' → Q (.v d) μ'
theorem rd__law_odd (h : spOdd ds μ Qd) : td__law_odd { nx := fun _ μ' => Qd (.v .none) μ', rt := Qd } (startD ["_law_bag_here", "_law_some"] ds) μ := by
  obtain ⟨a, rfl, hb, q⟩ := h
  unfold td__law_odd
  walk_at "rd"
  refine ⟨⟨by decide, by decide, by decide⟩, a, 20, rfl, by decide, by decide, hb, fun r0 μ1 h0 h1 s1 => ?_⟩
  walk_at "rd"
  obtain ⟨d, e, m⟩ := atI_mem (xs := oddList) h0 (by exact h1)
  unfold oddList at e
  rw [e]
  exact q d _ m s1
def spAboveL : DSp := fun ds μ Q => ∃ (a : Addr) (d : Int), ds = [.m a, .v (.int d)] ∧ IsRoot d ∧ Bag μ a ∧ ∀ x μ', Ok x → Bd 20 x → sg d x.a x.b = 1 → Step a μ μ' → Q (.v (dN x)) μ'
theorem rd__law_above (h : spAboveL ds μ Qd) : td__law_above { nx := fun _ μ' => Qd (.v .none) μ', rt := Qd } (startD ["_law_bag_here", "_law_d", "_law_x", "_law_sign_here"] ds) μ := by
  obtain ⟨a, d, rfl, hd, hb, q⟩ := h
  unfold td__law_above
  walk_at "rd"
  refine ⟨a, rfl, hb, fun x μ1 ox bx s1 => ?_⟩
  walk_at "rd"
  refine ⟨d, x, rfl, hd, bx.mono (by decide), ?_⟩
  walk_at "rd"
  have t := sg_tri d x.a x.b
  by_cases h0 : sg d x.a x.b = 0
  · rw [if_pos (by simpa using h0)]
    refine ⟨a, 5, rfl, by decide, by decide, s1.1, fun r μ2 r0 r1 s2 => ?_⟩
    walk_at "rd"
    have ok : Ok ⟨1 + r, 0, 1⟩ := ⟨by show (0 : Int) < 1; decide, by unfold g3; simp⟩
    refine q ⟨1 + r, 0, 1⟩ μ2 ok ⟨sz20 (by show -1048576 < 1 + r; omega) (by show 1 + r < 1048576; omega), sz20 (by show -1048576 < (0 : Int); decide) (by show (0 : Int) < 1048576; decide), sz20 (by show -1048576 < (1 : Int); decide) (by show (1 : Int) < 1048576; decide)⟩ ?_ (s1.trans s2)
    show sg d (1 + r) 0 = 1
    unfold sg
    rw [if_neg (by omega), if_pos (by omega)]
  · rw [if_neg (by simpa using h0)]
    by_cases h1 : 0 < sg d x.a x.b
    · rw [if_pos (by simpa using h1)]
      exact q x μ1 ox bx (by omega) s1
    · rw [if_neg (by simpa using h1)]
      refine ⟨x, rfl, ?_⟩
      refine q (minus x) μ1 (ok_minus ox) (bd_minus bx) ?_ s1
      show sg d (-x.a) (-x.b) = 1
      rw [sg_neg hd]
      omega
end
open PySem PySem.Spec PyProof.Rows NM
section
variable {μ : Mu} {Q : DK} {ds : List D}
def spLaw : DSp := fun ds μ Q => ∃ ns : List Int, ds = [.s ns] ∧ ns.length ≤ 63 ∧ ∀ μ', Q (.v (.bool true)) μ'
theorem len_spWhole (h : spWhole ds μ Q) : ds.length = 1 := by obtain ⟨_, rfl, _⟩ := h; rfl
theorem len_spGcd (h : spGcd ds μ Q) : ds.length = 2 := by obtain ⟨_, _, rfl, _⟩ := h; rfl
theorem len_spDiv3 (h : spDiv3 ds μ Q) : ds.length = 3 := by obtain ⟨_, _, _, rfl, _⟩ := h; rfl
theorem len_spNumQ (h : spNumQ ds μ Q) : ds.length = 1 := by obtain ⟨_, rfl, _⟩ := h; rfl
theorem len_spNumber (h : spNumber ds μ Q) : ds.length = 3 := by obtain ⟨_, _, _, rfl, _⟩ := h; rfl
theorem len_spMate (h : spMate ds μ Q) : ds.length = 1 := by obtain ⟨_, rfl, _⟩ := h; rfl
theorem len_spMinus (h : spMinus ds μ Q) : ds.length = 1 := by obtain ⟨_, rfl, _⟩ := h; rfl
theorem len_spPlus (h : spPlus ds μ Q) : ds.length = 2 := by obtain ⟨_, _, rfl, _⟩ := h; rfl
theorem len_spLess (h : spLess ds μ Q) : ds.length = 2 := by obtain ⟨_, _, rfl, _⟩ := h; rfl
theorem len_spTimes (h : spTimes ds μ Q) : ds.length = 3 := by obtain ⟨_, _, _, rfl, _⟩ := h; rfl
theorem len_spContrary (h : spContrary ds μ Q) : ds.length = 2 := by obtain ⟨_, _, rfl, _⟩ := h; rfl
theorem len_spOver (h : spOver ds μ Q) : ds.length = 3 := by obtain ⟨_, _, _, rfl, _⟩ := h; rfl
theorem len_spSignP (h : spSignP ds μ Q) : ds.length = 3 := by obtain ⟨_, _, _, rfl, _⟩ := h; rfl
theorem len_spSign (h : spSign ds μ Q) : ds.length = 2 := by obtain ⟨_, _, rfl, _⟩ := h; rfl
theorem len_spBag (h : spBag ds μ Q) : ds.length = 2 := by obtain ⟨_, _, rfl, _⟩ := h; rfl
theorem len_spTake (h : spTake ds μ Q) : ds.length = 2 := by obtain ⟨_, _, rfl, _⟩ := h; rfl
theorem len_spNumberL (h : spNumberL ds μ Q) : ds.length = 1 := by obtain ⟨_, rfl, _⟩ := h; rfl
theorem len_spRootL (h : spRootL ds μ Q) : ds.length = 1 := by obtain ⟨_, rfl, _⟩ := h; rfl
theorem len_spOdd (h : spOdd ds μ Q) : ds.length = 1 := by obtain ⟨_, rfl, _⟩ := h; rfl
theorem len_spAboveL (h : spAboveL ds μ Q) : ds.length = 2 := by obtain ⟨_, _, rfl, _⟩ := h; rfl
theorem len_spLaw (h : spLaw ds μ Q) : ds.length = 1 := by obtain ⟨_, rfl, _⟩ := h; rfl
end
def td__law_is_whole : DTS := td_is_whole
theorem rd__law_is_whole {μ Qd ds} (h : spWhole ds μ Qd) : td__law_is_whole { nx := fun _ μ' => Qd (.v .none) μ', rt := Qd } (startD ["_law_thing"] ds) μ := rd_is_whole h
structure TupC (K : PySem.W.Frag) (mg : Str → Option Value) (x : Str) (g : Addr) (a b c : Int) : Prop where
  m : mg x = some (.ref g)
  l : ∃ (od : Option Addr) (n : Nat) (sl : Array (Option Value)) (t u v : Tok), K.lookup g = some ⟨.type "tuple", od, .seq #[.int a t, .int b u, .int c v] n, sl⟩
theorem de_globT {X : Cx} {x : Str} {g : Addr} {a b c : Int} {pos : Pos} (hg : Gl X x) (h : TupC X.K X.mg x g a b c) (hd : (x == ("__debug__" : Str)) = false := by decide) : DE X (.Name x pos) (dC (.tuple [.int a, .int b, .int c])) := by
  obtain ⟨od, n, sl, t, u, v, e⟩ := h.l
  refine de_glob (u := .ref g) hg h.m rfl (fun μ H _ => Rp.tuple (xs := [.int a, .int b, .int c]) (.inr ⟨_, _, _, e, rfl, rfl, (by show 3 ≤ sizeLine; decide), .cons ⟨t, rfl⟩ (.cons ⟨u, rfl⟩ (.cons ⟨v, rfl⟩ .nil))⟩) (.cons (.int a) (.cons (.int b) (.cons (.int c) .nil)))) hd
theorem law_start {K : PySem.W.Frag} {H : Hp} {a : Addr} {ns : List Int} (hl : ns.length ≤ 63) (hT : Tabs K H) (hS : SqL K H a (ns.map V.int)) : spD K spLaw [.ref a] H (fun v _ => v = .bl true) fun _ _ _ => False := by
  refine ⟨[.s ns], fun _ => none, fun d _ => d = .v (.bool true), ⟨fun a ds h => (by cases h), hT⟩, .cons ⟨a, rfl, hS, rfl⟩ .nil, ⟨ns, rfl, hl, fun _ => rfl⟩, fun d u μ' H' _ _ r q => ?_⟩
  subst q
  cases r
  rfl
open PySem PySem.Spec PyProof.Rows NM
section
variable {μ : Mu} {Q : DK} {ds : List D} {x y : N3}
theorem fold3 (a b c : Int) : PyData.tuple [.int a, .int b, .int c] = dN ⟨a, b, c⟩ := rfl
theorem q_ixN0 : rIxD (.v (dN x)) (.v (.int 0)) μ Q = Q (.v (.int x.a)) μ := by unfold dN; rw [q_ixT0]
theorem q_ixN1 : rIxD (.v (dN x)) (.v (.int 1)) μ Q = Q (.v (.int x.b)) μ := by unfold dN; rw [q_ixT1]
theorem q_ixN2 : rIxD (.v (dN x)) (.v (.int 2)) μ Q = Q (.v (.int x.c)) μ := by unfold dN; rw [q_ixT2]
theorem eqN : PyData.eqv (dN x) (dN y) = decide (x = y) := by
  unfold dN
  rw [eqv3, Bool.eq_iff_iff]
  simp only [decide_eq_true_eq]
  exact ⟨fun h => N3.ext' h.1 h.2.1 h.2.2, fun h => by subst h; exact ⟨rfl, rfl, rfl⟩⟩
theorem q_eqN {neg : Bool} : rEqD neg (.v (dN x)) (.v (dN y)) μ Q = Q (.v (.bool (neg ^^ decide (x = y)))) μ := by
  rw [q_eqD, eqN]
  exact propext ⟨fun h => h.2.2, fun h => ⟨rfl, rfl, h⟩⟩
theorem isNum_ok (h : Ok x) : isNum (dN x) = true := by
  have := h.c
  show (decide (1 ≤ x.c) && (g3 x.a x.b x.c == 1)) = true
  rw [h.g]
  simp; omega
theorem few_N : Few (dN x) := by simp [dN, Few]
theorem sg_low {d a b c : Int} (h : IsRoot d) (hc : 0 < c) : sg d (low a b c).a (low a b c).b = sg d a b := by
  obtain ⟨k, hk, hs, p1, p2, p3, _⟩ := low_spec a b (show c ≠ 0 by omega)
  have e := sg_scale (a := (low a b c).a) (b := (low a b c).b) h (hs.mpr hc)
  rw [← p1, ← p2] at e
  exact e.symm
theorem sg_times {d : Int} (h : IsRoot d) (ox : Ok x) (oy : Ok y) : sg d (times d x y).a (times d x y).b = sg d x.a x.b * sg d y.a y.b := by
  unfold times
  rw [sg_low h (Int.mul_pos ox.c oy.c), sg_mul h]
theorem sg_small {d a b : Int} : (sg d a b).natAbs < 2 ^ 64 := by have := sg_tri d a b; omega
theorem rngAt {lo : Int} {n i : Nat} {x : PyData} (h : (rngD lo n)[i]? = some x) : x = .int (lo + i) ∧ i < n := by
  unfold rngD at h
  rw [List.getElem?_map] at h
  by_cases hi : i < n
  · rw [List.getElem?_range hi] at h
    cases h
    exact ⟨rfl, hi⟩
  · rw [List.getElem?_eq_none (by simpa using hi)] at h
    cases h
theorem rngLen {lo : Int} {n : Nat} : (rngD lo n).length = n := by unfold rngD; simp
theorem ok_lit1 (a : Int) : Ok ⟨a, 0, 1⟩ := ⟨by show (0 : Int) < 1; decide, by unfold g3; simp⟩
end
open PySem PySem.Spec PyProof.Rows NM
local macro_rules | `(tactic| walk_at "rn") => `(tactic| simp only [↓q_var0, ↓q_var1, ↓q_var2, ↓q_var3, ↓q_var4, ↓q_var5, ↓q_var6, ↓q_var7, ↓q_var8, ↓q_var9, ↓q_var10, ↓q_c, ↓q_op, ↓q_B, ↓q_II, ↓q_I00, ↓q_neg, ↓q_andT, ↓q_orT, ↓q_notT, ↓q_andV, ↓q_orV, ↓q_notV, ↓q_if, ↓q_nil, ↓q_cons, ↓q_tup, ↓q_lst, ↓q_lstM, ↓q_asN, ↓q_asC, ↓q_eqI, ↓q_eqT, ↓q_eqL, ↓q_eqB, ↓q_inD, ↓q_ixL0, ↓q_ixL1, ↓q_ixL2, ↓q_ixT0, ↓q_ixT1, ↓q_ixT2, ↓q_ixT3, ↓q_ixL, ↓q_ixT, ↓q_ixM, ↓q_ixS, ↓q_cat, ↓q_catT, ↓q_addI, ↓q_addT, ↓q_addL, ↓q_addM, ↓q_sl, ↓q_noPart, ↓q_part, ↓q_slT, ↓q_slL, ↓q_rev, ↓q_cb, ↓q_lenL, ↓q_lenT, ↓q_lenS, ↓q_lenM, ↓q_abs, ↓q_2I, ↓q_intB, ↓q_intI, ↓q_listL, ↓q_listT, ↓q_all, ↓q_isi, ↓q_isB, ↓q_isN, ↓q_gName, ↓q_gNil, ↓q_gCons, ↓q_gTup, ↓q_gSub, ↓q_asg, ↓q_par, ↓q_next, ↓q_seq, ↓q_ret, ↓q_drop, ↓q_ifS, ↓q_never, ↓q_call, ↓q_app, ↓q_ext, ↓q_bits, ↓q_chain, ↓q_true, ↓q_diList, ↓q_diTup, ↓q_diRng1, ↓q_diRng2, ↓q_diZip, ↓q_tupOfL, ↓q_tupOfT, ↓q_tupOfM, ↓q_rep, zipD, ↓q_comp, ↓q_compI, q_capN, q_capC, q_leN, q_le0, q_le1, Option.bind_none, Option.bind_some, Option.join_some, List.getElem?_cons_zero, List.getElem?_cons_succ, startD, fold3, q_ixN0, q_ixN1, q_ixN2, q_eqN, lstOf, atI_0, atI_1, atI_2, atI_3, List.map, List.append, List.replicate, List.length_cons, List.length_nil, Nat.reduceAdd, Nat.reduceSub, List.nil_append, List.cons_append, List.set_cons_zero, List.set_cons_succ, Option.map_some, ↓reduceIte, Bool.not_true, Bool.not_false, Bool.false_eq_true, Bool.true_eq_false, Bool.xor_false, Bool.false_xor])
def aboveB (d : Int) : PyData → Bool
  | .tuple [.int a, .int b, .int c] => isNum (.tuple [.int a, .int b, .int c]) && decide (sg d a b = 1)
  | _ => false
def spAboveQ : DSp := fun ds μ Q => ∃ (d : Int) (t : PyData), ds = [.v (.int d), .v t] ∧ IsRoot d ∧ Few t ∧ (∀ x, t = dN x → Bd 8900 x) ∧ Q (.v (.bool (aboveB d t))) μ
theorem len_spAboveQ {μ : Mu} {Q : DK} {ds : List D} (h : spAboveQ ds μ Q) : ds.length = 2 := by obtain ⟨_, _, rfl, _⟩ := h; rfl
def spMustAbove : DSp := fun ds μ Q => ∃ (d : Int) (x : N3), ds = [.v (.int d), .v (dN x)] ∧ IsRoot d ∧ Ok x ∧ Bd 8900 x ∧ sg d x.a x.b = 1 ∧ Q (.v .none) μ
theorem len_spMustAbove {μ : Mu} {Q : DK} {ds : List D} (h : spMustAbove ds μ Q) : ds.length = 2 := by obtain ⟨_, _, rfl, _⟩ := h; rfl
def spxAboveQ : XSp := fun ds μ Xk => ∃ (d : Int) (t : PyData), ds = [.v (.int d), .v t] ∧ IsRoot d ∧ Few t ∧ (∀ x, t = dN x → Bd 8900 x) ∧ aboveB d t = false ∧ Xk μ
theorem lenx_spxAboveQ {ds : List D} {μ : Mu} {Xk : Mu → Prop} (h : spxAboveQ ds μ Xk) : ds.length = 2 := by obtain ⟨_, _, rfl, _⟩ := h; rfl
def spBadAbove : DSp := fun ds μ Q => ∃ (a : Addr) (d : Int), ds = [.m a, .v (.int d)] ∧ IsRoot d ∧ Bag μ a ∧ ∀ t μ', Few t → (∀ x, t = dN x → Bd 8900 x) → aboveB d t = false → Step a μ μ' → Q (.v t) μ'
theorem len_spBadAbove {ds : List D} {μ : Mu} {Q : DK} (h : spBadAbove ds μ Q) : ds.length = 2 := by obtain ⟨_, _, rfl, _⟩ := h; rfl
def StepW (a : Addr) (μ μ' : Mu) : Prop := Bag μ' a ∧ ∀ b, b ≠ a → ∀ ds, μ b = some ds → μ' b = some ds
structure KindsOk (d : Int) (ks : List N3) : Prop where
  l1 : 1 ≤ ks.length
  l3 : ks.length ≤ 3
  ok : ∀ k ∈ ks, Ok k ∧ Bd 60 k ∧ sg d k.a k.b = 1
def spKindsL : DSp := fun ds μ Q => ∃ (a : Addr) (d : Int), ds = [.m a, .v (.int d)] ∧ IsRoot d ∧ Bag μ a ∧ ∀ ks μ', KindsOk d ks → StepW a μ μ' → Q (.v (.tuple (ks.map dN))) μ'
theorem len_spKindsL {μ : Mu} {Q : DK} {ds : List D} (h : spKindsL ds μ Q) : ds.length = 2 := by obtain ⟨_, _, rfl, _⟩ := h; rfl
structure Fr0 (x : N3) : Prop where
  ok : Ok x
  b : x.b = 0
  a0 : 0 ≤ x.a
  a1 : x.a < 16384
  c1 : x.c < 16384
def spFracL : DSp := fun ds μ Q => ∃ a : Addr, ds = [.m a] ∧ Bag μ a ∧ ∀ x μ', Fr0 x → 0 < x.a → Step a μ μ' → Q (.v (dN x)) μ'
theorem len_spFracL {μ : Mu} {Q : DK} {ds : List D} (h : spFracL ds μ Q) : ds.length = 1 := by obtain ⟨_, rfl, _⟩ := h; rfl
def spShapeL : DSp := fun ds μ Q => ∃ (a : Addr) (d : Int) (ks : List N3), ds = [.m a, .v (.int d), .v (.tuple (ks.map dN))] ∧ IsRoot d ∧ KindsOk d ks ∧ Bag μ a ∧ ∀ x μ', Ok x → Bd 230 x → sg d x.a x.b = 1 → Step a μ μ' → Q (.v (dN x)) μ'
theorem len_spShapeL {μ : Mu} {Q : DK} {ds : List D} (h : spShapeL ds μ Q) : ds.length = 3 := by obtain ⟨_, _, _, rfl, _⟩ := h; rfl
def td_is_above_nought : DTS :=
  (dRet (dAndV (dCall spNumQ (dCons (dVar 1) dNil)) (dOp (rEqD false) (dCall spSign (dCons (dVar 0) (dCons (dVar 1) dNil))) (dC (.int 1)))))
def td_must_be_above_nought : DTS :=
  (dIfS (dNotT (dB (dCall spAboveQ (dCons (dVar 0) (dCons (dVar 1) dNil))))) dNever dNext)
def td__law_kinds : DTS :=
  (dSeq (dAsg (dLstM (dCons (dCall spAboveL (dCons (dVar 0) (dCons (dVar 1) dNil))) dNil)) (gdName 2))
  (dSeq (dFor (diRng1 (dCons (dCall spTake (dCons (dVar 0) (dCons (dC (.int 3)) dNil))) dNil)) (gdName 3) (dSeq (dAsg (dCall spTake (dCons (dVar 0) (dCons (dC (.int 6)) dNil))) (gdName 4))
  (dSeq (dAsg (dTup (dCons (dAdd (dC (.int 1)) (dCall spTake (dCons (dVar 0) (dCons (dC (.int 9)) dNil)))) (dCons (dC (.int 0)) (dCons (dAdd (dC (.int 1)) (dCall spTake (dCons (dVar 0) (dCons (dC (.int 9)) dNil)))) dNil)))) (gdName 5))
  (dSeq (dAsg (dOp rIxD (dLst (dCons (dOp rIxD (dVar 2) (dC (.int 0))) (dCons (dCall spContrary (dCons (dVar 1) (dCons (dOp rIxD (dVar 2) (dC (.int 0))) dNil))) dNil))) (dMod (dVar 4) (dC (.int 2)))) (gdName 6))
  (dSeq (dIfS (dB (dOp rGt (dVar 4) (dC (.int 3)))) (dAsg (dCall spAboveL (dCons (dVar 0) (dCons (dVar 1) dNil))) (gdName 6)) (dIfS (dB (dOp rGt (dVar 4) (dC (.int 1)))) (dAsg (dCall spTimes (dCons (dVar 1) (dCons (dVar 6) (dCons (dCall spNumber (dCons (dOp rIxD (dVar 5) (dC (.int 0))) (dCons (dOp rIxD (dVar 5) (dC (.int 1))) (dCons (dOp rIxD (dVar 5) (dC (.int 2))) dNil)))) dNil)))) (gdName 6)) dNext))
  (dDrop (dApp (dVar 2) (dVar 6))))))))
  (dRet (dCB rTupOfD (dCons (dVar 2) dNil)))))
def td__law_fraction : DTS :=
  (dSeq (dAsg (dOp rIxD (dLst (dCons (dC (.int 2)) (dCons (dC (.int 9)) (dCons (dC (.int 9)) (dCons (dC (.int 9999)) dNil))))) (dCall spTake (dCons (dVar 0) (dCons (dC (.int 4)) dNil)))) (gdName 1))
  (dRet (dCall spNumber (dCons (dAdd (dC (.int 1)) (dCall spTake (dCons (dVar 0) (dCons (dVar 1) dNil)))) (dCons (dC (.int 0)) (dCons (dAdd (dC (.int 1)) (dCall spTake (dCons (dVar 0) (dCons (dVar 1) dNil)))) dNil))))))
def td__law_shape : DTS :=
  (dSeq (dAsg (dOp rIxD (dVar 2) (dCall spTake (dCons (dVar 0) (dCons (dCB rLenD (dCons (dVar 2) dNil)) dNil)))) (gdName 3))
  (dSeq (dAsg (dOp rIxD (dVar 2) (dCall spTake (dCons (dVar 0) (dCons (dCB rLenD (dCons (dVar 2) dNil)) dNil)))) (gdName 4))
  (dSeq (dPar 5 6 (dCons (dCall spFracL (dCons (dVar 0) dNil)) (dCons (dCall spFracL (dCons (dVar 0) dNil)) dNil)))
  (dSeq (dAsg (dCall spTake (dCons (dVar 0) (dCons (dC (.int 10)) dNil))) (gdName 7))
  (dSeq (dAsg (dCall spContrary (dCons (dVar 1) (dCons (dVar 3) dNil))) (gdName 8))
  (dSeq (dAsg (dLst (dCons (dCall spAboveL (dCons (dVar 0) (dCons (dVar 1) dNil))) (dCons (dCall spTimes (dCons (dVar 1) (dCons (dVar 3) (dCons (dVar 5) dNil)))) (dCons (dCall spTimes (dCons (dVar 1) (dCons (dVar 8) (dCons (dVar 5) dNil)))) (dCons (dCall spPlus (dCons (dCall spTimes (dCons (dVar 1) (dCons (dVar 3) (dCons (dVar 5) dNil)))) (dCons (dCall spTimes (dCons (dVar 1) (dCons (dVar 8) (dCons (dVar 6) dNil)))) dNil))) (dCons (dCall spPlus (dCons (dVar 3) (dCons (dCall spTimes (dCons (dVar 1) (dCons (dVar 4) (dCons (dVar 6) dNil)))) dNil))) (dCons (dVar 5) (dCons (dCall spTimes (dCons (dVar 1) (dCons (dTup (dCons (dC (.int 0)) (dCons (dC (.int 1)) (dCons (dC (.int 1)) dNil)))) (dCons (dVar 5) dNil)))) (dCons (dCall spPlus (dCons (dCall spTimes (dCons (dVar 1) (dCons (dVar 8) (dCons (dVar 5) dNil)))) (dCons (dTup (dCons (dC (.int 0)) (dCons (dC (.int 1)) (dCons (dC (.int 999999)) dNil)))) dNil))) (dCons (dCall spPlus (dCons (dCall spTimes (dCons (dVar 1) (dCons (dVar 3) (dCons (dVar 5) dNil)))) (dCons (dCall spTimes (dCons (dVar 1) (dCons (dVar 6) (dCons (dTup (dCons (dC (.int 1)) (dCons (dC (.int 0)) (dCons (dC (.int 99999)) dNil)))) dNil)))) dNil))) (dCons (dCall spAboveL (dCons (dVar 0) (dCons (dVar 1) dNil))) dNil))))))))))) (gdName 9))
  (dRet (dOp rIxD (dVar 9) (dVar 7)))))))))
def tdx_must_be_above_nought_NoNumber : DTX :=
  (xIf (dNotT (dB (dCall spAboveQ (dCons (dVar 0) (dCons (dVar 1) dNil))))) (fun _ μ Xk => Xk μ) xNever)
def td__law_refusal_NoNumber (ea : Addr) : DTS :=
  (dSeq (dAsg (dLst (dCons (dTup (dCons (dC (.str "NoRoot")) (dCons (dIsE ea false (dVar 1)) dNil))) (dCons (dTup (dCons (dC (.str "NoNumber")) (dCons (dIsE ea true (dVar 1)) dNil))) (dCons (dTup (dCons (dC (.str "NoLaying")) (dCons (dIsE ea false (dVar 1)) dNil))) (dCons (dTup (dCons (dC (.str "NoTile")) (dCons (dIsE ea false (dVar 1)) dNil))) (dCons (dTup (dCons (dC (.str "NoFit")) (dCons (dIsE ea false (dVar 1)) dNil))) (dCons (dTup (dCons (dC (.str "NoKinds")) (dCons (dIsE ea false (dVar 1)) dNil))) (dCons (dTup (dCons (dC (.str "NoPlan")) (dCons (dIsE ea false (dVar 1)) dNil))) (dCons (dTup (dCons (dC (.str "NoSpot")) (dCons (dIsE ea false (dVar 1)) dNil))) (dCons (dTup (dCons (dC (.str "NoNet")) (dCons (dIsE ea false (dVar 1)) dNil))) (dCons (dTup (dCons (dC (.str "NoText")) (dCons (dIsE ea false (dVar 1)) dNil))) (dCons (dTup (dCons (dC (.str "NoSaying")) (dCons (dIsE ea false (dVar 1)) dNil))) (dCons (dTup (dCons (dC (.str "NoName")) (dCons (dIsE ea false (dVar 1)) dNil))) (dCons (dTup (dCons (dC (.str "TooMany")) (dCons (dIsE ea false (dVar 1)) dNil))) dNil)))))))))))))) (gdName 2))
  (dSeq (dAsg (dCompI [none, none] (diList (dVar 2)) (gdTup 2 (gdCons (gdName 0) (gdCons (gdName 1) gdNil))) (dB (dVar 1)) (dVar 0)) (gdName 3))
  (dSeq (dIfS (dAndT (dB (dOp (rEqD false) (dCB rLenD (dCons (dVar 3) dNil)) (dC (.int 1)))) (dB (dIsE ea true (dVar 1)))) (dRet (dOp rIxD (dVar 3) (dC (.int 0)))) dNext)
  (dRet (dC (.str "several"))))))
def td__law_bad_above : DTS :=
  (dSeq (dAsg (dCall spAboveL (dCons (dVar 0) (dCons (dVar 1) dNil))) (gdName 2))
  (dSeq (dAsg (dLst (dCons (dCall spOdd (dCons (dVar 0) dNil)) (dCons (dCall spMinus (dCons (dVar 2) dNil)) (dCons (dTup (dCons (dC (.int 0)) (dCons (dC (.int 0)) (dCons (dC (.int 1)) dNil)))) (dCons (dTup (dCons (dMul (dOp rIxD (dVar 2) (dC (.int 0))) (dC (.int 2))) (dCons (dMul (dOp rIxD (dVar 2) (dC (.int 1))) (dC (.int 2))) (dCons (dMul (dOp rIxD (dVar 2) (dC (.int 2))) (dC (.int 2))) dNil)))) (dCons (dTup (dCons (dOp rIxD (dVar 2) (dC (.int 0))) (dCons (dOp rIxD (dVar 2) (dC (.int 1))) (dCons (dSub (dC (.int 0)) (dOp rIxD (dVar 2) (dC (.int 2)))) dNil)))) (dCons (dCB rListD (dCons (dVar 2) dNil)) (dCons (dSl (dVar 2) dNoPart (dPart (dC (.int 2)))) (dCons (dOp rAddD (dVar 2) (dTup (dCons (dC (.int 1)) dNil))) (dCons (dTup (dCons (dOp rIxD (dVar 2) (dC (.int 0))) (dCons (dC .none) (dCons (dOp rIxD (dVar 2) (dC (.int 2))) dNil)))) (dCons (dTup (dCons (dC (.bool true)) (dCons (dC (.int 0)) (dCons (dC (.int 1)) dNil)))) (dCons (dTup (dCons (dC (.int 1)) (dCons (dC (.int 0)) (dCons (dC (.bool true)) dNil)))) (dCons (dTup (dCons (dVar 2) dNil)) dNil))))))))))))) (gdName 3))
  (dRet (dOp rIxD (dVar 3) (dCall spTake (dCons (dVar 0) (dCons (dC (.int 12)) dNil)))))))
section
variable {μ : Mu} {Qd : DK} {ds : List D}
theorem posL {x y : Int} (h : 0 < x * y) (hy : 0 < y) : 0 < x := by
  rcases Int.lt_trichotomy 0 x with z | z | z
  · exact z
  · rw [← z, Int.zero_mul] at h; omega
  · have := Int.mul_neg_of_neg_of_pos z hy; omega
theorem aboveB_N {d : Int} {x : N3} (ox : Ok x) : aboveB d (dN x) = decide (sg d x.a x.b = 1) := by
  show (isNum (dN x) && decide (sg d x.a x.b = 1)) = _
  rw [isNum_ok ox, Bool.true_and]
theorem aboveB_not {d : Int} {t : PyData} (h : isNum t = false) : aboveB d t = false := by
  unfold aboveB
  split
  · rw [h, Bool.false_and]
  · rfl
theorem isNum_form {t : PyData} (h : isNum t = true) : ∃ x : N3, t = dN x ∧ Ok x := by
  unfold isNum at h
  split at h
  · rename_i a b c
    simp only [Bool.and_eq_true, decide_eq_true_eq, beq_iff_eq] at h
    exact ⟨⟨a, b, c⟩, rfl, by show 0 < c; omega, h.2⟩
  · cases h
theorem rd_is_above_nought (h : spAboveQ ds μ Qd) : td_is_above_nought { nx := fun _ μ' => Qd (.v .none) μ', rt := Qd } (startD ["d", "thing"] ds) μ := by
  obtain ⟨d, t, rfl, hd, ft, bt, q⟩ := h
  unfold td_is_above_nought
  walk_at "rn"
  refine ⟨t, rfl, ft, ?_⟩
  walk_at "rn"
  cases e : isNum t with
  | true =>
    walk_at "rn"
    obtain ⟨x, rfl, ox⟩ := isNum_form e
    refine ⟨d, x, rfl, hd, bt x rfl, ?_⟩
    walk_at "rn"
    rw [aboveB_N ox] at q
    exact q
  | false =>
    walk_at "rn"
    rw [aboveB_not e] at q
    exact q
theorem rd_must_be_above_nought (h : spMustAbove ds μ Qd) : td_must_be_above_nought { nx := fun _ μ' => Qd (.v .none) μ', rt := Qd } (startD ["d", "thing"] ds) μ := by
  obtain ⟨d, x, rfl, hd, ox, bx, hx, q⟩ := h
  unfold td_must_be_above_nought
  walk_at "rn"
  refine ⟨d, dN x, rfl, hd, few_N, fun y e => ?_, ?_⟩
  · have : y = x := by
      simp only [dN, PyData.tuple.injEq, List.cons.injEq, PyData.int.injEq, and_true] at e
      exact N3.ext' e.1.symm e.2.1.symm e.2.2.symm
    rw [this]; exact bx
  · walk_at "rn"
    rw [aboveB_N ox, hx]
    simp only [decide_true, Bool.not_true, Bool.false_eq_true, ↓reduceIte]
    exact q
theorem rdx_must_be_above_nought_NoNumber {Xk : Mu → Prop} (h : spxAboveQ ds μ Xk) : tdx_must_be_above_nought_NoNumber (startD ["d", "thing"] ds) μ Xk := by
  obtain ⟨d, t, rfl, hd, ft, bt, ht, q⟩ := h
  unfold tdx_must_be_above_nought_NoNumber
  rw [q_xIf]
  walk_at "rn"
  refine ⟨d, t, rfl, hd, ft, bt, ?_⟩
  rw [ht]
  exact q
theorem rd__law_refusal_NoNumber {ea fa : Addr} (q : Qd (.v (.str "NoNumber")) μ) : td__law_refusal_NoNumber ea { nx := fun _ _ => False, rt := Qd } [some (.o fa), some (.o ea), none, none] μ := by
  unfold td__law_refusal_NoNumber
  simp only [↓q_seq, ↓q_asg, ↓q_lst, ↓q_tup, ↓q_cons, ↓q_nil, ↓q_c, ↓q_isE1, ↓q_asN, ↓q_asC, ↓q_gName, Option.map_some, List.set_cons_zero, List.set_cons_succ]
  refine comp_ref (ns := [("NoRoot", false), ("NoNumber", true), ("NoLaying", false), ("NoTile", false), ("NoFit", false), ("NoKinds", false), ("NoPlan", false), ("NoSpot", false), ("NoNet", false), ("NoText", false), ("NoSaying", false), ("NoName", false), ("TooMany", false)]) rfl (by decide) ?_
  simp only [↓q_gName, ↓q_seq, List.set_cons_zero, List.set_cons_succ, List.map_cons, List.map_nil, List.filterMap_cons, List.filterMap_nil, refF, Bool.false_eq_true, ↓reduceIte]
  simp only [↓q_ifS, ↓q_andT, ↓q_B, ↓q_op, ↓q_cb, ↓q_cons, ↓q_nil, ↓q_var3, ↓q_lenL, ↓q_c, ↓q_eqI, ↓q_isE1, ↓q_ret, ↓q_ixL0, List.getElem?_cons_zero, List.getElem?_cons_succ, List.length_cons, List.length_nil]
  exact q
theorem eqv_same {x : PyData} (h : SeqAt.shaped x = true) : x.eqv x = true := SeqAt.eqv_refl _ (SeqAt.canLay_of_shaped h)
theorem dN_inj {x y : N3} (e : dN x = dN y) : x = y := by
  simp only [dN, PyData.tuple.injEq, List.cons.injEq, PyData.int.injEq, and_true] at e
  exact N3.ext' e.1 e.2.1 e.2.2
def BadA (d : Int) (t : PyData) : Prop := Few t ∧ (∀ x, t = dN x → Bd 8900 x) ∧ aboveB d t = false
theorem bad_odd {d : Int} {t : PyData} (h : t ∈ oddList) : BadA d t := by
  unfold oddList at h
  simp only [List.mem_cons, List.not_mem_nil, or_false] at h
  rcases h with rfl | rfl | rfl | rfl | rfl | rfl | rfl | rfl | rfl | rfl | rfl | rfl | rfl | rfl | rfl | rfl | rfl | rfl | rfl | rfl
  all_goals
    refine ⟨by simp [Few], ?_, by first | rfl | exact aboveB_not (by decide +kernel)⟩
    (intro x e
     simp only [dN, PyData.tuple.injEq, List.cons.injEq, PyData.int.injEq, and_true, reduceCtorEq, false_and, and_false, List.nil_eq] at e
     try (obtain ⟨e1, e2, e3⟩ := e
          exact ⟨Sz.of (by rw [← e1]; decide +kernel), Sz.of (by rw [← e2]; decide +kernel), Sz.of (by rw [← e3]; decide +kernel)⟩))
theorem bad_N {d : Int} {x : N3} (b : Bd 8900 x) (h : aboveB d (dN x) = false) : BadA d (dN x) := ⟨few_N, fun y e => by rw [← dN_inj e]; exact b, h⟩
theorem bad_not {d : Int} {t : PyData} (f : Few t) (h : ∀ x, t ≠ dN x) (n : isNum t = false) : BadA d t := ⟨f, fun x e => absurd e (h x), aboveB_not n⟩
theorem rd__law_bad_above (h : spBadAbove ds μ Qd) : td__law_bad_above { nx := fun _ μ' => Qd (.v .none) μ', rt := Qd } (startD ["_law_bag_here", "_law_d", "_law_x", "_law_some"] ds) μ := by
  obtain ⟨a, d, rfl, hd, hb, q⟩ := h
  unfold td__law_bad_above
  walk_at "rn"
  refine ⟨a, d, rfl, hd, hb, fun x μ1 ox bx hx s1 => ?_⟩
  walk_at "rn"
  refine ⟨a, rfl, s1.1, fun o μ2 ho s2 => ?_⟩
  have m2 : ∀ z : Int, MulOk z 2 := fun z => mulR (by decide)
  refine ⟨x, rfl, m2 _, m2 _, m2 _, ?_⟩
  simp only [rListD, dN]
  walk_at "rn"
  refine ⟨by decide, a, 12, rfl, by decide, by decide, s2.1, fun r μ3 r0 r1 s3 => ?_⟩
  walk_at "rn"
  have om := ok_minus ox
  have b2 : Bd 30 ⟨x.a * 2, x.b * 2, x.c * 2⟩ := ⟨(bx.a.mul (Sz.of (n := 2) (by decide))).mono (by decide), (bx.b.mul (Sz.of (n := 2) (by decide))).mono (by decide), (bx.c.mul (Sz.of (n := 2) (by decide))).mono (by decide)⟩
  have bn : Bd 30 ⟨x.a, x.b, 0 - x.c⟩ := ⟨bx.a.mono (by decide), bx.b.mono (by decide), by rw [show 0 - x.c = -x.c by omega]; exact bx.c.neg.mono (by decide)⟩
  obtain ⟨t, e, f1, f2, f3⟩ := pick (P := BadA d) (xs := [o, dN { a := (minus x).a, b := (minus x).b, c := (minus x).c }, dN { a := 0, b := 0, c := 1 },
              dN { a := x.a * 2, b := x.b * 2, c := x.c * 2 }, dN { a := x.a, b := x.b, c := 0 - x.c },
              PyData.list [PyData.int x.a, PyData.int x.b, PyData.int x.c],
              PyData.tuple (cutP [PyData.int x.a, PyData.int x.b, PyData.int x.c] none (some 2)),
              PyData.tuple [PyData.int x.a, PyData.int x.b, PyData.int x.c, PyData.int 1],
              PyData.tuple [PyData.int x.a, PyData.none, PyData.int x.c],
              PyData.tuple [PyData.bool true, PyData.int 0, PyData.int 1],
              PyData.tuple [PyData.int 1, PyData.int 0, PyData.bool true],
              PyData.tuple [dN { a := x.a, b := x.b, c := x.c }]]) r0 (by exact r1) (by
    intro u hu
    simp only [List.mem_cons, List.not_mem_nil, or_false] at hu
    rcases hu with rfl | rfl | rfl | rfl | rfl | rfl | rfl | rfl | rfl | rfl | rfl | rfl
    · exact bad_odd ho
    · refine bad_N ((bd_minus bx).mono (by decide)) ?_
      have es : sg d (minus x).a (minus x).b = -1 := by show sg d (-x.a) (-x.b) = -1; rw [sg_neg hd, hx]
      rw [show ({ a := (minus x).a, b := (minus x).b, c := (minus x).c } : N3) = minus x from rfl, aboveB_N om, es]
      decide
    · refine bad_N ⟨Sz.of (by decide +kernel), Sz.of (by decide +kernel), Sz.of (by decide +kernel)⟩ ?_
      rw [show dN ⟨0, 0, 1⟩ = dN nought from rfl, aboveB_N ok_nought, show sg d nought.a nought.b = 0 from sg_zero.mpr ⟨rfl, rfl⟩]
      decide
    · refine bad_N (b2.mono (by decide)) (aboveB_not ?_)
      have g := g3_mul x.a x.b x.c 2
      rw [ox.g] at g
      simp [dN, isNum, g]
    · refine bad_N (bn.mono (by decide)) (aboveB_not ?_)
      have := ox.c
      have h : ¬ (1 ≤ 0 - x.c) := by omega
      simp only [dN, isNum, decide_eq_false h, Bool.false_and]
    · exact bad_not trivial (fun y e => by cases e) rfl
    · exact bad_not (by show 2 ≤ 1000; decide) (fun y e => by have e2 : PyData.tuple [PyData.int x.a, PyData.int x.b] = dN y := e; simp [dN] at e2) rfl
    · exact bad_not (by show 4 ≤ 1000; decide) (fun y e => by simp [dN] at e) rfl
    · exact bad_not (by show 3 ≤ 1000; decide) (fun y e => by simp [dN] at e) rfl
    · exact bad_not (by show 3 ≤ 1000; decide) (fun y e => by simp [dN] at e) rfl
    · exact bad_not (by show 3 ≤ 1000; decide) (fun y e => by simp [dN] at e) rfl
    · exact bad_not (by show 1 ≤ 1000; decide) (fun y e => by simp [dN] at e) rfl)
  rw [e]
  exact q t _ f1 f2 f3 (s1.trans (s2.trans s3))
theorem StepW.trans {a : Addr} {μ μ1 μ2 : Mu} (h : StepW a μ μ1) (g : StepW a μ1 μ2) : StepW a μ μ2 := ⟨g.1, fun b n ds e => g.2 b n ds (h.2 b n ds e)⟩
theorem Step.w {a : Addr} {μ μ' : Mu} (h : Step a μ μ') : StepW a μ μ' := ⟨h.1, fun b n ds e => by rw [h.2 b n]; exact e⟩
def kindsInv (a p : Addr) (d : Int) (x : N3) (μ : Mu) (i : Nat) (ρ : Rho) (μ' : Mu) : Prop := ∃ (ks : List N3) (r3 r4 r5 r6 : Option D), ρ = [some (.m a), some (.v (.int d)), some (.m p), r3, r4, r5, r6] ∧ Bag μ' a ∧ (∀ b, b ≠ a → ∀ ds, μ b = some ds → μ' b = some ds) ∧ μ' p = some ((x :: ks).map dN) ∧ ks.length = i ∧ (∀ k ∈ x :: ks, Ok k ∧ Bd 60 k ∧ sg d k.a k.b = 1)
theorem rd__law_kinds (h : spKindsL ds μ Qd) : td__law_kinds { nx := fun _ μ' => Qd (.v .none) μ', rt := Qd } (startD ["_law_bag_here", "_law_d", "_law_found", "_law_turn", "_law_way", "_law_part", "_law_kind"] ds) μ := by
  obtain ⟨a, d, rfl, hd, hb, q⟩ := h
  have s5 := sz_d hd.1 hd.2.1
  unfold td__law_kinds
  walk_at "rn"
  refine ⟨a, d, rfl, hd, hb, fun x μ1 ox bx sx s1 => ?_⟩
  walk_at "rn"
  intro p hp
  have hap : a ≠ p := fun z => by obtain ⟨g, m, e, _⟩ := s1.1; rw [z, hp] at e; cases e
  have sb : Bag (muSet μ1 p [dN x]) a := by obtain ⟨g, m, e, z⟩ := s1.1; exact ⟨g, m, by rw [muSet_ne hap]; exact e, z⟩
  rw [q_for]
  walk_at "rn"
  refine ⟨a, 3, rfl, by decide, by decide, sb, fun n μ2 n0 n1 s2 => ?_⟩
  walk_at "rn"
  have keep2 : ∀ b, b ≠ a → ∀ ds, μ b = some ds → μ2 b = some ds := fun b hb' ds e => by
    have e1 := (s1.2 b hb').trans e
    have : b ≠ p := fun z => by rw [z, hp] at e1; cases e1
    rw [s2.2 b hb', muSet_ne this]; exact e1
  have hp2 : μ2 p = some ([x].map dN) := by rw [s2.2 p (fun z => hap z.symm)]; exact muSet_same
  refine ⟨⟨by omega, by omega⟩, kindsInv a p d x μ, ⟨[], _, _, _, _, rfl, s2.1, keep2, hp2, rfl, fun k hk => by rw [List.mem_singleton.mp hk]; exact ⟨ox, bx.mono (by decide), sx⟩⟩, ?_, ?_⟩
  · rintro i v ρ μ3 hv ⟨ks, r3, r4, r5, r6, rfl, hb3, kp, hpk, hl, hok⟩
    obtain ⟨rfl, hi⟩ := rngAt hv
    have hi2 : i < 2 := by omega
    walk_at "rn"
    refine ⟨a, 6, rfl, by decide, by decide, hb3, fun way μ4 w0 w1 s4 => ?_⟩
    walk_at "rn"
    refine ⟨a, 9, rfl, by decide, by decide, s4.1, fun t μ5 t0 t1 s5' => ?_⟩
    walk_at "rn"
    refine ⟨a, 9, rfl, by decide, by decide, s5'.1, fun u μ6 u0 u1 s6 => ?_⟩
    walk_at "rn"
    have s46 := s4.trans (s5'.trans s6)
    have hp6 : μ6 p = some (dN x :: ks.map dN) := by rw [s46.2 p (fun z => hap z.symm)]; exact hpk
    simp only [hp6]
    walk_at "rn"
    have nx := pos_norm hd ox sx
    have ocx := ok_contrary nx
    have bcx := bd_contrary s5 nx bx
    refine ⟨d, x, rfl, s5, nx, bx.mono (by decide), ?_⟩
    walk_at "rn"
    obtain ⟨m0, m1⟩ := fmod_rng way (show (0 : Int) < 2 by decide)
    obtain ⟨_, e1, k1, rfl, ok1, bk1, sk1⟩ := pick (P := fun v => ∃ k, v = dN k ∧ Ok k ∧ Bd 46 k ∧ sg d k.a k.b = 1) (xs := [dN x, dN (contrary d x)]) m0 (by exact m1) (by
      intro v hv
      simp only [List.mem_cons, List.not_mem_nil, or_false] at hv
      rcases hv with rfl | rfl
      · exact ⟨_, rfl, ox, bx.mono (by decide), sx⟩
      · exact ⟨_, rfl, ocx, bcx.mono (by decide), sg_contrary hd ox sx⟩)
    rw [e1]
    refine ⟨by decide, ?_⟩
    walk_at "rn"
    have fin : ∀ (μ7 : Mu) (k : N3) (r3 r4 r5 : Option D), Step a μ6 μ7 → Ok k → Bd 60 k → sg d k.a k.b = 1 → dApp (dVar 2) (dVar 6) [some (.m a), some (.v (.int d)), some (.m p), r3, r4, r5, some (.v (dN k))] μ7 (fun _ μ' => kindsInv a p d x μ (i + 1) [some (.m a), some (.v (.int d)), some (.m p), r3, r4, r5, some (.v (dN k))] μ') := fun μ7 k r3 r4 r5 s7 ok bk sk => by
      have s47 := s46.trans s7
      have hp7 : μ7 p = some (dN x :: ks.map dN) := by rw [s47.2 p (fun z => hap z.symm)]; exact hpk
      walk_at "rn"
      simp only [hp7]
      refine ⟨by simp; omega, ks ++ [k], _, _, _, _, rfl, ?_, fun b hb' ds e => ?_, ?_, by simp [hl], fun z hz => ?_⟩
      · obtain ⟨g, m, e, z⟩ := s47.1; exact ⟨g, m, by rw [muSet_ne hap]; exact e, z⟩
      · have h3 := kp b hb' ds e
        by_cases hbp : b = p
        · subst hbp
          exfalso
          have e1 := (s1.2 b hb').trans e
          rw [hp] at e1; cases e1
        · rw [muSet_ne hbp, s47.2 b hb']; exact h3
      · rw [muSet_same]; simp
      · rcases List.mem_cons.mp hz with z' | z'
        · exact hok z (by rw [z']; exact List.mem_cons_self)
        · rcases List.mem_append.mp z' with z'' | z''
          · exact hok z (List.mem_cons_of_mem _ z'')
          · rw [List.mem_singleton.mp z'']; exact ⟨ok, bk, sk⟩
    by_cases c1 : 3 < way
    · rw [if_pos (by simpa using c1)]
      refine ⟨a, d, rfl, hd, s6.1, fun k μ7 ok bk sk s7 => ?_⟩
      have := fin μ7 k (some (.v (.int (0 + (i : Int))))) (some (.v (.int way))) (some (.v (dN ⟨1 + t, 0, 1 + u⟩))) s7 ok (bk.mono (by decide)) sk
      walk_at "rn"
      exact this
    · rw [if_neg (by simpa using c1)]
      by_cases c2 : 1 < way
      · rw [if_pos (by simpa using c2)]
        have un : 1 + u ≠ 0 := by omega
        have z4 : ∀ v : Int, 0 ≤ v → v < 9 → Sz 4 (1 + v) := fun v h1 h2 => Sz.of (by show (1 + v).natAbs < 16; omega)
        have op := low_ok (1 + t) 0 un
        have bp : Bd 4 (low (1 + t) 0 (1 + u)) := low_bd un (z4 t t0 t1) (Sz.of (by show (0 : Int).natAbs < 16; decide)) (z4 u u0 u1)
        have hp' : sg d (low (1 + t) 0 (1 + u)).a (low (1 + t) 0 (1 + u)).b = 1 := by
          rw [sg_lowP hd (by omega)]
          unfold sg
          rw [if_neg (by omega), if_pos (by omega)]
        refine ⟨_, _, _, rfl, un, (z4 u u0 u1).mono (by decide), d, k1, _, rfl, s5, ok1, op, bk1.mono (by decide), bp.mono (by decide), ?_⟩
        exact fin μ6 _ _ _ _ (Step.refl s6.1) (ok_times ok1 op) ((bd_times s5 ok1 op bk1 bp).mono (by decide)) (by rw [sg_times hd ok1 op, sk1, hp']; rfl)
      · rw [if_neg (by simpa using c2)]
        exact fin μ6 k1 _ _ _ (Step.refl s6.1) ok1 (bk1.mono (by decide)) sk1
  · rintro ρ μ3 ⟨ks, r3, r4, r5, r6, rfl, hb3, kp, hpk, hl, hok⟩
    rw [rngLen] at hl
    walk_at "rn"
    simp only [hpk]
    exact q (x :: ks) μ3 ⟨by simp, by simp; omega, hok⟩ ⟨hb3, kp⟩
theorem rd__law_fraction (h : spFracL ds μ Qd) : td__law_fraction { nx := fun _ μ' => Qd (.v .none) μ', rt := Qd } (startD ["_law_bag_here", "_law_wide"] ds) μ := by
  obtain ⟨a, rfl, hb, q⟩ := h
  unfold td__law_fraction
  walk_at "rn"
  refine ⟨a, 4, rfl, by decide, by decide, hb, fun r μ1 r0 r1 s1 => ?_⟩
  walk_at "rn"
  obtain ⟨_, e1, w, rfl, w0, w1⟩ := pick (P := fun v => ∃ w : Int, v = .int w ∧ 2 ≤ w ∧ w ≤ 9999) (xs := [.int 2, .int 9, .int 9, .int 9999]) r0 (by exact r1) (by
    intro v hv
    simp only [List.mem_cons, List.not_mem_nil, or_false] at hv
    rcases hv with rfl | rfl | rfl | rfl <;> exact ⟨_, rfl, by decide, by decide⟩)
  rw [e1]
  walk_at "rn"
  refine ⟨a, w, rfl, by omega, by omega, s1.1, fun t μ2 t0 t1 s2 => ?_⟩
  walk_at "rn"
  refine ⟨a, w, rfl, by omega, by omega, s2.1, fun u μ3 u0 u1 s3 => ?_⟩
  walk_at "rn"
  have un : 1 + u ≠ 0 := by omega
  have z : ∀ v : Int, 0 ≤ v → v < w → Sz 14 (1 + v) := fun v h1 h2 => Sz.of (by show (1 + v).natAbs < 16384; omega)
  refine ⟨_, _, _, rfl, un, (z u u0 u1).mono (by decide), q _ μ3 ?_ ?_ (s1.trans (s2.trans s3))⟩
  · have r := rep_low (a := 1 + t) (b := 0) un
    have ok := low_ok (1 + t) 0 un
    obtain ⟨l1, l2, l3⟩ := low_le (1 + t) 0 un
    have hp : 0 < (low (1 + t) 0 (1 + u)).a := by
      have e := r.a
      have hc := ok.c
      have : 0 < (low (1 + t) 0 (1 + u)).a * (1 + u) := by rw [e]; exact Int.mul_pos (by omega) hc
      exact posL this (by omega)
    exact ⟨ok, (by have := l2; omega), by omega, by omega, by have := ok.c; omega⟩
  · have r := rep_low (a := 1 + t) (b := 0) un
    have ok := low_ok (1 + t) 0 un
    have e := r.a
    have hc := ok.c
    have : 0 < (low (1 + t) 0 (1 + u)).a * (1 + u) := by rw [e]; exact Int.mul_pos (by omega) hc
    exact posL this (by omega)
theorem Fr0.bd {x : N3} (h : Fr0 x) : Bd 14 x := by
  have hc := h.ok.c
  have a0 := h.a0
  have a1 := h.a1
  have c1 := h.c1
  exact ⟨Sz.of (by show x.a.natAbs < 16384; omega), by rw [h.b]; exact Sz.of (by show (0 : Int).natAbs < 16384; decide), Sz.of (by show x.c.natAbs < 16384; omega)⟩
theorem ks_get {d : Int} {ks : List N3} (ho : KindsOk d ks) {r : Int} (r0 : 0 ≤ r) (r1 : r < (ks.length : Nat)) : ∃ k ∈ ks, atI (ks.map dN) r = some (dN k) := by
  obtain ⟨v, e, m⟩ := atI_mem (xs := ks.map dN) r0 (by rw [List.length_map]; exact r1)
  obtain ⟨k, hk, rfl⟩ := List.mem_map.mp m
  exact ⟨k, hk, e⟩
theorem sgPlus {d : Int} {x y : N3} (hd : IsRoot d) (ox : Ok x) (oy : Ok y) (hx : sg d x.a x.b = 1) (hy : sg d y.a y.b = 1) : sg d (plus x y).a (plus x y).b = 1 := Comb.pos hd (ok_plus ox oy) (comb_plus ox oy) hx hy
theorem rd__law_shape (h : spShapeL ds μ Qd) : td__law_shape { nx := fun _ μ' => Qd (.v .none) μ', rt := Qd } (startD ["_law_bag_here", "_law_d", "_law_kinds_here", "_law_kind", "_law_other", "_law_u", "_law_v", "_law_way", "_law_turned_kind", "_law_some"] ds) μ := by
  obtain ⟨a, d, ks, rfl, hd, ho, hb, q⟩ := h
  have s5 := sz_d hd.1 hd.2.1
  have l1 := ho.l1
  have l3 := ho.l3
  unfold td__law_shape
  walk_at "rn"
  rw [List.length_map]
  refine ⟨a, _, rfl, by omega, by omega, hb, fun r μ1 r0 r1 s1 => ?_⟩
  obtain ⟨k, hk, e1⟩ := ks_get ho r0 r1
  walk_at "rn"
  rw [e1]
  obtain ⟨ok, bk, sk⟩ := ho.ok k hk
  walk_at "rn"
  refine ⟨a, _, rfl, by omega, by omega, s1.1, fun r' μ2 r0' r1' s2 => ?_⟩
  obtain ⟨o, ho', e2⟩ := ks_get ho r0' r1'
  walk_at "rn"
  rw [e2]
  obtain ⟨oo, bo, so⟩ := ho.ok o ho'
  walk_at "rn"
  refine ⟨a, rfl, s2.1, fun u μ3 fu u0 s3 => ?_⟩
  walk_at "rn"
  refine ⟨a, rfl, s3.1, fun v μ4 fv v0 s4 => ?_⟩
  walk_at "rn"
  refine ⟨a, 10, rfl, by decide, by decide, s4.1, fun w μ5 w0 w1 s5' => ?_⟩
  walk_at "rn"
  have nk := pos_norm hd ok sk
  refine ⟨d, k, rfl, s5, nk, bk.mono (by decide), ?_⟩
  walk_at "rn"
  refine ⟨a, d, rfl, hd, s5'.1, fun x μ6 ox bx sx s6 => ?_⟩
  have oc := ok_contrary nk
  have bc := bd_contrary s5 nk bk
  have sc := sg_contrary hd ok sk
  have bu := fu.bd
  have bv := fv.bd
  have su : sg d u.a u.b = 1 := sg_frac u0 fu.b
  have sv : sg d v.a v.b = 1 := sg_frac v0 fv.b
  have o2 := ok_times (d := d) ok fu.ok
  have b2 := bd_times s5 ok fu.ok bk bu
  have g2 : sg d (times d k u).a (times d k u).b = 1 := by rw [sg_timesP hd ok fu.ok, sk, su]; rfl
  have o3 := ok_times (d := d) oc fu.ok
  have b3 := bd_times s5 oc fu.ok bc bu
  have g3 : sg d (times d (contrary d k) u).a (times d (contrary d k) u).b = 1 := by rw [sg_timesP hd oc fu.ok, sc, su]; rfl
  have o4 := ok_times (d := d) oc fv.ok
  have b4 := bd_times s5 oc fv.ok bc bv
  have g4 : sg d (times d (contrary d k) v).a (times d (contrary d k) v).b = 1 := by rw [sg_timesP hd oc fv.ok, sc, sv]; rfl
  have o5 := ok_times (d := d) oo fv.ok
  have b5 := bd_times s5 oo fv.ok bo bv
  have g5 : sg d (times d o v).a (times d o v).b = 1 := by rw [sg_timesP hd oo fv.ok, so, sv]; rfl
  have or' : Ok ⟨0, 1, 1⟩ := ⟨by decide, by decide⟩
  have br : Bd 2 ⟨0, 1, 1⟩ := ⟨Sz.of (by decide), Sz.of (by decide), Sz.of (by decide)⟩
  have gr : sg d (⟨0, 1, 1⟩ : N3).a (⟨0, 1, 1⟩ : N3).b = 1 := by show sg d 0 1 = 1; rw [sg_root]; rfl
  have ot : Ok ⟨0, 1, 999999⟩ := ⟨by decide, by decide⟩
  have bt : Bd 20 ⟨0, 1, 999999⟩ := ⟨Sz.of (by decide), Sz.of (by decide), Sz.of (by decide)⟩
  have gt : sg d (⟨0, 1, 999999⟩ : N3).a (⟨0, 1, 999999⟩ : N3).b = 1 := by show sg d 0 1 = 1; rw [sg_root]; rfl
  have oh : Ok ⟨1, 0, 99999⟩ := ⟨by decide, by decide⟩
  have bh : Bd 20 ⟨1, 0, 99999⟩ := ⟨Sz.of (by decide), Sz.of (by decide), Sz.of (by decide)⟩
  have gh : sg d (⟨1, 0, 99999⟩ : N3).a (⟨1, 0, 99999⟩ : N3).b = 1 := by show sg d 1 0 = 1; rw [sg_int]; rfl
  have o6 := ok_times (d := d) or' fu.ok
  have b6 := bd_times s5 or' fu.ok br bu
  have g6 : sg d (times d ⟨0, 1, 1⟩ u).a (times d ⟨0, 1, 1⟩ u).b = 1 := by rw [sg_timesP hd or' fu.ok, gr, su]; rfl
  have o7 := ok_times (d := d) fv.ok oh
  have b7 := bd_times s5 fv.ok oh bv bh
  have g7 : sg d (times d v ⟨1, 0, 99999⟩).a (times d v ⟨1, 0, 99999⟩).b = 1 := by rw [sg_timesP hd fv.ok oh, sv, gh]; rfl
  refine ⟨d, k, u, rfl, s5, ok, fu.ok, bk.mono (by decide), bu.mono (by decide), d, _, u, rfl, s5, oc, fu.ok, bc.mono (by decide), bu.mono (by decide), d, k, u, rfl, s5, ok, fu.ok, bk.mono (by decide), bu.mono (by decide), d, _, v, rfl, s5, oc, fv.ok, bc.mono (by decide), bv.mono (by decide), _, _, rfl, o2, o4, b2.mono (by decide), b4.mono (by decide), d, o, v, rfl, s5, oo, fv.ok, bo.mono (by decide), bv.mono (by decide), k, _, rfl, ok, o5, bk.mono (by decide), b5.mono (by decide), d, ⟨0, 1, 1⟩, u, rfl, s5, or', fu.ok, br.mono (by decide), bu.mono (by decide), d, _, u, rfl, s5, oc, fu.ok, bc.mono (by decide), bu.mono (by decide), _, ⟨0, 1, 999999⟩, rfl, o3, ot, b3.mono (by decide), bt.mono (by decide), d, k, u, rfl, s5, ok, fu.ok, bk.mono (by decide), bu.mono (by decide), d, v, ⟨1, 0, 99999⟩, rfl, s5, fv.ok, oh, bv.mono (by decide), bh.mono (by decide), _, _, rfl, o2, o7, b2.mono (by decide), b7.mono (by decide), a, d, rfl, hd, s6.1, fun y μ7 oy by' sy s7 => ?_⟩
  walk_at "rn"
  have hst := s1.trans (s2.trans (s3.trans (s4.trans (s5'.trans (s6.trans s7)))))
  obtain ⟨_, e, z, rfl, oz, bz, sz⟩ := pick (P := fun t => ∃ z, t = dN z ∧ Ok z ∧ Bd 230 z ∧ sg d z.a z.b = 1) (xs := [dN x, dN (times d k u), dN (times d (contrary d k) u), dN (plus (times d k u) (times d (contrary d k) v)), dN (plus k (times d o v)), dN u, dN (times d ⟨0, 1, 1⟩ u), dN (plus (times d (contrary d k) u) ⟨0, 1, 999999⟩), dN (plus (times d k u) (times d v ⟨1, 0, 99999⟩)), dN y]) w0 (by exact w1) (by
    intro t ht
    simp only [List.mem_cons, List.not_mem_nil, or_false] at ht
    rcases ht with rfl | rfl | rfl | rfl | rfl | rfl | rfl | rfl | rfl | rfl
    · exact ⟨_, rfl, ox, bx.mono (by decide), sx⟩
    · exact ⟨_, rfl, o2, b2.mono (by decide), g2⟩
    · exact ⟨_, rfl, o3, b3.mono (by decide), g3⟩
    · exact ⟨_, rfl, ok_plus o2 o4, (bd_plus o2 o4 b2 b4).mono (by decide), sgPlus hd o2 o4 g2 g4⟩
    · exact ⟨_, rfl, ok_plus ok o5, (bd_plus ok o5 bk b5).mono (by decide), sgPlus hd ok o5 sk g5⟩
    · exact ⟨_, rfl, fu.ok, bu.mono (by decide), su⟩
    · exact ⟨_, rfl, o6, b6.mono (by decide), g6⟩
    · exact ⟨_, rfl, ok_plus o3 ot, (bd_plus o3 ot b3 bt).mono (by decide), sgPlus hd o3 ot g3 gt⟩
    · exact ⟨_, rfl, ok_plus o2 o7, (bd_plus o2 o7 b2 b7).mono (by decide), sgPlus hd o2 o7 g2 g7⟩
    · exact ⟨_, rfl, oy, by'.mono (by decide), sy⟩)
  rw [e]
  exact q z _ oz bz sz hst
end
open PySem PySem.Spec PyProof.Rows NM
def shVg (d : Int) (f g s : N3) : N3 := low ((shA d f s).b * (shA d f g).c) 0 ((shA d f s).c * (shA d f g).b)
def shUg (d : Int) (f g s : N3) : N3 := less (shA d f s) (times d (shVg d f g s) (shA d f g))
def spShares : DSp := fun ds μ Q => ∃ (d : Int) (f g s : N3), ds = [.v (.int d), .v (dN f), .v (dN g), .v (dN s)] ∧ IsRoot d ∧ Ok f ∧ f ≠ nought ∧ Bd 470 f ∧ Ok g ∧ Bd 470 g ∧ Ok s ∧ Bd 470 s ∧ (shA d f g).b ≠ 0 ∧ Q (.v (.tuple [dN (shUg d f g s), dN (shVg d f g s)])) μ
theorem len_spShares {μ : Mu} {Q : DK} {ds : List D} (h : spShares ds μ Q) : ds.length = 4 := by obtain ⟨_, _, _, _, rfl, _⟩ := h; rfl
def spIsShare : DSp := fun ds μ Q => ∃ (d : Int) (x : N3), ds = [.v (.int d), .v (dN x)] ∧ IsRoot d ∧ Bd 8900 x ∧ Q (.v (.bool (isShare d x))) μ
theorem len_spIsShare {μ : Mu} {Q : DK} {ds : List D} (h : spIsShare ds μ Q) : ds.length = 2 := by obtain ⟨_, _, rfl, _⟩ := h; rfl
def skew (x : N3) (w : Int) : N3 := if 0 < w then less x (mate x) else plus x (mate x)
def spSkew : DSp := fun ds μ Q => ∃ (x : N3) (w : Int), ds = [.v (dN x), .v (.int w)] ∧ Ok x ∧ Bd 2100 x ∧ Q (.v (dN (skew x w))) μ
theorem len_spSkew {μ : Mu} {Q : DK} {ds : List D} (h : spSkew ds μ Q) : ds.length = 2 := by obtain ⟨_, _, rfl, _⟩ := h; rfl
def bTurn (d : Int) (s : N3) (w : Int) : Int := sg d (skew s w).a (skew s w).b
def bLast (d : Int) (s : N3) (w : Int) : N3 := times d (times d ⟨bTurn d s w, 0, 2⟩ (skew s w)) (contrary d (mate s))
def bBoth (d : Int) (k : N3) (w : Int) : N3 := times d (times d (skew k w) (skew k w)) (contrary d (times d ⟨4, 0, 1⟩ (times d k (mate k))))
def wayOf (d : Int) (k : N3) : Int := sg d (mate k).a (mate k).b
def barV (d : Int) (k s : N3) : PyData :=
  if wayOf d s = wayOf d k then .tuple [dN one, .tuple [dN (times d (bBoth d k (wayOf d k)) (contrary d (bLast d s (wayOf d k)))), dN ⟨wayOf d k * bTurn d s (wayOf d k), 0, 1⟩, dN ⟨-bTurn d s (wayOf d k), 0, 1⟩, dN (bLast d s (wayOf d k))]]
  else .tuple [dN one, .tuple [dN nought, dN nought, dN nought, dN ⟨wayOf d k, 0, 1⟩]]
def mixD (d : Int) (k s : N3) : PyData := if isMix d k s = true then .tuple [.str "mixture", dN (mixU d k s), dN (mixV d k s)] else .tuple [.str "bar", barV d k s]
def spBarFor : DSp := fun ds μ Q => ∃ (d : Int) (k s : N3), ds = [.v (.int d), .v (dN k), .v (dN s)] ∧ IsRoot d ∧ Ok k ∧ Bd 230 k ∧ sg d k.a k.b = 1 ∧ Ok s ∧ Bd 470 s ∧ sg d s.a s.b = 1 ∧ isMix d k s = false ∧ Q (.v (barV d k s)) μ
theorem len_spBarFor {μ : Mu} {Q : DK} {ds : List D} (h : spBarFor ds μ Q) : ds.length = 3 := by obtain ⟨_, _, _, rfl, _⟩ := h; rfl
def spMixture : DSp := fun ds μ Q => ∃ (d : Int) (k s : N3), ds = [.v (.int d), .v (dN k), .v (dN s)] ∧ IsRoot d ∧ Ok k ∧ Bd 230 k ∧ sg d k.a k.b = 1 ∧ Ok s ∧ Bd 470 s ∧ sg d s.a s.b = 1 ∧ Q (.v (mixD d k s)) μ
theorem len_spMixture {μ : Mu} {Q : DK} {ds : List D} (h : spMixture ds μ Q) : ds.length = 3 := by obtain ⟨_, _, _, rfl, _⟩ := h; rfl
def td_shares_of : DTS :=
  (dSeq (dAsg (dCall spOver (dCons (dVar 0) (dCons (dVar 3) (dCons (dVar 1) dNil)))) (gdName 4))
  (dSeq (dAsg (dCall spOver (dCons (dVar 0) (dCons (dVar 2) (dCons (dVar 1) dNil)))) (gdName 5))
  (dSeq (dAsg (dCall spNumber (dCons (dMul (dOp rIxD (dVar 4) (dC (.int 1))) (dOp rIxD (dVar 5) (dC (.int 2)))) (dCons (dC (.int 0)) (dCons (dMul (dOp rIxD (dVar 4) (dC (.int 2))) (dOp rIxD (dVar 5) (dC (.int 1)))) dNil)))) (gdName 6))
  (dSeq (dAsg (dCall spLess (dCons (dVar 4) (dCons (dCall spTimes (dCons (dVar 0) (dCons (dVar 6) (dCons (dVar 5) dNil)))) dNil))) (gdName 7))
  (dRet (dTup (dCons (dVar 7) (dCons (dVar 6) dNil))))))))
def td_is_share : DTS :=
  (dRet (dAndV (dOp (rEqD false) (dOp rIxD (dVar 1) (dC (.int 1))) (dC (.int 0))) (dOp rGe (dCall spSign (dCons (dVar 0) (dCons (dVar 1) dNil))) (dC (.int 0)))))
def td_skew : DTS :=
  (dRet (dIf (dB (dOp rGt (dVar 1) (dC (.int 0)))) (dCall spLess (dCons (dVar 0) (dCons (dCall spMate (dCons (dVar 0) dNil)) dNil))) (dCall spPlus (dCons (dVar 0) (dCons (dCall spMate (dCons (dVar 0) dNil)) dNil)))))
def td_bar_for : DTS :=
  (dSeq (dAsg (dCall spSign (dCons (dVar 0) (dCons (dCall spMate (dCons (dVar 1) dNil)) dNil))) (gdName 3))
  (dSeq (dIfS (dB (dOp (rEqD true) (dCall spSign (dCons (dVar 0) (dCons (dCall spMate (dCons (dVar 2) dNil)) dNil))) (dVar 3))) (dRet (dTup (dCons (dC (.tuple [.int 1, .int 0, .int 1])) (dCons (dTup (dCons (dC (.tuple [.int 0, .int 0, .int 1])) (dCons (dC (.tuple [.int 0, .int 0, .int 1])) (dCons (dC (.tuple [.int 0, .int 0, .int 1])) (dCons (dTup (dCons (dVar 3) (dCons (dC (.int 0)) (dCons (dC (.int 1)) dNil)))) dNil))))) dNil)))) dNext)
  (dSeq (dAsg (dCall spSkew (dCons (dVar 1) (dCons (dVar 3) dNil))) (gdName 4))
  (dSeq (dAsg (dCall spSkew (dCons (dVar 2) (dCons (dVar 3) dNil))) (gdName 5))
  (dSeq (dAsg (dCall spSign (dCons (dVar 0) (dCons (dVar 5) dNil))) (gdName 6))
  (dSeq (dAsg (dCall spOver (dCons (dVar 0) (dCons (dCall spTimes (dCons (dVar 0) (dCons (dTup (dCons (dVar 6) (dCons (dC (.int 0)) (dCons (dC (.int 2)) dNil)))) (dCons (dVar 5) dNil)))) (dCons (dCall spMate (dCons (dVar 2) dNil)) dNil)))) (gdName 7))
  (dSeq (dAsg (dCall spOver (dCons (dVar 0) (dCons (dCall spTimes (dCons (dVar 0) (dCons (dVar 4) (dCons (dVar 4) dNil)))) (dCons (dCall spTimes (dCons (dVar 0) (dCons (dTup (dCons (dC (.int 4)) (dCons (dC (.int 0)) (dCons (dC (.int 1)) dNil)))) (dCons (dCall spTimes (dCons (dVar 0) (dCons (dVar 1) (dCons (dCall spMate (dCons (dVar 1) dNil)) dNil)))) dNil)))) dNil)))) (gdName 8))
  (dRet (dTup (dCons (dC (.tuple [.int 1, .int 0, .int 1])) (dCons (dTup (dCons (dCall spOver (dCons (dVar 0) (dCons (dVar 8) (dCons (dVar 7) dNil)))) (dCons (dTup (dCons (dMul (dVar 3) (dVar 6)) (dCons (dC (.int 0)) (dCons (dC (.int 1)) dNil)))) (dCons (dTup (dCons (dNeg (dVar 6)) (dCons (dC (.int 0)) (dCons (dC (.int 1)) dNil)))) (dCons (dVar 7) dNil))))) dNil)))))))))))
def td_mixture_of : DTS :=
  (dSeq (dDrop (dCall spMustAbove (dCons (dVar 0) (dCons (dVar 1) dNil))))
  (dSeq (dDrop (dCall spMustAbove (dCons (dVar 0) (dCons (dVar 2) dNil))))
  (dSeq (dIfS (dB (dOp (rEqD false) (dOp rIxD (dCall spTimes (dCons (dVar 0) (dCons (dVar 1) (dCons (dVar 1) dNil)))) (dC (.int 1))) (dC (.int 0)))) (dAsg (dTup (dCons (dCall spOver (dCons (dVar 0) (dCons (dVar 2) (dCons (dVar 1) dNil)))) (dCons (dC (.tuple [.int 0, .int 0, .int 1])) dNil))) (gdName 3)) (dAsg (dCall spShares (dCons (dVar 0) (dCons (dVar 1) (dCons (dCall spContrary (dCons (dVar 0) (dCons (dVar 1) dNil))) (dCons (dVar 2) dNil))))) (gdName 3)))
  (dSeq (dIfS (dB (dCB rAllD (dCons (dComp [none, some 0] (diTup (dVar 3)) (gdName 0) dTrue (dCall spIsShare (dCons (dVar 1) (dCons (dVar 0) dNil)))) dNil))) (dRet (dTup (dCons (dC (.str "mixture")) (dCons (dOp rIxD (dVar 3) (dC (.int 0))) (dCons (dOp rIxD (dVar 3) (dC (.int 1))) dNil))))) dNext)
  (dRet (dTup (dCons (dC (.str "bar")) (dCons (dCall spBarFor (dCons (dVar 0) (dCons (dVar 1) (dCons (dVar 2) dNil)))) dNil))))))))
section
variable {μ : Mu} {Qd : DK} {ds : List D}
theorem ne_nought {d : Int} {x : N3} (h : sg d x.a x.b = 1) : x ≠ nought := fun e => by subst e; have : sg d nought.a nought.b = 0 := sg_zero.mpr ⟨rfl, rfl⟩; omega
theorem rd_shares_of (h : spShares ds μ Qd) : td_shares_of { nx := fun _ μ' => Qd (.v .none) μ', rt := Qd } (startD ["d", "first", "second", "shape", "whole", "part", "of_second", "of_first"] ds) μ := by
  obtain ⟨d, f, g, s, rfl, hd, of, nf, bf, og, bg, os, bs, hp, q⟩ := h
  have s5 := sz_d hd.1 hd.2.1
  have hn := hd.norm of nf
  have oa : Ok (shA d f s) := ok_shA os hn
  have op : Ok (shA d f g) := ok_shA og hn
  have ba : Bd 1422 (shA d f s) := bd_times s5 os (ok_contrary hn) bs (bd_contrary s5 hn bf)
  have bp : Bd 1422 (shA d f g) := bd_times s5 og (ok_contrary hn) bg (bd_contrary s5 hn bf)
  unfold td_shares_of
  walk_at "rn"
  refine ⟨d, s, f, rfl, hd, os, of, nf, bs.mono (by decide), bf.mono (by decide), ?_⟩
  walk_at "rn"
  refine ⟨d, g, f, rfl, hd, og, of, nf, bg.mono (by decide), bf.mono (by decide), ?_⟩
  walk_at "rn"
  have hc : (shA d f s).c * (shA d f g).b ≠ 0 := Int.mul_ne_zero oa.cn hp
  have sc : Sz 2844 ((shA d f s).c * (shA d f g).b) := ba.c.mul bp.b
  have sb : Sz 2844 ((shA d f s).b * (shA d f g).c) := ba.b.mul bp.c
  refine ⟨mulOk ba.b bp.c (by decide), mulOk ba.c bp.b (by decide), _, _, _, rfl, hc, sc.mono (by decide), ?_⟩
  have ov : Ok (shVg d f g s) := low_ok _ _ hc
  have bv : Bd 2844 (shVg d f g s) := low_bd hc sb (sz0) sc
  walk_at "rn"
  refine ⟨d, shVg d f g s, shA d f g, rfl, s5, ov, op, bv.mono (by decide), bp.mono (by decide), shA d f s, _, rfl, oa, ok_times ov op, ba.mono (by decide), (bd_times s5 ov op bv bp).mono (by decide), ?_⟩
  exact q
theorem rd_is_share (h : spIsShare ds μ Qd) : td_is_share { nx := fun _ μ' => Qd (.v .none) μ', rt := Qd } (startD ["d", "x"] ds) μ := by
  obtain ⟨d, x, rfl, hd, bx, q⟩ := h
  unfold td_is_share
  walk_at "rn"
  unfold isShare at q
  cases e : decide (x.b = 0) with
  | true =>
    rw [e, Bool.true_and] at q
    exact ⟨d, x, rfl, hd, bx, q⟩
  | false =>
    rw [e, Bool.false_and] at q
    exact q
theorem rd_skew (h : spSkew ds μ Qd) : td_skew { nx := fun _ μ' => Qd (.v .none) μ', rt := Qd } (startD ["shape", "way"] ds) μ := by
  obtain ⟨x, w, rfl, ox, bx, q⟩ := h
  unfold td_skew
  walk_at "rn"
  unfold skew at q
  by_cases hw : 0 < w
  · rw [if_pos hw] at q
    rw [if_pos (by simpa using hw)]
    exact ⟨x, rfl, x, mate x, rfl, ox, ok_mate ox, bx.mono (by decide), (bd_mate bx).mono (by decide), q⟩
  · rw [if_neg hw] at q
    rw [if_neg (by simpa using hw)]
    exact ⟨x, rfl, x, mate x, rfl, ox, ok_mate ox, bx.mono (by decide), (bd_mate bx).mono (by decide), q⟩
theorem ok_skew {x : N3} {w : Int} (ox : Ok x) : Ok (skew x w) := by
  unfold skew
  split
  · exact ok_less ox (ok_mate ox)
  · exact ok_plus ox (ok_mate ox)
theorem bd_skew {x : N3} {w : Int} {n : Nat} (ox : Ok x) (bx : Bd n x) : Bd (n + n + 1) (skew x w) := by
  unfold skew
  split
  · exact bd_less ox (ok_mate ox) bx (bd_mate bx)
  · exact bd_plus ox (ok_mate ox) bx (bd_mate bx)
theorem way_sg {d : Int} {k : N3} (hd : IsRoot d) (ok : Ok k) (hk : sg d k.a k.b = 1) : wayOf d k = sg d (norm d k) 0 := sg_mate hd ok hk
theorem way_pm {d : Int} {k : N3} (hd : IsRoot d) (ok : Ok k) (hk : sg d k.a k.b = 1) : (wayOf d k = 1 ∧ 0 < norm d k) ∨ (wayOf d k = -1 ∧ norm d k < 0) := by
  have hn := pos_norm hd ok hk
  rw [way_sg hd ok hk, sg_int, if_neg hn]
  by_cases h : 0 < norm d k
  · rw [if_pos h]; exact .inl ⟨rfl, h⟩
  · rw [if_neg h]; exact .inr ⟨rfl, by omega⟩
theorem skew_ne {d : Int} {k s : N3} (hd : IsRoot d) (ok : Ok k) (hk : sg d k.a k.b = 1) (os : Ok s) (hs : sg d s.a s.b = 1) (hm : isMix d k s = false) (hw : wayOf d s = wayOf d k) : skew s (wayOf d k) ≠ nought := fun e => by
  have hl : ¬ Lay d k s := fun z => by rw [(mix_lay hd ok os hk hs).mpr z] at hm; cases hm
  rcases way_pm hd ok hk with ⟨w1, n1⟩ | ⟨w1, n1⟩ <;> rcases way_pm hd os hs with ⟨w2, n2⟩ | ⟨w2, n2⟩
  · rw [w1] at e
    unfold skew at e
    rw [if_pos (by decide)] at e
    have r := Rep.less os (ok_mate os) (rep_self os) (rep_self (ok_mate os))
    rw [e] at r
    have rb := r.b
    have h0 : s.b * (mate s).c - (mate s).b * s.c = 0 := by
      have e1 : nought.b = 0 := rfl
      have e2 : nought.c = 1 := rfl
      rw [e1, e2] at rb; omega
    have h1 : s.b * s.c - -s.b * s.c = 0 := h0
    have h2 : s.b * s.c = 0 := by rw [Int.neg_mul] at h1; omega
    have h3 : s.b = 0 := (Int.mul_eq_zero.mp h2).resolve_right os.cn
    refine hl (.inl ⟨n1, n2, ?_⟩)
    rw [h3, Int.zero_mul, Int.zero_mul]
    exact Int.mul_nonneg (sq_nonneg _) (sq_nonneg _)
  · rw [w1, w2] at hw; exact absurd hw (by decide)
  · rw [w1, w2] at hw; exact absurd hw (by decide)
  · rw [w1] at e
    unfold skew at e
    rw [if_neg (by decide)] at e
    have r := Rep.plus os (ok_mate os) (rep_self os) (rep_self (ok_mate os))
    rw [e] at r
    have ra := r.a
    have h0 : s.a * (mate s).c + (mate s).a * s.c = 0 := by
      have e1 : nought.a = 0 := rfl
      have e2 : nought.c = 1 := rfl
      rw [e1, e2] at ra; omega
    have h1 : s.a * s.c + s.a * s.c = 0 := h0
    have h2 : s.a * s.c = 0 := by omega
    have h3 : s.a = 0 := (Int.mul_eq_zero.mp h2).resolve_right os.cn
    refine hl (.inr ⟨n1, n2, ?_⟩)
    rw [h3, Int.zero_mul, Int.zero_mul]
    exact Int.mul_nonneg (sq_nonneg _) (sq_nonneg _)
theorem sg_ne {d : Int} {x : N3} (ox : Ok x) (h : x ≠ nought) : sg d x.a x.b = 1 ∨ sg d x.a x.b = -1 := by
  rcases sg_tri d x.a x.b with z | z | z
  · exfalso
    obtain ⟨h1, h2⟩ := sg_zero.mp z
    have g := ox.g
    rw [h1, h2] at g
    have hc := ox.c
    refine h (N3.ext' h1 h2 ?_)
    show x.c = 1
    simp [g3] at g
    omega
  · exact .inl z
  · exact .inr z
theorem times_ne {d : Int} {x y : N3} (hd : IsRoot d) (ox : Ok x) (oy : Ok y) (hx : x ≠ nought) (hy : y ≠ nought) : times d x y ≠ nought := fun e => by
  have h := sg_timesP hd ox oy
  rw [e] at h
  have z : sg d nought.a nought.b = 0 := sg_zero.mpr ⟨rfl, rfl⟩
  rw [z] at h
  rcases sg_ne (d := d) ox hx with a | a <;> rcases sg_ne (d := d) oy hy with b | b <;> rw [a, b] at h <;> exact absurd h (by decide)
theorem con_ne {d : Int} {x : N3} (hd : IsRoot d) (ox : Ok x) (hx : x ≠ nought) : contrary d x ≠ nought := fun e => by
  have hn := hd.norm ox hx
  have t := times_contrary ox hn
  rw [e] at t
  have h := sg_timesP hd ox ok_nought
  rw [t, show sg d nought.a nought.b = 0 from sg_zero.mpr ⟨rfl, rfl⟩, sg_one1] at h
  simp at h
theorem mate_ne {x : N3} (hx : x ≠ nought) : mate x ≠ nought := fun e => hx (by
  have h1 : x.a = 0 := congrArg N3.a e
  have h2 : -x.b = 0 := congrArg N3.b e
  have h3 : x.c = 1 := congrArg N3.c e
  exact N3.ext' h1 (show x.b = 0 by omega) h3)
theorem ok_half {t : Int} (h : t = 1 ∨ t = -1) : Ok ⟨t, 0, 2⟩ := by
  rcases h with rfl | rfl
  · exact ⟨by decide, by decide⟩
  · exact ⟨by decide, by decide⟩
theorem bd_half {t : Int} (h : t = 1 ∨ t = -1) : Bd 3 ⟨t, 0, 2⟩ := ⟨Sz.of (by show t.natAbs < 8; omega), Sz.of (by show (0 : Int).natAbs < 8; decide), Sz.of (by show (2 : Int).natAbs < 8; decide)⟩
theorem half_ne {t : Int} (h : t = 1 ∨ t = -1) : (⟨t, 0, 2⟩ : N3) ≠ nought := fun e => by
  have : (2 : Int) = 1 := congrArg N3.c e
  exact absurd this (by decide)
structure LastOk (d : Int) (s : N3) (w : Int) : Prop where
  ok : Ok (bLast d s w)
  bd : Bd 1904 (bLast d s w)
  ne : bLast d s w ≠ nought
theorem last_ok {d : Int} {s : N3} {w : Int} (hd : IsRoot d) (os : Ok s) (bs : Bd 470 s) (ns : s ≠ nought) (hk : skew s w ≠ nought) : LastOk d s w := by
  have s5 := sz_d hd.1 hd.2.1
  have of := ok_skew (w := w) os
  have bf := bd_skew (w := w) os bs
  have ht : bTurn d s w = 1 ∨ bTurn d s w = -1 := sg_ne of hk
  have nm := hd.norm (ok_mate os) (mate_ne ns)
  have oc := ok_contrary nm
  have bc := bd_contrary s5 nm (bd_mate bs)
  have o1 := ok_times (d := d) (ok_half ht) of
  have b1 := bd_times s5 (ok_half ht) of (bd_half ht) bf
  exact ⟨ok_times o1 oc, (bd_times s5 o1 oc b1 bc).mono (by decide), times_ne hd o1 oc (times_ne hd (ok_half ht) of (half_ne ht) hk) (con_ne hd (ok_mate os) (mate_ne ns))⟩
theorem rd_bar_for (h : spBarFor ds μ Qd) : td_bar_for { nx := fun _ μ' => Qd (.v .none) μ', rt := Qd } (startD ["d", "kind", "shape", "way", "own", "floor", "turn", "last", "both"] ds) μ := by
  obtain ⟨d, k, s, rfl, hd, ok, bk, hk, os, bs, hs, hm, q⟩ := h
  have s5 := sz_d hd.1 hd.2.1
  have nk := pos_norm hd ok hk
  have ns := ne_nought hs
  unfold td_bar_for
  walk_at "rn"
  refine ⟨k, rfl, d, mate k, rfl, hd, (bd_mate bk).mono (by decide), ?_⟩
  walk_at "rn"
  refine ⟨s, rfl, d, mate s, rfl, hd, (bd_mate bs).mono (by decide), ?_⟩
  unfold barV at q
  by_cases hw : wayOf d s = wayOf d k
  · rw [if_pos hw] at q
    have hw' : sg d (mate s).a (mate s).b = sg d (mate k).a (mate k).b := hw
    walk_at "rn"
    rw [if_neg (by rw [hw']; simp)]
    have of := ok_skew (w := wayOf d k) os
    have bf := bd_skew (w := wayOf d k) os bs
    have oo := ok_skew (w := wayOf d k) ok
    have bo := bd_skew (w := wayOf d k) ok bk
    have hf := skew_ne hd ok hk os hs hm hw
    have ht : bTurn d s (wayOf d k) = 1 ∨ bTurn d s (wayOf d k) = -1 := sg_ne of hf
    have L := last_ok (w := wayOf d k) hd os bs ns hf
    refine ⟨k, wayOf d k, rfl, ok, bk.mono (by decide), ?_⟩
    walk_at "rn"
    refine ⟨s, wayOf d k, rfl, os, bs.mono (by decide), ?_⟩
    walk_at "rn"
    refine ⟨d, _, rfl, hd, bf.mono (by decide), ?_⟩
    walk_at "rn"
    have o1 := ok_times (d := d) (ok_half ht) of
    have b1 := bd_times s5 (ok_half ht) of (bd_half ht) bf
    refine ⟨d, ⟨bTurn d s (wayOf d k), 0, 2⟩, skew s (wayOf d k), rfl, s5, ok_half ht, of, (bd_half ht).mono (by decide), bf.mono (by decide), s, rfl, d, _, mate s, rfl, hd, o1, ok_mate os, mate_ne ns, b1.mono (by decide), (bd_mate bs).mono (by decide), ?_⟩
    walk_at "rn"
    have o2 := ok_times (d := d) oo oo
    have b2 := bd_times s5 oo oo bo bo
    have o3 := ok_times (d := d) ok (ok_mate ok)
    have b3 := bd_times s5 ok (ok_mate ok) bk (bd_mate bk)
    have n3 : times d k (mate k) ≠ nought := times_ne hd ok (ok_mate ok) (ne_nought hk) (mate_ne (ne_nought hk))
    have o4 : Ok ⟨4, 0, 1⟩ := ok_lit1 4
    have b4 : Bd 4 ⟨4, 0, 1⟩ := ⟨Sz.of (by decide), Sz.of (by decide), Sz.of (by decide)⟩
    have o5 := ok_times (d := d) o4 o3
    have b5 := bd_times s5 o4 o3 b4 b3
    have n5 : times d ⟨4, 0, 1⟩ (times d k (mate k)) ≠ nought := times_ne hd o4 o3 (fun e => absurd (congrArg N3.a e) (by decide)) n3
    refine ⟨d, _, _, rfl, s5, oo, oo, bo.mono (by decide), bo.mono (by decide), k, rfl, d, k, mate k, rfl, s5, ok, ok_mate ok, bk.mono (by decide), (bd_mate bk).mono (by decide), d, ⟨4, 0, 1⟩, _, rfl, s5, o4, o3, b4.mono (by decide), b3.mono (by decide), d, _, _, rfl, hd, o2, o5, n5, b2.mono (by decide), b5.mono (by decide), ?_⟩
    walk_at "rn"
    have nn5 := hd.norm o5 n5
    have ob : Ok (bBoth d k (wayOf d k)) := ok_times o2 (ok_contrary nn5)
    have bb : Bd 1902 (bBoth d k (wayOf d k)) := (bd_times s5 o2 (ok_contrary nn5) b2 (bd_contrary s5 nn5 b5)).mono (by decide)
    refine ⟨d, bBoth d k (wayOf d k), bLast d s (wayOf d k), rfl, hd, ob, L.ok, L.ne, bb.mono (by decide), L.bd.mono (by decide), ?_⟩
    refine ⟨mulR sg_small, ?_⟩
    exact q
  · rw [if_neg hw] at q
    have hw' : ¬ sg d (mate s).a (mate s).b = sg d (mate k).a (mate k).b := hw
    walk_at "rn"
    rw [if_pos (by simpa using hw')]
    exact q
structure MixOk (d : Int) (k s : N3) (n : Nat) : Prop where
  ou : Ok (mixU d k s)
  ov : Ok (mixV d k s)
  bu : Bd n (mixU d k s)
  bv : Bd n (mixV d k s)
theorem mix_ok {d : Int} {k s : N3} {n m : Nat} (hd : IsRoot d) (ok : Ok k) (bk : Bd n k) (hk : sg d k.a k.b = 1) (os : Ok s) (bs : Bd m s) : MixOk d k s ((m + (2 * n + 6) + 6) + ((m + (2 * n + 6) + 6) + ((2 * n + 6) + (2 * n + 6) + 6) + ((2 * n + 6) + (2 * n + 6) + 6) + 6) + 1) := by
  have s5 := sz_d hd.1 hd.2.1
  have hn := pos_norm hd ok hk
  have oc := ok_contrary hn
  have bc := bd_contrary s5 hn bk
  have oa := ok_shA (s := s) os hn
  have ba : Bd (m + (2 * n + 6) + 6) (shA d k s) := bd_times s5 os oc bs bc
  have op := ok_prt (k := k) hn
  have bp : Bd ((2 * n + 6) + (2 * n + 6) + 6) (prt d k) := bd_times s5 oc oc bc bc
  refine ⟨ok_U ok os hn, ok_V ok os hn, ?_, ?_⟩
  · unfold mixU
    split
    · exact ba.mono (by omega)
    · rename_i hl
      have h' : k.a * k.b ≠ 0 := fun z => hl ((lone_iff ok).mpr z)
      have hc : (shA d k s).c * (prt d k).b ≠ 0 := Int.mul_ne_zero oa.cn (prt_b ok hn (rep_self ok) h')
      have bv : Bd ((m + (2 * n + 6) + 6) + ((2 * n + 6) + (2 * n + 6) + 6)) (shV d k s) := low_bd hc (ba.b.mul bp.c) sz0 (ba.c.mul bp.b)
      have ov := ok_shV ok os hn h'
      exact (bd_less oa (ok_times ov op) ba (bd_times s5 ov op bv bp)).mono (by omega)
  · unfold mixV
    split
    · exact ⟨Sz.of (by show (0 : Int).natAbs < _; exact Nat.pos_of_ne_zero (by simp)), Sz.of (by show (0 : Int).natAbs < _; exact Nat.pos_of_ne_zero (by simp)), Sz.of (by show (1 : Int).natAbs < _; exact Nat.one_lt_two_pow (by omega))⟩
    · rename_i hl
      have h' : k.a * k.b ≠ 0 := fun z => hl ((lone_iff ok).mpr z)
      have hc : (shA d k s).c * (prt d k).b ≠ 0 := Int.mul_ne_zero oa.cn (prt_b ok hn (rep_self ok) h')
      exact (low_bd hc (ba.b.mul bp.c) sz0 (ba.c.mul bp.b)).mono (by omega)
def shareF (d : Int) : PyData → Option PyData
  | .tuple [.int a, .int b, .int c] => some (.bool (isShare d ⟨a, b, c⟩))
  | _ => none
theorem rd_mixture_of (h : spMixture ds μ Qd) : td_mixture_of { nx := fun _ μ' => Qd (.v .none) μ', rt := Qd } (startD ["d", "kind", "shape", "shares"] ds) μ := by
  obtain ⟨d, k, s, rfl, hd, ok, bk, hk, os, bs, hs, q⟩ := h
  have s5 := sz_d hd.1 hd.2.1
  have nk := pos_norm hd ok hk
  have M := mix_ok (s := s) hd ok bk hk os bs
  unfold td_mixture_of
  walk_at "rn"
  refine ⟨d, k, rfl, hd, ok, bk.mono (by decide), hk, d, s, rfl, hd, os, bs.mono (by decide), hs, d, k, k, rfl, s5, ok, ok, bk.mono (by decide), bk.mono (by decide), ?_⟩
  walk_at "rn"
  by_cases hl : (times d k k).b = 0
  · rw [if_pos (by simpa using hl)]
    have bu := M.bu
    have bv := M.bv
    unfold mixD at q
    rw [U_lone hl] at bu q
    rw [V_lone hl] at bv q
    refine ⟨d, s, k, rfl, hd, os, ok, ne_nought hk, bs.mono (by decide), bk.mono (by decide), ?_⟩
    refine ⟨(by show 2 ≤ 1000; decide), shareF d, fun x hx μ2 h2 => ⟨⟨trivial, trivial⟩, ?_⟩, ?_⟩
    · simp only [List.mem_cons, List.not_mem_nil, or_false] at hx
      rcases hx with rfl | rfl
      · exact ⟨d, _, rfl, hd, bu.mono (by decide), rfl, rfl⟩
      · exact ⟨d, _, rfl, hd, bv.mono (by decide), rfl, rfl⟩
    · show (if List.all [isShare d (shA d k s), isShare d nought] id = true then _ else _)
      have e3 : List.all [isShare d (shA d k s), isShare d nought] id = isMix d k s := by simp [isMix, U_lone hl, V_lone hl]
      rw [e3]
      cases hm : isMix d k s with
      | true =>
        rw [hm, if_pos rfl] at q
        exact q
      | false =>
        rw [hm, if_neg (by decide)] at q
        exact ⟨d, k, s, rfl, hd, ok, bk, hk, os, bs, hs, hm, q⟩
  · rw [if_neg (by simpa using hl)]
    have h' : k.a * k.b ≠ 0 := fun z => hl ((lone_iff ok).mpr z)
    have bu := M.bu
    have bv := M.bv
    unfold mixD at q
    rw [U_two hl] at bu q
    rw [V_two hl] at bv q
    refine ⟨d, k, rfl, s5, nk, bk.mono (by decide), d, k, contrary d k, s, rfl, hd, ok, ne_nought hk, bk.mono (by decide), ok_contrary nk, (bd_contrary s5 nk bk).mono (by decide), os, bs, prt_b ok nk (rep_self ok) h', ?_⟩
    refine ⟨(by show 2 ≤ 1000; decide), shareF d, fun x hx μ2 h2 => ⟨⟨trivial, trivial⟩, ?_⟩, ?_⟩
    · simp only [List.mem_cons, List.not_mem_nil, or_false] at hx
      rcases hx with rfl | rfl
      · exact ⟨d, _, rfl, hd, bu.mono (by decide), rfl, rfl⟩
      · exact ⟨d, _, rfl, hd, bv.mono (by decide), rfl, rfl⟩
    · show (if List.all [isShare d (shU d k s), isShare d (shV d k s)] id = true then _ else _)
      have e3 : List.all [isShare d (shU d k s), isShare d (shV d k s)] id = isMix d k s := by simp [isMix, U_two hl, V_two hl]
      rw [e3]
      cases hm : isMix d k s with
      | true =>
        rw [hm, if_pos rfl] at q
        exact q
      | false =>
        rw [hm, if_neg (by decide)] at q
        exact ⟨d, k, s, rfl, hd, ok, bk, hk, os, bs, hs, hm, q⟩
end
open PySem PySem.Spec PyProof.Rows NM
def spxMix : XSp := fun ds μ Xk => ∃ (d : Int) (t u : PyData), ds = [.v (.int d), .v t, .v u] ∧ IsRoot d ∧ (BadA d t ∨ (∃ k, t = dN k ∧ Ok k ∧ Bd 8900 k ∧ sg d k.a k.b = 1 ∧ BadA d u)) ∧ Xk μ
theorem lenx_spxMix {ds : List D} {μ : Mu} {Xk : Mu → Prop} (h : spxMix ds μ Xk) : ds.length = 3 := by obtain ⟨_, _, _, rfl, _⟩ := h; rfl
def mixTail (d : Int) (k s : N3) : List PyData := if isMix d k s = true then [dN (mixU d k s), dN (mixV d k s)] else [barV d k s]
def spIsMixQ : DSp := fun ds μ Q => ∃ (d : Int) (k s : N3), ds = [.v (.int d), .v (dN k), .v (dN s), .v (.tuple (mixTail d k s))] ∧ IsRoot d ∧ Ok k ∧ Bd 60 k ∧ sg d k.a k.b = 1 ∧ Ok s ∧ Bd 230 s ∧ sg d s.a s.b = 1 ∧ Q (.v (.bool (isMix d k s))) μ
theorem len_spIsMixQ {μ : Mu} {Q : DK} {ds : List D} (h : spIsMixQ ds μ Q) : ds.length = 4 := by obtain ⟨_, _, _, rfl, _⟩ := h; rfl
theorem s_mix : SeqAt.shaped (.str "mixture") = true := by decide +kernel
theorem s_bar : SeqAt.shaped (.str "bar") = true := by decide +kernel
def tdx_mixture_of_NoNumber : DTX :=
  (xOr (xCall spxAboveQ (dCons (dVar 0) (dCons (dVar 1) dNil)))
  (xSeq (dDrop (dCall spMustAbove (dCons (dVar 0) (dCons (dVar 1) dNil))))
  (xCall spxAboveQ (dCons (dVar 0) (dCons (dVar 2) dNil)))))
def td__law_is_mixture : DTS :=
  (dSeq (dIfS (dOrT (dNotT (dB (dIsi "tuple" (dVar 3)))) (dOrT (dB (dOp (rEqD true) (dCB rLenD (dCons (dVar 3) dNil)) (dC (.int 2)))) (dNotT (dB (dCB rAllD (dCons (dComp [none] (diTup (dVar 3)) (gdName 0) dTrue (dCall spNumQ (dCons (dVar 0) dNil))) dNil)))))) (dRet (dC (.bool false))) dNext)
  (dSeq (dIfS (dNotT (dB (dCB rAllD (dCons (dComp [none] (diTup (dVar 3)) (gdName 0) dTrue (dAndV (dOp (rEqD false) (dOp rIxD (dVar 0) (dC (.int 1))) (dC (.int 0))) (dOp rGe (dOp rIxD (dVar 0) (dC (.int 0))) (dC (.int 0))))) dNil)))) (dRet (dC (.bool false))) dNext)
  (dSeq (dAsg (dLst (dCons (dCall spTimes (dCons (dVar 0) (dCons (dOp rIxD (dVar 3) (dC (.int 0))) (dCons (dVar 1) dNil)))) (dCons (dCall spTimes (dCons (dVar 0) (dCons (dOp rIxD (dVar 3) (dC (.int 1))) (dCons (dCall spContrary (dCons (dVar 0) (dCons (dVar 1) dNil))) dNil)))) dNil))) (gdName 4))
  (dRet (dOp (rEqD false) (dCall spPlus (dCons (dOp rIxD (dVar 4) (dC (.int 0))) (dCons (dOp rIxD (dVar 4) (dC (.int 1))) dNil))) (dVar 2))))))
section
variable {μ : Mu} {Qd : DK} {ds : List D}
theorem rdx_mixture_of_NoNumber {Xk : Mu → Prop} (h : spxMix ds μ Xk) : tdx_mixture_of_NoNumber (startD ["d", "kind", "shape", "shares"] ds) μ Xk := by
  obtain ⟨d, t, u, rfl, hd, h, q⟩ := h
  unfold tdx_mixture_of_NoNumber
  rw [q_xOr]
  rcases h with ⟨b1, b2, b3⟩ | ⟨k, rfl, ok, bk, hk, b1, b2, b3⟩
  · left
    rw [q_xCall]
    walk_at "rn"
    exact ⟨d, t, rfl, hd, b1, b2, b3, q⟩
  · right
    rw [q_xSeq]
    walk_at "rn"
    refine ⟨d, k, rfl, hd, ok, bk, hk, ?_⟩
    dsimp only
    rw [q_xCall]
    walk_at "rn"
    exact ⟨d, u, rfl, hd, b1, b2, b3, q⟩
def numF (x : PyData) : Option PyData := some (.bool (isNum x))
def zeroF : PyData → Option PyData
  | .tuple [.int a, .int b, .int c] => some (.bool (decide (b = 0) && decide (0 ≤ a)))
  | _ => none
theorem rd__law_is_mixture (h : spIsMixQ ds μ Qd) : td__law_is_mixture { nx := fun _ μ' => Qd (.v .none) μ', rt := Qd } (startD ["_law_d", "_law_kind", "_law_shape_here", "_law_thing", "_law_both"] ds) μ := by
  obtain ⟨d, k, s, rfl, hd, ok, bk, hk, os, bs, hs, q⟩ := h
  have s5 := sz_d hd.1 hd.2.1
  have nk := pos_norm hd ok hk
  have M := mix_ok (s := s) hd ok bk hk os bs
  have bu := M.bu.mono (m := 2000) (by decide)
  have bv := M.bv.mono (m := 2000) (by decide)
  unfold td__law_is_mixture mixTail
  cases hm : isMix d k s with
  | false =>
    rw [if_neg (by decide)]
    rw [hm] at q
    walk_at "rn"
    have e0 : isT "tuple" (.tuple [barV d k s]) = true := rfl
    rw [e0]
    simp only [Bool.not_true, Bool.false_eq_true, ↓reduceIte]
    exact q
  | true =>
    rw [if_pos rfl]
    rw [hm] at q
    have hm' := hm
    unfold isMix at hm'
    rw [Bool.and_eq_true] at hm'
    have ub := share_b hm'.1
    have vb := share_b hm'.2
    have ua := share_a hm'.1
    have va := share_a hm'.2
    walk_at "rn"
    have e0 : isT "tuple" (.tuple [dN (mixU d k s), dN (mixV d k s)]) = true := rfl
    rw [e0]
    simp only [Bool.not_true, Bool.false_eq_true, ↓reduceIte]
    refine ⟨(by show 2 ≤ 1000; decide), numF, fun x hx μ2 h2 => ⟨trivial, ?_⟩, ?_⟩
    · simp only [List.mem_cons, List.not_mem_nil, or_false] at hx
      rcases hx with rfl | rfl <;> exact ⟨_, rfl, few_N, rfl, rfl⟩
    · have e1 : List.filterMap numF [dN (mixU d k s), dN (mixV d k s)] = [.bool true, .bool true] := by
        show [PyData.bool (isNum (dN (mixU d k s))), PyData.bool (isNum (dN (mixV d k s)))] = _
        rw [isNum_ok M.ou, isNum_ok M.ov]
      rw [e1]
      show (if (!true) = true then _ else _)
      simp only [Bool.not_true, Bool.false_eq_true, ↓reduceIte]
      refine ⟨(by show 2 ≤ 1000; decide), zeroF, fun x hx μ2 h2 => ⟨trivial, ?_⟩, ?_⟩
      · simp only [List.mem_cons, List.not_mem_nil, or_false] at hx
        rcases hx with rfl | rfl
        · rw [show zeroF (dN (mixU d k s)) = some (.bool (decide ((mixU d k s).b = 0) && decide (0 ≤ (mixU d k s).a))) from rfl, ub, decide_eq_true ua]
          walk_at "rn"
          rw [ub, decide_eq_true ua]
          exact ⟨trivial, rfl⟩
        · rw [show zeroF (dN (mixV d k s)) = some (.bool (decide ((mixV d k s).b = 0) && decide (0 ≤ (mixV d k s).a))) from rfl, vb, decide_eq_true va]
          walk_at "rn"
          rw [vb, decide_eq_true va]
          exact ⟨trivial, rfl⟩
      · have e2 : List.filterMap zeroF [dN (mixU d k s), dN (mixV d k s)] = [.bool true, .bool true] := by
          show [PyData.bool (decide ((mixU d k s).b = 0) && decide (0 ≤ (mixU d k s).a)), PyData.bool (decide ((mixV d k s).b = 0) && decide (0 ≤ (mixV d k s).a))] = _
          rw [ub, vb, decide_eq_true ua, decide_eq_true va]
          rfl
        rw [e2]
        show (if (!true) = true then _ else _)
        simp only [Bool.not_true, Bool.false_eq_true, ↓reduceIte]
        have oc := ok_contrary nk
        have bc := bd_contrary s5 nk bk
        refine ⟨d, mixU d k s, k, rfl, s5, M.ou, ok, bu.mono (by decide), bk.mono (by decide), d, k, rfl, s5, nk, bk.mono (by decide), d, mixV d k s, _, rfl, s5, M.ov, oc, bv.mono (by decide), bc.mono (by decide), ?_⟩
        walk_at "rn"
        refine ⟨_, _, rfl, ok_times M.ou ok, ok_times M.ov oc, (bd_times s5 M.ou ok bu bk).mono (by decide), (bd_times s5 M.ov oc bv bc).mono (by decide), ?_⟩
        rw [mix_sum ok os nk]
        dsimp only
        rw [q_eqN]
        simp only [decide_true, Bool.false_xor]
        exact q
end
open PySem PySem.Spec PyProof.Rows NM
def td_law (P0 : PQ) (P1 : PQ) (P2 : PQ) : DTS :=
  (dSeq (dFor (diRng1 (dCons (dCB (r2ID max) (dCons (dC (.int 2)) (dCons (dCB (r2ID min) (dCons (dC (.int 6)) (dCons (dCB rLenD (dCons (dVar 0) dNil)) dNil))) dNil))) dNil)) (gdName 1) (dSeq (dAsg (dCall spBag (dCons (dVar 0) (dCons (dVar 1) dNil))) (gdName 2))
  (dSeq (dAsg (dCall spRootL (dCons (dVar 2) dNil)) (gdName 3))
  (dSeq (dAsg (dCall spKindsL (dCons (dVar 2) (dCons (dVar 3) dNil))) (gdName 4))
  (dSeq (dAsg (dTup (dCons (dOp rIxD (dVar 4) (dC (.int 0))) (dCons (dOp rIxD (dVar 4) (dNeg (dC (.int 1)))) dNil))) (gdTup 2 (gdCons (gdName 5) (gdCons (gdName 6) gdNil))))
  (dSeq (dAsg (dTup (dCons (dCall spShapeL (dCons (dVar 2) (dCons (dVar 3) (dCons (dVar 4) dNil)))) (dCons (dCall spShapeL (dCons (dVar 2) (dCons (dVar 3) (dCons (dVar 4) dNil)))) dNil))) (gdTup 2 (gdCons (gdName 7) (gdCons (gdName 8) gdNil))))
  (dSeq (dAsg (dLst (dCons (dCall spMixture (dCons (dVar 3) (dCons (dVar 5) (dCons (dVar 7) dNil)))) (dCons (dCall spMixture (dCons (dVar 3) (dCons (dVar 6) (dCons (dVar 8) dNil)))) dNil))) (gdName 9))
  (dSeq (dFor (diRng1 (dCons (dC (.int 4)) dNil)) (gdName 10) (dSeq (dAsg (dTup (dCons (dCall spBadAbove (dCons (dVar 2) (dCons (dVar 3) dNil))) (dCons (dCall spBadAbove (dCons (dVar 2) (dCons (dVar 3) dNil))) dNil))) (gdTup 2 (gdCons (gdName 11) (gdCons (gdName 12) gdNil))))
  (dSeq (dAsg (dLstQ (dCons (dKq P0) (dCons (dKq P1) (dCons (dKq P2) dNil)))) (gdName 13))
  (dIfS (dNotT (dB (dCB rAllD (dCons (dCompQ [none] (dVar 13) (gdName 0) (fun ρo G => (dOp (rEqD false) (dRefV ρo G 1 0 [⟨P0, [some 3, some 11, some 7], (xCall spxMix (dCons (dVar 0) (dCons (dVar 1) (dCons (dVar 2) dNil)))), .str "NoNumber"⟩, ⟨P1, [some 3, some 5, some 12], (xCall spxMix (dCons (dVar 0) (dCons (dVar 1) (dCons (dVar 2) dNil)))), .str "NoNumber"⟩, ⟨P2, [some 3, some 11, some 12], (xCall spxMix (dCons (dVar 0) (dCons (dVar 1) (dCons (dVar 2) dNil)))), .str "NoNumber"⟩]) (dC (.str "NoNumber"))))) dNil)))) (dRet (dC (.bool false))) dNext))))
  (dSeq (dIfS (dB (dOp (rEqD true) (dVar 9) (dLst (dCons (dCall spMixture (dCons (dVar 3) (dCons (dVar 5) (dCons (dVar 7) dNil)))) (dCons (dCall spMixture (dCons (dVar 3) (dCons (dVar 6) (dCons (dVar 8) dNil)))) dNil))))) (dRet (dC (.bool false))) dNext)
  (dIfS (dB (dOp (rEqD false) (dCall spIsMixQ (dCons (dVar 3) (dCons (dVar 5) (dCons (dVar 7) (dCons (dSl (dOp rIxD (dVar 9) (dC (.int 0))) (dPart (dC (.int 1))) dNoPart) dNil))))) (dOp (rEqD false) (dOp rIxD (dOp rIxD (dVar 9) (dC (.int 0))) (dC (.int 0))) (dC (.str "bar"))))) (dRet (dC (.bool false))) dNext))))))))))
  (dRet (dC (.bool true))))
section
variable {μ : Mu} {Qd : DK} {ds : List D}
theorem s_num : SeqAt.shaped (.str "NoNumber") = true := by decide +kernel
theorem two_shaped {d : Int} {k s k' s' : N3} : SeqAt.shaped (.list [mixD d k s, mixD d k' s']) = true := by
  unfold mixD barV
  split <;> (try split) <;> (try split) <;> (try split) <;> with_unfolding_all rfl
theorem mixD_sl {d : Int} {k s : N3} {Q : DK} : rSlD (.v (mixD d k s)) (some 1) none μ Q = Q (.v (.tuple (mixTail d k s))) μ := by
  unfold mixD mixTail
  cases isMix d k s <;> rfl
theorem mixD_w {d : Int} {k s : N3} {Q : DK} : (rIxD (.v (mixD d k s)) (.v (.int 0)) μ fun x μ1 => rEqD false x (.v (.str "bar")) μ1 Q) = Q (.v (.bool (!isMix d k s))) μ := by
  unfold mixD
  cases isMix d k s
  · show rEqD false (.v (.str "bar")) (.v (.str "bar")) μ Q = _
    rw [q_eqD]
    exact propext ⟨fun h => h.2.2, fun h => ⟨s_bar, s_bar, h⟩⟩
  · show rEqD false (.v (.str "mixture")) (.v (.str "bar")) μ Q = _
    rw [q_eqD]
    exact propext ⟨fun h => h.2.2, fun h => ⟨s_mix, s_bar, h⟩⟩
theorem atI_last {ks : List N3} (h1 : 1 ≤ ks.length) (h3 : ks.length ≤ 3) : ∃ k ∈ ks, atI (ks.map dN) (-1) = some (dN k) := by
  match ks, h1, h3 with
  | [a], _, _ => exact ⟨a, by simp, rfl⟩
  | [a, b], _, _ => exact ⟨b, by simp, rfl⟩
  | [a, b, c], _, _ => exact ⟨c, by simp, rfl⟩
theorem kinds_head {ks : List N3} (h : 1 ≤ ks.length) : ∃ k ∈ ks, atI (ks.map dN) 0 = some (dN k) := by
  cases ks with
  | nil => exact absurd h (by decide)
  | cons a r => exact ⟨a, List.mem_cons_self, atI_0⟩
theorem rd_law (P0 P1 P2 : PQ) (h : spLaw ds μ Qd) : td_law P0 P1 P2 { nx := fun _ μ' => Qd (.v .none) μ', rt := Qd } (startD ["_law_script", "_law_k", "_law_bag_here", "_law_d", "_law_kinds_here", "_law_kind", "_law_other", "_law_shape_here", "_law_more", "_law_ahead", "_law_turn", "_law_bad", "_law_wrong", "_law_deeds"] ds) μ := by
  obtain ⟨ns, rfl, h63, q⟩ := h
  unfold td_law
  rw [q_seq, q_for]
  walk_at "rn"
  have hm : (-(2 ^ 62) ≤ max 2 (min 6 ((ns.length : Nat) : Int)) ∧ max 2 (min 6 ((ns.length : Nat) : Int)) < 2 ^ 62) := by omega
  refine ⟨hm, fun i ρ μ' => ∃ r1 r2 r3 r4 r5 r6 r7 r8 r9 r10 r11 r12 r13, ρ = [some (.s ns), r1, r2, r3, r4, r5, r6, r7, r8, r9, r10, r11, r12, r13], ⟨_, _, _, _, _, _, _, _, _, _, _, _, _, rfl⟩, ?_, ?_⟩
  · rintro i x ρ μ0 hx ⟨r1, r2, r3, r4, r5, r6, r7, r8, r9, r10, r11, r12, r13, rfl⟩
    obtain ⟨rfl, hi⟩ := rngAt hx
    walk_at "rn"
    refine ⟨ns, _, rfl, by omega, by omega, fun a μ1 ha s1 => ?_⟩
    walk_at "rn"
    refine ⟨a, rfl, s1.1, fun d μ2 hd s2 => ?_⟩
    walk_at "rn"
    refine ⟨a, d, rfl, hd, s2.1, fun ks μ3 ho s3 => ?_⟩
    walk_at "rn"
    obtain ⟨k, hk, e1⟩ := kinds_head ho.l1
    obtain ⟨o, ho', e2⟩ := atI_last ho.l1 ho.l3
    rw [e1]
    dsimp only
    rw [e2]
    obtain ⟨ok, bk, sk⟩ := ho.ok k hk
    obtain ⟨oo, bo, so⟩ := ho.ok o ho'
    walk_at "rn"
    refine ⟨trivial, a, d, ks, rfl, hd, ho, s3.1, fun s μ4 os bs hs s4 => ?_⟩
    refine ⟨a, d, ks, rfl, hd, ho, s4.1, fun t μ5 ot bt ht s5 => ?_⟩
    walk_at "rn"
    refine ⟨trivial, d, k, s, rfl, hd, ok, bk.mono (by decide), sk, os, bs.mono (by decide), hs, d, o, t, rfl, hd, oo, bo.mono (by decide), so, ot, bt.mono (by decide), ht, ?_⟩
    walk_at "rn"
    rw [q_for]
    walk_at "rn"
    refine ⟨by decide, fun i' ρ μ' => ∃ r1 r10 r11 r12 r13, ρ = [some (.s ns), r1, some (.m a), some (.v (.int d)), some (.v (.tuple (ks.map dN))), some (.v (dN k)), some (.v (dN o)), some (.v (dN s)), some (.v (dN t)), some (.v (.list [mixD d k s, mixD d o t])), r10, r11, r12, r13] ∧ Bag μ' a, ⟨_, _, _, _, _, rfl, s5.1⟩, ?_, ?_⟩
    · rintro j u ρ μ6 hu ⟨r1, r10, r11, r12, r13, rfl, hb⟩
      obtain ⟨rfl, hj⟩ := rngAt hu
      walk_at "rn"
      refine ⟨a, d, rfl, hd, hb, fun t1 μ7 f1 b1 g1 s7 => ?_⟩
      refine ⟨a, d, rfl, hd, s7.1, fun t2 μ8 f2 b2 g2 s8 => ?_⟩
      walk_at "rn"
      refine ⟨trivial, ?_⟩
      simp only [↓q_lstQ, ↓q_cons, ↓q_nil, ↓q_kq]
      have gk : Bd 8900 k := bk.mono (by decide)
      refine comp_refs rfl (by show 3 ≤ 1000; decide) (fun e he => ?_) s_num (fun e he μ' sub Xk hx => ?_) ?_
      · simp only [List.mem_cons, List.not_mem_nil, or_false] at he
        rcases he with rfl | rfl | rfl <;> rfl
      · simp only [List.mem_cons, List.not_mem_nil, or_false] at he
        rcases he with rfl | rfl | rfl
        · exact (show spxMix [.v (.int d), .v t1, .v (dN s)] μ' Xk from ⟨d, t1, dN s, rfl, hd, .inl ⟨f1, b1, g1⟩, hx⟩)
        · exact (show spxMix [.v (.int d), .v (dN k), .v t2] μ' Xk from ⟨d, dN k, t2, rfl, hd, .inr ⟨k, rfl, ok, gk, sk, f2, b2, g2⟩, hx⟩)
        · exact (show spxMix [.v (.int d), .v t1, .v t2] μ' Xk from ⟨d, t1, t2, rfl, hd, .inl ⟨f1, b1, g1⟩, hx⟩)
      · rw [q_all]
        exact ⟨_, _, _, _, _, rfl, s8.1⟩
    · rintro ρ μ6 ⟨r1, r10, r11, r12, r13, rfl, hb⟩
      walk_at "rn"
      refine ⟨d, k, s, rfl, hd, ok, bk.mono (by decide), sk, os, bs.mono (by decide), hs, d, o, t, rfl, hd, oo, bo.mono (by decide), so, ot, bt.mono (by decide), ht, ?_⟩
      refine ⟨two_shaped, two_shaped, ?_⟩
      rw [eqv_same two_shaped]
      simp only [Bool.xor_true, Bool.not_true, Bool.false_eq_true, ↓reduceIte]
      rw [mixD_sl]
      refine ⟨d, k, s, rfl, hd, ok, bk, sk, os, bs, hs, ?_⟩
      dsimp only
      rw [mixD_w]
      walk_at "rn"
      have e3 : (isMix d k s == !isMix d k s) = false := by cases isMix d k s <;> rfl
      rw [e3]
      simp only [Bool.false_eq_true, ↓reduceIte]
      exact ⟨_, _, _, _, _, _, _, _, _, _, _, _, _, rfl⟩
  · rintro ρ μ0 ⟨r1, r2, r3, r4, r5, r6, r7, r8, r9, r10, r11, r12, r13, rfl⟩
    exact q _
end
end L2.DL
set_option Elab.async false
set_option linter.all false
set_option maxRecDepth 100000
set_option maxHeartbeats 4000000
namespace K38
open PySem L2 L2.DL
structure Adr where
  a_is_whole : Addr
  d_is_whole : FuncData
  a_common_divisor : Addr
  d_common_divisor : FuncData
  a_is_number : Addr
  d_is_number : FuncData
  a_divisor_of_all : Addr
  d_divisor_of_all : FuncData
  a_number : Addr
  d_number : FuncData
  a_mate : Addr
  d_mate : FuncData
  a_plus : Addr
  d_plus : FuncData
  a_less : Addr
  d_less : FuncData
  a_times : Addr
  d_times : FuncData
  a_over : Addr
  d_over : FuncData
  a_contrary : Addr
  d_contrary : FuncData
  a_sign_of : Addr
  d_sign_of : FuncData
  a_sign_of_parts : Addr
  d_sign_of_parts : FuncData
  a_is_above_nought : Addr
  d_is_above_nought : FuncData
  a_must_be_above_nought : Addr
  d_must_be_above_nought : FuncData
  a_mixture_of : Addr
  d_mixture_of : FuncData
  a_shares_of : Addr
  d_shares_of : FuncData
  a_is_share : Addr
  d_is_share : FuncData
  a_bar_for : Addr
  d_bar_for : FuncData
  a_skew : Addr
  d_skew : FuncData
  a__law_bag : Addr
  d__law_bag : FuncData
  a__law_take : Addr
  d__law_take : FuncData
  a__law_is_whole : Addr
  d__law_is_whole : FuncData
  a__law_shared : Addr
  d__law_shared : FuncData
  a__law_low : Addr
  d__law_low : FuncData
  a__law_is_number : Addr
  d__law_is_number : FuncData
  a__law_plus : Addr
  d__law_plus : FuncData
  a__law_minus : Addr
  d__law_minus : FuncData
  a__law_times : Addr
  d__law_times : FuncData
  a__law_contrary : Addr
  d__law_contrary : FuncData
  a__law_sign : Addr
  d__law_sign : FuncData
  a__law_root : Addr
  d__law_root : FuncData
  a__law_number : Addr
  d__law_number : FuncData
  a__law_above : Addr
  d__law_above : FuncData
  a__law_odd : Addr
  d__law_odd : FuncData
  a__law_refusal : Addr
  d__law_refusal : FuncData
  a__law_kinds : Addr
  d__law_kinds : FuncData
  a__law_bad_above : Addr
  d__law_bad_above : FuncData
  a__law_shape : Addr
  d__law_shape : FuncData
  a__law_fraction : Addr
  d__law_fraction : FuncData
  a__law_is_mixture : Addr
  d__law_is_mixture : FuncData
  a_law : Addr
  d_law : FuncData
  ad_NOUGHT : Addr
  ad_ONE : Addr
  cx_FloorError : Addr
  cx_NoRoot : Addr
  cx_NoNumber : Addr
  cx_NoLaying : Addr
  cx_NoTile : Addr
  cx_NoFit : Addr
  cx_NoKinds : Addr
  cx_NoPlan : Addr
  cx_NoSpot : Addr
  cx_NoNet : Addr
  cx_NoText : Addr
  cx_NoSaying : Addr
  cx_NoName : Addr
  cx_TooMany : Addr
  cd_law : Addr
  P_law : Addr
structure Txt (K : PySem.W.Frag) (mg : Str → Option Value) (t : Adr) : Prop where
  f_is_whole : Fun K "is_whole" "is_whole" s_is_whole t.a_is_whole t.d_is_whole
  m_is_whole : mg "is_whole" = some (.ref t.a_is_whole)
  k_is_whole : PySem.W.keepIn K (.ref t.a_is_whole) = true
  b_is_whole : Binds K t.d_is_whole ["thing"] []
  f_common_divisor : Fun K "common_divisor" "common_divisor" s_common_divisor t.a_common_divisor t.d_common_divisor
  m_common_divisor : mg "common_divisor" = some (.ref t.a_common_divisor)
  k_common_divisor : PySem.W.keepIn K (.ref t.a_common_divisor) = true
  b_common_divisor : Binds K t.d_common_divisor ["a", "b"] []
  f_is_number : Fun K "is_number" "is_number" s_is_number t.a_is_number t.d_is_number
  m_is_number : mg "is_number" = some (.ref t.a_is_number)
  k_is_number : PySem.W.keepIn K (.ref t.a_is_number) = true
  b_is_number : Binds K t.d_is_number ["thing"] []
  f_divisor_of_all : Fun K "divisor_of_all" "divisor_of_all" s_divisor_of_all t.a_divisor_of_all t.d_divisor_of_all
  m_divisor_of_all : mg "divisor_of_all" = some (.ref t.a_divisor_of_all)
  k_divisor_of_all : PySem.W.keepIn K (.ref t.a_divisor_of_all) = true
  b_divisor_of_all : Binds K t.d_divisor_of_all ["a", "b", "c"] []
  f_number : Fun K "number" "number" s_number t.a_number t.d_number
  m_number : mg "number" = some (.ref t.a_number)
  k_number : PySem.W.keepIn K (.ref t.a_number) = true
  b_number : Binds K t.d_number ["a", "b", "c"] []
  f_mate : Fun K "mate" "mate" s_mate t.a_mate t.d_mate
  m_mate : mg "mate" = some (.ref t.a_mate)
  k_mate : PySem.W.keepIn K (.ref t.a_mate) = true
  b_mate : Binds K t.d_mate ["x"] []
  f_plus : Fun K "plus" "plus" s_plus t.a_plus t.d_plus
  m_plus : mg "plus" = some (.ref t.a_plus)
  k_plus : PySem.W.keepIn K (.ref t.a_plus) = true
  b_plus : Binds K t.d_plus ["x", "y"] []
  f_less : Fun K "less" "less" s_less t.a_less t.d_less
  m_less : mg "less" = some (.ref t.a_less)
  k_less : PySem.W.keepIn K (.ref t.a_less) = true
  b_less : Binds K t.d_less ["x", "y"] []
  f_times : Fun K "times" "times" s_times t.a_times t.d_times
  m_times : mg "times" = some (.ref t.a_times)
  k_times : PySem.W.keepIn K (.ref t.a_times) = true
  b_times : Binds K t.d_times ["d", "x", "y"] []
  f_over : Fun K "over" "over" s_over t.a_over t.d_over
  m_over : mg "over" = some (.ref t.a_over)
  k_over : PySem.W.keepIn K (.ref t.a_over) = true
  b_over : Binds K t.d_over ["d", "x", "y"] []
  f_contrary : Fun K "contrary" "contrary" s_contrary t.a_contrary t.d_contrary
  m_contrary : mg "contrary" = some (.ref t.a_contrary)
  k_contrary : PySem.W.keepIn K (.ref t.a_contrary) = true
  b_contrary : Binds K t.d_contrary ["d", "x"] []
  f_sign_of : Fun K "sign_of" "sign_of" s_sign_of t.a_sign_of t.d_sign_of
  m_sign_of : mg "sign_of" = some (.ref t.a_sign_of)
  k_sign_of : PySem.W.keepIn K (.ref t.a_sign_of) = true
  b_sign_of : Binds K t.d_sign_of ["d", "x"] []
  f_sign_of_parts : Fun K "sign_of_parts" "sign_of_parts" s_sign_of_parts t.a_sign_of_parts t.d_sign_of_parts
  m_sign_of_parts : mg "sign_of_parts" = some (.ref t.a_sign_of_parts)
  k_sign_of_parts : PySem.W.keepIn K (.ref t.a_sign_of_parts) = true
  b_sign_of_parts : Binds K t.d_sign_of_parts ["d", "a", "b"] []
  f_is_above_nought : Fun K "is_above_nought" "is_above_nought" s_is_above_nought t.a_is_above_nought t.d_is_above_nought
  m_is_above_nought : mg "is_above_nought" = some (.ref t.a_is_above_nought)
  k_is_above_nought : PySem.W.keepIn K (.ref t.a_is_above_nought) = true
  b_is_above_nought : Binds K t.d_is_above_nought ["d", "thing"] []
  f_must_be_above_nought : Fun K "must_be_above_nought" "must_be_above_nought" s_must_be_above_nought t.a_must_be_above_nought t.d_must_be_above_nought
  m_must_be_above_nought : mg "must_be_above_nought" = some (.ref t.a_must_be_above_nought)
  k_must_be_above_nought : PySem.W.keepIn K (.ref t.a_must_be_above_nought) = true
  b_must_be_above_nought : Binds K t.d_must_be_above_nought ["d", "thing"] []
  f_mixture_of : Fun K "mixture_of" "mixture_of" s_mixture_of t.a_mixture_of t.d_mixture_of
  m_mixture_of : mg "mixture_of" = some (.ref t.a_mixture_of)
  k_mixture_of : PySem.W.keepIn K (.ref t.a_mixture_of) = true
  b_mixture_of : Binds K t.d_mixture_of ["d", "kind", "shape"] []
  f_shares_of : Fun K "shares_of" "shares_of" s_shares_of t.a_shares_of t.d_shares_of
  m_shares_of : mg "shares_of" = some (.ref t.a_shares_of)
  k_shares_of : PySem.W.keepIn K (.ref t.a_shares_of) = true
  b_shares_of : Binds K t.d_shares_of ["d", "first", "second", "shape"] []
  f_is_share : Fun K "is_share" "is_share" s_is_share t.a_is_share t.d_is_share
  m_is_share : mg "is_share" = some (.ref t.a_is_share)
  k_is_share : PySem.W.keepIn K (.ref t.a_is_share) = true
  b_is_share : Binds K t.d_is_share ["d", "x"] []
  f_bar_for : Fun K "bar_for" "bar_for" s_bar_for t.a_bar_for t.d_bar_for
  m_bar_for : mg "bar_for" = some (.ref t.a_bar_for)
  k_bar_for : PySem.W.keepIn K (.ref t.a_bar_for) = true
  b_bar_for : Binds K t.d_bar_for ["d", "kind", "shape"] []
  f_skew : Fun K "skew" "skew" s_skew t.a_skew t.d_skew
  m_skew : mg "skew" = some (.ref t.a_skew)
  k_skew : PySem.W.keepIn K (.ref t.a_skew) = true
  b_skew : Binds K t.d_skew ["shape", "way"] []
  f__law_bag : Fun K "_law_bag" "_law_bag" s__law_bag t.a__law_bag t.d__law_bag
  m__law_bag : mg "_law_bag" = some (.ref t.a__law_bag)
  k__law_bag : PySem.W.keepIn K (.ref t.a__law_bag) = true
  b__law_bag : Binds K t.d__law_bag ["_law_script", "_law_at"] []
  f__law_take : Fun K "_law_take" "_law_take" s__law_take t.a__law_take t.d__law_take
  m__law_take : mg "_law_take" = some (.ref t.a__law_take)
  k__law_take : PySem.W.keepIn K (.ref t.a__law_take) = true
  b__law_take : Binds K t.d__law_take ["_law_bag_here", "_law_many"] []
  f__law_is_whole : Fun K "_law_is_whole" "_law_is_whole" s__law_is_whole t.a__law_is_whole t.d__law_is_whole
  m__law_is_whole : mg "_law_is_whole" = some (.ref t.a__law_is_whole)
  k__law_is_whole : PySem.W.keepIn K (.ref t.a__law_is_whole) = true
  b__law_is_whole : Binds K t.d__law_is_whole ["_law_thing"] []
  f__law_shared : Fun K "_law_shared" "_law_shared" s__law_shared t.a__law_shared t.d__law_shared
  m__law_shared : mg "_law_shared" = some (.ref t.a__law_shared)
  k__law_shared : PySem.W.keepIn K (.ref t.a__law_shared) = true
  b__law_shared : Binds K t.d__law_shared ["_law_one", "_law_other"] []
  f__law_low : Fun K "_law_low" "_law_low" s__law_low t.a__law_low t.d__law_low
  m__law_low : mg "_law_low" = some (.ref t.a__law_low)
  k__law_low : PySem.W.keepIn K (.ref t.a__law_low) = true
  b__law_low : Binds K t.d__law_low ["_law_a", "_law_b", "_law_c"] []
  f__law_is_number : Fun K "_law_is_number" "_law_is_number" s__law_is_number t.a__law_is_number t.d__law_is_number
  m__law_is_number : mg "_law_is_number" = some (.ref t.a__law_is_number)
  k__law_is_number : PySem.W.keepIn K (.ref t.a__law_is_number) = true
  b__law_is_number : Binds K t.d__law_is_number ["_law_thing"] []
  f__law_plus : Fun K "_law_plus" "_law_plus" s__law_plus t.a__law_plus t.d__law_plus
  m__law_plus : mg "_law_plus" = some (.ref t.a__law_plus)
  k__law_plus : PySem.W.keepIn K (.ref t.a__law_plus) = true
  b__law_plus : Binds K t.d__law_plus ["_law_x", "_law_y"] []
  f__law_minus : Fun K "_law_minus" "_law_minus" s__law_minus t.a__law_minus t.d__law_minus
  m__law_minus : mg "_law_minus" = some (.ref t.a__law_minus)
  k__law_minus : PySem.W.keepIn K (.ref t.a__law_minus) = true
  b__law_minus : Binds K t.d__law_minus ["_law_x"] []
  f__law_times : Fun K "_law_times" "_law_times" s__law_times t.a__law_times t.d__law_times
  m__law_times : mg "_law_times" = some (.ref t.a__law_times)
  k__law_times : PySem.W.keepIn K (.ref t.a__law_times) = true
  b__law_times : Binds K t.d__law_times ["_law_d", "_law_x", "_law_y"] []
  f__law_contrary : Fun K "_law_contrary" "_law_contrary" s__law_contrary t.a__law_contrary t.d__law_contrary
  m__law_contrary : mg "_law_contrary" = some (.ref t.a__law_contrary)
  k__law_contrary : PySem.W.keepIn K (.ref t.a__law_contrary) = true
  b__law_contrary : Binds K t.d__law_contrary ["_law_d", "_law_x"] []
  f__law_sign : Fun K "_law_sign" "_law_sign" s__law_sign t.a__law_sign t.d__law_sign
  m__law_sign : mg "_law_sign" = some (.ref t.a__law_sign)
  k__law_sign : PySem.W.keepIn K (.ref t.a__law_sign) = true
  b__law_sign : Binds K t.d__law_sign ["_law_d", "_law_x"] []
  f__law_root : Fun K "_law_root" "_law_root" s__law_root t.a__law_root t.d__law_root
  m__law_root : mg "_law_root" = some (.ref t.a__law_root)
  k__law_root : PySem.W.keepIn K (.ref t.a__law_root) = true
  b__law_root : Binds K t.d__law_root ["_law_bag_here"] []
  f__law_number : Fun K "_law_number" "_law_number" s__law_number t.a__law_number t.d__law_number
  m__law_number : mg "_law_number" = some (.ref t.a__law_number)
  k__law_number : PySem.W.keepIn K (.ref t.a__law_number) = true
  b__law_number : Binds K t.d__law_number ["_law_bag_here"] []
  f__law_above : Fun K "_law_above" "_law_above" s__law_above t.a__law_above t.d__law_above
  m__law_above : mg "_law_above" = some (.ref t.a__law_above)
  k__law_above : PySem.W.keepIn K (.ref t.a__law_above) = true
  b__law_above : Binds K t.d__law_above ["_law_bag_here", "_law_d"] []
  f__law_odd : Fun K "_law_odd" "_law_odd" s__law_odd t.a__law_odd t.d__law_odd
  m__law_odd : mg "_law_odd" = some (.ref t.a__law_odd)
  k__law_odd : PySem.W.keepIn K (.ref t.a__law_odd) = true
  b__law_odd : Binds K t.d__law_odd ["_law_bag_here"] []
  f__law_refusal : Fun K "_law_refusal" "_law_refusal" s__law_refusal t.a__law_refusal t.d__law_refusal
  m__law_refusal : mg "_law_refusal" = some (.ref t.a__law_refusal)
  k__law_refusal : PySem.W.keepIn K (.ref t.a__law_refusal) = true
  b__law_refusal : Binds K t.d__law_refusal ["_law_deed"] []
  f__law_kinds : Fun K "_law_kinds" "_law_kinds" s__law_kinds t.a__law_kinds t.d__law_kinds
  m__law_kinds : mg "_law_kinds" = some (.ref t.a__law_kinds)
  k__law_kinds : PySem.W.keepIn K (.ref t.a__law_kinds) = true
  b__law_kinds : Binds K t.d__law_kinds ["_law_bag_here", "_law_d"] []
  f__law_bad_above : Fun K "_law_bad_above" "_law_bad_above" s__law_bad_above t.a__law_bad_above t.d__law_bad_above
  m__law_bad_above : mg "_law_bad_above" = some (.ref t.a__law_bad_above)
  k__law_bad_above : PySem.W.keepIn K (.ref t.a__law_bad_above) = true
  b__law_bad_above : Binds K t.d__law_bad_above ["_law_bag_here", "_law_d"] []
  f__law_shape : Fun K "_law_shape" "_law_shape" s__law_shape t.a__law_shape t.d__law_shape
  m__law_shape : mg "_law_shape" = some (.ref t.a__law_shape)
  k__law_shape : PySem.W.keepIn K (.ref t.a__law_shape) = true
  b__law_shape : Binds K t.d__law_shape ["_law_bag_here", "_law_d", "_law_kinds_here"] []
  f__law_fraction : Fun K "_law_fraction" "_law_fraction" s__law_fraction t.a__law_fraction t.d__law_fraction
  m__law_fraction : mg "_law_fraction" = some (.ref t.a__law_fraction)
  k__law_fraction : PySem.W.keepIn K (.ref t.a__law_fraction) = true
  b__law_fraction : Binds K t.d__law_fraction ["_law_bag_here"] []
  f__law_is_mixture : Fun K "_law_is_mixture" "_law_is_mixture" s__law_is_mixture t.a__law_is_mixture t.d__law_is_mixture
  m__law_is_mixture : mg "_law_is_mixture" = some (.ref t.a__law_is_mixture)
  k__law_is_mixture : PySem.W.keepIn K (.ref t.a__law_is_mixture) = true
  b__law_is_mixture : Binds K t.d__law_is_mixture ["_law_d", "_law_kind", "_law_shape_here", "_law_thing"] []
  f_law : Fun K "law" "law" s_law t.a_law t.d_law
  m_law : mg "law" = some (.ref t.a_law)
  k_law : PySem.W.keepIn K (.ref t.a_law) = true
  b_law : Binds K t.d_law ["_law_script"] []
  n_isinstance : mg "isinstance" = none
  n_int : mg "int" = none
  n_bool : mg "bool" = none
  n_abs : mg "abs" = none
  n_tuple : mg "tuple" = none
  n_len : mg "len" = none
  n_all : mg "all" = none
  n_range : mg "range" = none
  n_ValueError : mg "ValueError" = none
  n_list : mg "list" = none
  n_max : mg "max" = none
  n_min : mg "min" = none
  c_NOUGHT : TupC K mg "NOUGHT" t.ad_NOUGHT 0 0 1
  c_ONE : TupC K mg "ONE" t.ad_ONE 1 0 1
  m_FloorError : mg "FloorError" = some (.ref t.cx_FloorError)
  m_NoRoot : mg "NoRoot" = some (.ref t.cx_NoRoot)
  m_NoNumber : mg "NoNumber" = some (.ref t.cx_NoNumber)
  m_NoLaying : mg "NoLaying" = some (.ref t.cx_NoLaying)
  m_NoTile : mg "NoTile" = some (.ref t.cx_NoTile)
  m_NoFit : mg "NoFit" = some (.ref t.cx_NoFit)
  m_NoKinds : mg "NoKinds" = some (.ref t.cx_NoKinds)
  m_NoPlan : mg "NoPlan" = some (.ref t.cx_NoPlan)
  m_NoSpot : mg "NoSpot" = some (.ref t.cx_NoSpot)
  m_NoNet : mg "NoNet" = some (.ref t.cx_NoNet)
  m_NoText : mg "NoText" = some (.ref t.cx_NoText)
  m_NoSaying : mg "NoSaying" = some (.ref t.cx_NoSaying)
  m_NoName : mg "NoName" = some (.ref t.cx_NoName)
  m_TooMany : mg "TooMany" = some (.ref t.cx_TooMany)
  x_NoNumber : PySem.W.excIn K (t.cx_NoNumber) bmV "ValueError.__new__" = true
  e_NoNumber : PySem.W.exmOne K (.ref t.cx_NoNumber) (.ref t.cx_FloorError) = some true
  i_NoNumber_NoRoot : PySem.W.kitOne K (.ref t.cx_NoNumber) (.ref t.cx_NoRoot) = some false
  i_NoNumber_NoNumber : PySem.W.kitOne K (.ref t.cx_NoNumber) (.ref t.cx_NoNumber) = some true
  i_NoNumber_NoLaying : PySem.W.kitOne K (.ref t.cx_NoNumber) (.ref t.cx_NoLaying) = some false
  i_NoNumber_NoTile : PySem.W.kitOne K (.ref t.cx_NoNumber) (.ref t.cx_NoTile) = some false
  i_NoNumber_NoFit : PySem.W.kitOne K (.ref t.cx_NoNumber) (.ref t.cx_NoFit) = some false
  i_NoNumber_NoKinds : PySem.W.kitOne K (.ref t.cx_NoNumber) (.ref t.cx_NoKinds) = some false
  i_NoNumber_NoPlan : PySem.W.kitOne K (.ref t.cx_NoNumber) (.ref t.cx_NoPlan) = some false
  i_NoNumber_NoSpot : PySem.W.kitOne K (.ref t.cx_NoNumber) (.ref t.cx_NoSpot) = some false
  i_NoNumber_NoNet : PySem.W.kitOne K (.ref t.cx_NoNumber) (.ref t.cx_NoNet) = some false
  i_NoNumber_NoText : PySem.W.kitOne K (.ref t.cx_NoNumber) (.ref t.cx_NoText) = some false
  i_NoNumber_NoSaying : PySem.W.kitOne K (.ref t.cx_NoNumber) (.ref t.cx_NoSaying) = some false
  i_NoNumber_NoName : PySem.W.kitOne K (.ref t.cx_NoNumber) (.ref t.cx_NoName) = some false
  i_NoNumber_TooMany : PySem.W.kitOne K (.ref t.cx_NoNumber) (.ref t.cx_TooMany) = some false
  i_NoNumber_V : PySem.W.kitOne K (.ref t.cx_NoNumber) (.type "ValueError") = some true
  z_NoNumber : ExcQ K t.cx_NoNumber
  l_law : LamD K mg t.cd_law t.P_law "law"
  dc_law : t.d_law.code = .ref t.cd_law
section
variable {P : Program} {w : World} {K : PySem.W.Frag} {mg : Str → Option Value} {base : Heap} {t : Adr}
theorem sc_is_whole : FnScope ["thing"] ["thing"] (defScope s_is_whole) := ⟨rfl, rfl, rfl, by decide +kernel, rfl, by decide +kernel, by decide +kernel⟩
theorem ok_is_whole (T : Txt K mg t)  : FnOk P w K mg base CX0 1 t.a_is_whole t.d_is_whole ["thing"] (spD K spWhole) := by
  have S := sc_is_whole
  exact T.f_is_whole.okD S (fun ds μ Q h => len_spWhole h) (fun cdv A outer s H E hr => ⟨td_is_whole, (dss_one (ds_ret (de_and (de_isi (kit_int _) rfl T.n_isinstance rfl T.n_int PyProof.Rows.Boot.«int» (dv 0)) (de_one (de_not (de_isi (kit_bool _) rfl T.n_isinstance rfl T.n_bool PyProof.Rows.Boot.«bool» (dv 0))))))), fun ds μ Qd h => rd_is_whole h⟩)
theorem sc_common_divisor : FnScope ["a", "b"] ["a", "b"] (defScope s_common_divisor) := ⟨rfl, rfl, rfl, by decide +kernel, rfl, by decide +kernel, by decide +kernel⟩
theorem ok_common_divisor (T : Txt K mg t)  : FnOk P w K mg base CX0 1 t.a_common_divisor t.d_common_divisor ["a", "b"] (spD K spGcd) := by
  have S := sc_common_divisor
  exact T.f_common_divisor.okD S (fun ds μ Q h => len_spGcd h) (fun cdv A outer s H E hr => ⟨td_common_divisor, (dss_cons (ds_while PassesOwn.never (dt_cmp (op_neD hr.units) lo_eqD (dv 1) de_int (nomark _)) (dss_one (ds_par (i := 0) (j := 1) rfl S.nd rfl rfl (by decide) rfl rfl (da_cons (dv 1) (da_cons (de_mod (dv 0) (dv 1)) da_nil)) rfl)))
    (dss_one (ds_ret (de_abs rfl T.n_abs (da_cons (dv 0) da_nil))))), fun ds μ Qd h => rd_common_divisor h⟩)
theorem sc_mate : FnScope ["x"] ["x"] (defScope s_mate) := ⟨rfl, rfl, rfl, by decide +kernel, rfl, by decide +kernel, by decide +kernel⟩
theorem ok_mate (T : Txt K mg t)  : FnOk P w K mg base CX0 1 t.a_mate t.d_mate ["x"] (spD K spMate) := by
  have S := sc_mate
  exact T.f_mate.okD S (fun ds μ Q h => len_spMate h) (fun cdv A outer s H E hr => ⟨td_mate, (dss_one (ds_ret (de_tup (da_cons (de_ix (dv 0) de_int (fun _ _ => rfl)) (da_cons (de_neg (de_ix (dv 0) de_int (fun _ _ => rfl))) (da_cons (de_ix (dv 0) de_int (fun _ _ => rfl)) da_nil)))))), fun ds μ Qd h => rd_mate h⟩)
theorem sc_sign_of_parts : FnScope ["d", "a", "b", "prevailing"] ["d", "a", "b"] (defScope s_sign_of_parts) := ⟨rfl, rfl, rfl, by decide +kernel, rfl, by decide +kernel, by decide +kernel⟩
theorem ok_sign_of_parts (T : Txt K mg t)  : FnOk P w K mg base CX0 1 t.a_sign_of_parts t.d_sign_of_parts ["d", "a", "b"] (spD K spSignP) := by
  have S := sc_sign_of_parts
  exact T.f_sign_of_parts.okD S (fun ds μ Q h => len_spSignP h) (fun cdv A outer s H E hr => ⟨td_sign_of_parts, (dss_cons (ds_if (DW.dt (dw_and (dt_cmp (op_eqD hr.units) lo_eqD (dv 1) de_int (nomark _)) (dw_and1 (dt_cmp (op_eqD hr.units) lo_eqD (dv 2) de_int (nomark _))))) (dss_one (ds_ret de_int)) dss_nil)
    (dss_cons (ds_if (DW.dt (dw_and (dt_cmp op_ge lo_B (dv 1) de_int (nomark _)) (dw_and1 (dt_cmp op_ge lo_B (dv 2) de_int (nomark _))))) (dss_one (ds_ret de_int)) dss_nil)
    (dss_cons (ds_if (DW.dt (dw_and (dt_cmp op_le lo_B (dv 1) de_int (nomark _)) (dw_and1 (dt_cmp op_le lo_B (dv 2) de_int (nomark _))))) (dss_one (ds_ret (de_neg de_int))) dss_nil)
    (dss_cons (ds_set (i := 3) S.nd rfl (Or.inl rfl) (de_if (dt_cmp op_gt lo_B (de_mul (dv 1) (dv 1)) (de_mul (de_mul (dv 0) (dv 2)) (dv 2)) (nomark _)) (dv 1) (dv 2)))
    (dss_one (ds_ret (de_if (dt_cmp op_gt lo_B (dv 3) de_int (nomark _)) de_int (de_neg de_int)))))))), fun ds μ Qd h => rd_sign_of_parts h⟩)
theorem sc__law_bag : FnScope ["_law_script", "_law_at", "_law_cell", "_law_great", "_law_primes", "_law_mixed"] ["_law_script", "_law_at"] (defScope s__law_bag) := ⟨rfl, rfl, rfl, by decide +kernel, rfl, by decide +kernel, by decide +kernel⟩
theorem ok__law_bag (T : Txt K mg t)  : FnOk P w K mg base CX0 1 t.a__law_bag t.d__law_bag ["_law_script", "_law_at"] (spD K spBag) := by
  have S := sc__law_bag
  exact T.f__law_bag.okD S (fun ds μ Q h => len_spBag h) (fun cdv A outer s H E hr => ⟨td__law_bag, (dss_cons (ds_set (i := 2) S.nd rfl (Or.inl rfl) de_int)
    (dss_cons (ds_if (dt_cmp op_lt lo_B (dv 1) (de_len rfl T.n_len (da_cons (dv 0) da_nil)) (nomark _)) (dss_one (ds_set (i := 2) S.nd rfl (Or.inl rfl) (de_ix (dv 0) (dv 1) (fun _ _ => rfl)))) dss_nil)
    (dss_cons (ds_set (i := 3) S.nd rfl (Or.inl rfl) de_int)
    (dss_cons (ds_if (dt_cmp op_ge lo_B (de_abs rfl T.n_abs (da_cons (dv 2) da_nil)) (de_pow de_int de_int) (nomark _)) (dss_one (ds_set (i := 3) S.nd rfl (Or.inl rfl) (de_abs rfl T.n_abs (da_cons (dv 2) da_nil)))) dss_nil)
    (dss_cons (ds_set (i := 4) S.nd rfl (Or.inl rfl) (de_lst (da_cons de_int (da_cons de_int (da_cons de_int (da_cons de_int (da_cons de_int (da_cons de_int (da_cons de_int (da_cons de_int da_nil))))))))))
    (dss_cons (ds_set (i := 5) S.nd rfl (Or.inl rfl) (de_add (de_add (de_add (de_mul (de_mod (dv 2) de_int) de_int) (de_mul (de_mul de_int (dv 1)) (dv 1))) (de_mul de_int (dv 1))) de_int))
    (dss_one (ds_ret (de_lstM (da_cons (dv 3) (da_cons (de_mod (dv 5) (de_ix (dv 4) (de_mod (dv 1) de_int) (fun _ _ => rfl))) da_nil))))))))))), fun ds μ Qd h => rd__law_bag h⟩)
theorem sc__law_take : FnScope ["_law_bag_here", "_law_many", "_law_digit"] ["_law_bag_here", "_law_many"] (defScope s__law_take) := ⟨rfl, rfl, rfl, by decide +kernel, rfl, by decide +kernel, by decide +kernel⟩
theorem ok__law_take (T : Txt K mg t)  : FnOk P w K mg base CX0 1 t.a__law_take t.d__law_take ["_law_bag_here", "_law_many"] (spD K spTake) := by
  have S := sc__law_take
  exact T.f__law_take.okD S (fun ds μ Q h => len_spTake h) (fun cdv A outer s H E hr => ⟨td__law_take, (dss_cons (ds_if (dt_cmp op_gt lo_B (de_ix (dv 0) de_int (fun _ _ => rfl)) de_int (nomark _)) (dss_cons (ds_set (i := 2) S.nd rfl (Or.inl rfl) (de_mod (de_ix (dv 0) de_int (fun _ _ => rfl)) (dv 1)))
    (dss_cons (ds_asg (de_div (de_ix (dv 0) de_int (fun _ _ => rfl)) (dv 1)) (dg_sub (dv 0) de_int))
    (dss_one (ds_ret (dv 2))))) dss_nil)
    (dss_cons (ds_asg (de_mod (de_add (de_mul (de_ix (dv 0) de_int (fun _ _ => rfl)) de_int) de_int) de_int) (dg_sub (dv 0) de_int))
    (dss_one (ds_ret (de_mod (de_div (de_mod (de_pow (de_ix (dv 0) de_int (fun _ _ => rfl)) de_int) de_int) de_int) (dv 1)))))), fun ds μ Qd h => rd__law_take h⟩)
theorem sc__law_is_whole : FnScope ["_law_thing"] ["_law_thing"] (defScope s__law_is_whole) := ⟨rfl, rfl, rfl, by decide +kernel, rfl, by decide +kernel, by decide +kernel⟩
theorem ok__law_is_whole (T : Txt K mg t)  : FnOk P w K mg base CX0 1 t.a__law_is_whole t.d__law_is_whole ["_law_thing"] (spD K spWhole) := by
  have S := sc__law_is_whole
  exact T.f__law_is_whole.okD S (fun ds μ Q h => len_spWhole h) (fun cdv A outer s H E hr => ⟨td__law_is_whole, (dss_one (ds_ret (de_and (de_isi (kit_int _) rfl T.n_isinstance rfl T.n_int PyProof.Rows.Boot.«int» (dv 0)) (de_one (de_not (de_isi (kit_bool _) rfl T.n_isinstance rfl T.n_bool PyProof.Rows.Boot.«bool» (dv 0))))))), fun ds μ Qd h => rd__law_is_whole h⟩)
theorem sc__law_shared : FnScope ["_law_one", "_law_other"] ["_law_one", "_law_other"] (defScope s__law_shared) := ⟨rfl, rfl, rfl, by decide +kernel, rfl, by decide +kernel, by decide +kernel⟩
theorem ok__law_shared (T : Txt K mg t)  : FnOk P w K mg base CX0 1 t.a__law_shared t.d__law_shared ["_law_one", "_law_other"] (spD K spGcd) := by
  have S := sc__law_shared
  exact T.f__law_shared.okD S (fun ds μ Q h => len_spGcd h) (fun cdv A outer s H E hr => ⟨td__law_shared, (dss_cons (ds_par (i := 0) (j := 1) rfl S.nd rfl rfl (by decide) rfl rfl (da_cons (de_abs rfl T.n_abs (da_cons (dv 0) da_nil)) (da_cons (de_abs rfl T.n_abs (da_cons (dv 1) da_nil)) da_nil)) rfl)
    (dss_cons (ds_while PassesOwn.never (dt_cmp op_gt lo_B (dv 1) de_int (nomark _)) (dss_one (ds_par (i := 0) (j := 1) rfl S.nd rfl rfl (by decide) rfl rfl (da_cons (dv 1) (da_cons (de_mod (dv 0) (dv 1)) da_nil)) rfl)))
    (dss_one (ds_ret (dv 0))))), fun ds μ Qd h => rd__law_shared h⟩)
theorem sc__law_minus : FnScope ["_law_x"] ["_law_x"] (defScope s__law_minus) := ⟨rfl, rfl, rfl, by decide +kernel, rfl, by decide +kernel, by decide +kernel⟩
theorem ok__law_minus (T : Txt K mg t)  : FnOk P w K mg base CX0 1 t.a__law_minus t.d__law_minus ["_law_x"] (spD K spMinus) := by
  have S := sc__law_minus
  exact T.f__law_minus.okD S (fun ds μ Q h => len_spMinus h) (fun cdv A outer s H E hr => ⟨td__law_minus, (dss_one (ds_ret (de_tup (da_cons (de_sub de_int (de_ix (dv 0) de_int (fun _ _ => rfl))) (da_cons (de_sub de_int (de_ix (dv 0) de_int (fun _ _ => rfl))) (da_cons (de_ix (dv 0) de_int (fun _ _ => rfl)) da_nil)))))), fun ds μ Qd h => rd__law_minus h⟩)
theorem sc__law_sign : FnScope ["_law_d", "_law_x", "_law_first", "_law_second", "_law_sides"] ["_law_d", "_law_x"] (defScope s__law_sign) := ⟨rfl, rfl, rfl, by decide +kernel, rfl, by decide +kernel, by decide +kernel⟩
theorem ok__law_sign (T : Txt K mg t)  : FnOk P w K mg base CX0 1 t.a__law_sign t.d__law_sign ["_law_d", "_law_x"] (spD K spSign) := by
  have S := sc__law_sign
  exact T.f__law_sign.okD S (fun ds μ Q h => len_spSign h) (fun cdv A outer s H E hr => ⟨td__law_sign, (dss_cons (ds_par (i := 2) (j := 3) rfl S.nd rfl rfl (by decide) rfl rfl (da_cons (de_mul (de_ix (dv 1) de_int (fun _ _ => rfl)) (de_ix (dv 1) de_int (fun _ _ => rfl))) (da_cons (de_mul (de_mul (dv 0) (de_ix (dv 1) de_int (fun _ _ => rfl))) (de_ix (dv 1) de_int (fun _ _ => rfl))) da_nil)) rfl)
    (dss_cons (ds_set (i := 4) S.nd rfl (Or.inl rfl) (de_lst (da_cons (de_sub (de_intOf rfl T.n_int (da_cons (de_cmp op_gt lo_B (de_ix (dv 1) de_int (fun _ _ => rfl)) de_int (nomark _)) da_nil)) (de_intOf rfl T.n_int (da_cons (de_cmp op_lt lo_B (de_ix (dv 1) de_int (fun _ _ => rfl)) de_int (nomark _)) da_nil))) (da_cons (de_sub (de_intOf rfl T.n_int (da_cons (de_cmp op_gt lo_B (de_ix (dv 1) de_int (fun _ _ => rfl)) de_int (nomark _)) da_nil)) (de_intOf rfl T.n_int (da_cons (de_cmp op_lt lo_B (de_ix (dv 1) de_int (fun _ _ => rfl)) de_int (nomark _)) da_nil))) da_nil))))
    (dss_cons (ds_if (dt_cmp op_ge lo_B (de_mul (de_ix (dv 4) de_int (fun _ _ => rfl)) (de_ix (dv 4) de_int (fun _ _ => rfl))) de_int (nomark _)) (dss_one (ds_ret (de_if (dt_cmp (op_neD hr.units) lo_eqD (de_ix (dv 4) de_int (fun _ _ => rfl)) de_int (nomark _)) (de_ix (dv 4) de_int (fun _ _ => rfl)) (de_ix (dv 4) de_int (fun _ _ => rfl))))) dss_nil)
    (dss_one (ds_ret (de_if (dt_cmp op_gt lo_B (dv 2) (dv 3) (nomark _)) (de_ix (dv 4) de_int (fun _ _ => rfl)) (de_ix (dv 4) de_int (fun _ _ => rfl)))))))), fun ds μ Qd h => rd__law_sign h⟩)
theorem sc_divisor_of_all : FnScope ["a", "b", "c"] ["a", "b", "c"] (defScope s_divisor_of_all) := ⟨rfl, rfl, rfl, by decide +kernel, rfl, by decide +kernel, by decide +kernel⟩
theorem ok_divisor_of_all (T : Txt K mg t) (G_common_divisor : FnOk P w K mg base CX0 1 t.a_common_divisor t.d_common_divisor ["a", "b"] (spD K spGcd)) : FnOk P w K mg base CX0 2 t.a_divisor_of_all t.d_divisor_of_all ["a", "b", "c"] (spD K spDiv3) := by
  have S := sc_divisor_of_all
  exact T.f_divisor_of_all.okD S (fun ds μ Q h => len_spDiv3 h) (fun cdv A outer s H E hr => ⟨td_divisor_of_all, (dss_one (ds_ret (de_call G_common_divisor (hr.mono (by decide)) rfl T.m_common_divisor T.k_common_divisor T.b_common_divisor (da_cons (de_call G_common_divisor (hr.mono (by decide)) rfl T.m_common_divisor T.k_common_divisor T.b_common_divisor (da_cons (dv 2) (da_cons (dv 0) da_nil))) (da_cons (dv 1) da_nil))))), fun ds μ Qd h => rd_divisor_of_all h⟩)
theorem sc_sign_of : FnScope ["d", "x"] ["d", "x"] (defScope s_sign_of) := ⟨rfl, rfl, rfl, by decide +kernel, rfl, by decide +kernel, by decide +kernel⟩
theorem ok_sign_of (T : Txt K mg t) (G_sign_of_parts : FnOk P w K mg base CX0 1 t.a_sign_of_parts t.d_sign_of_parts ["d", "a", "b"] (spD K spSignP)) : FnOk P w K mg base CX0 2 t.a_sign_of t.d_sign_of ["d", "x"] (spD K spSign) := by
  have S := sc_sign_of
  exact T.f_sign_of.okD S (fun ds μ Q h => len_spSign h) (fun cdv A outer s H E hr => ⟨td_sign_of, (dss_one (ds_ret (de_call G_sign_of_parts (hr.mono (by decide)) rfl T.m_sign_of_parts T.k_sign_of_parts T.b_sign_of_parts (da_cons (dv 0) (da_cons (de_ix (dv 1) de_int (fun _ _ => rfl)) (da_cons (de_ix (dv 1) de_int (fun _ _ => rfl)) da_nil)))))), fun ds μ Qd h => rd_sign_of h⟩)
theorem sc__law_low : FnScope ["_law_a", "_law_b", "_law_c", "_law_common"] ["_law_a", "_law_b", "_law_c"] (defScope s__law_low) := ⟨rfl, rfl, rfl, by decide +kernel, rfl, by decide +kernel, by decide +kernel⟩
theorem ok__law_low (T : Txt K mg t) (G__law_shared : FnOk P w K mg base CX0 1 t.a__law_shared t.d__law_shared ["_law_one", "_law_other"] (spD K spGcd)) : FnOk P w K mg base CX0 2 t.a__law_low t.d__law_low ["_law_a", "_law_b", "_law_c"] (spD K spNumber) := by
  have S := sc__law_low
  exact T.f__law_low.okD S (fun ds μ Q h => len_spNumber h) (fun cdv A outer s H E hr => ⟨td__law_low, (dss_cons (ds_set (i := 3) S.nd rfl (Or.inl rfl) (de_mul (de_call G__law_shared (hr.mono (by decide)) rfl T.m__law_shared T.k__law_shared T.b__law_shared (da_cons (de_call G__law_shared (hr.mono (by decide)) rfl T.m__law_shared T.k__law_shared T.b__law_shared (da_cons (dv 0) (da_cons (dv 1) da_nil))) (da_cons (dv 2) da_nil))) (de_ix (de_lst (da_cons de_int (da_cons (de_neg de_int) da_nil))) (de_intOf rfl T.n_int (da_cons (de_cmp op_lt lo_B (dv 2) de_int (nomark _)) da_nil)) (fun _ _ => rfl))))
    (dss_one (ds_ret (de_tup (da_cons (de_div (dv 0) (dv 3)) (da_cons (de_div (dv 1) (dv 3)) (da_cons (de_div (dv 2) (dv 3)) da_nil))))))), fun ds μ Qd h => rd__law_low h⟩)
theorem sc__law_is_number : FnScope ["_law_thing"] ["_law_thing"] (defScope s__law_is_number) := ⟨rfl, rfl, rfl, by decide +kernel, rfl, by decide +kernel, by decide +kernel⟩
theorem ok__law_is_number (T : Txt K mg t) (G__law_is_whole : FnOk P w K mg base CX0 1 t.a__law_is_whole t.d__law_is_whole ["_law_thing"] (spD K spWhole)) (G__law_shared : FnOk P w K mg base CX0 1 t.a__law_shared t.d__law_shared ["_law_one", "_law_other"] (spD K spGcd)) : FnOk P w K mg base CX0 2 t.a__law_is_number t.d__law_is_number ["_law_thing"] (spD K spNumQ) := by
  have S := sc__law_is_number
  exact T.f__law_is_number.okD S (fun ds μ Q h => len_spNumQ h) (fun cdv A outer s H E hr => ⟨td__law_is_number, (dss_cons (ds_if (DW.dt (dw_or (dt_not (dt_val (de_isi (kit_tuple _) rfl T.n_isinstance rfl T.n_tuple PyProof.Rows.Boot.«tuple» (dv 0)))) (dw_or (dt_cmp (op_neD hr.units) lo_eqD (de_len rfl T.n_len (da_cons (dv 0) da_nil)) de_int (nomark _)) (dw_or1 (dt_not (dt_val (de_all rfl rfl T.n_all (da_cons (de_comp (N' := ["_law_one"]) (cap := [none]) rfl (di_tup (dv 0)) (fun _ _ _ => (dg_name (i := 0) (show List.Nodup (["_law_one"] : List Str) by decide +kernel) rfl (Or.inl rfl))) (fun _ _ _ => difs_nil) (fun _ _ _ => (de_call G__law_is_whole (hr.mono (by decide)) rfl T.m__law_is_whole T.k__law_is_whole T.b__law_is_whole (da_cons (dv 0) da_nil))) rfl (by decide +kernel) rfl (by decide +kernel) (by intro _ _ h; first | exact h | exact cl1 h | exact cl2 (by decide +kernel) h | exact cl3 (by decide +kernel) h | exact cl_of (cl_c rfl cl_n) _ _ h | exact cl_of (cl_c rfl (cl_c rfl cl_n)) _ _ h | exact cl_of (cl_c rfl (cl_c rfl (cl_c rfl cl_n))) _ _ h | cases h) (has_of rfl) rfl (cap_of trivial)) da_nil)))))))) (dss_one (ds_ret de_bl)) dss_nil)
    (dss_one (ds_ret (de_and (de_cmp op_gt lo_B (de_ix (dv 0) de_int (fun _ _ => rfl)) de_int (nomark _)) (de_one (de_cmp (op_eqD hr.units) lo_eqD (de_call G__law_shared (hr.mono (by decide)) rfl T.m__law_shared T.k__law_shared T.b__law_shared (da_cons (de_call G__law_shared (hr.mono (by decide)) rfl T.m__law_shared T.k__law_shared T.b__law_shared (da_cons (de_ix (dv 0) de_int (fun _ _ => rfl)) (da_cons (de_ix (dv 0) de_int (fun _ _ => rfl)) da_nil))) (da_cons (de_ix (dv 0) de_int (fun _ _ => rfl)) da_nil))) de_int (nomark _))))))), fun ds μ Qd h => rd__law_is_number h⟩)
theorem sc__law_root : FnScope ["_law_bag_here", "_law_some"] ["_law_bag_here"] (defScope s__law_root) := ⟨rfl, rfl, rfl, by decide +kernel, rfl, by decide +kernel, by decide +kernel⟩
theorem ok__law_root (T : Txt K mg t) (G__law_take : FnOk P w K mg base CX0 1 t.a__law_take t.d__law_take ["_law_bag_here", "_law_many"] (spD K spTake)) : FnOk P w K mg base CX0 2 t.a__law_root t.d__law_root ["_law_bag_here"] (spD K spRootL) := by
  have S := sc__law_root
  exact T.f__law_root.okD S (fun ds μ Q h => len_spRootL h) (fun cdv A outer s H E hr => ⟨td__law_root, (dss_cons (ds_if (dt_cmp (op_eqD hr.units) lo_eqD (de_call G__law_take (hr.mono (by decide)) rfl T.m__law_take T.k__law_take T.b__law_take (da_cons (dv 0) (da_cons de_int da_nil))) de_int (nomark _)) (dss_one (ds_ret (de_ix (de_lst (da_cons de_int (da_cons de_int (da_cons de_int da_nil)))) (de_call G__law_take (hr.mono (by decide)) rfl T.m__law_take T.k__law_take T.b__law_take (da_cons (dv 0) (da_cons de_int da_nil))) (fun _ _ => rfl)))) dss_nil)
    (dss_cons (ds_setC (i := 1) (N' := ["_law_d"]) (cap := [none]) S.nd rfl rfl rfl (di_rng2 rfl T.n_range (da_cons de_int (da_cons de_int da_nil))) (fun _ _ _ => (dg_name (i := 0) (show List.Nodup (["_law_d"] : List Str) by decide +kernel) rfl (Or.inl rfl))) (fun _ _ _ => (difs_one (dt_cmp (op_notInD hr.units) lo_inD (dv 0) (de_lst (da_cons de_int (da_cons de_int (da_cons de_int (da_cons de_int da_nil))))) (by with_unfolding_all rfl)))) (fun _ _ _ => (dv 0)) rfl (by decide +kernel) rfl (by decide +kernel) (by intro _ _ h; first | exact h | exact cl1 h | exact cl2 (by decide +kernel) h | exact cl3 (by decide +kernel) h | exact cl_of (cl_c rfl cl_n) _ _ h | exact cl_of (cl_c rfl (cl_c rfl cl_n)) _ _ h | exact cl_of (cl_c rfl (cl_c rfl (cl_c rfl cl_n))) _ _ h | cases h) (has_of rfl) rfl (cap_of trivial))
    (dss_one (ds_ret (de_ix (dv 1) (de_call G__law_take (hr.mono (by decide)) rfl T.m__law_take T.k__law_take T.b__law_take (da_cons (dv 0) (da_cons de_int da_nil))) (fun _ _ => rfl)))))), fun ds μ Qd h => rd__law_root h⟩)
theorem sc__law_odd : FnScope ["_law_bag_here", "_law_some"] ["_law_bag_here"] (defScope s__law_odd) := ⟨rfl, rfl, rfl, by decide +kernel, rfl, by decide +kernel, by decide +kernel⟩
theorem ok__law_odd (T : Txt K mg t) (G__law_take : FnOk P w K mg base CX0 1 t.a__law_take t.d__law_take ["_law_bag_here", "_law_many"] (spD K spTake)) : FnOk P w K mg base CX0 2 t.a__law_odd t.d__law_odd ["_law_bag_here"] (spD K spOdd) := by
  have S := sc__law_odd
  exact T.f__law_odd.okD S (fun ds μ Q h => len_spOdd h) (fun cdv A outer s H E hr => ⟨td__law_odd, (dss_cons (ds_set (i := 1) S.nd rfl (Or.inl rfl) (de_lst (da_cons de_non (da_cons de_bl (da_cons de_bl (da_cons de_str (da_cons de_str (da_cons (de_neg de_int) (da_cons de_int (da_cons de_int (da_cons (de_pow de_int de_int) (da_cons (de_tup da_nil) (da_cons (de_lst da_nil) (da_cons (de_lst (da_cons de_int da_nil)) (da_cons (de_tup (da_cons de_int (da_cons de_int da_nil))) (da_cons (de_tup (da_cons de_int (da_cons de_int (da_cons de_int da_nil)))) (da_cons (de_tup (da_cons de_int (da_cons de_int (da_cons de_int da_nil)))) (da_cons (de_tup (da_cons de_int (da_cons de_bl (da_cons de_int da_nil)))) (da_cons (de_tup (da_cons de_int (da_cons de_int (da_cons (de_neg de_int) da_nil)))) (da_cons (de_lst (da_cons de_int (da_cons de_int (da_cons de_int da_nil)))) (da_cons (de_tup (da_cons de_int (da_cons de_int da_nil))) (da_cons de_str da_nil))))))))))))))))))))))
    (dss_one (ds_ret (de_ix (dv 1) (de_call G__law_take (hr.mono (by decide)) rfl T.m__law_take T.k__law_take T.b__law_take (da_cons (dv 0) (da_cons de_int da_nil))) (fun _ _ => rfl))))), fun ds μ Qd h => rd__law_odd h⟩)
theorem sc_is_number : FnScope ["thing", "a", "b", "c"] ["thing"] (defScope s_is_number) := ⟨rfl, rfl, rfl, by decide +kernel, rfl, by decide +kernel, by decide +kernel⟩
theorem ok_is_number (T : Txt K mg t) (G_is_whole : FnOk P w K mg base CX0 1 t.a_is_whole t.d_is_whole ["thing"] (spD K spWhole)) (G_divisor_of_all : FnOk P w K mg base CX0 2 t.a_divisor_of_all t.d_divisor_of_all ["a", "b", "c"] (spD K spDiv3)) : FnOk P w K mg base CX0 3 t.a_is_number t.d_is_number ["thing"] (spD K spNumQ) := by
  have S := sc_is_number
  exact T.f_is_number.okD S (fun ds μ Q h => len_spNumQ h) (fun cdv A outer s H E hr => ⟨td_is_number, (dss_cons (ds_if (DW.dt (dw_or (dt_not (dt_val (de_isi (kit_tuple _) rfl T.n_isinstance rfl T.n_tuple PyProof.Rows.Boot.«tuple» (dv 0)))) (dw_or1 (dt_cmp (op_neD hr.units) lo_eqD (de_len rfl T.n_len (da_cons (dv 0) da_nil)) de_int (nomark _))))) (dss_one (ds_ret de_bl)) dss_nil)
    (dss_cons (ds_asg (dv 0) (dg_tup (n := 3) rfl (dgs_cons (dg_name (i := 1) S.nd rfl (Or.inl rfl)) (dgs_cons (dg_name (i := 2) S.nd rfl (Or.inl rfl)) (dgs_cons (dg_name (i := 3) S.nd rfl (Or.inl rfl)) dgs_nil)))))
    (dss_cons (ds_if (DW.dt (dw_or (dt_not (dt_val (de_call G_is_whole (hr.mono (by decide)) rfl T.m_is_whole T.k_is_whole T.b_is_whole (da_cons (dv 1) da_nil)))) (dw_or (dt_not (dt_val (de_call G_is_whole (hr.mono (by decide)) rfl T.m_is_whole T.k_is_whole T.b_is_whole (da_cons (dv 2) da_nil)))) (dw_or1 (dt_not (dt_val (de_call G_is_whole (hr.mono (by decide)) rfl T.m_is_whole T.k_is_whole T.b_is_whole (da_cons (dv 3) da_nil)))))))) (dss_one (ds_ret de_bl)) dss_nil)
    (dss_one (ds_ret (de_and (de_cmp op_ge lo_B (dv 3) de_int (nomark _)) (de_one (de_cmp (op_eqD hr.units) lo_eqD (de_call G_divisor_of_all (hr.mono (by decide)) rfl T.m_divisor_of_all T.k_divisor_of_all T.b_divisor_of_all (da_cons (dv 1) (da_cons (dv 2) (da_cons (dv 3) da_nil)))) de_int (nomark _))))))))), fun ds μ Qd h => rd_is_number h⟩)
theorem sc_number : FnScope ["a", "b", "c", "divisor"] ["a", "b", "c"] (defScope s_number) := ⟨rfl, rfl, rfl, by decide +kernel, rfl, by decide +kernel, by decide +kernel⟩
theorem ok_number (T : Txt K mg t) (G_divisor_of_all : FnOk P w K mg base CX0 2 t.a_divisor_of_all t.d_divisor_of_all ["a", "b", "c"] (spD K spDiv3)) : FnOk P w K mg base CX0 3 t.a_number t.d_number ["a", "b", "c"] (spD K spNumber) := by
  have S := sc_number
  exact T.f_number.okD S (fun ds μ Q h => len_spNumber h) (fun cdv A outer s H E hr => ⟨td_number, (dss_cons (ds_if (dt_cmp (op_eqD hr.units) lo_eqD (dv 2) de_int (nomark _)) (dss_one ds_never) dss_nil)
    (dss_cons (ds_set (i := 3) S.nd rfl (Or.inl rfl) (de_call G_divisor_of_all (hr.mono (by decide)) rfl T.m_divisor_of_all T.k_divisor_of_all T.b_divisor_of_all (da_cons (dv 0) (da_cons (dv 1) (da_cons (dv 2) da_nil)))))
    (dss_cons (ds_if (dt_cmp op_lt lo_B (dv 2) de_int (nomark _)) (dss_one (ds_set (i := 3) S.nd rfl (Or.inl rfl) (de_neg (dv 3)))) dss_nil)
    (dss_one (ds_ret (de_tup (da_cons (de_div (dv 0) (dv 3)) (da_cons (de_div (dv 1) (dv 3)) (da_cons (de_div (dv 2) (dv 3)) da_nil))))))))), fun ds μ Qd h => rd_number h⟩)
theorem sc_is_share : FnScope ["d", "x"] ["d", "x"] (defScope s_is_share) := ⟨rfl, rfl, rfl, by decide +kernel, rfl, by decide +kernel, by decide +kernel⟩
theorem ok_is_share (T : Txt K mg t) (G_sign_of : FnOk P w K mg base CX0 2 t.a_sign_of t.d_sign_of ["d", "x"] (spD K spSign)) : FnOk P w K mg base CX0 3 t.a_is_share t.d_is_share ["d", "x"] (spD K spIsShare) := by
  have S := sc_is_share
  exact T.f_is_share.okD S (fun ds μ Q h => len_spIsShare h) (fun cdv A outer s H E hr => ⟨td_is_share, (dss_one (ds_ret (de_and (de_cmp (op_eqD hr.units) lo_eqD (de_ix (dv 1) de_int (fun _ _ => rfl)) de_int (nomark _)) (de_one (de_cmp op_ge lo_B (de_call G_sign_of (hr.mono (by decide)) rfl T.m_sign_of T.k_sign_of T.b_sign_of (da_cons (dv 0) (da_cons (dv 1) da_nil))) de_int (nomark _)))))), fun ds μ Qd h => rd_is_share h⟩)
theorem sc__law_plus : FnScope ["_law_x", "_law_y"] ["_law_x", "_law_y"] (defScope s__law_plus) := ⟨rfl, rfl, rfl, by decide +kernel, rfl, by decide +kernel, by decide +kernel⟩
theorem ok__law_plus (T : Txt K mg t) (G__law_low : FnOk P w K mg base CX0 2 t.a__law_low t.d__law_low ["_law_a", "_law_b", "_law_c"] (spD K spNumber)) : FnOk P w K mg base CX0 3 t.a__law_plus t.d__law_plus ["_law_x", "_law_y"] (spD K spPlus) := by
  have S := sc__law_plus
  exact T.f__law_plus.okD S (fun ds μ Q h => len_spPlus h) (fun cdv A outer s H E hr => ⟨td__law_plus, (dss_one (ds_ret (de_call G__law_low (hr.mono (by decide)) rfl T.m__law_low T.k__law_low T.b__law_low (da_cons (de_add (de_mul (de_ix (dv 0) de_int (fun _ _ => rfl)) (de_ix (dv 1) de_int (fun _ _ => rfl))) (de_mul (de_ix (dv 1) de_int (fun _ _ => rfl)) (de_ix (dv 0) de_int (fun _ _ => rfl)))) (da_cons (de_add (de_mul (de_ix (dv 0) de_int (fun _ _ => rfl)) (de_ix (dv 1) de_int (fun _ _ => rfl))) (de_mul (de_ix (dv 1) de_int (fun _ _ => rfl)) (de_ix (dv 0) de_int (fun _ _ => rfl)))) (da_cons (de_mul (de_ix (dv 0) de_int (fun _ _ => rfl)) (de_ix (dv 1) de_int (fun _ _ => rfl))) da_nil)))))), fun ds μ Qd h => rd__law_plus h⟩)
theorem sc__law_times : FnScope ["_law_d", "_law_x", "_law_y"] ["_law_d", "_law_x", "_law_y"] (defScope s__law_times) := ⟨rfl, rfl, rfl, by decide +kernel, rfl, by decide +kernel, by decide +kernel⟩
theorem ok__law_times (T : Txt K mg t) (G__law_low : FnOk P w K mg base CX0 2 t.a__law_low t.d__law_low ["_law_a", "_law_b", "_law_c"] (spD K spNumber)) : FnOk P w K mg base CX0 3 t.a__law_times t.d__law_times ["_law_d", "_law_x", "_law_y"] (spD K spTimes) := by
  have S := sc__law_times
  exact T.f__law_times.okD S (fun ds μ Q h => len_spTimes h) (fun cdv A outer s H E hr => ⟨td__law_times, (dss_one (ds_ret (de_call G__law_low (hr.mono (by decide)) rfl T.m__law_low T.k__law_low T.b__law_low (da_cons (de_add (de_mul (de_ix (dv 1) de_int (fun _ _ => rfl)) (de_ix (dv 2) de_int (fun _ _ => rfl))) (de_mul (de_mul (dv 0) (de_ix (dv 1) de_int (fun _ _ => rfl))) (de_ix (dv 2) de_int (fun _ _ => rfl)))) (da_cons (de_add (de_mul (de_ix (dv 1) de_int (fun _ _ => rfl)) (de_ix (dv 2) de_int (fun _ _ => rfl))) (de_mul (de_ix (dv 1) de_int (fun _ _ => rfl)) (de_ix (dv 2) de_int (fun _ _ => rfl)))) (da_cons (de_mul (de_ix (dv 1) de_int (fun _ _ => rfl)) (de_ix (dv 2) de_int (fun _ _ => rfl))) da_nil)))))), fun ds μ Qd h => rd__law_times h⟩)
theorem sc__law_contrary : FnScope ["_law_d", "_law_x"] ["_law_d", "_law_x"] (defScope s__law_contrary) := ⟨rfl, rfl, rfl, by decide +kernel, rfl, by decide +kernel, by decide +kernel⟩
theorem ok__law_contrary (T : Txt K mg t) (G__law_low : FnOk P w K mg base CX0 2 t.a__law_low t.d__law_low ["_law_a", "_law_b", "_law_c"] (spD K spNumber)) : FnOk P w K mg base CX0 3 t.a__law_contrary t.d__law_contrary ["_law_d", "_law_x"] (spD K spContrary) := by
  have S := sc__law_contrary
  exact T.f__law_contrary.okD S (fun ds μ Q h => len_spContrary h) (fun cdv A outer s H E hr => ⟨td__law_contrary, (dss_one (ds_ret (de_call G__law_low (hr.mono (by decide)) rfl T.m__law_low T.k__law_low T.b__law_low (da_cons (de_mul (de_ix (dv 1) de_int (fun _ _ => rfl)) (de_ix (dv 1) de_int (fun _ _ => rfl))) (da_cons (de_sub de_int (de_mul (de_ix (dv 1) de_int (fun _ _ => rfl)) (de_ix (dv 1) de_int (fun _ _ => rfl)))) (da_cons (de_sub (de_mul (de_ix (dv 1) de_int (fun _ _ => rfl)) (de_ix (dv 1) de_int (fun _ _ => rfl))) (de_mul (de_mul (dv 0) (de_ix (dv 1) de_int (fun _ _ => rfl))) (de_ix (dv 1) de_int (fun _ _ => rfl)))) da_nil)))))), fun ds μ Qd h => rd__law_contrary h⟩)
theorem sc__law_number : FnScope ["_law_bag_here", "_law_wide", "_law_a", "_law_b", "_law_c", "_law_way"] ["_law_bag_here"] (defScope s__law_number) := ⟨rfl, rfl, rfl, by decide +kernel, rfl, by decide +kernel, by decide +kernel⟩
theorem ok__law_number (T : Txt K mg t) (G__law_take : FnOk P w K mg base CX0 1 t.a__law_take t.d__law_take ["_law_bag_here", "_law_many"] (spD K spTake)) (G__law_low : FnOk P w K mg base CX0 2 t.a__law_low t.d__law_low ["_law_a", "_law_b", "_law_c"] (spD K spNumber)) : FnOk P w K mg base CX0 3 t.a__law_number t.d__law_number ["_law_bag_here"] (spD K spNumberL) := by
  have S := sc__law_number
  exact T.f__law_number.okD S (fun ds μ Q h => len_spNumberL h) (fun cdv A outer s H E hr => ⟨td__law_number, (dss_cons (ds_set (i := 1) S.nd rfl (Or.inl rfl) (de_ix (de_lst (da_cons de_int (da_cons de_int (da_cons de_int (da_cons de_int da_nil))))) (de_call G__law_take (hr.mono (by decide)) rfl T.m__law_take T.k__law_take T.b__law_take (da_cons (dv 0) (da_cons de_int da_nil))) (fun _ _ => rfl)))
    (dss_cons (ds_par (i := 2) (j := 3) rfl S.nd rfl rfl (by decide) rfl rfl (da_cons (de_sub (de_call G__law_take (hr.mono (by decide)) rfl T.m__law_take T.k__law_take T.b__law_take (da_cons (dv 0) (da_cons (dv 1) da_nil))) (de_div (dv 1) de_int)) (da_cons (de_sub (de_call G__law_take (hr.mono (by decide)) rfl T.m__law_take T.k__law_take T.b__law_take (da_cons (dv 0) (da_cons (dv 1) da_nil))) (de_div (dv 1) de_int)) da_nil)) rfl)
    (dss_cons (ds_set (i := 4) S.nd rfl (Or.inl rfl) (de_add de_int (de_call G__law_take (hr.mono (by decide)) rfl T.m__law_take T.k__law_take T.b__law_take (da_cons (dv 0) (da_cons (de_sub (dv 1) de_int) da_nil)))))
    (dss_cons (ds_set (i := 5) S.nd rfl (Or.inl rfl) (de_call G__law_take (hr.mono (by decide)) rfl T.m__law_take T.k__law_take T.b__law_take (da_cons (dv 0) (da_cons de_int da_nil))))
    (dss_one (ds_ret (de_call G__law_low (hr.mono (by decide)) rfl T.m__law_low T.k__law_low T.b__law_low (da_cons (de_ix (de_lst (da_cons (dv 2) (da_cons (dv 2) (da_cons (dv 2) (da_cons (dv 2) (da_cons (dv 2) (da_cons (dv 2) (da_cons (dv 2) (da_cons de_int da_nil))))))))) (dv 5) (fun _ _ => rfl)) (da_cons (de_ix (de_lst (da_cons (dv 3) (da_cons (dv 3) (da_cons (dv 3) (da_cons (dv 3) (da_cons (dv 3) (da_cons de_int (da_cons de_int (da_cons (dv 3) da_nil))))))))) (dv 5) (fun _ _ => rfl)) (da_cons (de_ix (de_lst (da_cons (dv 4) (da_cons (dv 4) (da_cons de_int (da_cons (dv 4) (da_cons de_int (da_cons (dv 4) (da_cons de_int (da_cons (dv 4) da_nil))))))))) (dv 5) (fun _ _ => rfl)) da_nil)))))))))), fun ds μ Qd h => rd__law_number h⟩)
theorem sc__law_fraction : FnScope ["_law_bag_here", "_law_wide"] ["_law_bag_here"] (defScope s__law_fraction) := ⟨rfl, rfl, rfl, by decide +kernel, rfl, by decide +kernel, by decide +kernel⟩
theorem ok__law_fraction (T : Txt K mg t) (G__law_take : FnOk P w K mg base CX0 1 t.a__law_take t.d__law_take ["_law_bag_here", "_law_many"] (spD K spTake)) (G__law_low : FnOk P w K mg base CX0 2 t.a__law_low t.d__law_low ["_law_a", "_law_b", "_law_c"] (spD K spNumber)) : FnOk P w K mg base CX0 3 t.a__law_fraction t.d__law_fraction ["_law_bag_here"] (spD K spFracL) := by
  have S := sc__law_fraction
  exact T.f__law_fraction.okD S (fun ds μ Q h => len_spFracL h) (fun cdv A outer s H E hr => ⟨td__law_fraction, (dss_cons (ds_set (i := 1) S.nd rfl (Or.inl rfl) (de_ix (de_lst (da_cons de_int (da_cons de_int (da_cons de_int (da_cons de_int da_nil))))) (de_call G__law_take (hr.mono (by decide)) rfl T.m__law_take T.k__law_take T.b__law_take (da_cons (dv 0) (da_cons de_int da_nil))) (fun _ _ => rfl)))
    (dss_one (ds_ret (de_call G__law_low (hr.mono (by decide)) rfl T.m__law_low T.k__law_low T.b__law_low (da_cons (de_add de_int (de_call G__law_take (hr.mono (by decide)) rfl T.m__law_take T.k__law_take T.b__law_take (da_cons (dv 0) (da_cons (dv 1) da_nil)))) (da_cons de_int (da_cons (de_add de_int (de_call G__law_take (hr.mono (by decide)) rfl T.m__law_take T.k__law_take T.b__law_take (da_cons (dv 0) (da_cons (dv 1) da_nil)))) da_nil))))))), fun ds μ Qd h => rd__law_fraction h⟩)
theorem sc_plus : FnScope ["x", "y"] ["x", "y"] (defScope s_plus) := ⟨rfl, rfl, rfl, by decide +kernel, rfl, by decide +kernel, by decide +kernel⟩
theorem ok_plus (T : Txt K mg t) (G_number : FnOk P w K mg base CX0 3 t.a_number t.d_number ["a", "b", "c"] (spD K spNumber)) : FnOk P w K mg base CX0 4 t.a_plus t.d_plus ["x", "y"] (spD K spPlus) := by
  have S := sc_plus
  exact T.f_plus.okD S (fun ds μ Q h => len_spPlus h) (fun cdv A outer s H E hr => ⟨td_plus, (dss_one (ds_ret (de_call G_number (hr.mono (by decide)) rfl T.m_number T.k_number T.b_number (da_cons (de_add (de_mul (de_ix (dv 0) de_int (fun _ _ => rfl)) (de_ix (dv 1) de_int (fun _ _ => rfl))) (de_mul (de_ix (dv 1) de_int (fun _ _ => rfl)) (de_ix (dv 0) de_int (fun _ _ => rfl)))) (da_cons (de_add (de_mul (de_ix (dv 0) de_int (fun _ _ => rfl)) (de_ix (dv 1) de_int (fun _ _ => rfl))) (de_mul (de_ix (dv 1) de_int (fun _ _ => rfl)) (de_ix (dv 0) de_int (fun _ _ => rfl)))) (da_cons (de_mul (de_ix (dv 0) de_int (fun _ _ => rfl)) (de_ix (dv 1) de_int (fun _ _ => rfl))) da_nil)))))), fun ds μ Qd h => rd_plus h⟩)
theorem sc_less : FnScope ["x", "y"] ["x", "y"] (defScope s_less) := ⟨rfl, rfl, rfl, by decide +kernel, rfl, by decide +kernel, by decide +kernel⟩
theorem ok_less (T : Txt K mg t) (G_number : FnOk P w K mg base CX0 3 t.a_number t.d_number ["a", "b", "c"] (spD K spNumber)) : FnOk P w K mg base CX0 4 t.a_less t.d_less ["x", "y"] (spD K spLess) := by
  have S := sc_less
  exact T.f_less.okD S (fun ds μ Q h => len_spLess h) (fun cdv A outer s H E hr => ⟨td_less, (dss_one (ds_ret (de_call G_number (hr.mono (by decide)) rfl T.m_number T.k_number T.b_number (da_cons (de_sub (de_mul (de_ix (dv 0) de_int (fun _ _ => rfl)) (de_ix (dv 1) de_int (fun _ _ => rfl))) (de_mul (de_ix (dv 1) de_int (fun _ _ => rfl)) (de_ix (dv 0) de_int (fun _ _ => rfl)))) (da_cons (de_sub (de_mul (de_ix (dv 0) de_int (fun _ _ => rfl)) (de_ix (dv 1) de_int (fun _ _ => rfl))) (de_mul (de_ix (dv 1) de_int (fun _ _ => rfl)) (de_ix (dv 0) de_int (fun _ _ => rfl)))) (da_cons (de_mul (de_ix (dv 0) de_int (fun _ _ => rfl)) (de_ix (dv 1) de_int (fun _ _ => rfl))) da_nil)))))), fun ds μ Qd h => rd_less h⟩)
theorem sc_times : FnScope ["d", "x", "y"] ["d", "x", "y"] (defScope s_times) := ⟨rfl, rfl, rfl, by decide +kernel, rfl, by decide +kernel, by decide +kernel⟩
theorem ok_times (T : Txt K mg t) (G_number : FnOk P w K mg base CX0 3 t.a_number t.d_number ["a", "b", "c"] (spD K spNumber)) : FnOk P w K mg base CX0 4 t.a_times t.d_times ["d", "x", "y"] (spD K spTimes) := by
  have S := sc_times
  exact T.f_times.okD S (fun ds μ Q h => len_spTimes h) (fun cdv A outer s H E hr => ⟨td_times, (dss_one (ds_ret (de_call G_number (hr.mono (by decide)) rfl T.m_number T.k_number T.b_number (da_cons (de_add (de_mul (de_ix (dv 1) de_int (fun _ _ => rfl)) (de_ix (dv 2) de_int (fun _ _ => rfl))) (de_mul (de_mul (dv 0) (de_ix (dv 1) de_int (fun _ _ => rfl))) (de_ix (dv 2) de_int (fun _ _ => rfl)))) (da_cons (de_add (de_mul (de_ix (dv 1) de_int (fun _ _ => rfl)) (de_ix (dv 2) de_int (fun _ _ => rfl))) (de_mul (de_ix (dv 1) de_int (fun _ _ => rfl)) (de_ix (dv 2) de_int (fun _ _ => rfl)))) (da_cons (de_mul (de_ix (dv 1) de_int (fun _ _ => rfl)) (de_ix (dv 2) de_int (fun _ _ => rfl))) da_nil)))))), fun ds μ Qd h => rd_times h⟩)
theorem sc_contrary : FnScope ["d", "x", "norm"] ["d", "x"] (defScope s_contrary) := ⟨rfl, rfl, rfl, by decide +kernel, rfl, by decide +kernel, by decide +kernel⟩
theorem ok_contrary (T : Txt K mg t) (G_number : FnOk P w K mg base CX0 3 t.a_number t.d_number ["a", "b", "c"] (spD K spNumber)) : FnOk P w K mg base CX0 4 t.a_contrary t.d_contrary ["d", "x"] (spD K spContrary) := by
  have S := sc_contrary
  exact T.f_contrary.okD S (fun ds μ Q h => len_spContrary h) (fun cdv A outer s H E hr => ⟨td_contrary, (dss_cons (ds_set (i := 2) S.nd rfl (Or.inl rfl) (de_sub (de_mul (de_ix (dv 1) de_int (fun _ _ => rfl)) (de_ix (dv 1) de_int (fun _ _ => rfl))) (de_mul (de_mul (dv 0) (de_ix (dv 1) de_int (fun _ _ => rfl))) (de_ix (dv 1) de_int (fun _ _ => rfl)))))
    (dss_one (ds_ret (de_call G_number (hr.mono (by decide)) rfl T.m_number T.k_number T.b_number (da_cons (de_mul (de_ix (dv 1) de_int (fun _ _ => rfl)) (de_ix (dv 1) de_int (fun _ _ => rfl))) (da_cons (de_mul (de_neg (de_ix (dv 1) de_int (fun _ _ => rfl))) (de_ix (dv 1) de_int (fun _ _ => rfl))) (da_cons (dv 2) da_nil))))))), fun ds μ Qd h => rd_contrary h⟩)
theorem sc_is_above_nought : FnScope ["d", "thing"] ["d", "thing"] (defScope s_is_above_nought) := ⟨rfl, rfl, rfl, by decide +kernel, rfl, by decide +kernel, by decide +kernel⟩
theorem ok_is_above_nought (T : Txt K mg t) (G_is_number : FnOk P w K mg base CX0 3 t.a_is_number t.d_is_number ["thing"] (spD K spNumQ)) (G_sign_of : FnOk P w K mg base CX0 2 t.a_sign_of t.d_sign_of ["d", "x"] (spD K spSign)) : FnOk P w K mg base CX0 4 t.a_is_above_nought t.d_is_above_nought ["d", "thing"] (spD K spAboveQ) := by
  have S := sc_is_above_nought
  exact T.f_is_above_nought.okD S (fun ds μ Q h => len_spAboveQ h) (fun cdv A outer s H E hr => ⟨td_is_above_nought, (dss_one (ds_ret (de_and (de_call G_is_number (hr.mono (by decide)) rfl T.m_is_number T.k_is_number T.b_is_number (da_cons (dv 1) da_nil)) (de_one (de_cmp (op_eqD hr.units) lo_eqD (de_call G_sign_of (hr.mono (by decide)) rfl T.m_sign_of T.k_sign_of T.b_sign_of (da_cons (dv 0) (da_cons (dv 1) da_nil))) de_int (nomark _)))))), fun ds μ Qd h => rd_is_above_nought h⟩)
theorem sc__law_above : FnScope ["_law_bag_here", "_law_d", "_law_x", "_law_sign_here"] ["_law_bag_here", "_law_d"] (defScope s__law_above) := ⟨rfl, rfl, rfl, by decide +kernel, rfl, by decide +kernel, by decide +kernel⟩
theorem ok__law_above (T : Txt K mg t) (G__law_number : FnOk P w K mg base CX0 3 t.a__law_number t.d__law_number ["_law_bag_here"] (spD K spNumberL)) (G__law_sign : FnOk P w K mg base CX0 1 t.a__law_sign t.d__law_sign ["_law_d", "_law_x"] (spD K spSign)) (G__law_take : FnOk P w K mg base CX0 1 t.a__law_take t.d__law_take ["_law_bag_here", "_law_many"] (spD K spTake)) (G__law_minus : FnOk P w K mg base CX0 1 t.a__law_minus t.d__law_minus ["_law_x"] (spD K spMinus)) : FnOk P w K mg base CX0 4 t.a__law_above t.d__law_above ["_law_bag_here", "_law_d"] (spD K spAboveL) := by
  have S := sc__law_above
  exact T.f__law_above.okD S (fun ds μ Q h => len_spAboveL h) (fun cdv A outer s H E hr => ⟨td__law_above, (dss_cons (ds_set (i := 2) S.nd rfl (Or.inl rfl) (de_call G__law_number (hr.mono (by decide)) rfl T.m__law_number T.k__law_number T.b__law_number (da_cons (dv 0) da_nil)))
    (dss_cons (ds_set (i := 3) S.nd rfl (Or.inl rfl) (de_call G__law_sign (hr.mono (by decide)) rfl T.m__law_sign T.k__law_sign T.b__law_sign (da_cons (dv 1) (da_cons (dv 2) da_nil))))
    (dss_cons (ds_if (dt_cmp (op_eqD hr.units) lo_eqD (dv 3) de_int (nomark _)) (dss_one (ds_ret (de_tup (da_cons (de_add de_int (de_call G__law_take (hr.mono (by decide)) rfl T.m__law_take T.k__law_take T.b__law_take (da_cons (dv 0) (da_cons de_int da_nil)))) (da_cons de_int (da_cons de_int da_nil)))))) dss_nil)
    (dss_one (ds_ret (de_if (dt_cmp op_gt lo_B (dv 3) de_int (nomark _)) (dv 2) (de_call G__law_minus (hr.mono (by decide)) rfl T.m__law_minus T.k__law_minus T.b__law_minus (da_cons (dv 2) da_nil)))))))), fun ds μ Qd h => rd__law_above h⟩)
theorem sc__law_is_mixture : FnScope ["_law_d", "_law_kind", "_law_shape_here", "_law_thing", "_law_both"] ["_law_d", "_law_kind", "_law_shape_here", "_law_thing"] (defScope s__law_is_mixture) := ⟨rfl, rfl, rfl, by decide +kernel, rfl, by decide +kernel, by decide +kernel⟩
theorem ok__law_is_mixture (T : Txt K mg t) (G__law_is_number : FnOk P w K mg base CX0 2 t.a__law_is_number t.d__law_is_number ["_law_thing"] (spD K spNumQ)) (G__law_times : FnOk P w K mg base CX0 3 t.a__law_times t.d__law_times ["_law_d", "_law_x", "_law_y"] (spD K spTimes)) (G__law_contrary : FnOk P w K mg base CX0 3 t.a__law_contrary t.d__law_contrary ["_law_d", "_law_x"] (spD K spContrary)) (G__law_plus : FnOk P w K mg base CX0 3 t.a__law_plus t.d__law_plus ["_law_x", "_law_y"] (spD K spPlus)) : FnOk P w K mg base CX0 4 t.a__law_is_mixture t.d__law_is_mixture ["_law_d", "_law_kind", "_law_shape_here", "_law_thing"] (spD K spIsMixQ) := by
  have S := sc__law_is_mixture
  exact T.f__law_is_mixture.okD S (fun ds μ Q h => len_spIsMixQ h) (fun cdv A outer s H E hr => ⟨td__law_is_mixture, (dss_cons (ds_if (DW.dt (dw_or (dt_not (dt_val (de_isi (kit_tuple _) rfl T.n_isinstance rfl T.n_tuple PyProof.Rows.Boot.«tuple» (dv 3)))) (dw_or (dt_cmp (op_neD hr.units) lo_eqD (de_len rfl T.n_len (da_cons (dv 3) da_nil)) de_int (nomark _)) (dw_or1 (dt_not (dt_val (de_all rfl rfl T.n_all (da_cons (de_comp (N' := ["_law_one"]) (cap := [none]) rfl (di_tup (dv 3)) (fun _ _ _ => (dg_name (i := 0) (show List.Nodup (["_law_one"] : List Str) by decide +kernel) rfl (Or.inl rfl))) (fun _ _ _ => difs_nil) (fun _ _ _ => (de_call G__law_is_number (hr.mono (by decide)) rfl T.m__law_is_number T.k__law_is_number T.b__law_is_number (da_cons (dv 0) da_nil))) rfl (by decide +kernel) rfl (by decide +kernel) (by intro _ _ h; first | exact h | exact cl1 h | exact cl2 (by decide +kernel) h | exact cl3 (by decide +kernel) h | exact cl_of (cl_c rfl cl_n) _ _ h | exact cl_of (cl_c rfl (cl_c rfl cl_n)) _ _ h | exact cl_of (cl_c rfl (cl_c rfl (cl_c rfl cl_n))) _ _ h | cases h) (has_of rfl) rfl (cap_of trivial)) da_nil)))))))) (dss_one (ds_ret de_bl)) dss_nil)
    (dss_cons (ds_if (dt_not (dt_val (de_all rfl rfl T.n_all (da_cons (de_comp (N' := ["_law_one"]) (cap := [none]) rfl (di_tup (dv 3)) (fun _ _ _ => (dg_name (i := 0) (show List.Nodup (["_law_one"] : List Str) by decide +kernel) rfl (Or.inl rfl))) (fun _ _ _ => difs_nil) (fun _ _ _ => (de_and (de_cmp (op_eqD hr.units) lo_eqD (de_ix (dv 0) de_int (fun _ _ => rfl)) de_int (nomark _)) (de_one (de_cmp op_ge lo_B (de_ix (dv 0) de_int (fun _ _ => rfl)) de_int (nomark _))))) rfl (by decide +kernel) rfl (by decide +kernel) (by intro _ _ h; first | exact h | exact cl1 h | exact cl2 (by decide +kernel) h | exact cl3 (by decide +kernel) h | exact cl_of (cl_c rfl cl_n) _ _ h | exact cl_of (cl_c rfl (cl_c rfl cl_n)) _ _ h | exact cl_of (cl_c rfl (cl_c rfl (cl_c rfl cl_n))) _ _ h | cases h) (has_of rfl) rfl (cap_of trivial)) da_nil)))) (dss_one (ds_ret de_bl)) dss_nil)
    (dss_cons (ds_set (i := 4) S.nd rfl (Or.inl rfl) (de_lst (da_cons (de_call G__law_times (hr.mono (by decide)) rfl T.m__law_times T.k__law_times T.b__law_times (da_cons (dv 0) (da_cons (de_ix (dv 3) de_int (fun _ _ => rfl)) (da_cons (dv 1) da_nil)))) (da_cons (de_call G__law_times (hr.mono (by decide)) rfl T.m__law_times T.k__law_times T.b__law_times (da_cons (dv 0) (da_cons (de_ix (dv 3) de_int (fun _ _ => rfl)) (da_cons (de_call G__law_contrary (hr.mono (by decide)) rfl T.m__law_contrary T.k__law_contrary T.b__law_contrary (da_cons (dv 0) (da_cons (dv 1) da_nil))) da_nil)))) da_nil))))
    (dss_one (ds_ret (de_cmp (op_eqD hr.units) lo_eqD (de_call G__law_plus (hr.mono (by decide)) rfl T.m__law_plus T.k__law_plus T.b__law_plus (da_cons (de_ix (dv 4) de_int (fun _ _ => rfl)) (da_cons (de_ix (dv 4) de_int (fun _ _ => rfl)) da_nil))) (dv 2) (nomark _))))))), fun ds μ Qd h => rd__law_is_mixture h⟩)
theorem sc_over : FnScope ["d", "x", "y"] ["d", "x", "y"] (defScope s_over) := ⟨rfl, rfl, rfl, by decide +kernel, rfl, by decide +kernel, by decide +kernel⟩
theorem ok_over (T : Txt K mg t) (G_times : FnOk P w K mg base CX0 4 t.a_times t.d_times ["d", "x", "y"] (spD K spTimes)) (G_contrary : FnOk P w K mg base CX0 4 t.a_contrary t.d_contrary ["d", "x"] (spD K spContrary)) : FnOk P w K mg base CX0 5 t.a_over t.d_over ["d", "x", "y"] (spD K spOver) := by
  have S := sc_over
  exact T.f_over.okD S (fun ds μ Q h => len_spOver h) (fun cdv A outer s H E hr => ⟨td_over, (dss_cons (ds_if (dt_cmp (op_eqD hr.units) lo_eqD (dv 2) (de_globT rfl T.c_NOUGHT) (nomark _)) (dss_one ds_never) dss_nil)
    (dss_one (ds_ret (de_call G_times (hr.mono (by decide)) rfl T.m_times T.k_times T.b_times (da_cons (dv 0) (da_cons (dv 1) (da_cons (de_call G_contrary (hr.mono (by decide)) rfl T.m_contrary T.k_contrary T.b_contrary (da_cons (dv 0) (da_cons (dv 2) da_nil))) da_nil))))))), fun ds μ Qd h => rd_over h⟩)
theorem sc_must_be_above_nought : FnScope ["d", "thing"] ["d", "thing"] (defScope s_must_be_above_nought) := ⟨rfl, rfl, rfl, by decide +kernel, rfl, by decide +kernel, by decide +kernel⟩
theorem okX_must_be_above_nought_NoNumber (T : Txt K mg t) (G_is_above_nought : FnOk P w K mg base CX0 4 t.a_is_above_nought t.d_is_above_nought ["d", "thing"] (spD K spAboveQ)) : FnOk P w K mg base (CX1 P w) 5 t.a_must_be_above_nought t.d_must_be_above_nought ["d", "thing"] (spX K (.ref t.cx_NoNumber) spxAboveQ) := by
  have S := sc_must_be_above_nought
  exact T.f_must_be_above_nought.okX S (fun ds μ Xk h => lenx_spxAboveQ h) (fun cdv A outer s H E hr => ⟨tdx_must_be_above_nought_NoNumber, (xss_here (xs_if (dt_not (dt_val (de_call G_is_above_nought (hr.mono (by decide)) rfl T.m_is_above_nought T.k_is_above_nought T.b_is_above_nought (da_cons (dv 0) (da_cons (dv 1) da_nil))))) (xss_here (xs_raise xok_def rfl T.m_NoNumber T.x_NoNumber)) xss_never)), fun ds μ Xk h => rdx_must_be_above_nought_NoNumber h⟩)
theorem ok_must_be_above_nought (T : Txt K mg t) (G_is_above_nought : FnOk P w K mg base CX0 4 t.a_is_above_nought t.d_is_above_nought ["d", "thing"] (spD K spAboveQ)) : FnOk P w K mg base CX0 5 t.a_must_be_above_nought t.d_must_be_above_nought ["d", "thing"] (spD K spMustAbove) := by
  have S := sc_must_be_above_nought
  exact T.f_must_be_above_nought.okD S (fun ds μ Q h => len_spMustAbove h) (fun cdv A outer s H E hr => ⟨td_must_be_above_nought, (dss_one (ds_if (dt_not (dt_val (de_call G_is_above_nought (hr.mono (by decide)) rfl T.m_is_above_nought T.k_is_above_nought T.b_is_above_nought (da_cons (dv 0) (da_cons (dv 1) da_nil))))) (dss_one ds_never) dss_nil)), fun ds μ Qd h => rd_must_be_above_nought h⟩)
theorem sc_skew : FnScope ["shape", "way"] ["shape", "way"] (defScope s_skew) := ⟨rfl, rfl, rfl, by decide +kernel, rfl, by decide +kernel, by decide +kernel⟩
theorem ok_skew (T : Txt K mg t) (G_less : FnOk P w K mg base CX0 4 t.a_less t.d_less ["x", "y"] (spD K spLess)) (G_mate : FnOk P w K mg base CX0 1 t.a_mate t.d_mate ["x"] (spD K spMate)) (G_plus : FnOk P w K mg base CX0 4 t.a_plus t.d_plus ["x", "y"] (spD K spPlus)) : FnOk P w K mg base CX0 5 t.a_skew t.d_skew ["shape", "way"] (spD K spSkew) := by
  have S := sc_skew
  exact T.f_skew.okD S (fun ds μ Q h => len_spSkew h) (fun cdv A outer s H E hr => ⟨td_skew, (dss_one (ds_ret (de_if (dt_cmp op_gt lo_B (dv 1) de_int (nomark _)) (de_call G_less (hr.mono (by decide)) rfl T.m_less T.k_less T.b_less (da_cons (dv 0) (da_cons (de_call G_mate (hr.mono (by decide)) rfl T.m_mate T.k_mate T.b_mate (da_cons (dv 0) da_nil)) da_nil))) (de_call G_plus (hr.mono (by decide)) rfl T.m_plus T.k_plus T.b_plus (da_cons (dv 0) (da_cons (de_call G_mate (hr.mono (by decide)) rfl T.m_mate T.k_mate T.b_mate (da_cons (dv 0) da_nil)) da_nil)))))), fun ds μ Qd h => rd_skew h⟩)
theorem sc__law_kinds : FnScope ["_law_bag_here", "_law_d", "_law_found", "_law_turn", "_law_way", "_law_part", "_law_kind"] ["_law_bag_here", "_law_d"] (defScope s__law_kinds) := ⟨rfl, rfl, rfl, by decide +kernel, rfl, by decide +kernel, by decide +kernel⟩
theorem ok__law_kinds (T : Txt K mg t) (G__law_above : FnOk P w K mg base CX0 4 t.a__law_above t.d__law_above ["_law_bag_here", "_law_d"] (spD K spAboveL)) (G__law_take : FnOk P w K mg base CX0 1 t.a__law_take t.d__law_take ["_law_bag_here", "_law_many"] (spD K spTake)) (G__law_contrary : FnOk P w K mg base CX0 3 t.a__law_contrary t.d__law_contrary ["_law_d", "_law_x"] (spD K spContrary)) (G__law_times : FnOk P w K mg base CX0 3 t.a__law_times t.d__law_times ["_law_d", "_law_x", "_law_y"] (spD K spTimes)) (G__law_low : FnOk P w K mg base CX0 2 t.a__law_low t.d__law_low ["_law_a", "_law_b", "_law_c"] (spD K spNumber)) : FnOk P w K mg base CX0 5 t.a__law_kinds t.d__law_kinds ["_law_bag_here", "_law_d"] (spD K spKindsL) := by
  have S := sc__law_kinds
  exact T.f__law_kinds.okD S (fun ds μ Q h => len_spKindsL h) (fun cdv A outer s H E hr => ⟨td__law_kinds, (dss_cons (ds_set (i := 2) S.nd rfl (Or.inl rfl) (de_lstM (da_cons (de_call G__law_above (hr.mono (by decide)) rfl T.m__law_above T.k__law_above T.b__law_above (da_cons (dv 0) (da_cons (dv 1) da_nil))) da_nil)))
    (dss_cons (ds_for PassesOwn.never rfl (di_rng1 rfl T.n_range (da_cons (de_call G__law_take (hr.mono (by decide)) rfl T.m__law_take T.k__law_take T.b__law_take (da_cons (dv 0) (da_cons de_int da_nil))) da_nil)) (dg_name (i := 3) S.nd rfl (Or.inl rfl)) (dss_cons (ds_set (i := 4) S.nd rfl (Or.inl rfl) (de_call G__law_take (hr.mono (by decide)) rfl T.m__law_take T.k__law_take T.b__law_take (da_cons (dv 0) (da_cons de_int da_nil))))
    (dss_cons (ds_set (i := 5) S.nd rfl (Or.inl rfl) (de_tup (da_cons (de_add de_int (de_call G__law_take (hr.mono (by decide)) rfl T.m__law_take T.k__law_take T.b__law_take (da_cons (dv 0) (da_cons de_int da_nil)))) (da_cons de_int (da_cons (de_add de_int (de_call G__law_take (hr.mono (by decide)) rfl T.m__law_take T.k__law_take T.b__law_take (da_cons (dv 0) (da_cons de_int da_nil)))) da_nil)))))
    (dss_cons (ds_set (i := 6) S.nd rfl (Or.inl rfl) (de_ix (de_lst (da_cons (de_ix (dv 2) de_int (fun _ _ => rfl)) (da_cons (de_call G__law_contrary (hr.mono (by decide)) rfl T.m__law_contrary T.k__law_contrary T.b__law_contrary (da_cons (dv 1) (da_cons (de_ix (dv 2) de_int (fun _ _ => rfl)) da_nil))) da_nil))) (de_mod (dv 4) de_int) (fun _ _ => rfl)))
    (dss_cons (ds_if (dt_cmp op_gt lo_B (dv 4) de_int (nomark _)) (dss_one (ds_set (i := 6) S.nd rfl (Or.inl rfl) (de_call G__law_above (hr.mono (by decide)) rfl T.m__law_above T.k__law_above T.b__law_above (da_cons (dv 0) (da_cons (dv 1) da_nil))))) (dss_one (ds_if (dt_cmp op_gt lo_B (dv 4) de_int (nomark _)) (dss_one (ds_set (i := 6) S.nd rfl (Or.inl rfl) (de_call G__law_times (hr.mono (by decide)) rfl T.m__law_times T.k__law_times T.b__law_times (da_cons (dv 1) (da_cons (dv 6) (da_cons (de_call G__law_low (hr.mono (by decide)) rfl T.m__law_low T.k__law_low T.b__law_low (da_cons (de_ix (dv 5) de_int (fun _ _ => rfl)) (da_cons (de_ix (dv 5) de_int (fun _ _ => rfl)) (da_cons (de_ix (dv 5) de_int (fun _ _ => rfl)) da_nil)))) da_nil)))))) dss_nil)))
    (dss_one (ds_expr (de_append (dv 2) (dv 6)))))))))
    (dss_one (ds_ret (de_tupOf rfl T.n_tuple (da_cons (dv 2) da_nil)))))), fun ds μ Qd h => rd__law_kinds h⟩)
theorem sc__law_bad_above : FnScope ["_law_bag_here", "_law_d", "_law_x", "_law_some"] ["_law_bag_here", "_law_d"] (defScope s__law_bad_above) := ⟨rfl, rfl, rfl, by decide +kernel, rfl, by decide +kernel, by decide +kernel⟩
theorem ok__law_bad_above (T : Txt K mg t) (G__law_above : FnOk P w K mg base CX0 4 t.a__law_above t.d__law_above ["_law_bag_here", "_law_d"] (spD K spAboveL)) (G__law_odd : FnOk P w K mg base CX0 2 t.a__law_odd t.d__law_odd ["_law_bag_here"] (spD K spOdd)) (G__law_minus : FnOk P w K mg base CX0 1 t.a__law_minus t.d__law_minus ["_law_x"] (spD K spMinus)) (G__law_take : FnOk P w K mg base CX0 1 t.a__law_take t.d__law_take ["_law_bag_here", "_law_many"] (spD K spTake)) : FnOk P w K mg base CX0 5 t.a__law_bad_above t.d__law_bad_above ["_law_bag_here", "_law_d"] (spD K spBadAbove) := by
  have S := sc__law_bad_above
  exact T.f__law_bad_above.okD S (fun ds μ Q h => len_spBadAbove h) (fun cdv A outer s H E hr => ⟨td__law_bad_above, (dss_cons (ds_set (i := 2) S.nd rfl (Or.inl rfl) (de_call G__law_above (hr.mono (by decide)) rfl T.m__law_above T.k__law_above T.b__law_above (da_cons (dv 0) (da_cons (dv 1) da_nil))))
    (dss_cons (ds_set (i := 3) S.nd rfl (Or.inl rfl) (de_lst (da_cons (de_call G__law_odd (hr.mono (by decide)) rfl T.m__law_odd T.k__law_odd T.b__law_odd (da_cons (dv 0) da_nil)) (da_cons (de_call G__law_minus (hr.mono (by decide)) rfl T.m__law_minus T.k__law_minus T.b__law_minus (da_cons (dv 2) da_nil)) (da_cons (de_tup (da_cons de_int (da_cons de_int (da_cons de_int da_nil)))) (da_cons (de_tup (da_cons (de_mul (de_ix (dv 2) de_int (fun _ _ => rfl)) de_int) (da_cons (de_mul (de_ix (dv 2) de_int (fun _ _ => rfl)) de_int) (da_cons (de_mul (de_ix (dv 2) de_int (fun _ _ => rfl)) de_int) da_nil)))) (da_cons (de_tup (da_cons (de_ix (dv 2) de_int (fun _ _ => rfl)) (da_cons (de_ix (dv 2) de_int (fun _ _ => rfl)) (da_cons (de_sub de_int (de_ix (dv 2) de_int (fun _ _ => rfl))) da_nil)))) (da_cons (de_list rfl T.n_list (da_cons (dv 2) da_nil)) (da_cons (de_slice (dv 2) do_none (do_some de_int)) (da_cons (de_plus (dv 2) (de_tup (da_cons de_int da_nil))) (da_cons (de_tup (da_cons (de_ix (dv 2) de_int (fun _ _ => rfl)) (da_cons de_non (da_cons (de_ix (dv 2) de_int (fun _ _ => rfl)) da_nil)))) (da_cons (de_tup (da_cons de_bl (da_cons de_int (da_cons de_int da_nil)))) (da_cons (de_tup (da_cons de_int (da_cons de_int (da_cons de_bl da_nil)))) (da_cons (de_tup (da_cons (dv 2) da_nil)) da_nil))))))))))))))
    (dss_one (ds_ret (de_ix (dv 3) (de_call G__law_take (hr.mono (by decide)) rfl T.m__law_take T.k__law_take T.b__law_take (da_cons (dv 0) (da_cons de_int da_nil))) (fun _ _ => rfl)))))), fun ds μ Qd h => rd__law_bad_above h⟩)
theorem sc__law_shape : FnScope ["_law_bag_here", "_law_d", "_law_kinds_here", "_law_kind", "_law_other", "_law_u", "_law_v", "_law_way", "_law_turned_kind", "_law_some"] ["_law_bag_here", "_law_d", "_law_kinds_here"] (defScope s__law_shape) := ⟨rfl, rfl, rfl, by decide +kernel, rfl, by decide +kernel, by decide +kernel⟩
theorem ok__law_shape (T : Txt K mg t) (G__law_take : FnOk P w K mg base CX0 1 t.a__law_take t.d__law_take ["_law_bag_here", "_law_many"] (spD K spTake)) (G__law_fraction : FnOk P w K mg base CX0 3 t.a__law_fraction t.d__law_fraction ["_law_bag_here"] (spD K spFracL)) (G__law_contrary : FnOk P w K mg base CX0 3 t.a__law_contrary t.d__law_contrary ["_law_d", "_law_x"] (spD K spContrary)) (G__law_above : FnOk P w K mg base CX0 4 t.a__law_above t.d__law_above ["_law_bag_here", "_law_d"] (spD K spAboveL)) (G__law_times : FnOk P w K mg base CX0 3 t.a__law_times t.d__law_times ["_law_d", "_law_x", "_law_y"] (spD K spTimes)) (G__law_plus : FnOk P w K mg base CX0 3 t.a__law_plus t.d__law_plus ["_law_x", "_law_y"] (spD K spPlus)) : FnOk P w K mg base CX0 5 t.a__law_shape t.d__law_shape ["_law_bag_here", "_law_d", "_law_kinds_here"] (spD K spShapeL) := by
  have S := sc__law_shape
  exact T.f__law_shape.okD S (fun ds μ Q h => len_spShapeL h) (fun cdv A outer s H E hr => ⟨td__law_shape, (dss_cons (ds_set (i := 3) S.nd rfl (Or.inl rfl) (de_ix (dv 2) (de_call G__law_take (hr.mono (by decide)) rfl T.m__law_take T.k__law_take T.b__law_take (da_cons (dv 0) (da_cons (de_len rfl T.n_len (da_cons (dv 2) da_nil)) da_nil))) (fun _ _ => rfl)))
    (dss_cons (ds_set (i := 4) S.nd rfl (Or.inl rfl) (de_ix (dv 2) (de_call G__law_take (hr.mono (by decide)) rfl T.m__law_take T.k__law_take T.b__law_take (da_cons (dv 0) (da_cons (de_len rfl T.n_len (da_cons (dv 2) da_nil)) da_nil))) (fun _ _ => rfl)))
    (dss_cons (ds_par (i := 5) (j := 6) rfl S.nd rfl rfl (by decide) rfl rfl (da_cons (de_call G__law_fraction (hr.mono (by decide)) rfl T.m__law_fraction T.k__law_fraction T.b__law_fraction (da_cons (dv 0) da_nil)) (da_cons (de_call G__law_fraction (hr.mono (by decide)) rfl T.m__law_fraction T.k__law_fraction T.b__law_fraction (da_cons (dv 0) da_nil)) da_nil)) rfl)
    (dss_cons (ds_set (i := 7) S.nd rfl (Or.inl rfl) (de_call G__law_take (hr.mono (by decide)) rfl T.m__law_take T.k__law_take T.b__law_take (da_cons (dv 0) (da_cons de_int da_nil))))
    (dss_cons (ds_set (i := 8) S.nd rfl (Or.inl rfl) (de_call G__law_contrary (hr.mono (by decide)) rfl T.m__law_contrary T.k__law_contrary T.b__law_contrary (da_cons (dv 1) (da_cons (dv 3) da_nil))))
    (dss_cons (ds_set (i := 9) S.nd rfl (Or.inl rfl) (de_lst (da_cons (de_call G__law_above (hr.mono (by decide)) rfl T.m__law_above T.k__law_above T.b__law_above (da_cons (dv 0) (da_cons (dv 1) da_nil))) (da_cons (de_call G__law_times (hr.mono (by decide)) rfl T.m__law_times T.k__law_times T.b__law_times (da_cons (dv 1) (da_cons (dv 3) (da_cons (dv 5) da_nil)))) (da_cons (de_call G__law_times (hr.mono (by decide)) rfl T.m__law_times T.k__law_times T.b__law_times (da_cons (dv 1) (da_cons (dv 8) (da_cons (dv 5) da_nil)))) (da_cons (de_call G__law_plus (hr.mono (by decide)) rfl T.m__law_plus T.k__law_plus T.b__law_plus (da_cons (de_call G__law_times (hr.mono (by decide)) rfl T.m__law_times T.k__law_times T.b__law_times (da_cons (dv 1) (da_cons (dv 3) (da_cons (dv 5) da_nil)))) (da_cons (de_call G__law_times (hr.mono (by decide)) rfl T.m__law_times T.k__law_times T.b__law_times (da_cons (dv 1) (da_cons (dv 8) (da_cons (dv 6) da_nil)))) da_nil))) (da_cons (de_call G__law_plus (hr.mono (by decide)) rfl T.m__law_plus T.k__law_plus T.b__law_plus (da_cons (dv 3) (da_cons (de_call G__law_times (hr.mono (by decide)) rfl T.m__law_times T.k__law_times T.b__law_times (da_cons (dv 1) (da_cons (dv 4) (da_cons (dv 6) da_nil)))) da_nil))) (da_cons (dv 5) (da_cons (de_call G__law_times (hr.mono (by decide)) rfl T.m__law_times T.k__law_times T.b__law_times (da_cons (dv 1) (da_cons (de_tup (da_cons de_int (da_cons de_int (da_cons de_int da_nil)))) (da_cons (dv 5) da_nil)))) (da_cons (de_call G__law_plus (hr.mono (by decide)) rfl T.m__law_plus T.k__law_plus T.b__law_plus (da_cons (de_call G__law_times (hr.mono (by decide)) rfl T.m__law_times T.k__law_times T.b__law_times (da_cons (dv 1) (da_cons (dv 8) (da_cons (dv 5) da_nil)))) (da_cons (de_tup (da_cons de_int (da_cons de_int (da_cons de_int da_nil)))) da_nil))) (da_cons (de_call G__law_plus (hr.mono (by decide)) rfl T.m__law_plus T.k__law_plus T.b__law_plus (da_cons (de_call G__law_times (hr.mono (by decide)) rfl T.m__law_times T.k__law_times T.b__law_times (da_cons (dv 1) (da_cons (dv 3) (da_cons (dv 5) da_nil)))) (da_cons (de_call G__law_times (hr.mono (by decide)) rfl T.m__law_times T.k__law_times T.b__law_times (da_cons (dv 1) (da_cons (dv 6) (da_cons (de_tup (da_cons de_int (da_cons de_int (da_cons de_int da_nil)))) da_nil)))) da_nil))) (da_cons (de_call G__law_above (hr.mono (by decide)) rfl T.m__law_above T.k__law_above T.b__law_above (da_cons (dv 0) (da_cons (dv 1) da_nil))) da_nil))))))))))))
    (dss_one (ds_ret (de_ix (dv 9) (dv 7) (fun _ _ => rfl)))))))))), fun ds μ Qd h => rd__law_shape h⟩)
theorem sc_shares_of : FnScope ["d", "first", "second", "shape", "whole", "part", "of_second", "of_first"] ["d", "first", "second", "shape"] (defScope s_shares_of) := ⟨rfl, rfl, rfl, by decide +kernel, rfl, by decide +kernel, by decide +kernel⟩
theorem ok_shares_of (T : Txt K mg t) (G_over : FnOk P w K mg base CX0 5 t.a_over t.d_over ["d", "x", "y"] (spD K spOver)) (G_number : FnOk P w K mg base CX0 3 t.a_number t.d_number ["a", "b", "c"] (spD K spNumber)) (G_less : FnOk P w K mg base CX0 4 t.a_less t.d_less ["x", "y"] (spD K spLess)) (G_times : FnOk P w K mg base CX0 4 t.a_times t.d_times ["d", "x", "y"] (spD K spTimes)) : FnOk P w K mg base CX0 6 t.a_shares_of t.d_shares_of ["d", "first", "second", "shape"] (spD K spShares) := by
  have S := sc_shares_of
  exact T.f_shares_of.okD S (fun ds μ Q h => len_spShares h) (fun cdv A outer s H E hr => ⟨td_shares_of, (dss_cons (ds_set (i := 4) S.nd rfl (Or.inl rfl) (de_call G_over (hr.mono (by decide)) rfl T.m_over T.k_over T.b_over (da_cons (dv 0) (da_cons (dv 3) (da_cons (dv 1) da_nil)))))
    (dss_cons (ds_set (i := 5) S.nd rfl (Or.inl rfl) (de_call G_over (hr.mono (by decide)) rfl T.m_over T.k_over T.b_over (da_cons (dv 0) (da_cons (dv 2) (da_cons (dv 1) da_nil)))))
    (dss_cons (ds_set (i := 6) S.nd rfl (Or.inl rfl) (de_call G_number (hr.mono (by decide)) rfl T.m_number T.k_number T.b_number (da_cons (de_mul (de_ix (dv 4) de_int (fun _ _ => rfl)) (de_ix (dv 5) de_int (fun _ _ => rfl))) (da_cons de_int (da_cons (de_mul (de_ix (dv 4) de_int (fun _ _ => rfl)) (de_ix (dv 5) de_int (fun _ _ => rfl))) da_nil)))))
    (dss_cons (ds_set (i := 7) S.nd rfl (Or.inl rfl) (de_call G_less (hr.mono (by decide)) rfl T.m_less T.k_less T.b_less (da_cons (dv 4) (da_cons (de_call G_times (hr.mono (by decide)) rfl T.m_times T.k_times T.b_times (da_cons (dv 0) (da_cons (dv 6) (da_cons (dv 5) da_nil)))) da_nil))))
    (dss_one (ds_ret (de_tup (da_cons (dv 7) (da_cons (dv 6) da_nil))))))))), fun ds μ Qd h => rd_shares_of h⟩)
theorem sc_bar_for : FnScope ["d", "kind", "shape", "way", "own", "floor", "turn", "last", "both"] ["d", "kind", "shape"] (defScope s_bar_for) := ⟨rfl, rfl, rfl, by decide +kernel, rfl, by decide +kernel, by decide +kernel⟩
theorem ok_bar_for (T : Txt K mg t) (G_sign_of : FnOk P w K mg base CX0 2 t.a_sign_of t.d_sign_of ["d", "x"] (spD K spSign)) (G_mate : FnOk P w K mg base CX0 1 t.a_mate t.d_mate ["x"] (spD K spMate)) (G_skew : FnOk P w K mg base CX0 5 t.a_skew t.d_skew ["shape", "way"] (spD K spSkew)) (G_over : FnOk P w K mg base CX0 5 t.a_over t.d_over ["d", "x", "y"] (spD K spOver)) (G_times : FnOk P w K mg base CX0 4 t.a_times t.d_times ["d", "x", "y"] (spD K spTimes)) : FnOk P w K mg base CX0 6 t.a_bar_for t.d_bar_for ["d", "kind", "shape"] (spD K spBarFor) := by
  have S := sc_bar_for
  exact T.f_bar_for.okD S (fun ds μ Q h => len_spBarFor h) (fun cdv A outer s H E hr => ⟨td_bar_for, (dss_cons (ds_set (i := 3) S.nd rfl (Or.inl rfl) (de_call G_sign_of (hr.mono (by decide)) rfl T.m_sign_of T.k_sign_of T.b_sign_of (da_cons (dv 0) (da_cons (de_call G_mate (hr.mono (by decide)) rfl T.m_mate T.k_mate T.b_mate (da_cons (dv 1) da_nil)) da_nil))))
    (dss_cons (ds_if (dt_cmp (op_neD hr.units) lo_eqD (de_call G_sign_of (hr.mono (by decide)) rfl T.m_sign_of T.k_sign_of T.b_sign_of (da_cons (dv 0) (da_cons (de_call G_mate (hr.mono (by decide)) rfl T.m_mate T.k_mate T.b_mate (da_cons (dv 2) da_nil)) da_nil))) (dv 3) (nomark _)) (dss_one (ds_ret (de_tup (da_cons (de_globT rfl T.c_ONE) (da_cons (de_tup (da_cons (de_globT rfl T.c_NOUGHT) (da_cons (de_globT rfl T.c_NOUGHT) (da_cons (de_globT rfl T.c_NOUGHT) (da_cons (de_tup (da_cons (dv 3) (da_cons de_int (da_cons de_int da_nil)))) da_nil))))) da_nil))))) dss_nil)
    (dss_cons (ds_set (i := 4) S.nd rfl (Or.inl rfl) (de_call G_skew (hr.mono (by decide)) rfl T.m_skew T.k_skew T.b_skew (da_cons (dv 1) (da_cons (dv 3) da_nil))))
    (dss_cons (ds_set (i := 5) S.nd rfl (Or.inl rfl) (de_call G_skew (hr.mono (by decide)) rfl T.m_skew T.k_skew T.b_skew (da_cons (dv 2) (da_cons (dv 3) da_nil))))
    (dss_cons (ds_set (i := 6) S.nd rfl (Or.inl rfl) (de_call G_sign_of (hr.mono (by decide)) rfl T.m_sign_of T.k_sign_of T.b_sign_of (da_cons (dv 0) (da_cons (dv 5) da_nil))))
    (dss_cons (ds_set (i := 7) S.nd rfl (Or.inl rfl) (de_call G_over (hr.mono (by decide)) rfl T.m_over T.k_over T.b_over (da_cons (dv 0) (da_cons (de_call G_times (hr.mono (by decide)) rfl T.m_times T.k_times T.b_times (da_cons (dv 0) (da_cons (de_tup (da_cons (dv 6) (da_cons de_int (da_cons de_int da_nil)))) (da_cons (dv 5) da_nil)))) (da_cons (de_call G_mate (hr.mono (by decide)) rfl T.m_mate T.k_mate T.b_mate (da_cons (dv 2) da_nil)) da_nil)))))
    (dss_cons (ds_set (i := 8) S.nd rfl (Or.inl rfl) (de_call G_over (hr.mono (by decide)) rfl T.m_over T.k_over T.b_over (da_cons (dv 0) (da_cons (de_call G_times (hr.mono (by decide)) rfl T.m_times T.k_times T.b_times (da_cons (dv 0) (da_cons (dv 4) (da_cons (dv 4) da_nil)))) (da_cons (de_call G_times (hr.mono (by decide)) rfl T.m_times T.k_times T.b_times (da_cons (dv 0) (da_cons (de_tup (da_cons de_int (da_cons de_int (da_cons de_int da_nil)))) (da_cons (de_call G_times (hr.mono (by decide)) rfl T.m_times T.k_times T.b_times (da_cons (dv 0) (da_cons (dv 1) (da_cons (de_call G_mate (hr.mono (by decide)) rfl T.m_mate T.k_mate T.b_mate (da_cons (dv 1) da_nil)) da_nil)))) da_nil)))) da_nil)))))
    (dss_one (ds_ret (de_tup (da_cons (de_globT rfl T.c_ONE) (da_cons (de_tup (da_cons (de_call G_over (hr.mono (by decide)) rfl T.m_over T.k_over T.b_over (da_cons (dv 0) (da_cons (dv 8) (da_cons (dv 7) da_nil)))) (da_cons (de_tup (da_cons (de_mul (dv 3) (dv 6)) (da_cons de_int (da_cons de_int da_nil)))) (da_cons (de_tup (da_cons (de_neg (dv 6)) (da_cons de_int (da_cons de_int da_nil)))) (da_cons (dv 7) da_nil))))) da_nil)))))))))))), fun ds μ Qd h => rd_bar_for h⟩)
theorem sc_mixture_of : FnScope ["d", "kind", "shape", "shares"] ["d", "kind", "shape"] (defScope s_mixture_of) := ⟨rfl, rfl, rfl, by decide +kernel, rfl, by decide +kernel, by decide +kernel⟩
theorem okX_mixture_of_NoNumber (T : Txt K mg t) (GX_must_be_above_nought_NoNumber : FnOk P w K mg base (CX1 P w) 5 t.a_must_be_above_nought t.d_must_be_above_nought ["d", "thing"] (spX K (.ref t.cx_NoNumber) spxAboveQ)) (G_must_be_above_nought : FnOk P w K mg base CX0 5 t.a_must_be_above_nought t.d_must_be_above_nought ["d", "thing"] (spD K spMustAbove)) : FnOk P w K mg base (CX1 P w) 7 t.a_mixture_of t.d_mixture_of ["d", "kind", "shape"] (spX K (.ref t.cx_NoNumber) spxMix) := by
  have S := sc_mixture_of
  exact T.f_mixture_of.okX S (fun ds μ Xk h => lenx_spxMix h) (fun cdv A outer s H E hr => ⟨tdx_mixture_of_NoNumber, (xss_or (xss_here (xs_expr (xe_call GX_must_be_above_nought_NoNumber (hr.mono (by decide)) rfl T.m_must_be_above_nought T.k_must_be_above_nought T.b_must_be_above_nought xok_def (da_cons (dv 0) (da_cons (dv 1) da_nil)))))
    (xss_next (ds_expr (de_call G_must_be_above_nought (hr.mono (by decide)) rfl T.m_must_be_above_nought T.k_must_be_above_nought T.b_must_be_above_nought (da_cons (dv 0) (da_cons (dv 1) da_nil))))
    (xss_here (xs_expr (xe_call GX_must_be_above_nought_NoNumber (hr.mono (by decide)) rfl T.m_must_be_above_nought T.k_must_be_above_nought T.b_must_be_above_nought xok_def (da_cons (dv 0) (da_cons (dv 2) da_nil))))))), fun ds μ Xk h => rdx_mixture_of_NoNumber h⟩)
theorem ok_mixture_of (T : Txt K mg t) (G_must_be_above_nought : FnOk P w K mg base CX0 5 t.a_must_be_above_nought t.d_must_be_above_nought ["d", "thing"] (spD K spMustAbove)) (G_times : FnOk P w K mg base CX0 4 t.a_times t.d_times ["d", "x", "y"] (spD K spTimes)) (G_over : FnOk P w K mg base CX0 5 t.a_over t.d_over ["d", "x", "y"] (spD K spOver)) (G_shares_of : FnOk P w K mg base CX0 6 t.a_shares_of t.d_shares_of ["d", "first", "second", "shape"] (spD K spShares)) (G_contrary : FnOk P w K mg base CX0 4 t.a_contrary t.d_contrary ["d", "x"] (spD K spContrary)) (G_is_share : FnOk P w K mg base CX0 3 t.a_is_share t.d_is_share ["d", "x"] (spD K spIsShare)) (G_bar_for : FnOk P w K mg base CX0 6 t.a_bar_for t.d_bar_for ["d", "kind", "shape"] (spD K spBarFor)) : FnOk P w K mg base CX0 7 t.a_mixture_of t.d_mixture_of ["d", "kind", "shape"] (spD K spMixture) := by
  have S := sc_mixture_of
  exact T.f_mixture_of.okD S (fun ds μ Q h => len_spMixture h) (fun cdv A outer s H E hr => ⟨td_mixture_of, (dss_cons (ds_expr (de_call G_must_be_above_nought (hr.mono (by decide)) rfl T.m_must_be_above_nought T.k_must_be_above_nought T.b_must_be_above_nought (da_cons (dv 0) (da_cons (dv 1) da_nil))))
    (dss_cons (ds_expr (de_call G_must_be_above_nought (hr.mono (by decide)) rfl T.m_must_be_above_nought T.k_must_be_above_nought T.b_must_be_above_nought (da_cons (dv 0) (da_cons (dv 2) da_nil))))
    (dss_cons (ds_if (dt_cmp (op_eqD hr.units) lo_eqD (de_ix (de_call G_times (hr.mono (by decide)) rfl T.m_times T.k_times T.b_times (da_cons (dv 0) (da_cons (dv 1) (da_cons (dv 1) da_nil)))) de_int (fun _ _ => rfl)) de_int (nomark _)) (dss_one (ds_set (i := 3) S.nd rfl (Or.inl rfl) (de_tup (da_cons (de_call G_over (hr.mono (by decide)) rfl T.m_over T.k_over T.b_over (da_cons (dv 0) (da_cons (dv 2) (da_cons (dv 1) da_nil)))) (da_cons (de_globT rfl T.c_NOUGHT) da_nil))))) (dss_one (ds_set (i := 3) S.nd rfl (Or.inl rfl) (de_call G_shares_of (hr.mono (by decide)) rfl T.m_shares_of T.k_shares_of T.b_shares_of (da_cons (dv 0) (da_cons (dv 1) (da_cons (de_call G_contrary (hr.mono (by decide)) rfl T.m_contrary T.k_contrary T.b_contrary (da_cons (dv 0) (da_cons (dv 1) da_nil))) (da_cons (dv 2) da_nil))))))))
    (dss_cons (ds_if (dt_val (de_all rfl rfl T.n_all (da_cons (de_comp (N' := ["share", "d"]) (cap := [none, some 0]) rfl (di_tup (dv 3)) (fun _ _ _ => (dg_name (i := 0) (show List.Nodup (["share", "d"] : List Str) by decide +kernel) rfl (Or.inl rfl))) (fun _ _ _ => difs_nil) (fun _ _ _ => (de_call G_is_share (hr.mono (by decide)) rfl T.m_is_share T.k_is_share T.b_is_share (da_cons (dv 1) (da_cons (dv 0) da_nil)))) rfl (by decide +kernel) rfl (by decide +kernel) (by intro _ _ h; first | exact h | exact cl1 h | exact cl2 (by decide +kernel) h | exact cl3 (by decide +kernel) h | exact cl_of (cl_c rfl cl_n) _ _ h | exact cl_of (cl_c rfl (cl_c rfl cl_n)) _ _ h | exact cl_of (cl_c rfl (cl_c rfl (cl_c rfl cl_n))) _ _ h | cases h) (has_of rfl) rfl (cap_of ⟨cap1, trivial⟩)) da_nil))) (dss_one (ds_ret (de_tup (da_cons de_str (da_cons (de_ix (dv 3) de_int (fun _ _ => rfl)) (da_cons (de_ix (dv 3) de_int (fun _ _ => rfl)) da_nil)))))) dss_nil)
    (dss_one (ds_ret (de_tup (da_cons de_str (da_cons (de_call G_bar_for (hr.mono (by decide)) rfl T.m_bar_for T.k_bar_for T.b_bar_for (da_cons (dv 0) (da_cons (dv 1) (da_cons (dv 2) da_nil)))) da_nil))))))))), fun ds μ Qd h => rd_mixture_of h⟩)
theorem sc__law_refusal : FnScope ["_law_deed", "e", "_law_some", "_law_names"] ["_law_deed"] (defScope s__law_refusal) := ⟨rfl, rfl, rfl, by decide +kernel, rfl, by decide +kernel, by decide +kernel⟩
theorem okR_NoNumber (T : Txt K mg t) : RefOk P w K mg base 8 t.a__law_refusal t.d__law_refusal "_law_deed" (.ref t.cx_NoNumber) "NoNumber" := by
  have S := sc__law_refusal
  exact ref_mk (k := 7) T.f__law_refusal sc__law_refusal rfl rfl rfl rfl T.m_FloorError T.e_NoNumber (by decide) (by decide) (by decide) (fun _ => rfl) (fun cdv A outer s H ea oe hc hr => (dss_cons (ds_set (i := 2) S.nd rfl (Or.inl rfl) (de_lst (da_cons (de_tup (da_cons de_str (da_cons (de_isE (ea := ea) (oe := oe) T.z_NoNumber (List.mem_cons_self) hc T.i_NoNumber_NoRoot rfl T.n_isinstance rfl T.m_NoRoot (dv 1)) da_nil))) (da_cons (de_tup (da_cons de_str (da_cons (de_isE (ea := ea) (oe := oe) T.z_NoNumber (List.mem_cons_self) hc T.i_NoNumber_NoNumber rfl T.n_isinstance rfl T.m_NoNumber (dv 1)) da_nil))) (da_cons (de_tup (da_cons de_str (da_cons (de_isE (ea := ea) (oe := oe) T.z_NoNumber (List.mem_cons_self) hc T.i_NoNumber_NoLaying rfl T.n_isinstance rfl T.m_NoLaying (dv 1)) da_nil))) (da_cons (de_tup (da_cons de_str (da_cons (de_isE (ea := ea) (oe := oe) T.z_NoNumber (List.mem_cons_self) hc T.i_NoNumber_NoTile rfl T.n_isinstance rfl T.m_NoTile (dv 1)) da_nil))) (da_cons (de_tup (da_cons de_str (da_cons (de_isE (ea := ea) (oe := oe) T.z_NoNumber (List.mem_cons_self) hc T.i_NoNumber_NoFit rfl T.n_isinstance rfl T.m_NoFit (dv 1)) da_nil))) (da_cons (de_tup (da_cons de_str (da_cons (de_isE (ea := ea) (oe := oe) T.z_NoNumber (List.mem_cons_self) hc T.i_NoNumber_NoKinds rfl T.n_isinstance rfl T.m_NoKinds (dv 1)) da_nil))) (da_cons (de_tup (da_cons de_str (da_cons (de_isE (ea := ea) (oe := oe) T.z_NoNumber (List.mem_cons_self) hc T.i_NoNumber_NoPlan rfl T.n_isinstance rfl T.m_NoPlan (dv 1)) da_nil))) (da_cons (de_tup (da_cons de_str (da_cons (de_isE (ea := ea) (oe := oe) T.z_NoNumber (List.mem_cons_self) hc T.i_NoNumber_NoSpot rfl T.n_isinstance rfl T.m_NoSpot (dv 1)) da_nil))) (da_cons (de_tup (da_cons de_str (da_cons (de_isE (ea := ea) (oe := oe) T.z_NoNumber (List.mem_cons_self) hc T.i_NoNumber_NoNet rfl T.n_isinstance rfl T.m_NoNet (dv 1)) da_nil))) (da_cons (de_tup (da_cons de_str (da_cons (de_isE (ea := ea) (oe := oe) T.z_NoNumber (List.mem_cons_self) hc T.i_NoNumber_NoText rfl T.n_isinstance rfl T.m_NoText (dv 1)) da_nil))) (da_cons (de_tup (da_cons de_str (da_cons (de_isE (ea := ea) (oe := oe) T.z_NoNumber (List.mem_cons_self) hc T.i_NoNumber_NoSaying rfl T.n_isinstance rfl T.m_NoSaying (dv 1)) da_nil))) (da_cons (de_tup (da_cons de_str (da_cons (de_isE (ea := ea) (oe := oe) T.z_NoNumber (List.mem_cons_self) hc T.i_NoNumber_NoName rfl T.n_isinstance rfl T.m_NoName (dv 1)) da_nil))) (da_cons (de_tup (da_cons de_str (da_cons (de_isE (ea := ea) (oe := oe) T.z_NoNumber (List.mem_cons_self) hc T.i_NoNumber_TooMany rfl T.n_isinstance rfl T.m_TooMany (dv 1)) da_nil))) da_nil)))))))))))))))
    (dss_cons (ds_setC (i := 3) (N' := ["_law_name", "_law_is_so"]) (cap := [none, none]) S.nd rfl rfl rfl (di_list (dv 2)) (fun _ _ _ => (dg_tup (n := 2) rfl (dgs_cons (dg_name (i := 0) (show List.Nodup (["_law_name", "_law_is_so"] : List Str) by decide +kernel) rfl (Or.inl rfl)) (dgs_cons (dg_name (i := 1) (show List.Nodup (["_law_name", "_law_is_so"] : List Str) by decide +kernel) rfl (Or.inl rfl)) dgs_nil)))) (fun _ _ _ => (difs_one (dt_val (dv 1)))) (fun _ _ _ => (dv 0)) rfl (by decide +kernel) rfl (by decide +kernel) (by intro _ _ h; first | exact h | exact cl1 h | exact cl2 (by decide +kernel) h | exact cl3 (by decide +kernel) h | exact cl_of (cl_c rfl cl_n) _ _ h | exact cl_of (cl_c rfl (cl_c rfl cl_n)) _ _ h | exact cl_of (cl_c rfl (cl_c rfl (cl_c rfl cl_n))) _ _ h | cases h) (has_of rfl) rfl (cap_of trivial))
    (dss_cons (ds_if (DW.dt (dw_and (dt_cmp (op_eqD hr.units) lo_eqD (de_len rfl T.n_len (da_cons (dv 3) da_nil)) de_int (nomark _)) (dw_and1 (dt_val (de_isEB (ea := ea) (oe := oe) (T := "ValueError") T.z_NoNumber (List.mem_cons_self) hc T.i_NoNumber_V rfl T.n_isinstance rfl T.n_ValueError PyProof.Rows.Boot.«ValueError» (dv 1)))))) (dss_one (ds_ret (de_ix (dv 3) de_int (fun _ _ => rfl)))) dss_nil)
    (dss_one (ds_ret de_str)))))) (fun ea fa μ Qd h => rd__law_refusal_NoNumber h)
theorem sc_law : FnScope ["_law_script", "_law_k", "_law_bag_here", "_law_d", "_law_kinds_here", "_law_kind", "_law_other", "_law_shape_here", "_law_more", "_law_ahead", "_law_turn", "_law_bad", "_law_wrong", "_law_deeds"] ["_law_script"] (defScope s_law) := ⟨rfl, rfl, rfl, by decide +kernel, rfl, by decide +kernel, by decide +kernel⟩
theorem ok_law (T : Txt K mg t) (G__law_bag : FnOk P w K mg base CX0 1 t.a__law_bag t.d__law_bag ["_law_script", "_law_at"] (spD K spBag)) (G__law_root : FnOk P w K mg base CX0 2 t.a__law_root t.d__law_root ["_law_bag_here"] (spD K spRootL)) (G__law_kinds : FnOk P w K mg base CX0 5 t.a__law_kinds t.d__law_kinds ["_law_bag_here", "_law_d"] (spD K spKindsL)) (G__law_shape : FnOk P w K mg base CX0 5 t.a__law_shape t.d__law_shape ["_law_bag_here", "_law_d", "_law_kinds_here"] (spD K spShapeL)) (G_mixture_of : FnOk P w K mg base CX0 7 t.a_mixture_of t.d_mixture_of ["d", "kind", "shape"] (spD K spMixture)) (G__law_bad_above : FnOk P w K mg base CX0 5 t.a__law_bad_above t.d__law_bad_above ["_law_bag_here", "_law_d"] (spD K spBadAbove)) (GR_NoNumber : RefOk P w K mg base 8 t.a__law_refusal t.d__law_refusal "_law_deed" (.ref t.cx_NoNumber) "NoNumber") (GX_mixture_of_NoNumber : FnOk P w K mg base (CX1 P w) 7 t.a_mixture_of t.d_mixture_of ["d", "kind", "shape"] (spX K (.ref t.cx_NoNumber) spxMix)) (G__law_is_mixture : FnOk P w K mg base CX0 4 t.a__law_is_mixture t.d__law_is_mixture ["_law_d", "_law_kind", "_law_shape_here", "_law_thing"] (spD K spIsMixQ)) : FnOk P w K mg base CX0 10 t.a_law t.d_law ["_law_script"] (spD K spLaw) := by
  have S := sc_law
  exact T.f_law.okDL S (fun ds μ Q h => len_spLaw h) (fun cdv hcv A outer s H E hr => ⟨td_law _ _ _, (dss_cons (ds_for PassesOwn.never rfl (di_rng1 rfl T.n_range (da_cons (de_max rfl rfl T.n_max (da_cons de_int (da_cons (de_min rfl rfl T.n_min (da_cons de_int (da_cons (de_len rfl T.n_len (da_cons (dv 0) da_nil)) da_nil))) da_nil))) da_nil)) (dg_name (i := 1) S.nd rfl (Or.inl rfl)) (dss_cons (ds_set (i := 2) S.nd rfl (Or.inl rfl) (de_call G__law_bag (hr.mono (by decide)) rfl T.m__law_bag T.k__law_bag T.b__law_bag (da_cons (dv 0) (da_cons (dv 1) da_nil))))
    (dss_cons (ds_set (i := 3) S.nd rfl (Or.inr rfl) (de_call G__law_root (hr.mono (by decide)) rfl T.m__law_root T.k__law_root T.b__law_root (da_cons (dv 2) da_nil)))
    (dss_cons (ds_set (i := 4) S.nd rfl (Or.inl rfl) (de_call G__law_kinds (hr.mono (by decide)) rfl T.m__law_kinds T.k__law_kinds T.b__law_kinds (da_cons (dv 2) (da_cons (dv 3) da_nil))))
    (dss_cons (ds_asg (de_tup (da_cons (de_ix (dv 4) de_int (fun _ _ => rfl)) (da_cons (de_ix (dv 4) (de_neg de_int) (fun _ _ => rfl)) da_nil))) (dg_tup (n := 2) rfl (dgs_cons (dg_name (i := 5) S.nd rfl (Or.inr rfl)) (dgs_cons (dg_name (i := 6) S.nd rfl (Or.inl rfl)) dgs_nil))))
    (dss_cons (ds_asg (de_tup (da_cons (de_call G__law_shape (hr.mono (by decide)) rfl T.m__law_shape T.k__law_shape T.b__law_shape (da_cons (dv 2) (da_cons (dv 3) (da_cons (dv 4) da_nil)))) (da_cons (de_call G__law_shape (hr.mono (by decide)) rfl T.m__law_shape T.k__law_shape T.b__law_shape (da_cons (dv 2) (da_cons (dv 3) (da_cons (dv 4) da_nil)))) da_nil))) (dg_tup (n := 2) rfl (dgs_cons (dg_name (i := 7) S.nd rfl (Or.inr rfl)) (dgs_cons (dg_name (i := 8) S.nd rfl (Or.inl rfl)) dgs_nil))))
    (dss_cons (ds_set (i := 9) S.nd rfl (Or.inl rfl) (de_lst (da_cons (de_call G_mixture_of (hr.mono (by decide)) rfl T.m_mixture_of T.k_mixture_of T.b_mixture_of (da_cons (dv 3) (da_cons (dv 5) (da_cons (dv 7) da_nil)))) (da_cons (de_call G_mixture_of (hr.mono (by decide)) rfl T.m_mixture_of T.k_mixture_of T.b_mixture_of (da_cons (dv 3) (da_cons (dv 6) (da_cons (dv 8) da_nil)))) da_nil))))
    (dss_cons (ds_for PassesOwn.never rfl (di_rng1 rfl T.n_range (da_cons de_int da_nil)) (dg_name (i := 10) S.nd rfl (Or.inl rfl)) (dss_cons (ds_asg (de_tup (da_cons (de_call G__law_bad_above (hr.mono (by decide)) rfl T.m__law_bad_above T.k__law_bad_above T.b__law_bad_above (da_cons (dv 2) (da_cons (dv 3) da_nil))) (da_cons (de_call G__law_bad_above (hr.mono (by decide)) rfl T.m__law_bad_above T.k__law_bad_above T.b__law_bad_above (da_cons (dv 2) (da_cons (dv 3) da_nil))) da_nil))) (dg_tup (n := 2) rfl (dgs_cons (dg_name (i := 11) S.nd rfl (Or.inr rfl)) (dgs_cons (dg_name (i := 12) S.nd rfl (Or.inr rfl)) dgs_nil))))
    (dss_cons (ds_set (i := 13) S.nd rfl (Or.inl rfl) (de_lstQ (da_cons (de_lam T.l_law (hcv.symm.trans T.dc_law) rfl rfl rfl) (da_cons (de_lam T.l_law (hcv.symm.trans T.dc_law) rfl rfl rfl) (da_cons (de_lam T.l_law (hcv.symm.trans T.dc_law) rfl rfl rfl) da_nil)))))
    (dss_one (ds_if (dt_not (dt_val (de_all rfl rfl T.n_all (da_cons (de_compQ (N' := ["_law_deed"]) (gx := ".") (cap := [none]) rfl (dv 13) (fun _ _ _ => (dg_name (i := 0) (show List.Nodup (["_law_deed", "."] : List Str) by decide +kernel) rfl (Or.inl rfl))) (fun fp s₃ H₃ pins σ ρo μ₁ G I3 S3 hfp hG => (de_cmp (op_eqD hr.units) lo_eqD (de_refuseV (gi := 1) (vi := 0) I3 hfp hG (refs_cons (ref_e (N' := (["_law_d", "_law_bad", "_law_shape_here"] : List Str)) (cap := [some 3, some 11, some 7]) GR_NoNumber (fun A' outer' s' H' fa c1 E hrL => (xe_call GX_mixture_of_NoNumber (hrL.mono (by decide)) rfl T.m_mixture_of T.k_mixture_of T.b_mixture_of xok_lam (da_cons (dv 0) (da_cons (dv 1) (da_cons (dv 2) da_nil))))) (fun _ _ _ => rfl) rfl rfl rfl (by decide +kernel) (by intro _ _ h; first | exact h | exact cl1 h | exact cl2 (by decide +kernel) h | exact cl3 (by decide +kernel) h | exact cl_of (cl_c rfl cl_n) _ _ h | exact cl_of (cl_c rfl (cl_c rfl cl_n)) _ _ h | exact cl_of (cl_c rfl (cl_c rfl (cl_c rfl cl_n))) _ _ h | exact cl_of (cl_c rfl (cl_c rfl (cl_c rfl (cl_c rfl cl_n)))) _ _ h | exact cl_of cl_n _ _ h | cases h) (has_of rfl) rfl (capL_of ⟨capL1, ⟨capL1, ⟨capL1, trivial⟩⟩⟩)) (refs_cons (ref_e (N' := (["_law_d", "_law_kind", "_law_wrong"] : List Str)) (cap := [some 3, some 5, some 12]) GR_NoNumber (fun A' outer' s' H' fa c1 E hrL => (xe_call GX_mixture_of_NoNumber (hrL.mono (by decide)) rfl T.m_mixture_of T.k_mixture_of T.b_mixture_of xok_lam (da_cons (dv 0) (da_cons (dv 1) (da_cons (dv 2) da_nil))))) (fun _ _ _ => rfl) rfl rfl rfl (by decide +kernel) (by intro _ _ h; first | exact h | exact cl1 h | exact cl2 (by decide +kernel) h | exact cl3 (by decide +kernel) h | exact cl_of (cl_c rfl cl_n) _ _ h | exact cl_of (cl_c rfl (cl_c rfl cl_n)) _ _ h | exact cl_of (cl_c rfl (cl_c rfl (cl_c rfl cl_n))) _ _ h | exact cl_of (cl_c rfl (cl_c rfl (cl_c rfl (cl_c rfl cl_n)))) _ _ h | exact cl_of cl_n _ _ h | cases h) (has_of rfl) rfl (capL_of ⟨capL1, ⟨capL1, ⟨capL1, trivial⟩⟩⟩)) (refs_cons (ref_e (N' := (["_law_d", "_law_bad", "_law_wrong"] : List Str)) (cap := [some 3, some 11, some 12]) GR_NoNumber (fun A' outer' s' H' fa c1 E hrL => (xe_call GX_mixture_of_NoNumber (hrL.mono (by decide)) rfl T.m_mixture_of T.k_mixture_of T.b_mixture_of xok_lam (da_cons (dv 0) (da_cons (dv 1) (da_cons (dv 2) da_nil))))) (fun _ _ _ => rfl) rfl rfl rfl (by decide +kernel) (by intro _ _ h; first | exact h | exact cl1 h | exact cl2 (by decide +kernel) h | exact cl3 (by decide +kernel) h | exact cl_of (cl_c rfl cl_n) _ _ h | exact cl_of (cl_c rfl (cl_c rfl cl_n)) _ _ h | exact cl_of (cl_c rfl (cl_c rfl (cl_c rfl cl_n))) _ _ h | exact cl_of (cl_c rfl (cl_c rfl (cl_c rfl (cl_c rfl cl_n)))) _ _ h | exact cl_of cl_n _ _ h | cases h) (has_of rfl) rfl (capL_of ⟨capL1, ⟨capL1, ⟨capL1, trivial⟩⟩⟩)) refs_nil))) (hr.mono (by decide)) (by decide) rfl T.m__law_refusal T.k__law_refusal T.b__law_refusal rfl (Or.inl rfl)) de_str (nomark _))) rfl (by decide +kernel) rfl (by decide +kernel) (by intro _ _ h; first | exact h | exact cl1 h | exact cl2 (by decide +kernel) h | exact cl3 (by decide +kernel) h | exact cl_of (cl_c rfl cl_n) _ _ h | exact cl_of (cl_c rfl (cl_c rfl cl_n)) _ _ h | exact cl_of (cl_c rfl (cl_c rfl (cl_c rfl cl_n))) _ _ h | exact cl_of (cl_c rfl (cl_c rfl (cl_c rfl (cl_c rfl cl_n)))) _ _ h | exact cl_of cl_n _ _ h | cases h) (has_of rfl) rfl (cap_of trivial) rfl) da_nil)))) (dss_one (ds_ret de_bl)) dss_nil)))))
    (dss_cons (ds_if (dt_cmp (op_neD hr.units) lo_eqD (dv 9) (de_lst (da_cons (de_call G_mixture_of (hr.mono (by decide)) rfl T.m_mixture_of T.k_mixture_of T.b_mixture_of (da_cons (dv 3) (da_cons (dv 5) (da_cons (dv 7) da_nil)))) (da_cons (de_call G_mixture_of (hr.mono (by decide)) rfl T.m_mixture_of T.k_mixture_of T.b_mixture_of (da_cons (dv 3) (da_cons (dv 6) (da_cons (dv 8) da_nil)))) da_nil))) (nomark _)) (dss_one (ds_ret de_bl)) dss_nil)
    (dss_one (ds_if (dt_cmp (op_eqD hr.units) lo_eqD (de_call G__law_is_mixture (hr.mono (by decide)) rfl T.m__law_is_mixture T.k__law_is_mixture T.b__law_is_mixture (da_cons (dv 3) (da_cons (dv 5) (da_cons (dv 7) (da_cons (de_slice (de_ix (dv 9) de_int (fun _ _ => rfl)) (do_some de_int) do_none) da_nil))))) (de_cmp (op_eqD hr.units) lo_eqD (de_ix (de_ix (dv 9) de_int (fun _ _ => rfl)) de_int (fun _ _ => rfl)) de_str (nomark _)) (nomark _)) (dss_one (ds_ret de_bl)) dss_nil)))))))))))
    (dss_one (ds_ret de_bl))), fun ds μ Qd h => rd_law _ _ _ h⟩)
theorem ok_all (T : Txt K mg t) : FnOk P w K mg base CX0 10 t.a_law t.d_law ["_law_script"] (spD K spLaw) := by
  have G_is_whole : FnOk P w K mg base CX0 1 t.a_is_whole t.d_is_whole ["thing"] (spD K spWhole) := ok_is_whole T
  have G_common_divisor : FnOk P w K mg base CX0 1 t.a_common_divisor t.d_common_divisor ["a", "b"] (spD K spGcd) := ok_common_divisor T
  have G_mate : FnOk P w K mg base CX0 1 t.a_mate t.d_mate ["x"] (spD K spMate) := ok_mate T
  have G_sign_of_parts : FnOk P w K mg base CX0 1 t.a_sign_of_parts t.d_sign_of_parts ["d", "a", "b"] (spD K spSignP) := ok_sign_of_parts T
  have G__law_bag : FnOk P w K mg base CX0 1 t.a__law_bag t.d__law_bag ["_law_script", "_law_at"] (spD K spBag) := ok__law_bag T
  have G__law_take : FnOk P w K mg base CX0 1 t.a__law_take t.d__law_take ["_law_bag_here", "_law_many"] (spD K spTake) := ok__law_take T
  have G__law_is_whole : FnOk P w K mg base CX0 1 t.a__law_is_whole t.d__law_is_whole ["_law_thing"] (spD K spWhole) := ok__law_is_whole T
  have G__law_shared : FnOk P w K mg base CX0 1 t.a__law_shared t.d__law_shared ["_law_one", "_law_other"] (spD K spGcd) := ok__law_shared T
  have G__law_minus : FnOk P w K mg base CX0 1 t.a__law_minus t.d__law_minus ["_law_x"] (spD K spMinus) := ok__law_minus T
  have G__law_sign : FnOk P w K mg base CX0 1 t.a__law_sign t.d__law_sign ["_law_d", "_law_x"] (spD K spSign) := ok__law_sign T
  have G_divisor_of_all : FnOk P w K mg base CX0 2 t.a_divisor_of_all t.d_divisor_of_all ["a", "b", "c"] (spD K spDiv3) := ok_divisor_of_all T G_common_divisor
  have G_sign_of : FnOk P w K mg base CX0 2 t.a_sign_of t.d_sign_of ["d", "x"] (spD K spSign) := ok_sign_of T G_sign_of_parts
  have G__law_low : FnOk P w K mg base CX0 2 t.a__law_low t.d__law_low ["_law_a", "_law_b", "_law_c"] (spD K spNumber) := ok__law_low T G__law_shared
  have G__law_is_number : FnOk P w K mg base CX0 2 t.a__law_is_number t.d__law_is_number ["_law_thing"] (spD K spNumQ) := ok__law_is_number T G__law_is_whole G__law_shared
  have G__law_root : FnOk P w K mg base CX0 2 t.a__law_root t.d__law_root ["_law_bag_here"] (spD K spRootL) := ok__law_root T G__law_take
  have G__law_odd : FnOk P w K mg base CX0 2 t.a__law_odd t.d__law_odd ["_law_bag_here"] (spD K spOdd) := ok__law_odd T G__law_take
  have G_is_number : FnOk P w K mg base CX0 3 t.a_is_number t.d_is_number ["thing"] (spD K spNumQ) := ok_is_number T G_is_whole G_divisor_of_all
  have G_number : FnOk P w K mg base CX0 3 t.a_number t.d_number ["a", "b", "c"] (spD K spNumber) := ok_number T G_divisor_of_all
  have G_is_share : FnOk P w K mg base CX0 3 t.a_is_share t.d_is_share ["d", "x"] (spD K spIsShare) := ok_is_share T G_sign_of
  have G__law_plus : FnOk P w K mg base CX0 3 t.a__law_plus t.d__law_plus ["_law_x", "_law_y"] (spD K spPlus) := ok__law_plus T G__law_low
  have G__law_times : FnOk P w K mg base CX0 3 t.a__law_times t.d__law_times ["_law_d", "_law_x", "_law_y"] (spD K spTimes) := ok__law_times T G__law_low
  have G__law_contrary : FnOk P w K mg base CX0 3 t.a__law_contrary t.d__law_contrary ["_law_d", "_law_x"] (spD K spContrary) := ok__law_contrary T G__law_low
  have G__law_number : FnOk P w K mg base CX0 3 t.a__law_number t.d__law_number ["_law_bag_here"] (spD K spNumberL) := ok__law_number T G__law_take G__law_low
  have G__law_fraction : FnOk P w K mg base CX0 3 t.a__law_fraction t.d__law_fraction ["_law_bag_here"] (spD K spFracL) := ok__law_fraction T G__law_take G__law_low
  have G_plus : FnOk P w K mg base CX0 4 t.a_plus t.d_plus ["x", "y"] (spD K spPlus) := ok_plus T G_number
  have G_less : FnOk P w K mg base CX0 4 t.a_less t.d_less ["x", "y"] (spD K spLess) := ok_less T G_number
  have G_times : FnOk P w K mg base CX0 4 t.a_times t.d_times ["d", "x", "y"] (spD K spTimes) := ok_times T G_number
  have G_contrary : FnOk P w K mg base CX0 4 t.a_contrary t.d_contrary ["d", "x"] (spD K spContrary) := ok_contrary T G_number
  have G_is_above_nought : FnOk P w K mg base CX0 4 t.a_is_above_nought t.d_is_above_nought ["d", "thing"] (spD K spAboveQ) := ok_is_above_nought T G_is_number G_sign_of
  have G__law_above : FnOk P w K mg base CX0 4 t.a__law_above t.d__law_above ["_law_bag_here", "_law_d"] (spD K spAboveL) := ok__law_above T G__law_number G__law_sign G__law_take G__law_minus
  have G__law_is_mixture : FnOk P w K mg base CX0 4 t.a__law_is_mixture t.d__law_is_mixture ["_law_d", "_law_kind", "_law_shape_here", "_law_thing"] (spD K spIsMixQ) := ok__law_is_mixture T G__law_is_number G__law_times G__law_contrary G__law_plus
  have G_over : FnOk P w K mg base CX0 5 t.a_over t.d_over ["d", "x", "y"] (spD K spOver) := ok_over T G_times G_contrary
  have GX_must_be_above_nought_NoNumber : FnOk P w K mg base (CX1 P w) 5 t.a_must_be_above_nought t.d_must_be_above_nought ["d", "thing"] (spX K (.ref t.cx_NoNumber) spxAboveQ) := okX_must_be_above_nought_NoNumber T G_is_above_nought
  have G_must_be_above_nought : FnOk P w K mg base CX0 5 t.a_must_be_above_nought t.d_must_be_above_nought ["d", "thing"] (spD K spMustAbove) := ok_must_be_above_nought T G_is_above_nought
  have G_skew : FnOk P w K mg base CX0 5 t.a_skew t.d_skew ["shape", "way"] (spD K spSkew) := ok_skew T G_less G_mate G_plus
  have G__law_kinds : FnOk P w K mg base CX0 5 t.a__law_kinds t.d__law_kinds ["_law_bag_here", "_law_d"] (spD K spKindsL) := ok__law_kinds T G__law_above G__law_take G__law_contrary G__law_times G__law_low
  have G__law_bad_above : FnOk P w K mg base CX0 5 t.a__law_bad_above t.d__law_bad_above ["_law_bag_here", "_law_d"] (spD K spBadAbove) := ok__law_bad_above T G__law_above G__law_odd G__law_minus G__law_take
  have G__law_shape : FnOk P w K mg base CX0 5 t.a__law_shape t.d__law_shape ["_law_bag_here", "_law_d", "_law_kinds_here"] (spD K spShapeL) := ok__law_shape T G__law_take G__law_fraction G__law_contrary G__law_above G__law_times G__law_plus
  have G_shares_of : FnOk P w K mg base CX0 6 t.a_shares_of t.d_shares_of ["d", "first", "second", "shape"] (spD K spShares) := ok_shares_of T G_over G_number G_less G_times
  have G_bar_for : FnOk P w K mg base CX0 6 t.a_bar_for t.d_bar_for ["d", "kind", "shape"] (spD K spBarFor) := ok_bar_for T G_sign_of G_mate G_skew G_over G_times
  have GX_mixture_of_NoNumber : FnOk P w K mg base (CX1 P w) 7 t.a_mixture_of t.d_mixture_of ["d", "kind", "shape"] (spX K (.ref t.cx_NoNumber) spxMix) := okX_mixture_of_NoNumber T GX_must_be_above_nought_NoNumber G_must_be_above_nought
  have G_mixture_of : FnOk P w K mg base CX0 7 t.a_mixture_of t.d_mixture_of ["d", "kind", "shape"] (spD K spMixture) := ok_mixture_of T G_must_be_above_nought G_times G_over G_shares_of G_contrary G_is_share G_bar_for
  have GR_NoNumber : RefOk P w K mg base 8 t.a__law_refusal t.d__law_refusal "_law_deed" (.ref t.cx_NoNumber) "NoNumber" := okR_NoNumber T
  exact ok_law T G__law_bag G__law_root G__law_kinds G__law_shape G_mixture_of G__law_bad_above GR_NoNumber GX_mixture_of_NoNumber G__law_is_mixture
end
theorem all_mk {l : PySem.W.OpenLaw} {w : World} {K : PySem.W.Frag} {h : Heap} {mg : Str → Option Value} {fa : Addr} (X : K.In h) (G : h.Ns mainGlobals mg) (hfa : mg "law" = some (.ref fa))
    {f0 : Addr} {od0 an0 : Option Addr} {sl0 : Array (Option Value)} {oc0 kV0 dc0 pm0 cd0 ct0 : Value} {f1 : Addr} {od1 an1 : Option Addr} {sl1 : Array (Option Value)} {oc1 kV1 dc1 pm1 cd1 ct1 : Value} {f2 : Addr} {od2 an2 : Option Addr} {sl2 : Array (Option Value)} {oc2 kV2 dc2 pm2 cd2 ct2 : Value} {f3 : Addr} {od3 an3 : Option Addr} {sl3 : Array (Option Value)} {oc3 kV3 dc3 pm3 cd3 ct3 : Value} {f4 : Addr} {od4 an4 : Option Addr} {sl4 : Array (Option Value)} {oc4 kV4 dc4 pm4 cd4 ct4 : Value} {f5 : Addr} {od5 an5 : Option Addr} {sl5 : Array (Option Value)} {oc5 kV5 dc5 pm5 cd5 ct5 : Value} {f6 : Addr} {od6 an6 : Option Addr} {sl6 : Array (Option Value)} {oc6 kV6 dc6 pm6 cd6 ct6 : Value} {f7 : Addr} {od7 an7 : Option Addr} {sl7 : Array (Option Value)} {oc7 kV7 dc7 pm7 cd7 ct7 : Value} {f8 : Addr} {od8 an8 : Option Addr} {sl8 : Array (Option Value)} {oc8 kV8 dc8 pm8 cd8 ct8 : Value} {f9 : Addr} {od9 an9 : Option Addr} {sl9 : Array (Option Value)} {oc9 kV9 dc9 pm9 cd9 ct9 : Value} {f10 : Addr} {od10 an10 : Option Addr} {sl10 : Array (Option Value)} {oc10 kV10 dc10 pm10 cd10 ct10 : Value} {f11 : Addr} {od11 an11 : Option Addr} {sl11 : Array (Option Value)} {oc11 kV11 dc11 pm11 cd11 ct11 : Value} {f12 : Addr} {od12 an12 : Option Addr} {sl12 : Array (Option Value)} {oc12 kV12 dc12 pm12 cd12 ct12 : Value} {f13 : Addr} {od13 an13 : Option Addr} {sl13 : Array (Option Value)} {oc13 kV13 dc13 pm13 cd13 ct13 : Value} {f14 : Addr} {od14 an14 : Option Addr} {sl14 : Array (Option Value)} {oc14 kV14 dc14 pm14 cd14 ct14 : Value} {f15 : Addr} {od15 an15 : Option Addr} {sl15 : Array (Option Value)} {oc15 kV15 dc15 pm15 cd15 ct15 : Value} {f16 : Addr} {od16 an16 : Option Addr} {sl16 : Array (Option Value)} {oc16 kV16 dc16 pm16 cd16 ct16 : Value} {f17 : Addr} {od17 an17 : Option Addr} {sl17 : Array (Option Value)} {oc17 kV17 dc17 pm17 cd17 ct17 : Value} {f18 : Addr} {od18 an18 : Option Addr} {sl18 : Array (Option Value)} {oc18 kV18 dc18 pm18 cd18 ct18 : Value} {f19 : Addr} {od19 an19 : Option Addr} {sl19 : Array (Option Value)} {oc19 kV19 dc19 pm19 cd19 ct19 : Value} {f20 : Addr} {od20 an20 : Option Addr} {sl20 : Array (Option Value)} {oc20 kV20 dc20 pm20 cd20 ct20 : Value} {f21 : Addr} {od21 an21 : Option Addr} {sl21 : Array (Option Value)} {oc21 kV21 dc21 pm21 cd21 ct21 : Value} {f22 : Addr} {od22 an22 : Option Addr} {sl22 : Array (Option Value)} {oc22 kV22 dc22 pm22 cd22 ct22 : Value} {f23 : Addr} {od23 an23 : Option Addr} {sl23 : Array (Option Value)} {oc23 kV23 dc23 pm23 cd23 ct23 : Value} {f24 : Addr} {od24 an24 : Option Addr} {sl24 : Array (Option Value)} {oc24 kV24 dc24 pm24 cd24 ct24 : Value} {f25 : Addr} {od25 an25 : Option Addr} {sl25 : Array (Option Value)} {oc25 kV25 dc25 pm25 cd25 ct25 : Value} {f26 : Addr} {od26 an26 : Option Addr} {sl26 : Array (Option Value)} {oc26 kV26 dc26 pm26 cd26 ct26 : Value} {f27 : Addr} {od27 an27 : Option Addr} {sl27 : Array (Option Value)} {oc27 kV27 dc27 pm27 cd27 ct27 : Value} {f28 : Addr} {od28 an28 : Option Addr} {sl28 : Array (Option Value)} {oc28 kV28 dc28 pm28 cd28 ct28 : Value} {f29 : Addr} {od29 an29 : Option Addr} {sl29 : Array (Option Value)} {oc29 kV29 dc29 pm29 cd29 ct29 : Value} {f30 : Addr} {od30 an30 : Option Addr} {sl30 : Array (Option Value)} {oc30 kV30 dc30 pm30 cd30 ct30 : Value} {f31 : Addr} {od31 an31 : Option Addr} {sl31 : Array (Option Value)} {oc31 kV31 dc31 pm31 cd31 ct31 : Value} {f32 : Addr} {od32 an32 : Option Addr} {sl32 : Array (Option Value)} {oc32 kV32 dc32 pm32 cd32 ct32 : Value} {f33 : Addr} {od33 an33 : Option Addr} {sl33 : Array (Option Value)} {oc33 kV33 dc33 pm33 cd33 ct33 : Value} {f34 : Addr} {od34 an34 : Option Addr} {sl34 : Array (Option Value)} {oc34 kV34 dc34 pm34 cd34 ct34 : Value} {f35 : Addr} {od35 an35 : Option Addr} {sl35 : Array (Option Value)} {oc35 kV35 dc35 pm35 cd35 ct35 : Value} {f36 : Addr} {od36 an36 : Option Addr} {sl36 : Array (Option Value)} {oc36 kV36 dc36 pm36 cd36 ct36 : Value} {f37 : Addr} {od37 an37 : Option Addr} {sl37 : Array (Option Value)} {oc37 kV37 dc37 pm37 cd37 ct37 : Value} {f38 : Addr} {od38 an38 : Option Addr} {sl38 : Array (Option Value)} {oc38 kV38 dc38 pm38 cd38 ct38 : Value} {f39 : Addr} {od39 an39 : Option Addr} {sl39 : Array (Option Value)} {oc39 kV39 dc39 pm39 cd39 ct39 : Value} {f40 : Addr} {od40 an40 : Option Addr} {sl40 : Array (Option Value)} {oc40 kV40 dc40 pm40 cd40 ct40 : Value} {f41 : Addr} {od41 an41 : Option Addr} {sl41 : Array (Option Value)} {oc41 kV41 dc41 pm41 cd41 ct41 : Value} {g0 : Addr} {go0 : Option Addr} {q0a q0b q0c : Tok} {gn0 : Nat} {gs0 : Array (Option Value)} {g1 : Addr} {go1 : Option Addr} {q1a q1b q1c : Tok} {gn1 : Nat} {gs1 : Array (Option Value)} {cx_FloorError : Addr} {cx_NoRoot : Addr} {cx_NoNumber : Addr} {cx_NoLaying : Addr} {cx_NoTile : Addr} {cx_NoFit : Addr} {cx_NoKinds : Addr} {cx_NoPlan : Addr} {cx_NoSpot : Addr} {cx_NoNet : Addr} {cx_NoText : Addr} {cx_NoSaying : Addr} {cx_NoName : Addr} {cx_TooMany : Addr} {bm : Addr} {bsl : Array (Option Value)} {cd_law P_law : Addr}
    (a0 : PySem.W.nsIn K mainGlobals "is_whole" = some (some (.ref f0))) (l0 : K.lookup f0 = some ⟨oc0, od0, .func (PySem.W.fnOf "is_whole" "is_whole" (defArgs s_is_whole) (defBody s_is_whole) (defScope s_is_whole) .none kV0 dc0 pm0 an0 cd0 ct0), sl0⟩) (c0 : PySem.W.codeIn K cd0 "is_whole" = true) (k0 : PySem.W.keepIn K (.ref f0) = true)
    (a1 : PySem.W.nsIn K mainGlobals "common_divisor" = some (some (.ref f1))) (l1 : K.lookup f1 = some ⟨oc1, od1, .func (PySem.W.fnOf "common_divisor" "common_divisor" (defArgs s_common_divisor) (defBody s_common_divisor) (defScope s_common_divisor) .none kV1 dc1 pm1 an1 cd1 ct1), sl1⟩) (c1 : PySem.W.codeIn K cd1 "common_divisor" = true) (k1 : PySem.W.keepIn K (.ref f1) = true)
    (a2 : PySem.W.nsIn K mainGlobals "is_number" = some (some (.ref f2))) (l2 : K.lookup f2 = some ⟨oc2, od2, .func (PySem.W.fnOf "is_number" "is_number" (defArgs s_is_number) (defBody s_is_number) (defScope s_is_number) .none kV2 dc2 pm2 an2 cd2 ct2), sl2⟩) (c2 : PySem.W.codeIn K cd2 "is_number" = true) (k2 : PySem.W.keepIn K (.ref f2) = true)
    (a3 : PySem.W.nsIn K mainGlobals "divisor_of_all" = some (some (.ref f3))) (l3 : K.lookup f3 = some ⟨oc3, od3, .func (PySem.W.fnOf "divisor_of_all" "divisor_of_all" (defArgs s_divisor_of_all) (defBody s_divisor_of_all) (defScope s_divisor_of_all) .none kV3 dc3 pm3 an3 cd3 ct3), sl3⟩) (c3 : PySem.W.codeIn K cd3 "divisor_of_all" = true) (k3 : PySem.W.keepIn K (.ref f3) = true)
    (a4 : PySem.W.nsIn K mainGlobals "number" = some (some (.ref f4))) (l4 : K.lookup f4 = some ⟨oc4, od4, .func (PySem.W.fnOf "number" "number" (defArgs s_number) (defBody s_number) (defScope s_number) .none kV4 dc4 pm4 an4 cd4 ct4), sl4⟩) (c4 : PySem.W.codeIn K cd4 "number" = true) (k4 : PySem.W.keepIn K (.ref f4) = true)
    (a5 : PySem.W.nsIn K mainGlobals "mate" = some (some (.ref f5))) (l5 : K.lookup f5 = some ⟨oc5, od5, .func (PySem.W.fnOf "mate" "mate" (defArgs s_mate) (defBody s_mate) (defScope s_mate) .none kV5 dc5 pm5 an5 cd5 ct5), sl5⟩) (c5 : PySem.W.codeIn K cd5 "mate" = true) (k5 : PySem.W.keepIn K (.ref f5) = true)
    (a6 : PySem.W.nsIn K mainGlobals "plus" = some (some (.ref f6))) (l6 : K.lookup f6 = some ⟨oc6, od6, .func (PySem.W.fnOf "plus" "plus" (defArgs s_plus) (defBody s_plus) (defScope s_plus) .none kV6 dc6 pm6 an6 cd6 ct6), sl6⟩) (c6 : PySem.W.codeIn K cd6 "plus" = true) (k6 : PySem.W.keepIn K (.ref f6) = true)
    (a7 : PySem.W.nsIn K mainGlobals "less" = some (some (.ref f7))) (l7 : K.lookup f7 = some ⟨oc7, od7, .func (PySem.W.fnOf "less" "less" (defArgs s_less) (defBody s_less) (defScope s_less) .none kV7 dc7 pm7 an7 cd7 ct7), sl7⟩) (c7 : PySem.W.codeIn K cd7 "less" = true) (k7 : PySem.W.keepIn K (.ref f7) = true)
    (a8 : PySem.W.nsIn K mainGlobals "times" = some (some (.ref f8))) (l8 : K.lookup f8 = some ⟨oc8, od8, .func (PySem.W.fnOf "times" "times" (defArgs s_times) (defBody s_times) (defScope s_times) .none kV8 dc8 pm8 an8 cd8 ct8), sl8⟩) (c8 : PySem.W.codeIn K cd8 "times" = true) (k8 : PySem.W.keepIn K (.ref f8) = true)
    (a9 : PySem.W.nsIn K mainGlobals "over" = some (some (.ref f9))) (l9 : K.lookup f9 = some ⟨oc9, od9, .func (PySem.W.fnOf "over" "over" (defArgs s_over) (defBody s_over) (defScope s_over) .none kV9 dc9 pm9 an9 cd9 ct9), sl9⟩) (c9 : PySem.W.codeIn K cd9 "over" = true) (k9 : PySem.W.keepIn K (.ref f9) = true)
    (a10 : PySem.W.nsIn K mainGlobals "contrary" = some (some (.ref f10))) (l10 : K.lookup f10 = some ⟨oc10, od10, .func (PySem.W.fnOf "contrary" "contrary" (defArgs s_contrary) (defBody s_contrary) (defScope s_contrary) .none kV10 dc10 pm10 an10 cd10 ct10), sl10⟩) (c10 : PySem.W.codeIn K cd10 "contrary" = true) (k10 : PySem.W.keepIn K (.ref f10) = true)
    (a11 : PySem.W.nsIn K mainGlobals "sign_of" = some (some (.ref f11))) (l11 : K.lookup f11 = some ⟨oc11, od11, .func (PySem.W.fnOf "sign_of" "sign_of" (defArgs s_sign_of) (defBody s_sign_of) (defScope s_sign_of) .none kV11 dc11 pm11 an11 cd11 ct11), sl11⟩) (c11 : PySem.W.codeIn K cd11 "sign_of" = true) (k11 : PySem.W.keepIn K (.ref f11) = true)
    (a12 : PySem.W.nsIn K mainGlobals "sign_of_parts" = some (some (.ref f12))) (l12 : K.lookup f12 = some ⟨oc12, od12, .func (PySem.W.fnOf "sign_of_parts" "sign_of_parts" (defArgs s_sign_of_parts) (defBody s_sign_of_parts) (defScope s_sign_of_parts) .none kV12 dc12 pm12 an12 cd12 ct12), sl12⟩) (c12 : PySem.W.codeIn K cd12 "sign_of_parts" = true) (k12 : PySem.W.keepIn K (.ref f12) = true)
    (a13 : PySem.W.nsIn K mainGlobals "is_above_nought" = some (some (.ref f13))) (l13 : K.lookup f13 = some ⟨oc13, od13, .func (PySem.W.fnOf "is_above_nought" "is_above_nought" (defArgs s_is_above_nought) (defBody s_is_above_nought) (defScope s_is_above_nought) .none kV13 dc13 pm13 an13 cd13 ct13), sl13⟩) (c13 : PySem.W.codeIn K cd13 "is_above_nought" = true) (k13 : PySem.W.keepIn K (.ref f13) = true)
    (a14 : PySem.W.nsIn K mainGlobals "must_be_above_nought" = some (some (.ref f14))) (l14 : K.lookup f14 = some ⟨oc14, od14, .func (PySem.W.fnOf "must_be_above_nought" "must_be_above_nought" (defArgs s_must_be_above_nought) (defBody s_must_be_above_nought) (defScope s_must_be_above_nought) .none kV14 dc14 pm14 an14 cd14 ct14), sl14⟩) (c14 : PySem.W.codeIn K cd14 "must_be_above_nought" = true) (k14 : PySem.W.keepIn K (.ref f14) = true)
    (a15 : PySem.W.nsIn K mainGlobals "mixture_of" = some (some (.ref f15))) (l15 : K.lookup f15 = some ⟨oc15, od15, .func (PySem.W.fnOf "mixture_of" "mixture_of" (defArgs s_mixture_of) (defBody s_mixture_of) (defScope s_mixture_of) .none kV15 dc15 pm15 an15 cd15 ct15), sl15⟩) (c15 : PySem.W.codeIn K cd15 "mixture_of" = true) (k15 : PySem.W.keepIn K (.ref f15) = true)
    (a16 : PySem.W.nsIn K mainGlobals "shares_of" = some (some (.ref f16))) (l16 : K.lookup f16 = some ⟨oc16, od16, .func (PySem.W.fnOf "shares_of" "shares_of" (defArgs s_shares_of) (defBody s_shares_of) (defScope s_shares_of) .none kV16 dc16 pm16 an16 cd16 ct16), sl16⟩) (c16 : PySem.W.codeIn K cd16 "shares_of" = true) (k16 : PySem.W.keepIn K (.ref f16) = true)
    (a17 : PySem.W.nsIn K mainGlobals "is_share" = some (some (.ref f17))) (l17 : K.lookup f17 = some ⟨oc17, od17, .func (PySem.W.fnOf "is_share" "is_share" (defArgs s_is_share) (defBody s_is_share) (defScope s_is_share) .none kV17 dc17 pm17 an17 cd17 ct17), sl17⟩) (c17 : PySem.W.codeIn K cd17 "is_share" = true) (k17 : PySem.W.keepIn K (.ref f17) = true)
    (a18 : PySem.W.nsIn K mainGlobals "bar_for" = some (some (.ref f18))) (l18 : K.lookup f18 = some ⟨oc18, od18, .func (PySem.W.fnOf "bar_for" "bar_for" (defArgs s_bar_for) (defBody s_bar_for) (defScope s_bar_for) .none kV18 dc18 pm18 an18 cd18 ct18), sl18⟩) (c18 : PySem.W.codeIn K cd18 "bar_for" = true) (k18 : PySem.W.keepIn K (.ref f18) = true)
    (a19 : PySem.W.nsIn K mainGlobals "skew" = some (some (.ref f19))) (l19 : K.lookup f19 = some ⟨oc19, od19, .func (PySem.W.fnOf "skew" "skew" (defArgs s_skew) (defBody s_skew) (defScope s_skew) .none kV19 dc19 pm19 an19 cd19 ct19), sl19⟩) (c19 : PySem.W.codeIn K cd19 "skew" = true) (k19 : PySem.W.keepIn K (.ref f19) = true)
    (a20 : PySem.W.nsIn K mainGlobals "_law_bag" = some (some (.ref f20))) (l20 : K.lookup f20 = some ⟨oc20, od20, .func (PySem.W.fnOf "_law_bag" "_law_bag" (defArgs s__law_bag) (defBody s__law_bag) (defScope s__law_bag) .none kV20 dc20 pm20 an20 cd20 ct20), sl20⟩) (c20 : PySem.W.codeIn K cd20 "_law_bag" = true) (k20 : PySem.W.keepIn K (.ref f20) = true)
    (a21 : PySem.W.nsIn K mainGlobals "_law_take" = some (some (.ref f21))) (l21 : K.lookup f21 = some ⟨oc21, od21, .func (PySem.W.fnOf "_law_take" "_law_take" (defArgs s__law_take) (defBody s__law_take) (defScope s__law_take) .none kV21 dc21 pm21 an21 cd21 ct21), sl21⟩) (c21 : PySem.W.codeIn K cd21 "_law_take" = true) (k21 : PySem.W.keepIn K (.ref f21) = true)
    (a22 : PySem.W.nsIn K mainGlobals "_law_is_whole" = some (some (.ref f22))) (l22 : K.lookup f22 = some ⟨oc22, od22, .func (PySem.W.fnOf "_law_is_whole" "_law_is_whole" (defArgs s__law_is_whole) (defBody s__law_is_whole) (defScope s__law_is_whole) .none kV22 dc22 pm22 an22 cd22 ct22), sl22⟩) (c22 : PySem.W.codeIn K cd22 "_law_is_whole" = true) (k22 : PySem.W.keepIn K (.ref f22) = true)
    (a23 : PySem.W.nsIn K mainGlobals "_law_shared" = some (some (.ref f23))) (l23 : K.lookup f23 = some ⟨oc23, od23, .func (PySem.W.fnOf "_law_shared" "_law_shared" (defArgs s__law_shared) (defBody s__law_shared) (defScope s__law_shared) .none kV23 dc23 pm23 an23 cd23 ct23), sl23⟩) (c23 : PySem.W.codeIn K cd23 "_law_shared" = true) (k23 : PySem.W.keepIn K (.ref f23) = true)
    (a24 : PySem.W.nsIn K mainGlobals "_law_low" = some (some (.ref f24))) (l24 : K.lookup f24 = some ⟨oc24, od24, .func (PySem.W.fnOf "_law_low" "_law_low" (defArgs s__law_low) (defBody s__law_low) (defScope s__law_low) .none kV24 dc24 pm24 an24 cd24 ct24), sl24⟩) (c24 : PySem.W.codeIn K cd24 "_law_low" = true) (k24 : PySem.W.keepIn K (.ref f24) = true)
    (a25 : PySem.W.nsIn K mainGlobals "_law_is_number" = some (some (.ref f25))) (l25 : K.lookup f25 = some ⟨oc25, od25, .func (PySem.W.fnOf "_law_is_number" "_law_is_number" (defArgs s__law_is_number) (defBody s__law_is_number) (defScope s__law_is_number) .none kV25 dc25 pm25 an25 cd25 ct25), sl25⟩) (c25 : PySem.W.codeIn K cd25 "_law_is_number" = true) (k25 : PySem.W.keepIn K (.ref f25) = true)
    (a26 : PySem.W.nsIn K mainGlobals "_law_plus" = some (some (.ref f26))) (l26 : K.lookup f26 = some ⟨oc26, od26, .func (PySem.W.fnOf "_law_plus" "_law_plus" (defArgs s__law_plus) (defBody s__law_plus) (defScope s__law_plus) .none kV26 dc26 pm26 an26 cd26 ct26), sl26⟩) (c26 : PySem.W.codeIn K cd26 "_law_plus" = true) (k26 : PySem.W.keepIn K (.ref f26) = true)
    (a27 : PySem.W.nsIn K mainGlobals "_law_minus" = some (some (.ref f27))) (l27 : K.lookup f27 = some ⟨oc27, od27, .func (PySem.W.fnOf "_law_minus" "_law_minus" (defArgs s__law_minus) (defBody s__law_minus) (defScope s__law_minus) .none kV27 dc27 pm27 an27 cd27 ct27), sl27⟩) (c27 : PySem.W.codeIn K cd27 "_law_minus" = true) (k27 : PySem.W.keepIn K (.ref f27) = true)
    (a28 : PySem.W.nsIn K mainGlobals "_law_times" = some (some (.ref f28))) (l28 : K.lookup f28 = some ⟨oc28, od28, .func (PySem.W.fnOf "_law_times" "_law_times" (defArgs s__law_times) (defBody s__law_times) (defScope s__law_times) .none kV28 dc28 pm28 an28 cd28 ct28), sl28⟩) (c28 : PySem.W.codeIn K cd28 "_law_times" = true) (k28 : PySem.W.keepIn K (.ref f28) = true)
    (a29 : PySem.W.nsIn K mainGlobals "_law_contrary" = some (some (.ref f29))) (l29 : K.lookup f29 = some ⟨oc29, od29, .func (PySem.W.fnOf "_law_contrary" "_law_contrary" (defArgs s__law_contrary) (defBody s__law_contrary) (defScope s__law_contrary) .none kV29 dc29 pm29 an29 cd29 ct29), sl29⟩) (c29 : PySem.W.codeIn K cd29 "_law_contrary" = true) (k29 : PySem.W.keepIn K (.ref f29) = true)
    (a30 : PySem.W.nsIn K mainGlobals "_law_sign" = some (some (.ref f30))) (l30 : K.lookup f30 = some ⟨oc30, od30, .func (PySem.W.fnOf "_law_sign" "_law_sign" (defArgs s__law_sign) (defBody s__law_sign) (defScope s__law_sign) .none kV30 dc30 pm30 an30 cd30 ct30), sl30⟩) (c30 : PySem.W.codeIn K cd30 "_law_sign" = true) (k30 : PySem.W.keepIn K (.ref f30) = true)
    (a31 : PySem.W.nsIn K mainGlobals "_law_root" = some (some (.ref f31))) (l31 : K.lookup f31 = some ⟨oc31, od31, .func (PySem.W.fnOf "_law_root" "_law_root" (defArgs s__law_root) (defBody s__law_root) (defScope s__law_root) .none kV31 dc31 pm31 an31 cd31 ct31), sl31⟩) (c31 : PySem.W.codeIn K cd31 "_law_root" = true) (k31 : PySem.W.keepIn K (.ref f31) = true)
    (a32 : PySem.W.nsIn K mainGlobals "_law_number" = some (some (.ref f32))) (l32 : K.lookup f32 = some ⟨oc32, od32, .func (PySem.W.fnOf "_law_number" "_law_number" (defArgs s__law_number) (defBody s__law_number) (defScope s__law_number) .none kV32 dc32 pm32 an32 cd32 ct32), sl32⟩) (c32 : PySem.W.codeIn K cd32 "_law_number" = true) (k32 : PySem.W.keepIn K (.ref f32) = true)
    (a33 : PySem.W.nsIn K mainGlobals "_law_above" = some (some (.ref f33))) (l33 : K.lookup f33 = some ⟨oc33, od33, .func (PySem.W.fnOf "_law_above" "_law_above" (defArgs s__law_above) (defBody s__law_above) (defScope s__law_above) .none kV33 dc33 pm33 an33 cd33 ct33), sl33⟩) (c33 : PySem.W.codeIn K cd33 "_law_above" = true) (k33 : PySem.W.keepIn K (.ref f33) = true)
    (a34 : PySem.W.nsIn K mainGlobals "_law_odd" = some (some (.ref f34))) (l34 : K.lookup f34 = some ⟨oc34, od34, .func (PySem.W.fnOf "_law_odd" "_law_odd" (defArgs s__law_odd) (defBody s__law_odd) (defScope s__law_odd) .none kV34 dc34 pm34 an34 cd34 ct34), sl34⟩) (c34 : PySem.W.codeIn K cd34 "_law_odd" = true) (k34 : PySem.W.keepIn K (.ref f34) = true)
    (a35 : PySem.W.nsIn K mainGlobals "_law_refusal" = some (some (.ref f35))) (l35 : K.lookup f35 = some ⟨oc35, od35, .func (PySem.W.fnOf "_law_refusal" "_law_refusal" (defArgs s__law_refusal) (defBody s__law_refusal) (defScope s__law_refusal) .none kV35 dc35 pm35 an35 cd35 ct35), sl35⟩) (c35 : PySem.W.codeIn K cd35 "_law_refusal" = true) (k35 : PySem.W.keepIn K (.ref f35) = true)
    (a36 : PySem.W.nsIn K mainGlobals "_law_kinds" = some (some (.ref f36))) (l36 : K.lookup f36 = some ⟨oc36, od36, .func (PySem.W.fnOf "_law_kinds" "_law_kinds" (defArgs s__law_kinds) (defBody s__law_kinds) (defScope s__law_kinds) .none kV36 dc36 pm36 an36 cd36 ct36), sl36⟩) (c36 : PySem.W.codeIn K cd36 "_law_kinds" = true) (k36 : PySem.W.keepIn K (.ref f36) = true)
    (a37 : PySem.W.nsIn K mainGlobals "_law_bad_above" = some (some (.ref f37))) (l37 : K.lookup f37 = some ⟨oc37, od37, .func (PySem.W.fnOf "_law_bad_above" "_law_bad_above" (defArgs s__law_bad_above) (defBody s__law_bad_above) (defScope s__law_bad_above) .none kV37 dc37 pm37 an37 cd37 ct37), sl37⟩) (c37 : PySem.W.codeIn K cd37 "_law_bad_above" = true) (k37 : PySem.W.keepIn K (.ref f37) = true)
    (a38 : PySem.W.nsIn K mainGlobals "_law_shape" = some (some (.ref f38))) (l38 : K.lookup f38 = some ⟨oc38, od38, .func (PySem.W.fnOf "_law_shape" "_law_shape" (defArgs s__law_shape) (defBody s__law_shape) (defScope s__law_shape) .none kV38 dc38 pm38 an38 cd38 ct38), sl38⟩) (c38 : PySem.W.codeIn K cd38 "_law_shape" = true) (k38 : PySem.W.keepIn K (.ref f38) = true)
    (a39 : PySem.W.nsIn K mainGlobals "_law_fraction" = some (some (.ref f39))) (l39 : K.lookup f39 = some ⟨oc39, od39, .func (PySem.W.fnOf "_law_fraction" "_law_fraction" (defArgs s__law_fraction) (defBody s__law_fraction) (defScope s__law_fraction) .none kV39 dc39 pm39 an39 cd39 ct39), sl39⟩) (c39 : PySem.W.codeIn K cd39 "_law_fraction" = true) (k39 : PySem.W.keepIn K (.ref f39) = true)
    (a40 : PySem.W.nsIn K mainGlobals "_law_is_mixture" = some (some (.ref f40))) (l40 : K.lookup f40 = some ⟨oc40, od40, .func (PySem.W.fnOf "_law_is_mixture" "_law_is_mixture" (defArgs s__law_is_mixture) (defBody s__law_is_mixture) (defScope s__law_is_mixture) .none kV40 dc40 pm40 an40 cd40 ct40), sl40⟩) (c40 : PySem.W.codeIn K cd40 "_law_is_mixture" = true) (k40 : PySem.W.keepIn K (.ref f40) = true)
    (a41 : PySem.W.nsIn K mainGlobals "law" = some (some (.ref f41))) (l41 : K.lookup f41 = some ⟨oc41, od41, .func (PySem.W.fnOf "law" "law" (defArgs s_law) (defBody s_law) (defScope s_law) .none kV41 dc41 pm41 an41 cd41 ct41), sl41⟩) (c41 : PySem.W.codeIn K cd41 "law" = true) (k41 : PySem.W.keepIn K (.ref f41) = true)
    (z0 : PySem.W.nsIn K mainGlobals "isinstance" = some none)
    (z1 : PySem.W.nsIn K mainGlobals "int" = some none)
    (z2 : PySem.W.nsIn K mainGlobals "bool" = some none)
    (z3 : PySem.W.nsIn K mainGlobals "abs" = some none)
    (z4 : PySem.W.nsIn K mainGlobals "tuple" = some none)
    (z5 : PySem.W.nsIn K mainGlobals "len" = some none)
    (z6 : PySem.W.nsIn K mainGlobals "all" = some none)
    (z7 : PySem.W.nsIn K mainGlobals "range" = some none)
    (z8 : PySem.W.nsIn K mainGlobals "ValueError" = some none)
    (z9 : PySem.W.nsIn K mainGlobals "list" = some none)
    (z10 : PySem.W.nsIn K mainGlobals "max" = some none)
    (z11 : PySem.W.nsIn K mainGlobals "min" = some none)
    (v0 : PySem.W.nsIn K mainGlobals "NOUGHT" = some (some (.ref g0))) (w0 : K.lookup g0 = some ⟨.type "tuple", go0, .seq #[.int 0 q0a, .int 0 q0b, .int 1 q0c] gn0, gs0⟩)
    (v1 : PySem.W.nsIn K mainGlobals "ONE" = some (some (.ref g1))) (w1 : K.lookup g1 = some ⟨.type "tuple", go1, .seq #[.int 1 q1a, .int 0 q1b, .int 1 q1c] gn1, gs1⟩)
    (y0 : PySem.W.nsIn K mainGlobals "FloorError" = some (some (.ref cx_FloorError)))
    (y1 : PySem.W.nsIn K mainGlobals "NoRoot" = some (some (.ref cx_NoRoot)))
    (y2 : PySem.W.nsIn K mainGlobals "NoNumber" = some (some (.ref cx_NoNumber)))
    (y3 : PySem.W.nsIn K mainGlobals "NoLaying" = some (some (.ref cx_NoLaying)))
    (y4 : PySem.W.nsIn K mainGlobals "NoTile" = some (some (.ref cx_NoTile)))
    (y5 : PySem.W.nsIn K mainGlobals "NoFit" = some (some (.ref cx_NoFit)))
    (y6 : PySem.W.nsIn K mainGlobals "NoKinds" = some (some (.ref cx_NoKinds)))
    (y7 : PySem.W.nsIn K mainGlobals "NoPlan" = some (some (.ref cx_NoPlan)))
    (y8 : PySem.W.nsIn K mainGlobals "NoSpot" = some (some (.ref cx_NoSpot)))
    (y9 : PySem.W.nsIn K mainGlobals "NoNet" = some (some (.ref cx_NoNet)))
    (y10 : PySem.W.nsIn K mainGlobals "NoText" = some (some (.ref cx_NoText)))
    (y11 : PySem.W.nsIn K mainGlobals "NoSaying" = some (some (.ref cx_NoSaying)))
    (y12 : PySem.W.nsIn K mainGlobals "NoName" = some (some (.ref cx_NoName)))
    (y13 : PySem.W.nsIn K mainGlobals "TooMany" = some (some (.ref cx_TooMany)))
    (x_NoNumber : PySem.W.excIn K (cx_NoNumber) bmV "ValueError.__new__" = true)
    (e_NoNumber : PySem.W.exmOne K (.ref cx_NoNumber) (.ref cx_FloorError) = some true)
    (z1_NoNumber : PySem.W.findIn K (.ref cx_NoNumber) "__getattribute__" = some (some (.builtin "BaseException.__getattribute__")))
    (z2_NoNumber : PySem.W.findIn K (.ref cx_NoNumber) "__getattr__" = some none)
    (z3_NoNumber : PySem.W.findIn K (.ref cx_NoNumber) "__class__" = some (some (.builtin "object.__class__")))
    (z4_NoNumber : PySem.W.mroIn K cx_NoNumber (.type "object") = some true)
    (z5_NoNumber : PySem.W.mroIn K cx_NoNumber (.type "BaseException") = some true)
    (z6_NoNumber : (PySem.W.clsIn K cx_NoNumber).isSome = true)
    (i_NoNumber_NoRoot : PySem.W.kitOne K (.ref cx_NoNumber) (.ref cx_NoRoot) = some false)
    (i_NoNumber_NoNumber : PySem.W.kitOne K (.ref cx_NoNumber) (.ref cx_NoNumber) = some true)
    (i_NoNumber_NoLaying : PySem.W.kitOne K (.ref cx_NoNumber) (.ref cx_NoLaying) = some false)
    (i_NoNumber_NoTile : PySem.W.kitOne K (.ref cx_NoNumber) (.ref cx_NoTile) = some false)
    (i_NoNumber_NoFit : PySem.W.kitOne K (.ref cx_NoNumber) (.ref cx_NoFit) = some false)
    (i_NoNumber_NoKinds : PySem.W.kitOne K (.ref cx_NoNumber) (.ref cx_NoKinds) = some false)
    (i_NoNumber_NoPlan : PySem.W.kitOne K (.ref cx_NoNumber) (.ref cx_NoPlan) = some false)
    (i_NoNumber_NoSpot : PySem.W.kitOne K (.ref cx_NoNumber) (.ref cx_NoSpot) = some false)
    (i_NoNumber_NoNet : PySem.W.kitOne K (.ref cx_NoNumber) (.ref cx_NoNet) = some false)
    (i_NoNumber_NoText : PySem.W.kitOne K (.ref cx_NoNumber) (.ref cx_NoText) = some false)
    (i_NoNumber_NoSaying : PySem.W.kitOne K (.ref cx_NoNumber) (.ref cx_NoSaying) = some false)
    (i_NoNumber_NoName : PySem.W.kitOne K (.ref cx_NoNumber) (.ref cx_NoName) = some false)
    (i_NoNumber_TooMany : PySem.W.kitOne K (.ref cx_NoNumber) (.ref cx_TooMany) = some false)
    (i_NoNumber_V : PySem.W.kitOne K (.ref cx_NoNumber) (.type "ValueError") = some true)
    (bb1 : PySem.W.nsIn K mainGlobals "__builtins__" = some (some (.ref bm))) (bb2 : bm ≠ builtinsNs) (bb3 : K.lookup bm = some ⟨.type "module", some builtinsNs, .plain, bsl⟩)
    (lo_law : (K.lookup cd_law).bind lamCode = some (P_law, ("law" : Str))) (l1_law : ∀ c2 o2 q2, K.lookup c2 = some o2 → lamCode o2 = some (P_law, q2) → q2 = "law") (lc_law : cd41 = .ref cd_law) :
    ∃ fd : FuncData, (∀ (s : Shared) (v : Value), BindsTo s fd ⟨[v], []⟩ [("_law_script", v)]) ∧ ∀ base : Heap, K.In base → base.Ns mainGlobals mg → FnOk l.prog w K mg base CX0 10 fa fd ["_law_script"] (spD K spLaw) := by
  have e := hfa.symm.trans (PySem.W.mg_of X G a41)
  cases e
  have F0 := fun_mk (st := s_is_whole) l0 c0 k0
  have b0 := F0.binds (ps := ["thing"]) fun _ _ _ _ _ _ us hl => match us, hl with | [_], _ => rfl
  have F1 := fun_mk (st := s_common_divisor) l1 c1 k1
  have b1 := F1.binds (ps := ["a", "b"]) fun _ _ _ _ _ _ us hl => match us, hl with | [_, _], _ => rfl
  have F2 := fun_mk (st := s_is_number) l2 c2 k2
  have b2 := F2.binds (ps := ["thing"]) fun _ _ _ _ _ _ us hl => match us, hl with | [_], _ => rfl
  have F3 := fun_mk (st := s_divisor_of_all) l3 c3 k3
  have b3 := F3.binds (ps := ["a", "b", "c"]) fun _ _ _ _ _ _ us hl => match us, hl with | [_, _, _], _ => rfl
  have F4 := fun_mk (st := s_number) l4 c4 k4
  have b4 := F4.binds (ps := ["a", "b", "c"]) fun _ _ _ _ _ _ us hl => match us, hl with | [_, _, _], _ => rfl
  have F5 := fun_mk (st := s_mate) l5 c5 k5
  have b5 := F5.binds (ps := ["x"]) fun _ _ _ _ _ _ us hl => match us, hl with | [_], _ => rfl
  have F6 := fun_mk (st := s_plus) l6 c6 k6
  have b6 := F6.binds (ps := ["x", "y"]) fun _ _ _ _ _ _ us hl => match us, hl with | [_, _], _ => rfl
  have F7 := fun_mk (st := s_less) l7 c7 k7
  have b7 := F7.binds (ps := ["x", "y"]) fun _ _ _ _ _ _ us hl => match us, hl with | [_, _], _ => rfl
  have F8 := fun_mk (st := s_times) l8 c8 k8
  have b8 := F8.binds (ps := ["d", "x", "y"]) fun _ _ _ _ _ _ us hl => match us, hl with | [_, _, _], _ => rfl
  have F9 := fun_mk (st := s_over) l9 c9 k9
  have b9 := F9.binds (ps := ["d", "x", "y"]) fun _ _ _ _ _ _ us hl => match us, hl with | [_, _, _], _ => rfl
  have F10 := fun_mk (st := s_contrary) l10 c10 k10
  have b10 := F10.binds (ps := ["d", "x"]) fun _ _ _ _ _ _ us hl => match us, hl with | [_, _], _ => rfl
  have F11 := fun_mk (st := s_sign_of) l11 c11 k11
  have b11 := F11.binds (ps := ["d", "x"]) fun _ _ _ _ _ _ us hl => match us, hl with | [_, _], _ => rfl
  have F12 := fun_mk (st := s_sign_of_parts) l12 c12 k12
  have b12 := F12.binds (ps := ["d", "a", "b"]) fun _ _ _ _ _ _ us hl => match us, hl with | [_, _, _], _ => rfl
  have F13 := fun_mk (st := s_is_above_nought) l13 c13 k13
  have b13 := F13.binds (ps := ["d", "thing"]) fun _ _ _ _ _ _ us hl => match us, hl with | [_, _], _ => rfl
  have F14 := fun_mk (st := s_must_be_above_nought) l14 c14 k14
  have b14 := F14.binds (ps := ["d", "thing"]) fun _ _ _ _ _ _ us hl => match us, hl with | [_, _], _ => rfl
  have F15 := fun_mk (st := s_mixture_of) l15 c15 k15
  have b15 := F15.binds (ps := ["d", "kind", "shape"]) fun _ _ _ _ _ _ us hl => match us, hl with | [_, _, _], _ => rfl
  have F16 := fun_mk (st := s_shares_of) l16 c16 k16
  have b16 := F16.binds (ps := ["d", "first", "second", "shape"]) fun _ _ _ _ _ _ us hl => match us, hl with | [_, _, _, _], _ => rfl
  have F17 := fun_mk (st := s_is_share) l17 c17 k17
  have b17 := F17.binds (ps := ["d", "x"]) fun _ _ _ _ _ _ us hl => match us, hl with | [_, _], _ => rfl
  have F18 := fun_mk (st := s_bar_for) l18 c18 k18
  have b18 := F18.binds (ps := ["d", "kind", "shape"]) fun _ _ _ _ _ _ us hl => match us, hl with | [_, _, _], _ => rfl
  have F19 := fun_mk (st := s_skew) l19 c19 k19
  have b19 := F19.binds (ps := ["shape", "way"]) fun _ _ _ _ _ _ us hl => match us, hl with | [_, _], _ => rfl
  have F20 := fun_mk (st := s__law_bag) l20 c20 k20
  have b20 := F20.binds (ps := ["_law_script", "_law_at"]) fun _ _ _ _ _ _ us hl => match us, hl with | [_, _], _ => rfl
  have F21 := fun_mk (st := s__law_take) l21 c21 k21
  have b21 := F21.binds (ps := ["_law_bag_here", "_law_many"]) fun _ _ _ _ _ _ us hl => match us, hl with | [_, _], _ => rfl
  have F22 := fun_mk (st := s__law_is_whole) l22 c22 k22
  have b22 := F22.binds (ps := ["_law_thing"]) fun _ _ _ _ _ _ us hl => match us, hl with | [_], _ => rfl
  have F23 := fun_mk (st := s__law_shared) l23 c23 k23
  have b23 := F23.binds (ps := ["_law_one", "_law_other"]) fun _ _ _ _ _ _ us hl => match us, hl with | [_, _], _ => rfl
  have F24 := fun_mk (st := s__law_low) l24 c24 k24
  have b24 := F24.binds (ps := ["_law_a", "_law_b", "_law_c"]) fun _ _ _ _ _ _ us hl => match us, hl with | [_, _, _], _ => rfl
  have F25 := fun_mk (st := s__law_is_number) l25 c25 k25
  have b25 := F25.binds (ps := ["_law_thing"]) fun _ _ _ _ _ _ us hl => match us, hl with | [_], _ => rfl
  have F26 := fun_mk (st := s__law_plus) l26 c26 k26
  have b26 := F26.binds (ps := ["_law_x", "_law_y"]) fun _ _ _ _ _ _ us hl => match us, hl with | [_, _], _ => rfl
  have F27 := fun_mk (st := s__law_minus) l27 c27 k27
  have b27 := F27.binds (ps := ["_law_x"]) fun _ _ _ _ _ _ us hl => match us, hl with | [_], _ => rfl
  have F28 := fun_mk (st := s__law_times) l28 c28 k28
  have b28 := F28.binds (ps := ["_law_d", "_law_x", "_law_y"]) fun _ _ _ _ _ _ us hl => match us, hl with | [_, _, _], _ => rfl
  have F29 := fun_mk (st := s__law_contrary) l29 c29 k29
  have b29 := F29.binds (ps := ["_law_d", "_law_x"]) fun _ _ _ _ _ _ us hl => match us, hl with | [_, _], _ => rfl
  have F30 := fun_mk (st := s__law_sign) l30 c30 k30
  have b30 := F30.binds (ps := ["_law_d", "_law_x"]) fun _ _ _ _ _ _ us hl => match us, hl with | [_, _], _ => rfl
  have F31 := fun_mk (st := s__law_root) l31 c31 k31
  have b31 := F31.binds (ps := ["_law_bag_here"]) fun _ _ _ _ _ _ us hl => match us, hl with | [_], _ => rfl
  have F32 := fun_mk (st := s__law_number) l32 c32 k32
  have b32 := F32.binds (ps := ["_law_bag_here"]) fun _ _ _ _ _ _ us hl => match us, hl with | [_], _ => rfl
  have F33 := fun_mk (st := s__law_above) l33 c33 k33
  have b33 := F33.binds (ps := ["_law_bag_here", "_law_d"]) fun _ _ _ _ _ _ us hl => match us, hl with | [_, _], _ => rfl
  have F34 := fun_mk (st := s__law_odd) l34 c34 k34
  have b34 := F34.binds (ps := ["_law_bag_here"]) fun _ _ _ _ _ _ us hl => match us, hl with | [_], _ => rfl
  have F35 := fun_mk (st := s__law_refusal) l35 c35 k35
  have b35 := F35.binds (ps := ["_law_deed"]) fun _ _ _ _ _ _ us hl => match us, hl with | [_], _ => rfl
  have F36 := fun_mk (st := s__law_kinds) l36 c36 k36
  have b36 := F36.binds (ps := ["_law_bag_here", "_law_d"]) fun _ _ _ _ _ _ us hl => match us, hl with | [_, _], _ => rfl
  have F37 := fun_mk (st := s__law_bad_above) l37 c37 k37
  have b37 := F37.binds (ps := ["_law_bag_here", "_law_d"]) fun _ _ _ _ _ _ us hl => match us, hl with | [_, _], _ => rfl
  have F38 := fun_mk (st := s__law_shape) l38 c38 k38
  have b38 := F38.binds (ps := ["_law_bag_here", "_law_d", "_law_kinds_here"]) fun _ _ _ _ _ _ us hl => match us, hl with | [_, _, _], _ => rfl
  have F39 := fun_mk (st := s__law_fraction) l39 c39 k39
  have b39 := F39.binds (ps := ["_law_bag_here"]) fun _ _ _ _ _ _ us hl => match us, hl with | [_], _ => rfl
  have F40 := fun_mk (st := s__law_is_mixture) l40 c40 k40
  have b40 := F40.binds (ps := ["_law_d", "_law_kind", "_law_shape_here", "_law_thing"]) fun _ _ _ _ _ _ us hl => match us, hl with | [_, _, _, _], _ => rfl
  have F41 := fun_mk (st := s_law) l41 c41 k41
  have b41 := F41.binds (ps := ["_law_script"]) fun _ _ _ _ _ _ us hl => match us, hl with | [_], _ => rfl
  have T : Txt K mg ⟨f0, PySem.W.fnOf "is_whole" "is_whole" (defArgs s_is_whole) (defBody s_is_whole) (defScope s_is_whole) .none kV0 dc0 pm0 an0 cd0 ct0, f1, PySem.W.fnOf "common_divisor" "common_divisor" (defArgs s_common_divisor) (defBody s_common_divisor) (defScope s_common_divisor) .none kV1 dc1 pm1 an1 cd1 ct1, f2, PySem.W.fnOf "is_number" "is_number" (defArgs s_is_number) (defBody s_is_number) (defScope s_is_number) .none kV2 dc2 pm2 an2 cd2 ct2, f3, PySem.W.fnOf "divisor_of_all" "divisor_of_all" (defArgs s_divisor_of_all) (defBody s_divisor_of_all) (defScope s_divisor_of_all) .none kV3 dc3 pm3 an3 cd3 ct3, f4, PySem.W.fnOf "number" "number" (defArgs s_number) (defBody s_number) (defScope s_number) .none kV4 dc4 pm4 an4 cd4 ct4, f5, PySem.W.fnOf "mate" "mate" (defArgs s_mate) (defBody s_mate) (defScope s_mate) .none kV5 dc5 pm5 an5 cd5 ct5, f6, PySem.W.fnOf "plus" "plus" (defArgs s_plus) (defBody s_plus) (defScope s_plus) .none kV6 dc6 pm6 an6 cd6 ct6, f7, PySem.W.fnOf "less" "less" (defArgs s_less) (defBody s_less) (defScope s_less) .none kV7 dc7 pm7 an7 cd7 ct7, f8, PySem.W.fnOf "times" "times" (defArgs s_times) (defBody s_times) (defScope s_times) .none kV8 dc8 pm8 an8 cd8 ct8, f9, PySem.W.fnOf "over" "over" (defArgs s_over) (defBody s_over) (defScope s_over) .none kV9 dc9 pm9 an9 cd9 ct9, f10, PySem.W.fnOf "contrary" "contrary" (defArgs s_contrary) (defBody s_contrary) (defScope s_contrary) .none kV10 dc10 pm10 an10 cd10 ct10, f11, PySem.W.fnOf "sign_of" "sign_of" (defArgs s_sign_of) (defBody s_sign_of) (defScope s_sign_of) .none kV11 dc11 pm11 an11 cd11 ct11, f12, PySem.W.fnOf "sign_of_parts" "sign_of_parts" (defArgs s_sign_of_parts) (defBody s_sign_of_parts) (defScope s_sign_of_parts) .none kV12 dc12 pm12 an12 cd12 ct12, f13, PySem.W.fnOf "is_above_nought" "is_above_nought" (defArgs s_is_above_nought) (defBody s_is_above_nought) (defScope s_is_above_nought) .none kV13 dc13 pm13 an13 cd13 ct13, f14, PySem.W.fnOf "must_be_above_nought" "must_be_above_nought" (defArgs s_must_be_above_nought) (defBody s_must_be_above_nought) (defScope s_must_be_above_nought) .none kV14 dc14 pm14 an14 cd14 ct14, f15, PySem.W.fnOf "mixture_of" "mixture_of" (defArgs s_mixture_of) (defBody s_mixture_of) (defScope s_mixture_of) .none kV15 dc15 pm15 an15 cd15 ct15, f16, PySem.W.fnOf "shares_of" "shares_of" (defArgs s_shares_of) (defBody s_shares_of) (defScope s_shares_of) .none kV16 dc16 pm16 an16 cd16 ct16, f17, PySem.W.fnOf "is_share" "is_share" (defArgs s_is_share) (defBody s_is_share) (defScope s_is_share) .none kV17 dc17 pm17 an17 cd17 ct17, f18, PySem.W.fnOf "bar_for" "bar_for" (defArgs s_bar_for) (defBody s_bar_for) (defScope s_bar_for) .none kV18 dc18 pm18 an18 cd18 ct18, f19, PySem.W.fnOf "skew" "skew" (defArgs s_skew) (defBody s_skew) (defScope s_skew) .none kV19 dc19 pm19 an19 cd19 ct19, f20, PySem.W.fnOf "_law_bag" "_law_bag" (defArgs s__law_bag) (defBody s__law_bag) (defScope s__law_bag) .none kV20 dc20 pm20 an20 cd20 ct20, f21, PySem.W.fnOf "_law_take" "_law_take" (defArgs s__law_take) (defBody s__law_take) (defScope s__law_take) .none kV21 dc21 pm21 an21 cd21 ct21, f22, PySem.W.fnOf "_law_is_whole" "_law_is_whole" (defArgs s__law_is_whole) (defBody s__law_is_whole) (defScope s__law_is_whole) .none kV22 dc22 pm22 an22 cd22 ct22, f23, PySem.W.fnOf "_law_shared" "_law_shared" (defArgs s__law_shared) (defBody s__law_shared) (defScope s__law_shared) .none kV23 dc23 pm23 an23 cd23 ct23, f24, PySem.W.fnOf "_law_low" "_law_low" (defArgs s__law_low) (defBody s__law_low) (defScope s__law_low) .none kV24 dc24 pm24 an24 cd24 ct24, f25, PySem.W.fnOf "_law_is_number" "_law_is_number" (defArgs s__law_is_number) (defBody s__law_is_number) (defScope s__law_is_number) .none kV25 dc25 pm25 an25 cd25 ct25, f26, PySem.W.fnOf "_law_plus" "_law_plus" (defArgs s__law_plus) (defBody s__law_plus) (defScope s__law_plus) .none kV26 dc26 pm26 an26 cd26 ct26, f27, PySem.W.fnOf "_law_minus" "_law_minus" (defArgs s__law_minus) (defBody s__law_minus) (defScope s__law_minus) .none kV27 dc27 pm27 an27 cd27 ct27, f28, PySem.W.fnOf "_law_times" "_law_times" (defArgs s__law_times) (defBody s__law_times) (defScope s__law_times) .none kV28 dc28 pm28 an28 cd28 ct28, f29, PySem.W.fnOf "_law_contrary" "_law_contrary" (defArgs s__law_contrary) (defBody s__law_contrary) (defScope s__law_contrary) .none kV29 dc29 pm29 an29 cd29 ct29, f30, PySem.W.fnOf "_law_sign" "_law_sign" (defArgs s__law_sign) (defBody s__law_sign) (defScope s__law_sign) .none kV30 dc30 pm30 an30 cd30 ct30, f31, PySem.W.fnOf "_law_root" "_law_root" (defArgs s__law_root) (defBody s__law_root) (defScope s__law_root) .none kV31 dc31 pm31 an31 cd31 ct31, f32, PySem.W.fnOf "_law_number" "_law_number" (defArgs s__law_number) (defBody s__law_number) (defScope s__law_number) .none kV32 dc32 pm32 an32 cd32 ct32, f33, PySem.W.fnOf "_law_above" "_law_above" (defArgs s__law_above) (defBody s__law_above) (defScope s__law_above) .none kV33 dc33 pm33 an33 cd33 ct33, f34, PySem.W.fnOf "_law_odd" "_law_odd" (defArgs s__law_odd) (defBody s__law_odd) (defScope s__law_odd) .none kV34 dc34 pm34 an34 cd34 ct34, f35, PySem.W.fnOf "_law_refusal" "_law_refusal" (defArgs s__law_refusal) (defBody s__law_refusal) (defScope s__law_refusal) .none kV35 dc35 pm35 an35 cd35 ct35, f36, PySem.W.fnOf "_law_kinds" "_law_kinds" (defArgs s__law_kinds) (defBody s__law_kinds) (defScope s__law_kinds) .none kV36 dc36 pm36 an36 cd36 ct36, f37, PySem.W.fnOf "_law_bad_above" "_law_bad_above" (defArgs s__law_bad_above) (defBody s__law_bad_above) (defScope s__law_bad_above) .none kV37 dc37 pm37 an37 cd37 ct37, f38, PySem.W.fnOf "_law_shape" "_law_shape" (defArgs s__law_shape) (defBody s__law_shape) (defScope s__law_shape) .none kV38 dc38 pm38 an38 cd38 ct38, f39, PySem.W.fnOf "_law_fraction" "_law_fraction" (defArgs s__law_fraction) (defBody s__law_fraction) (defScope s__law_fraction) .none kV39 dc39 pm39 an39 cd39 ct39, f40, PySem.W.fnOf "_law_is_mixture" "_law_is_mixture" (defArgs s__law_is_mixture) (defBody s__law_is_mixture) (defScope s__law_is_mixture) .none kV40 dc40 pm40 an40 cd40 ct40, fa, PySem.W.fnOf "law" "law" (defArgs s_law) (defBody s_law) (defScope s_law) .none kV41 dc41 pm41 an41 cd41 ct41, g0, g1, cx_FloorError, cx_NoRoot, cx_NoNumber, cx_NoLaying, cx_NoTile, cx_NoFit, cx_NoKinds, cx_NoPlan, cx_NoSpot, cx_NoNet, cx_NoText, cx_NoSaying, cx_NoName, cx_TooMany, cd_law, P_law⟩ := ⟨F0, PySem.W.mg_of X G a0, k0, b0, F1, PySem.W.mg_of X G a1, k1, b1, F2, PySem.W.mg_of X G a2, k2, b2, F3, PySem.W.mg_of X G a3, k3, b3, F4, PySem.W.mg_of X G a4, k4, b4, F5, PySem.W.mg_of X G a5, k5, b5, F6, PySem.W.mg_of X G a6, k6, b6, F7, PySem.W.mg_of X G a7, k7, b7, F8, PySem.W.mg_of X G a8, k8, b8, F9, PySem.W.mg_of X G a9, k9, b9, F10, PySem.W.mg_of X G a10, k10, b10, F11, PySem.W.mg_of X G a11, k11, b11, F12, PySem.W.mg_of X G a12, k12, b12, F13, PySem.W.mg_of X G a13, k13, b13, F14, PySem.W.mg_of X G a14, k14, b14, F15, PySem.W.mg_of X G a15, k15, b15, F16, PySem.W.mg_of X G a16, k16, b16, F17, PySem.W.mg_of X G a17, k17, b17, F18, PySem.W.mg_of X G a18, k18, b18, F19, PySem.W.mg_of X G a19, k19, b19, F20, PySem.W.mg_of X G a20, k20, b20, F21, PySem.W.mg_of X G a21, k21, b21, F22, PySem.W.mg_of X G a22, k22, b22, F23, PySem.W.mg_of X G a23, k23, b23, F24, PySem.W.mg_of X G a24, k24, b24, F25, PySem.W.mg_of X G a25, k25, b25, F26, PySem.W.mg_of X G a26, k26, b26, F27, PySem.W.mg_of X G a27, k27, b27, F28, PySem.W.mg_of X G a28, k28, b28, F29, PySem.W.mg_of X G a29, k29, b29, F30, PySem.W.mg_of X G a30, k30, b30, F31, PySem.W.mg_of X G a31, k31, b31, F32, PySem.W.mg_of X G a32, k32, b32, F33, PySem.W.mg_of X G a33, k33, b33, F34, PySem.W.mg_of X G a34, k34, b34, F35, PySem.W.mg_of X G a35, k35, b35, F36, PySem.W.mg_of X G a36, k36, b36, F37, PySem.W.mg_of X G a37, k37, b37, F38, PySem.W.mg_of X G a38, k38, b38, F39, PySem.W.mg_of X G a39, k39, b39, F40, PySem.W.mg_of X G a40, k40, b40, F41, PySem.W.mg_of X G a41, k41, b41, PySem.W.mg_none_of X G z0, PySem.W.mg_none_of X G z1, PySem.W.mg_none_of X G z2, PySem.W.mg_none_of X G z3, PySem.W.mg_none_of X G z4, PySem.W.mg_none_of X G z5, PySem.W.mg_none_of X G z6, PySem.W.mg_none_of X G z7, PySem.W.mg_none_of X G z8, PySem.W.mg_none_of X G z9, PySem.W.mg_none_of X G z10, PySem.W.mg_none_of X G z11, ⟨PySem.W.mg_of X G v0, ⟨_, _, _, _, _, _, w0⟩⟩, ⟨PySem.W.mg_of X G v1, ⟨_, _, _, _, _, _, w1⟩⟩, PySem.W.mg_of X G y0, PySem.W.mg_of X G y1, PySem.W.mg_of X G y2, PySem.W.mg_of X G y3, PySem.W.mg_of X G y4, PySem.W.mg_of X G y5, PySem.W.mg_of X G y6, PySem.W.mg_of X G y7, PySem.W.mg_of X G y8, PySem.W.mg_of X G y9, PySem.W.mg_of X G y10, PySem.W.mg_of X G y11, PySem.W.mg_of X G y12, PySem.W.mg_of X G y13, x_NoNumber, e_NoNumber, i_NoNumber_NoRoot, i_NoNumber_NoNumber, i_NoNumber_NoLaying, i_NoNumber_NoTile, i_NoNumber_NoFit, i_NoNumber_NoKinds, i_NoNumber_NoPlan, i_NoNumber_NoSpot, i_NoNumber_NoNet, i_NoNumber_NoText, i_NoNumber_NoSaying, i_NoNumber_NoName, i_NoNumber_TooMany, i_NoNumber_V, ⟨z1_NoNumber, z2_NoNumber, z3_NoNumber, z4_NoNumber, z5_NoNumber, z6_NoNumber⟩, ⟨lam_obj lo_law, l1_law, blt_mk (PySem.W.mg_of X G bb1) bb2 bb3⟩, lc_law⟩
  exact ⟨_, fun s v => .of_eq rfl, fun base _ _ => ok_all T⟩
theorem walk {l : PySem.W.OpenLaw} {q : Program} {loose : List Str} {XP : (Str → Option Value) → Heap → Prop} {YP : World → Heap → Prop} {d : DefRec} {K : Params → PySem.W.Frag} (tabs : List Addr) (hn : l.most = some 63) (hdf : d.params.defaults = [])
    (hY : ∀ (w : World) (h : Heap), YP w h → (K w.params).In h ∧ (∀ p ∈ tabs, h.get? p = some (PySem.W.tabObj #[]) ∧ (K w.params).lookup p = none) ∧ (∀ p ∈ tabs, isCodeTable h p))
    (hA2 : ∀ (w : World) c o p q, (K w.params).lookup c = some o → lamCode o = some (p, q) → p ∈ tabs)
    (F : ∀ (w : World) (mg : Str → Option Value) (fa : Addr) (h : Heap), (K w.params).In h → h.Ns mainGlobals mg → mg d.name = some (.ref fa) →
      ∃ fd : FuncData, (∀ (s : Shared) (u : Value), BindsTo s fd ⟨[u], []⟩ [("_law_script", u)]) ∧ ∀ base : Heap, (K w.params).In base → base.Ns mainGlobals mg → FnOk l.prog w (K w.params) mg base CX0 10 fa fd ["_law_script"] (spD (K w.params) spLaw)) :
    PySem.W.WalkO q loose XP YP l.row.toRowW d [] (fun f vs => PySem.call f vs) :=
  L2.walk_ofT (n := 63) (k := 10) (x := "_law_script") (CX := fun _ => CX0) (sp := fun w => spD (K w.params) spLaw) tabs hn (by decide) hdf ⟨rfl, by decide, by decide⟩ hY hA2 F (fun w H a ns hl hT hS => law_start hl hT hS) fun _ _ _ _ _ z => z
end K38
open PySem PySem.W PyProof.Rows L2.DL in
set_option maxRecDepth 100000 in
set_option maxHeartbeats 0 in
theorem PySem.Challenge.cw_matefloors_k38_mixtures_refused_holds : PySem.Challenge.rw_matefloors_k38_mixtures_refused.Holds :=
  holds_law K38.H.ws fun said => holds_open (XP := XL K38.H.V []) (YP := K38.H.HK.says) (d := K38.H.D) (kwd := []) K38.H.left K38.H.HK.of K38.H.HK.keeps (fun s e => xl_of s (Bool.and_eq_true_iff.mp e).1) XL.keeps (by kernel_rfl) (by kernel_rfl) (by kernel_rfl)
    (fun s e => recFacts_of (Bool.and_eq_true_iff.mp e).2) (by kernel_rfl) said (by kernel_rfl) ⟨by kernel_rfl, by kernel_rfl, by kernel_rfl, by kernel_rfl, by kernel_rfl, by kernel_rfl⟩ ⟨[.list []], by kernel_rfl, by kernel_rfl⟩
    (K38.walk (l := PySem.Challenge.rw_matefloors_k38_mixtures_refused) (K := K38.H.K) K38.H.tabs (by kernel_rfl) (by kernel_rfl) (fun w h Y => by
      have Y : (K38.H.KF w.params).In h := Y
      refine ⟨frag_in Y, fun p hp => ?_, fun p hp => ?_⟩
      · rcases List.mem_cons.mp hp with rfl | hp
        · exact ⟨Y _ _ (K38.H.tab_law w.params).1, (K38.H.tab_law w.params).2⟩
        exact nomatch hp
      · rcases List.mem_cons.mp hp with rfl | hp
        · obtain ⟨o, e1, e2⟩ := lam_obj (K38.H.lamO_law w.params); exact lam_table (frag_in Y) e1 e2
        exact nomatch hp) (fun w c o p q e e2 => by
      have h := lam_mem (K38.H.lamAll w.params) e e2
      have h2 := List.mem_map_of_mem (f := fun x : Addr × Str => x.1) h
      exact h2) fun w mg fa h KX G hmg => by
      have h := K38.H.facts w.params
      exact K38.all_mk KX G hmg (f0 := 192) (od0 := none) (an0 := none) (sl0 := #[]) (oc0 := .type "function") (kV0 := .none) (dc0 := .none) (pm0 := .str "matefloors.numbers" 415) (cd0 := .ref 191) (ct0 := .none) (f1 := 199) (od1 := none) (an1 := none) (sl1 := #[]) (oc1 := .type "function") (kV1 := .none) (dc1 := .none) (pm1 := .str "matefloors.numbers" 415) (cd1 := .ref 198) (ct1 := .none) (f2 := 206) (od2 := none) (an2 := none) (sl2 := #[]) (oc2 := .type "function") (kV2 := .none) (dc2 := .none) (pm2 := .str "matefloors.numbers" 415) (cd2 := .ref 205) (ct2 := .none) (f3 := 213) (od3 := none) (an3 := none) (sl3 := #[]) (oc3 := .type "function") (kV3 := .none) (dc3 := .none) (pm3 := .str "matefloors.numbers" 415) (cd3 := .ref 212) (ct3 := .none) (f4 := 220) (od4 := none) (an4 := none) (sl4 := #[]) (oc4 := .type "function") (kV4 := .none) (dc4 := .none) (pm4 := .str "matefloors.numbers" 415) (cd4 := .ref 219) (ct4 := .none) (f5 := 227) (od5 := none) (an5 := none) (sl5 := #[]) (oc5 := .type "function") (kV5 := .none) (dc5 := .none) (pm5 := .str "matefloors.numbers" 415) (cd5 := .ref 226) (ct5 := .none) (f6 := 234) (od6 := none) (an6 := none) (sl6 := #[]) (oc6 := .type "function") (kV6 := .none) (dc6 := .none) (pm6 := .str "matefloors.numbers" 415) (cd6 := .ref 233) (ct6 := .none) (f7 := 241) (od7 := none) (an7 := none) (sl7 := #[]) (oc7 := .type "function") (kV7 := .none) (dc7 := .none) (pm7 := .str "matefloors.numbers" 415) (cd7 := .ref 240) (ct7 := .none) (f8 := 248) (od8 := none) (an8 := none) (sl8 := #[]) (oc8 := .type "function") (kV8 := .none) (dc8 := .none) (pm8 := .str "matefloors.numbers" 415) (cd8 := .ref 247) (ct8 := .none) (f9 := 255) (od9 := none) (an9 := none) (sl9 := #[]) (oc9 := .type "function") (kV9 := .none) (dc9 := .none) (pm9 := .str "matefloors.numbers" 415) (cd9 := .ref 254) (ct9 := .none) (f10 := 262) (od10 := none) (an10 := none) (sl10 := #[]) (oc10 := .type "function") (kV10 := .none) (dc10 := .none) (pm10 := .str "matefloors.numbers" 415) (cd10 := .ref 261) (ct10 := .none) (f11 := 269) (od11 := none) (an11 := none) (sl11 := #[]) (oc11 := .type "function") (kV11 := .none) (dc11 := .none) (pm11 := .str "matefloors.numbers" 415) (cd11 := .ref 268) (ct11 := .none) (f12 := 276) (od12 := none) (an12 := none) (sl12 := #[]) (oc12 := .type "function") (kV12 := .none) (dc12 := .none) (pm12 := .str "matefloors.numbers" 415) (cd12 := .ref 275) (ct12 := .none) (f13 := 283) (od13 := none) (an13 := none) (sl13 := #[]) (oc13 := .type "function") (kV13 := .none) (dc13 := .none) (pm13 := .str "matefloors.numbers" 415) (cd13 := .ref 282) (ct13 := .none) (f14 := 290) (od14 := none) (an14 := none) (sl14 := #[]) (oc14 := .type "function") (kV14 := .none) (dc14 := .none) (pm14 := .str "matefloors.numbers" 415) (cd14 := .ref 289) (ct14 := .none) (f15 := 295) (od15 := none) (an15 := none) (sl15 := #[]) (oc15 := .type "function") (kV15 := .none) (dc15 := .none) (pm15 := .str "matefloors.mixtures" 553) (cd15 := .ref 294) (ct15 := .none) (f16 := 302) (od16 := none) (an16 := none) (sl16 := #[]) (oc16 := .type "function") (kV16 := .none) (dc16 := .none) (pm16 := .str "matefloors.mixtures" 553) (cd16 := .ref 301) (ct16 := .none) (f17 := 309) (od17 := none) (an17 := none) (sl17 := #[]) (oc17 := .type "function") (kV17 := .none) (dc17 := .none) (pm17 := .str "matefloors.mixtures" 553) (cd17 := .ref 308) (ct17 := .none) (f18 := 316) (od18 := none) (an18 := none) (sl18 := #[]) (oc18 := .type "function") (kV18 := .none) (dc18 := .none) (pm18 := .str "matefloors.mixtures" 553) (cd18 := .ref 315) (ct18 := .none) (f19 := 323) (od19 := none) (an19 := none) (sl19 := #[]) (oc19 := .type "function") (kV19 := .none) (dc19 := .none) (pm19 := .str "matefloors.mixtures" 553) (cd19 := .ref 322) (ct19 := .none) (f20 := 330) (od20 := none) (an20 := none) (sl20 := #[]) (oc20 := .type "function") (kV20 := .none) (dc20 := .none) (pm20 := .str "law_matefloors_k38_mixtures_refused" 606) (cd20 := .ref 329) (ct20 := .none) (f21 := 337) (od21 := none) (an21 := none) (sl21 := #[]) (oc21 := .type "function") (kV21 := .none) (dc21 := .none) (pm21 := .str "law_matefloors_k38_mixtures_refused" 606) (cd21 := .ref 336) (ct21 := .none) (f22 := 344) (od22 := none) (an22 := none) (sl22 := #[]) (oc22 := .type "function") (kV22 := .none) (dc22 := .none) (pm22 := .str "law_matefloors_k38_mixtures_refused" 606) (cd22 := .ref 343) (ct22 := .none) (f23 := 351) (od23 := none) (an23 := none) (sl23 := #[]) (oc23 := .type "function") (kV23 := .none) (dc23 := .none) (pm23 := .str "law_matefloors_k38_mixtures_refused" 606) (cd23 := .ref 350) (ct23 := .none) (f24 := 358) (od24 := none) (an24 := none) (sl24 := #[]) (oc24 := .type "function") (kV24 := .none) (dc24 := .none) (pm24 := .str "law_matefloors_k38_mixtures_refused" 606) (cd24 := .ref 357) (ct24 := .none) (f25 := 363) (od25 := none) (an25 := none) (sl25 := #[]) (oc25 := .type "function") (kV25 := .none) (dc25 := .none) (pm25 := .str "law_matefloors_k38_mixtures_refused" 606) (cd25 := .ref 362) (ct25 := .none) (f26 := 370) (od26 := none) (an26 := none) (sl26 := #[]) (oc26 := .type "function") (kV26 := .none) (dc26 := .none) (pm26 := .str "law_matefloors_k38_mixtures_refused" 606) (cd26 := .ref 369) (ct26 := .none) (f27 := 377) (od27 := none) (an27 := none) (sl27 := #[]) (oc27 := .type "function") (kV27 := .none) (dc27 := .none) (pm27 := .str "law_matefloors_k38_mixtures_refused" 606) (cd27 := .ref 376) (ct27 := .none) (f28 := 384) (od28 := none) (an28 := none) (sl28 := #[]) (oc28 := .type "function") (kV28 := .none) (dc28 := .none) (pm28 := .str "law_matefloors_k38_mixtures_refused" 606) (cd28 := .ref 383) (ct28 := .none) (f29 := 391) (od29 := none) (an29 := none) (sl29 := #[]) (oc29 := .type "function") (kV29 := .none) (dc29 := .none) (pm29 := .str "law_matefloors_k38_mixtures_refused" 606) (cd29 := .ref 390) (ct29 := .none) (f30 := 398) (od30 := none) (an30 := none) (sl30 := #[]) (oc30 := .type "function") (kV30 := .none) (dc30 := .none) (pm30 := .str "law_matefloors_k38_mixtures_refused" 606) (cd30 := .ref 397) (ct30 := .none) (f31 := 403) (od31 := none) (an31 := none) (sl31 := #[]) (oc31 := .type "function") (kV31 := .none) (dc31 := .none) (pm31 := .str "law_matefloors_k38_mixtures_refused" 606) (cd31 := .ref 402) (ct31 := .none) (f32 := 410) (od32 := none) (an32 := none) (sl32 := #[]) (oc32 := .type "function") (kV32 := .none) (dc32 := .none) (pm32 := .str "law_matefloors_k38_mixtures_refused" 606) (cd32 := .ref 409) (ct32 := .none) (f33 := 417) (od33 := none) (an33 := none) (sl33 := #[]) (oc33 := .type "function") (kV33 := .none) (dc33 := .none) (pm33 := .str "law_matefloors_k38_mixtures_refused" 606) (cd33 := .ref 416) (ct33 := .none) (f34 := 424) (od34 := none) (an34 := none) (sl34 := #[]) (oc34 := .type "function") (kV34 := .none) (dc34 := .none) (pm34 := .str "law_matefloors_k38_mixtures_refused" 606) (cd34 := .ref 423) (ct34 := .none) (f35 := 429) (od35 := none) (an35 := none) (sl35 := #[]) (oc35 := .type "function") (kV35 := .none) (dc35 := .none) (pm35 := .str "law_matefloors_k38_mixtures_refused" 606) (cd35 := .ref 428) (ct35 := .none) (f36 := 436) (od36 := none) (an36 := none) (sl36 := #[]) (oc36 := .type "function") (kV36 := .none) (dc36 := .none) (pm36 := .str "law_matefloors_k38_mixtures_refused" 606) (cd36 := .ref 435) (ct36 := .none) (f37 := 443) (od37 := none) (an37 := none) (sl37 := #[]) (oc37 := .type "function") (kV37 := .none) (dc37 := .none) (pm37 := .str "law_matefloors_k38_mixtures_refused" 606) (cd37 := .ref 442) (ct37 := .none) (f38 := 450) (od38 := none) (an38 := none) (sl38 := #[]) (oc38 := .type "function") (kV38 := .none) (dc38 := .none) (pm38 := .str "law_matefloors_k38_mixtures_refused" 606) (cd38 := .ref 449) (ct38 := .none) (f39 := 457) (od39 := none) (an39 := none) (sl39 := #[]) (oc39 := .type "function") (kV39 := .none) (dc39 := .none) (pm39 := .str "law_matefloors_k38_mixtures_refused" 606) (cd39 := .ref 456) (ct39 := .none) (f40 := 462) (od40 := none) (an40 := none) (sl40 := #[]) (oc40 := .type "function") (kV40 := .none) (dc40 := .none) (pm40 := .str "law_matefloors_k38_mixtures_refused" 606) (cd40 := .ref 461) (ct40 := .none) (f41 := 467) (od41 := none) (an41 := none) (sl41 := #[]) (oc41 := .type "function") (kV41 := .none) (dc41 := .none) (pm41 := .str "law_matefloors_k38_mixtures_refused" 606) (cd41 := .ref 466) (ct41 := .none) (g0 := 184) (go0 := none) (q0a := 417) (q0b := 418) (q0c := 419) (gn0 := 0) (gs0 := #[]) (g1 := 185) (go1 := none) (q1a := 421) (q1b := 422) (q1c := 423) (gn1 := 0) (gs1 := #[]) (cx_FloorError := 24) (cx_NoRoot := 37) (cx_NoNumber := 49) (cx_NoLaying := 61) (cx_NoTile := 73) (cx_NoFit := 85) (cx_NoKinds := 97) (cx_NoPlan := 109) (cx_NoSpot := 121) (cx_NoNet := 133) (cx_NoText := 145) (cx_NoSaying := 157) (cx_NoName := 169) (cx_TooMany := 181) (bm := 4) (bsl := #[]) (cd_law := 466) (P_law := 464) h.1.1 h.1.2.1 h.1.2.2.1 h.1.2.2.2 h.2.1.1 h.2.1.2.1 h.2.1.2.2.1 h.2.1.2.2.2 h.2.2.1.1 h.2.2.1.2.1 h.2.2.1.2.2.1 h.2.2.1.2.2.2 h.2.2.2.1.1 h.2.2.2.1.2.1 h.2.2.2.1.2.2.1 h.2.2.2.1.2.2.2 h.2.2.2.2.1.1 h.2.2.2.2.1.2.1 h.2.2.2.2.1.2.2.1 h.2.2.2.2.1.2.2.2 h.2.2.2.2.2.1.1 h.2.2.2.2.2.1.2.1 h.2.2.2.2.2.1.2.2.1 h.2.2.2.2.2.1.2.2.2 h.2.2.2.2.2.2.1.1 h.2.2.2.2.2.2.1.2.1 h.2.2.2.2.2.2.1.2.2.1 h.2.2.2.2.2.2.1.2.2.2 h.2.2.2.2.2.2.2.1.1 h.2.2.2.2.2.2.2.1.2.1 h.2.2.2.2.2.2.2.1.2.2.1 h.2.2.2.2.2.2.2.1.2.2.2 h.2.2.2.2.2.2.2.2.1.1 h.2.2.2.2.2.2.2.2.1.2.1 h.2.2.2.2.2.2.2.2.1.2.2.1 h.2.2.2.2.2.2.2.2.1.2.2.2 h.2.2.2.2.2.2.2.2.2.1.1 h.2.2.2.2.2.2.2.2.2.1.2.1 h.2.2.2.2.2.2.2.2.2.1.2.2.1 h.2.2.2.2.2.2.2.2.2.1.2.2.2 h.2.2.2.2.2.2.2.2.2.2.1.1 h.2.2.2.2.2.2.2.2.2.2.1.2.1 h.2.2.2.2.2.2.2.2.2.2.1.2.2.1 h.2.2.2.2.2.2.2.2.2.2.1.2.2.2 h.2.2.2.2.2.2.2.2.2.2.2.1.1 h.2.2.2.2.2.2.2.2.2.2.2.1.2.1 h.2.2.2.2.2.2.2.2.2.2.2.1.2.2.1 h.2.2.2.2.2.2.2.2.2.2.2.1.2.2.2 h.2.2.2.2.2.2.2.2.2.2.2.2.1.1 h.2.2.2.2.2.2.2.2.2.2.2.2.1.2.1 h.2.2.2.2.2.2.2.2.2.2.2.2.1.2.2.1 h.2.2.2.2.2.2.2.2.2.2.2.2.1.2.2.2 h.2.2.2.2.2.2.2.2.2.2.2.2.2.1.1 h.2.2.2.2.2.2.2.2.2.2.2.2.2.1.2.1 h.2.2.2.2.2.2.2.2.2.2.2.2.2.1.2.2.1 h.2.2.2.2.2.2.2.2.2.2.2.2.2.1.2.2.2 h.2.2.2.2.2.2.2.2.2.2.2.2.2.2.1.1 h.2.2.2.2.2.2.2.2.2.2.2.2.2.2.1.2.1 h.2.2.2.2.2.2.2.2.2.2.2.2.2.2.1.2.2.1 h.2.2.2.2.2.2.2.2.2.2.2.2.2.2.1.2.2.2 h.2.2.2.2.2.2.2.2.2.2.2.2.2.2.2.1.1 h.2.2.2.2.2.2.2.2.2.2.2.2.2.2.2.1.2.1 h.2.2.2.2.2.2.2.2.2.2.2.2.2.2.2.1.2.2.1 h.2.2.2.2.2.2.2.2.2.2.2.2.2.2.2.1.2.2.2 h.2.2.2.2.2.2.2.2.2.2.2.2.2.2.2.2.1.1 h.2.2.2.2.2.2.2.2.2.2.2.2.2.2.2.2.1.2.1 h.2.2.2.2.2.2.2.2.2.2.2.2.2.2.2.2.1.2.2.1 h.2.2.2.2.2.2.2.2.2.2.2.2.2.2.2.2.1.2.2.2 h.2.2.2.2.2.2.2.2.2.2.2.2.2.2.2.2.2.1.1 h.2.2.2.2.2.2.2.2.2.2.2.2.2.2.2.2.2.1.2.1 h.2.2.2.2.2.2.2.2.2.2.2.2.2.2.2.2.2.1.2.2.1 h.2.2.2.2.2.2.2.2.2.2.2.2.2.2.2.2.2.1.2.2.2 h.2.2.2.2.2.2.2.2.2.2.2.2.2.2.2.2.2.2.1.1 h.2.2.2.2.2.2.2.2.2.2.2.2.2.2.2.2.2.2.1.2.1 h.2.2.2.2.2.2.2.2.2.2.2.2.2.2.2.2.2.2.1.2.2.1 h.2.2.2.2.2.2.2.2.2.2.2.2.2.2.2.2.2.2.1.2.2.2 h.2.2.2.2.2.2.2.2.2.2.2.2.2.2.2.2.2.2.2.1.1 h.2.2.2.2.2.2.2.2.2.2.2.2.2.2.2.2.2.2.2.1.2.1 h.2.2.2.2.2.2.2.2.2.2.2.2.2.2.2.2.2.2.2.1.2.2.1 h.2.2.2.2.2.2.2.2.2.2.2.2.2.2.2.2.2.2.2.1.2.2.2 h.2.2.2.2.2.2.2.2.2.2.2.2.2.2.2.2.2.2.2.2.1.1 h.2.2.2.2.2.2.2.2.2.2.2.2.2.2.2.2.2.2.2.2.1.2.1 h.2.2.2.2.2.2.2.2.2.2.2.2.2.2.2.2.2.2.2.2.1.2.2.1 h.2.2.2.2.2.2.2.2.2.2.2.2.2.2.2.2.2.2.2.2.1.2.2.2 h.2.2.2.2.2.2.2.2.2.2.2.2.2.2.2.2.2.2.2.2.2.1.1 h.2.2.2.2.2.2.2.2.2.2.2.2.2.2.2.2.2.2.2.2.2.1.2.1 h.2.2.2.2.2.2.2.2.2.2.2.2.2.2.2.2.2.2.2.2.2.1.2.2.1 h.2.2.2.2.2.2.2.2.2.2.2.2.2.2.2.2.2.2.2.2.2.1.2.2.2 h.2.2.2.2.2.2.2.2.2.2.2.2.2.2.2.2.2.2.2.2.2.2.1.1 h.2.2.2.2.2.2.2.2.2.2.2.2.2.2.2.2.2.2.2.2.2.2.1.2.1 h.2.2.2.2.2.2.2.2.2.2.2.2.2.2.2.2.2.2.2.2.2.2.1.2.2.1 h.2.2.2.2.2.2.2.2.2.2.2.2.2.2.2.2.2.2.2.2.2.2.1.2.2.2 h.2.2.2.2.2.2.2.2.2.2.2.2.2.2.2.2.2.2.2.2.2.2.2.1.1 h.2.2.2.2.2.2.2.2.2.2.2.2.2.2.2.2.2.2.2.2.2.2.2.1.2.1 h.2.2.2.2.2.2.2.2.2.2.2.2.2.2.2.2.2.2.2.2.2.2.2.1.2.2.1 h.2.2.2.2.2.2.2.2.2.2.2.2.2.2.2.2.2.2.2.2.2.2.2.1.2.2.2 h.2.2.2.2.2.2.2.2.2.2.2.2.2.2.2.2.2.2.2.2.2.2.2.2.1.1 h.2.2.2.2.2.2.2.2.2.2.2.2.2.2.2.2.2.2.2.2.2.2.2.2.1.2.1 h.2.2.2.2.2.2.2.2.2.2.2.2.2.2.2.2.2.2.2.2.2.2.2.2.1.2.2.1 h.2.2.2.2.2.2.2.2.2.2.2.2.2.2.2.2.2.2.2.2.2.2.2.2.1.2.2.2 h.2.2.2.2.2.2.2.2.2.2.2.2.2.2.2.2.2.2.2.2.2.2.2.2.2.1.1 h.2.2.2.2.2.2.2.2.2.2.2.2.2.2.2.2.2.2.2.2.2.2.2.2.2.1.2.1 h.2.2.2.2.2.2.2.2.2.2.2.2.2.2.2.2.2.2.2.2.2.2.2.2.2.1.2.2.1 h.2.2.2.2.2.2.2.2.2.2.2.2.2.2.2.2.2.2.2.2.2.2.2.2.2.1.2.2.2 h.2.2.2.2.2.2.2.2.2.2.2.2.2.2.2.2.2.2.2.2.2.2.2.2.2.2.1.1 h.2.2.2.2.2.2.2.2.2.2.2.2.2.2.2.2.2.2.2.2.2.2.2.2.2.2.1.2.1 h.2.2.2.2.2.2.2.2.2.2.2.2.2.2.2.2.2.2.2.2.2.2.2.2.2.2.1.2.2.1 h.2.2.2.2.2.2.2.2.2.2.2.2.2.2.2.2.2.2.2.2.2.2.2.2.2.2.1.2.2.2 h.2.2.2.2.2.2.2.2.2.2.2.2.2.2.2.2.2.2.2.2.2.2.2.2.2.2.2.1.1 h.2.2.2.2.2.2.2.2.2.2.2.2.2.2.2.2.2.2.2.2.2.2.2.2.2.2.2.1.2.1 h.2.2.2.2.2.2.2.2.2.2.2.2.2.2.2.2.2.2.2.2.2.2.2.2.2.2.2.1.2.2.1 h.2.2.2.2.2.2.2.2.2.2.2.2.2.2.2.2.2.2.2.2.2.2.2.2.2.2.2.1.2.2.2 h.2.2.2.2.2.2.2.2.2.2.2.2.2.2.2.2.2.2.2.2.2.2.2.2.2.2.2.2.1.1 h.2.2.2.2.2.2.2.2.2.2.2.2.2.2.2.2.2.2.2.2.2.2.2.2.2.2.2.2.1.2.1 h.2.2.2.2.2.2.2.2.2.2.2.2.2.2.2.2.2.2.2.2.2.2.2.2.2.2.2.2.1.2.2.1 h.2.2.2.2.2.2.2.2.2.2.2.2.2.2.2.2.2.2.2.2.2.2.2.2.2.2.2.2.1.2.2.2 h.2.2.2.2.2.2.2.2.2.2.2.2.2.2.2.2.2.2.2.2.2.2.2.2.2.2.2.2.2.1.1 h.2.2.2.2.2.2.2.2.2.2.2.2.2.2.2.2.2.2.2.2.2.2.2.2.2.2.2.2.2.1.2.1 h.2.2.2.2.2.2.2.2.2.2.2.2.2.2.2.2.2.2.2.2.2.2.2.2.2.2.2.2.2.1.2.2.1 h.2.2.2.2.2.2.2.2.2.2.2.2.2.2.2.2.2.2.2.2.2.2.2.2.2.2.2.2.2.1.2.2.2 h.2.2.2.2.2.2.2.2.2.2.2.2.2.2.2.2.2.2.2.2.2.2.2.2.2.2.2.2.2.2.1.1 h.2.2.2.2.2.2.2.2.2.2.2.2.2.2.2.2.2.2.2.2.2.2.2.2.2.2.2.2.2.2.1.2.1 h.2.2.2.2.2.2.2.2.2.2.2.2.2.2.2.2.2.2.2.2.2.2.2.2.2.2.2.2.2.2.1.2.2.1 h.2.2.2.2.2.2.2.2.2.2.2.2.2.2.2.2.2.2.2.2.2.2.2.2.2.2.2.2.2.2.1.2.2.2 h.2.2.2.2.2.2.2.2.2.2.2.2.2.2.2.2.2.2.2.2.2.2.2.2.2.2.2.2.2.2.2.1.1 h.2.2.2.2.2.2.2.2.2.2.2.2.2.2.2.2.2.2.2.2.2.2.2.2.2.2.2.2.2.2.2.1.2.1 h.2.2.2.2.2.2.2.2.2.2.2.2.2.2.2.2.2.2.2.2.2.2.2.2.2.2.2.2.2.2.2.1.2.2.1 h.2.2.2.2.2.2.2.2.2.2.2.2.2.2.2.2.2.2.2.2.2.2.2.2.2.2.2.2.2.2.2.1.2.2.2 h.2.2.2.2.2.2.2.2.2.2.2.2.2.2.2.2.2.2.2.2.2.2.2.2.2.2.2.2.2.2.2.2.1.1 h.2.2.2.2.2.2.2.2.2.2.2.2.2.2.2.2.2.2.2.2.2.2.2.2.2.2.2.2.2.2.2.2.1.2.1 h.2.2.2.2.2.2.2.2.2.2.2.2.2.2.2.2.2.2.2.2.2.2.2.2.2.2.2.2.2.2.2.2.1.2.2.1 h.2.2.2.2.2.2.2.2.2.2.2.2.2.2.2.2.2.2.2.2.2.2.2.2.2.2.2.2.2.2.2.2.1.2.2.2 h.2.2.2.2.2.2.2.2.2.2.2.2.2.2.2.2.2.2.2.2.2.2.2.2.2.2.2.2.2.2.2.2.2.1.1 h.2.2.2.2.2.2.2.2.2.2.2.2.2.2.2.2.2.2.2.2.2.2.2.2.2.2.2.2.2.2.2.2.2.1.2.1 h.2.2.2.2.2.2.2.2.2.2.2.2.2.2.2.2.2.2.2.2.2.2.2.2.2.2.2.2.2.2.2.2.2.1.2.2.1 h.2.2.2.2.2.2.2.2.2.2.2.2.2.2.2.2.2.2.2.2.2.2.2.2.2.2.2.2.2.2.2.2.2.1.2.2.2 h.2.2.2.2.2.2.2.2.2.2.2.2.2.2.2.2.2.2.2.2.2.2.2.2.2.2.2.2.2.2.2.2.2.2.1.1 h.2.2.2.2.2.2.2.2.2.2.2.2.2.2.2.2.2.2.2.2.2.2.2.2.2.2.2.2.2.2.2.2.2.2.1.2.1 h.2.2.2.2.2.2.2.2.2.2.2.2.2.2.2.2.2.2.2.2.2.2.2.2.2.2.2.2.2.2.2.2.2.2.1.2.2.1 h.2.2.2.2.2.2.2.2.2.2.2.2.2.2.2.2.2.2.2.2.2.2.2.2.2.2.2.2.2.2.2.2.2.2.1.2.2.2 h.2.2.2.2.2.2.2.2.2.2.2.2.2.2.2.2.2.2.2.2.2.2.2.2.2.2.2.2.2.2.2.2.2.2.2.1.1 h.2.2.2.2.2.2.2.2.2.2.2.2.2.2.2.2.2.2.2.2.2.2.2.2.2.2.2.2.2.2.2.2.2.2.2.1.2.1 h.2.2.2.2.2.2.2.2.2.2.2.2.2.2.2.2.2.2.2.2.2.2.2.2.2.2.2.2.2.2.2.2.2.2.2.1.2.2.1 h.2.2.2.2.2.2.2.2.2.2.2.2.2.2.2.2.2.2.2.2.2.2.2.2.2.2.2.2.2.2.2.2.2.2.2.1.2.2.2 h.2.2.2.2.2.2.2.2.2.2.2.2.2.2.2.2.2.2.2.2.2.2.2.2.2.2.2.2.2.2.2.2.2.2.2.2.1.1 h.2.2.2.2.2.2.2.2.2.2.2.2.2.2.2.2.2.2.2.2.2.2.2.2.2.2.2.2.2.2.2.2.2.2.2.2.1.2.1 h.2.2.2.2.2.2.2.2.2.2.2.2.2.2.2.2.2.2.2.2.2.2.2.2.2.2.2.2.2.2.2.2.2.2.2.2.1.2.2.1 h.2.2.2.2.2.2.2.2.2.2.2.2.2.2.2.2.2.2.2.2.2.2.2.2.2.2.2.2.2.2.2.2.2.2.2.2.1.2.2.2 h.2.2.2.2.2.2.2.2.2.2.2.2.2.2.2.2.2.2.2.2.2.2.2.2.2.2.2.2.2.2.2.2.2.2.2.2.2.1.1 h.2.2.2.2.2.2.2.2.2.2.2.2.2.2.2.2.2.2.2.2.2.2.2.2.2.2.2.2.2.2.2.2.2.2.2.2.2.1.2.1 h.2.2.2.2.2.2.2.2.2.2.2.2.2.2.2.2.2.2.2.2.2.2.2.2.2.2.2.2.2.2.2.2.2.2.2.2.2.1.2.2.1 h.2.2.2.2.2.2.2.2.2.2.2.2.2.2.2.2.2.2.2.2.2.2.2.2.2.2.2.2.2.2.2.2.2.2.2.2.2.1.2.2.2 h.2.2.2.2.2.2.2.2.2.2.2.2.2.2.2.2.2.2.2.2.2.2.2.2.2.2.2.2.2.2.2.2.2.2.2.2.2.2.1.1 h.2.2.2.2.2.2.2.2.2.2.2.2.2.2.2.2.2.2.2.2.2.2.2.2.2.2.2.2.2.2.2.2.2.2.2.2.2.2.1.2.1 h.2.2.2.2.2.2.2.2.2.2.2.2.2.2.2.2.2.2.2.2.2.2.2.2.2.2.2.2.2.2.2.2.2.2.2.2.2.2.1.2.2.1 h.2.2.2.2.2.2.2.2.2.2.2.2.2.2.2.2.2.2.2.2.2.2.2.2.2.2.2.2.2.2.2.2.2.2.2.2.2.2.1.2.2.2 h.2.2.2.2.2.2.2.2.2.2.2.2.2.2.2.2.2.2.2.2.2.2.2.2.2.2.2.2.2.2.2.2.2.2.2.2.2.2.2.1.1 h.2.2.2.2.2.2.2.2.2.2.2.2.2.2.2.2.2.2.2.2.2.2.2.2.2.2.2.2.2.2.2.2.2.2.2.2.2.2.2.1.2.1 h.2.2.2.2.2.2.2.2.2.2.2.2.2.2.2.2.2.2.2.2.2.2.2.2.2.2.2.2.2.2.2.2.2.2.2.2.2.2.2.1.2.2.1 h.2.2.2.2.2.2.2.2.2.2.2.2.2.2.2.2.2.2.2.2.2.2.2.2.2.2.2.2.2.2.2.2.2.2.2.2.2.2.2.1.2.2.2 h.2.2.2.2.2.2.2.2.2.2.2.2.2.2.2.2.2.2.2.2.2.2.2.2.2.2.2.2.2.2.2.2.2.2.2.2.2.2.2.2.1.1 h.2.2.2.2.2.2.2.2.2.2.2.2.2.2.2.2.2.2.2.2.2.2.2.2.2.2.2.2.2.2.2.2.2.2.2.2.2.2.2.2.1.2.1 h.2.2.2.2.2.2.2.2.2.2.2.2.2.2.2.2.2.2.2.2.2.2.2.2.2.2.2.2.2.2.2.2.2.2.2.2.2.2.2.2.1.2.2.1 h.2.2.2.2.2.2.2.2.2.2.2.2.2.2.2.2.2.2.2.2.2.2.2.2.2.2.2.2.2.2.2.2.2.2.2.2.2.2.2.2.1.2.2.2 h.2.2.2.2.2.2.2.2.2.2.2.2.2.2.2.2.2.2.2.2.2.2.2.2.2.2.2.2.2.2.2.2.2.2.2.2.2.2.2.2.2.1.1 h.2.2.2.2.2.2.2.2.2.2.2.2.2.2.2.2.2.2.2.2.2.2.2.2.2.2.2.2.2.2.2.2.2.2.2.2.2.2.2.2.2.1.2.1 h.2.2.2.2.2.2.2.2.2.2.2.2.2.2.2.2.2.2.2.2.2.2.2.2.2.2.2.2.2.2.2.2.2.2.2.2.2.2.2.2.2.1.2.2.1 h.2.2.2.2.2.2.2.2.2.2.2.2.2.2.2.2.2.2.2.2.2.2.2.2.2.2.2.2.2.2.2.2.2.2.2.2.2.2.2.2.2.1.2.2.2 h.2.2.2.2.2.2.2.2.2.2.2.2.2.2.2.2.2.2.2.2.2.2.2.2.2.2.2.2.2.2.2.2.2.2.2.2.2.2.2.2.2.2.1 h.2.2.2.2.2.2.2.2.2.2.2.2.2.2.2.2.2.2.2.2.2.2.2.2.2.2.2.2.2.2.2.2.2.2.2.2.2.2.2.2.2.2.2.1 h.2.2.2.2.2.2.2.2.2.2.2.2.2.2.2.2.2.2.2.2.2.2.2.2.2.2.2.2.2.2.2.2.2.2.2.2.2.2.2.2.2.2.2.2.1 h.2.2.2.2.2.2.2.2.2.2.2.2.2.2.2.2.2.2.2.2.2.2.2.2.2.2.2.2.2.2.2.2.2.2.2.2.2.2.2.2.2.2.2.2.2.1 h.2.2.2.2.2.2.2.2.2.2.2.2.2.2.2.2.2.2.2.2.2.2.2.2.2.2.2.2.2.2.2.2.2.2.2.2.2.2.2.2.2.2.2.2.2.2.1 h.2.2.2.2.2.2.2.2.2.2.2.2.2.2.2.2.2.2.2.2.2.2.2.2.2.2.2.2.2.2.2.2.2.2.2.2.2.2.2.2.2.2.2.2.2.2.2.1 h.2.2.2.2.2.2.2.2.2.2.2.2.2.2.2.2.2.2.2.2.2.2.2.2.2.2.2.2.2.2.2.2.2.2.2.2.2.2.2.2.2.2.2.2.2.2.2.2.1 h.2.2.2.2.2.2.2.2.2.2.2.2.2.2.2.2.2.2.2.2.2.2.2.2.2.2.2.2.2.2.2.2.2.2.2.2.2.2.2.2.2.2.2.2.2.2.2.2.2.1 h.2.2.2.2.2.2.2.2.2.2.2.2.2.2.2.2.2.2.2.2.2.2.2.2.2.2.2.2.2.2.2.2.2.2.2.2.2.2.2.2.2.2.2.2.2.2.2.2.2.2.1 h.2.2.2.2.2.2.2.2.2.2.2.2.2.2.2.2.2.2.2.2.2.2.2.2.2.2.2.2.2.2.2.2.2.2.2.2.2.2.2.2.2.2.2.2.2.2.2.2.2.2.2.1 h.2.2.2.2.2.2.2.2.2.2.2.2.2.2.2.2.2.2.2.2.2.2.2.2.2.2.2.2.2.2.2.2.2.2.2.2.2.2.2.2.2.2.2.2.2.2.2.2.2.2.2.2.1 h.2.2.2.2.2.2.2.2.2.2.2.2.2.2.2.2.2.2.2.2.2.2.2.2.2.2.2.2.2.2.2.2.2.2.2.2.2.2.2.2.2.2.2.2.2.2.2.2.2.2.2.2.2.1 h.2.2.2.2.2.2.2.2.2.2.2.2.2.2.2.2.2.2.2.2.2.2.2.2.2.2.2.2.2.2.2.2.2.2.2.2.2.2.2.2.2.2.2.2.2.2.2.2.2.2.2.2.2.2.1.1 h.2.2.2.2.2.2.2.2.2.2.2.2.2.2.2.2.2.2.2.2.2.2.2.2.2.2.2.2.2.2.2.2.2.2.2.2.2.2.2.2.2.2.2.2.2.2.2.2.2.2.2.2.2.2.1.2 h.2.2.2.2.2.2.2.2.2.2.2.2.2.2.2.2.2.2.2.2.2.2.2.2.2.2.2.2.2.2.2.2.2.2.2.2.2.2.2.2.2.2.2.2.2.2.2.2.2.2.2.2.2.2.2.1.1 h.2.2.2.2.2.2.2.2.2.2.2.2.2.2.2.2.2.2.2.2.2.2.2.2.2.2.2.2.2.2.2.2.2.2.2.2.2.2.2.2.2.2.2.2.2.2.2.2.2.2.2.2.2.2.2.1.2 h.2.2.2.2.2.2.2.2.2.2.2.2.2.2.2.2.2.2.2.2.2.2.2.2.2.2.2.2.2.2.2.2.2.2.2.2.2.2.2.2.2.2.2.2.2.2.2.2.2.2.2.2.2.2.2.2.1 h.2.2.2.2.2.2.2.2.2.2.2.2.2.2.2.2.2.2.2.2.2.2.2.2.2.2.2.2.2.2.2.2.2.2.2.2.2.2.2.2.2.2.2.2.2.2.2.2.2.2.2.2.2.2.2.2.2.1 h.2.2.2.2.2.2.2.2.2.2.2.2.2.2.2.2.2.2.2.2.2.2.2.2.2.2.2.2.2.2.2.2.2.2.2.2.2.2.2.2.2.2.2.2.2.2.2.2.2.2.2.2.2.2.2.2.2.2.1 h.2.2.2.2.2.2.2.2.2.2.2.2.2.2.2.2.2.2.2.2.2.2.2.2.2.2.2.2.2.2.2.2.2.2.2.2.2.2.2.2.2.2.2.2.2.2.2.2.2.2.2.2.2.2.2.2.2.2.2.1 h.2.2.2.2.2.2.2.2.2.2.2.2.2.2.2.2.2.2.2.2.2.2.2.2.2.2.2.2.2.2.2.2.2.2.2.2.2.2.2.2.2.2.2.2.2.2.2.2.2.2.2.2.2.2.2.2.2.2.2.2.1 h.2.2.2.2.2.2.2.2.2.2.2.2.2.2.2.2.2.2.2.2.2.2.2.2.2.2.2.2.2.2.2.2.2.2.2.2.2.2.2.2.2.2.2.2.2.2.2.2.2.2.2.2.2.2.2.2.2.2.2.2.2.1 h.2.2.2.2.2.2.2.2.2.2.2.2.2.2.2.2.2.2.2.2.2.2.2.2.2.2.2.2.2.2.2.2.2.2.2.2.2.2.2.2.2.2.2.2.2.2.2.2.2.2.2.2.2.2.2.2.2.2.2.2.2.2.1 h.2.2.2.2.2.2.2.2.2.2.2.2.2.2.2.2.2.2.2.2.2.2.2.2.2.2.2.2.2.2.2.2.2.2.2.2.2.2.2.2.2.2.2.2.2.2.2.2.2.2.2.2.2.2.2.2.2.2.2.2.2.2.2.1 h.2.2.2.2.2.2.2.2.2.2.2.2.2.2.2.2.2.2.2.2.2.2.2.2.2.2.2.2.2.2.2.2.2.2.2.2.2.2.2.2.2.2.2.2.2.2.2.2.2.2.2.2.2.2.2.2.2.2.2.2.2.2.2.2.1 h.2.2.2.2.2.2.2.2.2.2.2.2.2.2.2.2.2.2.2.2.2.2.2.2.2.2.2.2.2.2.2.2.2.2.2.2.2.2.2.2.2.2.2.2.2.2.2.2.2.2.2.2.2.2.2.2.2.2.2.2.2.2.2.2.2.1 h.2.2.2.2.2.2.2.2.2.2.2.2.2.2.2.2.2.2.2.2.2.2.2.2.2.2.2.2.2.2.2.2.2.2.2.2.2.2.2.2.2.2.2.2.2.2.2.2.2.2.2.2.2.2.2.2.2.2.2.2.2.2.2.2.2.2.1 h.2.2.2.2.2.2.2.2.2.2.2.2.2.2.2.2.2.2.2.2.2.2.2.2.2.2.2.2.2.2.2.2.2.2.2.2.2.2.2.2.2.2.2.2.2.2.2.2.2.2.2.2.2.2.2.2.2.2.2.2.2.2.2.2.2.2.2.1 h.2.2.2.2.2.2.2.2.2.2.2.2.2.2.2.2.2.2.2.2.2.2.2.2.2.2.2.2.2.2.2.2.2.2.2.2.2.2.2.2.2.2.2.2.2.2.2.2.2.2.2.2.2.2.2.2.2.2.2.2.2.2.2.2.2.2.2.2.1 h.2.2.2.2.2.2.2.2.2.2.2.2.2.2.2.2.2.2.2.2.2.2.2.2.2.2.2.2.2.2.2.2.2.2.2.2.2.2.2.2.2.2.2.2.2.2.2.2.2.2.2.2.2.2.2.2.2.2.2.2.2.2.2.2.2.2.2.2.2.1 h.2.2.2.2.2.2.2.2.2.2.2.2.2.2.2.2.2.2.2.2.2.2.2.2.2.2.2.2.2.2.2.2.2.2.2.2.2.2.2.2.2.2.2.2.2.2.2.2.2.2.2.2.2.2.2.2.2.2.2.2.2.2.2.2.2.2.2.2.2.2.1 h.2.2.2.2.2.2.2.2.2.2.2.2.2.2.2.2.2.2.2.2.2.2.2.2.2.2.2.2.2.2.2.2.2.2.2.2.2.2.2.2.2.2.2.2.2.2.2.2.2.2.2.2.2.2.2.2.2.2.2.2.2.2.2.2.2.2.2.2.2.2.2.1 h.2.2.2.2.2.2.2.2.2.2.2.2.2.2.2.2.2.2.2.2.2.2.2.2.2.2.2.2.2.2.2.2.2.2.2.2.2.2.2.2.2.2.2.2.2.2.2.2.2.2.2.2.2.2.2.2.2.2.2.2.2.2.2.2.2.2.2.2.2.2.2.2.1 h.2.2.2.2.2.2.2.2.2.2.2.2.2.2.2.2.2.2.2.2.2.2.2.2.2.2.2.2.2.2.2.2.2.2.2.2.2.2.2.2.2.2.2.2.2.2.2.2.2.2.2.2.2.2.2.2.2.2.2.2.2.2.2.2.2.2.2.2.2.2.2.2.2.1 h.2.2.2.2.2.2.2.2.2.2.2.2.2.2.2.2.2.2.2.2.2.2.2.2.2.2.2.2.2.2.2.2.2.2.2.2.2.2.2.2.2.2.2.2.2.2.2.2.2.2.2.2.2.2.2.2.2.2.2.2.2.2.2.2.2.2.2.2.2.2.2.2.2.2.1 h.2.2.2.2.2.2.2.2.2.2.2.2.2.2.2.2.2.2.2.2.2.2.2.2.2.2.2.2.2.2.2.2.2.2.2.2.2.2.2.2.2.2.2.2.2.2.2.2.2.2.2.2.2.2.2.2.2.2.2.2.2.2.2.2.2.2.2.2.2.2.2.2.2.2.2.1 h.2.2.2.2.2.2.2.2.2.2.2.2.2.2.2.2.2.2.2.2.2.2.2.2.2.2.2.2.2.2.2.2.2.2.2.2.2.2.2.2.2.2.2.2.2.2.2.2.2.2.2.2.2.2.2.2.2.2.2.2.2.2.2.2.2.2.2.2.2.2.2.2.2.2.2.2.1 h.2.2.2.2.2.2.2.2.2.2.2.2.2.2.2.2.2.2.2.2.2.2.2.2.2.2.2.2.2.2.2.2.2.2.2.2.2.2.2.2.2.2.2.2.2.2.2.2.2.2.2.2.2.2.2.2.2.2.2.2.2.2.2.2.2.2.2.2.2.2.2.2.2.2.2.2.2.1 h.2.2.2.2.2.2.2.2.2.2.2.2.2.2.2.2.2.2.2.2.2.2.2.2.2.2.2.2.2.2.2.2.2.2.2.2.2.2.2.2.2.2.2.2.2.2.2.2.2.2.2.2.2.2.2.2.2.2.2.2.2.2.2.2.2.2.2.2.2.2.2.2.2.2.2.2.2.2.1 h.2.2.2.2.2.2.2.2.2.2.2.2.2.2.2.2.2.2.2.2.2.2.2.2.2.2.2.2.2.2.2.2.2.2.2.2.2.2.2.2.2.2.2.2.2.2.2.2.2.2.2.2.2.2.2.2.2.2.2.2.2.2.2.2.2.2.2.2.2.2.2.2.2.2.2.2.2.2.2.1 h.2.2.2.2.2.2.2.2.2.2.2.2.2.2.2.2.2.2.2.2.2.2.2.2.2.2.2.2.2.2.2.2.2.2.2.2.2.2.2.2.2.2.2.2.2.2.2.2.2.2.2.2.2.2.2.2.2.2.2.2.2.2.2.2.2.2.2.2.2.2.2.2.2.2.2.2.2.2.2.2.1 h.2.2.2.2.2.2.2.2.2.2.2.2.2.2.2.2.2.2.2.2.2.2.2.2.2.2.2.2.2.2.2.2.2.2.2.2.2.2.2.2.2.2.2.2.2.2.2.2.2.2.2.2.2.2.2.2.2.2.2.2.2.2.2.2.2.2.2.2.2.2.2.2.2.2.2.2.2.2.2.2.2.1 h.2.2.2.2.2.2.2.2.2.2.2.2.2.2.2.2.2.2.2.2.2.2.2.2.2.2.2.2.2.2.2.2.2.2.2.2.2.2.2.2.2.2.2.2.2.2.2.2.2.2.2.2.2.2.2.2.2.2.2.2.2.2.2.2.2.2.2.2.2.2.2.2.2.2.2.2.2.2.2.2.2.2.1 h.2.2.2.2.2.2.2.2.2.2.2.2.2.2.2.2.2.2.2.2.2.2.2.2.2.2.2.2.2.2.2.2.2.2.2.2.2.2.2.2.2.2.2.2.2.2.2.2.2.2.2.2.2.2.2.2.2.2.2.2.2.2.2.2.2.2.2.2.2.2.2.2.2.2.2.2.2.2.2.2.2.2.2.1 h.2.2.2.2.2.2.2.2.2.2.2.2.2.2.2.2.2.2.2.2.2.2.2.2.2.2.2.2.2.2.2.2.2.2.2.2.2.2.2.2.2.2.2.2.2.2.2.2.2.2.2.2.2.2.2.2.2.2.2.2.2.2.2.2.2.2.2.2.2.2.2.2.2.2.2.2.2.2.2.2.2.2.2.2.1 h.2.2.2.2.2.2.2.2.2.2.2.2.2.2.2.2.2.2.2.2.2.2.2.2.2.2.2.2.2.2.2.2.2.2.2.2.2.2.2.2.2.2.2.2.2.2.2.2.2.2.2.2.2.2.2.2.2.2.2.2.2.2.2.2.2.2.2.2.2.2.2.2.2.2.2.2.2.2.2.2.2.2.2.2.2.1 h.2.2.2.2.2.2.2.2.2.2.2.2.2.2.2.2.2.2.2.2.2.2.2.2.2.2.2.2.2.2.2.2.2.2.2.2.2.2.2.2.2.2.2.2.2.2.2.2.2.2.2.2.2.2.2.2.2.2.2.2.2.2.2.2.2.2.2.2.2.2.2.2.2.2.2.2.2.2.2.2.2.2.2.2.2.2.1 h.2.2.2.2.2.2.2.2.2.2.2.2.2.2.2.2.2.2.2.2.2.2.2.2.2.2.2.2.2.2.2.2.2.2.2.2.2.2.2.2.2.2.2.2.2.2.2.2.2.2.2.2.2.2.2.2.2.2.2.2.2.2.2.2.2.2.2.2.2.2.2.2.2.2.2.2.2.2.2.2.2.2.2.2.2.2.2.1 h.2.2.2.2.2.2.2.2.2.2.2.2.2.2.2.2.2.2.2.2.2.2.2.2.2.2.2.2.2.2.2.2.2.2.2.2.2.2.2.2.2.2.2.2.2.2.2.2.2.2.2.2.2.2.2.2.2.2.2.2.2.2.2.2.2.2.2.2.2.2.2.2.2.2.2.2.2.2.2.2.2.2.2.2.2.2.2.2.1 h.2.2.2.2.2.2.2.2.2.2.2.2.2.2.2.2.2.2.2.2.2.2.2.2.2.2.2.2.2.2.2.2.2.2.2.2.2.2.2.2.2.2.2.2.2.2.2.2.2.2.2.2.2.2.2.2.2.2.2.2.2.2.2.2.2.2.2.2.2.2.2.2.2.2.2.2.2.2.2.2.2.2.2.2.2.2.2.2.2.1 h.2.2.2.2.2.2.2.2.2.2.2.2.2.2.2.2.2.2.2.2.2.2.2.2.2.2.2.2.2.2.2.2.2.2.2.2.2.2.2.2.2.2.2.2.2.2.2.2.2.2.2.2.2.2.2.2.2.2.2.2.2.2.2.2.2.2.2.2.2.2.2.2.2.2.2.2.2.2.2.2.2.2.2.2.2.2.2.2.2.2.1 h.2.2.2.2.2.2.2.2.2.2.2.2.2.2.2.2.2.2.2.2.2.2.2.2.2.2.2.2.2.2.2.2.2.2.2.2.2.2.2.2.2.2.2.2.2.2.2.2.2.2.2.2.2.2.2.2.2.2.2.2.2.2.2.2.2.2.2.2.2.2.2.2.2.2.2.2.2.2.2.2.2.2.2.2.2.2.2.2.2.2.2.1 h.2.2.2.2.2.2.2.2.2.2.2.2.2.2.2.2.2.2.2.2.2.2.2.2.2.2.2.2.2.2.2.2.2.2.2.2.2.2.2.2.2.2.2.2.2.2.2.2.2.2.2.2.2.2.2.2.2.2.2.2.2.2.2.2.2.2.2.2.2.2.2.2.2.2.2.2.2.2.2.2.2.2.2.2.2.2.2.2.2.2.2.2.1 h.2.2.2.2.2.2.2.2.2.2.2.2.2.2.2.2.2.2.2.2.2.2.2.2.2.2.2.2.2.2.2.2.2.2.2.2.2.2.2.2.2.2.2.2.2.2.2.2.2.2.2.2.2.2.2.2.2.2.2.2.2.2.2.2.2.2.2.2.2.2.2.2.2.2.2.2.2.2.2.2.2.2.2.2.2.2.2.2.2.2.2.2.2.1 h.2.2.2.2.2.2.2.2.2.2.2.2.2.2.2.2.2.2.2.2.2.2.2.2.2.2.2.2.2.2.2.2.2.2.2.2.2.2.2.2.2.2.2.2.2.2.2.2.2.2.2.2.2.2.2.2.2.2.2.2.2.2.2.2.2.2.2.2.2.2.2.2.2.2.2.2.2.2.2.2.2.2.2.2.2.2.2.2.2.2.2.2.2.2 (K38.H.lamO_law w.params) (fun c2 o2 q2 e e2 => K38.H.lamU_law (lam_mem (K38.H.lamAll w.params) e e2)) rfl)
