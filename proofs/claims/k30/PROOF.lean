import PyProof.Rows.All
import KE.KFind
import KE.KLam
import KE.KTryMore
import KE.LcSums
import KE.KRevSl
import Lean
import PySem.Challenge.RW_matefloors_k30_what_is_a_net
set_option Elab.async false
set_option linter.all false
set_option maxRecDepth 100000
set_option maxHeartbeats 4000000
namespace L2
open PySem PySem.W
def ja : Sem Fin → Bool
  | .choose .. => false
  | .os .. => false
  | _ => true
theorem Ff {den : Code → Sem Fin} {p : Program} {w : World} {os : OsState} {s s' : Shared} {t t' : Thread} (h : ja t.cur = true) (e : step den p ⟨fun _ _ => 0, w.params⟩ s t = .go s' t') :
    step den p w { s with os := os } t = .go { s' with os := os } t' := by
  obtain ⟨heap, gens, drawn, toks, os0⟩ := s
  obtain ⟨cur, code, pos, stack⟩ := t
  cases cur <;> simp only [step, finish, ja] at e h ⊢ <;> (try (cases h; done)) <;> (repeat' split at e) <;> simp_all <;> (try (obtain ⟨rfl, rfl⟩ := e; simp_all)) <;> (try (obtain ⟨h1, h2⟩ := e; subst h1; rfl))
def nH (tb : String → Option Builtin) (p : Program) (P : Params) (n₀ : Nat) (ann : Option Value) : Nat → Shared → Thread → Option Shared
  | 0, _, _ => none
  | n + 1, s, t => match through t with
    | true => some s
    | false => match stepOk n₀ ann t && ja t.cur with
      | false => none
      | true => match step (denote tb) p ⟨fun _ _ => 0, P⟩ s t with
        | .go s' t' => nH tb p P n₀ ann n s' t'
        | .halt _ _ => none
theorem qv {tb : String → Option Builtin} {p : Program} {w : World} {n₀ : Nat} {ann : Option Value} {os : OsState} : ∀ {n : Nat} {s s' : Shared} {t : Thread}, nH tb p w.params n₀ ann n s t = some s' → topRun tb p w n₀ ann n { s with os := os } t = some { s' with os := os }
  | 0, _, _, _, h => by cases h
  | n + 1, s, s', t, h => by
    unfold nH at h
    unfold topRun
    cases ht : through t with
    | true => rw [ht] at h; cases h; rfl
    | false =>
      rw [ht] at h
      cases hk : (stepOk n₀ ann t && ja t.cur) with
      | false => rw [hk] at h; cases h
      | true =>
        rw [hk] at h
        obtain ⟨k1, k2⟩ := Bool.and_eq_true_iff.mp hk
        cases hs : step (denote tb) p ⟨fun _ _ => 0, w.params⟩ s t with
        | halt o s₂ => rw [hs] at h; cases h
        | go s₂ t₂ =>
          rw [hs] at h
          rw [k1, Ff (os := os) k2 hs]
          exact qv h
noncomputable def p5 (p : Program) (P : Params) (n₀ : Nat) (ann : Option Value) : Nat → Shared → Thread → Option Shared
  | 0, _, _ => none
  | n + 1, s, t => match through t with
    | true => some s
    | false => match Fast.tw6613529449190102663 n₀ ann t && ja t.cur with
      | false => none
      | true => match Fast.tw8437177126325714943 (Fast.tw11892475500146522536 Fast.tw14364793385576792824) p ⟨fun _ _ => 0, P⟩ s t with
        | .go s' t' => p5 p P n₀ ann n s' t'
        | .halt _ _ => none
theorem qb {p : Program} {P : Params} {n₀ : Nat} {ann : Option Value} : ∀ (n : Nat) (s : Shared) (t : Thread), p5 p P n₀ ann n s t = nH treeTable p P n₀ ann n s t
  | 0, _, _ => rfl
  | n + 1, s, t => by
    unfold p5 nH
    rw [← Fast.te6613529449190102663, ← Fast.te8437177126325714943, ← Fast.te11892475500146522536, ← Fast.te14364793385576792824]
    cases through t with
    | true => rfl
    | false =>
      cases (stepOk n₀ ann t && ja t.cur) with
      | false => rfl
      | true =>
        cases step (denote treeTable) p ⟨fun _ _ => 0, P⟩ s t with
        | halt o s₂ => rfl
        | go s₂ t₂ => exact qb n s₂ t₂
end L2
namespace L2
open PySem
def lq (s : Stmt) : Arguments := match s with
  | .FunctionDef _ a _ _ _ _ _ _ _ _ => a
  | _ => { posonlyargs := [], args := [], vararg := none, kwonlyargs := [], kw_defaults := [], kwarg := none, defaults := [] }
def dU (s : Stmt) : List Stmt := match s with
  | .FunctionDef _ _ b _ _ _ _ _ _ _ => b
  | _ => []
def ay (s : Stmt) : Scope := match s with
  | .FunctionDef _ _ _ _ _ _ sc _ _ _ => sc
  | _ => { kind := .function, names := [], isGenerator := false, isCoroutine := false }
end L2
namespace L2.DL
open PySem
def C6 : List Str := ["law", "_law_is_right", "_law_is_put", "_law_are_refused", "_law_is_told", "_law_said", "_law_is_plan_told"]
def bc (o : Obj) : Option (Addr × Str) := match o.cls, o.data with
  | .type c, .fields vs => if c = "code" then (match vs[1]?, vs[7]?, vs[9]?, vs[10]?, vs[11]?, vs[18]? with
    | some (Value.str q _), some (Value.int _ _), some (Value.bool _), some (Value.int _ _), some (Value.ref P), some (Value.str _ _) => if C6.contains q = true then some (P, q) else none
    | _, _, _, _, _, _ => none) else none
  | _, _ => none
abbrev bmV : List Value := [.type "ValueError", .type "Exception", .type "BaseException", .type "object"]
end L2.DL
namespace K30
open PySem L2
def top (i : Nat) : Stmt := PySem.Challenge.pw_matefloors_k30_what_is_a_net.main.body.getD i (.Pass ⟨0, 0, 0, 0⟩)
abbrev fB : Stmt := top 17
abbrev bR : Stmt := top 18
abbrev d5 : Stmt := top 19
abbrev bQ : Stmt := top 20
abbrev nV : Stmt := top 22
abbrev jt : Stmt := top 32
abbrev jm : Stmt := top 33
abbrev cL : Stmt := top 34
abbrev fJ : Stmt := top 35
abbrev dr : Stmt := top 40
abbrev eg : Stmt := top 50
abbrev cy : Stmt := top 51
abbrev bT : Stmt := top 52
abbrev ez : Stmt := top 53
abbrev fu : Stmt := top 54
abbrev cI : Stmt := top 55
abbrev d4 : Stmt := top 56
abbrev dz : Stmt := top 57
abbrev du : Stmt := top 58
abbrev cN : Stmt := top 59
abbrev bZ : Stmt := top 60
abbrev bS : Stmt := top 61
abbrev cw : Stmt := top 62
abbrev eu : Stmt := top 63
abbrev fM : Stmt := top 64
abbrev eB : Stmt := top 65
abbrev fY : Stmt := top 66
abbrev bY : Stmt := top 67
abbrev cz : Stmt := top 68
abbrev bP : Stmt := top 69
abbrev cA : Stmt := top 70
abbrev lI : Stmt := top 71
abbrev fd (n : Str) (s : Stmt) (tk : Tok) (m : Str) (cd : Addr) : FuncData := PySem.W.fnOf n n (lq s) (dU s) (ay s) .none .none .none (.str m tk) none (.ref cd) .none
abbrev FQ (K : PySem.W.Frag) (n : Str) (s : Stmt) (a cd : Addr) (tk : Tok) (m : Str) : Prop := PySem.W.nsIn K mainGlobals n = some (some (.ref a)) ∧ K.lookup a = some ⟨.type "function", none, .func (fd n s tk m cd), #[]⟩ ∧ PySem.W.codeIn K (.ref cd) n = true ∧ PySem.W.keepIn K (.ref a) = true
end K30
namespace K30.H
open PySem PySem.W PyProof.Rows L2 L2.DL
set_option maxRecDepth 100000
set_option maxHeartbeats 0
abbrev R : OpenLaw := PySem.Challenge.rw_matefloors_k30_what_is_a_net
noncomputable def sT (P : Params) : Option Shared := p5 R.row.prog P 11 (some (.ref 6)) 20000 { heap := boot_heap P, gens := #[], drawn := boot_drawn, toks := boot_toks, os := default } (topStub R.row.prog)
noncomputable def hT (P : Params) : Heap := (sT P).elim default (·.heap)
def isNm : Stmt → Bool
  | .Assign [.Name x _] _ _ => x == "__name__"
  | _ => false
def V : Program := { R.row.prog with main := { R.row.prog.main with body := R.row.prog.main.body.filter fun s => !isNm s } }
def as : List Addr := [3, 191, 190, 198, 197, 205, 204, 212, 211, 226, 225, 266, 265, 273, 272, 280, 279, 285, 284, 290, 289, 345, 344, 352, 351, 359, 358, 366, 365, 373, 372, 380, 379, 387, 386, 394, 393, 399, 398, 404, 403, 411, 410, 416, 415, 421, 420, 428, 427, 435, 434, 440, 439, 447, 446, 454, 453, 461, 460, 468, 467, 473, 472, 478, 477, 184, 24, 23, 37, 36, 49, 48, 61, 60, 73, 72, 85, 84, 97, 96, 109, 108, 121, 120, 133, 132, 145, 144, 157, 156, 169, 168, 181, 180, 4]
def tabs : List Addr := [470, 475]
noncomputable def K (P : Params) : Frag := as.map fun a => (a, ((hT P).get? a).getD default)
noncomputable def TF (P : Params) : Frag := tabs.map fun a => (a, ((hT P).get? a).getD default)
noncomputable def KF (P : Params) : Frag := K P ++ TF P
theorem kAs (P : Params) : as ++ tabs = (KF P).map (·.1) := by
  unfold KF K TF
  rw [List.map_append, List.map_map, List.map_map]
  exact congr (congrArg HAppend.hAppend (List.map_id _).symm) (List.map_id _).symm
noncomputable def HK : Hook := kHook KF (as ++ tabs) kAs
def posOf : Stmt → Pos
  | .FunctionDef _ _ _ _ _ _ _ _ _ p => p
  | _ => ⟨0, 0, 0, 0⟩
def D : DefRec := ⟨"law", lq K30.lI, dU K30.lI, ay K30.lI, posOf K30.lI⟩
def Xt : Shared → Bool := fun s => xlAt V [] s && recOk R.row.records s
theorem runC (P : Params) : (sT P).map (fun s => (s.gens, s.drawn, s.toks)) = some (#[], {}, 840) := by kernel_rfl
theorem run (w : World) (os : OsState) : topRun treeTable R.row.prog w 11 (some (.ref 6)) 20000 { heap := boot_heap w.params, gens := #[], drawn := boot_drawn, toks := boot_toks, os := os } (topStub R.row.prog) = some { heap := hT w.params, gens := #[], drawn := {}, toks := 840, os := os } := by
  have h := runC w.params
  cases e : sT w.params with
  | none => rw [e] at h; cases h
  | some s =>
    rw [e] at h
    obtain ⟨heap, gens, drawn, toks, os0⟩ := s
    have hh : hT w.params = heap := by unfold hT; rw [e]; rfl
    have h' : some (gens, drawn, toks) = some ((#[] : Array GenState), ({} : Drawn), 840) := h
    cases h'
    rw [hh]
    exact qv (w := w) (os := os) ((qb _ _ _).symm.trans e)
theorem Ib (w : World) (os : OsState) : (staticsOk (importedModules R.row.prog.main.body) (boot_heap w.params) (hT w.params) && namesBound R.row.prog (hT w.params) && gensDone { heap := hT w.params, gens := #[], drawn := {}, toks := 840, os := os } && laidKept (boot_heap w.params) (hT w.params)) = true := by kernel_rfl
theorem FH (w : World) (os : OsState) : (openSeen V [] (importedModules R.row.prog.main.body) Xt true { heap := hT w.params, gens := #[], drawn := {}, toks := 840, os := os }).1 = (openGood V []).1 := by kernel_rfl
theorem FV (w : World) (os : OsState) : (openSeen V [] (importedModules R.row.prog.main.body) Xt true { heap := hT w.params, gens := #[], drawn := {}, toks := 840, os := os }).2.1 = (openGood V []).2.1 := by kernel_rfl
theorem Fh (w : World) (os : OsState) : (openSeen V [] (importedModules R.row.prog.main.body) Xt true { heap := hT w.params, gens := #[], drawn := {}, toks := 840, os := os }).2.2.1 = (openGood V []).2.2.1 := by kernel_rfl
theorem Gz (w : World) (os : OsState) : (openSeen V [] (importedModules R.row.prog.main.body) Xt true { heap := hT w.params, gens := #[], drawn := {}, toks := 840, os := os }).2.2.2.1 = (openGood V []).2.2.2.1 := by kernel_rfl
theorem FL (w : World) (os : OsState) : (openSeen V [] (importedModules R.row.prog.main.body) Xt true { heap := hT w.params, gens := #[], drawn := {}, toks := 840, os := os }).2.2.2.2.1 = (openGood V []).2.2.2.2.1 := by kernel_rfl
theorem GD (w : World) (os : OsState) : (openSeen V [] (importedModules R.row.prog.main.body) Xt true { heap := hT w.params, gens := #[], drawn := {}, toks := 840, os := os }).2.2.2.2.2.1 = (openGood V []).2.2.2.2.2.1 := by kernel_rfl
theorem GG (w : World) (os : OsState) : (openSeen V [] (importedModules R.row.prog.main.body) Xt true { heap := hT w.params, gens := #[], drawn := {}, toks := 840, os := os }).2.2.2.2.2.2.1 = (openGood V []).2.2.2.2.2.2.1 := by kernel_rfl
theorem Gk (w : World) (os : OsState) : (openSeen V [] (importedModules R.row.prog.main.body) Xt true { heap := hT w.params, gens := #[], drawn := {}, toks := 840, os := os }).2.2.2.2.2.2.2.1 = (openGood V []).2.2.2.2.2.2.2.1 := by kernel_rfl
theorem Gm (w : World) (os : OsState) : (openSeen V [] (importedModules R.row.prog.main.body) Xt true { heap := hT w.params, gens := #[], drawn := {}, toks := 840, os := os }).2.2.2.2.2.2.2.2 = (openGood V []).2.2.2.2.2.2.2.2 := by kernel_rfl
theorem Ig (w : World) (os : OsState) : openSeen V [] (importedModules R.row.prog.main.body) Xt true { heap := hT w.params, gens := #[], drawn := {}, toks := 840, os := os } = openGood V [] := Prod.ext (FH w os) (Prod.ext (FV w os) (Prod.ext (Fh w os) (Prod.ext (Gz w os) (Prod.ext (FL w os) (Prod.ext (GD w os) (Prod.ext (GG w os) (Prod.ext (Gk w os) (Gm w os))))))))
theorem Iy (w : World) (os : OsState) : HK.obs { heap := hT w.params, gens := #[], drawn := {}, toks := 840, os := os } = HK.val w := by kernel_rfl
theorem seen (w : World) : (fun os => (staticsOk (importedModules R.row.prog.main.body) (boot_heap w.params) (hT w.params) && namesBound R.row.prog (hT w.params) && gensDone { heap := hT w.params, gens := #[], drawn := {}, toks := 840, os := os } && laidKept (boot_heap w.params) (hT w.params),
    openSeen V [] (importedModules R.row.prog.main.body) Xt true { heap := hT w.params, gens := #[], drawn := {}, toks := 840, os := os }, HK.obs { heap := hT w.params, gens := #[], drawn := {}, toks := 840, os := os })) = fun _ : OsState => (true, openGood V [], HK.val w) :=
  funext fun os => Prod.ext (Ib w os) (Prod.ext (Ig w os) (Iy w os))
theorem ws : R.wellSaid = true := by kernel_rfl
theorem facts (P : Params) : FQ (K P) "is_whole" fB 191 190 415 "matefloors.numbers" ∧ FQ (K P) "common_divisor" bR 198 197 415 "matefloors.numbers" ∧ FQ (K P) "is_number" d5 205 204 415 "matefloors.numbers" ∧ FQ (K P) "divisor_of_all" bQ 212 211 415 "matefloors.numbers" ∧ FQ (K P) "mate" nV 226 225 415 "matefloors.numbers" ∧ FQ (K P) "is_net" jt 266 265 517 "matefloors.nets" ∧ FQ (K P) "is_tie" jm 273 272 517 "matefloors.nets" ∧ FQ (K P) "must_be_net" cL 280 279 517 "matefloors.nets" ∧ FQ (K P) "mate_net" fJ 285 284 517 "matefloors.nets" ∧ FQ (K P) "streams_of" dr 290 289 553 "matefloors.streams" ∧ FQ (K P) "_law_take" eg 345 344 646 "law_matefloors_k30_what_is_a_net" ∧ FQ (K P) "_law_any_net" cy 352 351 646 "law_matefloors_k30_what_is_a_net" ∧ FQ (K P) "_law_shape_any" bT 359 358 646 "law_matefloors_k30_what_is_a_net" ∧ FQ (K P) "_law_side" ez 366 365 646 "law_matefloors_k30_what_is_a_net" ∧ FQ (K P) "_law_low" fu 373 372 646 "law_matefloors_k30_what_is_a_net" ∧ FQ (K P) "_law_shared" cI 380 379 646 "law_matefloors_k30_what_is_a_net" ∧ FQ (K P) "_law_sign" d4 387 386 646 "law_matefloors_k30_what_is_a_net" ∧ FQ (K P) "_law_minus" dz 394 393 646 "law_matefloors_k30_what_is_a_net" ∧ FQ (K P) "_law_mixed" du 399 398 646 "law_matefloors_k30_what_is_a_net" ∧ FQ (K P) "_law_is_net" cN 404 403 646 "law_matefloors_k30_what_is_a_net" ∧ FQ (K P) "_law_is_whole" bZ 411 410 646 "law_matefloors_k30_what_is_a_net" ∧ FQ (K P) "_law_is_number" bS 416 415 646 "law_matefloors_k30_what_is_a_net" ∧ FQ (K P) "_law_refusal" cw 421 420 646 "law_matefloors_k30_what_is_a_net" ∧ FQ (K P) "_law_mate" eu 428 427 646 "law_matefloors_k30_what_is_a_net" ∧ FQ (K P) "_law_bag" fM 435 434 646 "law_matefloors_k30_what_is_a_net" ∧ FQ (K P) "_law_root" eB 440 439 646 "law_matefloors_k30_what_is_a_net" ∧ FQ (K P) "_law_odd" fY 447 446 646 "law_matefloors_k30_what_is_a_net" ∧ FQ (K P) "_law_bent_net" bY 454 453 646 "law_matefloors_k30_what_is_a_net" ∧ FQ (K P) "_law_swapped" cz 461 460 646 "law_matefloors_k30_what_is_a_net" ∧ FQ (K P) "_law_sized_net" bP 468 467 646 "law_matefloors_k30_what_is_a_net" ∧ FQ (K P) "_law_is_told" cA 473 472 646 "law_matefloors_k30_what_is_a_net" ∧ FQ (K P) "law" lI 478 477 646 "law_matefloors_k30_what_is_a_net" ∧ nsIn (K P) mainGlobals "isinstance" = some none ∧ nsIn (K P) mainGlobals "int" = some none ∧ nsIn (K P) mainGlobals "bool" = some none ∧ nsIn (K P) mainGlobals "abs" = some none ∧ nsIn (K P) mainGlobals "tuple" = some none ∧ nsIn (K P) mainGlobals "len" = some none ∧ nsIn (K P) mainGlobals "all" = some none ∧ nsIn (K P) mainGlobals "range" = some none ∧ nsIn (K P) mainGlobals "list" = some none ∧ nsIn (K P) mainGlobals "ValueError" = some none ∧ nsIn (K P) mainGlobals "max" = some none ∧ nsIn (K P) mainGlobals "min" = some none ∧ nsIn (K P) mainGlobals "MOST_TILES" = some (some (.int 60 515)) ∧ nsIn (K P) mainGlobals "LEAST_LINES" = some (some (.int 2 519)) ∧ nsIn (K P) mainGlobals "MOST_LINES" = some (some (.int 61 521)) ∧ nsIn (K P) mainGlobals "MOST_LINES_SOLVED" = some (some (.int 13 555)) ∧ nsIn (K P) mainGlobals "MOST_TIES_SOLVED" = some (some (.int 12 557)) ∧ (nsIn (K P) mainGlobals "NOUGHT" = some (some (.ref 184)) ∧ (K P).lookup 184 = some ⟨.type "tuple", none, .seq #[.int 0 417, .int 0 418, .int 1 419] 0, #[]⟩) ∧ nsIn (K P) mainGlobals "FloorError" = some (some (.ref 24)) ∧ nsIn (K P) mainGlobals "NoRoot" = some (some (.ref 37)) ∧ nsIn (K P) mainGlobals "NoNumber" = some (some (.ref 49)) ∧ nsIn (K P) mainGlobals "NoLaying" = some (some (.ref 61)) ∧ nsIn (K P) mainGlobals "NoTile" = some (some (.ref 73)) ∧ nsIn (K P) mainGlobals "NoFit" = some (some (.ref 85)) ∧ nsIn (K P) mainGlobals "NoKinds" = some (some (.ref 97)) ∧ nsIn (K P) mainGlobals "NoPlan" = some (some (.ref 109)) ∧ nsIn (K P) mainGlobals "NoSpot" = some (some (.ref 121)) ∧ nsIn (K P) mainGlobals "NoNet" = some (some (.ref 133)) ∧ nsIn (K P) mainGlobals "NoText" = some (some (.ref 145)) ∧ nsIn (K P) mainGlobals "NoSaying" = some (some (.ref 157)) ∧ nsIn (K P) mainGlobals "NoName" = some (some (.ref 169)) ∧ nsIn (K P) mainGlobals "TooMany" = some (some (.ref 181)) ∧ excIn (K P) (133) bmV "ValueError.__new__" = true ∧ exmOne (K P) (.ref 133) (.ref 24) = some true ∧ findIn (K P) (.ref 133) "__getattribute__" = some (some (.builtin "BaseException.__getattribute__")) ∧ findIn (K P) (.ref 133) "__getattr__" = some none ∧ findIn (K P) (.ref 133) "__class__" = some (some (.builtin "object.__class__")) ∧ mroIn (K P) 133 (.type "object") = some true ∧ mroIn (K P) 133 (.type "BaseException") = some true ∧ (clsIn (K P) 133).isSome = true ∧ kitOne (K P) (.ref 133) (.ref 37) = some false ∧ kitOne (K P) (.ref 133) (.ref 49) = some false ∧ kitOne (K P) (.ref 133) (.ref 61) = some false ∧ kitOne (K P) (.ref 133) (.ref 73) = some false ∧ kitOne (K P) (.ref 133) (.ref 85) = some false ∧ kitOne (K P) (.ref 133) (.ref 97) = some false ∧ kitOne (K P) (.ref 133) (.ref 109) = some false ∧ kitOne (K P) (.ref 133) (.ref 121) = some false ∧ kitOne (K P) (.ref 133) (.ref 133) = some true ∧ kitOne (K P) (.ref 133) (.ref 145) = some false ∧ kitOne (K P) (.ref 133) (.ref 157) = some false ∧ kitOne (K P) (.ref 133) (.ref 169) = some false ∧ kitOne (K P) (.ref 133) (.ref 181) = some false ∧ kitOne (K P) (.ref 133) (.type "ValueError") = some true ∧ excIn (K P) (181) bmV "ValueError.__new__" = true ∧ exmOne (K P) (.ref 181) (.ref 24) = some true ∧ findIn (K P) (.ref 181) "__getattribute__" = some (some (.builtin "BaseException.__getattribute__")) ∧ findIn (K P) (.ref 181) "__getattr__" = some none ∧ findIn (K P) (.ref 181) "__class__" = some (some (.builtin "object.__class__")) ∧ mroIn (K P) 181 (.type "object") = some true ∧ mroIn (K P) 181 (.type "BaseException") = some true ∧ (clsIn (K P) 181).isSome = true ∧ kitOne (K P) (.ref 181) (.ref 37) = some false ∧ kitOne (K P) (.ref 181) (.ref 49) = some false ∧ kitOne (K P) (.ref 181) (.ref 61) = some false ∧ kitOne (K P) (.ref 181) (.ref 73) = some false ∧ kitOne (K P) (.ref 181) (.ref 85) = some false ∧ kitOne (K P) (.ref 181) (.ref 97) = some false ∧ kitOne (K P) (.ref 181) (.ref 109) = some false ∧ kitOne (K P) (.ref 181) (.ref 121) = some false ∧ kitOne (K P) (.ref 181) (.ref 133) = some false ∧ kitOne (K P) (.ref 181) (.ref 145) = some false ∧ kitOne (K P) (.ref 181) (.ref 157) = some false ∧ kitOne (K P) (.ref 181) (.ref 169) = some false ∧ kitOne (K P) (.ref 181) (.ref 181) = some true ∧ kitOne (K P) (.ref 181) (.type "ValueError") = some true ∧ (nsIn (K P) mainGlobals "__builtins__" = some (some (.ref 4)) ∧ (4 : Addr) ≠ builtinsNs ∧ (K P).lookup 4 = some ⟨.type "module", some builtinsNs, .plain, #[]⟩) :=
  ⟨⟨by kernel_rfl, by kernel_rfl, by kernel_rfl, by kernel_rfl⟩, ⟨by kernel_rfl, by kernel_rfl, by kernel_rfl, by kernel_rfl⟩, ⟨by kernel_rfl, by kernel_rfl, by kernel_rfl, by kernel_rfl⟩, ⟨by kernel_rfl, by kernel_rfl, by kernel_rfl, by kernel_rfl⟩, ⟨by kernel_rfl, by kernel_rfl, by kernel_rfl, by kernel_rfl⟩, ⟨by kernel_rfl, by kernel_rfl, by kernel_rfl, by kernel_rfl⟩, ⟨by kernel_rfl, by kernel_rfl, by kernel_rfl, by kernel_rfl⟩, ⟨by kernel_rfl, by kernel_rfl, by kernel_rfl, by kernel_rfl⟩, ⟨by kernel_rfl, by kernel_rfl, by kernel_rfl, by kernel_rfl⟩, ⟨by kernel_rfl, by kernel_rfl, by kernel_rfl, by kernel_rfl⟩, ⟨by kernel_rfl, by kernel_rfl, by kernel_rfl, by kernel_rfl⟩, ⟨by kernel_rfl, by kernel_rfl, by kernel_rfl, by kernel_rfl⟩, ⟨by kernel_rfl, by kernel_rfl, by kernel_rfl, by kernel_rfl⟩, ⟨by kernel_rfl, by kernel_rfl, by kernel_rfl, by kernel_rfl⟩, ⟨by kernel_rfl, by kernel_rfl, by kernel_rfl, by kernel_rfl⟩, ⟨by kernel_rfl, by kernel_rfl, by kernel_rfl, by kernel_rfl⟩, ⟨by kernel_rfl, by kernel_rfl, by kernel_rfl, by kernel_rfl⟩, ⟨by kernel_rfl, by kernel_rfl, by kernel_rfl, by kernel_rfl⟩, ⟨by kernel_rfl, by kernel_rfl, by kernel_rfl, by kernel_rfl⟩, ⟨by kernel_rfl, by kernel_rfl, by kernel_rfl, by kernel_rfl⟩, ⟨by kernel_rfl, by kernel_rfl, by kernel_rfl, by kernel_rfl⟩, ⟨by kernel_rfl, by kernel_rfl, by kernel_rfl, by kernel_rfl⟩, ⟨by kernel_rfl, by kernel_rfl, by kernel_rfl, by kernel_rfl⟩, ⟨by kernel_rfl, by kernel_rfl, by kernel_rfl, by kernel_rfl⟩, ⟨by kernel_rfl, by kernel_rfl, by kernel_rfl, by kernel_rfl⟩, ⟨by kernel_rfl, by kernel_rfl, by kernel_rfl, by kernel_rfl⟩, ⟨by kernel_rfl, by kernel_rfl, by kernel_rfl, by kernel_rfl⟩, ⟨by kernel_rfl, by kernel_rfl, by kernel_rfl, by kernel_rfl⟩, ⟨by kernel_rfl, by kernel_rfl, by kernel_rfl, by kernel_rfl⟩, ⟨by kernel_rfl, by kernel_rfl, by kernel_rfl, by kernel_rfl⟩, ⟨by kernel_rfl, by kernel_rfl, by kernel_rfl, by kernel_rfl⟩, ⟨by kernel_rfl, by kernel_rfl, by kernel_rfl, by kernel_rfl⟩, by kernel_rfl, by kernel_rfl, by kernel_rfl, by kernel_rfl, by kernel_rfl, by kernel_rfl, by kernel_rfl, by kernel_rfl, by kernel_rfl, by kernel_rfl, by kernel_rfl, by kernel_rfl, by kernel_rfl, by kernel_rfl, by kernel_rfl, by kernel_rfl, by kernel_rfl, ⟨by kernel_rfl, by kernel_rfl⟩, by kernel_rfl, by kernel_rfl, by kernel_rfl, by kernel_rfl, by kernel_rfl, by kernel_rfl, by kernel_rfl, by kernel_rfl, by kernel_rfl, by kernel_rfl, by kernel_rfl, by kernel_rfl, by kernel_rfl, by kernel_rfl, by kernel_rfl, by kernel_rfl, by kernel_rfl, by kernel_rfl, by kernel_rfl, by kernel_rfl, by kernel_rfl, by kernel_rfl, by kernel_rfl, by kernel_rfl, by kernel_rfl, by kernel_rfl, by kernel_rfl, by kernel_rfl, by kernel_rfl, by kernel_rfl, by kernel_rfl, by kernel_rfl, by kernel_rfl, by kernel_rfl, by kernel_rfl, by kernel_rfl, by kernel_rfl, by kernel_rfl, by kernel_rfl, by kernel_rfl, by kernel_rfl, by kernel_rfl, by kernel_rfl, by kernel_rfl, by kernel_rfl, by kernel_rfl, by kernel_rfl, by kernel_rfl, by kernel_rfl, by kernel_rfl, by kernel_rfl, by kernel_rfl, by kernel_rfl, by kernel_rfl, by kernel_rfl, by kernel_rfl, by kernel_rfl, by kernel_rfl, ⟨by kernel_rfl, by decide, by kernel_rfl⟩⟩
theorem yw (P : Params) : ((K P).filterMap fun p => bc p.2) = [(470, ("_law_is_told" : Str)), (475, ("law" : Str))] ∧ ((K P).lookup 472).bind bc = some (470, ("_law_is_told" : Str)) ∧ ((K P).lookup 477).bind bc = some (475, ("law" : Str)) ∧ (KF P).lookup 470 = some (tabObj #[]) ∧ (KF P).lookup 475 = some (tabObj #[]) ∧ (K P).lookup 470 = none ∧ (K P).lookup 475 = none := ⟨by kernel_rfl, by kernel_rfl, by kernel_rfl, by kernel_rfl, by kernel_rfl, by kernel_rfl, by kernel_rfl⟩
theorem Bl (P : Params) : ((K P).filterMap fun p => bc p.2) = [(470, ("_law_is_told" : Str)), (475, ("law" : Str))] := (yw P).1
theorem iH (P : Params) : ((K P).lookup 472).bind bc = some (470, ("_law_is_told" : Str)) := (yw P).2.1
theorem nu {q2 : Str} (h : ((470 : Addr), q2) ∈ ([(470, ("_law_is_told" : Str)), (475, ("law" : Str))] : List (Addr × Str))) : q2 = "_law_is_told" := by simpa using h
theorem Bs (P : Params) : ((K P).lookup 477).bind bc = some (475, ("law" : Str)) := (yw P).2.2.1
theorem Im {q2 : Str} (h : ((475 : Addr), q2) ∈ ([(470, ("_law_is_told" : Str)), (475, ("law" : Str))] : List (Addr × Str))) : q2 = "law" := by simpa using h
theorem jb (P : Params) : (KF P).lookup 470 = some (tabObj #[]) ∧ (K P).lookup 470 = none := ⟨(yw P).2.2.2.1, (yw P).2.2.2.2.2.1⟩
theorem zm (P : Params) : (KF P).lookup 475 = some (tabObj #[]) ∧ (K P).lookup 475 = none := ⟨(yw P).2.2.2.2.1, (yw P).2.2.2.2.2.2⟩
theorem left : LeftO R.row.prog V [] Xt HK.obs HK.val 20000 :=
  LeftO.of_pieces (H₀ := boot_heap) (H₁ := hT) (gs₀ := #[]) (gs₁ := #[]) (d₀ := boot_drawn) (d₁ := {}) (k₀ := boot_toks) (k₁ := 840) (m₀ := 11) (ann := some (.ref 6)) (M := 20000)
    (boot_open (by kernel_rfl) (by kernel_rfl) (fun s => by kernel_rfl)) (fun w => by kernel_rfl) run (by kernel_rfl) seen
end K30.H
set_option Elab.async false
set_option linter.all false
set_option maxRecDepth 100000
namespace L2
open PySem PySem.Spec PyProof.Rows
def gj (A : Around) (h : Heap) : Prop := A.handled = none ∨ ∃ (e : Addr) (oe : Obj) (vs : Array Value), A.handled = some (.ref e) ∧ h.get? e = some oe ∧ oe.data = .fields vs ∧ vs[2]? = some .none
theorem sv : entryFor table "proto.unchain" = some Builtin.«proto.unchain» := entryFor_of_tree (by kernel_rfl)
section
variable {prog : Program} {w : World} {A : Around} {E : Value → Shared → Prop} {s : Shared}
theorem uI {x e : Addr} {oe : Obj} {vs : Array Value} {Q : Value → Shared → Prop} (he : s.heap.get? e = some oe) (hd : oe.data = .fields vs) (h2 : vs[2]? = some .none) (h : Q .none s) :
    wpAny (model prog w) A (runValue (.builtin "proto.unchain" ⟨[.ref x, .ref e, .ref e, .bool false], []⟩)) Q E s := by
  refine wpAny_runValue (codeAny_builtin sv ?_)
  unfold Builtin.«proto.unchain»
  dsimp only
  refine wpAny_bind (wpAny_field he hd h2 ?_)
  rw [if_pos (by rfl)]
  exact wpAny_pure h
theorem rL {α : Type} {a : Addr} {oa : Obj} {ws : Array Value} {Q : α → Shared → Prop} (q : gj A s.heap) (ha : s.heap.get? a = some oa) (hda : oa.data = .fields ws) (hz : 2 < ws.size)
    (hnew : ∀ e oe, A.handled = some (.ref e) → s.heap.get? e = some oe → e ≠ a)
    (h : ∀ h', Heap.ExtBut a s.heap h' → (∃ o', h'.get? a = some o' ∧ o'.cls = oa.cls) → E (.ref a) { s with heap := h' }) : wpAny (model prog w) A (raiseNew (.ref a) : Sem α) Q E s := by
  unfold raiseNew
  refine wpAny_bind (wpAny_handled ?_)
  rcases q with q | ⟨e, oe, vs, q, he, hd, h2⟩
  · rw [q]
    exact wpAny_bind (wpAny_pure (wpAny_throw (h s.heap (fun b o _ z => z) ⟨oa, ha, rfl⟩)))
  · rw [q]
    have ne : e ≠ a := hnew e oe q he
    dsimp only
    rw [if_pos (by simp [ne])]
    refine wpAny_bind (wpAny_holding (uI he hd h2 ?_))
    refine wpAny_bind ?_
    refine wpAny_setField ha hda hz (wpAny_throw ?_)
    have hd' := Obj.data_mapFields hda (·.setIfInBounds 2 (Value.ref e))
    exact h _ (Heap.SameBut.update ..).extBut ⟨_, Heap.get?_update_self _ ha (Obj.isFreed_of_fields hd'), Obj.cls_mapFields ..⟩
theorem qm {it : Addr} {α : Type} {h0 : Heap} {Q : α → Shared → Prop} (q : gj A s.heap) (k : Heap.ExtBut it h0 s.heap) (kl : ∀ e oe, A.handled = some (.ref e) → s.heap.get? e = some oe → True)
    (h : ∀ h' a, Heap.ExtBut it h0 h' → (∃ o', h'.get? a = some o' ∧ o'.cls = .type "StopIteration") → E (.ref a) { s with heap := h' }) : wpAny (model prog w) A (newExc (.type "StopIteration") [] >>= fun e => (raiseNew e : Sem α)) Q E s := by
  refine wpAny_bind ?_; simp only [newExc, newTuple]
  refine wpAny_bind (wpAny_newObj_type ?_ (by size_fits)); refine wpAny_bind (m := firstArgMember _ _) (wpAny_of_eq (a := Value.none) (by first | rfl | (simp only [firstArgMember]; rfl)) ?_); refine wpAny_newObj_type ?_ (by size_fits)
  have q' : ∀ o1 o2 : Obj, gj A ((s.heap.push o1).push o2) := fun o1 o2 => by
    rcases q with q | ⟨e, oe, vs, q, he, r⟩
    · exact .inl q
    · exact .inr ⟨e, oe, vs, q, Heap.get?_push_of_some _ (Heap.get?_push_of_some _ he), r⟩
  refine rL (q' _ _) (Heap.get?_push_size _ rfl) rfl (by rw [Array.size_append]; exact Nat.lt_of_lt_of_le (by decide : 2 < 6) (Nat.le_add_right _ _)) (fun e oe hq he z => ?_) fun h' hx ⟨o', ho', hc'⟩ => h h' _ (fun b o hb e => hx b o ?_ (Heap.get?_push_of_some _ (Heap.get?_push_of_some _ (k b o hb e)))) ⟨o', ho', hc'⟩
  · rcases q with q | ⟨e1, oe1, vs, q, he1, r⟩
    · rw [q] at hq; cases hq
    · rw [q] at hq; cases hq
      exact absurd (Heap.lt_size he1) (by rw [z]; simp)
  · exact Nat.ne_of_lt (Nat.lt_of_lt_of_le (Heap.lt_size (k b o hb e)) (by simp))
theorem mr {it : Addr} {o : Obj} {ws : Array Value} {f : Array Value → Array Value} (q : gj A s.heap) (ho : s.heap.get? it = some o) (hd : o.data = .fields ws) (hn : ∀ e, A.handled = some (.ref e) → e ≠ it) : gj A (s.heap.update it (Obj.mapFields f)) := by
  rcases q with q | ⟨e, oe, vs, q, he, r⟩
  · exact .inl q
  · exact .inr ⟨e, oe, vs, q, by rw [Heap.get?_update_other _ _ (Ne.symm (hn e q))]; exact he, r⟩
theorem se {it l : Addr} {i : Nat} {items} {Q : Option Value → Shared → Prop} (q : gj A s.heap) (hn : ∀ e, A.handled = some (.ref e) → e ≠ it) (hit : s.heap.IsListIter it l i) (hl : s.heap.IsList l items) (hx : items[i]? = none)
    (hQ : ∀ h', Heap.ExtBut it s.heap h' → Q none { s with heap := h' }) : wpAny (model prog w) A (pyNext (.ref it)) Q E s := by
  obtain ⟨o, ho, hc, hd⟩ := id hit
  obtain ⟨ol, hol, _, nl, hdl⟩ := hl; unfold pyNext
  refine wpAny_bind (wpAny_attempt (wpAny_callSpecial?_slot (name := Str.ofString "__next__") hit.typeIs slot_listiter_next (wpAny_call_entry slot_listiter_next hit.typeIs entry_listiter_next ?_ (args_listiter_next _))))
  show wpAny _ _ (field (.ref it) 0 >>= _) _ _ s; refine wpAny_bind (wpAny_field ho hd (x := .ref l) rfl ?_)
  show wpAny _ _ (if (Value.ref l == Value.none) = true then _ else _) _ _ s; rw [if_neg (show ¬ ((Value.ref l == Value.none) = true) from Bool.false_ne_true)]
  show wpAny _ _ (field (.ref it) 1 >>= _) _ _ s; refine wpAny_bind (wpAny_field ho hd (x := .int i 0) rfl ?_)
  show wpAny _ _ (seqItems? (.ref l) >>= _) _ _ s; refine wpAny_bind (wpAny_seqItems hol hdl ?_); simp only [Int.toNat_natCast, hx]
  refine wpAny_bind (wpAny_rule (wpAny_bind (wpAny_setField ho hd (by simp) ?_)))
  refine qm (it := it) (h0 := s.heap) (A := A.in1) (mr (A := A.in1) q ho hd hn) (Heap.SameBut.update ..).extBut (fun _ _ _ _ => trivial) fun h' a hx' ⟨o', ho', hc'⟩ => ?_
  refine wpAny_bind (wpAny_isInstance (T := "StopIteration") (b := true) ⟨_, ho', hc'⟩ isSubtype_stop ?_); exact wpAny_pure (hQ _ hx')
theorem nC {it t : Addr} {i : Nat} {items} {Q : Option Value → Shared → Prop} (q : gj A s.heap) (hn : ∀ e, A.handled = some (.ref e) → e ≠ it) (hit : IsTupIter s.heap it t i) (ht : IsTup s.heap t items) (hx : items[i]? = none)
    (hQ : ∀ h', Heap.ExtBut it s.heap h' → Q none { s with heap := h' }) : wpAny (model prog w) A (pyNext (.ref it)) Q E s := by
  obtain ⟨o, ho, hc, hd⟩ := id hit
  obtain ⟨ol, hol, _, nl, hdl⟩ := ht; unfold pyNext
  refine wpAny_bind (wpAny_attempt (wpAny_callSpecial?_slot (name := Str.ofString "__next__") hit.typeIs slot_tupleiter_next (wpAny_call_entry slot_tupleiter_next hit.typeIs entry_tupleiter_next ?_ (args_tupleiter_next _))))
  show wpAny _ _ (field (.ref it) 0 >>= _) _ _ s; refine wpAny_bind (wpAny_field ho hd (x := .ref t) rfl ?_)
  show wpAny _ _ (if (Value.ref t == Value.none) = true then _ else _) _ _ s; rw [if_neg (show ¬ ((Value.ref t == Value.none) = true) from Bool.false_ne_true)]
  show wpAny _ _ (field (.ref it) 1 >>= _) _ _ s; refine wpAny_bind (wpAny_field ho hd (x := .int i 0) rfl ?_)
  show wpAny _ _ (seqItems? (.ref t) >>= _) _ _ s; refine wpAny_bind (wpAny_seqItems hol hdl ?_); simp only [Int.toNat_natCast, hx]
  refine wpAny_bind (wpAny_rule (wpAny_bind (wpAny_setField ho hd (by simp) ?_)))
  refine qm (it := it) (h0 := s.heap) (A := A.in1) (mr (A := A.in1) q ho hd hn) (Heap.SameBut.update ..).extBut (fun _ _ _ _ => trivial) fun h' a hx' ⟨o', ho', hc'⟩ => ?_
  refine wpAny_bind (wpAny_isInstance (T := "StopIteration") (b := true) ⟨_, ho', hc'⟩ isSubtype_stop ?_); exact wpAny_pure (hQ _ hx')
theorem sk {env : Env} {elts : List Expr} {x1} {pos : Pos} {t : Addr} {items : Array Value} {Q : Unit → Shared → Prop} (q : gj A s.heap) (ht : IsTup s.heap t items) (hn : (assignEach elts env).length = items.size)
    (hstar : (assignEach elts env).findIdx? (·.1) = none) (h : ∀ h', Heap.ExtBut s.heap.objs.size s.heap h' → wpAny (model prog w) A (assignInOrder ((assignEach elts env).map (·.2)) items.toList) Q E { s with heap := h' }) :
    wpAny (model prog w) A (assign (.Tuple elts x1 pos) env (.ref t)) Q E s := by
  rw [assign_Tuple]
  refine wpAny_bind (wpAny_standAt ?_)
  unfold unpack; rw [hn, hstar]
  refine wpAny_bind (wpAny_holding ?_)
  have hlt : t ≠ s.heap.objs.size := by obtain ⟨o, ho, _⟩ := ht; exact Nat.ne_of_lt (Heap.lt_size ho)
  unfold unpackItems; refine wpAny_bind ?_
  unfold notIterableAtAll; refine wpAny_bind (wpAny_specialOf ht.typeIs slot_tuple_iter.lookup ?_); refine wpAny_pure ?_; simp only [Bool.false_eq_true, if_false]
  refine wpAny_bind (wpAny_holding (iter_tuple ht ?_))
  refine wpAny_bind (wpAny_holding (draw_tuple hlt items.size 0 _ _ ⟨_, Heap.get?_push_size _ rfl, rfl, rfl⟩ (ht.push _) (by omega) fun h₁ hit₁ hs₁ => ?_))
  rw [show List.take items.size (List.drop 0 items.toList) = items.toList from by rw [List.drop_zero]; exact List.take_of_length_le (by simp), if_neg (by simp)]
  have fr : ∀ e, A.handled = some (.ref e) → e ≠ s.heap.objs.size := fun e hq => by
    rcases q with q | ⟨e1, oe1, vs, q, he1, r⟩
    · rw [q] at hq; cases hq
    · rw [q] at hq; cases hq; exact Nat.ne_of_lt (Heap.lt_size he1)
  have q1 : gj A h₁ := by
    rcases q with q | ⟨e, oe, vs, q, he, r⟩
    · exact .inl q
    · exact .inr ⟨e, oe, vs, q, hs₁.extBut e oe (fr e q) (Heap.get?_push_of_some _ he), r⟩
  refine wpAny_bind (wpAny_holding (nC q1 fr hit₁ ((ht.push _).extBut hs₁.extBut hlt) (by simp) fun h₂ he₂ => ?_)); simp only [Option.isSome_none, Bool.false_eq_true, if_false]
  exact wpAny_pure (h h₂ fun b o hb e => he₂ b o hb (hs₁.extBut b o hb (Heap.get?_push_of_some _ e)))
end
end L2
set_option Elab.async false
set_option linter.all false
set_option maxRecDepth 100000
namespace L2
open PySem PySem.Spec PyProof.Rows
abbrev Key := Sum Int Str
def ED : Key → Value → Bool
  | .inl k, v => Value.isInt k v
  | .inr x, v => Value.isStrOf x v
def Jg (w : World) : Key → Int
  | .inl k => hashInt k
  | .inr x => hashStr w x
theorem cb : ∀ {k : Key} {v : Value}, ED k v = true → (∃ i t, k = Sum.inl i ∧ v = Value.int i t) ∨ (∃ x t, k = Sum.inr x ∧ v = Value.str x t)
  | .inl i, v, h => by
    obtain ⟨t, e⟩ := Value.isInt_shape (k := i) (v := v) h
    exact .inl ⟨i, t, rfl, e⟩
  | .inr x, v, h => by
    obtain ⟨t, e⟩ := Value.isStrOf_shape (x := x) (v := v) h
    exact .inr ⟨x, t, rfl, e⟩
theorem Fn (a b : Int) : decide ((Sum.inl a : Key) = Sum.inl b) = (a == b) := by
  by_cases e : a = b
  · subst e; simp
  · have h : ¬ (Sum.inl a : Key) = Sum.inl b := fun q => e (Sum.inl.inj q)
    rw [decide_eq_false h]
    exact (beq_eq_false_iff_ne.mpr e).symm
theorem FK (a b : Str) : decide ((Sum.inr a : Key) = Sum.inr b) = decide (a = b) := by
  by_cases e : a = b
  · subst e; simp
  · have h : ¬ (Sum.inr a : Key) = Sum.inr b := fun q => e (Sum.inr.inj q)
    rw [decide_eq_false h, decide_eq_false e]
theorem FI (a : Int) (b : Str) : decide ((Sum.inl a : Key) = Sum.inr b) = false := decide_eq_false (fun q => nomatch q)
theorem GA (a : Str) (b : Int) : decide ((Sum.inr a : Key) = Sum.inl b) = false := decide_eq_false (fun q => nomatch q)
def yY (prog : Program) (w : World) : PySem.KeyKind prog w Key where
  is := ED
  hash := Jg w
  inj := fun v a b ha hb => by
    rcases cb ha with ⟨i, t, rfl, rfl⟩ | ⟨x, t, rfl, rfl⟩
    · rcases cb hb with ⟨j, u, rfl, e⟩ | ⟨y, u, rfl, e⟩
      · injection e with e1 _; rw [e1]
      · exact nomatch e
    · rcases cb hb with ⟨j, u, rfl, e⟩ | ⟨y, u, rfl, e⟩
      · exact nomatch e
      · injection e with e1 _; rw [e1]
  byValue := fun k v h => by
    rcases cb h with ⟨i, t, rfl, rfl⟩ | ⟨x, t, rfl, rfl⟩ <;> rfl
  pyHash := fun hv h => by
    rcases cb hv with ⟨i, t, rfl, rfl⟩ | ⟨x, t, rfl, rfl⟩
    · exact wpAny_pyHash_int h
    · exact wpAny_pyHash_str h
  eqBool := fun hu hv h => by
    rcases cb hu with ⟨i, t, rfl, rfl⟩ | ⟨x, t, rfl, rfl⟩
    · rcases cb hv with ⟨j, u, rfl, rfl⟩ | ⟨y, u, rfl, rfl⟩
      · rw [Fn] at h; exact wpAny_eqBool_int h
      · rw [FI] at h; exact SeqAt.EqAt.int_str i t y u _ _ _ _ h
    · rcases cb hv with ⟨j, u, rfl, rfl⟩ | ⟨y, u, rfl, rfl⟩
      · rw [GA] at h; exact SeqAt.EqAt.str_int x t j u _ _ _ _ h
      · rw [FK] at h; exact wpAny_eqBool_str h
  «strs» := fun k x t v h => by
    rcases cb h with ⟨i, u, rfl, e⟩ | ⟨y, u, rfl, e⟩
    · exact nomatch e
    · injection e with e1 _
      subst e1
      cases v <;> rfl
end L2
namespace L2
open PySem PySem.Spec PyProof.Rows
inductive V where
  | non | bl (b : Bool) | int (i : Int) | str (x : Str) | byt (b : Array UInt8) | flt (b : UInt64) | ref (a : Addr) | ty (n : String)
  deriving DecidableEq
def RelV : V → Value → Prop
  | .non, u => u = Value.none
  | .bl b, u => u = Value.bool b
  | .int i, u => ∃ t, u = Value.int i t
  | .str x, u => ∃ t, u = Value.str x t
  | .byt b, u => ∃ t, u = Value.bytes b t
  | .flt b, u => ∃ t, u = Value.float b t
  | .ref a, u => u = Value.ref a
  | .ty n, u => u = Value.type n
abbrev Vals : List V → List Value → Prop := Paired RelV
theorem Vals.length {xs : List V} {us : List Value} (r : Vals xs us) : xs.length = us.length := Paired.length r
theorem Vals.get : ∀ {xs : List V} {us : List Value} {i : Nat} {x : V}, Vals xs us → xs[i]? = some x → ∃ u, us[i]? = some u ∧ RelV x u
  | _, _, _, _, .nil, e => by simp at e
  | _, _, 0, _, .cons r _, e => by simp at e; subst e; exact ⟨_, rfl, r⟩
  | _, _, i + 1, x, .cons _ t, e => by
    obtain ⟨u, h1, h2⟩ := Vals.get (i := i) (x := x) t (by simpa using e)
    exact ⟨u, by simpa using h1, h2⟩
theorem Vals.set {x : V} {u : Value} (r : RelV x u) : ∀ {xs : List V} {us : List Value} (i : Nat), Vals xs us → Vals (xs.set i x) (us.set i u)
  | _, _, _, .nil => .nil
  | _, _, 0, .cons _ t => .cons r t
  | _, _, i + 1, .cons q t => .cons q (Vals.set r i t)
theorem Vals.append : ∀ {xs ys : List V} {us ws : List Value}, Vals xs us → Vals ys ws → Vals (xs ++ ys) (us ++ ws)
  | _, _, _, _, .nil, s => s
  | _, _, _, _, .cons r t, s => .cons r (Vals.append t s)
theorem Vals.take : ∀ {xs : List V} {us : List Value} (n : Nat), Vals xs us → Vals (xs.take n) (us.take n)
  | _, _, 0, _ => .nil
  | _, _, _ + 1, .nil => .nil
  | _, _, n + 1, .cons r t => .cons r (Vals.take n t)
theorem Vals.drop : ∀ {xs : List V} {us : List Value} (n : Nat), Vals xs us → Vals (xs.drop n) (us.drop n)
  | _, _, 0, r => r
  | _, _, _ + 1, .nil => .nil
  | _, _, n + 1, .cons _ t => Vals.drop n t
def Il : Option V → Option Value → Prop
  | some v, some u => RelV v u
  | none, none => True
  | _, _ => False
def KV {κ : Type} : List (κ × V) → List (κ × Value) → Prop := Paired fun (p : κ × V) (q : κ × Value) => p.1 = q.1 ∧ RelV p.2 q.2
def kV : Key → V
  | .inl i => .int i
  | .inr x => .str x
inductive HO where
  /-- a list -/
  | lst (xs : List V)
  /-- a tuple (never changes) -/
  | tup (xs : List V)
  /-- a dict whose keys are ints and texts; one whose keys are tuples of ints and texts (the empty one is both) -/
  | dK (kvs : List (Key × V)) | dT (kvs : List (List Key × V))
  /-- a set of ints: its members, its size -/
  | set (S : Int → Bool) (n : Nat)
  /-- an instance of the class at C, its dict at dx, its attributes -/
  | ins (C dx : Addr) (fs : List (Str × V))
  /-- the dict of the instance at x -/
  | own (x : Addr)
  /-- the dict of an exception -/
  | xd (fs : List (Str × V))
  /-- a bound method, f of x -/
  | met (f x : Addr)
  /-- a range object lo, lo + 1, .. below hi -/
  | rng (lo hi : Int)
  /-- a thing that is known to the object (the script; a dict while a loop walks it): read, never written while it is so -/
  | frz (o : Obj) (u : HO)
  /-- a code object's table -/
  | tbl (ps : Array Value)
  /-- any other thing, by what is true of its one object (a def of one's own: SetO a S n := HO.ext fun h => ..) -/
  | ext (φ : Heap → Prop)
abbrev Hp := Addr → Option HO
def upd (H : Hp) (a : Addr) (o : HO) : Hp := fun b => if b = a then some o else H b
theorem bB {H : Hp} {a : Addr} {o : HO} : upd H a o a = some o := by unfold upd; rw [if_pos rfl]
theorem aT {H : Hp} {a b : Addr} {o : HO} (h : b ≠ a) : upd H a o b = H b := by unfold upd; rw [if_neg h]
theorem aG {H : Hp} {a b : Addr} {o : HO} (h : H a = some o) (h' : H b = none) : a ≠ b := by
  intro e; subst e; rw [h] at h'; cases h'
section
variable (P : Program) (w : World)
def ie (H : Hp) (h : Heap) (a : Addr) : HO → Prop
  | .lst xs => xs.length ≤ sizeLine ∧ ∃ (its : List Value) (n : Nat), Vals xs its ∧ h.get? a = some { cls := .type "list", data := .seq its.toArray n }
  | .tup xs => xs.length ≤ sizeLine ∧ ∃ its : List Value, Vals xs its ∧ IsTup h a its.toArray
  | .dK kvs => kvs.length ≤ sizeLine ∧ (a == sysModules) = false ∧ ∃ vs, KV kvs vs ∧ h.DictOf (yY P w) a vs
  | .dT kvs => kvs.length ≤ sizeLine ∧ (a == sysModules) = false ∧ ∃ xs : List (List Key × Addr × Value),
      Paired (fun (p : List Key × V) (q : List Key × Addr × Value) => p.1 = q.1 ∧ H q.2.1 = some (.tup (p.1.map kV)) ∧ RelV p.2 q.2.2) kvs xs ∧
      ∃ o es ep, h.get? a = some o ∧ o.ExactDict ∧ o.data = .dict es ep ∧ es.toList = xs.map (entryOfKey (tupleKind (yY P w))) ∧ (xs.map (·.1)).Nodup
  | .set S n => h.SetOf (intKind P w) a S n
  | .ins C dx fs => H dx = some (.own a) ∧ fs.length ≤ 1000 ∧ dx ≠ a ∧ h.get? a = some (PySem.W.instObj C dx) ∧
      ∃ mA, h.Ns1 dx mA ∧ (∀ f, Il (fs.lookup f) (mA f)) ∧ PySem.Within mA (fs.map (·.1))
  | .own _ => ∃ o, h.get? a = some o
  | .xd fs => ∃ mA, h.Ns1 a mA ∧ ∀ f, Il (fs.lookup f) (mA f)
  | .rng lo hi => ∃ t u v, h.get? a = some { cls := .type "range", data := .fields #[.int lo t, .int hi u, .int 1 v] }
  | .frz o u => h.get? a = some o ∧ ie H h a u
  | .tbl ps => h.get? a = some { cls := .none, data := .fields ps }
  | .met f x => h.get? a = some (PySem.W.methodObj (.ref f) (.ref x))
  | .ext φ => φ h ∧ (∃ o, h.get? a = some o) ∧ ∀ h1 h2 : Heap, φ h1 → (∀ o, h1.get? a = some o → h2.get? a = some o) → φ h2
def HOk (H : Hp) (h : Heap) : Prop := ∀ a o, H a = some o → ie P w H h a o
end
section
variable {P : Program} {w : World} {H H' : Hp} {h h' : Heap} {a : Addr} {o : HO}
theorem ie.lt (x : ie P w H h a o) : a < h.objs.size := by
  cases o with
  | lst xs => obtain ⟨_, _, _, _, e⟩ := x; exact Heap.lt_size e
  | tup xs => obtain ⟨_, _, _, p⟩ := x; exact p.lt
  | dK kvs => obtain ⟨_, _, _, _, o, _, _, e, _⟩ := x; exact Heap.lt_size e
  | dT kvs => obtain ⟨_, _, _, _, o, _, _, e, _⟩ := x; exact Heap.lt_size e
  | set S n => obtain ⟨o, _, _, _, e, _⟩ := x; exact Heap.lt_size e
  | ins C dx fs => obtain ⟨_, _, _, e, _⟩ := x; exact Heap.lt_size e
  | own y => obtain ⟨_, e⟩ := x; exact Heap.lt_size e
  | xd fs => obtain ⟨_, ⟨_, _, _, e, _⟩, _⟩ := x; exact Heap.lt_size e
  | rng lo hi => obtain ⟨_, _, _, e⟩ := x; exact Heap.lt_size e
  | frz ob u => obtain ⟨e, _⟩ := x; exact Heap.lt_size e
  | tbl ps => exact Heap.lt_size (show h.get? a = some _ from x)
  | met f y => exact Heap.lt_size (show h.get? a = some _ from x)
  | ext φ => obtain ⟨_, ⟨_, e⟩, _⟩ := x; exact Heap.lt_size e
theorem Paired.Ii {α β : Type} {F G : α → β → Prop} : ∀ {l₁ : List α} {l₂ : List β}, Paired F l₁ l₂ → (∀ a b, F a b → G a b) → Paired G l₁ l₂
  | _, _, .nil, _ => .nil
  | _, _, .cons r t, f => .cons (f _ _ r) (Paired.Ii t f)
theorem ie.mm (x : ie P w H h a o) (k : ∀ b u, (b = a ∨ H b = some (.own a)) → h.get? b = some u → h'.get? b = some u)
    (ho : ∀ b, H b = some (.own a) → H' b = some (.own a)) (ht : ∀ b xs, H b = some (.tup xs) → H' b = some (.tup xs)) : ie P w H' h' a o := by
  induction o with
  | lst xs => obtain ⟨z, its, n, r, e⟩ := x; exact ⟨z, its, n, r, k _ _ (.inl rfl) e⟩
  | tup xs => obtain ⟨z, its, r, ob, e, c⟩ := x; exact ⟨z, its, r, ob, k _ _ (.inl rfl) e, c⟩
  | dK kvs => obtain ⟨z, y, vs, r, ob, es, ep, e, c⟩ := x; exact ⟨z, y, vs, r, ob, es, ep, k _ _ (.inl rfl) e, c⟩
  | dT kvs =>
    obtain ⟨z, y, xs, r, ob, es, ep, e, c⟩ := x
    exact ⟨z, y, xs, Paired.Ii r fun p q z => ⟨z.1, ht _ _ z.2.1, z.2.2⟩, ob, es, ep, k _ _ (.inl rfl) e, c⟩
  | set S n => obtain ⟨ob, es, ep, t, e, c⟩ := x; exact ⟨ob, es, ep, t, k _ _ (.inl rfl) e, c⟩
  | ins C dx fs =>
    obtain ⟨d, z, ne, e, mA, ⟨od, es, ep, e2, c⟩, r⟩ := x
    exact ⟨ho _ d, z, ne, k _ _ (.inl rfl) e, mA, ⟨od, es, ep, k _ _ (.inr d) e2, c⟩, r⟩
  | own y => obtain ⟨ob, e⟩ := x; exact ⟨ob, k _ _ (.inl rfl) e⟩
  | xd fs => obtain ⟨mA, ⟨od, es, ep, e, c⟩, r⟩ := x; exact ⟨mA, ⟨od, es, ep, k _ _ (.inl rfl) e, c⟩, r⟩
  | rng lo hi => obtain ⟨t, u, v, e⟩ := x; exact ⟨t, u, v, k _ _ (.inl rfl) e⟩
  | frz ob u ih => obtain ⟨e, q⟩ := x; exact ⟨k _ _ (.inl rfl) e, ih q⟩
  | tbl ps =>
    have e : h.get? a = some { cls := .none, data := .fields ps } := x
    show h'.get? a = some { cls := .none, data := .fields ps }
    exact k a _ (.inl rfl) e
  | met f y =>
    have e : h.get? a = some (PySem.W.methodObj (.ref f) (.ref y)) := x
    show h'.get? a = some (PySem.W.methodObj (.ref f) (.ref y))
    exact k a _ (.inl rfl) e
  | ext φ => obtain ⟨p, ⟨o, e⟩, st⟩ := x; exact ⟨st _ _ p fun o q => k _ _ (.inl rfl) q, ⟨o, k _ _ (.inl rfl) e⟩, st⟩
theorem HOk.lt (x : HOk P w H h) (e : H a = some o) : a < h.objs.size := (x a o e).lt
theorem HOk.fresh (x : HOk P w H h) (e : h.objs.size ≤ a) : H a = none := by
  cases q : H a with
  | none => rfl
  | some u => exact absurd (Nat.lt_of_lt_of_le (x.lt q) e) (Nat.lt_irrefl _)
theorem HOk.kept (x : HOk P w H h) (k : ∀ b u, h.get? b = some u → h'.get? b = some u) : HOk P w H h' := fun a o e =>
  (x a o e).mm (fun b u _ q => k b u q) (fun _ q => q) fun _ _ q => q
theorem HOk.laid (x : HOk P w H h) (k : ∀ b u, h.get? b = some u → h'.get? b = some u) (hp : h.objs.size ≤ a) (new : ie P w (upd H a o) h' a o) : HOk P w (upd H a o) h' := fun b u e => by
  have hn := x.fresh hp
  by_cases hb : b = a
  · subst hb; rw [bB] at e; cases e; exact new
  · rw [aT hb] at e
    exact (x b u e).mm (fun c v _ q => k c v q) (fun c q => by rw [aT (aG q hn)]; exact q) fun c xs q => by rw [aT (aG q hn)]; exact q
end
def Rd (H : Hp) (a : Addr) (u : HO) : Prop := H a = some u ∨ ∃ o, H a = some (.frz o u)
theorem Rd.of {H : Hp} {a : Addr} {u : HO} (h : H a = some u) : Rd H a u := .inl h
theorem Rd.ok {P : Program} {w : World} {H : Hp} {h : Heap} {a : Addr} {u : HO} (r : Rd H a u) (x : HOk P w H h) : ie P w H h a u := by
  rcases r with r | ⟨o, r⟩
  · exact x a u r
  · obtain ⟨_, q⟩ := x a _ r
    exact q
def Mut : Option HO → Prop
  | some (.lst _) => True
  | some (.dK _) => True
  | some (.dT _) => True
  | some (.set _ _) => True
  | some (.ins _ _ _) => True
  | some (.ext _) => True
  | _ => False
section
variable {P : Program} {w : World} {H : Hp} {h h' : Heap} {x e : Addr} {o' : HO}
theorem HOk.write (ok : HOk P w H h) (mu : Mut (H x)) (he : e = x ∨ H e = some (.own x)) (k : ∀ b u, b ≠ e → h.get? b = some u → h'.get? b = some u) (heo : ∃ u, h'.get? e = some u)
    (new : ie P w (upd H x o') h' x o') : HOk P w (upd H x o') h' := fun b u q => by
  have nown : ∀ c y, H c = some (.own y) → c ≠ x := fun c y r z => by subst z; rw [r] at mu; exact mu
  have ntup : ∀ c xs, H c = some (.tup xs) → c ≠ x := fun c xs r z => by subst z; rw [r] at mu; exact mu
  by_cases hb : b = x
  · subst hb; rw [bB] at q; cases q; exact new
  · rw [aT hb] at q
    by_cases hbe : b = e
    · have q' : H b = some (.own x) := by
        rcases he with z | z
        · exact absurd (hbe.trans z) hb
        · rw [hbe]; exact z
      rw [q] at q'; cases q'
      obtain ⟨v, hv⟩ := heo
      exact ⟨v, by rw [hbe]; exact hv⟩
    · refine (ok b u q).mm (fun c v hc r => k c v ?_ r) (fun c r => by rw [aT (nown c b r)]; exact r) fun c xs r => by rw [aT (ntup c xs r)]; exact r
      rcases hc with rfl | hc
      · exact hbe
      · rintro rfl
        rcases he with z | z
        · exact nown c b hc z
        · rw [hc] at z; cases z; exact hb rfl
end
structure Un (fs ex : List Addr) (H H' : Hp) (h h' : Heap) : Prop where
  keep : ∀ b o, h.get? b = some o → H b = none → b ∉ fs → b ∉ ex → h'.get? b = some o
  slot : ∀ b o, h.get? b = some o → H b = none → b ∈ fs → b ∉ ex → ∃ sl, h'.get? b = some { o with slots := sl }
  free : ∀ b o, h.get? b = some o → H b = none → b ∉ ex → H' b = none
  there : ∀ b o, h.get? b = some o → b ∉ ex → ∃ o', h'.get? b = some o'
  lP : ∀ b xs, H b = some (.tup xs) → H' b = some (.tup xs)
  lC : ∀ b o u, H b = some (.frz o u) → H' b = some (.frz o u)
  lG : ∀ b ps, H b = some (.tbl ps) → ∃ more, H' b = some (.tbl (ps ++ more))
section
variable {fs fs' ex ex' : List Addr} {H H1 H2 : Hp} {h h1 h2 h' : Heap} {a x e : Addr} {o : HO}
theorem Un.any (u : Un fs ex H H1 h h1) {b : Addr} {ob : Obj} (q : h.get? b = some ob) (n : H b = none) (hx : b ∉ ex) : ∃ sl, h1.get? b = some { ob with slots := sl } := by
  by_cases hb : b ∈ fs
  · exact u.slot b ob q n hb hx
  · exact ⟨ob.slots, u.keep b ob q n hb hx⟩
theorem Un.trans (a : Un fs ex H H1 h h1) (b : Un fs ex H1 H2 h1 h2) : Un fs ex H H2 h h2 where
  keep := fun c ob q n hc hx => b.keep c ob (a.keep c ob q n hc hx) (a.free c ob q n hx) hc hx
  slot := fun c ob q n hc hx => by
    obtain ⟨sl, e1⟩ := a.slot c ob q n hc hx
    obtain ⟨sl', e2⟩ := b.slot c _ e1 (a.free c ob q n hx) hc hx
    exact ⟨sl', e2⟩
  free := fun c ob q n hx => by
    obtain ⟨o', e1⟩ := a.there c ob q hx
    exact b.free c o' e1 (a.free c ob q n hx) hx
  there := fun c ob q hx => by
    obtain ⟨o', e1⟩ := a.there c ob q hx
    exact b.there c o' e1 hx
  lP := fun c xs q => b.lP c xs (a.lP c xs q)
  lC := fun c ob xs q => b.lC c ob xs (a.lC c ob xs q)
  lG := fun c ps q => by
    obtain ⟨m1, e1⟩ := a.lG c ps q
    obtain ⟨m2, e2⟩ := b.lG c _ e1
    exact ⟨m1 ++ m2, by rw [e2, Array.append_assoc]⟩
theorem Un.kept (k : ∀ b u, h.get? b = some u → h'.get? b = some u) : Un fs ex H H h h' :=
  ⟨fun b ob q _ _ _ => k b ob q, fun b ob q _ _ _ => ⟨ob.slots, k b ob q⟩, fun _ _ _ n _ => n, fun b ob q _ => ⟨ob, k b ob q⟩, fun _ _ q => q, fun _ _ _ q => q, fun _ ps q => ⟨#[], by rw [q]; simp⟩⟩
theorem Un.refl : Un fs ex H H h h := Un.kept fun _ _ q => q
theorem Un.laid (k : ∀ b u, h.get? b = some u → h'.get? b = some u) (hp : h.objs.size ≤ a) (hn : H a = none) : Un fs ex H (upd H a o) h h' where
  keep := fun b u q _ _ _ => k b u q
  slot := fun b u q _ _ _ => ⟨u.slots, k b u q⟩
  free := fun b u q n _ => by rw [aT (Nat.ne_of_lt (Nat.lt_of_lt_of_le (Heap.lt_size q) hp))]; exact n
  there := fun b u q _ => ⟨u, k b u q⟩
  lP := fun b xs q => by rw [aT (aG q hn)]; exact q
  lC := fun b u xs q => by rw [aT (aG q hn)]; exact q
  lG := fun b ps q => ⟨#[], by rw [aT (aG q hn), q]; simp⟩
theorem Un.write (mu : Mut (H x)) (he : e = x ∨ H e = some (.own x)) (k : ∀ b u, b ≠ e → h.get? b = some u → h'.get? b = some u) (heo : ∃ u, h'.get? e = some u) : Un fs ex H (upd H x o) h h' := by
  have hx : ∀ b, H b = none → b ≠ x := fun b n z => by subst z; rw [n] at mu; exact mu
  have hb : ∀ b, H b = none → b ≠ e := fun b n z => by
    subst z
    rcases he with r | r
    · exact hx b n r
    · rw [n] at r; cases r
  have hm : ∀ b u, H b = some u → ¬ Mut (some u) → b ≠ x := fun b u q nm z => by subst z; rw [q] at mu; exact nm mu
  refine ⟨fun b u q n _ _ => k b u (hb b n) q, fun b u q n _ _ => ⟨u.slots, k b u (hb b n) q⟩, fun b u q n _ => by rw [aT (hx b n)]; exact n, fun b u q _ => ?_,
    fun b xs q => by rw [aT (hm b _ q fun z => z)]; exact q, fun b u xs q => by rw [aT (hm b _ q fun z => z)]; exact q, fun b ps q => ⟨#[], by rw [aT (hm b _ q fun z => z), q]; simp⟩⟩
  by_cases hbe : b = e
  · subst hbe; exact heo
  · exact ⟨u, k b u hbe q⟩
end
def trk (h : Heap) (H : Hp) : List Addr := (List.range h.objs.size).filter fun a => (H a).isSome
def vw (h : Heap) (H : Hp) : Heap := PySem.W.hideAll h (trk h H)
theorem AM (h : Heap) (H : Hp) : (vw h H).objs.size = h.objs.size := PySem.W.hideAll_size _ _
theorem Cf {h : Heap} {H : Hp} {b : Addr} {o : Obj} (e : h.get? b = some o) (n : H b = none) : (vw h H).get? b = some o :=
  PySem.W.hideAll_get _ e fun hm => by
    have q : (H b).isSome = true := (List.mem_filter.mp hm).2
    rw [n] at q; simp at q
theorem D5 {h : Heap} {H : Hp} {b : Addr} {o : Obj} (e : (vw h H).get? b = some o) : h.get? b = some o ∧ H b = none := by
  have e' : h.get? b = some o := PySem.W.of_hideAll (trk h H) e
  refine ⟨e', ?_⟩
  cases q : H b with
  | none => rfl
  | some x =>
    have hm : b ∈ trk h H := List.mem_filter.mpr ⟨List.mem_range.mpr (Heap.lt_size e'), by simp [q]⟩
    have z : (vw h H).get? b = none := PySem.W.hideAll_none (trk h H) hm
    rw [z] at e; cases e
def DQ (g h : Heap) (L : Addr) : List (Addr × Obj) := (List.range h.objs.size).filterMap fun a => if a = L ∨ (g.get? a).isSome = true then none else (h.get? a).map fun o => (a, o)
def rest (g h : Heap) (L d : Addr) : List (Addr × Obj) := (DQ g h L).filter fun p => decide (p.1 ≠ d)
end L2
namespace L2
open PySem PySem.Spec PyProof.Rows
structure Mod (K : PySem.W.Frag) (mg : Str → Option Value) (base : Heap) : Prop where
  kin : K.In base
  glob : base.Ns mainGlobals mg
  blt : ∃ mb, base.Ns builtinsNs mb ∧ ∀ x : Str, x ≠ "__name__" → mb x = bootBuiltins x
  nolimit : base.NoLimit
structure Cx where
  prog : Program
  w : World
  K : PySem.W.Frag
  mg : Str → Option Value
  base : Heap
  A : Around
  N : List Str
  s₀ : Shared
  H₀ : Hp
  env : Env
  outer : List Env
  stack : List Env
  ex : List Addr
  fn : Str → Bool
  calm : Bool
  pn : List (Addr × Obj)
  xe : Value → Shared → Prop
def frs (l : List Env) : List Addr := l.filterMap (·.frame)
abbrev Cx.fs (X : Cx) : List Addr := frs X.outer
def Vis (sc : Scope) (x : Str) : Prop := sc.names.lookup x = some .local ∨ sc.names.lookup x = some .cell ∨ sc.names.lookup x = some .free
def Loc (sc : Scope) (x : Str) : Prop := sc.names.lookup x = some .local ∨ sc.names.lookup x = some .cell
def Look (env : Env) (h : Heap) (m : Str → Option Value) (x : Str) (u : Value) : Prop :=
  (env.kindOf x = some .local ∧ m x = some u) ∨ ((env.kindOf x = some .cell ∨ env.kindOf x = some .free) ∧ ∃ c, env.cells.lookup x = some c ∧ h.IsCell c (some u))
structure Cx.Ok (X : Cx) : Prop where
  mod : Mod X.K X.mg X.base
  kind : X.env.scope.kind = .function
  glob : X.env.globals = mainGlobals
  blt : X.env.builtins = builtinsNs
  above : X.s₀.heap.objs.size ≤ X.env.locals
  inj : ∀ x y c, X.env.cells.lookup x = some c → X.env.cells.lookup y = some c → x = y
  has : ∀ x, (X.env.kindOf x = some .cell ∨ X.env.kindOf x = some .free) → ∃ c, X.env.cells.lookup x = some c
  cab : ∀ x c, X.fn x = true → X.env.cells.lookup x = some c → X.s₀.heap.objs.size ≤ c
  hd : X.calm = true → X.A.handled = none
  qt : X.A.handled = none ∨ ∃ (e : Addr) (oe : Obj) (vs : Array Value), X.A.handled = some (.ref e) ∧ (e, oe) ∈ X.pn ∧ oe.data = .fields vs ∧ vs[2]? = some .none
  frames : X.A.frames = some X.stack
  stk : X.stack = X.outer ∨ (X.stack = X.env :: X.outer ∧ X.env.frame = some X.env.locals)
  exf : ∀ b ∈ X.ex, b ≠ X.env.locals ∧ ∀ x c, X.env.cells.lookup x = some c → c ≠ b
  bs : ∀ b o, X.base.get? b = some o → X.s₀.heap.get? b = some o ∧ X.H₀ b = none
  bsz : X.base.objs.size ≤ X.s₀.heap.objs.size
  rW : ∀ b o, X.base.get? b = some o → b ∉ X.ex
  B5 : ∀ b ∈ X.ex, b ∉ X.fs
  lU : X.s₀.heap.FunFrames X.base X.outer
  frf : ∀ b ∈ X.fs, X.H₀ b = none
structure Inv (X : Cx) (pins : List (Addr × Obj)) (σ : List (Option V)) (H : Hp) (s : Shared) : Prop where
  ok : X.Ok
  os : s.os = X.s₀.os
  bare : AllBare s.gens
  base : Un X.fs X.ex X.H₀ H X.s₀.heap s.heap
  loc : ∃ m, s.heap.Ns X.env.locals m ∧ ∀ (i : Nat) (x : Str) (v : V), X.N[i]? = some x → σ[i]? = some (some v) → Vis X.env.scope x → ∃ u, RelV v u ∧ Look X.env s.heap m x u
  cell : ∀ x c, X.env.cells.lookup x = some c → ∃ v, s.heap.IsCell c v
  free : H X.env.locals = none
  dJ : ∀ x c, X.env.cells.lookup x = some c → H c = none
  pin : ∀ p ∈ X.pn ++ pins, s.heap.get? p.1 = some p.2 ∧ H p.1 = none ∧ p.1 ≠ X.env.locals ∧ p.1 ∉ X.fs ∧ ∀ v, p.2.data ≠ .cell v
  hok : HOk X.prog X.w H s.heap
  len : σ.length = X.N.length
section
variable {X : Cx} {pins : List (Addr × Obj)} {σ : List (Option V)} {H H' : Hp} {s : Shared} {h' : Heap}
theorem Inv.yy (I : Inv X pins σ H s) : gj X.A s.heap := by
  rcases I.ok.qt with q | ⟨e, oe, vs, q, hp, r⟩
  · exact .inl q
  · exact .inr ⟨e, oe, vs, q, (I.pin (e, oe) (List.mem_append_left _ hp)).1, r⟩
theorem Inv.hne (I : Inv X pins σ H s) {b : Addr} (hb : ∀ p ∈ X.pn ++ pins, p.1 ≠ b) : ∀ e, X.A.handled = some (.ref e) → e ≠ b := fun e he => by
  rcases I.ok.qt with q | ⟨e1, oe, vs, q, hp, r⟩
  · rw [q] at he; cases he
  · rw [q] at he; cases he; exact hb (e, oe) (List.mem_append_left _ hp)
theorem Cx.Ok.Jf (ok : X.Ok) {b : Addr} {o : Obj} (e : X.base.get? b = some o) : b ∉ X.fs := fun hb => by
  have := (ok.lU.mem hb).1
  rw [e] at this; cases this
theorem Inv.bs (I : Inv X pins σ H s) : ∀ b o, X.base.get? b = some o → s.heap.get? b = some o ∧ H b = none := fun b o e =>
  ⟨I.base.keep b o (I.ok.bs b o e).1 (I.ok.bs b o e).2 (I.ok.Jf e) (I.ok.rW b o e), I.base.free b o (I.ok.bs b o e).1 (I.ok.bs b o e).2 (I.ok.rW b o e)⟩
theorem Inv.bk (I : Inv X pins σ H s) : ∀ b o, X.base.get? b = some o → s.heap.get? b = some o := fun b o e => (I.bs b o e).1
theorem Inv.mod (I : Inv X pins σ H s) : Mod X.K X.mg X.base := I.ok.mod
theorem Inv.kIn (I : Inv X pins σ H s) : X.K.In s.heap := I.ok.mod.kin.keeps I.bk
theorem Inv.fr (I : Inv X pins σ H s) : ∃ m, Fr X.base X.env.locals s.heap m :=
  let ⟨m, hn, _⟩ := I.loc
  ⟨m, hn, I.bk, Nat.le_trans I.ok.bsz I.ok.above⟩
theorem Inv.lt (I : Inv X pins σ H s) : X.env.locals < s.heap.objs.size := let ⟨_, hn, _⟩ := I.loc; hn.lt
theorem Inv.sz (I : Inv X pins σ H s) : X.s₀.heap.objs.size ≤ s.heap.objs.size := Nat.le_trans I.ok.above (Nat.le_of_lt I.lt)
theorem Inv.IV (I : Inv X pins σ H s) {a : Addr} (h : s.heap.objs.size ≤ a) : a ∉ X.fs := fun hb => by
  obtain ⟨_, o, ho, _⟩ := I.ok.lU.mem hb
  exact absurd (Nat.lt_of_lt_of_le (Heap.lt_size ho) (Nat.le_trans I.sz h)) (Nat.lt_irrefl _)
theorem Inv.cne (I : Inv X pins σ H s) : ∀ x c, X.env.cells.lookup x = some c → c ≠ X.env.locals := fun x c e z => by
  obtain ⟨v, o, ho, hd⟩ := I.cell x c e
  obtain ⟨m, ⟨o', es, ep, ho', hd', _⟩, _⟩ := I.loc
  rw [z, ho'] at ho; cases ho; rw [hd'] at hd; cases hd
theorem Inv.lU (I : Inv X pins σ H s) : s.heap.FunFrames X.base X.outer := by
  have all : ∀ (l : List Env), (∀ b ∈ frs l, b ∈ X.fs) → X.s₀.heap.FunFrames X.base l → s.heap.FunFrames X.base l := by
    intro l
    induction l with
    | nil => intro _ _; trivial
    | cons env r ih =>
      intro hs hl
      obtain ⟨hk, ⟨L, o, hf, hn, ho, hd⟩, hr⟩ := hl
      have hL : L ∈ X.fs := hs L (by unfold frs; rw [List.filterMap_cons, hf]; exact List.mem_cons_self)
      obtain ⟨sl, e⟩ := I.base.slot L o ho (I.ok.frf L hL) hL fun z => I.ok.B5 L z hL
      exact ⟨hk, ⟨L, _, hf, hn, e, hd⟩, ih (fun b hb => hs b (by unfold frs; rw [List.filterMap_cons, hf]; exact List.mem_cons_of_mem _ hb)) hr⟩
  exact all X.outer (fun _ hb => hb) I.ok.lU
theorem Inv.stack (I : Inv X pins σ H s) : s.heap.FunFrames X.base X.stack := by
  rcases I.ok.stk with e | ⟨e, hf⟩
  · rw [e]; exact I.lU
  · rw [e]
    obtain ⟨m, hn, _⟩ := I.loc
    refine .cons (by rw [I.ok.kind]; decide) hf hn ?_ I.lU
    exact Heap.get?_none_of_le (Nat.le_trans I.ok.bsz I.ok.above)
theorem Inv.gN (I : Inv X pins σ H s) : ∀ b ∈ frs X.stack, b ∈ X.env.locals :: X.fs := fun b hb => by
  rcases I.ok.stk with e | ⟨e, hf⟩
  · rw [e] at hb; exact List.mem_cons_of_mem _ hb
  · rw [e] at hb
    unfold frs at hb
    rw [List.filterMap_cons, hf] at hb
    exact hb
theorem Inv.jN (I : Inv X pins σ H s) : ∀ b ∈ frs X.stack, H b = none := fun b hb => by
  rcases List.mem_cons.mp (I.gN b hb) with e | hb
  · rw [e]; exact I.free
  · obtain ⟨_, o, ho, _⟩ := I.ok.lU.mem hb
    exact I.base.free b o ho (I.ok.frf b hb) fun z => I.ok.B5 b z hb
theorem Inv.step {g' : Array GenState} {t' : Nat} {d' : Drawn} {ch : List Addr} (I : Inv X pins σ H s)
    (hch : ∀ b ∈ ch, (b ∈ X.ex ∨ X.s₀.heap.objs.size ≤ b) ∧ b ≠ X.env.locals ∧ (∀ x c, X.env.cells.lookup x = some c → c ≠ b) ∧ ∀ p ∈ X.pn ++ pins, p.1 ≠ b)
    (keep : ∀ b o, b ≠ X.env.locals → b ∉ X.fs → b ∉ ch → s.heap.get? b = some o → H b = none → h'.get? b = some o)
    (slot : ∀ b o, b ≠ X.env.locals → b ∈ X.fs → b ∉ ch → s.heap.get? b = some o → H b = none → ∃ sl, h'.get? b = some { o with slots := sl }) (free : ∀ b o, b ∉ ch → s.heap.get? b = some o → H b = none → H' b = none)
    (there : ∀ b o, b ∉ ch → s.heap.get? b = some o → ∃ o', h'.get? b = some o')
    (lP : ∀ b xs, H b = some (.tup xs) → H' b = some (.tup xs)) (lC : ∀ b o u, H b = some (.frz o u) → H' b = some (.frz o u)) (lG : ∀ b ps, H b = some (.tbl ps) → ∃ more, H' b = some (.tbl (ps ++ more)))
    (ns : ∀ m, s.heap.Ns X.env.locals m → h'.Ns X.env.locals m) (hok : HOk X.prog X.w H' h') (hg : AllBare g') :
    Inv X pins σ H' { s with heap := h', gens := g', drawn := d', toks := t' } := by
  have neL : ∀ b o, X.s₀.heap.get? b = some o → b ≠ X.env.locals := fun b o e => Nat.ne_of_lt (Nat.lt_of_lt_of_le (Heap.lt_size e) I.ok.above)
  have neC : ∀ b o, X.s₀.heap.get? b = some o → b ∉ X.ex → b ∉ ch := fun b o e hx hb => by
    rcases (hch b hb).1 with z | z
    · exact hx z
    · exact absurd (Nat.lt_of_lt_of_le (Heap.lt_size e) z) (Nat.lt_irrefl _)
  have cellK : ∀ x c, X.env.cells.lookup x = some c → ∀ v, s.heap.IsCell c v → h'.IsCell c v := fun x c e v ⟨o, ho, hd⟩ => by
    have nch : c ∉ ch := fun z => (hch c z).2.2.1 x c e rfl
    by_cases hc : c ∈ X.fs
    · obtain ⟨sl, q⟩ := slot c o (I.cne x c e) hc nch ho (I.dJ x c e)
      exact ⟨_, q, hd⟩
    · exact ⟨o, keep c o (I.cne x c e) hc nch ho (I.dJ x c e), hd⟩
  refine ⟨I.ok, I.os, hg, ⟨fun b o e n hb hx => ?_, fun b o e n hb hx => ?_, fun b o e n hx => ?_, fun b o e hx => ?_, fun b xs e => lP b xs (I.base.lP b xs e), fun b o xs e => lC b o xs (I.base.lC b o xs e), fun b ps e => ?_⟩, ?_, fun x c e => ?_, ?_, fun x c e => ?_, fun p hp => ?_, hok, I.len⟩
  · exact keep b o (neL b o e) hb (neC b o e hx) (I.base.keep b o e n hb hx) (I.base.free b o e n hx)
  · obtain ⟨sl, e1⟩ := I.base.slot b o e n hb hx
    obtain ⟨sl', e2⟩ := slot b _ (neL b o e) hb (neC b o e hx) e1 (I.base.free b o e n hx)
    exact ⟨sl', e2⟩
  · obtain ⟨o', e1⟩ := I.base.there b o e hx
    exact free b o' (neC b o e hx) e1 (I.base.free b o e n hx)
  · obtain ⟨o', e1⟩ := I.base.there b o e hx
    exact there b o' (neC b o e hx) e1
  · obtain ⟨m1, e1⟩ := I.base.lG b ps e
    obtain ⟨m2, e2⟩ := lG b _ e1
    exact ⟨m1 ++ m2, by rw [e2, Array.append_assoc]⟩
  · obtain ⟨m, hn, hl⟩ := I.loc
    refine ⟨m, ns m hn, fun i x v e1 e2 e3 => ?_⟩
    obtain ⟨u, r, l⟩ := hl i x v e1 e2 e3
    refine ⟨u, r, ?_⟩
    rcases l with l | ⟨k, c, e, z⟩
    · exact .inl l
    · exact .inr ⟨k, c, e, cellK x c e _ z⟩
  · obtain ⟨v, z⟩ := I.cell x c e
    exact ⟨v, cellK x c e v z⟩
  · obtain ⟨m, ⟨o, _, _, ho, _⟩, _⟩ := I.loc
    exact free _ o (fun z => (hch _ z).2.1 rfl) ho I.free
  · obtain ⟨v, o, ho, hd⟩ := I.cell x c e
    exact free c o (fun z => (hch c z).2.2.1 x c e rfl) ho (I.dJ x c e)
  · obtain ⟨e, n, ne, nf, d⟩ := I.pin p hp
    have nch : p.1 ∉ ch := fun z => (hch p.1 z).2.2.2 p hp rfl
    exact ⟨keep p.1 p.2 ne nf nch e n, free p.1 p.2 nch e n, ne, nf, d⟩
theorem Inv.un {t' : Nat} (I : Inv X pins σ H s) (u : Un X.fs [] H H' s.heap h') (hok : HOk X.prog X.w H' h') : Inv X pins σ H' { s with heap := h', toks := t' } := by
  obtain ⟨m, ⟨o, es, ep, ho, r⟩, _⟩ := id I.loc
  obtain ⟨sl, hL⟩ := u.any ho I.free (by simp)
  exact I.step (g' := s.gens) (d' := s.drawn) (ch := []) (fun _ z => nomatch z) (fun b o _ hb _ e n => u.keep b o e n hb (by simp)) (fun b o _ hb _ e n => u.slot b o e n hb (by simp)) (fun b o _ e n => u.free b o e n (by simp)) (fun b o _ e => u.there b o e (by simp)) u.lP u.lC u.lG (fun m' hm => by
    obtain ⟨o', es', ep', ho', r'⟩ := hm
    rw [ho] at ho'; cases ho'
    exact ⟨_, es', ep', hL, r'⟩) hok I.bare
theorem Inv.call {g' : Array GenState} {t' : Nat} {d' : Drawn} {ch : List Addr} (I : Inv X pins σ H s) (u : Un (frs X.stack) ch H H' s.heap h') (hok : HOk X.prog X.w H' h') (hg : AllBare g')
    (hch : ∀ b ∈ ch, (b ∈ X.ex ∨ X.s₀.heap.objs.size ≤ b) ∧ b ≠ X.env.locals ∧ (∀ x c, X.env.cells.lookup x = some c → c ≠ b) ∧ ∀ p ∈ X.pn ++ pins, p.1 ≠ b) :
    Inv X pins σ H' { s with heap := h', gens := g', drawn := d', toks := t' } := by
  obtain ⟨m, ⟨o, es, ep, ho, r⟩, _⟩ := id I.loc
  obtain ⟨sl, hL⟩ := u.any ho I.free fun z => (hch _ z).2.1 rfl
  exact I.step (ch := ch) hch (fun b o hL hb hc e n => u.keep b o e n (fun z => (List.mem_cons.mp (I.gN b z)).elim hL hb) hc) (fun b o _ _ hc e n => u.any e n hc) (fun b o hc e n => u.free b o e n hc) (fun b o hc e => u.there b o e hc) u.lP u.lC u.lG (fun m' hm => by
    obtain ⟨o', es', ep', ho', r'⟩ := hm
    rw [ho] at ho'; cases ho'
    exact ⟨_, es', ep', hL, r'⟩) hok hg
theorem Inv.turned {t' : Nat} {it : Addr} (I : Inv X pins σ H s) (k : ∀ b o, b ≠ it → s.heap.get? b = some o → h'.get? b = some o) (hn : H it = none) (hL : it ≠ X.env.locals)
    (h1 : it ∈ X.ex ∨ X.s₀.heap.objs.size ≤ it) (h2 : ∀ x c, X.env.cells.lookup x = some c → c ≠ it) (h3 : ∀ p ∈ X.pn ++ pins, p.1 ≠ it) : Inv X pins σ H { s with heap := h', toks := t' } := by
  have nit : ∀ b u, H b = some u → b ≠ it := fun b u e z => by rw [z, hn] at e; cases e
  refine I.step (g' := s.gens) (d' := s.drawn) (ch := [it]) (fun b hb => ?_) (fun b o _ _ hc e _ => k b o (fun z => hc (by simp [z])) e) (fun b o _ _ hc e _ => ⟨o.slots, k b o (fun z => hc (by simp [z])) e⟩) (fun _ _ _ _ n => n)
    (fun b o hc e => ⟨o, k b o (fun z => hc (by simp [z])) e⟩) (fun _ _ e => e) (fun _ _ _ e => e) (fun b ps e => ⟨#[], by rw [e]; simp⟩) (fun m hm => ?_) (fun b u e => ?_) I.bare
  · have e : b = it := by simpa using hb
    subst e
    exact ⟨h1, hL, h2, h3⟩
  · obtain ⟨o, es, ep, ho, r⟩ := hm
    exact ⟨o, es, ep, k _ o (Ne.symm hL) ho, r⟩
  · refine (I.hok b u e).mm (fun c v hc q => k c v ?_ q) (fun _ q => q) fun _ _ q => q
    rcases hc with z | z
    · rw [z]; exact nit b u e
    · exact nit c _ z
theorem Inv.tok (I : Inv X pins σ H s) (t : Nat) : Inv X pins σ H { s with toks := t } := I.un (h' := s.heap) (t' := t) Un.refl I.hok
theorem Inv.kept {t' : Nat} (I : Inv X pins σ H s) (k : ∀ b u, s.heap.get? b = some u → h'.get? b = some u) : Inv X pins σ H { s with heap := h', toks := t' } := I.un (Un.kept k) (I.hok.kept k)
theorem Inv.laid {a : Addr} {o : HO} {t' : Nat} (I : Inv X pins σ H s) (k : ∀ b u, s.heap.get? b = some u → h'.get? b = some u) (hp : s.heap.objs.size ≤ a) (new : ie X.prog X.w (upd H a o) h' a o) :
    Inv X pins σ (upd H a o) { s with heap := h', toks := t' } := I.un (Un.laid k hp (I.hok.fresh hp)) (I.hok.laid k hp new)
theorem Inv.write {x e : Addr} {o : HO} {t' : Nat} (I : Inv X pins σ H s) (mu : Mut (H x)) (he : e = x ∨ H e = some (.own x)) (k : ∀ b u, b ≠ e → s.heap.get? b = some u → h'.get? b = some u) (heo : ∃ u, h'.get? e = some u)
    (new : ie X.prog X.w (upd H x o) h' x o) : Inv X pins σ (upd H x o) { s with heap := h', toks := t' } := I.un (Un.write mu he k heo) (I.hok.write mu he k heo new)
theorem Inv.zd {pins' : List (Addr × Obj)} (I : Inv X pins σ H s) (h : ∀ p ∈ pins', s.heap.get? p.1 = some p.2 ∧ H p.1 = none ∧ p.1 ≠ X.env.locals ∧ p.1 ∉ X.fs ∧ ∀ v, p.2.data ≠ .cell v) : Inv X pins' σ H s :=
  ⟨I.ok, I.os, I.bare, I.base, I.loc, I.cell, I.free, I.dJ, fun p hp => (List.mem_append.mp hp).elim (fun z => I.pin p (List.mem_append_left _ z)) (h p), I.hok, I.len⟩
theorem wq {N : List Str} (hN : N.Nodup) {i j : Nat} {x : Str} (a : N[i]? = some x) (b : N[j]? = some x) : i = j := by
  obtain ⟨h1, e1⟩ := List.getElem?_eq_some_iff.mp a
  obtain ⟨h2, e2⟩ := List.getElem?_eq_some_iff.mp b
  exact (List.getElem_inj hN).mp (e1.trans e2.symm)
theorem As {M : Model} {A : Around} {E : Value → Shared → Prop} {i : Nat} {x : Str} {v : V} {u : Value} {Q : Unit → Shared → Prop} (I : Inv X pins σ H s) (hN : X.N.Nodup) (hi : X.N[i]? = some x) (hx : Loc X.env.scope x) (r : RelV v u)
    (h : ∀ s', Inv X pins (σ.set i (some v)) H s' → (∃ a, Heap.SameBut a s.heap s'.heap ∧ (a = X.env.locals ∨ X.env.cells.lookup x = some a)) → Q () s') (hf : X.fn x = true ∨ X.env.scope.names.lookup x = some .local := by first | exact .inl rfl | exact .inr rfl | assumption) : wpAny M A (storeName X.env x u) Q E s := by
  obtain ⟨m, hn, hl⟩ := id I.loc
  have hcls : (X.env.scope.kind == .class || (X.env.scope.kind == .module && X.env.locals != X.env.globals)) = false := by rw [I.ok.kind]; rfl
  have hiσ : i < σ.length := by rw [I.len]; exact (List.getElem?_eq_some_iff.mp hi).1
  have cne := I.cne
  have tracked : ∀ {a : Addr} {h' : Heap}, (∃ o, s.heap.get? a = some o ∧ H a = none) → Heap.SameBut a s.heap h' → HOk X.prog X.w H h' := fun {a h'} ha hs b ob e => by
    obtain ⟨_, _, hfree⟩ := ha
    refine (I.hok b ob e).mm (fun c w' hc q => (hs.2 c ?_).trans q) (fun _ q => q) fun _ _ q => q
    rintro rfl
    rcases hc with rfl | hc
    · rw [hfree] at e; cases e
    · rw [hfree] at hc; cases hc
  rcases hx with hk | hk
  · refine wpAny_storeName_local hk hn (fun h' hn' hs => ?_) hcls
    obtain ⟨oL, _, _, hoL, _⟩ := id hn
    refine h _ ⟨I.ok, I.os, I.bare, ⟨fun b o e n hb hx => ?_, fun b o e n hb hx => ?_, I.base.free, fun b o e hx => ?_, I.base.lP, I.base.lC, I.base.lG⟩, ⟨_, hn', fun j y v' e1 e2 e3 => ?_⟩, fun y c e => ?_, I.free, I.dJ, fun p hp => ?_, tracked ⟨oL, hoL, I.free⟩ hs, by simpa using I.len⟩ ⟨_, hs, .inl rfl⟩
    · exact (hs.2 b (Nat.ne_of_lt (Nat.lt_of_lt_of_le (Heap.lt_size e) I.ok.above))).trans (I.base.keep b o e n hb hx)
    · obtain ⟨sl, e1⟩ := I.base.slot b o e n hb hx
      exact ⟨sl, (hs.2 b (Nat.ne_of_lt (Nat.lt_of_lt_of_le (Heap.lt_size e) I.ok.above))).trans e1⟩
    · obtain ⟨o', e1⟩ := I.base.there b o e hx
      exact ⟨o', (hs.2 b (Nat.ne_of_lt (Nat.lt_of_lt_of_le (Heap.lt_size e) I.ok.above))).trans e1⟩
    · by_cases hj : j = i
      · subst hj
        rw [hi] at e1; cases e1
        rw [List.getElem?_set_self hiσ] at e2
        cases e2
        exact ⟨u, r, .inl ⟨hk, by simp⟩⟩
      · rw [List.getElem?_set_ne (Ne.symm hj)] at e2
        obtain ⟨u', r', q⟩ := hl j y v' e1 e2 e3
        refine ⟨u', r', ?_⟩
        rcases q with ⟨k, e⟩ | ⟨k, c, e, z⟩
        · refine .inl ⟨k, ?_⟩
          have : y ≠ x := fun e => hj (wq hN e1 (e ▸ hi))
          simp [this, e]
        · exact .inr ⟨k, c, e, z.sameBut hs (cne y c e)⟩
    · obtain ⟨w', z⟩ := I.cell y c e
      exact ⟨w', z.sameBut hs (cne y c e)⟩
    · obtain ⟨e, n, ne, nf, d⟩ := I.pin p hp
      exact ⟨(hs.2 p.1 ne).trans e, n, ne, nf, d⟩
  · have hfn : X.fn x = true := by
      rcases hf with z | z
      · exact z
      · rw [z] at hk; cases hk
    obtain ⟨c, hc⟩ := I.ok.has x (.inl hk)
    obtain ⟨w', z⟩ := I.cell x c hc
    refine wpAny_storeName_cell I.ok.kind hk hc z (fun h' hc' hs => ?_)
    obtain ⟨oc, hoc, hocd⟩ := id z
    refine h { s with heap := h' } ⟨I.ok, I.os, I.bare, ⟨fun b o e n hb hx => ?_, fun b o e n hb hx => ?_, I.base.free, fun b o e hx => ?_, I.base.lP, I.base.lC, I.base.lG⟩, ⟨m, hn.sameBut hs (Ne.symm (cne x c hc)), fun j y v' e1 e2 e3 => ?_⟩, fun y c' e => ?_, I.free, I.dJ, fun p hp => ?_, tracked ⟨oc, hoc, I.dJ x c hc⟩ hs, by simpa using I.len⟩ ⟨c, hs, .inr hc⟩
    · exact (hs.2 b (Nat.ne_of_lt (Nat.lt_of_lt_of_le (Heap.lt_size e) (I.ok.cab x c hfn hc)))).trans (I.base.keep b o e n hb hx)
    · obtain ⟨sl, e1⟩ := I.base.slot b o e n hb hx
      exact ⟨sl, (hs.2 b (Nat.ne_of_lt (Nat.lt_of_lt_of_le (Heap.lt_size e) (I.ok.cab x c hfn hc)))).trans e1⟩
    · obtain ⟨o', e1⟩ := I.base.there b o e hx
      exact ⟨o', (hs.2 b (Nat.ne_of_lt (Nat.lt_of_lt_of_le (Heap.lt_size e) (I.ok.cab x c hfn hc)))).trans e1⟩
    · by_cases hj : j = i
      · subst hj
        rw [hi] at e1; cases e1
        rw [List.getElem?_set_self hiσ] at e2
        cases e2
        exact ⟨u, r, .inr ⟨.inl hk, c, hc, hc'⟩⟩
      · rw [List.getElem?_set_ne (Ne.symm hj)] at e2
        obtain ⟨u', r', q⟩ := hl j y v' e1 e2 e3
        refine ⟨u', r', ?_⟩
        rcases q with q | ⟨k, c', e, z'⟩
        · exact .inl q
        · refine .inr ⟨k, c', e, z'.sameBut hs ?_⟩
          rintro rfl
          exact hj (wq hN e1 (I.ok.inj _ _ _ e hc ▸ hi))
    · by_cases hcc : c' = c
      · subst hcc; exact ⟨_, hc'⟩
      · obtain ⟨w2, z2⟩ := I.cell y c' e
        exact ⟨w2, z2.sameBut hs hcc⟩
    · obtain ⟨e, n, ne, nf, d⟩ := I.pin p hp
      refine ⟨(hs.2 p.1 ?_).trans e, n, ne, nf, d⟩
      intro q
      rw [q, hoc] at e
      have q' : oc = p.2 := Option.some.inj e
      exact d w' (by rw [← q']; exact hocd)
theorem eR {M : Model} {A : Around} {E : Value → Shared → Prop} {i : Nat} {x : Str} {v : V} {u : Value} {Q : Unit → Shared → Prop} (I : Inv X pins σ H s) (hN : X.N.Nodup) (hi : X.N[i]? = some x) (hx : Loc X.env.scope x) (r : RelV v u)
    (h : ∀ s', Inv X pins (σ.set i (some v)) H s' → Q () s') (hf : X.fn x = true ∨ X.env.scope.names.lookup x = some .local := by first | exact .inl rfl | exact .inr rfl | assumption) : wpAny M A (storeName X.env x u) Q E s :=
  As I hN hi hx r (fun s' I' _ => h s' I') hf
theorem Inv.pb {s' : Shared} {ch : List Addr} (I : Inv X pins σ H s) (ho : s'.os = s.os) (u : Un (frs X.stack) ch H H' s.heap s'.heap) (hok : HOk X.prog X.w H' s'.heap) (hg : AllBare s'.gens)
    (hch : ∀ b ∈ ch, (b ∈ X.ex ∨ X.s₀.heap.objs.size ≤ b) ∧ b ≠ X.env.locals ∧ (∀ x c, X.env.cells.lookup x = some c → c ≠ b) ∧ ∀ p ∈ X.pn ++ pins, p.1 ≠ b) : Inv X pins σ H' s' := by
  obtain ⟨h', g', d', t', o'⟩ := s'
  have e : o' = s.os := ho
  subst e
  exact I.call (g' := g') (t' := t') (d' := d') u hok hg hch
end
abbrev XK := Value → Option Addr → Hp → Prop
abbrev St := List (Option V)
abbrev VK := V → Hp → Prop
abbrev TE := St → Hp → VK → Prop
abbrev TT := St → Hp → (Bool → Hp → Prop) → Prop
abbrev TA := St → Hp → (List V → Hp → Prop) → Prop
structure Ends where
  nx : St → Hp → Prop
  rt : VK
  bk : St → Hp → Prop := fun _ _ => False
  ct : St → Hp → Prop := fun _ _ => False
abbrev TS := Ends → St → Hp → Prop
def EP (X : Cx) (pins : List (Addr × Obj)) (σ : St) (Q : VK) (u : Value) (s' : Shared) : Prop := ∃ v H', Inv X pins σ H' s' ∧ RelV v u ∧ Q v H'
def TP (X : Cx) (pins : List (Addr × Obj)) (σ : St) (Q : Bool → Hp → Prop) (b : Bool) (s' : Shared) : Prop := ∃ H', Inv X pins σ H' s' ∧ Q b H'
def AP (X : Cx) (pins : List (Addr × Obj)) (σ : St) (Q : List V → Hp → Prop) (us : List Value) (s' : Shared) : Prop := ∃ vs H', Inv X pins σ H' s' ∧ Vals vs us ∧ Q vs H'
def SP (X : Cx) (pins : List (Addr × Obj)) (D : Ends) (f : Flow) (s' : Shared) : Prop :=
  match f with
  | .next => ∃ σ' H', Inv X pins σ' H' s' ∧ D.nx σ' H'
  | .brk => ∃ σ' H', Inv X pins σ' H' s' ∧ D.bk σ' H'
  | .cont => ∃ σ' H', Inv X pins σ' H' s' ∧ D.ct σ' H'
  | .ret u => ∃ v σ' H', Inv X pins σ' H' s' ∧ RelV v u ∧ D.rt v H'
def PE (X : Cx) (e : Expr) (t : TE) : Prop :=
  ∀ (pins : List (Addr × Obj)) (s : Shared) (σ : St) (H : Hp) (Q : VK), Inv X pins σ H s → t σ H Q → wpAny (model X.prog X.w) X.A (eval e X.env) (EP X pins σ Q) X.xe s
def PT (X : Cx) (e : Expr) (t : TT) : Prop :=
  ∀ (pins : List (Addr × Obj)) (s : Shared) (σ : St) (H : Hp) (Q : Bool → Hp → Prop), Inv X pins σ H s → t σ H Q → wpAny (model X.prog X.w) X.A (isTrue e X.env (eval e X.env)) (TP X pins σ Q) X.xe s
def PW (X : Cx) (e : Expr) (t : TT) : Prop :=
  ∀ (whole : Sem Value) (pins : List (Addr × Obj)) (s : Shared) (σ : St) (H : Hp) (Q : Bool → Hp → Prop), Inv X pins σ H s → t σ H Q → wpAny (model X.prog X.w) X.A (isTrue e X.env whole) (TP X pins σ Q) X.xe s
theorem PW.pt {X : Cx} {e : Expr} {t : TT} (h : PW X e t) : PT X e t := h _
def PA (X : Cx) (es : List Expr) (t : TA) : Prop :=
  ∀ (pos : Pos) (pins : List (Addr × Obj)) (s : Shared) (σ : St) (H : Hp) (Q : List V → Hp → Prop), Inv X pins σ H s → t σ H Q → wpAny (model X.prog X.w) X.A (spliced (backTo pos (starEach es X.env))) (AP X pins σ Q) X.xe s
def PS (X : Cx) (st : Stmt) (t : TS) : Prop :=
  ∀ (pins : List (Addr × Obj)) (s : Shared) (σ : St) (H : Hp) (D : Ends), Inv X pins σ H s → t D σ H → wpAny (model X.prog X.w) X.A (exec st X.env) (SP X pins D) X.xe s
def PSs (X : Cx) (st : List Stmt) (t : TS) : Prop :=
  ∀ (pins : List (Addr × Obj)) (s : Shared) (σ : St) (H : Hp) (D : Ends), Inv X pins σ H s → t D σ H → wpAny (model X.prog X.w) X.A (execs st X.env) (SP X pins D) X.xe s
theorem thn {α : Type} {t : Sem α} {Q Q' : α → Shared → Prop} {M : Model} {A : Around} {E : Value → Shared → Prop} {s : Shared} (h : wpAny M A t Q E s) (hQ : ∀ a s, Q a s → Q' a s) : wpAny M A t Q' E s := wpAny_mono h hQ fun _ _ x => x
end L2
namespace L2
open PySem PySem.Spec PyProof.Rows
section
variable {X : Cx}
theorem bin {a b : Expr} {ta tb : TE} (ha : PE X a ta) (hb : PE X b tb) {pins : List (Addr × Obj)} {s : Shared} {σ : St} {H : Hp} {R : V → V → Hp → Prop} (I : Inv X pins σ H s) (h : ta σ H fun x H1 => tb σ H1 fun y H2 => R x y H2)
    {α : Type} {Q : α → Shared → Prop} {f : Value → Value → Sem α}
    (hf : ∀ v u s2 x y H2, Inv X pins σ H2 s2 → RelV x v → RelV y u → R x y H2 → wpAny (model X.prog X.w) X.A (f v u) Q X.xe s2) :
    wpAny (model X.prog X.w) X.A (eval a X.env) (fun v s₁ => wpAny (model X.prog X.w) X.A (eval b X.env) (fun u s₂ => wpAny (model X.prog X.w) X.A (f v u) Q X.xe s₂) X.xe s₁) X.xe s := by
  refine thn (ha pins s σ H _ I h) fun v s1 ⟨x, H1, I1, r1, q1⟩ => ?_
  refine thn (hb pins s1 σ H1 _ I1 q1) fun u s2 ⟨y, H2, I2, r2, q2⟩ => ?_
  exact hf v u s2 x y H2 I2 r1 r2 q2
def Fo (i : Nat) : TE := fun σ H Q => ∃ v, σ[i]? = some (some v) ∧ Q v H
def tC (v : V) : TE := fun _ H Q => Q v H
theorem xZ {i : Nat} {x : Str} {pos : Pos} (hN : X.N[i]? = some x) (hv : Vis X.env.scope x) (hd : (x == ("__debug__" : Str)) = false := by decide) (hcd : (x == ("__classdict__" : Str)) = false := by decide) : PE X (.Name x pos) (Fo i) := by
  intro pins s σ H Q I h
  obtain ⟨v, e, h⟩ := h
  obtain ⟨m, hn, hl⟩ := I.loc
  obtain ⟨u, r, l⟩ := hl i x v hN e hv
  have fin : EP X pins σ Q u s := ⟨v, H, I, r, h⟩
  rcases l with ⟨hk, hm⟩ | ⟨hk, c, hc, hcell⟩
  · exact wpAny_Name (wpAny_loadName_local I.ok.kind hk hn hm fin) hd
  · rcases hk with hk | hk
    · exact wpAny_Name (wpAny_loadName_cell I.ok.kind hk hc hcell fin) hd
    · exact wpAny_Name (wpAny_loadName_free I.ok.kind hk hc hcell fin hcd) hd
theorem Hi {i j pos} : PE X (.Constant (.int i) j pos) (tC (.int i)) := fun _ _ _ H _ I h => wpAny_Constant_int ⟨.int i, H, I.tok _, ⟨_, rfl⟩, h⟩
theorem IF {b j pos} : PE X (.Constant (.bool b) j pos) (tC (.bl b)) := fun _ _ _ H _ I h => Constant_bool ⟨.bl b, H, I, rfl, h⟩
theorem G0 {j pos} : PE X (.Constant .none j pos) (tC .non) := fun _ _ _ H _ I h => Constant_none ⟨.non, H, I, rfl, h⟩
theorem BF {x j pos} : PE X (.Constant (.str x) j pos) (tC (.str x)) := fun _ _ _ H _ I h => Calls.Constant_str ⟨.str x, H, I.tok _, ⟨_, rfl⟩, h⟩
def Gl (X : Cx) (x : Str) : Prop := X.env.kindOf x = some .globalImplicit
theorem ll {E : Value → Shared → Prop} {pins : List (Addr × Obj)} {s : Shared} {σ : St} {H : Hp} {x : Str} {u : Value} {pos : Pos} {Q : Value → Shared → Prop} (I : Inv X pins σ H s) (hg : Gl X x) (hm : X.mg x = some u) (h : Q u s)
    (hd : (x == ("__debug__" : Str)) = false := by decide) : wpAny (model X.prog X.w) X.A (eval (.Name x pos) X.env) Q E s :=
  Calls.Name_function_global I.ok.kind hg (Calls.loadGlobal_global (by rw [I.ok.glob]; exact I.mod.glob.keeps I.bk) hm h) hd
theorem rN {E : Value → Shared → Prop} {pins : List (Addr × Obj)} {s : Shared} {σ : St} {H : Hp} {x : Str} {u : Value} {pos : Pos} {Q : Value → Shared → Prop} (I : Inv X pins σ H s) (hg : Gl X x) (hm : X.mg x = none) (hv : bootBuiltins x = some u) (h : Q u s)
    (hn : x ≠ "__name__" := by decide) (hd : (x == ("__debug__" : Str)) = false := by decide) : wpAny (model X.prog X.w) X.A (eval (.Name x pos) X.env) Q E s := by
  obtain ⟨mb, h1, h2⟩ := I.mod.blt
  exact Calls.Name_function_global I.ok.kind hg (Calls.loadGlobal_builtin (by rw [I.ok.glob]; exact I.mod.glob.keeps I.bk) hm (by rw [I.ok.blt]; exact h1.keeps I.bk) ((h2 x hn).trans hv) h) hd
theorem yX {x : Str} {v : V} {u : Value} {pos : Pos} (hg : Gl X x) (hm : X.mg x = some u) (r : RelV v u) (hd : (x == ("__debug__" : Str)) = false := by decide) : PE X (.Name x pos) (tC v) :=
  fun _ _ _ H _ I h => ll I hg hm ⟨v, H, I, r, h⟩ hd
theorem zy {x : Str} {v : V} {u : Value} {pos : Pos} (hg : Gl X x) (hm : X.mg x = none) (hv : bootBuiltins x = some u) (r : RelV v u) (hn : x ≠ "__name__" := by decide) (hd : (x == ("__debug__" : Str)) = false := by decide) : PE X (.Name x pos) (tC v) :=
  fun _ _ _ H _ I h => rN I hg hm hv ⟨v, H, I, r, h⟩ hn hd
variable {a b : Expr} {ta tb : TE} {pos : Pos}
def PC (X : Cx) (op : CmpOp) (a b : Expr) (t : TE) : Prop :=
  ∀ (pins : List (Addr × Obj)) (s : Shared) (σ : St) (H : Hp) (Q : VK), Inv X pins σ H s → t σ H Q →
    wpAny (model X.prog X.w) X.A (eval a X.env) (fun v s₁ => wpAny (model X.prog X.w) X.A (eval b X.env) (fun u s₂ => wpAny (model X.prog X.w) X.A (compareOp op v u) (EP X pins σ Q) X.xe s₂) X.xe s₁) X.xe s
theorem BY (b : Expr) {op : CmpOp} (h : op ≠ .In) (h2 : op ≠ .NotIn) : behindInMarks op b = false := by
  have e1 : (op == CmpOp.In) = false := by cases op <;> first | rfl | exact absurd rfl h
  have e2 : (op == CmpOp.NotIn) = false := by cases op <;> first | rfl | exact absurd rfl h2
  cases b <;> simp [behindInMarks, e1, e2]
def tB (t : TE) : TT := fun σ H Q => t σ H fun x H1 => ∃ c, x = .bl c ∧ Q c H1
theorem IU {op : CmpOp} {t : TE} (h : PC X op a b t) (h1 : behindInMarks op b = false := by first | exact BY _ (by decide) (by decide) | rfl) : PT X (.Compare a [op] [b] pos) (tB t) := by
  intro pins s σ H Q I hw
  refine wpAny_isTrue_Compare1 (thn (h pins s σ H _ I hw) fun v s1 h1 => thn h1 fun u s2 h2 => thn h2 fun c s3 ⟨x, H1, I1, r1, q1⟩ => ?_) h1
  obtain ⟨d, rfl, q⟩ := q1
  cases r1
  exact wpAny_truthy_bool ⟨H1, I1, q⟩
theorem GW {e : Expr} {t : TE} (h : PE X e t) (he : ∀ whole, isTrue e X.env whole = (do let v ← whole; standAt e.pos; holding [v] (truthy v)) := by intro _; rfl) : PT X e (tB t) := by
  intro pins s σ H Q I hw
  refine isTrue_plain (thn (h pins s σ H _ I hw) fun v s1 ⟨x, H1, I1, r1, q1⟩ => ?_) (he _)
  obtain ⟨d, rfl, q⟩ := q1
  cases r1
  exact wpAny_truthy_bool ⟨H1, I1, q⟩
variable {tA tB' : TT} {rest : List Expr}
def IT (t u : TT) : TT := fun σ H Q => t σ H fun c H1 => if c = true then u σ H1 Q else Q false H1
def tOr (t u : TT) : TT := fun σ H Q => t σ H fun c H1 => if c = true then Q true H1 else u σ H1 Q
def IX (t : TT) : TT := fun σ H Q => t σ H fun c H1 => Q (!c) H1
theorem pw_and1 (ha : PT X a tA) : PW X (.BoolOp .And [a] pos) tA := by
  intro wh pins s σ H Q I h
  refine isTrue_and (thn (ha pins s σ H Q I h) fun c s1 e => ?_)
  cases c with
  | true => exact isTrue_and_nil e
  | false => exact e
theorem pw_or1 (ha : PT X a tA) : PW X (.BoolOp .Or [a] pos) tA := by
  intro wh pins s σ H Q I h
  refine isTrue_or (thn (ha pins s σ H Q I h) fun c s1 e => ?_)
  cases c with
  | false => exact isTrue_or_nil e
  | true => exact e
theorem pw_and (ha : PT X a tA) (hb : PW X (.BoolOp .And (b :: rest) pos) tB') : PW X (.BoolOp .And (a :: b :: rest) pos) (IT tA tB') := by
  intro wh pins s σ H Q I h
  refine isTrue_and (thn (ha pins s σ H _ I h) fun c s1 ⟨H1, I1, q1⟩ => ?_)
  cases c with
  | true => exact hb wh pins s1 σ H1 Q I1 q1
  | false => exact ⟨H1, I1, q1⟩
theorem pw_or (ha : PT X a tA) (hb : PW X (.BoolOp .Or (b :: rest) pos) tB') : PW X (.BoolOp .Or (a :: b :: rest) pos) (tOr tA tB') := by
  intro wh pins s σ H Q I h
  refine isTrue_or (thn (ha pins s σ H _ I h) fun c s1 ⟨H1, I1, q1⟩ => ?_)
  cases c with
  | true => exact ⟨H1, I1, q1⟩
  | false => exact hb wh pins s1 σ H1 Q I1 q1
theorem Fj (ha : PT X a tA) : PT X (.UnaryOp .Not a pos) (IX tA) := by
  intro pins s σ H Q I h
  exact isTrue_not (ha pins s σ H (fun c H1 => Q (!c) H1) I h)
def HM (ta tb : TE) : TE := fun σ H Q => ta σ H fun x H1 => ∃ c, x = .bl c ∧ if c = true then tb σ H1 Q else Q (.bl false) H1
def IB (ta : TE) : TE := fun σ H Q => ta σ H fun x H1 => ∃ c, x = .bl c ∧ Q (.bl (!c)) H1
theorem G7 {op} {t : TE} (h : PE X a t) : PE X (.BoolOp op [a] pos) t := fun pins s σ H Q I hw => BoolOp_one (h pins s σ H Q I hw)
theorem GV (ha : PE X a ta) (hb : PE X (.BoolOp .And (b :: rest) pos) tb) : PE X (.BoolOp .And (a :: b :: rest) pos) (HM ta tb) := by
  intro pins s σ H Q I h
  refine BoolOp_and (thn (ha pins s σ H _ I h) fun v s1 ⟨x, H1, I1, r1, q1⟩ => ?_)
  obtain ⟨c, rfl, q1⟩ := q1
  cases r1
  refine wpAny_truthy_bool ?_
  cases c with
  | true => exact hb pins s1 σ H1 Q I1 q1
  | false => exact ⟨.bl false, H1, I1, rfl, q1⟩
theorem Fq (ha : PE X a ta) : PE X (.UnaryOp .Not a pos) (IB ta) := by
  intro pins s σ H Q I h
  refine UnaryOp_ (thn (ha pins s σ H _ I h) fun v s1 ⟨x, H1, I1, r1, q1⟩ => ?_)
  obtain ⟨c, rfl, q1⟩ := q1
  cases r1
  exact not_of (wpAny_truthy_bool ⟨.bl (!c), H1, I1, rfl, q1⟩)
def tIf (t : TT) (ta tb : TE) : TE := fun σ H Q => t σ H fun c H1 => if c = true then ta σ H1 Q else tb σ H1 Q
theorem CW {c : Expr} (hc : PT X c tA) (ha : PE X a ta) (hb : PE X b tb) : PE X (.IfExp c a b pos) (tIf tA ta tb) := by
  intro pins s σ H Q I h
  refine wpAny_IfExp (thn (hc pins s σ H _ I h) fun d s1 ⟨H1, I1, q1⟩ => ?_)
  cases d with
  | true => exact ha pins s1 σ H1 Q I1 q1
  | false => exact hb pins s1 σ H1 Q I1 q1
end
end L2
namespace L2
open PySem PySem.Spec PyProof.Rows
def SqL (K : PySem.W.Frag) (H : Hp) (a : Addr) (xs : List V) : Prop :=
  Rd H a (.lst xs) ∨
    ∃ (o : Obj) (its : Array Value) (n : Nat), K.lookup a = some o ∧ o.cls = .type "list" ∧ o.dict = none ∧ o.data = .seq its n ∧ its.size ≤ sizeLine ∧ Vals xs its.toList
def SqT (K : PySem.W.Frag) (H : Hp) (a : Addr) (xs : List V) : Prop :=
  Rd H a (.tup xs) ∨
    ∃ (o : Obj) (its : Array Value) (n : Nat), K.lookup a = some o ∧ o.cls = .type "tuple" ∧ o.data = .seq its n ∧ its.size ≤ sizeLine ∧ Vals xs its.toList
def Jr : Value → Option V
  | .none => some .non
  | .bool b => some (.bl b)
  | .int i _ => some (.int i)
  | .str x _ => some (.str x)
  | .bytes b _ => some (.byt b)
  | .float b _ => some (.flt b)
  | .ref a => some (.ref a)
  | .type n => some (.ty n)
  | _ => none
theorem RelV.abs {x : V} {u : Value} (r : RelV x u) : Jr u = some x := by
  cases x with
  | non => cases r; rfl
  | bl _ => cases r; rfl
  | int _ => obtain ⟨t, rfl⟩ := r; rfl
  | str _ => obtain ⟨t, rfl⟩ := r; rfl
  | byt _ => obtain ⟨t, rfl⟩ := r; rfl
  | flt _ => obtain ⟨t, rfl⟩ := r; rfl
  | ref _ => cases r; rfl
  | ty _ => cases r; rfl
theorem RelV.inj {x y : V} {u : Value} (r : RelV x u) (q : RelV y u) : x = y := Option.some.inj (r.abs.symm.trans q.abs)
theorem Vals.inj : ∀ {xs ys : List V} {us : List Value}, Vals xs us → Vals ys us → xs = ys
  | _, _, _, .nil, .nil => rfl
  | _, _, _, .cons r t, .cons r' t' => by rw [r.inj r', Vals.inj t t']
section
variable {X : Cx} {pins : List (Addr × Obj)} {σ : St} {H : Hp} {s : Shared} {a : Addr} {xs ys : List V}
theorem SqL.of {K : PySem.W.Frag} (h : H a = some (.lst xs)) : SqL K H a xs := .inl (.inl h)
theorem SqT.of {K : PySem.W.Frag} (h : H a = some (.tup xs)) : SqT K H a xs := .inl (.inl h)
theorem Inv.list (I : Inv X pins σ H s) (h : SqL X.K H a xs) : ∃ its : List Value, Vals xs its ∧ PlainL s.heap a its.toArray ∧ xs.length ≤ sizeLine := by
  rcases h with h | ⟨o, its, n, hk, hc, hd, hs, hz, r⟩
  · obtain ⟨z, its, n, r, e⟩ := h.ok I.hok
    exact ⟨its, r, ⟨_, n, e, rfl, rfl, rfl⟩, z⟩
  · refine ⟨its.toList, r, ⟨o, n, I.kIn a o hk, hc, hd, by simpa using hs⟩, ?_⟩
    have e := r.length
    simp only [Array.length_toList] at e
    omega
theorem Inv.tuple (I : Inv X pins σ H s) (h : SqT X.K H a xs) : ∃ its : List Value, Vals xs its ∧ IsTup s.heap a its.toArray ∧ xs.length ≤ sizeLine := by
  rcases h with h | ⟨o, its, n, hk, hc, hs, hz, r⟩
  · obtain ⟨z, its, r, p⟩ := h.ok I.hok
    exact ⟨its, r, p, z⟩
  · refine ⟨its.toList, r, ⟨o, I.kIn a o hk, hc, n, by simpa using hs⟩, ?_⟩
    have e := r.length
    simp only [Array.length_toList] at e
    omega
theorem Inv.CD (I : Inv X pins σ H s) (h : SqL X.K H a xs) (h' : SqL X.K H a ys) : xs = ys := by
  obtain ⟨its, r, ⟨o, n, e, _, _, d⟩, _⟩ := I.list h
  obtain ⟨its', r', ⟨o', n', e', _, _, d'⟩, _⟩ := I.list h'
  rw [e] at e'; cases e'
  rw [d] at d'
  injection d' with d1 _
  have : its = its' := by simpa using congrArg Array.toList d1
  subst this
  exact r.inj r'
theorem Inv.AB (I : Inv X pins σ H s) (h : SqT X.K H a xs) (h' : SqT X.K H a ys) : xs = ys := by
  obtain ⟨its, r, ⟨o, e, _, n, d⟩, _⟩ := I.tuple h
  obtain ⟨its', r', ⟨o', e', _, n', d'⟩, _⟩ := I.tuple h'
  rw [e] at e'; cases e'
  rw [d] at d'
  injection d' with d1 _
  have : its = its' := by simpa using congrArg Array.toList d1
  subst this
  exact r.inj r'
end
abbrev Cx.qj (X : Cx) (E : Value → Shared → Prop) : Cx := { X with xe := E }
abbrev Cx.nox (X : Cx) : Cx := X.qj fun _ _ => False
theorem Cx.Ok.qj {X : Cx} (ok : X.Ok) (E : Value → Shared → Prop) : (X.qj E).Ok :=
  ⟨ok.mod, ok.kind, ok.glob, ok.blt, ok.above, ok.inj, ok.has, ok.cab, ok.hd, ok.qt, ok.frames, ok.stk, ok.exf, ok.bs, ok.bsz, ok.rW, ok.B5, ok.lU, ok.frf⟩
theorem Cx.Ok.jB {X : Cx} {E : Value → Shared → Prop} (ok : (X.qj E).Ok) : X.Ok :=
  ⟨ok.mod, ok.kind, ok.glob, ok.blt, ok.above, ok.inj, ok.has, ok.cab, ok.hd, ok.qt, ok.frames, ok.stk, ok.exf, ok.bs, ok.bsz, ok.rW, ok.B5, ok.lU, ok.frf⟩
section
variable {X : Cx} {pins : List (Addr × Obj)} {σ : St} {H : Hp} {s : Shared} {E : Value → Shared → Prop}
theorem Inv.qj (I : Inv X pins σ H s) (E : Value → Shared → Prop) : Inv (X.qj E) pins σ H s := ⟨I.ok.qj E, I.os, I.bare, I.base, I.loc, I.cell, I.free, I.dJ, I.pin, I.hok, I.len⟩
theorem Inv.jB (I : Inv (X.qj E) pins σ H s) : Inv X pins σ H s := ⟨I.ok.jB, I.os, I.bare, I.base, I.loc, I.cell, I.free, I.dJ, I.pin, I.hok, I.len⟩
theorem SP.jB {D : Ends} {f : Flow} {s' : Shared} (h : SP (X.qj E) pins D f s') : SP X pins D f s' := by
  cases f with
  | next => obtain ⟨σ', H', I, q⟩ := h; exact ⟨σ', H', I.jB, q⟩
  | brk => obtain ⟨σ', H', I, q⟩ := h; exact ⟨σ', H', I.jB, q⟩
  | cont => obtain ⟨σ', H', I, q⟩ := h; exact ⟨σ', H', I.jB, q⟩
  | ret u => obtain ⟨v, σ', H', I, r, q⟩ := h; exact ⟨v, σ', H', I.jB, r, q⟩
theorem PSs.nox {st : List Stmt} {t : TS} (h : PSs X.nox st t) : PSs X st t := fun pins s σ H D I hw =>
  wpAny_mono (h pins s σ H D (I.qj _) hw) (fun _ _ q => q.jB) fun _ _ z => False.elim z
end
section
variable {X : Cx} {st : Stmt} {rest : List Stmt} {t u : TS} {e : Expr} {te : TE} {pos : Pos}
def Ht : TS := fun D σ H => D.nx σ H
def HJ (t u : TS) : TS := fun D σ H => t { D with nx := u D } σ H
theorem Ej : PSs X [] Ht := fun _ _ σ H _ I h => wpAny_execs_nil ⟨σ, H, I, h⟩
theorem qZ (h1 : PS X st t) (h2 : PSs X rest u) : PSs X (st :: rest) (HJ t u) := by
  intro pins s σ H D I h
  refine wpAny_execs_cons (thn (h1 pins s σ H { D with nx := u D } I h) fun f s1 q => ?_)
  cases f with
  | next =>
    obtain ⟨σ', H', I', q⟩ := q
    exact h2 pins s1 σ' H' D I' q
  | ret v => exact q
  | brk => exact q
  | cont => exact q
theorem D0 (h1 : PS X st t) : PSs X [st] t := by
  intro pins s σ H D I h
  refine wpAny_execs_cons (thn (h1 pins s σ H D I h) fun f s1 q => ?_)
  cases f with
  | next => exact wpAny_execs_nil q
  | ret v => exact q
  | brk => exact q
  | cont => exact q
theorem Inv.quiet {pins : List (Addr × Obj)} {σ : St} {H : Hp} {s : Shared} (I : Inv X pins σ H s) : interactive X.env = false := by simp [interactive, I.ok.kind]
def IC (te : TE) : TS := fun D σ H => te σ H fun _ H1 => D.nx σ H1
theorem yG (he : PE X e te) (hs : swapsWith e none pos.line X.env = pure false := by rfl) : PS X (.Expr e pos) (IC te) := by
  intro pins s σ H D I h
  exact wpAny_Expr_any (thn (he pins s σ H _ I h) fun v s1 ⟨x, H1, I1, r1, q1⟩ => ⟨σ, H1, I1, q1⟩) I.quiet hs
def Jd (te : TE) : TS := fun D σ H => te σ H D.rt
theorem G8 (he : PE X e te) : PS X (.Return (some e) pos) (Jd te) := by
  intro pins s σ H D I h
  exact wpAny_Return_some (thn (he pins s σ H _ I h) fun v s1 ⟨x, H1, I1, r1, q1⟩ => ⟨x, σ, H1, I1, r1, q1⟩)
def IQ (c : TT) (t u : TS) : TS := fun D σ H => c σ H fun b H1 => if b = true then t D σ H1 else u D σ H1
theorem E2 {c : Expr} {a b : List Stmt} {tc : TT} (hc : PT X c tc) (ha : PSs X a t) (hb : PSs X b u) : PS X (.If c a b pos) (IQ tc t u) := by
  intro pins s σ H D I h
  refine wpAny_If (thn (hc pins s σ H _ I h) fun d s1 ⟨H1, I1, q1⟩ => ?_)
  cases d with
  | true => exact ha pins s1 σ H1 D I1 q1
  | false => exact hb pins s1 σ H1 D I1 q1
def FC : TS := fun _ _ _ => False
theorem sS {sts : List Stmt} : PSs X sts FC := fun _ _ _ _ _ _ h => h.elim
end
abbrev TG := V → St → Hp → (St → Hp → Prop) → Prop
abbrev TGs := List V → St → Hp → (St → Hp → Prop) → Prop
def PG (X : Cx) (target : Expr) (t : TG) : Prop :=
  ∀ (pins : List (Addr × Obj)) (s : Shared) (σ : St) (H : Hp) (v : V) (u : Value) (Q : St → Hp → Prop), Inv X pins σ H s → RelV v u → t v σ H Q →
    wpAny (model X.prog X.w) X.A (assign target X.env u) (fun _ s' => ∃ σ' H', Inv X pins σ' H' s' ∧ Q σ' H') X.xe s
def PGs (X : Cx) (ts : List Expr) (t : TGs) : Prop :=
  ∀ (pins : List (Addr × Obj)) (s : Shared) (σ : St) (H : Hp) (vs : List V) (us : List Value) (Q : St → Hp → Prop), Inv X pins σ H s → Vals vs us → t vs σ H Q →
    wpAny (model X.prog X.w) X.A (assignInOrder ((assignEach ts X.env).map (·.2)) us) (fun _ s' => ∃ σ' H', Inv X pins σ' H' s' ∧ Q σ' H') X.xe s
abbrev Gp := V → V → V → Hp → (Hp → Prop) → Prop
def IE (X : Cx) (t : Gp) : Prop :=
  ∀ (pins : List (Addr × Obj)) (s : Shared) (σ : St) (H : Hp) (o i v : V) (ov iv u : Value) (Q : Hp → Prop), Inv X pins σ H s → RelV o ov → RelV i iv → RelV v u → t o i v H Q →
    wpAny (model X.prog X.w) X.A (setItem ov iv u) (fun _ s' => ∃ H', Inv X pins σ H' s' ∧ Q H') X.xe s
section
variable {X : Cx} {pos : Pos}
def C8 (i : Nat) : TG := fun v σ H Q => Q (σ.set i (some v)) H
theorem Eb {i : Nat} {x : Str} (hN : X.N.Nodup) (hi : X.N[i]? = some x) (hx : Loc X.env.scope x) (hf : X.fn x = true ∨ X.env.scope.names.lookup x = some .local := by first | exact .inl rfl | exact .inr rfl | assumption) : PG X (.Name x pos) (C8 i) := by
  intro pins s σ H v u Q I r h
  exact wpAny_assign_Name (eR I hN hi hx r (fun s' I' => ⟨_, H, I', h⟩) hf)
def Jp : TGs := fun vs σ H Q => vs = [] ∧ Q σ H
def IK (t : TG) (u : TGs) : TGs := fun vs σ H Q => ∃ v r, vs = v :: r ∧ t v σ H fun σ' H' => u r σ' H' Q
theorem Dm : PGs X [] Jp := by
  intro pins s σ H vs us Q I r h
  obtain ⟨e, h⟩ := h
  subst e
  cases r
  exact assignInOrder_nil ⟨σ, H, I, h⟩
theorem Bc {e : Expr} {es : List Expr} {t : TG} {u : TGs} (h1 : PG X e t) (h2 : PGs X es u)
    (hs : (assignEach (e :: es) X.env).map (·.2) = assign e X.env :: (assignEach es X.env).map (·.2) := by rfl) : PGs X (e :: es) (IK t u) := by
  intro pins s σ H vs us Q I r h
  obtain ⟨v, vr, e1, h⟩ := h
  subst e1
  cases r with
  | cons r rr =>
    rw [hs]
    refine assignInOrder_cons (thn (h1 pins s σ H _ _ _ I r h) fun _ s1 ⟨σ1, H1, I1, q1⟩ => ?_)
    exact h2 pins s1 σ1 H1 _ _ Q I1 rr q1
def Jm (K : PySem.W.Frag) (n : Nat) (t : TGs) : TG := fun v σ H Q => ∃ a xs, v = .ref a ∧ SqT K H a xs ∧ xs.length = n ∧ t xs σ H Q
theorem GZ {es : List Expr} {k : Nat} {t : TGs} {n : Nat} (hc : X.calm = X.calm) (h : PGs X es t)
    (hn : (assignEach es X.env).length = n := by rfl) (hst : (assignEach es X.env).findIdx? (·.1) = none := by rfl) : PG X (.Tuple es k pos) (Jm X.K n t) := by
  intro pins s σ H v u Q I r hw
  obtain ⟨a, xs, e1, hq, hl, hw⟩ := hw
  subst e1
  cases r
  obtain ⟨its, rv, ht, hz⟩ := I.tuple hq
  refine sk I.yy ht (by simp [hn, ← hl, rv.length]) hst fun h' hx => ?_
  have I1 : Inv X pins σ H { s with heap := h' } := I.kept (t' := s.toks) fun b o e => hx b o (Nat.ne_of_lt (Heap.lt_size e)) e
  exact h pins _ σ H xs _ Q I1 (by simpa using rv) hw
def Jj (to ti : TE) (t : Gp) : TG := fun v σ H Q => to σ H fun o H1 => ti σ H1 fun i H2 => t o i v H2 fun H3 => Q σ H3
theorem Fl {o i : Expr} {to ti : TE} {t : Gp} (ho : PE X o to) (hi : PE X i ti) (hs : IE X t)
    (ha : ∀ v, assign (.Subscript o i pos) X.env v = (do
      let ov ← holding [v] (eval o X.env)
      let iv ← holding [v, ov] (eval i X.env)
      standAt pos
      holding [v, ov, iv] (setItem ov iv v)
      release [v, ov, iv] []) := by intro _; rfl) : PG X (.Subscript o i pos) (Jj to ti t) := by
  intro pins s σ H v u Q I r h
  rw [ha]
  refine wpAny_bind (wpAny_holding (thn (ho pins s σ H _ I h) fun ov s1 ⟨x, H1, I1, r1, q1⟩ => ?_))
  refine wpAny_bind (wpAny_holding (thn (hi pins s1 σ H1 _ I1 q1) fun iv s2 ⟨y, H2, I2, r2, q2⟩ => ?_))
  refine wpAny_bind (wpAny_standAt (wpAny_bind (wpAny_holding (thn (hs pins s2 σ H2 x y v ov iv u _ I2 r1 r2 r q2) fun _ s3 ⟨H3, I3, q3⟩ => ?_))))
  exact wpAny_release ⟨σ, H3, I3, q3⟩
def FR (te : TE) (g : TG) : TS := fun D σ H => te σ H fun x H1 => g x σ H1 D.nx
theorem Ge {tg e : Expr} {te : TE} {g : TG} (he : PE X e te) (hg : PG X tg g) (hs : swapsWithSole [tg] e pos.line X.env = pure false := by rfl) (hw : swappedStores [tg] e X.env = pure none := by rfl)
    (h1 : (assignEach [tg] X.env).map (·.2) = [assign tg X.env] := by rfl) : PS X (.Assign [tg] e pos) (FR te g) := by
  intro pins s σ H D I h
  refine wpAny_Assign_stores (thn (he pins s σ H _ I h) fun v s1 ⟨x, H1, I1, r1, q1⟩ => ?_) hs hw
  rw [h1]
  exact thn (hg pins s1 σ H1 x v _ I1 r1 q1) fun _ s2 q => q
theorem Gg {i : Nat} {x : Str} {e : Expr} {te : TE} {pos' : Pos} (hN : X.N.Nodup) (hi : X.N[i]? = some x) (hx : Loc X.env.scope x) (he : PE X e te) (hs : swapsWith e (some (.Name x pos')) pos.line X.env = pure false := by rfl) (hf : X.fn x = true ∨ X.env.scope.names.lookup x = some .local := by first | exact .inl rfl | exact .inr rfl | assumption) :
    PS X (.Assign [.Name x pos'] e pos) (FR te (C8 i)) := by
  intro pins s σ H D I h
  refine wpAny_Assign_Name (thn (he pins s σ H _ I h) fun v s1 ⟨y, H1, I1, r1, q1⟩ => ?_) hs
  exact eR I1 hN hi hx r1 (fun s2 I2 => ⟨_, H1, I2, q1⟩) hf
def Jl (i j : Nat) (ta : TA) : TS := fun D σ H => ta σ H fun vs H1 => ∃ v w, vs = [v, w] ∧ D.nx ((σ.set i (some v)).set j (some w)) H1
theorem Hb {i j : Nat} {x y : Str} {a b : Expr} {ta : TA} {px py pt : Pos} {kt k2 pt2} (hc : X.calm = true) (hN : X.N.Nodup) (hi : X.N[i]? = some x) (hj : X.N[j]? = some y) (hij : i ≠ j)
    (hx : X.env.scope.names.lookup x = some .local) (hy : X.env.scope.names.lookup y = some .local) (ha : PA X [a, b] ta)
    (hw : swappedStores [.Tuple [.Name x px, .Name y py] kt pt] (.Tuple [a, b] k2 pt2) X.env = pure (some [x, y]))
    (hs : swapsWithSole [.Tuple [.Name x px, .Name y py] kt pt] (.Tuple [a, b] k2 pt2) pos.line X.env = pure false := by rfl) :
    PS X (.Assign [.Tuple [.Name x px, .Name y py] kt pt] (.Tuple [a, b] k2 pt2) pos) (Jl i j ta) := by
  intro pins s σ H D I h
  rw [exec_Assign_arm]
  refine wpAny_bind (wpAny_standAt ?_)
  rw [hs]
  refine wpAny_bind (wpAny_pure ?_)
  rw [if_neg (by decide)]
  refine wpAny_bind (Tuple_ (thn (ha _ pins s σ H _ I h) fun us s1 ⟨vs, H1, I1, r1, q1⟩ => ?_))
  obtain ⟨v, w, e1, q1⟩ := q1
  subst e1
  obtain ⟨u1, u2, rfl, rv, rw'⟩ : ∃ u1 u2, us = [u1, u2] ∧ RelV v u1 ∧ RelV w u2 := by
    cases r1 with
    | cons p q =>
      cases q with
      | cons p' q' =>
        cases q'
        exact ⟨_, _, rfl, p, p'⟩
  refine wpAny_newObj_type ?_ (by show 2 ≤ sizeLine; decide)
  have I2 : Inv X pins σ H1 { s1 with heap := s1.heap.push { cls := .type "tuple", data := .seq [u1, u2].toArray } } := I1.kept (t' := s1.toks) fun b o e => Heap.get?_push_of_some _ e
  rw [hw]
  refine wpAny_bind (wpAny_pure ?_)
  show wpAny (model X.prog X.w) X.A (do rule "assign.swapped-stores"; let items ← unpackItems (.ref s1.heap.objs.size) 2 none; assignInOrder [fun v => bindName X.env y v, fun v => bindName X.env x v] items.reverse; pure Flow.next) _ _ _
  refine wpAny_bind (wpAny_rule (wpAny_bind (unpackItems_tuple (items := #[u1, u2]) (I.ok.hd hc) (IsTup.new s1.heap _) fun h' hx' => ?_)))
  have I3 := I2.kept (h' := h') (t' := s1.toks) fun b o e => hx' b o (Nat.ne_of_lt (Heap.lt_size e)) e
  show wpAny _ _ (assignInOrder [fun v => bindName X.env y v, fun v => bindName X.env x v] [u2, u1] >>= fun _ => pure Flow.next) _ _ _
  refine wpAny_bind (assignInOrder_cons (wpAny_bindName (eR I3 hN hj (.inl hy) rw' (fun s2 I4 => ?_) (.inr hy))))
  refine assignInOrder_cons (wpAny_bindName (eR I4 hN hi (.inl hx) rv (fun s3 I5 => assignInOrder_nil (wpAny_pure ?_)) (.inr hx)))
  rw [List.set_comm _ _ (Ne.symm hij)] at I5
  exact ⟨_, H1, I5, q1⟩
end
section
variable {X : Cx} {pos : Pos}
def FT (c : TT) (tb : TS) : TS := fun D σ H => ∃ W : Nat → St → Hp → Prop, (∃ m, W m σ H) ∧ ∀ m σ H, W m σ H →
  c σ H fun b H1 => if b = true then ∃ N : St → Hp → Prop, (∀ σ' H', N σ' H' → ∃ m', m' < m ∧ W m' σ' H') ∧ tb { D with nx := N, ct := N, bk := D.nx } σ H1 else D.nx σ H1
theorem CZ {c : Expr} {body : List Stmt} {tc : TT} {tb : TS} (hp : PassesOwn (model X.prog X.w) X.A X.env X.xe) (hc : PT X c tc) (hb : PSs X body tb) : PS X (.While c body [] pos) (FT tc tb) := by
  intro pins s σ H D I h
  obtain ⟨W, ⟨m0, w0⟩, turn⟩ := h
  refine wpAny_While (codeAny_whileLoop (fun n s' => ∃ σ' H', Inv X pins σ' H' s' ∧ W n σ' H') ?_ m0 ⟨σ, H, I, w0⟩)
  rintro n s1 ⟨σ1, H1, I1, w1⟩
  refine wpAny_passesOwn hp (thn (hc pins s1 σ1 H1 _ I1 (turn n σ1 H1 w1)) fun b s2 ⟨H2, I2, q2⟩ => ?_)
  cases b with
  | true =>
    obtain ⟨N, hN, q2⟩ := q2
    rw [if_pos rfl]
    refine wpAny_passesOwn hp (thn (hb pins s2 σ1 H2 _ I2 q2) fun f s3 q3 => ?_)
    cases f with
    | next =>
      obtain ⟨σ3, H3, I3, n3⟩ := q3
      obtain ⟨m', hm, w3⟩ := hN σ3 H3 n3
      exact ⟨m', hm, σ3, H3, I3, w3⟩
    | cont =>
      obtain ⟨σ3, H3, I3, n3⟩ := q3
      obtain ⟨m', hm, w3⟩ := hN σ3 H3 n3
      exact ⟨m', hm, σ3, H3, I3, w3⟩
    | brk => exact q3
    | ret v => exact q3
  | false =>
    rw [if_neg Bool.false_ne_true]
    exact wpAny_execs_nil ⟨σ1, H2, I2, q2⟩
end
structure It where
  go : Nat → Hp → Prop
  yld : Nat → Hp → V → Hp → Prop
  stop : Nat → Hp → Prop
def oJ (X : Cx) (pins : List (Addr × Obj)) (H : Hp) (b : Addr) : Prop :=
  H b = none ∧ b ≠ X.env.locals ∧ b ∉ X.fs ∧ (b ∈ X.ex ∨ X.s₀.heap.objs.size ≤ b) ∧ (∀ x c, X.env.cells.lookup x = some c → c ≠ b) ∧ ∀ p ∈ X.pn ++ pins, p.1 ≠ b
theorem Inv.A2 {X : Cx} {pins : List (Addr × Obj)} {σ : St} {H H' : Hp} {s : Shared} {b : Addr} (I : Inv X pins σ H s) (hb : s.heap.objs.size ≤ b) (hn : H' b = none) : oJ X pins H' b := by
  refine ⟨hn, Nat.ne_of_gt (Nat.lt_of_lt_of_le I.lt hb), I.IV hb, .inr (Nat.le_trans I.sz hb), fun x c e z => ?_, fun p hp z => ?_⟩
  · obtain ⟨v, q⟩ := I.cell x c e
    exact absurd (Nat.lt_of_lt_of_le q.lt (by rw [z]; exact hb)) (Nat.lt_irrefl _)
  · exact absurd (Nat.lt_of_lt_of_le (Heap.lt_size (I.pin p hp).1) (by rw [z]; exact hb)) (Nat.lt_irrefl _)
structure Turn (c : Bool) (P : Program) (w : World) (K : PySem.W.Frag) (tg : Expr) (J : It) (fp : List Addr) (it : Addr) (tn : Nat → Heap → Prop) : Prop where
  mem : it ∈ fp
  obj : ∀ i h, tn i h → ∀ b ∈ fp, ∃ o, h.get? b = some o ∧ ∀ v, o.data ≠ .cell v
  keep : ∀ i h h', tn i h → (∀ b ∈ fp, ∀ o, h.get? b = some o → h'.get? b = some o) → tn i h'
  item : ∀ (X : Cx), X.prog = P → X.w = w → X.K = K → (c = true → X.calm = true) → ∀ (i : Nat) (pins : List (Addr × Obj)) (s : Shared) (σ : St) (H : Hp) (E : Value → Shared → Prop), Inv X pins σ H s → (∀ b ∈ fp, oJ X pins H b) → tn i s.heap → J.go i H →
    wpAny (model P w) X.A (pyNext (.ref it)) (fun r s1 => ∃ u, r = some u ∧
      wpAny (model P w) X.A (letOwnedTupleGo tg (.ref it) u) (fun _ s2 => ∃ x H', Inv X pins σ H' s2 ∧ RelV x u ∧ J.yld i H x H' ∧ tn (i + 1) s2.heap ∧ ∀ b ∈ fp, H' b = none) E s1) E s
  done : ∀ (X : Cx), X.prog = P → X.w = w → X.K = K → (c = true → X.calm = true) → ∀ (i : Nat) (pins : List (Addr × Obj)) (s : Shared) (σ : St) (H : Hp) (E : Value → Shared → Prop), Inv X pins σ H s → (∀ b ∈ fp, oJ X pins H b) → tn i s.heap → J.stop i H →
    wpAny (model P w) X.A (pyNext (.ref it)) (fun r s1 => r = none ∧ Inv X pins σ H s1) E s
  self : ∀ (A : Around) (i : Nat) (s : Shared) (Q : Value → Shared → Prop) (E : Value → Shared → Prop), tn i s.heap → Q (.ref it) s → wpAny (model P w) A (pyIter (.ref it)) Q E s
theorem Turn.calm {c : Bool} {P : Program} {w : World} {K : PySem.W.Frag} {tg : Expr} {J : It} {fp : List Addr} {it : Addr} {tn : Nat → Heap → Prop} (T : Turn true P w K tg J fp it tn) (h : c = true) : Turn c P w K tg J fp it tn := by subst h; exact T
abbrev TI := St → Hp → (It → Hp → Prop) → Prop
def PIE (X : Cx) (pins : List (Addr × Obj)) (σ : St) (tg : Expr) (R : It → Hp → Prop) (itv : Value) (s2 : Shared) : Prop :=
  ∃ (it : Addr) (fp : List Addr) (tn : Nat → Heap → Prop) (J : It) (H' : Hp), itv = .ref it ∧ Inv X pins σ H' s2 ∧ Turn X.calm X.prog X.w X.K tg J fp it tn ∧ tn 0 s2.heap ∧ (∀ b ∈ fp, oJ X pins H' b) ∧ R J H'
def PI (X : Cx) (tg iter : Expr) (wi : TI) : Prop :=
  ∀ (pins : List (Addr × Obj)) (s : Shared) (σ : St) (H : Hp) (R : It → Hp → Prop), Inv X pins σ H s → wi σ H R →
    wpAny (model X.prog X.w) X.A (eval iter X.env) (fun v s1 => wpAny (model X.prog X.w) X.A (pyIter v) (PIE X pins σ tg R) X.xe s1) X.xe s
theorem A6 {M : Model} {A : Around} {E : Value → Shared → Prop} {s : Shared} {tg : Expr} {it : Addr} {u : Value} {o : Obj} {n : String} {vs : Array Value} {Q : Unit → Shared → Prop} (ho : s.heap.get? it = some o) (hc : o.cls = .type n) (hd : o.data = .fields vs)
    (hn : ["enumerate", "zip", "dict_itemiterator", "dict_reverseitemiterator", "odict_iterator", "itertools.zip_longest", "itertools.pairwise"].contains n = false) (hQ : Q () s) : wpAny M A (letOwnedTupleGo tg (.ref it) u) Q E s := by
  unfold letOwnedTupleGo
  cases tg <;> first
    | exact wpAny_pure hQ
    | (cases u <;> first
        | exact wpAny_pure hQ
        | (refine wpAny_bind (wpAny_load ho ?_)
           rw [hc, hd]
           show wpAny M A (if (["enumerate", "zip", "dict_itemiterator", "dict_reverseitemiterator", "odict_iterator", "itertools.zip_longest", "itertools.pairwise"].contains n && vs[0]? == some (rawInt _)) = true then _ else _) Q E s
           rw [if_neg (by intro h; rw [hn, Bool.false_and] at h; cases h)]
           exact wpAny_pure hQ))
def Itl (K : PySem.W.Frag) (a : Addr) : It :=
  ⟨fun i H => ∃ xs x, SqL K H a xs ∧ xs[i]? = some x, fun i H x H' => H' = H ∧ ∀ xs, SqL K H a xs → xs[i]? = some x, fun i H => ∃ xs, SqL K H a xs ∧ xs.length ≤ i⟩
def Itt (K : PySem.W.Frag) (a : Addr) : It :=
  ⟨fun i H => ∃ xs x, SqT K H a xs ∧ xs[i]? = some x, fun i H x H' => H' = H ∧ ∀ xs, SqT K H a xs → xs[i]? = some x, fun i H => ∃ xs, SqT K H a xs ∧ xs.length ≤ i⟩
def Itr (lo : Int) (n : Nat) : It := ⟨fun i _ => i < n, fun i H x H' => H' = H ∧ x = .int (lo + i), fun i _ => n ≤ i⟩
theorem AE {c : Bool} {P : Program} {w : World} {K : PySem.W.Frag} {tg : Expr} (a it : Addr) : Turn c P w K tg (Itl K a) [it] it (fun i h => h.IsListIter it a i) where
  mem := by simp
  obj := fun i h st b hb => by
    have e : b = it := by simpa using hb
    subst e
    obtain ⟨o, e, c, d⟩ := st
    exact ⟨o, e, fun v z => by rw [d] at z; cases z⟩
  keep := fun i h h' st k => st.at fun o e => k it (by simp) o e
  item := by
    intro X hP hw hK hc i pins s σ H E I hf st hg
    subst hP hw hK
    obtain ⟨xs, x, hq, hx⟩ := hg
    obtain ⟨its, rv, p, hz⟩ := I.list hq
    obtain ⟨u, hu, ru⟩ := rv.get hx
    obtain ⟨f0, f1, f2, f3, f4, f5⟩ := hf it (by simp)
    refine wpAny_pyNext_list_item st p.isList (x := u) (by simpa using hu) fun h' st' sb => ?_
    have I1 : Inv X pins σ H { s with heap := h' } := I.turned (t' := s.toks) (fun b o hb e => (sb.2 b hb).trans e) f0 f1 f3 f4 f5
    obtain ⟨o, e, c, d⟩ := id st'
    exact ⟨u, rfl, A6 (s := { s with heap := h' }) e c d (by decide) ⟨x, H, I1, ru, ⟨rfl, fun ys hy => by rw [I.CD hy hq]; exact hx⟩, st', fun b hb => (hf b hb).1⟩⟩
  done := by
    intro X hP hw hK hc i pins s σ H E I hf st hg
    subst hP hw hK
    obtain ⟨xs, hq, hx⟩ := hg
    obtain ⟨its, rv, p, hz⟩ := I.list hq
    obtain ⟨f0, f1, f2, f3, f4, f5⟩ := hf it (by simp)
    have hl := rv.length
    exact se I.yy (I.hne f5) st p.isList (by simp; omega) fun h' eb => ⟨rfl, I.turned (t' := s.toks) (fun b o hb e => eb b o hb e) f0 f1 f3 f4 f5⟩
  self := fun _ _ _ _ _ st h => wpAny_pyIter_listiter st h
theorem xW {c : Bool} {P : Program} {w : World} {K : PySem.W.Frag} {tg : Expr} (a it : Addr) : Turn c P w K tg (Itt K a) [it] it (fun i h => h.IsTupleIter it a i) where
  mem := by simp
  obj := fun i h st b hb => by
    have e : b = it := by simpa using hb
    subst e
    obtain ⟨o, e, c, d⟩ := st
    exact ⟨o, e, fun v z => by rw [d] at z; cases z⟩
  keep := fun i h h' st k => st.at fun o e => k it (by simp) o e
  item := by
    intro X hP hw hK hc i pins s σ H E I hf st hg
    subst hP hw hK
    obtain ⟨xs, x, hq, hx⟩ := hg
    obtain ⟨its, rv, p, hz⟩ := I.tuple hq
    obtain ⟨u, hu, ru⟩ := rv.get hx
    obtain ⟨f0, f1, f2, f3, f4, f5⟩ := hf it (by simp)
    refine wpAny_pyNext_tuple_item st (show s.heap.IsTuple a its.toArray from p) (x := u) (by simpa using hu) fun h' st' sb => ?_
    have I1 : Inv X pins σ H { s with heap := h' } := I.turned (t' := s.toks) (fun b o hb e => (sb.2 b hb).trans e) f0 f1 f3 f4 f5
    obtain ⟨o, e, c, d⟩ := id st'
    exact ⟨u, rfl, A6 (s := { s with heap := h' }) e c d (by decide) ⟨x, H, I1, ru, ⟨rfl, fun ys hy => by rw [I.AB hy hq]; exact hx⟩, st', fun b hb => (hf b hb).1⟩⟩
  done := by
    intro X hP hw hK hc i pins s σ H E I hf st hg
    subst hP hw hK
    obtain ⟨xs, hq, hx⟩ := hg
    obtain ⟨its, rv, p, hz⟩ := I.tuple hq
    obtain ⟨f0, f1, f2, f3, f4, f5⟩ := hf it (by simp)
    have hl := rv.length
    exact nC I.yy (I.hne f5) st (show s.heap.IsTuple a its.toArray from p) (by simp; omega) fun h' eb => ⟨rfl, I.turned (t' := s.toks) (fun b o hb e => eb b o hb e) f0 f1 f3 f4 f5⟩
  self := fun _ _ _ _ _ st h => wpAny_pyIter_tupleiter st h
theorem x5 {P : Program} {w : World} {K : PySem.W.Frag} {tg : Expr} (it : Addr) (lo : Int) (n : Nat) : Turn true P w K tg (Itr lo n) [it] it (fun i h => IsRangeIter h it (lo + (i : Nat) * 1) ((n : Int) - (i : Nat)) 1) where
  mem := by simp
  obj := fun i h st b hb => by
    have e : b = it := by simpa using hb
    subst e
    exact ⟨_, st, fun v z => by
      have z' : Data.fields _ = Data.cell v := z
      cases z'⟩
  keep := fun i h h' st k => k it (by simp) _ st
  item := by
    intro X hP hw hK hc i pins s σ H E I hf st hg
    subst hP hw hK
    obtain ⟨f0, f1, f2, f3, f4, f5⟩ := hf it (by simp)
    have W := Walks.range (prog := X.prog) (w := X.w) (I.ok.hd (hc rfl)) it lo 1 n
    refine W.item i s _ _ hg st fun v h' tk hv st' kk => ?_
    obtain ⟨t, rfl⟩ := hv
    have I1 : Inv X pins σ H { s with heap := h', toks := tk } := I.turned (fun b o hb e => kk b o (by simpa using hb) e) f0 f1 f3 f4 f5
    refine ⟨_, rfl, A6 (s := { s with heap := h', toks := tk }) (n := "range_iterator") st' rfl rfl (by decide) ⟨.int (lo + i), H, I1, ⟨t, ?_⟩, ⟨rfl, rfl⟩, st', fun b hb => (hf b hb).1⟩⟩
    rw [Int.mul_one]
  done := by
    intro X hP hw hK hc i pins s σ H E I hf st hg
    subst hP hw hK
    obtain ⟨f0, f1, f2, f3, f4, f5⟩ := hf it (by simp)
    exact wpAny_pyNext_range_end (I.ok.hd (hc rfl)) st (by have : n ≤ i := hg; omega) fun h' eb => ⟨rfl, I.turned (t' := s.toks) (fun b o hb e => eb b o hb e) f0 f1 f3 f4 f5⟩
  self := fun _ _ _ _ _ st h => wpAny_pyIter_rangeiter st h
end L2
namespace L2
open PySem PySem.Spec PyProof.Rows
section
variable {X : Cx} {tg : Expr}
def HD (K : PySem.W.Frag) (tl : TE) : TI := fun σ H R => tl σ H fun x H1 => ∃ a, x = .ref a ∧ (∃ xs, SqL K H1 a xs) ∧ R (Itl K a) H1
def Jv (K : PySem.W.Frag) (tl : TE) : TI := fun σ H R => tl σ H fun x H1 => ∃ a, x = .ref a ∧ (∃ xs, SqT K H1 a xs) ∧ R (Itt K a) H1
theorem pT {l : Expr} {tl : TE} (hl : PE X l tl) : PI X tg l (HD X.K tl) := by
  intro pins s σ H R I h
  refine thn (hl pins s σ H _ I h) fun v s1 ⟨x, H1, I1, r1, q1⟩ => ?_
  obtain ⟨a, e, ⟨xs, hq⟩, q⟩ := q1
  subst e
  cases r1
  obtain ⟨its, rv, p, hz⟩ := I1.list hq
  refine wpAny_pyIter_list p.isList ?_
  refine ⟨s1.heap.objs.size, [s1.heap.objs.size], _, _, H1, rfl, I1.kept (t' := s1.toks) fun b o e => Heap.get?_push_of_some _ e, AE a _, ⟨_, Heap.get?_push_size _ rfl, rfl, rfl⟩, fun b hb => ?_, q⟩
  have e : b = s1.heap.objs.size := by simpa using hb
  subst e
  exact I1.A2 (Nat.le_refl _) (I1.hok.fresh (Nat.le_refl _))
theorem Fd {l : Expr} {tl : TE} (hl : PE X l tl) : PI X tg l (Jv X.K tl) := by
  intro pins s σ H R I h
  refine thn (hl pins s σ H _ I h) fun v s1 ⟨x, H1, I1, r1, q1⟩ => ?_
  obtain ⟨a, e, ⟨xs, hq⟩, q⟩ := q1
  subst e
  cases r1
  obtain ⟨its, rv, p, hz⟩ := I1.tuple hq
  refine wpAny_pyIter_tuple (show s1.heap.IsTuple a its.toArray from p) ?_
  refine ⟨s1.heap.objs.size, [s1.heap.objs.size], _, _, H1, rfl, I1.kept (t' := s1.toks) fun b o e => Heap.get?_push_of_some _ e, xW a _, ⟨_, Heap.get?_push_size _ rfl, rfl, rfl⟩, fun b hb => ?_, q⟩
  have e : b = s1.heap.objs.size := by simpa using hb
  subst e
  exact I1.A2 (Nat.le_refl _) (I1.hok.fresh (Nat.le_refl _))
theorem vU (hc : X.calm = true) {pins : List (Addr × Obj)} {σ : St} {H : Hp} {s : Shared} {R : It → Hp → Prop} {E : Value → Shared → Prop} {lo hi : Int} {t u v : Tok} {tk : Nat} (I : Inv X pins σ H s) (h1 : -(2 ^ 62) ≤ lo) (h2 : lo < 2 ^ 62) (h3 : -(2 ^ 62) ≤ hi) (h4 : hi < 2 ^ 62)
    (q : R (Itr lo (hi - lo).toNat) H) : wpAny (model X.prog X.w) X.A (pyIter (.ref s.heap.objs.size)) (PIE X pins σ tg R) E { s with heap := s.heap.push { cls := .type "range", data := .fields #[.int lo t, .int hi u, .int 1 v] }, toks := tk } := by
  refine wpAny_pyIter_range (IsRange.new ..) (small_one h1 h2 h3 h4) ?_
  have I1 : Inv X pins σ H { s with heap := s.heap.push { cls := .type "range", data := .fields #[.int lo t, .int hi u, .int 1 v] }, toks := tk } := I.kept fun b o e => Heap.get?_push_of_some _ e
  refine ⟨(s.heap.push { cls := .type "range", data := .fields #[.int lo t, .int hi u, .int 1 v] }).objs.size, [(s.heap.push { cls := .type "range", data := .fields #[.int lo t, .int hi u, .int 1 v] }).objs.size], _, _, H, rfl,
    I1.kept (t' := tk) fun b o e => Heap.get?_push_of_some _ e, (x5 _ lo (hi - lo).toNat).calm hc, ?_, fun b hb => ?_, q⟩
  · have e1 : lo + ((0 : Nat) : Int) * 1 = lo := by simp
    have e2 : (((hi - lo).toNat : Nat) : Int) - ((0 : Nat) : Int) = Builtin.Range.rangeSize lo hi 1 := by rw [rangeSize_one]; split <;> omega
    show IsRangeIter _ _ (lo + ((0 : Nat) : Int) * 1) ((((hi - lo).toNat : Nat) : Int) - ((0 : Nat) : Int)) 1
    rw [e1, e2]
    exact Heap.get?_push_size _ rfl
  · have e : b = (s.heap.push { cls := .type "range", data := .fields #[.int lo t, .int hi u, .int 1 v] }).objs.size := by simpa using hb
    subst e
    exact I1.A2 (Nat.le_refl _) (I1.hok.fresh (Nat.le_refl _))
def Ip (ta : TA) : TI := fun σ H R => ta σ H fun vs H1 => ∃ j : Int, vs = [.int j] ∧ -(2 ^ 62) ≤ j ∧ j < 2 ^ 62 ∧ R (Itr 0 j.toNat) H1
def Ij (ta : TA) : TI := fun σ H R => ta σ H fun vs H1 => ∃ i j : Int, vs = [.int i, .int j] ∧ (-(2 ^ 62) ≤ i ∧ i < 2 ^ 62 ∧ -(2 ^ 62) ≤ j ∧ j < 2 ^ 62) ∧ R (Itr i (j - i).toNat) H1
theorem AF {a : Expr} {ta : TA} {p pos : Pos} (hc : X.calm = true) (hg : Gl X "range") (hm : X.mg "range" = none) (ha : PA X [a] ta) (hs : starEach [a] X.env = [(false, eval a X.env)] := by rfl) : PI X tg (.Call (.Name "range" p) [a] [] pos) (Ip ta) := by
  intro pins s σ H R I h
  refine Call_ (rN I hg hm boot_range (PyProof.Rows.callWith_type1 (thn (ha pos pins s σ H _ I h) fun us s1 ⟨vs, H1, I1, r1, q1⟩ => ?_) hs rfl))
  obtain ⟨j, e, q1, q2, q⟩ := q1
  subst e
  cases r1 with
  | cons r rr =>
    cases rr
    obtain ⟨t, rfl⟩ := r
    exact call_range_1 (vU hc I1 (by omega) (by omega) q1 q2 (by simpa using q))
theorem zS {a b : Expr} {ta : TA} {p pos : Pos} (hc : X.calm = true) (hg : Gl X "range") (hm : X.mg "range" = none) (ha : PA X [a, b] ta) (hs : starEach [a, b] X.env = [(false, eval a X.env), (false, eval b X.env)] := by rfl) (hs2 : starEach [b] X.env = [(false, eval b X.env)] := by rfl) :
    PI X tg (.Call (.Name "range" p) [a, b] [] pos) (Ij ta) := by
  intro pins s σ H R I h
  refine Call_ (rN I hg hm boot_range (PyProof.Rows.callWith_type1 (thn (ha pos pins s σ H _ I h) fun us s1 ⟨vs, H1, I1, r1, q1⟩ => ?_) (by rw [hs, hs2]) (by rw [hs2]; rfl)))
  obtain ⟨i, j, e, ⟨q1, q2, q3, q4⟩, q⟩ := q1
  subst e
  cases r1 with
  | cons r rr =>
    cases rr with
    | cons r' rr =>
      cases rr
      obtain ⟨t, rfl⟩ := r
      obtain ⟨t', rfl⟩ := r'
      exact call_range_2 (vU hc I1 q1 q2 q3 q4 q)
def IZ (wi : TI) (g : TG) (tb : TS) : TS := fun D σ H => wi σ H fun J H1 => ∃ W : Nat → Nat → St → Hp → Prop, (∃ m, W 0 m σ H1) ∧ ∀ i m σ H, W i m σ H →
  (J.stop i H ∧ D.nx σ H) ∨ (J.go i H ∧ ∃ N : St → Hp → Prop, (∀ σ' H', N σ' H' → ∃ m', m' < m ∧ W (i + 1) m' σ' H') ∧ ∀ x H', J.yld i H x H' → g x σ H' fun σ2 H2 => tb { D with nx := N, ct := N, bk := D.nx } σ2 H2)
def jH (fp : List Addr) (h : Heap) : List (Addr × Obj) := fp.filterMap fun b => (h.get? b).map fun o => (b, o)
theorem bD {fp : List Addr} {h : Heap} {b : Addr} {o : Obj} (hb : b ∈ fp) (e : h.get? b = some o) : (b, o) ∈ jH fp h := List.mem_filterMap.mpr ⟨b, hb, by rw [e]; rfl⟩
theorem AG {fp : List Addr} {h : Heap} {p : Addr × Obj} (hp : p ∈ jH fp h) : p.1 ∈ fp ∧ h.get? p.1 = some p.2 := by
  obtain ⟨b, hb, e⟩ := List.mem_filterMap.mp hp
  cases q : h.get? b with
  | none => rw [q] at e; cases e
  | some o =>
    rw [q] at e
    have e' : (b, o) = p := Option.some.inj e
    subst e'
    exact ⟨hb, q⟩
theorem Inv.pinned {pins : List (Addr × Obj)} {σ : St} {H : Hp} {s : Shared} {fp : List Addr} (I : Inv X pins σ H s) (hf : ∀ b ∈ fp, oJ X pins H b) (ho : ∀ b ∈ fp, ∃ o, s.heap.get? b = some o ∧ ∀ v, o.data ≠ .cell v) : Inv X (pins ++ jH fp s.heap) σ H s :=
  I.zd fun p hp => (List.mem_append.mp hp).elim (fun z => I.pin p (List.mem_append_right _ z)) fun z => by
    obtain ⟨hb, e⟩ := AG z
    obtain ⟨f0, f1, f2, _⟩ := hf p.1 hb
    obtain ⟨o, e', d⟩ := ho p.1 hb
    rw [e] at e'; cases e'
    exact ⟨e, f0, f1, f2, d⟩
theorem Inv.eP {pins pl : List (Addr × Obj)} {σ : St} {H : Hp} {s : Shared} (I : Inv X (pins ++ pl) σ H s) : Inv X pins σ H s := I.zd fun p hp => I.pin p (List.mem_append_right _ (List.mem_append_left _ hp))
theorem Gj {iter : Expr} {body : List Stmt} {wi : TI} {g : TG} {tb : TS} {pos : Pos} (hp : PassesOwn (model X.prog X.w) X.A X.env X.xe) (hc : X.calm = true) (hi : PI X tg iter wi) (hg : PG X tg g) (hb : PSs X body tb)
    (hs : ∀ x, foldedSetIterable iter X.env x = pure x := by intro _; rfl) : PS X (.For tg iter body [] pos) (IZ wi g tb) := by
  intro pins s σ H D I h
  refine wpAny_For (thn (hi pins s σ H _ I h) fun v s1 h1 => thn h1 fun itv s2 h2 => ?_) hs
  obtain ⟨it, fp, tn, J, H2, e, I2, T, st2, f2, W, ⟨m0, w0⟩, turn⟩ := h2
  subst e
  have stat : ∀ {H' : Hp}, (∀ b ∈ fp, H' b = none) → ∀ b ∈ fp, oJ X pins H' b := fun hn b hb => ⟨hn b hb, (f2 b hb).2⟩
  refine codeAny_forLoop_any (fun n s' => ∃ i σ' H', Inv X pins σ' H' s' ∧ tn i s'.heap ∧ (∀ b ∈ fp, H' b = none) ∧ W i n σ' H') ?_ m0 ⟨0, σ, H2, I2, st2, fun b hb => (f2 b hb).1, w0⟩
  rintro n s3 ⟨i, σ3, H3, I3, st3, fr3, w3⟩
  rcases turn i n σ3 H3 w3 with ⟨stop, qn⟩ | ⟨go, N, hN, step⟩
  · refine wpAny_passesOwn hp (thn (T.done X rfl rfl rfl (fun z => z) i pins s3 σ3 H3 X.xe I3 (stat fr3) st3 stop) fun r s4 ⟨hr, I4⟩ => ?_)
    subst hr
    exact wpAny_execs_nil ⟨σ3, H3, I4, qn⟩
  · refine wpAny_passesOwn hp (thn (T.item X rfl rfl rfl (fun z => z) i pins s3 σ3 H3 X.xe I3 (stat fr3) st3 go) fun r s4 ⟨u, hr, h4⟩ => ?_)
    subst hr
    refine wpAny_passesOwn hp (thn h4 fun _ s5 ⟨x, H5, I5, r5, y5, st5, fr5⟩ => ?_)
    have I5' := I5.pinned (stat fr5) (T.obj _ _ st5)
    refine wpAny_passesOwn hp (thn (hg _ s5 σ3 H5 x u _ I5' r5 (step x H5 y5)) fun _ s6 ⟨σ6, H6, I6, q6⟩ => ?_)
    refine wpAny_passesOwn hp (thn (hb _ s6 σ6 H6 _ I6 q6) fun f s7 q7 => ?_)
    have again : ∀ {σ7 : St} {H7 : Hp}, Inv X (pins ++ jH fp s5.heap) σ7 H7 s7 → N σ7 H7 → ∃ m, m < n ∧ ∃ i σ' H', Inv X pins σ' H' s7 ∧ tn i s7.heap ∧ (∀ b ∈ fp, H' b = none) ∧ W i m σ' H' := fun {σ7 H7} I7 n7 => by
      obtain ⟨m', hm, w7⟩ := hN σ7 H7 n7
      refine ⟨m', hm, i + 1, σ7, H7, I7.eP, T.keep _ _ _ st5 fun b hb o e => (I7.pin (b, o) (List.mem_append_right _ (List.mem_append_right _ (bD hb e)))).1, fun b hb => ?_, w7⟩
      obtain ⟨o, e, d⟩ := T.obj _ _ st5 b hb
      exact (I7.pin (b, o) (List.mem_append_right _ (List.mem_append_right _ (bD hb e)))).2.1
    cases f with
    | next => obtain ⟨σ7, H7, I7, n7⟩ := q7; exact again I7 n7
    | cont => obtain ⟨σ7, H7, I7, n7⟩ := q7; exact again I7 n7
    | brk => obtain ⟨σ7, H7, I7, q7⟩ := q7; exact ⟨σ7, H7, I7.eP, q7⟩
    | ret v => obtain ⟨x7, σ7, H7, I7, r7, q7⟩ := q7; exact ⟨x7, σ7, H7, I7.eP, r7, q7⟩
end
end L2
namespace L2
open PySem PySem.Spec PyProof.Rows
abbrev R2 := V → V → Hp → VK → Prop
def OpR (X : Cx) (f : Value → Value → Sem Value) (r : R2) : Prop :=
  ∀ (pins : List (Addr × Obj)) (s : Shared) (σ : St) (H : Hp) (x y : V) (v u : Value) (Q : VK), Inv X pins σ H s → RelV x v → RelV y u → r x y H Q →
    wpAny (model X.prog X.w) X.A (f v u) (EP X pins σ Q) X.xe s
def UnR (X : Cx) (f : Value → Sem Value) (r : V → Hp → VK → Prop) : Prop :=
  ∀ (pins : List (Addr × Obj)) (s : Shared) (σ : St) (H : Hp) (x : V) (v : Value) (Q : VK), Inv X pins σ H s → RelV x v → r x H Q →
    wpAny (model X.prog X.w) X.A (f v) (EP X pins σ Q) X.xe s
def eV (X : Cx) (f : Value) (r : List V → Hp → VK → Prop) : Prop :=
  ∀ (pins : List (Addr × Obj)) (s : Shared) (σ : St) (H : Hp) (xs : List V) (us : List Value) (Q : VK), Inv X pins σ H s → Vals xs us → r xs H Q →
    wpAny (model X.prog X.w) X.A (call f us) (EP X pins σ Q) X.xe s
def tOp (r : R2) (ta tb : TE) : TE := fun σ H Q => ta σ H fun x H1 => tb σ H1 fun y H2 => r x y H2 Q
def tUn (r : V → Hp → VK → Prop) (ta : TE) : TE := fun σ H Q => ta σ H fun x H1 => r x H1 Q
def rI (C : Int → Int → Prop) (g : Int → Int → V) : R2 := fun x y H Q => ∃ i j, x = .int i ∧ y = .int j ∧ C i j ∧ Q (g i j) H
def rI0 (g : Int → Int → V) : R2 := fun x y H Q => ∃ i j, x = .int i ∧ y = .int j ∧ Q (g i j) H
def rU (g : Int → V) : V → Hp → VK → Prop := fun x H Q => ∃ i, x = .int i ∧ Q (g i) H
section
variable {X : Cx} {a b c : Expr} {ta tb tc : TE} {pos : Pos}
theorem GF (ha : PE X a ta) (hb : PE X b tb) {pins : List (Addr × Obj)} {s : Shared} {σ : St} {H : Hp} {R : V → V → Hp → Prop} (I : Inv X pins σ H s)
    (h : ta σ H fun x H1 => tb σ H1 fun y H2 => R x y H2) {Q : Value → Shared → Prop} {f : Value → Value → Sem Value}
    (hf : ∀ v u s2 x y H2, Inv X pins σ H2 s2 → RelV x v → RelV y u → R x y H2 → wpAny (model X.prog X.w) X.A (f v u) Q X.xe s2) :
    wpAny (model X.prog X.w) X.A (eval a X.env) (fun v s₁ => wpAny (model X.prog X.w) X.A (eval b X.env) (fun u s₂ => wpAny (model X.prog X.w) X.A (f v u) Q X.xe s₂) X.xe s₁) X.xe s := by
  refine thn (ha pins s σ H _ I h) fun v s1 ⟨x, H1, I1, r1, q1⟩ => ?_
  refine thn (hb pins s1 σ H1 _ I1 q1) fun u s2 ⟨y, H2, I2, r2, q2⟩ => ?_
  exact hf v u s2 x y H2 I2 r1 r2 q2
theorem Ir {op : Operator} {r : R2} (ho : OpR X (binaryOp op) r) (ha : PE X a ta) (hb : PE X b tb) : PE X (.BinOp a op b pos) (tOp r ta tb) := by
  intro pins s σ H Q I h
  exact wpAny_BinOp (GF ha hb I h fun v u s2 x y H2 I2 rx ry q => ho pins s2 σ H2 x y v u Q I2 rx ry q)
theorem Iv {op : UnaryOp} {r : V → Hp → VK → Prop} (ho : UnR X (unaryOp op) r) (ha : PE X a ta) : PE X (.UnaryOp op a pos) (tUn r ta) := by
  intro pins s σ H Q I h
  exact UnaryOp_ (thn (ha pins s σ H _ I h) fun v s1 ⟨x, H1, I1, r1, q1⟩ => ho pins s1 σ H1 x v Q I1 r1 q1)
theorem opI {f : Value → Value → Sem Value} {C : Int → Int → Prop} {g : Int → Int → Int}
    (rule : ∀ (i j : Int) (t u : Tok) (s : Shared) (Q : Value → Shared → Prop) (E : Value → Shared → Prop), C i j → Q (.int (g i j) s.toks) { s with toks := s.toks + 1 } → wpAny (model X.prog X.w) X.A (f (.int i t) (.int j u)) Q E s) :
    OpR X f (rI C fun i j => .int (g i j)) := by
  intro pins s σ H x y v u Q I rx ry h
  obtain ⟨i, j, rfl, rfl, hc, q⟩ := h
  obtain ⟨t, rfl⟩ := rx
  obtain ⟨t', rfl⟩ := ry
  exact rule i j t t' s _ _ hc ⟨.int (g i j), H, I.tok _, ⟨_, rfl⟩, q⟩
theorem Hu {f : Value → Value → Sem Value} {g : Int → Int → Int}
    (rule : ∀ (i j : Int) (t u : Tok) (s : Shared) (Q : Value → Shared → Prop) (E : Value → Shared → Prop), Q (.int (g i j) s.toks) { s with toks := s.toks + 1 } → wpAny (model X.prog X.w) X.A (f (.int i t) (.int j u)) Q E s) :
    OpR X f (rI0 fun i j => .int (g i j)) := by
  intro pins s σ H x y v u Q I rx ry h
  obtain ⟨i, j, rfl, rfl, q⟩ := h
  obtain ⟨t, rfl⟩ := rx
  obtain ⟨t', rfl⟩ := ry
  exact rule i j t t' s _ _ ⟨.int (g i j), H, I.tok _, ⟨_, rfl⟩, q⟩
theorem D2 {f : Value → Value → Sem Value} {g : Int → Int → Bool}
    (rule : ∀ (i j : Int) (t u : Tok) (s : Shared) (Q : Value → Shared → Prop) (E : Value → Shared → Prop), Q (.bool (g i j)) s → wpAny (model X.prog X.w) X.A (f (.int i t) (.int j u)) Q E s) :
    OpR X f (rI0 fun i j => .bl (g i j)) := by
  intro pins s σ H x y v u Q I rx ry h
  obtain ⟨i, j, rfl, rfl, q⟩ := h
  obtain ⟨t, rfl⟩ := rx
  obtain ⟨t', rfl⟩ := ry
  exact rule i j t t' s _ _ ⟨.bl (g i j), H, I, rfl, q⟩
def FP (i j : Int) : Prop := 0 ≤ j ∧ j ≤ 1000000 ∧ i.natAbs < 2 ^ 64
def Eh (i j : Int) : Prop := (-(2 ^ 64) < i ∧ i < 2 ^ 64) ∨ (-(2 ^ 64) < j ∧ j < 2 ^ 64)
theorem Eh.ok {i j : Int} (h : Eh i j) : IntMulOk i j := by
  rcases h with ⟨h1, h2⟩ | ⟨h1, h2⟩
  · exact .of_left (intBits_le_64 h1 h2)
  · exact .of_right (intBits_le_64 h1 h2)
theorem AX : OpR X (binaryOp .Add) (rI0 fun i j => .int (i + j)) := Hu fun _ _ _ _ _ _ _ q => add_int q
theorem Ha : OpR X (binaryOp .Sub) (rI0 fun i j => .int (i - j)) := Hu fun _ _ _ _ _ _ _ q => sub_int q
theorem D8 : OpR X (binaryOp .Mod) (rI (fun _ j => j ≠ 0) fun i j => .int (i.fmod j)) := opI fun _ _ _ _ _ _ _ hc q => mod_int' hc q
theorem Gh : OpR X (binaryOp .Pow) (rI FP fun i j => .int (i ^ j.toNat)) := opI fun _ _ _ _ _ _ _ hc q => pow_int_small hc.1 hc.2.1 hc.2.2 q
theorem unI {f : Value → Sem Value} {g : Int → Int}
    (rule : ∀ (i : Int) (t : Tok) (s : Shared) (Q : Value → Shared → Prop) (E : Value → Shared → Prop), Q (.int (g i) s.toks) { s with toks := s.toks + 1 } → wpAny (model X.prog X.w) X.A (f (.int i t)) Q E s) :
    UnR X f (rU fun i => .int (g i)) := by
  intro pins s σ H x v Q I rx h
  obtain ⟨i, rfl, q⟩ := h
  obtain ⟨t, rfl⟩ := rx
  exact rule i t s _ _ ⟨.int (g i), H, I.tok _, ⟨_, rfl⟩, q⟩
theorem FF : UnR X (unaryOp .USub) (rU fun i => .int (-i)) := unI fun _ _ _ _ _ q => neg_int q
end
section
variable {X : Cx} {a b c : Expr} {ta tb tc : TE} {pos : Pos}
theorem j8 : OpR X (compareOp .Lt) (rI0 fun i j => .bl (decide (i < j))) := D2 fun _ _ _ _ _ _ _ q => lt_int q
theorem tj : OpR X (compareOp .LtE) (rI0 fun i j => .bl (decide (i ≤ j))) := D2 fun _ _ _ _ _ _ _ q => le_int q
theorem iS : OpR X (compareOp .Gt) (rI0 fun i j => .bl (decide (j < i))) := D2 fun _ _ _ _ _ _ _ q => gt_int q
theorem Bu : OpR X (compareOp .GtE) (rI0 fun i j => .bl (decide (j ≤ i))) := D2 fun _ _ _ _ _ _ _ q => ge_int q
theorem OpR.or {f : Value → Value → Sem Value} {r r' : R2} (h : OpR X f r) (h' : OpR X f r') : OpR X f (fun x y H Q => r x y H Q ∨ r' x y H Q) := by
  intro pins s σ H x y v u Q I rx ry q
  rcases q with q | q
  · exact h pins s σ H x y v u Q I rx ry q
  · exact h' pins s σ H x y v u Q I rx ry q
theorem aI (b : Expr) {op : CmpOp} (h : op ≠ .In := by decide) (h2 : op ≠ .NotIn := by decide) : behindInMarks op b = false := by
  have e1 : (op == CmpOp.In) = false := by cases op <;> first | rfl | exact absurd rfl h
  have e2 : (op == CmpOp.NotIn) = false := by cases op <;> first | rfl | exact absurd rfl h2
  cases b <;> simp [behindInMarks, e1, e2]
theorem D7 {op : CmpOp} {r : R2} (ho : OpR X (compareOp op) r) (ha : PE X a ta) (hb : PE X b tb) (hm : behindInMarks op b = false) : PE X (.Compare a [op] [b] pos) (tOp r ta tb) := by
  intro pins s σ H Q I h
  exact wpAny_Compare1 (GF ha hb I h fun v u s2 x y H2 I2 rx ry q => ho pins s2 σ H2 x y v u Q I2 rx ry q) hm
def zP (t : TE) : TT := fun σ H Q => t σ H fun x H' => ∃ k, x = .bl k ∧ Q k H'
theorem Ee {op : CmpOp} {r : R2} (ho : OpR X (compareOp op) r) (ha : PE X a ta) (hb : PE X b tb) (hm : behindInMarks op b = false) : PT X (.Compare a [op] [b] pos) (zP (tOp r ta tb)) := by
  intro pins s σ H Q I h
  refine wpAny_isTrue_Compare1 (thn (ha pins s σ H _ I h) fun v s1 ⟨x, H1, I1, r1, q1⟩ => thn (hb pins s1 σ H1 _ I1 q1) fun u s2 ⟨y, H2, I2, r2, q2⟩ =>
    thn (ho pins s2 σ H2 x y v u _ I2 r1 r2 q2) fun c s3 ⟨z, H3, I3, r3, k, e, q3⟩ => ?_) hm
  subst e
  cases r3
  exact wpAny_truthy_bool ⟨H3, I3, q3⟩
def FO (r r' : R2) (ta tb tc : TE) : TE := fun σ H Q => ta σ H fun x H1 => tb σ H1 fun y H2 => r x y H2 fun z H3 => ∃ k, z = .bl k ∧
  (if k = true then tc σ H3 fun w' H4 => r' y w' H4 Q else Q (.bl false) H3)
theorem Bj {op op' : CmpOp} {r r' : R2} (ho : OpR X (compareOp op) r) (ho' : OpR X (compareOp op') r') (ha : PE X a ta) (hb : PE X b tb) (hc : PE X c tc)
    (hm : lastMarks [op, op'] [b, c] = false := by with_unfolding_all rfl) : PT X (.Compare a [op, op'] [b, c] pos) (zP (FO r r' ta tb tc)) := by
  intro pins s σ H Q I h
  refine isTrue_chain (thn (ha pins s σ H _ I h) fun v s1 ⟨x, H1, I1, r1, q1⟩ => test_link (thn (hb pins s1 σ H1 _ I1 q1) fun u s2 ⟨y, H2, I2, r2, q2⟩ =>
    thn (ho pins s2 σ H2 x y v u _ I2 r1 r2 q2) fun d s3 ⟨z, H3, I3, r3, k, e, q3⟩ => ?_)) hm
  subst e
  cases r3
  refine wpAny_truthy_bool ?_
  cases k with
  | false =>
    obtain ⟨k', e', q'⟩ := q3
    cases e'
    exact ite_ff ⟨H3, I3, q'⟩
  | true =>
    refine ite_tt (test_last (thn (hc pins s3 σ H3 _ I3 q3) fun w' s4 ⟨z', H4, I4, r4, q4⟩ => thn (ho' pins s4 σ H4 y z' u w' _ I4 r2 r4 q4) fun d' s5 ⟨z2, H5, I5, r5, k2, e2, q5⟩ => ?_))
    subst e2
    cases r5
    exact wpAny_truthy_bool ⟨H5, I5, q5⟩
theorem qE : (sizeLine : Nat) < 2 ^ 63 := by rw [sizeLine_eq]; decide
theorem vals1 {x : V} {us : List Value} (r : Vals [x] us) : ∃ u, us = [u] ∧ RelV x u := by
  cases r with
  | cons r1 r2 => cases r2; exact ⟨_, rfl, r1⟩
theorem vals2 {x y : V} {us : List Value} (r : Vals [x, y] us) : ∃ u w', us = [u, w'] ∧ RelV x u ∧ RelV y w' := by
  cases r with
  | cons r1 r2 =>
    cases r2 with
    | cons r3 r4 => cases r4; exact ⟨_, _, rfl, r1, r3⟩
theorem B4 : eV X (.builtin "abs") (fun xs H Q => ∃ i, xs = [.int i] ∧ Q (.int (if i < 0 then -i else i)) H) := by
  intro pins s σ H xs us Q I r h
  obtain ⟨i, rfl, q⟩ := h
  obtain ⟨u, rfl, t, rfl⟩ := vals1 r
  exact call_abs_int fun u tk => ⟨.int (if i < 0 then -i else i), H, I.tok _, ⟨_, rfl⟩, q⟩
theorem AQ (hc : X.calm = true) : eV X (.builtin "max") (fun xs H Q => ∃ i j, xs = [.int i, .int j] ∧ Q (.int (if j > i then j else i)) H) := by
  intro pins s σ H xs us Q I r h
  obtain ⟨i, j, rfl, q⟩ := h
  obtain ⟨u, w', rfl, ⟨t, rfl⟩, ⟨t', rfl⟩⟩ := vals2 r
  refine max_two_ints (I.ok.hd hc) fun h' tk k => ⟨_, H, I.kept k, ?_, q⟩
  by_cases hj : j > i
  · rw [if_pos hj, if_pos hj]; exact ⟨_, rfl⟩
  · rw [if_neg hj, if_neg hj]; exact ⟨_, rfl⟩
theorem AO (hc : X.calm = true) : eV X (.builtin "min") (fun xs H Q => ∃ i j, xs = [.int i, .int j] ∧ Q (.int (if j < i then j else i)) H) := by
  intro pins s σ H xs us Q I r h
  obtain ⟨i, j, rfl, q⟩ := h
  obtain ⟨u, w', rfl, ⟨t, rfl⟩, ⟨t', rfl⟩⟩ := vals2 r
  refine min_two_ints (I.ok.hd hc) fun h' tk k => ⟨_, H, I.kept k, ?_, q⟩
  by_cases hj : j < i
  · rw [if_pos hj, if_pos hj]; exact ⟨_, rfl⟩
  · rw [if_neg hj, if_neg hj]; exact ⟨_, rfl⟩
theorem Aj : eV X (.type "int") (fun xs H Q => (∃ i, xs = [.int i] ∧ Q (.int i) H) ∨ ∃ k, xs = [.bl k] ∧ Q (.int (if k then 1 else 0)) H) := by
  intro pins s σ H xs us Q I r h
  rcases h with ⟨i, rfl, q⟩ | ⟨k, rfl, q⟩
  · obtain ⟨u, rfl, t, rfl⟩ := vals1 r
    exact call_int_int ⟨.int i, H, I, ⟨_, rfl⟩, q⟩
  · obtain ⟨u, rfl, r1⟩ := vals1 r
    cases r1
    exact call_int_bool ⟨.int (if k then 1 else 0), H, I.tok _, ⟨_, rfl⟩, q⟩
end
end L2
namespace L2
open PySem PySem.Spec PyProof.Rows
section
variable {prog : Program} {w : World} {A : Around} {E : Value → Shared → Prop} {s : Shared} {K : PySem.W.Frag} {x dx C f : Addr} {mA : Str → Option Value} {name : Str} {v : Value}
end
section
variable {P : Program} {w : World} {H H' : Hp} {h h' : Heap} {a C dx : Addr} {fs fs' : List (Str × V)}
end
structure Cls (K : PySem.W.Frag) (C : Addr) : Prop where
  pg : PySem.W.plainGet K C Str.empty = true
  hd : PySem.W.hasDictIn K C = true
  po : PySem.W.plainOver K C = true
  sa : PySem.W.findIn K (.ref C) "__setattr__" = some (some (.builtin "object.__setattr__"))
theorem Cls.get {K : PySem.W.Frag} {C : Addr} (c : Cls K C) (f : Str) : PySem.W.plainGet K C f = true := c.pg
section
variable {X : Cx} {pins : List (Addr × Obj)} {σ : St} {H : Hp} {s : Shared} {a C dx : Addr} {fs : List (Str × V)} {f : Str} {v : V} {A : Around} {E : Value → Shared → Prop}
theorem Inv.made (I : Inv X pins σ H s) : Inv X pins σ (upd (upd H s.heap.objs.size (.own (s.heap.objs.size + 1))) (s.heap.objs.size + 1) (.ins C s.heap.objs.size []))
    { s with heap := (s.heap.push PySem.W.emptyDict).push (PySem.W.instObj C s.heap.objs.size) } := by
  have e1 : (s.heap.push PySem.W.emptyDict).get? s.heap.objs.size = some PySem.W.emptyDict := Heap.get?_push_size s.heap rfl
  have e2 : ((s.heap.push PySem.W.emptyDict).push (PySem.W.instObj C s.heap.objs.size)).get? (s.heap.objs.size + 1) = some (PySem.W.instObj C s.heap.objs.size) := by
    have := Heap.get?_push_size (s.heap.push PySem.W.emptyDict) (o := PySem.W.instObj C s.heap.objs.size) rfl
    rwa [Heap.size_push] at this
  have e3 : (s.heap.push PySem.W.emptyDict).Ns s.heap.objs.size (fun _ => none) := ⟨PySem.W.emptyDict, #[], _, e1, rfl, (fun e he => absurd he (by simp)), fun _ => rfl⟩
  have I1 := I.laid (a := s.heap.objs.size) (o := .own (s.heap.objs.size + 1)) (h' := s.heap.push PySem.W.emptyDict) (t' := s.toks) (fun b u q => Heap.get?_push_of_some _ q) (Nat.le_refl _) ⟨_, e1⟩
  refine I1.laid (a := s.heap.objs.size + 1) (o := .ins C s.heap.objs.size []) (t' := s.toks) (fun b u q => Heap.get?_push_of_some _ q) (Nat.le_of_eq (Heap.size_push _ _)) ?_
  have ne : s.heap.objs.size ≠ s.heap.objs.size + 1 := Nat.ne_of_lt (Nat.lt_succ_self _)
  refine ⟨by rw [aT ne, bB], Nat.zero_le _, ne, e2, fun _ => none, (Heap.Ns1.of_empty e3).at fun o q => Heap.get?_push_of_some _ q, fun _ => True.intro, fun y hy => absurd rfl hy⟩
end
section
variable {X : Cx} {o e value : Expr} {f : Str} {pos pos' tpos : Pos} {ta tv : TE}
end
section
variable {X : Cx} {pins : List (Addr × Obj)} {σ : St} {H : Hp} {s : Shared} {A : Around} {E : Value → Shared → Prop} {Q : Value → Shared → Prop} {c : Value} {b : Bool}
end
end L2
namespace L2
open PySem PySem.Spec PyProof.Rows
structure dO (k : Nat) (A : Around) : Prop where
  hd : A.handled = none
  dp : A.depth + 3 * k + 5 < recursionLimit
  un : A.units + 16 * k + 200 < cLine
theorem dO.mono {j k : Nat} {A : Around} (r : dO k A) (h : j ≤ k) : dO j A := ⟨r.hd, by have := r.dp; omega, by have := r.un; omega⟩
theorem dO.deeper {k : Nat} {A : Around} (r : dO (k + 1) A) (env : Env) : dO k (A.deeper env) :=
  ⟨r.hd, by have := r.dp; show A.depth + 1 + 3 * k + 5 < _; omega, by have := r.un; show A.units + 3 + 16 * k + 200 < _; omega⟩
theorem dO.depth {k : Nat} {A : Around} (r : dO k A) : A.depth < recursionLimit := by have := r.dp; omega
theorem dO.units {k : Nat} {A : Around} (r : dO k A) : A.units + 64 < cLine := by have := r.un; omega
def H0 : TA := fun _ H Q => Q [] H
def Ew (ta : TE) (tr : TA) : TA := fun σ H Q => ta σ H fun x H1 => tr σ H1 fun xs H2 => Q (x :: xs) H2
section
variable {X : Cx} {e : Expr} {es : List Expr} {te : TE} {t : TA} {pos : Pos}
theorem kL : PA X [] H0 := fun _ _ _ _ H Q I h => Calls.spliced_nil ⟨[], H, I, .nil, h⟩
theorem fb (ha : PE X e te) (hr : PA X es t) (hs : starEach (e :: es) X.env = (false, eval e X.env) :: starEach es X.env := by rfl) : PA X (e :: es) (Ew te t) := by
  intro pos pins s σ H Q I h
  rw [hs]
  show wpAny _ _ (spliced ((false, eval e X.env) :: backTo pos (starEach es X.env))) _ _ s
  refine Calls.spliced_cons (thn (ha pins s σ H _ I h) fun u s1 ⟨x, H1, I1, r1, q1⟩ => ?_)
  exact thn (hr pos pins s1 σ H1 _ I1 q1) fun us s2 ⟨xs, H2, I2, r2, q2⟩ => ⟨x :: xs, H2, I2, .cons r1 r2, q2⟩
def Jw (t : TA) : TE := fun σ H Q => t σ H fun xs H1 => xs.length ≤ sizeLine ∧ ∀ p, H1 p = none → Q (.ref p) (upd H1 p (.tup xs))
def IS (t : TA) : TE := fun σ H Q => t σ H fun xs H1 => xs.length ≤ sizeLine ∧ ∀ p, H1 p = none → Q (.ref p) (upd H1 p (.lst xs))
theorem Fe {x1} (h : PA X es t) : PE X (.Tuple es x1 pos) (Jw t) := by
  intro pins s σ H Q I hq
  refine wpAny_Tuple_spliced (thn (h pos pins s σ H _ I hq) fun us s1 ⟨xs, H1, I1, r, z, q⟩ => ⟨by rw [← r.length]; exact z, ?_⟩)
  have hf : H1 s1.heap.objs.size = none := I1.hok.fresh (Nat.le_refl _)
  refine ⟨.ref s1.heap.objs.size, upd H1 s1.heap.objs.size (.tup xs), I1.laid (t' := s1.toks) (fun b u e => Heap.get?_push_of_some _ e) (Nat.le_refl _) ?_, rfl, q _ hf⟩
  exact ⟨z, us, r, ⟨_, Heap.get?_push_size _ rfl, rfl, _, rfl⟩⟩
theorem A3 (h : PA X es t) : PE X (.List es pos) (IS t) := by
  intro pins s σ H Q I hq
  refine wpAny_List_spliced (thn (h pos pins s σ H _ I hq) fun us s1 ⟨xs, H1, I1, r, z, q⟩ => ⟨by rw [← r.length]; exact z, ?_⟩)
  have hf : H1 s1.heap.objs.size = none := I1.hok.fresh (Nat.le_refl _)
  refine ⟨.ref s1.heap.objs.size, upd H1 s1.heap.objs.size (.lst xs), I1.laid (t' := s1.toks) (fun b u e => Heap.get?_push_of_some _ e) (Nat.le_refl _) ?_, rfl, q _ hf⟩
  exact ⟨z, us, 0, r, Heap.get?_push_size _ rfl⟩
end
abbrev Sp := List V → Hp → VK → XK → Prop
abbrev CXT := List Env → Hp → Shared → XK → Value → Shared → Prop
structure wV (P : Program) (w : World) (K : PySem.W.Frag) (mg : Str → Option Value) (base : Heap) (A : Around) (outer : List Env) (s : Shared) (H : Hp) : Prop where
  frames : A.frames = some outer
  mod : Mod K mg base
  bs : ∀ b o, base.get? b = some o → s.heap.get? b = some o ∧ H b = none
  bsz : base.objs.size ≤ s.heap.objs.size
  lU : s.heap.FunFrames base outer
  frf : ∀ b ∈ frs outer, H b = none
  hok : HOk P w H s.heap
  bare : AllBare s.gens
def CE (outer : List Env) (P : Program) (w : World) (H : Hp) (s : Shared) (Q : VK) (u : Value) (s' : Shared) : Prop :=
  ∃ v H', s'.os = s.os ∧ AllBare s'.gens ∧ Un (frs outer) [] H H' s.heap s'.heap ∧ HOk P w H' s'.heap ∧ RelV v u ∧ Q v H'
def CR (CX : CXT) (outer : List Env) (P : Program) (w : World) (H : Hp) (s : Shared) (Q : VK) (E : XK) (r : Result) (s' : Shared) : Prop :=
  match r with
  | .ok (.ret u) => CE outer P w H s Q u s'
  | .ok _ => False
  | .error e => CX outer H s E e s'
structure bU (P : Program) (w : World) (K : PySem.W.Frag) (mg : Str → Option Value) (base : Heap) (CX : CXT) (k : Nat) (f : Addr) (fd : FuncData) (ps : List Str) (sp : Sp) : Prop where
  len : ∀ vs H Q E, sp vs H Q E → vs.length = ps.length
  run : ∀ (A : Around) (outer : List Env) (s : Shared) (H : Hp) (args : Args) (us : List Value) (vs : List V) (Q : VK) (E : XK), dO k A → wV P w K mg base A outer s H → BindsTo s fd args (ps.zip us) → Vals vs us → sp vs H Q E →
    codeAny (model P w) A (.call (.ref f) args) (CR CX outer P w H s Q E) s
section
variable {X : Cx} {pins : List (Addr × Obj)} {σ : St} {H : Hp} {s s' : Shared}
theorem Inv.D1 (I : Inv X pins σ H s) : wV X.prog X.w X.K X.mg X.base X.A X.stack s H :=
  ⟨I.ok.frames, I.ok.mod, I.bs, Nat.le_trans I.ok.bsz I.sz, I.stack, I.jN, I.hok, I.bare⟩
theorem Inv.after {Q : VK} {u : Value} (I : Inv X pins σ H s) (h : CE X.stack X.prog X.w H s Q u s') : EP X pins σ Q u s' := by
  obtain ⟨v, H', os, bare, un, hok, r, q⟩ := h
  obtain ⟨hh, g, d, t, os'⟩ := s'
  obtain rfl : os' = s.os := os
  exact ⟨v, H', I.call (h' := hh) (g' := g) (d' := d) (t' := t) (ch := []) un hok bare (fun b z => absurd z (by simp)), r, q⟩
end
def HW (sp : Sp) (dvs : List V) (E : XK) (t : TA) : TE := fun σ H Q => t σ H fun vs H1 => sp (vs ++ dvs) H1 Q E
def Binds (K : PySem.W.Frag) (fd : FuncData) (ps : List Str) (ds : List Value) : Prop :=
  ∀ (s : Shared) (us : List Value), K.In s.heap → (us ++ ds).length = ps.length → BindsTo s fd ⟨us, []⟩ (ps.zip (us ++ ds))
theorem Binds.all {K : PySem.W.Frag} {fd : FuncData} {ps : List Str} (h : ∀ us : List Value, us.length = ps.length → bindArgs fd ⟨us, []⟩ = pure (ps.zip us)) : Binds K fd ps [] := fun s us _ hl => by
  rw [List.append_nil] at hl ⊢
  exact .of_eq (h us hl)
def Passes (CX : CXT) (X : Cx) (E : XK) : Prop := ∀ (pins : List (Addr × Obj)) (σ : St) (H : Hp) (s : Shared) (e : Value) (s' : Shared), Inv X pins σ H s → CX X.stack H s E e s' → X.xe e s'
section
variable {X : Cx} {CX : CXT} {k : Nat} {f C : Addr} {fd : FuncData} {ps : List Str} {sp : Sp} {dvs : List V} {ds : List Value} {E : XK} {x m : Str} {p pos apos : Pos} {e o : Expr} {es : List Expr} {ta : TE} {t : TA}
theorem Hj {pins : List (Addr × Obj)} {σ : St} {H : Hp} {s : Shared} {Q : VK} {us : List Value} {vs : List V} (F : bU X.prog X.w X.K X.mg X.base CX k f fd ps sp) (hr : dO k X.A) (hb : Binds X.K fd ps ds) (hd : Vals dvs ds) (hx : Passes CX X E)
    (I : Inv X pins σ H s) (r : Vals vs us) (h : sp (vs ++ dvs) H Q E) : wpAny (model X.prog X.w) X.A (call (.ref f) us) (EP X pins σ Q) X.xe s := by
  have r2 : Vals (vs ++ dvs) (us ++ ds) := r.append hd
  have hl : (us ++ ds).length = ps.length := by rw [← r2.length]; exact F.len _ _ _ _ h
  refine wpAny_call (codeAny_mono (F.run X.A X.stack s H ⟨us, []⟩ (us ++ ds) (vs ++ dvs) Q E hr I.D1 (hb s us I.kIn hl) r2 h) fun r s' hq => ?_)
  cases r with
  | error e => exact hx pins σ H s e s' I hq
  | ok fl =>
    cases fl with
    | ret u => exact I.after hq
    | next => exact False.elim hq
    | brk => exact False.elim hq
    | cont => exact False.elim hq
theorem zK (F : bU X.prog X.w X.K X.mg X.base CX k f fd ps sp) (hr : dO k X.A) (hg : Gl X x) (hm : X.mg x = some (.ref f)) (hk : PySem.W.keepIn X.K (.ref f) = true) (hb : Binds X.K fd ps ds) (hd : Vals dvs ds) (hx : Passes CX X E)
    (ha : PA X (e :: es) t) (hdb : (x == ("__debug__" : Str)) = false := by decide) (he : starEach (e :: es) X.env = (false, eval e X.env) :: starEach es X.env := by rfl) (hpl : (backTo pos (starEach es X.env)).any (·.1) = false := by rfl) :
    PE X (.Call (.Name x p) (e :: es) [] pos) (HW sp dvs E t) := by
  intro pins s σ H Q I h
  refine wpAny_Call_Name_kw (ll I hg hm ?_ hdb)
  refine PySem.W.callWith_K (h₀ := X.base) I.ok.mod.kin hk (thn (ha pos pins s σ H _ I h) fun us s1 ⟨vs, H1, I1, r, q⟩ => ⟨I1.kIn, ?_⟩) he hpl
  exact Hj F hr hb hd hx I1 r q
end
section
variable {X : Cx} {CX : CXT} {k : Nat} {f C : Addr} {fd : FuncData} {ps ks : List Str} {sp : Sp} {E : XK} {x m : Str} {p pos apos kpos : Pos} {e o : Expr} {es : List Expr} {kws : List Keyword} {te ta : TE} {t tk : TA} {nm : Option Str}
variable {g : List Value → List Value → List Value} {gV : List V → List V → List V}
end
structure aN (N P : List Str) (sc : Scope) : Prop where
  kind : sc.kind = .function
  co : sc.isCoroutine = false
  gen : sc.isGenerator = false
  nd : N.Nodup
  pre : N.take P.length = P
  par : ∀ x ∈ P, sc.names.lookup x = some .local ∨ sc.names.lookup x = some .cell
  FA : ∀ y ∈ sc.names, y.2 ≠ .free
theorem sV {kindOf : Str → Option NameKind} {x : Str} : ∀ {binds : List (Str × Value)} {m : Str → Option Value}, (∀ v, (x, v) ∉ binds) → bindL kindOf binds m x = m x
  | [], _, _ => rfl
  | (n, v) :: r, m, h => by
    unfold bindL
    rw [sV fun w hw => h w (List.mem_cons_of_mem _ hw)]
    split
    · have : x ≠ n := by rintro rfl; exact h v List.mem_cons_self
      simp [this]
    · rfl
theorem sU {kindOf : Str → Option NameKind} {x : Str} : ∀ {binds : List (Str × Value)} {m : Str → Option Value}, (∀ v, (x, v) ∉ binds) → bindC kindOf binds m x = m x
  | [], _, _ => rfl
  | (n, v) :: r, m, h => by
    unfold bindC
    rw [sU fun w hw => h w (List.mem_cons_of_mem _ hw)]
    split
    · rfl
    · have : x ≠ n := by rintro rfl; exact h v List.mem_cons_self
      simp [this]
theorem tm {kindOf : Str → Option NameKind} {x : Str} {v : Value} : ∀ {P : List Str} {vs : List Value} {i : Nat} {m : Str → Option Value}, P.Nodup → P[i]? = some x → vs[i]? = some v → kindOf x = some .local →
    bindL kindOf (P.zip vs) m x = some v
  | [], _, _, _, _, h, _, _ => by simp at h
  | _ :: _, [], _, _, _, _, h, _ => by simp at h
  | p :: P, w :: vs, 0, m, nd, h1, h2, hk => by
    simp at h1 h2; subst h1; subst h2
    show bindL kindOf ((p, w) :: P.zip vs) m p = _
    unfold bindL
    rw [sV fun v hv => (List.nodup_cons.mp nd).1 (List.of_mem_zip hv).1, if_pos hk]
    simp
  | p :: P, w :: vs, i + 1, m, nd, h1, h2, hk => by
    show bindL kindOf ((p, w) :: P.zip vs) m x = _
    unfold bindL
    exact tm (i := i) (List.nodup_cons.mp nd).2 (by simpa using h1) (by simpa using h2) hk
theorem sP {kindOf : Str → Option NameKind} {x : Str} {v : Value} : ∀ {P : List Str} {vs : List Value} {i : Nat} {m : Str → Option Value}, P.Nodup → P[i]? = some x → vs[i]? = some v → kindOf x ≠ some .local →
    bindC kindOf (P.zip vs) m x = some v
  | [], _, _, _, _, h, _, _ => by simp at h
  | _ :: _, [], _, _, _, _, h, _ => by simp at h
  | p :: P, w :: vs, 0, m, nd, h1, h2, hk => by
    simp at h1 h2; subst h1; subst h2
    show bindC kindOf ((p, w) :: P.zip vs) m p = _
    unfold bindC
    rw [sU fun v hv => (List.nodup_cons.mp nd).1 (List.of_mem_zip hv).1, if_neg hk]
    simp
  | p :: P, w :: vs, i + 1, m, nd, h1, h2, hk => by
    show bindC kindOf ((p, w) :: P.zip vs) m x = _
    unfold bindC
    exact sP (i := i) (List.nodup_cons.mp nd).2 (by simpa using h1) (by simpa using h2) hk
def start (N : List Str) (vs : List V) : St := vs.map some ++ List.replicate (N.length - vs.length) none
def i7 (CX : CXT) (P : Program) (w : World) (K : PySem.W.Frag) (mg : Str → Option Value) (base : Heap) (N : List Str) (qual : Str) (scope : Scope) (f : Addr) (cd : Value) (A : Around) (outer : List Env) (s : Shared) (H : Hp) (E : XK) : Cx where
  prog := P
  w := w
  K := K
  mg := mg
  base := base
  A := A.deeper (envOfC qual scope s.heap.objs.size f cd)
  N := N
  s₀ := s
  H₀ := H
  env := envOfC qual scope s.heap.objs.size f cd
  outer := outer
  stack := envOfC qual scope s.heap.objs.size f cd :: outer
  ex := []
  calm := true
  fn := fun _ => true
  pn := []
  xe := fun e s' => wpAny (model P w) (A.deeper (envOfC qual scope s.heap.objs.size f cd)) (leaving (envOfC qual scope s.heap.objs.size f cd) e) (fun _ s'' => CX outer H s E e s'') (fun e' s'' => CX outer H s E e' s'') s'
theorem v7 {sc : Scope} {n : Nat} {x : Str} (h : sc.names.lookup x = some .cell) : ∃ c, (cellsFrom n sc.names []).lookup x = some c := by
  have q := PySem.W.cellsFrom_some sc.names n [] (.inl h)
  exact Option.isSome_iff_exists.mp q
theorem sO {CX : CXT} {P : Program} {w : World} {K : PySem.W.Frag} {mg : Str → Option Value} {base : Heap} {N ps : List Str} {qual : Str} {scope : Scope} {f : Addr} {cd : Value} {A : Around} {outer : List Env} {s s1 : Shared} {H : Hp} {E : XK} {us : List Value} {vs : List V}
    (S : aN N ps scope) (hd : A.handled = none) (e0 : wV P w K mg base A outer s H) (hl : vs.length = ps.length) (r : Vals vs us)
    (x : InCallC s s.heap.objs.size (bindL (envOfC qual scope s.heap.objs.size f cd).kindOf (ps.zip us) fun _ => none) (cellsFrom (s.heap.objs.size + 1) scope.names []) (bindC (envOfC qual scope s.heap.objs.size f cd).kindOf (ps.zip us) fun _ => none) s1) :
    Inv (i7 CX P w K mg base N qual scope f cd A outer s H E) [] (start N vs) H s1 := by
  have hpl : ps.length ≤ N.length := by have := congrArg List.length S.pre; rw [List.length_take] at this; omega
  obtain ⟨h1, tk, rfl, hk⟩ := x.done
  have noA : ∀ b : Addr, b ∉ (i7 CX P w K mg base N qual scope f cd A outer s H E).ex := fun b z => absurd (show b ∈ ([] : List Addr) from z) (by simp)
  refine ⟨⟨e0.mod, S.kind, rfl, rfl, Nat.le_refl _, fun y z c h1 h2 => ?_, fun y hy => ?_, fun y c _ h => ?_, fun _ => hd, .inl hd, Around.frames_deeper e0.frames, .inr ⟨rfl, rfl⟩, fun b z => absurd z (noA b), e0.bs, e0.bsz, fun b _ _ => noA b, fun b z => absurd z (noA b), e0.lU, e0.frf⟩,
    rfl, e0.bare, Un.kept hk, ⟨_, x.toInCall.ns, fun i y v h1 h2 h3 => ?_⟩, fun y c h => ⟨_, x.cell y c h⟩, e0.hok.fresh (Nat.le_refl _), fun y c h => ?_, fun p hp => absurd (show p ∈ ([] : List (Addr × Obj)) from hp) (by simp), e0.hok.kept hk, ?_⟩
  · exact name_of_addr x.apart (PySem.mem_of_lookup h1) (PySem.mem_of_lookup h2)
  · have hy : scope.names.lookup y = some .cell ∨ scope.names.lookup y = some .free := hy
    rcases hy with hy | hy
    · exact v7 hy
    · exact absurd rfl (S.FA _ (PySem.mem_of_lookup hy))
  · exact Nat.le_of_lt (x.above y c (PySem.mem_of_lookup h))
  · have hi : i < vs.length := by
      unfold start at h2
      by_cases hi : i < vs.length
      · exact hi
      · rw [List.getElem?_append_right (by simpa using hi)] at h2
        rw [List.getElem?_replicate] at h2
        split at h2 <;> cases h2
    have ha : vs[i]? = some v := by
      unfold start at h2
      rw [List.getElem?_append_left (by simpa using hi), List.getElem?_map] at h2
      cases e : vs[i]? with
      | none => rw [e] at h2; cases h2
      | some a => rw [e] at h2; cases h2; rfl
    obtain ⟨u, hu, rv⟩ := r.get ha
    have hp : ps[i]? = some y := by
      rw [← S.pre, List.getElem?_take_of_lt (by omega)]; exact h1
    have ndP : ps.Nodup := by rw [← S.pre]; exact S.nd.sublist (List.take_sublist _ _)
    refine ⟨u, rv, ?_⟩
    rcases S.par y (List.mem_of_getElem? hp) with k | k
    · exact .inl ⟨k, tm ndP hp hu k⟩
    · obtain ⟨c, e⟩ := v7 (n := s.heap.objs.size + 1) k
      refine .inr ⟨.inl k, c, e, ?_⟩
      have q := x.cell y c e
      rw [sP ndP hp hu (by show scope.names.lookup y ≠ _; rw [k]; decide)] at q
      exact q
  · exact e0.hok.fresh (Nat.le_of_lt (x.above y c (PySem.mem_of_lookup h)))
  · unfold start
    show _ = N.length
    rw [List.length_append, List.length_map, List.length_replicate]
    omega
theorem AS {CX : CXT} {P : Program} {w : World} {K : PySem.W.Frag} {mg : Str → Option Value} {base : Heap} {k : Nat} {f : Addr} {name qual : Str} {params : Arguments} {body : List Stmt} {scope : Scope} {dV kV doc pm cdv ct oc : Value} {an od : Option Addr}
    {osl : Array (Option Value)} {N ps : List Str} {sp : Sp} (lk : K.lookup f = some ⟨oc, od, .func (PySem.W.fnOf name qual params body scope dV kV doc pm an cdv ct), osl⟩) (hcd : PySem.W.codeIn K cdv qual = true) (S : aN N ps scope)
    (len : ∀ vs H Q E, sp vs H Q E → vs.length = ps.length)
    (hbody : ∀ (A : Around) (outer : List Env) (s : Shared) (H : Hp) (vs : List V) (Q : VK) (E : XK), dO k (A.deeper (envOfC qual scope s.heap.objs.size f cdv)) → sp vs H Q E →
      ∃ t, PSs (i7 CX P w K mg base N qual scope f cdv A outer s H E) body t ∧ t { nx := fun _ H' => Q .non H', rt := Q } (start N vs) H) :
    bU P w K mg base CX (k + 1) f (PySem.W.fnOf name qual params body scope dV kV doc pm an cdv ct) ps sp := by
  refine ⟨len, fun A outer s H args us vs Q E hr e0 hb r hsp => ?_⟩
  have hl := len _ _ _ _ hsp
  have KX : K.In s.heap := e0.mod.kin.keeps fun b o e => (e0.bs b o e).1
  have lim : s.heap.NoLimit := e0.mod.nolimit.keeps fun b o e => (e0.bs b o e).1
  have hkind : ∀ y ∈ ps.zip us, scope.names.lookup y.1 = some .local ∨ (scope.names.lookup y.1 = some .cell ∧ ((cellsFrom (s.heap.objs.size + 1) scope.names []).lookup y.1).isSome = true) := fun ⟨n, v⟩ hy => by
    rcases S.par n (List.of_mem_zip hy).1 with q | q
    · exact .inl q
    · exact .inr ⟨q, PySem.W.cellsFrom_some _ _ _ (.inl q)⟩
  refine codeAny_call_function hr.depth (KX _ _ lk) rfl S.co S.gen rfl (PySem.W.codeRec_of KX hcd) (hb _ _ _ _ ?_)
  refine wpAny_newFunctionEnv_cells S.kind hkind fun env he s1 x => ?_
  subst he
  refine ⟨lim.keeps x.toInCall.keep, codeAny_func ?_⟩
  obtain ⟨t, ht, hq⟩ := hbody A outer s H vs Q E (hr.deeper _) hsp
  have I : Inv (i7 CX P w K mg base N qual scope f cdv A outer s H E) [] (start N vs) H s1 := sO S hr.hd e0 hl r x
  refine wpAny_mono (ht [] s1 (start N vs) H _ I hq) (fun fl s' hs => ?_) fun e s' hs => hs
  have fin : ∀ {σ' : St} {H' : Hp} {v : V} {u : Value}, Inv (i7 CX P w K mg base N qual scope f cdv A outer s H E) [] σ' H' s' → RelV v u → Q v H' → CE outer P w H s Q u s' :=
    fun {σ' H' v u} J rv q => ⟨v, H', J.os, J.bare, J.base, J.hok, rv, q⟩
  cases fl with
  | ret u =>
    obtain ⟨v, σ', H', J, rv, q⟩ := hs
    exact fin J rv q
  | next =>
    obtain ⟨σ', H', J, q⟩ := hs
    exact fin (v := V.non) (u := Value.none) J rfl q
  | brk =>
    obtain ⟨_, _, _, q⟩ := hs
    exact False.elim q
  | cont =>
    obtain ⟨_, _, _, q⟩ := hs
    exact False.elim q
end L2
namespace L2
open PySem PySem.Spec PyProof.Rows
section
variable {X : Cx} {x : Str} {p pos : Pos} {e : Expr} {es : List Expr} {t : TA} {id T : String} {r : List V → Hp → VK → Prop}
def tCB (r : List V → Hp → VK → Prop) (t : TA) : TE := fun σ H Q => t σ H fun vs H1 => r vs H1 Q
theorem ng (hc : eV X (.builtin id) r) (hg : Gl X x) (hm : X.mg x = none) (hv : bootBuiltins x = some (.builtin id)) (ha : PA X (e :: es) t) (hn : x ≠ "__name__" := by decide) (hdb : (x == ("__debug__" : Str)) = false := by decide)
    (he : starEach (e :: es) X.env = (false, eval e X.env) :: starEach es X.env := by rfl) (hpl : (backTo pos (starEach es X.env)).any (·.1) = false := by rfl) : PE X (.Call (.Name x p) (e :: es) [] pos) (tCB r t) := by
  intro pins s σ H Q I h
  refine wpAny_Call_Name_kw (rN I hg hm hv ?_ hn hdb)
  exact PyProof.Rows.callWith_builtin1 (thn (ha pos pins s σ H _ I h) fun us s1 ⟨vs, H1, I1, r1, q1⟩ => hc pins s1 σ H1 vs us Q I1 r1 q1) he hpl
theorem Aa (hc : eV X (.type T) r) (hg : Gl X x) (hm : X.mg x = none) (hv : bootBuiltins x = some (.type T)) (ha : PA X (e :: es) t) (hn : x ≠ "__name__" := by decide) (hdb : (x == ("__debug__" : Str)) = false := by decide)
    (he : starEach (e :: es) X.env = (false, eval e X.env) :: starEach es X.env := by rfl) (hpl : (backTo pos (starEach es X.env)).any (·.1) = false := by rfl) : PE X (.Call (.Name x p) (e :: es) [] pos) (tCB r t) := by
  intro pins s σ H Q I h
  refine wpAny_Call_Name_kw (rN I hg hm hv ?_ hn hdb)
  exact PyProof.Rows.callWith_type1 (thn (ha pos pins s σ H _ I h) fun us s1 ⟨vs, H1, I1, r1, q1⟩ => hc pins s1 σ H1 vs us Q I1 r1 q1) he hpl
end
end L2
namespace HT
open PySem PyProof.Rows
section
open PySem.SeqAt
open PySem.AutoSeq1 (wpAny_loadPart')
open PySem.MeetsSeq PySem.MeetsSeq2 PySem.MeetsSeq3
end
section
variable {prog : Program} {w : World} {A : Around} {E : Value → Shared → Prop} {s : Shared}
theorem Ed {t b : Addr} {vs ws : List Value} {Q : Value → Shared → Prop} (ht : IsTup s.heap t vs.toArray) (hb : IsTup s.heap b ws.toArray) (hv : vs ≠ [])
    (h1 : ws = [] → Q (.ref t) s) (h2 : ws ≠ [] → Q (.ref s.heap.objs.size) { s with heap := s.heap.push { cls := .type "tuple", data := .seq (vs ++ ws).toArray } })
    (hsz : vs.length + ws.length ≤ sizeLine) : wpAny (model prog w) A (binaryOp .Add (.ref t) (.ref b)) Q E s := by
  obtain ⟨⟨cls, dd, data, sl⟩, ho, hc, n, hd⟩ := id ht
  obtain ⟨⟨cls2, dd2, data2, sl2⟩, ho2, hc2, n2, hd2⟩ := id hb
  simp only at hc hd hc2 hd2
  subst hc hd hc2 hd2
  have e : vs.toArray ++ ws.toArray = (vs ++ ws).toArray := by simp
  by_cases hw : ws = []
  · exact concat_meets ⟨_, ho, rfl⟩ ⟨_, ho2, rfl⟩ noFill_tuple_add seq_tuple_add PySem.F.slot_tuple_add PySem.F.entry_tuple_add (PySem.F.args_tuple_add_2 _ _)
      (tuple_addW1 t b vs.toArray ws.toArray n n2 dd dd2 sl sl2 (by simpa using hv) (by simp [hw])) ⟨ho, ho2, h1 hw⟩
  · refine concat_meets ⟨_, ho, rfl⟩ ⟨_, ho2, rfl⟩ noFill_tuple_add seq_tuple_add PySem.F.slot_tuple_add PySem.F.entry_tuple_add (PySem.F.args_tuple_add_2 _ _)
      (tuple_addW2 t b vs.toArray ws.toArray n n2 dd dd2 sl sl2 (by simpa using hv) (by simpa using hw) (by rw [List.size_toArray, List.size_toArray]; exact hsz)) ⟨ho, ho2, ?_⟩
    rw [e]
    exact h2 hw
def sIx (n d : Nat) : Option Int → Nat
  | none => d
  | some v => if v < 0 then (v + (n : Int)).toNat else min v.toNat n
theorem Ga (n d : Nat) (hd : d ≤ n) (o : Option Int) : sIx n d o ≤ n := by
  cases o with
  | none => exact hd
  | some v =>
    show (if v < 0 then (v + (n : Int)).toNat else min v.toNat n) ≤ n
    by_cases hv : v < 0
    · rw [if_pos hv]; omega
    · rw [if_neg hv]; exact Nat.min_le_right _ _
theorem yW (v : Int) (n d : Nat) : (if v < 0 then max (v + (n : Int)) 0 else min v (n : Int)) = ((sIx n d (some v) : Nat) : Int) := by
  show (if v < 0 then max (v + (n : Int)) 0 else min v (n : Int)) = (((if v < 0 then (v + (n : Int)).toNat else min v.toNat n) : Nat) : Int)
  by_cases hv : v < 0
  · simp only [if_pos hv]; omega
  · simp only [if_neg hv]; omega
theorem xH (lo hi : Option Int) (n : Nat) : Builtin.Slice.sliceAdjust lo hi 1 (n : Int) = (((sIx n 0 lo : Nat) : Int), ((sIx n n hi : Nat) : Int)) := by
  have h1 : ¬ ((1 : Int) < 0) := by omega
  unfold Builtin.Slice.sliceAdjust
  simp only [h1, if_false]
  refine Prod.ext ?_ ?_
  · cases lo with
    | none => rfl
    | some v => exact yW v n 0
  · cases hi with
    | none => rfl
    | some v => exact yW v n n
theorem yk (i j : Nat) : Builtin.Slice.slicePlaces (i : Int) (j : Int) 1 = j - i := by
  unfold Builtin.Slice.slicePlaces
  have h1 : (1 : Int) > 0 := by omega
  simp only [h1, if_true, Int.ediv_one]
  split <;> omega
theorem qH {v : Value} {o : Option Int} {Q : Option Int → Shared → Prop} (p : IsPart v o) (h : Q o s) : wpAny (model prog w) A (Builtin.Slice.slicePartIndex v) Q E s := by
  cases p with
  | none => exact slicePart_none h
  | int i t => exact slicePart_int h
theorem js {sl : Addr} {vl vu : Value} {lo hi : Option Int} {n : Nat} {Q : Int × Int × Nat → Shared → Prop} (hs : s.heap.IsSliceOf sl vl vu .none) (pl : IsPart vl lo) (pu : IsPart vu hi)
    (h : Q (((sIx n 0 lo : Nat) : Int), 1, sIx n n hi - sIx n 0 lo) s) : wpAny (model prog w) A (Builtin.Slice.sliceApplied (.ref sl) (pure (n : Int))) Q E s := by
  obtain ⟨os, hos, hcs, hds⟩ := id hs
  unfold Builtin.Slice.sliceApplied Builtin.Slice.sliceFields
  refine wpAny_bind (wpAny_bind (wpAny_field hos hds (x := vl) rfl (wpAny_bind (wpAny_field hos hds (x := vu) rfl (wpAny_bind (wpAny_field hos hds (x := .none) rfl (wpAny_pure ?_)))))))
  refine wpAny_bind (slicePart_none ?_)
  show wpAny _ _ (if ((1 : Int) == 0) = true then _ else _) _ _ s
  rw [if_neg (by decide)]
  refine wpAny_bind (qH pl (wpAny_bind (qH pu (wpAny_bind (wpAny_pure ?_)))))
  show wpAny _ _ (match Builtin.Slice.sliceAdjust lo hi 1 (n : Int) with | (lo, hi) => pure (lo, (1 : Int), Builtin.Slice.slicePlaces lo hi 1)) _ _ s
  rw [xH lo hi n]
  show wpAny _ _ (pure (((sIx n 0 lo : Nat) : Int), (1 : Int), Builtin.Slice.slicePlaces ((sIx n 0 lo : Nat) : Int) ((sIx n n hi : Nat) : Int) 1)) _ _ s
  rw [yk]
  exact wpAny_pure h
theorem A9 (xs : Array Value) (i k : Nat) : ((List.range k).filterMap fun (m : Nat) => xs[((i : Int) + (m : Int) * 1).toNat]?).toArray = ((xs.toList.drop i).take k).toArray := by
  have e : (fun (m : Nat) => xs[((i : Int) + (m : Int) * 1).toNat]?) = fun m => xs[i + m]? := by
    funext m
    have : ((i : Int) + (m : Int) * 1).toNat = i + m := by omega
    rw [this]
  rw [e]
  have := pick_run xs i k
  rw [List.filterMap_map] at this
  have e2 : ((fun x => xs[x]?) ∘ fun x => i + x) = fun m => xs[i + m]? := rfl
  rw [e2] at this
  rw [this]
theorem nJ {t sl : Addr} {items : Array Value} {vl vu : Value} {lo hi : Option Int} {Q : Value → Shared → Prop} (ht : IsTup s.heap t items) (hs : s.heap.IsSliceOf sl vl vu .none) (pl : IsPart vl lo) (pu : IsPart vu hi)
    (hw : ¬ (sIx items.size 0 lo = 0 ∧ sIx items.size items.size hi = items.size))
    (h : Q (.ref s.heap.objs.size) { s with heap := s.heap.push { cls := .type "tuple", data := .seq ((items.toList.drop (sIx items.size 0 lo)).take (sIx items.size items.size hi - sIx items.size 0 lo)).toArray } })
    (hsz : items.size ≤ sizeLine) : wpAny (model prog w) A (getItem (.ref t) (.ref sl)) Q E s := by
  have htake : sizeOk (.seq ((items.toList.drop (sIx items.size 0 lo)).take (sIx items.size items.size hi - sIx items.size 0 lo)).toArray) := by
    show ((items.toList.drop (sIx items.size 0 lo)).take (sIx items.size items.size hi - sIx items.size 0 lo)).toArray.size ≤ sizeLine
    rw [List.size_toArray, List.length_take, List.length_drop, Array.length_toList]
    omega
  have hj : sIx items.size items.size hi ≤ items.size := Ga _ _ (Nat.le_refl _) hi
  obtain ⟨os, hos, hcs, hds⟩ := id hs
  have hTs : s.TypeIs (.ref sl) "slice" := ⟨os, hos, hcs⟩
  unfold getItem
  try with_reducible refine wpAny_holding ?_
  first | refine wpAny_bind (wpAny_pure ?_) | skip
  refine wpAny_bind (wpAny_sequenceKey ht.typeIs (by decide) ?_)
  refine wpAny_bind (wpAny_callSpecial?_slot (name := Str.ofString "__getitem__") ht.typeIs PyProof.Rows.slot_tuple_getitem
    (wpAny_call_entry PyProof.Rows.slot_tuple_getitem ht.typeIs entry_tuple_getitem ?_ (args_tuple_getitem _ _)))
  show wpAny _ _ (Builtin.Tuple.tupleItemsOf (.ref t) >>= _) _ _ s
  refine wpAny_bind (tupleItemsOf_ ht ?_)
  refine wpAny_bind (wpAny_typeOf hTs ?_)
  rw [if_pos (by decide)]
  refine wpAny_bind (js hs pl pu ?_)
  have hno : ¬ ((((sIx items.size 0 lo : Nat) : Int) == 0 && (1 : Int) == 1 && (sIx items.size items.size hi - sIx items.size 0 lo) == items.size) = true) := by
    intro q
    rw [Bool.and_eq_true, Bool.and_eq_true] at q
    have q1 : ((sIx items.size 0 lo : Nat) : Int) = 0 := eq_of_beq q.1.1
    have q2 : sIx items.size items.size hi - sIx items.size 0 lo = items.size := eq_of_beq q.2
    exact hw ⟨by omega, by omega⟩
  show wpAny _ _ (if (((sIx items.size 0 lo : Nat) : Int) == 0 && (1 : Int) == 1 && (sIx items.size items.size hi - sIx items.size 0 lo) == items.size) = true then _ else _) _ _ s
  rw [if_neg hno, A9]
  first
    | exact wpAny_bind (m := Builtin.Tuple.tupleExact _) (wpAny_newObj_type (wpAny_pure ⟨_, rfl, wpAny_pure h⟩) htake)
    | exact wpAny_bind (m := Builtin.Tuple.tupleExact _) (wpAny_newObj_type (wpAny_bind (wpAny_pure (wpAny_pure ⟨_, rfl, wpAny_pure h⟩))) htake)
    | exact wpAny_bind (wpAny_bind (m := Builtin.Tuple.tupleExact _) (wpAny_newObj_type (wpAny_pure (wpAny_pure ⟨_, rfl, wpAny_pure h⟩)) htake))
    | exact wpAny_bind (wpAny_bind (m := Builtin.Tuple.tupleExact _) (wpAny_newObj_type (wpAny_pure ⟨_, rfl, wpAny_pure h⟩) htake))
end
end HT
namespace L2
open PySem PySem.Spec PyProof.Rows
abbrev TO := St → Hp → (Option Int → Hp → Prop) → Prop
def PO (X : Cx) (e : Option Expr) (t : TO) : Prop :=
  ∀ (pins : List (Addr × Obj)) (s : Shared) (σ : St) (H : Hp) (Q : Option Int → Hp → Prop), Inv X pins σ H s → t σ H Q →
    wpAny (model X.prog X.w) X.A (evalPart e X.env) (fun u s' => ∃ o H', Inv X pins σ H' s' ∧ IsPart u o ∧ Q o H') X.xe s
def DD : TO := fun _ H Q => Q none H
def Hs (t : TE) : TO := fun σ H Q => t σ H fun x H1 => ∃ i, x = .int i ∧ Q (some i) H1
section
variable {X : Cx} {e : Expr} {te : TE} {lo hi : Option Expr} {tl th : TO} {pos p2 : Pos}
theorem Ea : PO X none DD := by
  intro pins s σ H Q I h
  rw [evalPart_none]
  exact wpAny_pure ⟨none, H, I, .none, h⟩
theorem Dw (h : PE X e te) : PO X (some e) (Hs te) := by
  intro pins s σ H Q I hw
  rw [evalPart_some]
  refine thn (h pins s σ H _ I hw) fun u s1 ⟨x, H1, I1, r1, q1⟩ => ?_
  obtain ⟨i, rfl, q⟩ := q1
  obtain ⟨t, rfl⟩ := r1
  exact ⟨some i, H1, I1, .int i t, q⟩
def SlR (X : Cx) (r : V → Option Int → Option Int → Hp → VK → Prop) : Prop :=
  ∀ (pins : List (Addr × Obj)) (s : Shared) (σ : St) (H : Hp) (x : V) (v vl vu : Value) (lo hi : Option Int) (sl : Addr) (Q : VK), Inv X pins σ H s → RelV x v → s.heap.IsSliceOf sl vl vu .none → IsPart vl lo → IsPart vu hi → r x lo hi H Q →
    ∃ T id, typeLookup (.type T) "__getitem__" = pure (some (.builtin id)) ∧ s.TypeIs v T ∧ wpAny (model X.prog X.w) X.A (getItem v (.ref sl)) (EP X pins σ Q) X.xe s
theorem SlR.or {r r' : V → Option Int → Option Int → Hp → VK → Prop} (h : SlR X r) (h' : SlR X r') : SlR X (fun x lo hi H Q => r x lo hi H Q ∨ r' x lo hi H Q) := by
  intro pins s σ H x v vl vu lo hi sl Q I rx hs pl pu q
  rcases q with q | q
  · exact h pins s σ H x v vl vu lo hi sl Q I rx hs pl pu q
  · exact h' pins s σ H x v vl vu lo hi sl Q I rx hs pl pu q
def tSl (r : V → Option Int → Option Int → Hp → VK → Prop) (te : TE) (tl th : TO) : TE := fun σ H Q => te σ H fun x H1 => tl σ H1 fun l H2 => th σ H2 fun u H3 => r x l u H3 Q
theorem BN {r : V → Option Int → Option Int → Hp → VK → Prop} (hr : SlR X r) (he : PE X e te) (hl : PO X lo tl) (hu : PO X hi th) : PE X (.Subscript e (.Slice lo hi none p2) pos) (tSl r te tl th) := by
  intro pins s σ H Q I h
  refine Subscript_ (thn (he pins s σ H _ I h) fun v s1 ⟨x, H1, I1, r1, q1⟩ => ?_)
  refine wpAny_Slice (thn (hl pins s1 σ H1 _ I1 q1) fun vl s2 ⟨l, H2, I2, pl, q2⟩ => thn (hu pins s2 σ H2 _ I2 q2) fun vu s3 ⟨u, H3, I3, pu, q3⟩ => ?_)
  rw [evalPart_none]
  refine wpAny_pure ?_
  have I4 : Inv X pins σ H3 { s3 with heap := s3.heap.push { cls := .type "slice", data := .fields #[vl, vu, .none] } } := I3.kept (t' := s3.toks) fun b ob q => Heap.get?_push_of_some _ q
  obtain ⟨T, id, hT, ht, hg⟩ := hr pins { s3 with heap := s3.heap.push { cls := .type "slice", data := .fields #[vl, vu, .none] } } σ H3 x v vl vu l u s3.heap.objs.size Q I4 r1 (Heap.IsSliceOf.new ..) pl pu q3
  show wpAny (model X.prog X.w) X.A (subscriptTail e (.Slice lo hi none p2) v (.ref s3.heap.objs.size)) (EP X pins σ Q) X.xe { s3 with heap := s3.heap.push { cls := .type "slice", data := .fields #[vl, vu, .none] } }
  exact tail_any (ops := [.ref s3.heap.objs.size, v]) ht hT hg (by with_unfolding_all rfl)
def tU (xs : List V) (lo hi : Option Int) : List V := (xs.drop (HT.sIx xs.length 0 lo)).take (HT.sIx xs.length xs.length hi - HT.sIx xs.length 0 lo)
theorem ph (xs : List V) (lo hi : Option Int) : (tU xs lo hi).length ≤ xs.length := by
  unfold tU
  rw [List.length_take, List.length_drop]
  omega
def Jc (K : PySem.W.Frag) : V → Option Int → Option Int → Hp → VK → Prop := fun x lo hi H Q => ∃ a xs, x = .ref a ∧ SqT K H a xs ∧
  ¬ (HT.sIx xs.length 0 lo = 0 ∧ HT.sIx xs.length xs.length hi = xs.length) ∧ ∀ p, H p = none → Q (.ref p) (upd H p (.tup (tU xs lo hi)))
theorem Hf : SlR X (Jc X.K) := by
  intro pins s σ H x v vl vu lo hi sl Q I rx hs pl pu h
  obtain ⟨a, xs, rfl, hx, hw, q⟩ := h
  cases rx
  obtain ⟨its, r, ht, hz⟩ := I.tuple hx
  have hlen : its.toArray.size = xs.length := by rw [List.size_toArray]; exact r.length.symm
  refine ⟨"tuple", _, PyProof.Rows.slot_tuple_getitem.lookup, ht.typeIs, ?_⟩
  refine HT.nJ ht hs pl pu (by rw [hlen]; exact hw) ?_ (by rw [hlen]; exact hz)
  rw [hlen]
  refine ⟨.ref s.heap.objs.size, _, I.laid (t' := s.toks) (o := .tup (tU xs lo hi)) (fun b ob q => Heap.get?_push_of_some _ q) (Nat.le_refl _) ?_, rfl, q _ (I.hok.fresh (Nat.le_refl _))⟩
  exact ⟨Nat.le_trans (ph xs lo hi) hz, _, (r.drop (HT.sIx xs.length 0 lo)).take (HT.sIx xs.length xs.length hi - HT.sIx xs.length 0 lo), IsTup.new _ _⟩
def Hl (K : PySem.W.Frag) : R2 := fun x y H Q => ∃ a b xs ys, x = .ref a ∧ y = .ref b ∧ SqT K H a xs ∧ SqT K H b ys ∧ xs ≠ [] ∧ xs.length + ys.length ≤ sizeLine ∧
  (ys = [] → Q (.ref a) H) ∧ (ys ≠ [] → ∀ p, H p = none → Q (.ref p) (upd H p (.tup (xs ++ ys))))
theorem Vals.pU {xs : List V} {us : List Value} (r : Vals xs us) : us = [] ↔ xs = [] := by
  cases r with
  | nil => simp
  | cons _ _ => simp
theorem DH : OpR X (binaryOp .Add) (Hl X.K) := by
  intro pins s σ H x y v u Q I rx ry h
  obtain ⟨a, b, xs, ys, rfl, rfl, ha, hb, hx, hz, q1, q2⟩ := h
  cases rx
  cases ry
  obtain ⟨its, r1, p1, _⟩ := I.tuple ha
  obtain ⟨its2, r2, p2, _⟩ := I.tuple hb
  refine HT.Ed p1 p2 (fun z => hx (r1.pU.mp z)) (fun z => ⟨.ref a, H, I, rfl, q1 (r2.pU.mp z)⟩) (fun z => ?_) (by rw [← r1.length, ← r2.length]; exact hz)
  refine ⟨.ref s.heap.objs.size, _, I.laid (t' := s.toks) (o := .tup (xs ++ ys)) (fun b ob q => Heap.get?_push_of_some _ q) (Nat.le_refl _) ?_, rfl, q2 (fun w => z (r2.pU.mpr w)) _ (I.hok.fresh (Nat.le_refl _))⟩
  exact ⟨by rw [List.length_append]; exact hz, _, r1.append r2, IsTup.new _ _⟩
end
end L2
namespace L2
open PySem PySem.Spec PyProof.Rows
def ixN (n : Nat) (i : Int) : Option Nat := if 0 ≤ i then (if i < n then some i.toNat else none) else if -(n : Int) ≤ i then some (i + n).toNat else none
def atI {α : Type} (xs : List α) (i : Int) : Option α := (ixN xs.length i).bind fun j => xs[j]?
theorem zk {n : Nat} {i : Int} {j : Nat} (h : ixN n i = some j) : seqIndex? i n = some j ∧ j < n ∧ -(n : Int) ≤ i ∧ i < n := by
  unfold ixN at h
  by_cases h0 : 0 ≤ i
  · rw [if_pos h0] at h
    by_cases h1 : i < n
    · rw [if_pos h1] at h
      have e : i.toNat = j := Option.some.inj h
      exact ⟨by rw [seqIndex_of h0 h1, e], by omega, by omega, h1⟩
    · rw [if_neg h1] at h; cases h
  · rw [if_neg h0] at h
    by_cases h1 : -(n : Int) ≤ i
    · rw [if_pos h1] at h
      have e : (i + n).toNat = j := Option.some.inj h
      exact ⟨by rw [seqIndex_neg (by omega) h1, e], by omega, h1, by omega⟩
    · rw [if_neg h1] at h; cases h
theorem vx {α : Type} {xs : List α} {i : Int} {v : α} (h : atI xs i = some v) : ∃ j, seqIndex? i xs.length = some j ∧ xs[j]? = some v ∧ j < xs.length ∧ -(xs.length : Int) ≤ i ∧ i < xs.length := by
  unfold atI at h
  cases e : ixN xs.length i with
  | none => rw [e] at h; cases h
  | some j =>
    rw [e] at h
    obtain ⟨h1, h2, h3, h4⟩ := zk e
    exact ⟨j, h1, h, h2, h3, h4⟩
theorem pZ {α : Type} {xs : List α} {j : Nat} {v : α} (h : xs[j]? = some v) : atI xs (j : Int) = some v := by
  have hj : j < xs.length := (List.getElem?_eq_some_iff.mp h).1
  have e : ixN xs.length (j : Int) = some j := by
    unfold ixN
    rw [if_pos (by omega), if_pos (by omega)]; simp
  unfold atI; rw [e]; exact h
def uJ (b : Expr) : Prop := ∀ o i, subscripted b false o i = operate [o, i] (getItem o i)
def IxR (X : Cx) (r : R2) : Prop :=
  ∀ (value slice : Expr) (pins : List (Addr × Obj)) (s : Shared) (σ : St) (H : Hp) (x y : V) (v u : Value) (Q : VK), Inv X pins σ H s → RelV x v → RelV y u → r x y H Q →
    subscripted slice false v u = operate [v, u] (getItem v u) → wpAny (model X.prog X.w) X.A (subscriptTail value slice v u) (EP X pins σ Q) X.xe s
def MtR (X : Cx) (id : String) (r : V → List V → Hp → VK → Prop) : Prop :=
  ∀ (pins : List (Addr × Obj)) (s : Shared) (σ : St) (H : Hp) (x : V) (xs : List V) (v : Value) (us : List Value) (Q : VK), Inv X pins σ H s → RelV x v → Vals xs us → r x xs H Q →
    wpAny (model X.prog X.w) X.A (call (.builtin id) (v :: us)) (EP X pins σ Q) X.xe s
section
variable {X : Cx} {a b : Expr} {ta tb : TE} {pos : Pos}
theorem IxR.or {r r' : R2} (h : IxR X r) (h' : IxR X r') : IxR X (fun x y H Q => r x y H Q ∨ r' x y H Q) := by
  intro value slice pins s σ H x y v u Q I rx ry q hs
  rcases q with q | q
  · exact h value slice pins s σ H x y v u Q I rx ry q hs
  · exact h' value slice pins s σ H x y v u Q I rx ry q hs
theorem MtR.or {id : String} {r r' : V → List V → Hp → VK → Prop} (h : MtR X id r) (h' : MtR X id r') : MtR X id (fun x xs H Q => r x xs H Q ∨ r' x xs H Q) := by
  intro pins s σ H x xs v us Q I rx rs q
  rcases q with q | q
  · exact h pins s σ H x xs v us Q I rx rs q
  · exact h' pins s σ H x xs v us Q I rx rs q
theorem ET {r : R2} (hr : IxR X r) (ha : PE X a ta) (hb : PE X b tb) (hs : uJ b) : PE X (.Subscript a b pos) (tOp r ta tb) := by
  intro pins s σ H Q I h
  exact Subscript_ (GF ha hb I h fun v u s2 x y H2 I2 rx ry q => hr a b pins s2 σ H2 x y v u Q I2 rx ry q (hs _ _))
def HQ (K : PySem.W.Frag) : R2 := fun x y H Q => ∃ p xs i v, x = .ref p ∧ y = .int i ∧ SqL K H p xs ∧ atI xs i = some v ∧ Q v H
def ID (K : PySem.W.Frag) : R2 := fun x y H Q => ∃ p xs i v, x = .ref p ∧ y = .int i ∧ SqT K H p xs ∧ atI xs i = some v ∧ Q v H
def IA : R2 := fun x y H Q => ∃ z i c, x = .str z ∧ y = .int i ∧ z.length ≤ sizeLine ∧ atI z.cps.toList i = some c ∧ Q (.str ⟨#[c]⟩) H
theorem DR : IxR X (HQ X.K) := by
  intro value slice pins s σ H x y v u Q I rx ry h hs
  obtain ⟨p, xs, i, z, rfl, rfl, hq, he, q⟩ := h
  cases rx
  obtain ⟨t, rfl⟩ := ry
  obtain ⟨its, r, pl, hz⟩ := I.list hq
  obtain ⟨j, h1, h2, h3, h4, h5⟩ := vx he
  obtain ⟨w, ew, rw'⟩ := r.get h2
  have hl := r.length
  have hn := qE
  have fin : EP X pins σ Q w s := ⟨z, H, I, rw', q⟩
  by_cases h0 : 0 ≤ i
  · have hj : i.toNat = j := by
      rw [seqIndex_of h0 h5] at h1
      exact Option.some.inj h1
    exact item_listR pl.isList h0 (by omega) (by rw [hj]; simpa using ew) fin hs
  · have hj : (i + (its.toArray.size : Int)).toNat = j := by
      rw [seqIndex_neg (by omega) h4] at h1
      rw [List.size_toArray, ← hl]
      exact Option.some.inj h1
    exact subscriptTail_builtinR (x := w) pl.isList.typeIs slot_list_getitem.lookup
      (wpAny_getItem_list_neg (Q := fun r s' => r = w ∧ EP X pins σ Q r s') pl.isList (by omega) (by rw [List.size_toArray] <;> omega) (by omega) (by rw [hj]; simpa using ew) ⟨rfl, fin⟩) hs
theorem GH : IxR X (ID X.K) := by
  intro value slice pins s σ H x y v u Q I rx ry h hs
  obtain ⟨p, xs, i, z, rfl, rfl, hq, he, q⟩ := h
  cases rx
  obtain ⟨t, rfl⟩ := ry
  obtain ⟨its, r, pl, hz⟩ := I.tuple hq
  obtain ⟨j, h1, h2, h3, h4, h5⟩ := vx he
  obtain ⟨w, ew, rw'⟩ := r.get h2
  have hl := r.length
  have hn := qE
  have fin : EP X pins σ Q w s := ⟨z, H, I, rw', q⟩
  exact subscriptTail_builtinR (x := w) pl.typeIs slot_tuple_getitem.lookup
    (getItem_tuple (j := j) (Q := fun r s' => r = w ∧ EP X pins σ Q r s') pl (by omega) (by omega) (by rw [List.size_toArray, ← hl]; exact h1) (by simpa using ew) ⟨rfl, fin⟩) hs
theorem Fx : IxR X IA := by
  intro value slice pins s σ H x y v u Q I rx ry h hs
  obtain ⟨z, i, c, rfl, rfl, hz, he, q⟩ := h
  obtain ⟨t, rfl⟩ := rx
  obtain ⟨t', rfl⟩ := ry
  obtain ⟨j, h1, h2, h3, h4, h5⟩ := vx he
  have hl : z.cps.toList.length = z.length := by simp [Str.length]
  rw [hl] at h1 h4 h5
  have hn := qE
  exact tail_any (typeIs_str s z t) slot_str_getitem.lookup (getItem_str (c := c) (by
    have e1 : decide (i < -(2 ^ 63 : Int)) = false := decide_eq_false (by omega)
    have e2 : decide (i ≥ 2 ^ 63) = false := decide_eq_false (by omega)
    rw [e1, e2, Bool.or_false]) (by rw [h1]; simpa using h2) ⟨.str ⟨#[c]⟩, H, I.tok _, ⟨_, rfl⟩, q⟩) hs
def rIx (K : PySem.W.Frag) : R2 := fun x y H Q => HQ K x y H Q ∨ ID K x y H Q ∨ IA x y H Q
theorem BA : IxR X (rIx X.K) := DR.or (GH.or Fx)
theorem xQ (its : List Value) (n j : Nat) (u : Value) : Obj.mapSeq (·.setIfInBounds j u) { cls := .type "list", data := .seq its.toArray n } = { cls := .type "list", data := .seq (its.set j u).toArray n } := by
  simp [Obj.mapSeq]
theorem Inv.lst {pins : List (Addr × Obj)} {σ : St} {H : Hp} {s : Shared} {p : Addr} {xs : List V} (I : Inv X pins σ H s) (h : H p = some (.lst xs)) :
    ∃ (its : List Value) (n : Nat), Vals xs its ∧ s.heap.get? p = some { cls := .type "list", data := .seq its.toArray n } ∧ xs.length ≤ sizeLine := by
  obtain ⟨z, its, n, r, e⟩ := I.hok p _ h
  exact ⟨its, n, r, e, z⟩
theorem Inv.G1 {pins : List (Addr × Obj)} {σ : St} {H : Hp} {s : Shared} {p : Addr} {xs ys : List V} {its its' : List Value} {n n' : Nat} {f : Obj → Obj} (I : Inv X pins σ H s) (h : H p = some (.lst xs))
    (ho : s.heap.get? p = some { cls := .type "list", data := .seq its.toArray n }) (hf : f { cls := .type "list", data := .seq its.toArray n } = { cls := .type "list", data := .seq its'.toArray n' }) (r : Vals ys its') (hz : ys.length ≤ sizeLine) (t : Nat) :
    Inv X pins σ (upd H p (.lst ys)) { s with heap := s.heap.update p f, toks := t } := by
  have e : (s.heap.update p f).get? p = some { cls := .type "list", data := .seq its'.toArray n' } := by
    rw [Heap.get?_update_self f ho (by rw [hf] <;> rfl), hf]
  refine I.write (x := p) (e := p) (by rw [h]; trivial) (.inl rfl) (fun b u hb q => (Heap.get?_update_other _ _ (Ne.symm hb)).trans q) ⟨_, e⟩ ?_
  exact ⟨hz, its', n', r, e⟩
def HF : V → V → V → Hp → (Hp → Prop) → Prop := fun o i v H Q => ∃ p xs k j, o = .ref p ∧ i = .int k ∧ H p = some (.lst xs) ∧ ixN xs.length k = some j ∧ Q (upd H p (.lst (xs.set j v)))
theorem set_list : IE X HF := by
  intro pins s σ H o i v ov iv u Q I ro ri rv h
  obtain ⟨p, xs, k, j, rfl, rfl, hp, hj, q⟩ := h
  cases ro
  obtain ⟨t, rfl⟩ := ri
  obtain ⟨its, n, r, ho, hz⟩ := I.lst hp
  obtain ⟨h1, h2, h3, h4⟩ := zk hj
  have hl := r.length
  have hn := qE
  have I' : Inv X pins σ (upd H p (.lst (xs.set j v))) { s with heap := s.heap.update p (Obj.mapSeq (·.setIfInBounds j u)) } :=
    I.G1 hp ho (xQ its n j u) (r.set rv j) (by rw [List.length_set]; exact hz) s.toks
  by_cases h0 : 0 ≤ k
  · have hk : k.toNat = j := by
      rw [seqIndex_of h0 h4] at h1
      exact Option.some.inj h1
    exact PySem.W.ki_setAt ho h0 (by omega) (by rw [List.size_toArray, ← hl]; exact h4) (by rw [hk]; exact ⟨_, I', q⟩)
  · have hk : (k + (its.toArray.size : Int)).toNat = j := by
      rw [seqIndex_neg (by omega) h3] at h1
      rw [List.size_toArray, ← hl]
      exact Option.some.inj h1
    exact PySem.W.ki_setBack ho (by omega) (by rw [List.size_toArray, ← hl]; exact h3) (by omega) (by rw [hk]; exact ⟨_, I', q⟩)
theorem tZ (lo hi : Option Int) (n : Nat) : (sliceBounds lo hi none n).1 = ((HT.sIx n 0 lo : Nat) : Int) ∧ (sliceBounds lo hi none n).2.1 = ((HT.sIx n n hi : Nat) : Int) ∧ (sliceBounds lo hi none n).2.2 = 1 := by
  refine ⟨?_, ?_, rfl⟩
  · cases lo with
    | none => simp [sliceBounds, HT.sIx]
    | some i =>
      simp only [sliceBounds, HT.sIx, Option.getD_none, show (1 : Int) > 0 by decide, if_true]
      by_cases h : i < 0
      · simp only [h, if_true] <;> omega
      · simp only [h, if_false] <;> omega
  · cases hi with
    | none => simp [sliceBounds, HT.sIx]
    | some i =>
      simp only [sliceBounds, HT.sIx, Option.getD_none, show (1 : Int) > 0 by decide, if_true]
      by_cases h : i < 0
      · simp only [h, if_true] <;> omega
      · simp only [h, if_false] <;> omega
theorem rX (its : List Value) (lo hi : Option Int) : slicePick its.toArray lo hi none = ((its.drop (HT.sIx its.length 0 lo)).take (HT.sIx its.length its.length hi - HT.sIx its.length 0 lo)).toArray := by
  obtain ⟨h1, h2, h3⟩ := tZ lo hi its.toArray.size
  unfold slicePick
  rw [h1, h2, h3]
  simp only [sliceRange_one, pick_run, List.size_toArray] <;> rfl
def Jn (K : PySem.W.Frag) : V → Option Int → Option Int → Hp → VK → Prop := fun x lo hi H Q => ∃ a xs, x = .ref a ∧ SqL K H a xs ∧ ∀ p, H p = none → Q (.ref p) (upd H p (.lst (tU xs lo hi)))
theorem Dj : SlR X (Jn X.K) := by
  intro pins s σ H x v vl vu lo hi sl Q I rx hs pl pu h
  obtain ⟨a, xs, rfl, hx, q⟩ := h
  cases rx
  obtain ⟨its, r, ht, hz⟩ := I.list hx
  have hlen := r.length
  refine ⟨"list", _, slot_list_getitem.lookup, ht.isList.typeIs, ?_⟩
  refine wpAny_getItem_list_slice ht.isList hs pl pu .none (by simp) ?_ (by rw [List.size_toArray] <;> omega)
  rw [rX, ← hlen]
  refine ⟨.ref s.heap.objs.size, _, I.laid (t' := s.toks) (o := .lst (tU xs lo hi)) (fun b ob q => Heap.get?_push_of_some _ q) (Nat.le_refl _) ?_, rfl, q _ (I.hok.fresh (Nat.le_refl _))⟩
  exact ⟨Nat.le_trans (ph xs lo hi) hz, _, 0, (r.drop (HT.sIx xs.length 0 lo)).take (HT.sIx xs.length xs.length hi - HT.sIx xs.length 0 lo), Heap.get?_push_size _ rfl⟩
theorem uS : eV X (.builtin "len") (fun xs H Q => ∃ p ys, xs = [.ref p] ∧ (SqL X.K H p ys ∨ SqT X.K H p ys) ∧ Q (.int ys.length) H) := by
  intro pins s σ H xs us Q I r h
  obtain ⟨p, ys, rfl, hq, q⟩ := h
  obtain ⟨u, rfl, rx⟩ := vals1 r
  cases rx
  have hn := qE
  rcases hq with hq | hq
  · obtain ⟨its, r', pl, hz⟩ := I.list hq
    have hlen := r'.length
    exact Calls.call_len_list pl.isList (by simp only [List.size_toArray] <;> omega) ⟨.int ys.length, H, I.tok _, ⟨s.toks + 1, by rw [List.size_toArray, hlen]⟩, q⟩
  · obtain ⟨its, r', pl, hz⟩ := I.tuple hq
    have hlen := r'.length
    exact len_tuple pl (by simp only [List.size_toArray] <;> omega) ⟨.int ys.length, H, I.tok _, ⟨s.toks + 1, by rw [List.size_toArray, hlen]⟩, q⟩
theorem eV.or {f : Value} {r r' : List V → Hp → VK → Prop} (h : eV X f r) (h' : eV X f r') : eV X f (fun xs H Q => r xs H Q ∨ r' xs H Q) := by
  intro pins s σ H xs us Q I rs q
  rcases q with q | q
  · exact h pins s σ H xs us Q I rs q
  · exact h' pins s σ H xs us Q I rs q
theorem ua : eV X (.type "list") (fun xs H Q => ∃ p ys, xs = [.ref p] ∧ (SqL X.K H p ys ∨ SqT X.K H p ys) ∧ ∀ l, H l = none → Q (.ref l) (upd H l (.lst ys))) := by
  intro pins s σ H xs us Q I r h
  obtain ⟨p, ys, rfl, hq, q⟩ := h
  obtain ⟨u, rfl, rx⟩ := vals1 r
  cases rx
  have fin : ∀ (its : List Value), Vals ys its → ys.length ≤ sizeLine → ∀ (h' : Heap) (c' : Nat), (∀ b o', s.heap.get? b = some o' → h'.get? b = some o') →
      h'.get? s.heap.objs.size = some { cls := .type "list", dict := none, data := .seq its.toArray c', slots := #[] } → EP X pins σ Q (.ref s.heap.objs.size) { s with heap := h' } := fun its r' hz h' c' kp e =>
    ⟨.ref s.heap.objs.size, _, I.laid (t' := s.toks) kp (Nat.le_refl _) (show ie X.prog X.w _ h' _ (.lst ys) from ⟨hz, its, c', r', e⟩), rfl, q _ (I.hok.fresh (Nat.le_refl _))⟩
  rcases hq with hq | hq
  · obtain ⟨its, r', pl, hz⟩ := I.list hq
    have hlen := r'.length
    obtain ⟨o, ho, hc, n, hd⟩ := pl.isList
    exact call_list_seq p (.inl rfl) ho hc hd (fun h' c' kp e => fin its r' hz h' c' kp e) (by simp only [List.size_toArray] <;> omega)
  · obtain ⟨its, r', pl, hz⟩ := I.tuple hq
    have hlen := r'.length
    obtain ⟨o, ho, hc, n, hd⟩ := pl
    exact call_list_seq p (.inr rfl) ho hc hd (fun h' c' kp e => fin its r' hz h' c' kp e) (by simp only [List.size_toArray] <;> omega)
theorem sL : eV X (.type "tuple") (fun xs H Q => ∃ p ys, xs = [.ref p] ∧ ((SqL X.K H p ys ∧ ∀ l, H l = none → Q (.ref l) (upd H l (.tup ys))) ∨ (SqT X.K H p ys ∧ Q (.ref p) H))) := by
  intro pins s σ H xs us Q I r h
  obtain ⟨p, ys, rfl, h⟩ := h
  obtain ⟨u, rfl, rx⟩ := vals1 r
  cases rx
  rcases h with ⟨hq, q⟩ | ⟨hq, q⟩
  · obtain ⟨its, r', pl, hz⟩ := I.list hq
    have hlen := r'.length
    refine call_tuple_list pl.isList (fun h' kp => ?_) (by simp only [List.size_toArray] <;> omega)
    have I1 : Inv X pins σ H { s with heap := h' } := I.kept (t' := s.toks) kp
    have I2 : Inv X pins σ (upd H h'.objs.size (.tup ys)) { s with heap := h'.push { cls := .type "tuple", data := .seq its.toArray } } :=
      I1.laid (t' := s.toks) (fun b o e => Heap.get?_push_of_some _ e) (Nat.le_refl _) (show ie X.prog X.w _ _ _ (.tup ys) from ⟨hz, its, r', IsTup.new _ _⟩)
    exact ⟨.ref h'.objs.size, _, I2, rfl, q _ (I1.hok.fresh (Nat.le_refl _))⟩
  · obtain ⟨its, r', pl, hz⟩ := I.tuple hq
    exact call_tuple_same pl ⟨.ref p, H, I, rfl, q⟩
def tyV (K : PySem.W.Frag) (T : String) (x : V) (H : Hp) : Prop := match x with
  | .str _ => T = "str"
  | .int _ => T = "int"
  | .ref p => (T = "list" ∧ ∃ xs, SqL K H p xs) ∨ (T = "tuple" ∧ ∃ o, K.lookup p = some o ∧ o.cls = .type "tuple" ∧ o.dict = none) ∨
      (T = "dict" ∧ ((∃ kvs, H p = some (.dK kvs)) ∨ ∃ kvs, H p = some (.dT kvs))) ∨ (T = "set" ∧ ∃ S n, H p = some (.set S n))
  | _ => False
theorem Fp {pins : List (Addr × Obj)} {σ : St} {H : Hp} {s : Shared} {T : String} {x : V} {v : Value} (I : Inv X pins σ H s) (r : RelV x v) (ty : tyV X.K T x H) :
    s.TypeIs v T ∧ ∀ a, v = .ref a → ∃ ob, s.heap.get? a = some ob ∧ ob.dict = none := by
  cases x with
  | str z =>
    obtain ⟨t, rfl⟩ := r
    cases (show T = "str" from ty)
    exact ⟨typeIs_str s z t, fun _ e => nomatch e⟩
  | int i =>
    obtain ⟨t, rfl⟩ := r
    cases (show T = "int" from ty)
    exact ⟨typeIs_int s i t, fun _ e => nomatch e⟩
  | ref p =>
    cases r
    rcases ty with ⟨rfl, xs, hq⟩ | ⟨rfl, o, hk, hc, hd⟩ | ⟨rfl, hk⟩ | ⟨rfl, S, n, hk⟩
    · obtain ⟨its, _, pl, _⟩ := I.list hq
      refine ⟨pl.isList.typeIs, fun a e => ?_⟩
      cases e
      obtain ⟨o, n, e, c, hd, _⟩ := pl
      exact ⟨o, e, hd⟩
    · refine ⟨⟨o, I.kIn p o hk, hc⟩, fun a e => ?_⟩
      cases e
      exact ⟨o, I.kIn _ o hk, hd⟩
    · have z : ∃ o, s.heap.get? p = some o ∧ o.ExactDict := by
        rcases hk with ⟨kvs, hk⟩ | ⟨kvs, hk⟩
        · obtain ⟨_, _, _, _, o, _, _, e, ex, _⟩ := I.hok p _ hk
          exact ⟨o, e, ex⟩
        · obtain ⟨_, _, _, _, o, _, _, e, ex, _⟩ := I.hok p _ hk
          exact ⟨o, e, ex⟩
      obtain ⟨o, e, ex⟩ := z
      refine ⟨⟨o, e, ex.1⟩, fun a e2 => ?_⟩
      cases e2
      exact ⟨o, e, ex.2.1⟩
    · obtain ⟨o, _, _, _, e, ex, _⟩ := I.hok p _ hk
      refine ⟨⟨o, e, ex.1⟩, fun a e2 => ?_⟩
      cases e2
      exact ⟨o, e, ex.2.1⟩
  | _ => exact False.elim ty
def tBM (K : PySem.W.Frag) (T : String) (r : V → List V → Hp → VK → Prop) (to : TE) (t : TA) : TE := fun σ H Q => to σ H fun x H1 => tyV K T x H1 ∧ t σ H1 fun xs H2 => r x xs H2 Q
variable {o e : Expr} {es : List Expr} {to : TE} {t : TA} {name : Str} {apos cpos : Pos} {T id : String} {r : V → List V → Hp → VK → Prop}
theorem Ex (pa : PlainAttrs T) (slot : Slot T name id) (hty : typeOf (.builtin id) = pure (.type "method_descriptor")) (hm : MtR X id r) (ho : PE X o to) (ha : PA X (e :: es) t)
    (hbase : attributeBase o name X.env (eval o X.env) = eval o X.env := by rfl)
    (hfew : ((backTo cpos (starEach (e :: es) X.env)).all (fun x => !x.1) && (backToKw cpos (keywordEach [] X.env)).all (fun x => x.1.isSome)
      && decide ((e :: es).length + ([] : List Keyword).length + (if ([] : List Keyword).isEmpty then 0 else 1) < 30)) = true := by rfl)
    (hline : (apos.endLine == cpos.line) = true := by rfl) (hs : starEach (e :: es) X.env = (false, eval e X.env) :: starEach es X.env := by rfl) (hplain : (backTo cpos (starEach es X.env)).any (·.1) = false := by rfl) :
    PE X (.Call (.Attribute o name apos) (e :: es) [] cpos) (tBM X.K T r to t) := by
  intro pins s σ H Q I h
  refine wpAny_Call_method_late hbase hfew hline rfl (thn (ho pins s σ H _ I h) fun v s1 ⟨x, H1, I1, r1, ty, q1⟩ => ?_)
  obtain ⟨h1, h2⟩ := Fp I1 r1 ty
  refine ⟨T, id, pa, slot, hty, h1, h2, ?_⟩
  have hA := ha cpos pins s1 σ H1 _ I1 q1
  rw [hs] at hA ⊢
  refine Calls.callWith_builtin (by show (false || (backTo cpos (starEach es X.env)).any (·.1)) = false; rw [hplain] <;> rfl) (Calls.evalArgs_plain ?_)
  exact thn hA fun us s2 ⟨vs, H2, I2, r2, q2⟩ => hm pins s2 σ H2 x vs v us Q I2 r1 r2 q2
end
end L2
namespace L2
open PySem PySem.Spec PyProof.Rows
def MtM (X : Cx) (id : String) (r : V → List V → Hp → VK → Prop) : Prop :=
  ∀ (pins : List (Addr × Obj)) (s : Shared) (σ : St) (H : Hp) (x : V) (xs : List V) (v : Value) (us : List Value) (Q : VK), Inv X pins σ H s → RelV x v → Vals xs us → r x xs H Q →
    wpAny (model X.prog X.w) X.A (call (.builtin id) (v :: us)) (EP X pins σ Q) X.xe s
theorem Vals.one : ∀ {x : V} {us : List Value}, Vals [x] us → ∃ u, us = [u] ∧ RelV x u
  | _, _, .cons r .nil => ⟨_, rfl, r⟩
theorem Vals.two : ∀ {x y : V} {us : List Value}, Vals [x, y] us → ∃ u v, us = [u, v] ∧ RelV x u ∧ RelV y v
  | _, _, _, .cons r (.cons q .nil) => ⟨_, _, rfl, r, q⟩
theorem Vals.dropLast {xs : List V} {us : List Value} (h : Vals xs us) : Vals xs.dropLast us.dropLast := by
  induction h with
  | nil => exact .nil
  | cons r t ih =>
    cases t with
    | nil => exact .nil
    | cons q t' => exact .cons r ih
theorem Vals.eraseIdx : ∀ {xs : List V} {us : List Value} (i : Nat), Vals xs us → Vals (xs.eraseIdx i) (us.eraseIdx i)
  | _, _, _, .nil => .nil
  | _, _, 0, .cons _ t => t
  | _, _, i + 1, .cons r t => .cons r (Vals.eraseIdx i t)
theorem Vals.reverse {xs : List V} {us : List Value} (h : Vals xs us) : Vals xs.reverse us.reverse := by
  induction h with
  | nil => exact .nil
  | cons r t ih => rw [List.reverse_cons, List.reverse_cons]; exact Vals.append ih (.cons r .nil)
theorem Vals.rep {xs : List V} {us : List Value} (h : Vals xs us) : ∀ k : Nat, Vals (List.replicate k xs).flatten (List.replicate k us).flatten
  | 0 => .nil
  | k + 1 => by
    rw [List.replicate_succ, List.replicate_succ, List.flatten_cons, List.flatten_cons]
    exact Vals.append h (Vals.rep h k)
theorem tJ {α : Type} : ∀ (l : List α) (i : Nat), (l.eraseIdx i).length ≤ l.length
  | [], _ => Nat.le_refl _
  | _ :: _, 0 => Nat.le_succ _
  | _ :: r, i + 1 => Nat.succ_le_succ (tJ r i)
theorem foldl_rep (its : List Value) : ∀ (k : Nat) (acc : List Value),
    List.foldl (fun x1 x2 => x1 ++ x2) acc.toArray (List.replicate k its.toArray) = (acc ++ (List.replicate k its).flatten).toArray
  | 0, acc => by simp
  | k + 1, acc => by
    have e : acc.toArray ++ its.toArray = (acc ++ its).toArray := by simp
    have e2 : (acc ++ its) ++ (List.replicate k its).flatten = acc ++ (List.replicate (k + 1) its).flatten := by
      rw [List.replicate_succ, List.flatten_cons, List.append_assoc]
    rw [← e2, ← foldl_rep its k (acc ++ its), ← e, List.replicate_succ, List.foldl_cons]
section
variable {X : Cx} {pins : List (Addr × Obj)} {σ : St} {H : Hp} {s : Shared} {l b : Addr} {xs ys zs : List V}
theorem Inv.FZ {its its' : List Value} {n : Nat} {f : Array Value → Array Value} {t' : Nat} (I : Inv X pins σ H s) (hH : H l = some (.lst xs))
    (e : s.heap.get? l = some { cls := .type "list", data := .seq its.toArray n }) (hf : f its.toArray = its'.toArray) (hv : Vals ys its') (hz : ys.length ≤ sizeLine) :
    Inv X pins σ (upd H l (.lst ys)) { s with heap := s.heap.update l (Obj.mapSeq f), toks := t' } := by
  have q := PySem.IsL.update e f
  rw [hf] at q
  refine I.write (x := l) (e := l) (by rw [hH]; exact trivial) (.inl rfl) (fun b' u hb hu => (Heap.get?_update_other s.heap (Obj.mapSeq f) (Ne.symm hb)).trans hu) ⟨_, q⟩ ?_
  exact ⟨hz, its', _, hv, q⟩
theorem Inv.Jq {its : List Value} {t' : Nat} (I : Inv X pins σ H s) (hv : Vals ys its) (hz : ys.length ≤ sizeLine) :
    Inv X pins σ (upd H s.heap.objs.size (.lst ys)) { s with heap := s.heap.push { cls := .type "list", data := .seq its.toArray }, toks := t' } :=
  I.laid (fun _ _ q => Heap.get?_push_of_some _ q) (Nat.le_refl _) ⟨hz, its, 0, hv, Heap.get?_push_size _ rfl⟩
theorem Inv.fresh (I : Inv X pins σ H s) : H s.heap.objs.size = none := I.hok.fresh (Nat.le_refl _)
theorem Inv.Af (I : Inv X pins σ H s) (hH : H l = some (.lst xs)) : xs.length ≤ sizeLine ∧ ∃ (its : List Value) (n : Nat), Vals xs its ∧ xs.length = its.length ∧ s.heap.get? l = some { cls := .type "list", data := .seq its.toArray n } := by
  obtain ⟨z, its, n, r, e⟩ := I.hok l _ hH
  exact ⟨z, its, n, r, r.length, e⟩
theorem BW {n : Nat} (h : n ≤ sizeLine) : Builtin.List.listTooLong n = false := by
  unfold Builtin.List.listTooLong
  exact decide_eq_false (by omega)
end
section
variable {X : Cx}
def DP : V → List V → Hp → VK → Prop := fun x vs H Q => ∃ l xs y, x = .ref l ∧ vs = [y] ∧ H l = some (.lst xs) ∧ xs.length < sizeLine ∧ Q .non (upd H l (.lst (xs ++ [y])))
theorem hR : MtM X "list.append" DP := by
  intro pins s σ H x vs v us Q I rx rv h
  obtain ⟨l, xs, y, rfl, rfl, hH, hz, q⟩ := h
  cases rx
  obtain ⟨u, rfl, ru⟩ := rv.one
  obtain ⟨z, its, n, r, hl, e⟩ := I.Af hH
  refine call_meets F.slot_list_append ⟨_, e, rfl⟩ F.entry_list_append (F.args_list_append_2 _ _) (PySem.list_append l its.toArray n u (by rw [List.size_toArray]; omega)) ⟨e, ?_⟩
  refine ⟨.non, _, I.FZ (its' := its ++ [u]) hH e (by simp) (r.append (.cons ru .nil)) ?_, rfl, q⟩
  rw [List.length_append, List.length_singleton]
  omega
def DU : V → List V → Hp → VK → Prop := fun x vs H Q => ∃ l b xs zs, x = .ref l ∧ vs = [.ref b] ∧ H l = some (.lst xs) ∧ H b = some (.lst zs) ∧ xs.length + zs.length ≤ sizeLine ∧ Q .non (upd H l (.lst (xs ++ zs)))
theorem Hk : MtM X "list.extend" DU := by
  intro pins s σ H x vs v us Q I rx rv h
  obtain ⟨l, b, xs, zs, rfl, rfl, hH, hB, hz, q⟩ := h
  cases rx
  obtain ⟨u, rfl, ru⟩ := rv.one
  cases ru
  obtain ⟨z, its, n, r, hl, e⟩ := I.Af hH
  obtain ⟨z2, its2, n2, r2, hl2, e2⟩ := I.Af hB
  have hsz : its.toArray.size + its2.toArray.size ≤ sizeLine := by rw [List.size_toArray, List.size_toArray]; omega
  have hlong : ¬ (!its.toArray.isEmpty && Builtin.List.listTooLong (its.toArray.size + its2.toArray.size)) = true := by
    rw [BW hsz, Bool.and_false]
    exact Bool.false_ne_true
  refine call_meets F.slot_list_extend ⟨_, e, rfl⟩ F.entry_list_extend (F.args_list_extend_2 _ _)
    (AutoSeq1.list_extend_list_list_0 l its.toArray n b its2.toArray n2 hlong (by rw [List.size_toArray]; omega) (by omega)) ⟨e, e2, ?_⟩
  refine ⟨.non, _, I.FZ (its' := its ++ its2) hH e (by simp) (r.append r2) ?_, rfl, q⟩
  rw [List.length_append]
  omega
def Gy : V → List V → Hp → VK → Prop := fun x vs H Q => ∃ l xs i k y, x = .ref l ∧ vs = [.int i] ∧ H l = some (.lst xs) ∧ -(2 ^ 63) ≤ i ∧ i < 2 ^ 63 ∧ seqIndex? i xs.length = some k ∧ xs[k]? = some y ∧ Q y (upd H l (.lst (xs.eraseIdx k)))
theorem B6 : MtM X "list.pop" Gy := by
  intro pins s σ H x vs v us Q I rx rv h
  obtain ⟨l, xs, i, k, y, rfl, rfl, hH, h1, h2, hk, hy, q⟩ := h
  cases rx
  obtain ⟨u, rfl, ru⟩ := rv.one
  obtain ⟨t, rfl⟩ := ru
  obtain ⟨z, its, n, r, hl, e⟩ := I.Af hH
  obtain ⟨w, hw, rw'⟩ := r.get hy
  refine call_meets F.slot_list_pop ⟨_, e, rfl⟩ F.entry_list_pop (F.args_list_pop_2 _ _)
    (MeetsSeq.list_pop_at l its.toArray n i t k w (fitsIndex_both h1 h2) (by rw [List.size_toArray, ← hl]; exact hk) (by rw [← Array.getElem?_toList]; exact hw) (by rw [List.size_toArray]; omega)) ⟨e, ?_⟩
  refine ⟨y, _, I.FZ (its' := its.eraseIdx k) hH e ?_ (r.eraseIdx k) ?_, rw', q⟩
  · show its.toArray.eraseIdxIfInBounds k = (its.eraseIdx k).toArray
    rw [List.eraseIdxIfInBounds_toArray]
  · have := tJ xs k
    omega
def FG : R2 := fun x y H Q => ∃ l b xs zs, x = .ref l ∧ y = .ref b ∧ H l = some (.lst xs) ∧ H b = some (.lst zs) ∧ xs.length + zs.length ≤ sizeLine ∧ ∀ p, H p = none → Q (.ref p) (upd H p (.lst (xs ++ zs)))
theorem G5 : OpR X (binaryOp .Add) FG := by
  intro pins s σ H x y v u Q I rx ry h
  obtain ⟨l, b, xs, zs, rfl, rfl, hH, hB, hz, q⟩ := h
  cases rx
  cases ry
  obtain ⟨z, its, n, r, hl, e⟩ := I.Af hH
  obtain ⟨z2, its2, n2, r2, hl2, e2⟩ := I.Af hB
  refine PySem.P.add_list e e2 ?_ (by rw [List.size_toArray, List.size_toArray]; omega)
  have ea : its.toArray ++ its2.toArray = (its ++ its2).toArray := by simp
  rw [ea]
  exact ⟨.ref _, _, I.Jq (t' := s.toks) (r.append r2) (by rw [List.length_append]; omega), rfl, q _ I.fresh⟩
theorem len_rep {α : Type} (xs : List α) (k : Nat) : (List.replicate k xs).flatten.length = k * xs.length := by
  induction k with
  | zero => simp
  | succ k ih => rw [List.replicate_succ, List.flatten_cons, List.length_append, ih, Nat.succ_mul, Nat.add_comm]
end
section
variable {prog : Program} {w : World} {A : Around} {E : Value → Shared → Prop} {s : Shared}
end
section
variable {X : Cx}
end
end L2
namespace Att
open PySem PySem.W PySem.Calls PyProof.Rows
theorem pL {P : Params} {h : Heap} : ∀ (ns : List Int) (vs : List Value), WellAll P h vs (ns.map WData.int) → IntsAre vs ns := by
  intro ns
  induction ns with
  | nil =>
    intro vs w
    rw [List.map_nil] at w
    cases w
    exact .nil
  | cons n ns ih =>
    intro vs w
    rw [List.map_cons] at w
    cases w with
    | cons a b =>
      cases a
      exact .cons _ _ (ih _ b)
theorem AD {l : OpenLaw} {n : Nat} (hn : l.most = some n) {P : Params} {h : Heap} {args : List WData} {vals : List Value}
    (hpre : l.row.toRowW.claim.pre args = true) (hwl : WellAll P h vals args) :
    ∃ a vs ns, vals = [Value.ref a] ∧ args = [WData.list (ns.map WData.int)] ∧ h.get? a = some { cls := .type "list", data := .seq vs.toArray } ∧ IntsAre vs ns ∧ ns.length ≤ n := by
  have hsh : WShape.hasAll [] args [.list .int] = true := (pre_splitW hpre).1
  have hc : l.pre.holds [] { args := args } = true := (pre_splitW hpre).2
  obtain ⟨d, r, rfl, h1, h2⟩ := hasAllW_cons hsh
  obtain rfl := hasAllW_nil h2
  obtain ⟨xs, rfl, h3⟩ := hasW_list h1
  obtain ⟨ns, rfl⟩ := items_int h3
  have hlen : ns.length ≤ n := by
    unfold OpenLaw.pre at hc
    have h4 : (WTm.not (.lt (.lit (.int (n : Int))) (.len (.arg 0)))).holds [] { args := [.list (ns.map .int)] } = true := by
      have h4 := (holds_andW hc).1
      rw [hn] at h4
      exact h4
    have h5 := condW_of h4 (w_not (w_lt w_lit (w_len_list (w_arg rfl))))
    rw [List.length_map] at h5
    refine Nat.le_of_not_lt fun q => ?_
    have q' : (n : Int) < ((ns.length : Nat) : Int) := by omega
    first
      | (rw [decide_eq_true q'] at h5; exact absurd h5 (by decide))
      | (simp at h5; omega)
  cases hwl with
  | cons w1 w2 =>
    cases w2
    cases w1 with
    | list ho hall => exact ⟨_, _, ns, rfl, rfl, ho, pL ns _ hall, hlen⟩
theorem Ag (l : OpenLaw) (args : List WData) : l.row.toRowW.claim.post args (.bool true) args = true :=
  postW_of (r := l.row.toRowW) (X := (true == true))
    (show WShape.has [] (.bool true) .bool = true by first | rfl | decide | simp [WShape.has, WShape.arms, WShape.armsAll])
    (show (WTm.eq .res (.lit (.bool true))).value [] { args := args, res := some (.bool true), after := args } = some (.bool (true == true)) from w_eq_bool (w_res rfl) w_lit) rfl
theorem wc {l : OpenLaw} {n : Nat} {q : Program} {loose : List Str} {XP : (Str → Option Value) → Heap → Prop} {YP : World → Heap → Prop} {d : DefRec}
    (hn : l.most = some n) (hdf : d.params.defaults = [])
    (call : ∀ (w : World) (s₀ s₁ : Shared) (mg mb : Str → Option Value) (fa : Addr) (o : Obj) (pm cd doc : Value) (a : Addr) (vs : List Value) (ns : List Int),
      Ground q loose [] XP w s₀ mg mb s₁.heap → YP w s₁.heap →
      s₁.heap.get? fa = some o → o.data = .func (docDef d.name d.params d.body d.scope pm cd doc) → s₁.heap.CodeRec cd d.name → mg d.name = some (.ref fa) →
      s₁.heap.get? a = some { cls := .type "list", data := .seq vs.toArray } → IntsAre vs ns → ns.length ≤ n → s₁.gens = #[] →
      codeAny (model l.prog w) callerA (.call (.ref fa) ⟨[.ref a], []⟩) (fun r s' => r = .ok (.ret (.bool true)) ∧ OldK s₁.heap s'.heap ∧ s'.os = s₁.os ∧ AllBare s'.gens) s₁) :
    WalkO q loose XP YP l.row.toRowW d [] (fun f vs => PySem.call f vs) := by
  intro w s₀ s₁ mg mb G Y fa o pm cd doc dV kV ho hd hcd hD hmg hg args vals as hpre hlay hrd hwl hlo
  obtain rfl : dV = .none := Dflts.none hD hdf
  obtain rfl : kV = .none := Dflts.noKw hD
  obtain ⟨a, vs, ns, rfl, rfl, hobj, hints, hlen⟩ := AD hn hpre hwl
  refine enter_call (codeAny_mono (call w s₀ s₁ mg mb fa o pm cd doc a vs ns G Y ho (fd_plain hd) hcd hmg hobj hints hlen hg) fun r s' hq => ?_)
  obtain ⟨rfl, h2, h3, h4⟩ := hq
  exact ⟨.inl ⟨.bool true, .bool true, [], rfl, fun _ => rfl, .bool true, Ag l _, fun _ => ⟨List.Pairwise.nil, fun _ hm => (nomatch hm)⟩⟩, h2, h3, h4⟩
section
variable {prog : Program} {w : World} {A : Around} {E : Value → Shared → Prop} {s : Shared} {K : Frag}
def ledger (h : Heap) (L d : Addr) : List (Addr × Obj) := (List.range h.objs.size).filterMap fun a => if a = L ∨ a = d then none else (h.get? a).map fun o => (a, o)
end
end Att
namespace L2
open PySem PySem.Spec PyProof.Rows
theorem tK : ∀ {vs : List Value} {ns : List Int}, IntsAre vs ns → Vals (ns.map V.int) vs
  | _, _, .nil => .nil
  | _, _, .cons n t h => .cons ⟨t, rfl⟩ (tK h)
end L2
namespace L2
open PySem PySem.Spec PyProof.Rows
end L2
namespace L2
open PySem PySem.Spec PyProof.Rows
abbrev CX0 : CXT := fun _ _ _ _ _ _ => False
abbrev E0 : XK := fun _ _ _ => False
theorem Hy {X : Cx} : Passes CX0 X E0 := fun _ _ _ _ _ _ _ h => h.elim
structure Fun (K : PySem.W.Frag) (x qual : Str) (st : Stmt) (f : Addr) (fd : FuncData) : Prop where
  ex : ∃ (oc : Value) (od : Option Addr) (kV doc pm : Value) (an : Option Addr) (cdv ct : Value) (osl : Array (Option Value)),
    fd = PySem.W.fnOf x qual (lq st) (dU st) (ay st) .none kV doc pm an cdv ct ∧ K.lookup f = some ⟨oc, od, .func fd, osl⟩ ∧ PySem.W.codeIn K cdv qual = true
  kp : PySem.W.keepIn K (.ref f) = true
section
variable {P : Program} {w : World} {K : PySem.W.Frag} {mg : Str → Option Value} {base : Heap}
theorem Fun.ok {x qual : Str} {st : Stmt} {f : Addr} {fd : FuncData} {N ps : List Str} {k : Nat} {sp : Sp} (F : Fun K x qual st f fd) (S : aN N ps (ay st)) (len : ∀ vs H Q E, sp vs H Q E → vs.length = ps.length)
    (hbody : ∀ (cdv : Value) (A : Around) (outer : List Env) (s : Shared) (H : Hp) (vs : List V) (Q : VK) (E : XK), dO k (A.deeper (envOfC qual (ay st) s.heap.objs.size f cdv)) → sp vs H Q E →
      ∃ t, PSs (i7 CX0 P w K mg base N qual (ay st) f cdv A outer s H E).nox (dU st) t ∧ t { nx := fun _ H' => Q .non H', rt := Q } (start N vs) H) : bU P w K mg base CX0 (k + 1) f fd ps sp := by
  obtain ⟨oc, od, kV, doc, pm, an, cdv, ct, osl, rfl, lk, hcd⟩ := F.ex
  refine AS lk hcd S len fun A outer s H vs Q E hr hsp => ?_
  obtain ⟨t, h, q⟩ := hbody cdv A outer s H vs Q E hr hsp
  exact ⟨t, h.nox, q⟩
theorem Fun.binds {x qual : Str} {st : Stmt} {f : Addr} {fd : FuncData} {ps : List Str} (F : Fun K x qual st f fd)
    (h : ∀ (kV doc pm : Value) (an : Option Addr) (cdv ct : Value) (us : List Value), us.length = ps.length → bindArgs (PySem.W.fnOf x qual (lq st) (dU st) (ay st) .none kV doc pm an cdv ct) ⟨us, []⟩ = pure (ps.zip us)) : Binds K fd ps [] := by
  obtain ⟨oc, od, kV, doc, pm, an, cdv, ct, osl, rfl, lk, hcd⟩ := F.ex
  exact .all (h kV doc pm an cdv ct)
theorem bg {x qual : Str} {st : Stmt} {f : Addr} {oc : Value} {od an : Option Addr} {osl : Array (Option Value)} {kV doc pm cdv ct : Value} (l : K.lookup f = some ⟨oc, od, .func (PySem.W.fnOf x qual (lq st) (dU st) (ay st) .none kV doc pm an cdv ct), osl⟩)
    (c : PySem.W.codeIn K cdv qual = true) (k : PySem.W.keepIn K (.ref f) = true) : Fun K x qual st f (PySem.W.fnOf x qual (lq st) (dU st) (ay st) .none kV doc pm an cdv ct) := ⟨⟨oc, od, kV, doc, pm, an, cdv, ct, osl, rfl, l, c⟩, k⟩
end
theorem cx {n : Nat} (h : n ≤ 1000) : n < sizeLine := Nat.lt_of_le_of_lt h (by decide)
section
variable {X : Cx}
end
theorem mV {A B : Prop} (h : B) : if false = true then A else B := by
  rw [if_neg Bool.false_ne_true]
  exact h
theorem lY {A B : Prop} (h : A) : if true = true then A else B := by
  rw [if_pos rfl]
  exact h
def i4 (H H' : Hp) : Prop := ∀ b o, H b = some o → H' b = some o
theorem i4.refl (H : Hp) : i4 H H := fun _ _ h => h
theorem i4.trans {H H1 H2 : Hp} (a : i4 H H1) (b : i4 H1 H2) : i4 H H2 := fun c o h => b c o (a c o h)
theorem i4.free {H H' : Hp} (e : i4 H H') {l : Addr} (h : H' l = Option.none) : H l = Option.none := by
  cases q : H l with
  | none => rfl
  | some o =>
    rw [e l o q] at h
    cases h
end L2
set_option linter.all false
set_option maxRecDepth 100000
set_option maxHeartbeats 4000000
namespace NM
@[irreducible] def Sz (n : Nat) (i : Int) : Prop := i.natAbs < 2 ^ n
theorem Sz.mono {n m : Nat} {i : Int} (h : Sz n i) (l : n ≤ m) : Sz m i := by unfold Sz at *; exact Nat.lt_of_lt_of_le h (Nat.pow_le_pow_right (by decide) l)
theorem Sz.mul {n m : Nat} {i j : Int} (h : Sz n i) (g : Sz m j) : Sz (n + m) (i * j) := by
  unfold Sz at *
  rw [Int.natAbs_mul, Nat.pow_add]
  exact Nat.mul_lt_mul'' h g
theorem Sz.add {n : Nat} {i j : Int} (h : Sz n i) (g : Sz n j) : Sz (n + 1) (i + j) := by
  unfold Sz at *
  have := Int.natAbs_add_le i j
  rw [Nat.pow_succ]
  omega
theorem Sz.neg {n : Nat} {i : Int} (h : Sz n i) : Sz n (-i) := by unfold Sz at *; rw [Int.natAbs_neg]; exact h
theorem Sz.sub {n : Nat} {i j : Int} (h : Sz n i) (g : Sz n j) : Sz (n + 1) (i - j) := by rw [Int.sub_eq_add_neg]; exact h.add g.neg
theorem Sz.le {n : Nat} {i j : Int} (h : Sz n i) (g : j.natAbs ≤ i.natAbs) : Sz n j := by unfold Sz at *; exact Nat.lt_of_le_of_lt g h
theorem Sz.of {n : Nat} {i : Int} (h : i.natAbs < 2 ^ n) : Sz n i := by unfold Sz; exact h
theorem Sz.lt {n : Nat} {i : Int} (h : Sz n i) : i.natAbs < 2 ^ n := by unfold Sz at h; exact h
def g3 (a b c : Int) : Nat := Int.gcd (Int.gcd a b : Nat) c
theorem Dl (a b c : Int) : Int.gcd (Int.gcd c a : Nat) b = g3 a b c := by
  unfold g3
  simp only [Int.gcd, Int.natAbs_natCast]
  rw [Nat.gcd_assoc, Nat.gcd_comm]
theorem C7 (a b c : Int) : ((g3 a b c : Nat) : Int) ∣ a ∧ ((g3 a b c : Nat) : Int) ∣ b ∧ ((g3 a b c : Nat) : Int) ∣ c := by
  have h : ((g3 a b c : Nat) : Int) ∣ ((Int.gcd a b : Nat) : Int) := Int.gcd_dvd_left ..
  exact ⟨Int.dvd_trans h (Int.gcd_dvd_left ..), Int.dvd_trans h (Int.gcd_dvd_right ..), Int.gcd_dvd_right ..⟩
theorem GJ {a b c : Int} {k : Nat} (h1 : (k : Int) ∣ a) (h2 : (k : Int) ∣ b) (h3 : (k : Int) ∣ c) : k ∣ g3 a b c := by
  unfold g3
  exact Int.dvd_gcd (Int.natCast_dvd_natCast.mpr (Int.dvd_gcd h1 h2)) h3
theorem yo {a b c : Int} (h : c ≠ 0) : 0 < g3 a b c := by
  unfold g3
  exact Int.gcd_pos_of_ne_zero_right _ h
theorem CS (a b c k : Int) : g3 (a * k) (b * k) (c * k) = g3 a b c * k.natAbs := by
  unfold g3
  simp only [Int.gcd, Int.natAbs_natCast, Int.natAbs_mul, Nat.gcd_mul_right]
theorem vW (a b c : Int) : g3 a (-b) c = g3 a b c := by
  unfold g3
  rw [Int.gcd_neg]
theorem Bp (a b c : Int) : g3 (-a) b c = g3 a b c := by
  unfold g3
  rw [Int.neg_gcd]
structure N3 where
  a : Int
  b : Int
  c : Int
deriving DecidableEq
theorem N3.ext' {x y : N3} (h1 : x.a = y.a) (h2 : x.b = y.b) (h3 : x.c = y.c) : x = y := by cases x; cases y; simp_all
structure Ok (x : N3) : Prop where
  c : 0 < x.c
  g : g3 x.a x.b x.c = 1
def dv (a b c : Int) : Int := if c < 0 then -(g3 a b c : Nat) else (g3 a b c : Nat)
def low (a b c : Int) : N3 := ⟨a.fdiv (dv a b c), b.fdiv (dv a b c), c.fdiv (dv a b c)⟩
theorem ue {a k q : Int} (hk : k ≠ 0) (h : a = k * q) : a.fdiv k = q := by
  subst h
  exact Int.mul_fdiv_cancel_left q hk
theorem HE {a b c : Int} (h : c ≠ 0) : dv a b c ≠ 0 := by
  have := yo (a := a) (b := b) h
  unfold dv
  split <;> omega
theorem GS (a b c : Int) : dv a b c ∣ a ∧ dv a b c ∣ b ∧ dv a b c ∣ c := by
  obtain ⟨h1, h2, h3⟩ := C7 a b c
  unfold dv
  split
  · exact ⟨Int.neg_dvd.mpr h1, Int.neg_dvd.mpr h2, Int.neg_dvd.mpr h3⟩
  · exact ⟨h1, h2, h3⟩
theorem kX (a b : Int) {c : Int} (h : c ≠ 0) : ∃ k : Int, k ≠ 0 ∧ (0 < k ↔ 0 < c) ∧ a = k * (low a b c).a ∧ b = k * (low a b c).b ∧ c = k * (low a b c).c ∧ Ok (low a b c) := by
  have hk := HE (a := a) (b := b) h
  obtain ⟨⟨p, hp⟩, ⟨q, hq⟩, ⟨r, hr⟩⟩ := GS a b c
  have ep : (low a b c).a = p := ue hk hp
  have eq : (low a b c).b = q := ue hk hq
  have er : (low a b c).c = r := ue hk hr
  have hg := yo (a := a) (b := b) h
  have hs : 0 < dv a b c ↔ 0 < c := by unfold dv; split <;> omega
  have hr0 : 0 < r := by
    have hr' : r ≠ 0 := fun z => h (by rw [hr, z, Int.mul_zero])
    rcases Int.lt_trichotomy 0 (dv a b c) with z | z | z
    · have := hs.mp z
      rw [hr] at this
      rw [Int.mul_comm] at this
      exact Int.pos_of_mul_pos_left this z |> fun t => t
    · exact absurd z.symm hk
    · have : c < 0 := by omega
      rcases Int.lt_trichotomy 0 r with w | w | w
      · exact w
      · exact absurd w.symm hr'
      · have := Int.mul_pos_of_neg_of_neg z w
        rw [← hr] at this
        omega
  refine ⟨dv a b c, hk, hs, by rw [ep]; exact hp, by rw [eq]; exact hq, by rw [er]; exact hr, by rw [er]; exact hr0, ?_⟩
  rw [ep, eq, er]
  have e := CS p q r (dv a b c)
  rw [Int.mul_comm p, Int.mul_comm q, Int.mul_comm r, ← hp, ← hq, ← hr] at e
  have e2 : (dv a b c).natAbs = g3 a b c := by unfold dv; split <;> simp
  rw [e2] at e
  have : g3 p q r * g3 a b c = 1 * g3 a b c := by omega
  exact Nat.eq_of_mul_eq_mul_right hg this
theorem CM (a b : Int) {c : Int} (h : c ≠ 0) : Ok (low a b c) := (kX a b h).choose_spec.2.2.2.2.2
theorem Ok.same {x y : N3} (hx : Ok x) (hy : Ok y) (h1 : x.a * y.c = y.a * x.c) (h2 : x.b * y.c = y.b * x.c) : x = y := by
  have key : ∀ {u v : N3}, Ok u → Ok v → u.a * v.c = v.a * u.c → u.b * v.c = v.b * u.c → u.c ∣ v.c := fun {u v} hu hv e1 e2 => by
    have hd : u.c.natAbs ∣ g3 (u.a * v.c) (u.b * v.c) (u.c * v.c) := GJ
      (by rw [Int.natAbs_of_nonneg (Int.le_of_lt hu.c), e1]; exact Int.dvd_mul_left _ _) (by rw [Int.natAbs_of_nonneg (Int.le_of_lt hu.c), e2]; exact Int.dvd_mul_left _ _) (by rw [Int.natAbs_of_nonneg (Int.le_of_lt hu.c)]; exact Int.dvd_mul_right _ _)
    rw [CS, hu.g, Nat.one_mul] at hd
    exact Int.natAbs_dvd_natAbs.mp hd
  have hc : x.c = y.c := Int.dvd_antisymm (Int.le_of_lt hx.c) (Int.le_of_lt hy.c) (key hx hy h1 h2) (key hy hx h1.symm h2.symm)
  have hn : y.c ≠ 0 := by have := hy.c; omega
  rw [hc] at h1 h2
  exact N3.ext' (Int.eq_of_mul_eq_mul_right hn h1) (Int.eq_of_mul_eq_mul_right hn h2) hc
theorem Ok.low {x : N3} (h : Ok x) : low x.a x.b x.c = x := by
  have hc : x.c ≠ 0 := by have := h.c; omega
  obtain ⟨k, hk, _, p1, p2, p3, o⟩ := kX x.a x.b hc
  refine o.same h ?_ ?_
  · exact Int.eq_of_mul_eq_mul_left hk (by grind)
  · exact Int.eq_of_mul_eq_mul_left hk (by grind)
theorem FX (a b : Int) {c : Int} (h : c ≠ 0) : (low a b c).a.natAbs ≤ a.natAbs ∧ (low a b c).b.natAbs ≤ b.natAbs ∧ (low a b c).c.natAbs ≤ c.natAbs := by
  obtain ⟨k, hk, _, p1, p2, p3, _⟩ := kX a b h
  have hk' : 1 ≤ k.natAbs := by omega
  have le : ∀ {u v : Int}, u = k * v → v.natAbs ≤ u.natAbs := fun {u v} e => by
    rw [e, Int.natAbs_mul]
    exact Nat.le_mul_of_pos_left _ hk'
  exact ⟨le p1, le p2, le p3⟩
structure Bd (n : Nat) (x : N3) : Prop where
  a : Sz n x.a
  b : Sz n x.b
  c : Sz n x.c
theorem Bd.mono {n m : Nat} {x : N3} (h : Bd n x) (l : n ≤ m) : Bd m x := ⟨h.a.mono l, h.b.mono l, h.c.mono l⟩
theorem Fi {a b c : Int} {n : Nat} (h : c ≠ 0) (ha : Sz n a) (hb : Sz n b) (hc : Sz n c) : Bd n (low a b c) := by
  obtain ⟨h1, h2, h3⟩ := FX a b h
  exact ⟨ha.le h1, hb.le h2, hc.le h3⟩
def plus (x y : N3) : N3 := low (x.a * y.c + y.a * x.c) (x.b * y.c + y.b * x.c) (x.c * y.c)
def times (d : Int) (x y : N3) : N3 := low (x.a * y.a + d * x.b * y.b) (x.a * y.b + x.b * y.a) (x.c * y.c)
def norm (d : Int) (x : N3) : Int := x.a * x.a - d * x.b * x.b
def eG (d : Int) (x : N3) : N3 := low (x.c * x.a) (-x.c * x.b) (norm d x)
def kf (x : N3) : N3 := ⟨x.a, -x.b, x.c⟩
def minus (x : N3) : N3 := ⟨-x.a, -x.b, x.c⟩
def cm : N3 := ⟨0, 0, 1⟩
def one : N3 := ⟨1, 0, 1⟩
theorem Ok.cn {x : N3} (h : Ok x) : x.c ≠ 0 := by have := h.c; omega
theorem HZ {x y : N3} (h : Ok x) (g : Ok y) : x.c * y.c ≠ 0 := Int.mul_ne_zero h.cn g.cn
theorem uK {x : N3} (h : Ok x) : Ok (kf x) := ⟨h.c, by show g3 x.a (-x.b) x.c = 1; rw [vW]; exact h.g⟩
theorem rP {x : N3} (h : Ok x) : Ok (minus x) := ⟨h.c, by show g3 (-x.a) (-x.b) x.c = 1; rw [Bp, vW]; exact h.g⟩
theorem Jt {d : Int} (h : 2 ≤ d) (h' : d ≤ 30) : Sz 5 d := by unfold Sz; omega
def bz (d : Int) : Prop := 2 ≤ d ∧ d ≤ 30 ∧ d ≠ 4 ∧ d ≠ 9 ∧ d ≠ 16 ∧ d ≠ 25
theorem Ai {d : Nat} (h : ∀ m : Nat, m * m ≠ d) : ∀ {a b : Nat}, a * a = d * (b * b) → b = 0 := fun {a b} e => by
  rcases Nat.eq_zero_or_pos b with hb | hb
  · exact hb
  exfalso
  obtain ⟨g, p, q, hg, hc, rfl, rfl⟩ := Nat.exists_coprime' (m := a) (n := b) (Nat.gcd_pos_of_pos_right _ hb)
  have e2 : (p * p) * (g * g) = (d * (q * q)) * (g * g) := by grind
  have e3 : p * p = d * (q * q) := Nat.eq_of_mul_eq_mul_right (Nat.mul_pos hg hg) e2
  have hq : q ∣ p * p := ⟨d * q, by rw [e3]; grind⟩
  have hq1 : q ∣ p := hc.symm.dvd_of_dvd_mul_left hq
  have hq2 : q = 1 := by
    have := Nat.dvd_gcd hq1 (Nat.dvd_refl q)
    rw [hc] at this
    exact Nat.dvd_one.mp this
  subst hq2
  exact h p (by rw [e3]; simp)
theorem bz.nat {d : Int} (h : bz d) : ∀ m : Nat, m * m ≠ d.toNat := fun m e => by
  obtain ⟨h1, h2, h3, h4, h5, h6⟩ := h
  have hm : m ≤ 5 := by
    rcases Nat.lt_or_ge 5 m with z | z
    · have := Nat.mul_le_mul z z; omega
    · exact z
  have : m = 0 ∨ m = 1 ∨ m = 2 ∨ m = 3 ∨ m = 4 ∨ m = 5 := by omega
  rcases this with rfl | rfl | rfl | rfl | rfl | rfl <;> omega
theorem bz.ya {d a b : Int} (h : bz d) (e : a * a = d * b * b) : a = 0 ∧ b = 0 := by
  have hd : d = ((d.toNat : Nat) : Int) := by have := h.1; omega
  have e1 : a.natAbs * a.natAbs = d.toNat * (b.natAbs * b.natAbs) := by
    have e2 := congrArg Int.natAbs e
    rw [Int.natAbs_mul, Int.natAbs_mul, Int.natAbs_mul] at e2
    rw [e2, Nat.mul_assoc]
    congr 1
    omega
  have hb := Ai h.nat e1
  have hb' : b = 0 := by omega
  subst hb'
  have : a * a = 0 := by rw [e]; simp
  exact ⟨by rcases Int.mul_eq_zero.mp this with z | z <;> exact z, rfl⟩
theorem bz.norm {d : Int} {x : N3} (h : bz d) (ok : Ok x) (hx : x ≠ cm) : norm d x ≠ 0 := fun e => by
  have e' : x.a * x.a = d * x.b * x.b := by unfold NM.norm at e; omega
  obtain ⟨h1, h2⟩ := h.ya e'
  apply hx
  have hg := ok.g
  rw [h1, h2] at hg
  have hc := ok.c
  have : x.c = 1 := by
    unfold g3 at hg
    simp [Int.gcd] at hg
    omega
  exact N3.ext' h1 h2 this
def sg (d a b : Int) : Int :=
  if a = 0 ∧ b = 0 then 0 else if 0 ≤ a ∧ 0 ≤ b then 1 else if a ≤ 0 ∧ b ≤ 0 then -1 else if (if d * b * b < a * a then a else b) > 0 then 1 else -1
theorem EV {u v : Int} (hu : 0 ≤ u) (h : u * u ≤ v * v) (hv : 0 ≤ v) : u ≤ v := by
  rcases Int.lt_or_le v u with z | z
  · have := Int.mul_lt_mul_of_pos_left z (show 0 < u by omega)
    have := Int.mul_le_mul_of_nonneg_right (Int.le_of_lt z) hv
    omega
  · exact z
theorem sq_nonneg (u : Int) : 0 ≤ u * u := by
  rcases Int.le_total 0 u with h | h
  · exact Int.mul_nonneg h h
  · exact Int.mul_nonneg_of_nonpos_of_nonpos h h
def P (d a b : Int) : Prop := (0 ≤ a ∧ 0 ≤ b ∧ ¬ (a = 0 ∧ b = 0)) ∨ (0 < a ∧ b < 0 ∧ d * b * b < a * a) ∨ (a < 0 ∧ 0 < b ∧ a * a < d * b * b)
theorem ip {d a b : Int} (h : bz d) : sg d a b = 1 ↔ P d a b := by
  unfold sg P
  have key : a * a = d * b * b → a = 0 ∧ b = 0 := h.ya
  by_cases c1 : d * b * b < a * a
  · simp only [c1, if_true]; split <;> (try split) <;> (try split) <;> (try split) <;> simp <;> omega
  · simp only [c1, if_false]; split <;> (try split) <;> (try split) <;> (try split) <;> simp <;> omega
theorem BE {d a b : Int} (h : bz d) : sg d (-a) (-b) = - sg d a b := by
  unfold sg
  have key : a * a = d * b * b → a = 0 ∧ b = 0 := h.ya
  have e1 : d * -b * -b = d * b * b := by grind
  have e2 : -a * -a = a * a := by grind
  rw [e1, e2]
  by_cases c1 : d * b * b < a * a
  · simp only [c1, if_true]; split <;> split <;> (try split) <;> (try split) <;> (try split) <;> (try split) <;> (try split) <;> (try split) <;> omega
  · simp only [c1, if_false]; split <;> split <;> (try split) <;> (try split) <;> (try split) <;> (try split) <;> (try split) <;> (try split) <;> omega
theorem hE {d a b : Int} : sg d a b = 0 ↔ a = 0 ∧ b = 0 := by
  unfold sg; split <;> (try split) <;> (try split) <;> (try split) <;> omega
theorem vE (d a b : Int) : sg d a b = 0 ∨ sg d a b = 1 ∨ sg d a b = -1 := by
  unfold sg; split <;> (try split) <;> (try split) <;> (try split) <;> omega
theorem Iq {d a b : Int} (h : bz d) : (a = 0 ∧ b = 0) ∨ P d a b ∨ P d (-a) (-b) := by
  rcases vE d a b with e | e | e
  · exact .inl (hE.mp e)
  · exact .inr (.inl ((ip h).mp e))
  · exact .inr (.inr ((ip h).mp (by rw [BE h, e]; rfl)))
theorem k8 {d a b : Int} (h : bz d) (n : d * b * b < a * a) : P d a b ↔ 0 < a := by
  unfold P
  have := sq_nonneg b
  have h0 : 0 ≤ d * b * b := by rw [Int.mul_assoc]; exact Int.mul_nonneg (by have := h.1; omega) this
  have ha : a ≠ 0 := fun z => by subst z; simp at n; omega
  omega
theorem ju {d a b : Int} (h : bz d) (n : a * a < d * b * b) : P d a b ↔ 0 < b := by
  unfold P
  have h0 := sq_nonneg a
  have hb : b ≠ 0 := fun z => by subst z; simp at n; omega
  omega
theorem mC {u v : Int} (h : v * v < u * u) : 0 < u + v ↔ 0 < u := by
  have hu : u ≠ 0 := fun z => by subst z; have := sq_nonneg v; simp at h; omega
  have l : v.natAbs < u.natAbs := by
    rcases Nat.lt_or_ge v.natAbs u.natAbs with z | z
    · exact z
    · have := Nat.mul_le_mul z z
      have e1 : ((u.natAbs * u.natAbs : Nat) : Int) = u * u := Int.natAbs_mul_self
      have e2 : ((v.natAbs * v.natAbs : Nat) : Int) = v * v := Int.natAbs_mul_self
      omega
  omega
theorem mul_pos_iff {u v : Int} (hu : u ≠ 0) (hv : v ≠ 0) : 0 < u * v ↔ (0 < u ↔ 0 < v) := by
  rcases Int.lt_or_gt_of_ne hu with h | h <;> rcases Int.lt_or_gt_of_ne hv with g | g
  · have := Int.mul_pos_of_neg_of_neg h g; omega
  · have := Int.mul_neg_of_neg_of_pos h g; omega
  · have := Int.mul_neg_of_pos_of_neg h g; omega
  · have := Int.mul_pos h g; omega
theorem qM {u v s t : Int} (hu : 0 ≤ u) (h : u < v) (hs : 0 ≤ s) (g : s < t) : u * s < v * t := by
  have e1 : u * s ≤ v * s := Int.mul_le_mul_of_nonneg_right (Int.le_of_lt h) hs
  have e2 : v * s < v * t := Int.mul_lt_mul_of_pos_left g (by omega)
  omega
theorem dsq {d b : Int} (hd : 0 < d) : 0 ≤ d * b * b := by rw [Int.mul_assoc]; exact Int.mul_nonneg (Int.le_of_lt hd) (sq_nonneg b)
theorem HA {d a b p q : Int} (h : bz d) (h1 : ¬ (a = 0 ∧ b = 0)) (h2 : ¬ (p = 0 ∧ q = 0)) : P d (a * p + d * b * q) (a * q + b * p) ↔ (P d a b ↔ P d p q) := by
  have hd : 0 < d := by have := h.1; omega
  have n1 : a * a ≠ d * b * b := fun e => h1 (h.ya e)
  have n2 : p * p ≠ d * q * q := fun e => h2 (h.ya e)
  have pz : ∀ {u v : Int}, d * v * v < u * u → u ≠ 0 := fun {u v} e z => by subst z; have := dsq (b := v) hd; simp at e; omega
  have qz : ∀ {u v : Int}, u * u < d * v * v → v ≠ 0 := fun {u v} e z => by subst z; have := sq_nonneg u; simp at e; omega
  have id1 : (a * p + d * b * q) * (a * p + d * b * q) - d * (a * q + b * p) * (a * q + b * p) = (a * a - d * b * b) * (p * p - d * q * q) := by grind
  rcases Int.lt_or_gt_of_ne n1 with c1 | c1 <;> rcases Int.lt_or_gt_of_ne n2 with c2 | c2
  · have pp := Int.mul_pos_of_neg_of_neg (show a * a - d * b * b < 0 by omega) (show p * p - d * q * q < 0 by omega)
    rw [k8 h (by omega), ju h c1, ju h c2]
    have sq : (a * p) * (a * p) < (d * b * q) * (d * b * q) := by
      have e2 := qM (sq_nonneg a) c1 (sq_nonneg p) c2
      grind
    rw [Int.add_comm, mC sq, Int.mul_assoc, mul_pos_iff (by omega) (Int.mul_ne_zero (qz c1) (qz c2)), mul_pos_iff (qz c1) (qz c2)]
    omega
  · have pp := Int.mul_neg_of_neg_of_pos (show a * a - d * b * b < 0 by omega) (show 0 < p * p - d * q * q by omega)
    rw [ju h (by omega), ju h c1, k8 h c2]
    have sq : (a * q) * (a * q) < (b * p) * (b * p) := by
      have e2 := qM (sq_nonneg a) c1 (dsq (b := q) hd) c2
      have e3 : d * ((a * q) * (a * q)) < d * ((b * p) * (b * p)) := by grind
      exact Int.lt_of_mul_lt_mul_left e3 (Int.le_of_lt hd)
    rw [Int.add_comm, mC sq, mul_pos_iff (qz c1) (pz c2)]
  · have pp := Int.mul_neg_of_pos_of_neg (show 0 < a * a - d * b * b by omega) (show p * p - d * q * q < 0 by omega)
    rw [ju h (by omega), k8 h c1, ju h c2]
    have sq : (b * p) * (b * p) < (a * q) * (a * q) := by
      have e2 := qM (dsq (b := b) hd) c1 (sq_nonneg p) c2
      have e3 : d * ((b * p) * (b * p)) < d * ((a * q) * (a * q)) := by grind
      exact Int.lt_of_mul_lt_mul_left e3 (Int.le_of_lt hd)
    rw [mC sq, mul_pos_iff (pz c1) (qz c2)]
  · have pp := Int.mul_pos (show 0 < a * a - d * b * b by omega) (show 0 < p * p - d * q * q by omega)
    rw [k8 h (by omega), k8 h c1, k8 h c2]
    have sq : (d * b * q) * (d * b * q) < (a * p) * (a * p) := by
      have e2 := qM (dsq (b := b) hd) c1 (dsq (b := q) hd) c2
      grind
    rw [mC sq, mul_pos_iff (pz c1) (pz c2)]
theorem Iz {d A x B y : Int} (hd : 0 < d) (hA : 0 ≤ A) (hx : 0 ≤ x) (hB : 0 ≤ B) (hy : 0 ≤ y) (h1 : A * A ≤ d * B * B) (h2 : x * x ≤ d * y * y) : A * x ≤ d * (B * y) := by
  refine EV (Int.mul_nonneg hA hx) ?_ (Int.mul_nonneg (Int.le_of_lt hd) (Int.mul_nonneg hB hy))
  have := Int.mul_le_mul h1 h2 (sq_nonneg x) (dsq hd)
  grind
theorem T1 {d A x B y : Int} (hd : 0 < d) (hA : 0 ≤ A) (hx : 0 ≤ x) (hB : 0 ≤ B) (hy : 0 ≤ y) (h1 : A * A < d * B * B) (h2 : x * x < d * y * y) : (A + x) * (A + x) < d * (B + y) * (B + y) := by
  have := Iz hd hA hx hB hy (Int.le_of_lt h1) (Int.le_of_lt h2)
  grind
theorem T2 {d A x B y : Int} (hd : 0 < d) (hA : 0 ≤ A) (hx : 0 ≤ x) (hB : 0 ≤ B) (hy : 0 ≤ y) (h1 : d * B * B < A * A) (h2 : d * y * y < x * x) : d * (B + y) * (B + y) < (A + x) * (A + x) := by
  have : d * (B * y) ≤ A * x := by
    refine EV (Int.mul_nonneg (Int.le_of_lt hd) (Int.mul_nonneg hB hy)) ?_ (Int.mul_nonneg hA hx)
    have := qM (dsq (b := B) hd) h1 (dsq (b := y) hd) h2
    grind
  grind
theorem Z1 {d x1 y1 x2 y2 : Int} (hd : 0 < d) (h1 : x1 * x1 < d * y1 * y1) (h2 : d * y2 * y2 < x2 * x2) (a1 : 0 ≤ x2) (a2 : x2 ≤ x1) (a3 : 0 ≤ y1) (a4 : y1 ≤ y2) : False := by
  have e1 := Int.mul_le_mul a2 a2 a1 (Int.le_trans a1 a2)
  have e2 := Int.mul_le_mul_of_nonneg_left (Int.mul_le_mul a4 a4 a3 (Int.le_trans a3 a4)) (Int.le_of_lt hd)
  grind
theorem Z2 {d x1 y1 x2 y2 x3 y3 : Int} (hd : 0 < d) (h1 : x1 * x1 < d * y1 * y1) (h2 : d * y2 * y2 < x2 * x2) (h3 : d * y3 * y3 < x3 * x3) (a1 : 0 ≤ x2) (a2 : 0 ≤ y2) (a3 : 0 ≤ x3) (a4 : 0 ≤ y3) (e1 : x1 = x2 + x3) (e2 : y1 = y2 + y3) : False := by
  subst e1 e2
  have := T2 hd a1 a3 a2 a4 h2 h3
  omega
theorem Z3 {d x1 y1 x2 y2 x3 y3 : Int} (hd : 0 < d) (h1 : d * y1 * y1 < x1 * x1) (h2 : x2 * x2 < d * y2 * y2) (h3 : x3 * x3 < d * y3 * y3) (a1 : 0 ≤ x2) (a2 : 0 ≤ y2) (a3 : 0 ≤ x3) (a4 : 0 ≤ y3) (e1 : x1 = x2 + x3) (e2 : y1 = y2 + y3) : False := by
  subst e1 e2
  have := T1 hd a1 a3 a2 a4 h2 h3
  omega
theorem Ie {d a b p q u v : Int} (h : bz d) (h1 : P d a b) (h2 : P d p q) (h3 : P d u v) (e1 : a + p + u = 0) (e2 : b + q + v = 0) : False := by
  have hd : 0 < d := by have := h.1; omega
  unfold P at h1 h2 h3
  have x1 : ∀ {u c : Int}, u * u < c → -u * -u < c := fun {u c} e => by grind
  have x2 : ∀ {u c : Int}, c < u * u → c < -u * -u := fun {u c} e => by grind
  have x3 : ∀ {u c : Int}, c < d * u * u → c < d * -u * -u := fun {u c} e => by grind
  have x4 : ∀ {u c : Int}, d * u * u < c → d * -u * -u < c := fun {u c} e => by grind
  rcases h1 with ⟨u1, u2, u3⟩ | ⟨u1, u2, u3⟩ | ⟨u1, u2, u3⟩ <;> rcases h2 with ⟨v1, v2, v3⟩ | ⟨v1, v2, v3⟩ | ⟨v1, v2, v3⟩ <;> rcases h3 with ⟨w1, w2, w3⟩ | ⟨w1, w2, w3⟩ | ⟨w1, w2, w3⟩ <;> (try omega)
  all_goals first
    | exact Z1 hd (x1 u3) (x4 v3) (by omega) (by omega) (by omega) (by omega)
    | exact Z1 hd (x1 v3) (x4 u3) (by omega) (by omega) (by omega) (by omega)
    | exact Z1 hd (x1 u3) (x4 w3) (by omega) (by omega) (by omega) (by omega)
    | exact Z1 hd (x1 w3) (x4 u3) (by omega) (by omega) (by omega) (by omega)
    | exact Z1 hd (x1 v3) (x4 w3) (by omega) (by omega) (by omega) (by omega)
    | exact Z1 hd (x1 w3) (x4 v3) (by omega) (by omega) (by omega) (by omega)
    | exact Z2 hd (x1 u3) (x4 v3) (x4 w3) (by omega) (by omega) (by omega) (by omega) (by omega) (by omega)
    | exact Z2 hd (x1 v3) (x4 u3) (x4 w3) (by omega) (by omega) (by omega) (by omega) (by omega) (by omega)
    | exact Z2 hd (x1 w3) (x4 u3) (x4 v3) (by omega) (by omega) (by omega) (by omega) (by omega) (by omega)
    | exact Z3 hd (x4 u3) (x1 v3) (x1 w3) (by omega) (by omega) (by omega) (by omega) (by omega) (by omega)
    | exact Z3 hd (x4 v3) (x1 u3) (x1 w3) (by omega) (by omega) (by omega) (by omega) (by omega) (by omega)
    | exact Z3 hd (x4 w3) (x1 u3) (x1 v3) (by omega) (by omega) (by omega) (by omega) (by omega) (by omega)
theorem HI {d a b p q : Int} (h : bz d) (h1 : P d a b) (h2 : P d p q) : P d (a + p) (b + q) := by
  rcases Iq (a := a + p) (b := b + q) h with ⟨e1, e2⟩ | e | e
  · have ea : p = -a := by omega
    have eb : q = -b := by omega
    subst ea eb
    have s1 := (ip h).mpr h1
    have s2 := (ip h).mpr h2
    rw [BE h, s1] at s2
    omega
  · exact e
  · exact (Ie h h1 h2 e (by omega) (by omega)).elim
theorem Hg {d a b p q : Int} (h : bz d) : sg d (a * p + d * b * q) (a * q + b * p) = sg d a b * sg d p q := by
  by_cases h1 : a = 0 ∧ b = 0
  · obtain ⟨rfl, rfl⟩ := h1
    have e : sg d (0 : Int) 0 = 0 := hE.mpr ⟨rfl, rfl⟩
    rw [e]; simp [hE]
  by_cases h2 : p = 0 ∧ q = 0
  · obtain ⟨rfl, rfl⟩ := h2
    have e : sg d (0 : Int) 0 = 0 := hE.mpr ⟨rfl, rfl⟩
    rw [e]; simp [hE]
  have k := HA h h1 h2
  have h3 : ¬ (a * p + d * b * q = 0 ∧ a * q + b * p = 0) := fun ⟨e1, e2⟩ => by
    have id1 : (a * p + d * b * q) * (a * p + d * b * q) - d * (a * q + b * p) * (a * q + b * p) = (a * a - d * b * b) * (p * p - d * q * q) := by grind
    rw [e1, e2] at id1
    simp only [Int.mul_zero, Int.sub_self] at id1
    rcases Int.mul_eq_zero.mp id1.symm with z | z
    · exact h1 (h.ya (by omega))
    · exact h2 (h.ya (by omega))
  rw [← ip h, ← ip h, ← ip h] at k
  have t1 := vE d a b
  have t2 := vE d p q
  have t3 := vE d (a * p + d * b * q) (a * q + b * p)
  have z1 : sg d a b ≠ 0 := fun z => h1 (hE.mp z)
  have z2 : sg d p q ≠ 0 := fun z => h2 (hE.mp z)
  have z3 : sg d (a * p + d * b * q) (a * q + b * p) ≠ 0 := fun z => h3 (hE.mp z)
  rcases t1 with e | e | e <;> rcases t2 with f | f | f <;> rcases t3 with g | g | g <;> simp_all
theorem kK {d a b k : Int} (h : bz d) (hk : 0 < k) : sg d (k * a) (k * b) = sg d a b := by
  have e := Hg (a := k) (b := 0) (p := a) (q := b) h
  have e1 : sg d k 0 = 1 := by unfold sg; rw [if_neg (by omega), if_pos (by omega)]
  rw [e1] at e
  simpa using e
end NM
set_option linter.all false
set_option maxRecDepth 100000
set_option maxHeartbeats 4000000
namespace NM
structure Rep (x : N3) (A B C : Int) : Prop where
  c : C ≠ 0
  a : x.a * C = A * x.c
  b : x.b * C = B * x.c
section
variable {x y : N3} {A B C A' B' C' d : Int}
theorem uZ {a b c : Int} (h : c ≠ 0) : Rep (low a b c) a b c := by
  obtain ⟨k, hk, _, p1, p2, p3, _⟩ := kX a b h
  generalize low a b c = z at *
  exact ⟨h, by grind, by grind⟩
theorem Rep.eq (ox : Ok x) (oy : Ok y) (h : Rep x A B C) (g : Rep y A' B' C') (e1 : A * C' = A' * C) (e2 : B * C' = B' * C) : x = y := by
  have hc : C * C' ≠ 0 := Int.mul_ne_zero h.c g.c
  obtain ⟨_, h1, h2⟩ := h
  obtain ⟨_, g1, g2⟩ := g
  exact ox.same oy (Int.eq_of_mul_eq_mul_right hc (by grind)) (Int.eq_of_mul_eq_mul_right hc (by grind))
theorem Rep.kf (h : Rep x A B C) : Rep (kf x) A (-B) C := ⟨h.c, h.a, by show -x.b * C = -B * x.c; have := h.b; grind⟩
theorem Rep.minus (h : Rep x A B C) : Rep (minus x) (-A) (-B) C := ⟨h.c, by show -x.a * C = -A * x.c; have := h.a; grind, by show -x.b * C = -B * x.c; have := h.b; grind⟩
theorem Rep.plus (ox : Ok x) (oy : Ok y) (h : Rep x A B C) (g : Rep y A' B' C') : Rep (plus x y) (A * C' + A' * C) (B * C' + B' * C) (C * C') := by
  have hc := HZ ox oy
  obtain ⟨_, q1, q2⟩ := uZ (a := x.a * y.c + y.a * x.c) (b := x.b * y.c + y.b * x.c) hc
  obtain ⟨hc1, h1, h2⟩ := h
  obtain ⟨hc2, g1, g2⟩ := g
  change (NM.plus x y).a * (x.c * y.c) = _ * (NM.plus x y).c at q1
  change (NM.plus x y).b * (x.c * y.c) = _ * (NM.plus x y).c at q2
  generalize NM.plus x y = z at *
  exact ⟨Int.mul_ne_zero hc1 hc2, Int.eq_of_mul_eq_mul_right hc (by grind), Int.eq_of_mul_eq_mul_right hc (by grind)⟩
theorem Rep.times (ox : Ok x) (oy : Ok y) (h : Rep x A B C) (g : Rep y A' B' C') : Rep (times d x y) (A * A' + d * B * B') (A * B' + B * A') (C * C') := by
  have hc := HZ ox oy
  obtain ⟨_, q1, q2⟩ := uZ (a := x.a * y.a + d * x.b * y.b) (b := x.a * y.b + x.b * y.a) hc
  obtain ⟨hc1, h1, h2⟩ := h
  obtain ⟨hc2, g1, g2⟩ := g
  change (NM.times d x y).a * (x.c * y.c) = _ * (NM.times d x y).c at q1
  change (NM.times d x y).b * (x.c * y.c) = _ * (NM.times d x y).c at q2
  generalize NM.times d x y = z at *
  exact ⟨Int.mul_ne_zero hc1 hc2, Int.eq_of_mul_eq_mul_right hc (by grind), Int.eq_of_mul_eq_mul_right hc (by grind)⟩
theorem Rep.norm (h : Rep x A B C) : NM.norm d x * (C * C) = (A * A - d * B * B) * (x.c * x.c) := by
  obtain ⟨_, h1, h2⟩ := h
  unfold NM.norm
  have e1 : x.a * x.a * (C * C) = A * A * (x.c * x.c) := by
    have : (x.a * C) * (x.a * C) = (A * x.c) * (A * x.c) := by rw [h1]
    grind
  have e2 : x.b * x.b * (C * C) = B * B * (x.c * x.c) := by
    have : (x.b * C) * (x.b * C) = (B * x.c) * (B * x.c) := by rw [h2]
    grind
  grind
theorem Rep.eG (ox : Ok x) (hn : NM.norm d x ≠ 0) (h : Rep x A B C) : Rep (eG d x) (C * A) (-C * B) (A * A - d * B * B) := by
  have hN := h.norm (d := d)
  have hcc : x.c * x.c ≠ 0 := Int.mul_ne_zero ox.cn ox.cn
  have hN0 : A * A - d * B * B ≠ 0 := fun z => by
    rw [z, Int.zero_mul] at hN
    rcases Int.mul_eq_zero.mp hN with w | w
    · exact hn w
    · rcases Int.mul_eq_zero.mp w with w | w <;> exact h.c w
  obtain ⟨_, q1, q2⟩ := uZ (a := x.c * x.a) (b := -x.c * x.b) hn
  change (NM.eG d x).a * NM.norm d x = _ * (NM.eG d x).c at q1
  change (NM.eG d x).b * NM.norm d x = _ * (NM.eG d x).c at q2
  obtain ⟨hc1, h1, h2⟩ := h
  generalize NM.eG d x = z at *
  generalize NM.norm d x = n at *
  generalize A * A - d * B * B = m at *
  refine ⟨hN0, ?_, ?_⟩
  · have e : z.a * m * (x.c * x.c) = C * A * z.c * (x.c * x.c) := by grind
    exact Int.eq_of_mul_eq_mul_right hcc e
  · have e : z.b * m * (x.c * x.c) = -C * B * z.c * (x.c * x.c) := by grind
    exact Int.eq_of_mul_eq_mul_right hcc e
theorem Rep.sg (hd : bz d) (ox : Ok x) (h : Rep x A B C) (hC : 0 < C) : sg d x.a x.b = NM.sg d A B := by
  have e1 := kK (a := x.a) (b := x.b) hd hC
  have e2 := kK (a := A) (b := B) hd ox.c
  rw [show C * x.a = x.c * A by have := h.a; grind, show C * x.b = x.c * B by have := h.b; grind] at e1
  rw [← e1, e2]
end
end NM
set_option linter.all false
set_option maxRecDepth 100000
set_option maxHeartbeats 4000000
namespace NM
def lean (d : Int) (x : N3) : N3 := times d (kf x) (eG d x)
def yT (d : Int) (x : N3) : N3 := times d (times d (plus x (kf x)) (plus x (kf x))) (eG d (times d x (kf x)))
section
variable {d : Int} {x y z : N3}
def W (x y : N3) : Int := x.b * y.a - x.a * y.b
theorem Rep.congr {A B C A' B' C' : Int} (h : Rep x A B C) (e1 : A = A') (e2 : B = B') (e3 : C = C') : Rep x A' B' C' := by subst e1 e2 e3; exact h
theorem Rep.neg {A B C : Int} (h : Rep x A B C) : Rep x (-A) (-B) (-C) := ⟨by have := h.c; omega, by rw [Int.mul_neg, Int.neg_mul, h.a], by rw [Int.mul_neg, Int.neg_mul, h.b]⟩
structure HB (z x y : N3) : Prop where
  ex : ∃ p q C : Int, 0 < p ∧ 0 < q ∧ 0 < C ∧ Rep z (p * x.a + q * y.a) (p * x.b + q * y.b) C
theorem HB.pos (hd : bz d) (oz : Ok z) (h : HB z x y) (hx : sg d x.a x.b = 1) (hy : sg d y.a y.b = 1) : sg d z.a z.b = 1 := by
  obtain ⟨p, q, C, hp, hq, hC, r⟩ := h.ex
  rw [r.sg hd oz hC, ip hd]
  refine HI hd ?_ ?_
  · rw [← ip hd, kK hd hp]; exact hx
  · rw [← ip hd, kK hd hq]; exact hy
end
end NM
set_option Elab.async false
set_option linter.all false
set_option maxRecDepth 100000
set_option maxHeartbeats 4000000
namespace L2.DL
open PySem PySem.Spec PyProof.Rows
abbrev Mu := Addr → Option (List PyData)
abbrev PQ := PySem.W.Frag → V → Mu → Hp → Prop
inductive D where
  | v (x : PyData)
  | m (a : Addr)
  | s (ns : List Int)
  /-- an object that is handed on -/
  | o (a : Addr)
  /-- a thing of which something is known that stays -/
  | q (P : PQ)
abbrev Rho := List (Option D)
def ao (μ : Mu) (a : Addr) (ds : List PyData) : Mu := fun b => if b = a then some ds else μ b
theorem aB {μ : Mu} {a : Addr} {ds} : ao μ a ds a = some ds := by unfold ao; rw [if_pos rfl]
theorem aJ {μ : Mu} {a b : Addr} {ds} (h : b ≠ a) : ao μ a ds b = μ b := by unfold ao; rw [if_neg h]
theorem i9 {μ : Mu} {a : Addr} {ds es} : ao (ao μ a ds) a es = ao μ a es := by
  funext b; unfold ao; split <;> rfl
mutual
inductive Rp (K : PySem.W.Frag) (μ : Mu) (H : Hp) : PyData → V → Prop
  | none : Rp K μ H .none .non
  | bool (b : Bool) : Rp K μ H (.bool b) (.bl b)
  | int (i : Int) : Rp K μ H (.int i) (.int i)
  | str (x : Str) : Rp K μ H (.str x) (.str x)
  | list {a : Addr} {xs : List V} {ds : List PyData} : H a = some (.lst xs) → μ a = Option.none → RpL K μ H ds xs → Rp K μ H (.list ds) (.ref a)
  | tuple {a : Addr} {xs : List V} {ds : List PyData} : SqT K H a xs → RpL K μ H ds xs → Rp K μ H (.tuple ds) (.ref a)
inductive RpL (K : PySem.W.Frag) (μ : Mu) (H : Hp) : List PyData → List V → Prop
  | nil : RpL K μ H [] []
  | cons {d : PyData} {v : V} {ds : List PyData} {vs : List V} : Rp K μ H d v → RpL K μ H ds vs → RpL K μ H (d :: ds) (v :: vs)
end
def NT : HO → Prop
  | .tbl _ => False
  | _ => True
structure Ext (K : PySem.W.Frag) (μ : Mu) (H : Hp) (μ' : Mu) (H' : Hp) : Prop where
  keep : ∀ b o, H b = some o → μ b = none → NT o → H' b = some o
  tb : ∀ b ps, H b = some (.tbl ps) → μ b = none → ∃ ps', H' b = some (.tbl ps')
  dom : ∀ b ds, μ b = some ds → ∃ es, μ' b = some es
  fresh : ∀ b, μ b = none → (H b ≠ none ∨ K.lookup b ≠ none) → μ' b = none
def RpD (K : PySem.W.Frag) (μ : Mu) (H : Hp) : D → V → Prop
  | .v x, u => Rp K μ H x u
  | .m a, u => u = .ref a ∧ ∃ ds, μ a = some ds
  | .s ns, u => ∃ a, u = .ref a ∧ SqL K H a (ns.map V.int) ∧ μ a = none
  | .o a, u => u = .ref a
  | .q P, u => ∀ μ' H', Ext K μ H μ' H' → P K u μ' H'
def codeAt (c : Addr) (q : Str) (h : Heap) : Prop := ∃ o vs t, h.get? c = some o ∧ o.data = .fields vs ∧ vs[1]? = some (.str q t)
abbrev aM (q : Str) : Str := (q ++ ".<locals>.") ++ "<lambda>"
def Jk (H : Hp) (P : Addr) (q : Str) : Prop := ∃ ps : Array Value, H P = some (.tbl ps) ∧ TriplesOk ps.toList ∧ ∀ pos cv, codeAmong pos ps.toList = some cv → ∃ c, cv = .ref c ∧ H c = some (.ext (codeAt c (aM q)))
def rV (K : PySem.W.Frag) (H : Hp) : Prop := ∀ c o P q, K.lookup c = some o → bc o = some (P, q) → Jk H P q
structure aZ (K : PySem.W.Frag) (μ : Mu) (H : Hp) : Prop where
  lst : ∀ a ds, μ a = some ds → ∃ xs, H a = some (.lst xs) ∧ RpL K μ H ds xs
  tab : rV K H
instance {K : PySem.W.Frag} {μ : Mu} {H : Hp} : CoeFun (aZ K μ H) fun _ => ∀ a ds, μ a = some ds → ∃ xs, H a = some (.lst xs) ∧ RpL K μ H ds xs := ⟨aZ.lst⟩
theorem rV.of {K : PySem.W.Frag} {H H1 : Hp} (t : rV K H) (s : ∀ b o, H b = some o → (∀ xs, o ≠ .lst xs) → H1 b = some o) : rV K H1 := fun c o P q h1 h2 => by
  obtain ⟨ps, a1, a2, a3⟩ := t c o P q h1 h2
  exact ⟨ps, s _ _ a1 (fun _ z => nomatch z), a2, fun pos cv e => let ⟨c, q1, q2⟩ := a3 pos cv e; ⟨c, q1, s _ _ q2 (fun _ z => nomatch z)⟩⟩
def cE (K : PySem.W.Frag) (μ : Mu) (H : Hp) (ρ : Rho) (σ : St) : Prop :=
  ρ.length = σ.length ∧ ∀ (i : Nat) (d : D), ρ[i]? = some (some d) → ∃ u, σ[i]? = some (some u) ∧ RpD K μ H d u
structure St0 (K : PySem.W.Frag) (H : Hp) (ρ : Rho) (μ : Mu) (σ : St) : Prop where
  mu : aZ K μ H
  rho : cE K μ H ρ σ
section
variable {K : PySem.W.Frag} {μ μ1 μ2 : Mu} {H H1 H2 : Hp}
theorem Ext.refl : Ext K μ H μ H := ⟨fun _ _ h _ _ => h, fun _ ps h _ => ⟨ps, h⟩, fun _ ds h => ⟨ds, h⟩, fun _ h _ => h⟩
theorem Ext.trans (a : Ext K μ H μ1 H1) (b : Ext K μ1 H1 μ2 H2) : Ext K μ H μ2 H2 where
  keep := fun c o h n t => b.keep c o (a.keep c o h n t) (a.fresh c n (.inl (by rw [h]; exact fun z => nomatch z))) t
  tb := fun c ps h n => by
    obtain ⟨ps1, h1⟩ := a.tb c ps h n
    exact b.tb c ps1 h1 (a.fresh c n (.inl (by rw [h]; exact fun z => nomatch z)))
  dom := fun c ds h => let ⟨es, q⟩ := a.dom c ds h; b.dom c es q
  fresh := fun c n h => by
    refine b.fresh c (a.fresh c n h) ?_
    rcases h with h | h
    · cases q : H c with
      | none => exact absurd q h
      | some o =>
        by_cases t : NT o
        · exact .inl (by rw [a.keep c o q n t]; exact fun z => nomatch z)
        · cases o with
          | tbl ps =>
            obtain ⟨ps1, h1⟩ := a.tb c ps q n
            exact .inl (by rw [h1]; exact fun z => nomatch z)
          | _ => exact absurd trivial t
    · exact .inr h
theorem Ext.of_same (s : i4 H H1) : Ext K μ H μ H1 := ⟨fun b o h _ _ => s b o h, fun b ps h _ => ⟨ps, s b _ h⟩, fun _ ds h => ⟨ds, h⟩, fun _ h _ => h⟩
theorem aZ.not {a : Addr} {o : HO} (ok : aZ K μ H) (h : H a = some o) (n : ∀ xs, o ≠ .lst xs) : μ a = none := by
  cases q : μ a with
  | none => rfl
  | some ds =>
    obtain ⟨ys, e, _⟩ := ok a ds q
    rw [h] at e
    exact absurd (Option.some.inj e) (n ys)
theorem aZ.free {a : Addr} (ok : aZ K μ H) (h : H a = none) : μ a = none := by
  cases q : μ a with
  | none => rfl
  | some ds =>
    obtain ⟨ys, e, _⟩ := ok a ds q
    rw [h] at e; cases e
theorem uU {a : Addr} {xs : List V} (ok : aZ K μ H) (e : Ext K μ H μ1 H1) (h : SqT K H a xs) : SqT K H1 a xs := by
  rcases h with (h | ⟨o, h⟩) | h
  · exact .inl (.inl (e.keep _ _ h (ok.not h fun _ z => nomatch z) trivial))
  · exact .inl (.inr ⟨o, e.keep _ _ h (ok.not h fun _ z => nomatch z) trivial⟩)
  · exact .inr h
theorem yR {a : Addr} {xs : List V} (e : Ext K μ H μ1 H1) (h : SqL K H a xs) (n : μ a = none) : SqL K H1 a xs ∧ μ1 a = none := by
  rcases h with (h | ⟨o, h⟩) | h
  · exact ⟨.inl (.inl (e.keep _ _ h n trivial)), e.fresh _ n (.inl (by rw [h]; exact fun z => nomatch z))⟩
  · exact ⟨.inl (.inr ⟨o, e.keep _ _ h n trivial⟩), e.fresh _ n (.inl (by rw [h]; exact fun z => nomatch z))⟩
  · obtain ⟨o, its, k, hk, r⟩ := id h
    exact ⟨.inr h, e.fresh _ n (.inr (by rw [hk]; exact fun z => nomatch z))⟩
mutual
theorem Rp.ext {d : PyData} {u : V} (ok : aZ K μ H) (e : Ext K μ H μ1 H1) : Rp K μ H d u → Rp K μ1 H1 d u
  | .none => .none
  | .bool b => .bool b
  | .int i => .int i
  | .str x => .str x
  | .list h n r => .list (e.keep _ _ h n trivial) (e.fresh _ n (.inl (by rw [h]; exact fun z => nomatch z))) (RpL.ext ok e r)
  | .tuple h r => .tuple (uU ok e h) (RpL.ext ok e r)
theorem RpL.ext {ds : List PyData} {us : List V} (ok : aZ K μ H) (e : Ext K μ H μ1 H1) : RpL K μ H ds us → RpL K μ1 H1 ds us
  | .nil => .nil
  | .cons h r => .cons (Rp.ext ok e h) (RpL.ext ok e r)
end
theorem RpD.ext {d : D} {u : V} (ok : aZ K μ H) (e : Ext K μ H μ1 H1) (r : RpD K μ H d u) : RpD K μ1 H1 d u := by
  cases d with
  | v x => exact Rp.ext ok e r
  | m a => obtain ⟨h, ds, q⟩ := r; exact ⟨h, e.dom a ds q⟩
  | s ns => obtain ⟨a, h, q, n⟩ := r; exact ⟨a, h, (yR e q n).1, (yR e q n).2⟩
  | o a => exact r
  | q P => exact fun μ' H' e' => r μ' H' (e.trans e')
theorem cE.ext {ρ : Rho} {σ : St} (ok : aZ K μ H) (e : Ext K μ H μ1 H1) (r : cE K μ H ρ σ) : cE K μ1 H1 ρ σ :=
  ⟨r.1, fun i d h => let ⟨u, h1, h2⟩ := r.2 i d h; ⟨u, h1, h2.ext ok e⟩⟩
theorem RpL.length {ds : List PyData} {us : List V} : RpL K μ H ds us → ds.length = us.length
  | .nil => rfl
  | .cons _ r => congrArg (· + 1) (RpL.length r)
theorem RpL.get {ds : List PyData} {us : List V} : ∀ {i : Nat} {d : PyData}, RpL K μ H ds us → ds[i]? = some d → ∃ u, us[i]? = some u ∧ Rp K μ H d u
  | _, _, .nil, h => by simp at h
  | 0, _, .cons r _, h => by simp at h; subst h; exact ⟨_, rfl, r⟩
  | i + 1, d, .cons _ t, h => by
    obtain ⟨u, h1, h2⟩ := RpL.get (i := i) (d := d) t (by simpa using h)
    exact ⟨u, by simpa using h1, h2⟩
theorem RpL.append {ds es : List PyData} {us ws : List V} : RpL K μ H ds us → RpL K μ H es ws → RpL K μ H (ds ++ es) (us ++ ws)
  | .nil, s => s
  | .cons r t, s => .cons r (RpL.append t s)
theorem RpL.take {ds : List PyData} {us : List V} : ∀ (n : Nat), RpL K μ H ds us → RpL K μ H (ds.take n) (us.take n)
  | 0, _ => by simp; exact .nil
  | _ + 1, .nil => by simp; exact .nil
  | n + 1, .cons r t => .cons r (RpL.take n t)
theorem RpL.drop {ds : List PyData} {us : List V} : ∀ (n : Nat), RpL K μ H ds us → RpL K μ H (ds.drop n) (us.drop n)
  | 0, r => r
  | _ + 1, .nil => by simp; exact .nil
  | n + 1, .cons _ t => RpL.drop n t
theorem RpL.reverse {ds : List PyData} {us : List V} : RpL K μ H ds us → RpL K μ H ds.reverse us.reverse
  | .nil => .nil
  | .cons r t => by rw [List.reverse_cons, List.reverse_cons]; exact (RpL.reverse t).append (.cons r .nil)
theorem RpL.set {ds : List PyData} {us : List V} {d : PyData} {u : V} (q : Rp K μ H d u) : ∀ (i : Nat), RpL K μ H ds us → RpL K μ H (ds.set i d) (us.set i u)
  | _, .nil => .nil
  | 0, .cons _ t => .cons q t
  | i + 1, .cons r t => .cons r (RpL.set q i t)
theorem yc {ds : List PyData} {us : List V} {i : Int} {d : PyData} (r : RpL K μ H ds us) (h : atI ds i = some d) : ∃ u, atI us i = some u ∧ Rp K μ H d u := by
  unfold atI at h ⊢
  rw [← r.length]
  cases q : ixN ds.length i with
  | none => rw [q] at h; cases h
  | some j =>
    rw [q] at h
    exact r.get h
abbrev DK := D → Mu → Prop
abbrev DTE := Rho → Mu → DK → Prop
abbrev DTT := Rho → Mu → (Bool → Mu → Prop) → Prop
abbrev DTA := Rho → Mu → (List D → Mu → Prop) → Prop
structure wX where
  nx : Rho → Mu → Prop
  rt : DK
  bk : Rho → Mu → Prop := fun _ _ => False
  ct : Rho → Mu → Prop := fun _ _ => False
abbrev DTS := wX → Rho → Mu → Prop
inductive g9 (K : PySem.W.Frag) (μ : Mu) (H : Hp) : List D → List V → Prop
  | nil : g9 K μ H [] []
  | cons {d : D} {u : V} {ds : List D} {us : List V} : RpD K μ H d u → g9 K μ H ds us → g9 K μ H (d :: ds) (u :: us)
theorem g9.ext {ds : List D} {us : List V} (ok : aZ K μ H) (e : Ext K μ H μ1 H1) : g9 K μ H ds us → g9 K μ1 H1 ds us
  | .nil => .nil
  | .cons h r => .cons (h.ext ok e) (g9.ext ok e r)
theorem g9.length {ds : List D} {us : List V} : g9 K μ H ds us → ds.length = us.length
  | .nil => rfl
  | .cons _ r => congrArg (· + 1) (g9.length r)
end
def mq (K : PySem.W.Frag) (t : TE) (td : DTE) : Prop := ∀ (σ : St) (H : Hp) (ρ : Rho) (μ : Mu) (Qd : DK) (Q : VK), St0 K H ρ μ σ → td ρ μ Qd →
  (∀ d u μ' H', Ext K μ H μ' H' → St0 K H' ρ μ' σ → RpD K μ' H' d u → Qd d μ' → Q u H') → t σ H Q
def C0 (K : PySem.W.Frag) (t : TT) (td : DTT) : Prop := ∀ (σ : St) (H : Hp) (ρ : Rho) (μ : Mu) (Qd : Bool → Mu → Prop) (Q : Bool → Hp → Prop), St0 K H ρ μ σ → td ρ μ Qd →
  (∀ b μ' H', Ext K μ H μ' H' → St0 K H' ρ μ' σ → Qd b μ' → Q b H') → t σ H Q
def E6 (K : PySem.W.Frag) (n : Nat) (t : TA) (td : DTA) : Prop := ∀ (σ : St) (H : Hp) (ρ : Rho) (μ : Mu) (Qd : List D → Mu → Prop) (Q : List V → Hp → Prop), St0 K H ρ μ σ → td ρ μ Qd →
  (∀ ds us μ' H', Ext K μ H μ' H' → St0 K H' ρ μ' σ → g9 K μ' H' ds us → ds.length = n → Qd ds μ' → Q us H') → t σ H Q
def tI (K : PySem.W.Frag) (t : TS) (td : DTS) : Prop := ∀ (σ : St) (H : Hp) (ρ : Rho) (μ : Mu) (Dd : wX) (De : Ends), St0 K H ρ μ σ → td Dd ρ μ →
  (∀ σ' ρ' μ' H', Ext K μ H μ' H' → St0 K H' ρ' μ' σ' → Dd.nx ρ' μ' → De.nx σ' H') →
  (∀ d u μ' H', Ext K μ H μ' H' → aZ K μ' H' → RpD K μ' H' d u → Dd.rt d μ' → De.rt u H') →
  (∀ σ' ρ' μ' H', Ext K μ H μ' H' → St0 K H' ρ' μ' σ' → Dd.bk ρ' μ' → De.bk σ' H') →
  (∀ σ' ρ' μ' H', Ext K μ H μ' H' → St0 K H' ρ' μ' σ' → Dd.ct ρ' μ' → De.ct σ' H') → t De σ H
def DE (X : Cx) (e : Expr) (td : DTE) : Prop := ∃ t, PE X e t ∧ mq X.K t td
def DT (X : Cx) (e : Expr) (td : DTT) : Prop := ∃ t, PT X e t ∧ C0 X.K t td
def DA (X : Cx) (es : List Expr) (td : DTA) : Prop := ∃ t, PA X es t ∧ E6 X.K es.length t td
def DS (X : Cx) (st : Stmt) (td : DTS) : Prop := ∃ t, PS X st t ∧ tI X.K t td
def DSs (X : Cx) (st : List Stmt) (td : DTS) : Prop := ∃ t, PSs X st t ∧ tI X.K t td
section
variable {X : Cx} {a b c : Expr} {ta tb tc : DTE} {pos : Pos}
def ah (i : Nat) : DTE := fun ρ μ Q => match ρ[i]? with
  | some (some d) => Q d μ
  | _ => False
def dC (x : PyData) : DTE := fun _ μ Q => Q (.v x) μ
theorem Ca {K : PySem.W.Frag} (i : Nat) : mq K (Fo i) (ah i) := by
  intro σ H ρ μ Qd Q S h k
  unfold ah at h
  split at h
  · rename_i d e
    obtain ⟨u, h1, h2⟩ := S.rho.2 i d e
    exact ⟨u, h1, k d u μ H .refl S h2 h⟩
  · exact h.elim
theorem dv (i : Nat) {x : Str} {pos : Pos} (hN : X.N[i]? = some x := by rfl) (hv : Vis X.env.scope x := by first | exact Or.inl rfl | exact Or.inr (Or.inl rfl) | exact Or.inr (Or.inr rfl)) (hd : (x == ("__debug__" : Str)) = false := by decide)
    (hcd : (x == ("__classdict__" : Str)) = false := by decide) : DE X (.Name x pos) (ah i) := ⟨_, xZ hN hv hd hcd, Ca i⟩
theorem qF {K : PySem.W.Frag} {x : PyData} {u : V} (h : ∀ μ H, aZ K μ H → Rp K μ H x u) : mq K (tC u) (dC x) := fun σ H ρ μ Qd Q S q k => k (.v x) u μ H .refl S (h μ H S.mu) q
theorem af {i j pos} : DE X (.Constant (.int i) j pos) (dC (.int i)) := ⟨_, Hi, qF fun _ _ _ => .int i⟩
theorem df {i j pos} : DE X (.Constant (.bool i) j pos) (dC (.bool i)) := ⟨_, IF, qF fun _ _ _ => .bool i⟩
theorem GP {j pos} : DE X (.Constant .none j pos) (dC .none) := ⟨_, G0, qF fun _ _ _ => .none⟩
theorem bf {x j pos} : DE X (.Constant (.str x) j pos) (dC (.str x)) := ⟨_, BF, qF fun _ _ _ => .str x⟩
theorem lr {x : Str} {d : PyData} {u : V} {w : Value} {pos : Pos} (hg : Gl X x) (hm : X.mg x = some w) (r : RelV u w) (h : ∀ μ H, aZ X.K μ H → Rp X.K μ H d u) (hd : (x == ("__debug__" : Str)) = false := by decide) : DE X (.Name x pos) (dC d) :=
  ⟨_, yX hg hm r hd, qF h⟩
def da (K : PySem.W.Frag) (rr : R2) (r : D → D → Mu → DK → Prop) : Prop := ∀ (x y : D) (ux uy : V) (H : Hp) (μ : Mu) (Qd : DK) (Q : VK), aZ K μ H → RpD K μ H x ux → RpD K μ H y uy → r x y μ Qd →
  (∀ d u μ' H', Ext K μ H μ' H' → aZ K μ' H' → RpD K μ' H' d u → Qd d μ' → Q u H') → rr ux uy H Q
def dOp (r : D → D → Mu → DK → Prop) (ta tb : DTE) : DTE := fun ρ μ Q => ta ρ μ fun x μ1 => tb ρ μ1 fun y μ2 => r x y μ2 Q
theorem mU {K : PySem.W.Frag} {rr : R2} {r} {t1 t2 : TE} (lo : da K rr r) (la : mq K t1 ta) (lb : mq K t2 tb) : mq K (tOp rr t1 t2) (dOp r ta tb) := by
  intro σ H ρ μ Qd Q S h k
  refine la σ H ρ μ _ _ S h fun x ux μ1 H1 e1 S1 rx h1 => ?_
  refine lb σ H1 ρ μ1 _ _ S1 h1 fun y uy μ2 H2 e2 S2 ry h2 => ?_
  exact lo x y ux uy H2 μ2 _ _ S2.mu (rx.ext S1.mu e2) ry h2 fun d u μ' H' e3 ok r q => k d u μ' H' (e1.trans (e2.trans e3)) ⟨ok, S2.rho.ext S2.mu e3⟩ r q
theorem pA {op : Operator} {rr : R2} {r} (ho : OpR X (binaryOp op) rr) (lo : da X.K rr r) (ha : DE X a ta) (hb : DE X b tb) : DE X (.BinOp a op b pos) (dOp r ta tb) := by
  obtain ⟨t1, p1, l1⟩ := ha
  obtain ⟨t2, p2, l2⟩ := hb
  exact ⟨_, Ir ho p1 p2, mU lo l1 l2⟩
theorem cX {op : CmpOp} {rr : R2} {r} (ho : OpR X (compareOp op) rr) (lo : da X.K rr r) (ha : DE X a ta) (hb : DE X b tb) (hm : behindInMarks op b = false) : DE X (.Compare a [op] [b] pos) (dOp r ta tb) := by
  obtain ⟨t1, p1, l1⟩ := ha
  obtain ⟨t2, p2, l2⟩ := hb
  exact ⟨_, D7 ho p1 p2 hm, mU lo l1 l2⟩
def dB (t : DTE) : DTT := fun ρ μ Q => t ρ μ fun d μ1 => match d with
  | .v (.bool k) => Q k μ1
  | _ => False
theorem lu {K : PySem.W.Frag} {t : TE} {td : DTE} (l : mq K t td) : C0 K (zP t) (dB td) := by
  intro σ H ρ μ Qd Q S h k
  refine l σ H ρ μ _ _ S h fun d u μ1 H1 e1 S1 r q => ?_
  split at q
  · rename_i b
    cases r
    exact ⟨b, rfl, k b μ1 H1 e1 S1 q⟩
  · exact q.elim
theorem aU {op : CmpOp} {rr : R2} {r} (ho : OpR X (compareOp op) rr) (lo : da X.K rr r) (ha : DE X a ta) (hb : DE X b tb) (hm : behindInMarks op b = false) : DT X (.Compare a [op] [b] pos) (dB (dOp r ta tb)) := by
  obtain ⟨t1, p1, l1⟩ := ha
  obtain ⟨t2, p2, l2⟩ := hb
  exact ⟨_, Ee ho p1 p2 hm, lu (mU lo l1 l2)⟩
theorem bw {e : Expr} {td : DTE} (h : DE X e td) (he : ∀ whole, isTrue e X.env whole = (do let v ← whole; standAt e.pos; holding [v] (truthy v)) := by intro _; rfl) : DT X e (dB td) := by
  obtain ⟨t, p, l⟩ := h
  exact ⟨_, GW p he, lu l⟩
def rII (C : Int → Int → Prop) (g : Int → Int → PyData) : D → D → Mu → DK → Prop := fun x y μ Q => match x, y with
  | .v (.int i), .v (.int j) => C i j ∧ Q (.v (g i j)) μ
  | _, _ => False
theorem Em {K : PySem.W.Frag} {C : Int → Int → Prop} {g : Int → Int → V} {gd : Int → Int → PyData} (hg : ∀ μ H i j, Rp K μ H (gd i j) (g i j)) : da K (rI C g) (rII C gd) := by
  intro x y ux uy H μ Qd Q ok rx ry h k
  unfold rII at h
  split at h
  · rename_i i j
    cases rx; cases ry
    exact ⟨i, j, rfl, rfl, h.1, k (.v _) _ μ H .refl ok (hg μ H i j) h.2⟩
  · exact h.elim
def su (g : Int → Int → PyData) : D → D → Mu → DK → Prop := fun x y μ Q => match x, y with
  | .v (.int i), .v (.int j) => Q (.v (g i j)) μ
  | _, _ => False
theorem zH {K : PySem.W.Frag} {g : Int → Int → V} {gd : Int → Int → PyData} (hg : ∀ μ H i j, Rp K μ H (gd i j) (g i j)) : da K (rI0 g) (su gd) := by
  intro x y ux uy H μ Qd Q ok rx ry h k
  unfold su at h
  split at h
  · rename_i i j
    cases rx; cases ry
    exact ⟨i, j, rfl, rfl, k (.v _) _ μ H .refl ok (hg μ H i j) h⟩
  · exact h.elim
abbrev lF (ta tb : DTE) : DTE := dOp (su fun i j => .int (i + j)) ta tb
abbrev nr (ta tb : DTE) : DTE := dOp (su fun i j => .int (i - j)) ta tb
abbrev MulOk (i j : Int) : Prop := IntMulOk i j
abbrev kd (ta tb : DTE) : DTE := dOp (rII MulOk fun i j => .int (i * j)) ta tb
abbrev sI (ta tb : DTE) : DTE := dOp (rII (fun _ j => j ≠ 0) fun i j => .int (i.fmod j)) ta tb
abbrev tG (i j : Int) : Prop := j ≠ 0 ∧ Builtin.divisionGoesByPylong i j = false
abbrev xI (ta tb : DTE) : DTE := dOp (rII tG fun i j => .int (i.fdiv j)) ta tb
abbrev Dy (ta tb : DTE) : DTE := dOp (rII FP fun i j => .int (i ^ j.toNat)) ta tb
theorem D6 : OpR X (binaryOp .Mult) (rI MulOk fun i j => .int (i * j)) := opI fun _ _ _ _ _ _ _ hc q => mul_int q hc
theorem Ef : OpR X (binaryOp .FloorDiv) (rI tG fun i j => .int (i.fdiv j)) := opI fun _ _ _ _ _ _ _ hc q => floordiv_int hc.1 q (.inl hc.2)
theorem dZ (ha : DE X a ta) (hb : DE X b tb) : DE X (.BinOp a .Add b pos) (lF ta tb) := pA AX (zH fun _ _ _ _ => .int _) ha hb
theorem fN (ha : DE X a ta) (hb : DE X b tb) : DE X (.BinOp a .Sub b pos) (nr ta tb) := pA Ha (zH fun _ _ _ _ => .int _) ha hb
theorem fe (ha : DE X a ta) (hb : DE X b tb) : DE X (.BinOp a .Mult b pos) (kd ta tb) := pA D6 (Em fun _ _ _ _ => .int _) ha hb
theorem jV (ha : DE X a ta) (hb : DE X b tb) : DE X (.BinOp a .Mod b pos) (sI ta tb) := pA D8 (Em fun _ _ _ _ => .int _) ha hb
theorem nZ (ha : DE X a ta) (hb : DE X b tb) : DE X (.BinOp a .FloorDiv b pos) (xI ta tb) := pA Ef (Em fun _ _ _ _ => .int _) ha hb
theorem yn (ha : DE X a ta) (hb : DE X b tb) : DE X (.BinOp a .Pow b pos) (Dy ta tb) := pA Gh (Em fun _ _ _ _ => .int _) ha hb
abbrev rLt := su fun i j => .bool (decide (i < j))
abbrev rLe := su fun i j => .bool (decide (i ≤ j))
abbrev rGt := su fun i j => .bool (decide (j < i))
abbrev rGe := su fun i j => .bool (decide (j ≤ i))
theorem de {K : PySem.W.Frag} {p : Int → Int → Bool} : da K (rI0 fun i j => .bl (p i j)) (su fun i j => .bool (p i j)) := zH fun _ _ _ _ => .bool _
def pG (ta : DTE) : DTE := fun ρ μ Q => ta ρ μ fun x μ1 => match x with
  | .v (.int i) => Q (.v (.int (-i))) μ1
  | _ => False
theorem ky (ha : DE X a ta) : DE X (.UnaryOp .USub a pos) (pG ta) := by
  obtain ⟨t1, p1, l1⟩ := ha
  refine ⟨_, Iv FF p1, fun σ H ρ μ Qd Q S h k => ?_⟩
  refine l1 σ H ρ μ _ _ S h fun x ux μ1 H1 e1 S1 rx h1 => ?_
  split at h1
  · rename_i i
    cases rx
    exact ⟨i, rfl, k (.v _) _ μ1 H1 e1 S1 (Rp.int _) h1⟩
  · exact h1.elim
def nM (t u : DTT) : DTT := fun ρ μ Q => t ρ μ fun c μ1 => if c = true then u ρ μ1 Q else Q false μ1
def fi (t u : DTT) : DTT := fun ρ μ Q => t ρ μ fun c μ1 => if c = true then Q true μ1 else u ρ μ1 Q
def cg (t : DTT) : DTT := fun ρ μ Q => t ρ μ fun c μ1 => Q (!c) μ1
def DW (X : Cx) (e : Expr) (td : DTT) : Prop := ∃ t, PW X e t ∧ C0 X.K t td
theorem DW.dt {e : Expr} {td : DTT} (h : DW X e td) : DT X e td := let ⟨t, p, l⟩ := h; ⟨t, p.pt, l⟩
variable {tA tB' : DTT} {rest : List Expr}
theorem pS (ha : DT X a tA) : DW X (.BoolOp .And [a] pos) tA := let ⟨t, p, l⟩ := ha; ⟨t, pw_and1 p, l⟩
theorem cW (ha : DT X a tA) : DW X (.BoolOp .Or [a] pos) tA := let ⟨t, p, l⟩ := ha; ⟨t, pw_or1 p, l⟩
theorem uW (ha : DT X a tA) (hb : DW X (.BoolOp .And (b :: rest) pos) tB') : DW X (.BoolOp .And (a :: b :: rest) pos) (nM tA tB') := by
  obtain ⟨t1, p1, l1⟩ := ha
  obtain ⟨t2, p2, l2⟩ := hb
  refine ⟨_, pw_and p1 p2, fun σ H ρ μ Qd Q S h k => ?_⟩
  refine l1 σ H ρ μ _ _ S h fun c μ1 H1 e1 S1 h1 => ?_
  cases c with
  | true =>
    refine lY (l2 σ H1 ρ μ1 _ _ S1 (by simpa using h1) fun c μ2 H2 e2 S2 h2 => k c μ2 H2 (e1.trans e2) S2 h2)
  | false => exact mV (k false μ1 H1 e1 S1 (by simpa using h1))
theorem cG (ha : DT X a tA) (hb : DW X (.BoolOp .Or (b :: rest) pos) tB') : DW X (.BoolOp .Or (a :: b :: rest) pos) (fi tA tB') := by
  obtain ⟨t1, p1, l1⟩ := ha
  obtain ⟨t2, p2, l2⟩ := hb
  refine ⟨_, pw_or p1 p2, fun σ H ρ μ Qd Q S h k => ?_⟩
  refine l1 σ H ρ μ _ _ S h fun c μ1 H1 e1 S1 h1 => ?_
  cases c with
  | true => exact lY (k true μ1 H1 e1 S1 (by simpa using h1))
  | false =>
    refine mV (l2 σ H1 ρ μ1 _ _ S1 (by simpa using h1) fun c μ2 H2 e2 S2 h2 => k c μ2 H2 (e1.trans e2) S2 h2)
theorem bC (ha : DT X a tA) : DT X (.UnaryOp .Not a pos) (cg tA) := by
  obtain ⟨t1, p1, l1⟩ := ha
  refine ⟨_, Fj p1, fun σ H ρ μ Qd Q S h k => ?_⟩
  exact l1 σ H ρ μ _ _ S h fun c μ1 H1 e1 S1 h1 => k _ μ1 H1 e1 S1 h1
def mD (ta tb : DTE) : DTE := fun ρ μ Q => ta ρ μ fun x μ1 => match x with
  | .v (.bool c) => if c = true then tb ρ μ1 Q else Q (.v (.bool false)) μ1
  | _ => False
def Ji (ta tb : DTE) : DTE := fun ρ μ Q => ta ρ μ fun x μ1 => match x with
  | .v (.bool c) => if c = true then Q (.v (.bool true)) μ1 else tb ρ μ1 Q
  | _ => False
def CP (ta : DTE) : DTE := fun ρ μ Q => ta ρ μ fun x μ1 => match x with
  | .v (.bool c) => Q (.v (.bool (!c))) μ1
  | _ => False
theorem nQ {op} (h : DE X a ta) : DE X (.BoolOp op [a] pos) ta := let ⟨t, p, l⟩ := h; ⟨t, G7 p, l⟩
theorem kr (ha : DE X a ta) (hb : DE X (.BoolOp .And (b :: rest) pos) tb) : DE X (.BoolOp .And (a :: b :: rest) pos) (mD ta tb) := by
  obtain ⟨t1, p1, l1⟩ := ha
  obtain ⟨t2, p2, l2⟩ := hb
  refine ⟨_, GV p1 p2, fun σ H ρ μ Qd Q S h k => ?_⟩
  refine l1 σ H ρ μ _ _ S h fun x ux μ1 H1 e1 S1 rx h1 => ?_
  split at h1
  · rename_i c
    cases rx
    refine ⟨c, rfl, ?_⟩
    cases c with
    | true => exact lY (l2 σ H1 ρ μ1 _ _ S1 (by simpa using h1) fun d u μ2 H2 e2 S2 r2 h2 => k d u μ2 H2 (e1.trans e2) S2 r2 h2)
    | false => exact mV (k (.v _) _ μ1 H1 e1 S1 (Rp.bool false) (by simpa using h1))
  · exact h1.elim
theorem Bf (ha : DE X a ta) : DE X (.UnaryOp .Not a pos) (CP ta) := by
  obtain ⟨t1, p1, l1⟩ := ha
  refine ⟨_, Fq p1, fun σ H ρ μ Qd Q S h k => ?_⟩
  refine l1 σ H ρ μ _ _ S h fun x ux μ1 H1 e1 S1 rx h1 => ?_
  split at h1
  · rename_i c
    cases rx
    exact ⟨c, rfl, k (.v _) _ μ1 H1 e1 S1 (Rp.bool _) h1⟩
  · exact h1.elim
def dIf (t : DTT) (ta tb : DTE) : DTE := fun ρ μ Q => t ρ μ fun c μ1 => if c = true then ta ρ μ1 Q else tb ρ μ1 Q
theorem yP {c : Expr} (hc : DT X c tA) (ha : DE X a ta) (hb : DE X b tb) : DE X (.IfExp c a b pos) (dIf tA ta tb) := by
  obtain ⟨t0, p0, l0⟩ := hc
  obtain ⟨t1, p1, l1⟩ := ha
  obtain ⟨t2, p2, l2⟩ := hb
  refine ⟨_, CW p0 p1 p2, fun σ H ρ μ Qd Q S h k => ?_⟩
  refine l0 σ H ρ μ _ _ S h fun c μ1 H1 e1 S1 h1 => ?_
  cases c with
  | true => exact lY (l1 σ H1 ρ μ1 _ _ S1 (by simpa using h1) fun d u μ2 H2 e2 S2 r2 h2 => k d u μ2 H2 (e1.trans e2) S2 r2 h2)
  | false => exact mV (l2 σ H1 ρ μ1 _ _ S1 (by simpa using h1) fun d u μ2 H2 e2 S2 r2 h2 => k d u μ2 H2 (e1.trans e2) S2 r2 h2)
end
open PySem PySem.Spec PyProof.Rows
section
variable {K : PySem.W.Frag} {μ μ1 : Mu} {H H1 : Hp} {p : Addr}
theorem bL {o : HO} (h : H p = none) : Ext K μ H μ (upd H p o) :=
  ⟨fun b u e _ _ => by rw [aT (aG e h)]; exact e, fun b ps e _ => ⟨ps, by rw [aT (aG e h)]; exact e⟩, fun _ ds q => ⟨ds, q⟩, fun _ q _ => q⟩
theorem aZ.xU (ok : aZ K μ H) (e : Ext K μ H μ H1) (s : i4 H H1) : aZ K μ H1 := ⟨fun a ds q => by
  obtain ⟨xs, h1, h2⟩ := ok a ds q
  exact ⟨xs, s _ _ h1, h2.ext ok e⟩, ok.tab.of fun b o h _ => s b o h⟩
theorem Br {o : HO} (h : H p = none) : i4 H (upd H p o) := fun b u q => by rw [aT (aG q h)]; exact q
theorem aZ.new {o : HO} (ok : aZ K μ H) (h : H p = none) : aZ K μ (upd H p o) := ok.xU (bL h) (Br h)
theorem St0.new {o : HO} {ρ : Rho} {σ : St} (S : St0 K H ρ μ σ) (h : H p = none) : St0 K (upd H p o) ρ μ σ := ⟨S.mu.new h, S.rho.ext S.mu (bL h)⟩
theorem fA {us : List V} {ds : List PyData} (ok : aZ K μ H) (r : RpL K μ H ds us) (h : H p = none) : Rp K μ (upd H p (.tup us)) (.tuple ds) (.ref p) :=
  .tuple (SqT.of bB) (r.ext ok (bL h))
theorem fD {us : List V} {ds : List PyData} (ok : aZ K μ H) (r : RpL K μ H ds us) (h : H p = none) : Rp K μ (upd H p (.lst us)) (.list ds) (.ref p) :=
  .list bB (ok.free h) (r.ext ok (bL h))
theorem dq {o : HO} {ds : List PyData} (ok : aZ K μ H) (h : H p = none) (hk : K.lookup p = none) : Ext K μ H (ao μ p ds) (upd H p o) where
  keep := fun b u e _ _ => by rw [aT (aG e h)]; exact e
  tb := fun b ps e _ => ⟨ps, by rw [aT (aG e h)]; exact e⟩
  dom := fun b es q => by
    have : b ≠ p := fun z => by rw [z, ok.free h] at q; cases q
    exact ⟨es, by rw [aJ this]; exact q⟩
  fresh := fun b n q => by
    have : b ≠ p := fun z => by
      rcases q with q | q
      · exact q (by rw [z]; exact h)
      · exact q (by rw [z]; exact hk)
    rw [aJ this]; exact n
theorem aZ.mut {us : List V} {ds : List PyData} (ok : aZ K μ H) (r : RpL K μ H ds us) (h : H p = none) (hk : K.lookup p = none) : aZ K (ao μ p ds) (upd H p (.lst us)) := ⟨fun a es q => by
  have e := dq (o := .lst us) (ds := ds) ok h hk
  by_cases ha : a = p
  · subst ha
    rw [aB] at q
    cases q
    exact ⟨us, bB, r.ext ok e⟩
  · rw [aJ ha] at q
    obtain ⟨xs, h1, h2⟩ := ok a es q
    exact ⟨xs, by rw [aT ha]; exact h1, h2.ext ok e⟩, ok.tab.of fun b o e _ => by rw [aT (aG e h)]; exact e⟩
theorem gS {o : HO} {ds es : List PyData} (h : μ p = some ds) : Ext K μ H (ao μ p es) (upd H p o) where
  keep := fun b u e n _ => by
    have : b ≠ p := fun z => by rw [z, h] at n; cases n
    rw [aT this]; exact e
  tb := fun b ps e n => by
    have : b ≠ p := fun z => by rw [z, h] at n; cases n
    exact ⟨ps, by rw [aT this]; exact e⟩
  dom := fun b fs q => by
    by_cases hb : b = p
    · subst hb; exact ⟨es, aB⟩
    · exact ⟨fs, by rw [aJ hb]; exact q⟩
  fresh := fun b n q => by
    have : b ≠ p := fun z => by rw [z, h] at n; cases n
    rw [aJ this]; exact n
theorem aZ.set {us : List V} {ds es : List PyData} (ok : aZ K μ H) (h : μ p = some ds) (r : RpL K μ H es us) : aZ K (ao μ p es) (upd H p (.lst us)) := ⟨fun a fs q => by
  have e : Ext K μ H (ao μ p es) (upd H p (.lst us)) := gS h
  by_cases ha : a = p
  · subst ha
    rw [aB] at q
    cases q
    exact ⟨us, bB, r.ext ok e⟩
  · rw [aJ ha] at q
    obtain ⟨xs, h1, h2⟩ := ok a fs q
    exact ⟨xs, by rw [aT ha]; exact h1, h2.ext ok e⟩, by
  obtain ⟨ys, hy, _⟩ := ok p ds h
  exact ok.tab.of fun b o e n => by
    have : b ≠ p := fun z => by rw [z, hy] at e; exact n ys (Option.some.inj e).symm
    rw [aT this]; exact e⟩
end
def cq : List D → Option (List PyData)
  | [] => some []
  | .v x :: r => (cq r).map (x :: ·)
  | _ :: _ => none
theorem g9.data {K : PySem.W.Frag} {μ : Mu} {H : Hp} : ∀ {ds : List D} {us : List V} {xs : List PyData}, g9 K μ H ds us → cq ds = some xs → RpL K μ H xs us
  | _, _, _, .nil, e => by cases e; exact .nil
  | .v x :: r, _, xs, .cons h t, e => by
    simp only [cq] at e
    cases q : cq r with
    | none => rw [q] at e; cases e
    | some ys => rw [q] at e; cases e; exact .cons h (g9.data t q)
  | .m _ :: _, _, _, .cons _ _, e => by simp [cq] at e
  | .s _ :: _, _, _, .cons _ _, e => by simp [cq] at e
  | .o _ :: _, _, _, .cons _ _, e => by simp [cq] at e
section
variable {X : Cx} {e : Expr} {es : List Expr} {te : DTE} {t : DTA} {pos : Pos}
def aj : DTA := fun _ μ Q => Q [] μ
def ae (ta : DTE) (tr : DTA) : DTA := fun ρ μ Q => ta ρ μ fun x μ1 => tr ρ μ1 fun xs μ2 => Q (x :: xs) μ2
theorem ag : DA X [] aj := ⟨_, kL, fun σ H ρ μ Qd Q S h k => k [] [] μ H .refl S .nil rfl h⟩
theorem aa (ha : DE X e te) (hr : DA X es t) (hs : starEach (e :: es) X.env = (false, eval e X.env) :: starEach es X.env := by rfl) : DA X (e :: es) (ae te t) := by
  obtain ⟨t1, p1, l1⟩ := ha
  obtain ⟨t2, p2, l2⟩ := hr
  refine ⟨_, fb p1 p2 hs, fun σ H ρ μ Qd Q S h k => ?_⟩
  refine l1 σ H ρ μ _ _ S h fun x ux μ1 H1 e1 S1 rx h1 => ?_
  refine l2 σ H1 ρ μ1 _ _ S1 h1 fun xs us μ2 H2 e2 S2 rs len h2 => ?_
  exact k (x :: xs) (ux :: us) μ2 H2 (e1.trans e2) S2 (.cons (rx.ext S1.mu e2) rs) (by rw [List.length_cons, List.length_cons, len]) h2
def aS (t : DTA) : DTE := fun ρ μ Q => t ρ μ fun ds μ1 => match cq ds with
  | some xs => Q (.v (.tuple xs)) μ1
  | none => False
def jq (t : DTA) : DTE := fun ρ μ Q => t ρ μ fun ds μ1 => match cq ds with
  | some xs => Q (.v (.list xs)) μ1
  | none => False
def wz (t : DTA) : DTE := fun ρ μ Q => t ρ μ fun ds μ1 => match cq ds with
  | some xs => ∀ p, μ1 p = none → Q (.m p) (ao μ1 p xs)
  | none => False
theorem ax {x1} (h : DA X es t) (hl : es.length ≤ 1000 := by decide) : DE X (.Tuple es x1 pos) (aS t) := by
  obtain ⟨t1, p1, l1⟩ := h
  refine ⟨_, Fe p1, fun σ H ρ μ Qd Q S h k => ?_⟩
  refine l1 σ H ρ μ _ _ S h fun ds us μ1 H1 e1 S1 rs len h1 => ?_
  cases q : cq ds with
  | none => rw [q] at h1; exact h1.elim
  | some xs =>
    rw [q] at h1
    refine ⟨Nat.le_of_lt (cx (by rw [← rs.length, len]; exact hl)), fun p hp => ?_⟩
    exact k (.v (.tuple xs)) _ μ1 _ (e1.trans (bL hp)) (S1.new hp) (fA S1.mu (rs.data q) hp) h1
theorem cO (h : DA X es t) (hl : es.length ≤ 1000 := by decide) : DE X (.List es pos) (jq t) := by
  obtain ⟨t1, p1, l1⟩ := h
  refine ⟨_, A3 p1, fun σ H ρ μ Qd Q S h k => ?_⟩
  refine l1 σ H ρ μ _ _ S h fun ds us μ1 H1 e1 S1 rs len h1 => ?_
  cases q : cq ds with
  | none => rw [q] at h1; exact h1.elim
  | some xs =>
    rw [q] at h1
    refine ⟨Nat.le_of_lt (cx (by rw [← rs.length, len]; exact hl)), fun p hp => ?_⟩
    exact k (.v (.list xs)) _ μ1 _ (e1.trans (bL hp)) (S1.new hp) (fD S1.mu (rs.data q) hp) h1
def Ia (K : PySem.W.Frag) (t : TA) : TE := fun σ H Q => t σ H fun xs H1 => xs.length ≤ sizeLine ∧ ∀ p, H1 p = none → K.lookup p = none → Q (.ref p) (upd H1 p (.lst xs))
theorem Dt {t : TA} (h : PA X es t) : PE X (.List es pos) (Ia X.K t) := by
  intro pins s σ H Q I hq
  refine wpAny_List_spliced (thn (h pos pins s σ H _ I hq) fun us s1 ⟨xs, H1, I1, r, z, q⟩ => ⟨by rw [← r.length]; exact z, ?_⟩)
  have hf : H1 s1.heap.objs.size = none := I1.hok.fresh (Nat.le_refl _)
  have hk : X.K.lookup s1.heap.objs.size = none := by
    cases c : X.K.lookup s1.heap.objs.size with
    | none => rfl
    | some o => exact absurd (Heap.lt_size (I1.kIn _ _ c)) (Nat.lt_irrefl _)
  refine ⟨.ref s1.heap.objs.size, upd H1 s1.heap.objs.size (.lst xs), I1.laid (t' := s1.toks) (fun b u e => Heap.get?_push_of_some _ e) (Nat.le_refl _) ?_, rfl, q _ hf hk⟩
  exact ⟨z, us, 0, r, Heap.get?_push_size _ rfl⟩
theorem tO (h : DA X es t) (hl : es.length ≤ 1000 := by decide) : DE X (.List es pos) (wz t) := by
  obtain ⟨t1, p1, l1⟩ := h
  refine ⟨_, Dt p1, fun σ H ρ μ Qd Q S h k => ?_⟩
  refine l1 σ H ρ μ _ _ S h fun ds us μ1 H1 e1 S1 rs len h1 => ?_
  cases q : cq ds with
  | none => rw [q] at h1; exact h1.elim
  | some xs =>
    rw [q] at h1
    refine ⟨Nat.le_of_lt (cx (by rw [← rs.length, len]; exact hl)), fun p hp hk => ?_⟩
    have ex := dq (o := .lst us) (ds := xs) S1.mu hp hk
    exact k (.m p) _ (ao μ1 p xs) _ (e1.trans ex) ⟨S1.mu.mut (rs.data q) hp hk, S1.rho.ext S1.mu ex⟩ ⟨rfl, xs, aB⟩ (h1 p (S1.mu.free hp))
end
section
variable {X : Cx} {pins : List (Addr × Obj)} {σ : St} {H : Hp} {s : Shared} {μ : Mu}
mutual
theorem eZ (I : Inv X pins σ H s) : ∀ {d : PyData} {x : V} {u : Value}, Rp X.K μ H d x → RelV x u → ∃ as, Reads s.heap u d as
  | _, _, _, .none, r => by cases r; exact ⟨_, .none⟩
  | _, _, _, .bool b, r => by cases r; exact ⟨_, .bool b⟩
  | _, _, _, .int i, r => by obtain ⟨t, rfl⟩ := r; exact ⟨_, .int i t⟩
  | _, _, _, .str y, r => by obtain ⟨t, rfl⟩ := r; exact ⟨_, .str y t⟩
  | _, _, _, .list h _ q, r => by
    cases r
    obtain ⟨its, rv, ⟨o, n, ho, hc, _, hd⟩, _⟩ := I.list (SqL.of h)
    obtain ⟨as, ra⟩ := kv I q rv
    exact ⟨_, .list ho hc hd (by simpa using ra)⟩
  | _, _, _, .tuple h q, r => by
    cases r
    obtain ⟨its, rv, ⟨o, ho, hc, n, hd⟩, _⟩ := I.tuple h
    obtain ⟨as, ra⟩ := kv I q rv
    exact ⟨_, .tuple ho hc hd (by simpa using ra)⟩
theorem kv (I : Inv X pins σ H s) : ∀ {ds : List PyData} {xs : List V} {us : List Value}, RpL X.K μ H ds xs → Vals xs us → ∃ as, ReadsAll s.heap us ds as
  | _, _, _, .nil, .nil => ⟨_, .nil⟩
  | _, _, _, .cons h t, .cons r q => by
    obtain ⟨as, ra⟩ := eZ I h r
    obtain ⟨bs, rb⟩ := kv I t q
    exact ⟨_, .cons ra rb⟩
end
end
section
variable {X : Cx}
def D9 (K : PySem.W.Frag) (neg : Bool) : R2 := fun x y H Q => ∃ μ a b, Rp K μ H a x ∧ Rp K μ H b y ∧ SeqAt.shaped a = true ∧ SeqAt.shaped b = true ∧ Q (.bl (neg ^^ PyData.eqv a b)) H
theorem dG (hu : X.A.units + 64 < cLine) : OpR X (compareOp .Eq) (D9 X.K false) := by
  intro pins s σ H x y v u Q I rx ry h
  obtain ⟨μ, a, b, ha, hb, sa, sb, q⟩ := h
  obtain ⟨as, ra⟩ := eZ I ha rx
  obtain ⟨bs, rb⟩ := eZ I hb ry
  exact eq_dataH ra rb sa sb hu ⟨.bl (PyData.eqv a b), H, I, rfl, by simpa using q⟩
theorem fQ (hu : X.A.units + 64 < cLine) : OpR X (compareOp .NotEq) (D9 X.K true) := by
  intro pins s σ H x y v u Q I rx ry h
  obtain ⟨μ, a, b, ha, hb, sa, sb, q⟩ := h
  obtain ⟨as, ra⟩ := eZ I ha rx
  obtain ⟨bs, rb⟩ := eZ I hb ry
  exact ne_dataH ra rb sa sb hu ⟨.bl (!PyData.eqv a b), H, I, rfl, by simpa using q⟩
def cu (neg : Bool) : D → D → Mu → DK → Prop := fun x y μ Q => match x, y with
  | .v a, .v b => SeqAt.shaped a = true ∧ SeqAt.shaped b = true ∧ Q (.v (.bool (neg ^^ PyData.eqv a b))) μ
  | _, _ => False
theorem bA {K : PySem.W.Frag} {neg : Bool} : da K (D9 K neg) (cu neg) := by
  intro x y ux uy H μ Qd Q ok rx ry h k
  unfold cu at h
  split at h
  · rename_i a b
    exact ⟨μ, a, b, rx, ry, h.1, h.2.1, k (.v _) _ μ H .refl ok (Rp.bool _) h.2.2⟩
  · exact h.elim
def FJ (K : PySem.W.Frag) (neg : Bool) : R2 := fun x y H Q => ∃ μ a bs, Rp K μ H a x ∧ Rp K μ H (.list bs) y ∧ PyData.canLayAll0 bs = true ∧ a.canLay0 = true ∧ PyData.depth a ≤ 60 ∧ Q (.bl (neg ^^ bs.any fun b => PyData.eqv b a)) H
theorem Je (hu : X.A.units + 64 < cLine) : OpR X (compareOp .In) (FJ X.K false) := by
  intro pins s σ H x y v u Q I rx ry h
  obtain ⟨μ, a, b, ha, hb, sb, sa, dp, q⟩ := h
  obtain ⟨as, ra⟩ := eZ I ha rx
  obtain ⟨bs, rb⟩ := eZ I hb ry
  refine SeqAt.in_list_reads rb ra sb sa (by omega) ⟨.bl (b.any fun z => PyData.eqv z a), H, I, rfl, by simpa using q⟩
theorem zU (hu : X.A.units + 64 < cLine) : OpR X (compareOp .NotIn) (FJ X.K true) := by
  intro pins s σ H x y v u Q I rx ry h
  obtain ⟨μ, a, b, ha, hb, sb, sa, dp, q⟩ := h
  obtain ⟨as, ra⟩ := eZ I ha rx
  obtain ⟨bs, rb⟩ := eZ I hb ry
  refine SeqAt.notIn_list_reads rb ra sb sa (by omega) ⟨.bl (!b.any fun z => PyData.eqv z a), H, I, rfl, by simpa using q⟩
def Di (neg : Bool) : D → D → Mu → DK → Prop := fun x y μ Q => match x, y with
  | .v a, .v (.list bs) => PyData.canLayAll0 bs = true ∧ a.canLay0 = true ∧ PyData.depth a ≤ 60 ∧ Q (.v (.bool (neg ^^ bs.any fun b => PyData.eqv b a))) μ
  | _, _ => False
theorem G3 {K : PySem.W.Frag} {neg : Bool} : da K (FJ K neg) (Di neg) := by
  intro x y ux uy H μ Qd Q ok rx ry h k
  unfold Di at h
  split at h
  · rename_i a b
    exact ⟨μ, a, b, rx, ry, h.1, h.2.1, h.2.2.1, k (.v _) _ μ H .refl ok (Rp.bool _) h.2.2.2⟩
  · exact h.elim
end
open PySem PySem.Spec PyProof.Rows
section
variable {X : Cx} {a b e : Expr} {es : List Expr} {ta tb te : DTE} {t : DTA} {p pos : Pos}
def aX : D → D → Mu → DK → Prop := fun x y μ Q => match x, y with
  | .v (.list xs), .v (.int i) => (match atI xs i with | some d => Q (.v d) μ | none => False)
  | .v (.tuple xs), .v (.int i) => (match atI xs i with | some d => Q (.v d) μ | none => False)
  | .m l, .v (.int i) => (match μ l with
    | some xs => (match atI xs i with | some d => Q (.v d) μ | none => False)
    | none => False)
  | .s ns, .v (.int i) => (match atI ns i with | some d => Q (.v (.int d)) μ | none => False)
  | _, _ => False
theorem Es {K : PySem.W.Frag} : da K (rIx K) aX := by
  intro x y ux uy H μ Qd Q ok rx ry h k
  unfold aX at h
  split at h
  · rename_i xs i
    cases ry
    cases q : atI xs i with
    | none => rw [q] at h; exact h.elim
    | some d =>
      rw [q] at h
      cases rx with
      | list hs hn r =>
        obtain ⟨u, e1, e2⟩ := yc r q
        exact .inl ⟨_, _, i, u, rfl, rfl, SqL.of hs, e1, k (.v d) u μ H .refl ok e2 h⟩
  · rename_i xs i
    cases ry
    cases q : atI xs i with
    | none => rw [q] at h; exact h.elim
    | some d =>
      rw [q] at h
      cases rx with
      | tuple hs r =>
        obtain ⟨u, e1, e2⟩ := yc r q
        exact .inr (.inl ⟨_, _, i, u, rfl, rfl, hs, e1, k (.v d) u μ H .refl ok e2 h⟩)
  · rename_i l i
    cases ry
    obtain ⟨rfl, ds, hm⟩ := rx
    rw [hm] at h
    simp only at h
    cases q : atI ds i with
    | none => rw [q] at h; exact h.elim
    | some d =>
      rw [q] at h
      obtain ⟨us, hl, r⟩ := ok l ds hm
      obtain ⟨u, e1, e2⟩ := yc r q
      exact .inl ⟨_, _, i, u, rfl, rfl, SqL.of hl, e1, k (.v d) u μ H .refl ok e2 h⟩
  · rename_i ns i
    cases ry
    obtain ⟨a, rfl, hs, hn⟩ := rx
    cases q : atI ns i with
    | none => rw [q] at h; exact h.elim
    | some d =>
      rw [q] at h
      have e1 : atI (ns.map V.int) i = some (.int d) := by
        unfold atI at q ⊢
        rw [List.length_map]
        cases z : ixN ns.length i with
        | none => rw [z] at q; cases q
        | some j =>
          rw [z] at q
          simp only [Option.bind_some, List.getElem?_map] at q ⊢
          rw [q] <;> rfl
      exact .inl ⟨_, _, i, _, rfl, rfl, hs, e1, k (.v (.int d)) _ μ H .refl ok (Rp.int d) h⟩
  · exact h.elim
theorem aW (ha : DE X a ta) (hb : DE X b tb) (hs : uJ b) : DE X (.Subscript a b pos) (dOp aX ta tb) := by
  obtain ⟨t1, p1, l1⟩ := ha
  obtain ⟨t2, p2, l2⟩ := hb
  exact ⟨_, ET BA p1 p2 hs, mU Es l1 l2⟩
theorem B0 {prog : Program} {w : World} {A : Around} {E : Value → Shared → Prop} {s : Shared} {t b : Addr} {ws : List Value} {Q : Value → Shared → Prop} (ht : IsTup s.heap t #[]) (hb : IsTup s.heap b ws.toArray)
    (h1 : Q (.ref b) s) : wpAny (model prog w) A (binaryOp .Add (.ref t) (.ref b)) Q E s := by
  obtain ⟨⟨cls, dd, data, sl⟩, ho, hc, n, hd⟩ := id ht
  obtain ⟨⟨cls2, dd2, data2, sl2⟩, ho2, hc2, n2, hd2⟩ := id hb
  simp only at hc hd hc2 hd2
  subst hc hd hc2 hd2
  exact concat_meets ⟨_, ho, rfl⟩ ⟨_, ho2, rfl⟩ noFill_tuple_add seq_tuple_add PySem.F.slot_tuple_add PySem.F.entry_tuple_add (PySem.F.args_tuple_add_2 _ _)
    (tuple_addW0 t b #[] ws.toArray n n2 dd dd2 sl sl2 rfl) ⟨ho, ho2, h1⟩
def o9 (μ : Mu) : D → Option (List PyData)
  | .v (.list xs) => some xs
  | .m l => μ l
  | _ => none
theorem wj {K : PySem.W.Frag} {μ : Mu} {H : Hp} {x : D} {u : V} {xs : List PyData} (ok : aZ K μ H) (r : RpD K μ H x u) (h : o9 μ x = some xs) : ∃ a us, u = .ref a ∧ H a = some (.lst us) ∧ RpL K μ H xs us := by
  cases x with
  | v d =>
    cases d <;> simp only [o9] at h <;> try cases h
    cases r with
    | list hs _ q => exact ⟨_, _, rfl, hs, q⟩
  | m l =>
    obtain ⟨rfl, ds, hm⟩ := r
    obtain ⟨us, hl, q⟩ := ok l xs h
    exact ⟨l, us, rfl, hl, q⟩
  | s ns => cases h
  | o a => cases h
  | q P => cases h
def xr : D → D → Mu → DK → Prop := fun x y μ Q => match o9 μ x, o9 μ y with
  | some xs, some ys => xs.length + ys.length ≤ 1000 ∧ Q (.v (.list (xs ++ ys))) μ
  | _, _ => False
theorem zl {n : Nat} (h : n ≤ 1000) : n ≤ sizeLine := Nat.le_of_lt (cx h)
theorem Fm {K : PySem.W.Frag} : da K FG xr := by
  intro x y ux uy H μ Qd Q ok rx ry h k
  unfold xr at h
  split at h
  · rename_i xs ys hx hy
    obtain ⟨a, us, rfl, ha, ra⟩ := wj ok rx hx
    obtain ⟨b, ws, rfl, hb, rb⟩ := wj ok ry hy
    refine ⟨a, b, us, ws, rfl, rfl, ha, hb, zl (by rw [← ra.length, ← rb.length]; exact h.1), fun p hp => ?_⟩
    exact k (.v _) _ μ _ (bL hp) (ok.new hp) (fD ok (ra.append rb) hp) h.2
  · exact h.elim
def xS (K : PySem.W.Frag) : R2 := fun x y H Q => ∃ a b xs ys, x = .ref a ∧ y = .ref b ∧ SqT K H a xs ∧ SqT K H b ys ∧ xs.length + ys.length ≤ sizeLine ∧
  (xs = [] → Q (.ref b) H) ∧ (ys = [] → Q (.ref a) H) ∧ (∀ p, H p = none → Q (.ref p) (upd H p (.tup (xs ++ ys))))
theorem By : OpR X (binaryOp .Add) (xS X.K) := by
  intro pins s σ H x y v u Q I rx ry h
  obtain ⟨a, b, xs, ys, rfl, rfl, ha, hb, hz, q0, q1, q2⟩ := h
  by_cases hx : xs = []
  · subst hx
    cases rx
    cases ry
    obtain ⟨its, r1, p1, _⟩ := I.tuple ha
    obtain ⟨its2, r2, p2, _⟩ := I.tuple hb
    cases r1
    exact B0 p1 p2 ⟨.ref b, H, I, rfl, q0 rfl⟩
  · exact DH pins s σ H _ _ v u Q I rx ry ⟨a, b, xs, ys, rfl, rfl, ha, hb, hx, hz, q1, fun _ => q2⟩
def ye : D → D → Mu → DK → Prop := fun x y μ Q => match x, y with
  | .v (.tuple xs), .v (.tuple ys) => xs.length + ys.length ≤ 1000 ∧ Q (.v (.tuple (xs ++ ys))) μ
  | _, _ => False
theorem Du {K : PySem.W.Frag} : da K (xS K) ye := by
  intro x y ux uy H μ Qd Q ok rx ry h k
  unfold ye at h
  split at h
  · rename_i xs ys
    cases id rx with
    | @tuple a us _ ha ra =>
      cases id ry with
      | @tuple b ws _ hb rb =>
        refine ⟨a, b, us, ws, rfl, rfl, ha, hb, zl (by rw [← ra.length, ← rb.length]; exact h.1), fun z => ?_, fun z => ?_, fun p hp => ?_⟩
        · subst z
          cases ra
          exact k (.v _) _ μ H .refl ok ry (by simpa using h.2)
        · subst z
          cases rb
          exact k (.v _) _ μ H .refl ok rx (by simpa using h.2)
        · exact k (.v _) _ μ _ (bL hp) (ok.new hp) (fA ok (ra.append rb) hp) h.2
  · exact h.elim
end
end L2.DL
set_option Elab.async false
set_option linter.all false
set_option maxRecDepth 100000
set_option maxHeartbeats 4000000
namespace HT
open PySem PyProof.Rows
section
variable {prog : Program} {w : World} {A : Around} {E : Value → Shared → Prop} {s : Shared}
theorem mT {t sl : Addr} {items : Array Value} {vl vu : Value} {lo hi : Option Int} {Q : Value → Shared → Prop} (ht : IsTup s.heap t items) (hs : s.heap.IsSliceOf sl vl vu .none) (pl : IsPart vl lo) (pu : IsPart vu hi)
    (hw : sIx items.size 0 lo = 0 ∧ sIx items.size items.size hi = items.size) (h : Q (.ref t) s) : wpAny (model prog w) A (getItem (.ref t) (.ref sl)) Q E s := by
  obtain ⟨os, hos, hcs, hds⟩ := id hs
  have hTs : s.TypeIs (.ref sl) "slice" := ⟨os, hos, hcs⟩
  unfold getItem
  try with_reducible refine wpAny_holding ?_
  first | refine wpAny_bind (wpAny_pure ?_) | skip
  refine wpAny_bind (wpAny_sequenceKey ht.typeIs (by decide) ?_)
  refine wpAny_bind (wpAny_callSpecial?_slot (name := Str.ofString "__getitem__") ht.typeIs PyProof.Rows.slot_tuple_getitem
    (wpAny_call_entry PyProof.Rows.slot_tuple_getitem ht.typeIs entry_tuple_getitem ?_ (args_tuple_getitem _ _)))
  show wpAny _ _ (Builtin.Tuple.tupleItemsOf (.ref t) >>= _) _ _ s
  refine wpAny_bind (tupleItemsOf_ ht ?_)
  refine wpAny_bind (wpAny_typeOf hTs ?_)
  rw [if_pos (by decide)]
  refine wpAny_bind (js hs pl pu ?_)
  have hno : ((((sIx items.size 0 lo : Nat) : Int) == 0 && (1 : Int) == 1 && (sIx items.size items.size hi - sIx items.size 0 lo) == items.size) = true) := by
    rw [hw.1, hw.2]
    simp
  show wpAny _ _ (if (((sIx items.size 0 lo : Nat) : Int) == 0 && (1 : Int) == 1 && (sIx items.size items.size hi - sIx items.size 0 lo) == items.size) = true then _ else _) _ _ s
  rw [if_pos hno]
  refine wpAny_bind ?_
  unfold Builtin.Tuple.tupleIsExact
  refine wpAny_bind (wpAny_typeOf ht.typeIs (wpAny_pure ?_))
  rw [if_pos (by decide)]
  refine wpAny_bind (wpAny_rule ?_)
  exact wpAny_pure ⟨_, rfl, wpAny_pure h⟩
end
end HT
namespace L2.DL
open PySem PySem.Spec PyProof.Rows
section
variable {X : Cx} {a b e : Expr} {lo hi : Option Expr} {ta tb te : DTE} {pos p2 : Pos}
def mf {α : Type} (xs : List α) (lo hi : Option Int) : List α := (xs.drop (HT.sIx xs.length 0 lo)).take (HT.sIx xs.length xs.length hi - HT.sIx xs.length 0 lo)
theorem RpL.cut {K : PySem.W.Frag} {μ : Mu} {H : Hp} {ds : List PyData} {us : List V} {lo hi : Option Int} (r : RpL K μ H ds us) : RpL K μ H (mf ds lo hi) (tU us lo hi) := by
  unfold mf tU
  rw [r.length]
  exact (r.drop _).take _
theorem Dr {α : Type} {xs : List α} {lo hi : Option Int} (h : HT.sIx xs.length 0 lo = 0 ∧ HT.sIx xs.length xs.length hi = xs.length) : mf xs lo hi = xs := by
  unfold mf
  rw [h.1, h.2]
  simp
def IH (K : PySem.W.Frag) : V → Option Int → Option Int → Hp → VK → Prop := fun x lo hi H Q => ∃ a xs, x = .ref a ∧ SqT K H a xs ∧
  (HT.sIx xs.length 0 lo = 0 ∧ HT.sIx xs.length xs.length hi = xs.length → Q (.ref a) H) ∧ ∀ p, H p = none → Q (.ref p) (upd H p (.tup (tU xs lo hi)))
theorem DF : SlR X (IH X.K) := by
  intro pins s σ H x v vl vu lo hi sl Q I rx hs pl pu h
  obtain ⟨a, xs, rfl, hx, q1, q⟩ := h
  by_cases hw : HT.sIx xs.length 0 lo = 0 ∧ HT.sIx xs.length xs.length hi = xs.length
  · cases rx
    obtain ⟨its, r, ht, hz⟩ := I.tuple hx
    have hlen : its.toArray.size = xs.length := by rw [List.size_toArray]; exact r.length.symm
    refine ⟨"tuple", _, PyProof.Rows.slot_tuple_getitem.lookup, ht.typeIs, ?_⟩
    exact HT.mT ht hs pl pu (by rw [hlen]; exact hw) ⟨.ref a, H, I, rfl, q1 hw⟩
  · exact Hf pins s σ H _ v vl vu lo hi sl Q I rx hs pl pu ⟨a, xs, rfl, hx, hw, q⟩
abbrev DTO := Rho → Mu → (Option Int → Mu → Prop) → Prop
def Iw (K : PySem.W.Frag) (t : TO) (td : DTO) : Prop := ∀ (σ : St) (H : Hp) (ρ : Rho) (μ : Mu) (Qd : Option Int → Mu → Prop) (Q : Option Int → Hp → Prop), St0 K H ρ μ σ → td ρ μ Qd →
  (∀ o μ' H', Ext K μ H μ' H' → St0 K H' ρ μ' σ → Qd o μ' → Q o H') → t σ H Q
def DO (X : Cx) (e : Option Expr) (td : DTO) : Prop := ∃ t, PO X e t ∧ Iw X.K t td
def iK : DTO := fun _ μ Q => Q none μ
def o6 (t : DTE) : DTO := fun ρ μ Q => t ρ μ fun x μ1 => match x with
  | .v (.int i) => Q (some i) μ1
  | _ => False
theorem lA : DO X none iK := ⟨_, Ea, fun σ H ρ μ Qd Q S h k => k none μ H .refl S h⟩
theorem lp (h : DE X e te) : DO X (some e) (o6 te) := by
  obtain ⟨t1, p1, l1⟩ := h
  refine ⟨_, Dw p1, fun σ H ρ μ Qd Q S h k => ?_⟩
  refine l1 σ H ρ μ _ _ S h fun x ux μ1 H1 e1 S1 rx h1 => ?_
  split at h1
  · cases rx
    exact ⟨_, rfl, k _ μ1 H1 e1 S1 h1⟩
  · exact h1.elim
def CG (x : D) (lo hi : Option Int) (μ : Mu) (Q : DK) : Prop := match x with
  | .v (.tuple xs) => Q (.v (.tuple (mf xs lo hi))) μ
  | .v (.list xs) => Q (.v (.list (mf xs lo hi))) μ
  | .m l => (match μ l with | some xs => Q (.v (.list (mf xs lo hi))) μ | none => False)
  | _ => False
def dSl (te : DTE) (tl th : DTO) : DTE := fun ρ μ Q => te ρ μ fun x μ1 => tl ρ μ1 fun l μ2 => th ρ μ2 fun u μ3 => CG x l u μ3 Q
theorem jv {tl th : DTO} (he : DE X e te) (hl : DO X lo tl) (hu : DO X hi th) : DE X (.Subscript e (.Slice lo hi none p2) pos) (dSl te tl th) := by
  obtain ⟨t1, p1, l1⟩ := he
  obtain ⟨t2, p2, l2⟩ := hl
  obtain ⟨t3, p3, l3⟩ := hu
  refine ⟨_, BN (Dj.or DF) p1 p2 p3, fun σ H ρ μ Qd Q S h k => ?_⟩
  refine l1 σ H ρ μ _ _ S h fun x ux μ1 H1 e1 S1 rx h1 => ?_
  refine l2 σ H1 ρ μ1 _ _ S1 h1 fun l μ2 H2 e2 S2 h2 => ?_
  refine l3 σ H2 ρ μ2 _ _ S2 h2 fun u μ3 H3 e3 S3 h3 => ?_
  have rx3 := (rx.ext S1.mu e2).ext S2.mu e3
  have ee := e1.trans (e2.trans e3)
  unfold CG at h3
  split at h3
  · rename_i xs
    cases id rx3 with
    | @tuple a us _ ha ra =>
      refine .inr ⟨a, us, rfl, ha, fun hw => ?_, fun p hp => ?_⟩
      · refine k (.v _) _ μ3 H3 ee S3 (show Rp _ _ _ (.tuple (mf xs l u)) _ from ?_) h3
        rw [Dr (by rw [ra.length]; exact hw)]
        exact rx3
      · exact k (.v _) _ μ3 _ (ee.trans (bL hp)) (S3.new hp) (fA S3.mu ra.cut hp) h3
  · rename_i xs
    cases id rx3 with
    | @list a us _ ha hn ra => exact .inl ⟨a, us, rfl, SqL.of ha, fun p hp => k (.v _) _ μ3 _ (ee.trans (bL hp)) (S3.new hp) (fD S3.mu ra.cut hp) h3⟩
  · rename_i a
    obtain ⟨rfl, ds, hm⟩ := rx3
    rw [hm] at h3
    obtain ⟨us, ha, ra⟩ := S3.mu a ds hm
    exact .inl ⟨a, us, rfl, SqL.of ha, fun p hp => k (.v _) _ μ3 _ (ee.trans (bL hp)) (S3.new hp) (fD S3.mu ra.cut hp) h3⟩
  · exact h3.elim
def Ju (te : DTE) : DTE := fun ρ μ Q => te ρ μ fun x μ1 => match x with
  | .v (.tuple xs) => Q (.v (.tuple xs.reverse)) μ1
  | .v (.list xs) => Q (.v (.list xs.reverse)) μ1
  | .m l => (match μ1 l with | some xs => Q (.v (.list xs.reverse)) μ1 | none => False)
  | _ => False
end
open PySem PySem.Spec PyProof.Rows
section
variable {X : Cx} {a b e : Expr} {es : List Expr} {ta tb te : DTE} {t : DTA} {p pos : Pos} {x : Str} {bid T : String}
def k6 (K : PySem.W.Frag) (r : List V → Hp → VK → Prop) (rd : List D → Mu → DK → Prop) : Prop := ∀ (xs : List D) (us : List V) (H : Hp) (μ : Mu) (Qd : DK) (Q : VK), aZ K μ H → g9 K μ H xs us → rd xs μ Qd →
  (∀ d u μ' H', Ext K μ H μ' H' → aZ K μ' H' → RpD K μ' H' d u → Qd d μ' → Q u H') → r us H Q
def dCB (rd : List D → Mu → DK → Prop) (t : DTA) : DTE := fun ρ μ Q => t ρ μ fun ds μ1 => rd ds μ1 Q
theorem yQ {K : PySem.W.Frag} {n : Nat} {r : List V → Hp → VK → Prop} {rd : List D → Mu → DK → Prop} {t1 : TA} (lc : k6 K r rd) (l1 : E6 K n t1 t) : mq K (tCB r t1) (dCB rd t) := by
  intro σ H ρ μ Qd Q S h k
  refine l1 σ H ρ μ _ _ S h fun xs us μ1 H1 e1 S1 rs len h1 => ?_
  exact lc xs us H1 μ1 _ _ S1.mu rs h1 fun d u μ' H' e2 ok r q => k d u μ' H' (e1.trans e2) ⟨ok, S1.rho.ext S1.mu e2⟩ r q
theorem kU {r : List V → Hp → VK → Prop} {rd : List D → Mu → DK → Prop} (hc : eV X (.builtin bid) r) (lc : k6 X.K r rd) (hg : Gl X x) (hm : X.mg x = none) (hv : bootBuiltins x = some (.builtin bid)) (ha : DA X (e :: es) t) (hn : x ≠ "__name__" := by decide) (hdb : (x == ("__debug__" : Str)) = false := by decide)
    (he : starEach (e :: es) X.env = (false, eval e X.env) :: starEach es X.env := by rfl) (hpl : (backTo pos (starEach es X.env)).any (·.1) = false := by rfl) : DE X (.Call (.Name x p) (e :: es) [] pos) (dCB rd t) := by
  obtain ⟨t1, p1, l1⟩ := ha
  exact ⟨_, ng hc hg hm hv p1 hn hdb he hpl, yQ lc l1⟩
theorem lB {r : List V → Hp → VK → Prop} {rd : List D → Mu → DK → Prop} (hc : eV X (.type T) r) (lc : k6 X.K r rd) (hg : Gl X x) (hm : X.mg x = none) (hv : bootBuiltins x = some (.type T)) (ha : DA X (e :: es) t) (hn : x ≠ "__name__" := by decide) (hdb : (x == ("__debug__" : Str)) = false := by decide)
    (he : starEach (e :: es) X.env = (false, eval e X.env) :: starEach es X.env := by rfl) (hpl : (backTo pos (starEach es X.env)).any (·.1) = false := by rfl) : DE X (.Call (.Name x p) (e :: es) [] pos) (dCB rd t) := by
  obtain ⟨t1, p1, l1⟩ := ha
  exact ⟨_, Aa hc hg hm hv p1 hn hdb he hpl, yQ lc l1⟩
def cT : List D → Mu → DK → Prop := fun xs μ Q => match xs with
  | [.v (.list ys)] => Q (.v (.int (ys.length : Nat))) μ
  | [.v (.tuple ys)] => Q (.v (.int (ys.length : Nat))) μ
  | [.m l] => (match μ l with | some ys => Q (.v (.int (ys.length : Nat))) μ | none => False)
  | [.s ns] => Q (.v (.int (ns.length : Nat))) μ
  | _ => False
theorem GQ {K : PySem.W.Frag} : k6 K (fun xs H Q => ∃ p ys, xs = [.ref p] ∧ (SqL K H p ys ∨ SqT K H p ys) ∧ Q (.int ys.length) H) cT := by
  intro xs us H μ Qd Q ok rs h k
  unfold cT at h
  split at h
  · cases rs with
    | cons r1 r2 =>
      cases r2
      cases r1 with
      | list hs hn r => exact ⟨_, _, rfl, .inl (SqL.of hs), k (.v _) _ μ H .refl ok (by rw [← r.length]; exact Rp.int _) h⟩
  · cases rs with
    | cons r1 r2 =>
      cases r2
      cases r1 with
      | tuple hs r => exact ⟨_, _, rfl, .inr hs, k (.v _) _ μ H .refl ok (by rw [← r.length]; exact Rp.int _) h⟩
  · cases rs with
    | cons r1 r2 =>
      cases r2
      obtain ⟨rfl, ds, hm⟩ := r1
      rw [hm] at h
      obtain ⟨us, hl, r⟩ := ok _ ds hm
      exact ⟨_, _, rfl, .inl (SqL.of hl), k (.v _) _ μ H .refl ok (by rw [← r.length]; exact Rp.int _) h⟩
  · cases rs with
    | cons r1 r2 =>
      cases r2
      obtain ⟨a, rfl, hs, hn⟩ := r1
      exact ⟨_, _, rfl, .inl hs, k (.v _) _ μ H .refl ok (by rw [List.length_map]; exact Rp.int _) h⟩
  · exact h.elim
theorem dh (hg : Gl X "len") (hm : X.mg "len" = none) (ha : DA X (e :: es) t)
    (he : starEach (e :: es) X.env = (false, eval e X.env) :: starEach es X.env := by rfl) (hpl : (backTo pos (starEach es X.env)).any (·.1) = false := by rfl) : DE X (.Call (.Name "len" p) (e :: es) [] pos) (dCB cT t) :=
  kU uS GQ hg hm PySem.boot_len ha (by decide) (by decide) he hpl
def mI : List D → Mu → DK → Prop := fun xs μ Q => match xs with
  | [.v (.int i)] => Q (.v (.int (i.natAbs : Nat))) μ
  | _ => False
theorem Fv {K : PySem.W.Frag} : k6 K (fun xs H Q => ∃ i, xs = [.int i] ∧ Q (.int (if i < 0 then -i else i)) H) mI := by
  intro xs us H μ Qd Q ok rs h k
  unfold mI at h
  split at h
  · rename_i i
    cases rs with
    | cons r1 r2 =>
      cases r2
      cases r1
      refine ⟨i, rfl, k (.v (.int (i.natAbs : Nat))) _ μ H .refl ok ?_ h⟩
      have : (if i < 0 then -i else i) = ((i.natAbs : Nat) : Int) := by split <;> omega
      rw [this]
      exact Rp.int _
  · exact h.elim
theorem qA (hg : Gl X "abs") (hm : X.mg "abs" = none) (ha : DA X (e :: es) t)
    (he : starEach (e :: es) X.env = (false, eval e X.env) :: starEach es X.env := by rfl) (hpl : (backTo pos (starEach es X.env)).any (·.1) = false := by rfl) : DE X (.Call (.Name "abs" p) (e :: es) [] pos) (dCB mI t) :=
  kU B4 Fv hg hm PyProof.Rows.Boot.«abs» ha (by decide) (by decide) he hpl
def yh (g : Int → Int → Int) : List D → Mu → DK → Prop := fun xs μ Q => match xs with
  | [.v (.int i), .v (.int j)] => Q (.v (.int (g i j))) μ
  | _ => False
theorem EC {K : PySem.W.Frag} {g g' : Int → Int → Int} (hg : ∀ i j, g i j = g' i j) : k6 K (fun xs H Q => ∃ i j, xs = [.int i, .int j] ∧ Q (.int (g i j)) H) (yh g') := by
  intro xs us H μ Qd Q ok rs h k
  unfold yh at h
  split at h
  · rename_i i j
    cases rs with
    | cons r1 r2 =>
      cases r2 with
      | cons r2 r3 =>
        cases r3
        cases r1
        cases r2
        exact ⟨i, j, rfl, k (.v _) _ μ H .refl ok (by rw [hg]; exact Rp.int _) h⟩
  · exact h.elim
theorem Gn (hc : X.calm = true) (hg : Gl X "max") (hm : X.mg "max" = none) (ha : DA X (e :: es) t)
    (he : starEach (e :: es) X.env = (false, eval e X.env) :: starEach es X.env := by rfl) (hpl : (backTo pos (starEach es X.env)).any (·.1) = false := by rfl) : DE X (.Call (.Name "max" p) (e :: es) [] pos) (dCB (yh max) t) :=
  kU (AQ hc) (EC (fun i j => by show (if j > i then j else i) = max i j; simp only [Int.max_def]; split <;> split <;> omega)) hg hm PyProof.Rows.Boot.«max» ha (by decide) (by decide) he hpl
theorem G9 (hc : X.calm = true) (hg : Gl X "min") (hm : X.mg "min" = none) (ha : DA X (e :: es) t)
    (he : starEach (e :: es) X.env = (false, eval e X.env) :: starEach es X.env := by rfl) (hpl : (backTo pos (starEach es X.env)).any (·.1) = false := by rfl) : DE X (.Call (.Name "min" p) (e :: es) [] pos) (dCB (yh min) t) :=
  kU (AO hc) (EC (fun i j => by show (if j < i then j else i) = min i j; simp only [Int.min_def]; split <;> split <;> omega)) hg hm PyProof.Rows.Boot.«min» ha (by decide) (by decide) he hpl
def lL : List D → Mu → DK → Prop := fun xs μ Q => match xs with
  | [.v (.int i)] => Q (.v (.int i)) μ
  | [.v (.bool k)] => Q (.v (.int (if k then 1 else 0))) μ
  | _ => False
theorem Gi {K : PySem.W.Frag} : k6 K (fun xs H Q => (∃ i, xs = [.int i] ∧ Q (.int i) H) ∨ ∃ k, xs = [.bl k] ∧ Q (.int (if k then 1 else 0)) H) lL := by
  intro xs us H μ Qd Q ok rs h k
  unfold lL at h
  split at h
  · rename_i i
    cases rs with
    | cons r1 r2 => cases r2; cases r1; exact .inl ⟨i, rfl, k (.v _) _ μ H .refl ok (Rp.int _) h⟩
  · rename_i b
    cases rs with
    | cons r1 r2 => cases r2; cases r1; exact .inr ⟨b, rfl, k (.v _) _ μ H .refl ok (Rp.int _) h⟩
  · exact h.elim
theorem kh (hg : Gl X "int") (hm : X.mg "int" = none) (ha : DA X (e :: es) t)
    (he : starEach (e :: es) X.env = (false, eval e X.env) :: starEach es X.env := by rfl) (hpl : (backTo pos (starEach es X.env)).any (·.1) = false := by rfl) : DE X (.Call (.Name "int" p) (e :: es) [] pos) (dCB lL t) :=
  lB Aj Gi hg hm PyProof.Rows.Boot.«int» ha (by decide) (by decide) he hpl
def kz : List D → Mu → DK → Prop := fun xs μ Q => match xs with
  | [.v (.list ys)] => Q (.v (.list ys)) μ
  | [.v (.tuple ys)] => Q (.v (.list ys)) μ
  | _ => False
theorem Ep {K : PySem.W.Frag} : k6 K (fun xs H Q => ∃ p ys, xs = [.ref p] ∧ (SqL K H p ys ∨ SqT K H p ys) ∧ ∀ l, H l = none → Q (.ref l) (upd H l (.lst ys))) kz := by
  intro xs us H μ Qd Q ok rs h k
  unfold kz at h
  split at h
  · cases rs with
    | cons r1 r2 =>
      cases r2
      cases r1 with
      | list hs hn r => exact ⟨_, _, rfl, .inl (SqL.of hs), fun p hp => k (.v _) _ μ _ (bL hp) (ok.new hp) (fD ok r hp) h⟩
  · cases rs with
    | cons r1 r2 =>
      cases r2
      cases r1 with
      | tuple hs r => exact ⟨_, _, rfl, .inr hs, fun p hp => k (.v _) _ μ _ (bL hp) (ok.new hp) (fD ok r hp) h⟩
  · exact h.elim
theorem zB (hg : Gl X "list") (hm : X.mg "list" = none) (ha : DA X (e :: es) t)
    (he : starEach (e :: es) X.env = (false, eval e X.env) :: starEach es X.env := by rfl) (hpl : (backTo pos (starEach es X.env)).any (·.1) = false := by rfl) : DE X (.Call (.Name "list" p) (e :: es) [] pos) (dCB kz t) :=
  lB ua Ep hg hm PyProof.Rows.Boot.«list» ha (by decide) (by decide) he hpl
theorem vR : ∀ {bs : List Bool} {us : List Value}, Vals (bs.map V.bl) us → us = bs.map Value.bool
  | [], _, .nil => rfl
  | b :: r, _, .cons h t => by cases h; rw [vR t]; rfl
theorem Ax (hc : X.calm = true) : eV X (.builtin "all") (fun xs H Q => ∃ (p : Addr) (bs : List Bool), xs = [.ref p] ∧ H p = some (.lst (bs.map V.bl)) ∧ Q (.bl (bs.all id)) H) := by
  intro pins s σ H xs us Q I r h
  obtain ⟨l, bs, rfl, hl, q⟩ := h
  obtain ⟨u, rfl, rx⟩ := vals1 r
  cases rx
  obtain ⟨its, rv, pl, _⟩ := I.list (SqL.of hl)
  have eb := vR rv
  subst eb
  have hL := pl.isList
  have hlt := pl.lt
  refine call_all_walk (wpAny_pyIter_list hL ?_)
  refine ⟨s.heap.objs.size, [s.heap.objs.size, l], [s.heap.objs.size], (bs.map Value.bool).toArray.size, _, _, fun i => (bs[i]?).getD true, rfl, Walks.list (A := X.A.in1) (by exact I.ok.hd hc) _ l (Nat.ne_of_lt hlt) (bs.map Value.bool).toArray,
    ⟨⟨_, Heap.get?_push_size _ rfl, rfl, rfl⟩, hL.push _⟩, fun i v s' Q' E' hP hQ => ?_, fun h' tk hk => ?_⟩
  · have hP' : (bs.map Value.bool)[i]? = some v := by simpa using hP
    rw [List.getElem?_map] at hP'
    cases z : bs[i]? with
    | none => rw [z] at hP'; cases hP'
    | some b =>
      rw [z] at hP'
      cases hP'
      simp only [z, Option.getD_some] at hQ
      exact wpAny_truthy_bool hQ
  · have e : ((List.range (bs.map Value.bool).toArray.size).all fun i => (bs[i]?).getD true) = bs.all id := by
      rw [List.size_toArray, List.length_map]; exact PyProof.Rows.LSm.range_all bs
    rw [e]
    exact ⟨.bl (bs.all id), H, I.kept (PyProof.Rows.LSm.kept_iter hk), rfl, q⟩
def bW : List PyData → Option (List Bool)
  | [] => some []
  | .bool b :: r => (bW r).map (b :: ·)
  | _ :: _ => none
theorem rm {K : PySem.W.Frag} {μ : Mu} {H : Hp} : ∀ {xs : List PyData} {us : List V} {bs : List Bool}, RpL K μ H xs us → bW xs = some bs → us = bs.map V.bl
  | _, _, _, .nil, e => by cases e; rfl
  | .bool b :: r, _, bs, .cons h t, e => by
    simp only [bW] at e
    cases q : bW r with
    | none => rw [q] at e; cases e
    | some cs => rw [q] at e; cases e; cases h; rw [rm t q]; rfl
  | .none :: r, _, bs, .cons h t, e => by simp [bW] at e
  | .int _ :: r, _, bs, .cons h t, e => by simp [bW] at e
  | .str _ :: r, _, bs, .cons h t, e => by simp [bW] at e
  | .list _ :: r, _, bs, .cons h t, e => by simp [bW] at e
  | .tuple _ :: r, _, bs, .cons h t, e => by simp [bW] at e
  | .dict _ :: r, _, bs, .cons h t, e => by simp [bW] at e
def mR : List D → Mu → DK → Prop := fun xs μ Q => match xs with
  | [.v (.list ys)] => (match bW ys with | some bs => Q (.v (.bool (bs.all id))) μ | none => False)
  | _ => False
theorem GC {K : PySem.W.Frag} : k6 K (fun xs H Q => ∃ (p : Addr) (bs : List Bool), xs = [.ref p] ∧ H p = some (.lst (bs.map V.bl)) ∧ Q (.bl (bs.all id)) H) mR := by
  intro xs us H μ Qd Q ok rs h k
  unfold mR at h
  split at h
  · rename_i ys
    cases q : bW ys with
    | none => rw [q] at h; exact h.elim
    | some bs =>
      rw [q] at h
      cases rs with
      | cons r1 r2 =>
        cases r2
        cases r1 with
        | list hs hn r => exact ⟨_, bs, rfl, by rw [hs, rm r q], k (.v _) _ μ H .refl ok (Rp.bool _) h⟩
  · exact h.elim
theorem qg (hc : X.calm = true) (hg : Gl X "all") (hm : X.mg "all" = none) (ha : DA X (e :: es) t)
    (he : starEach (e :: es) X.env = (false, eval e X.env) :: starEach es X.env := by rfl) (hpl : (backTo pos (starEach es X.env)).any (·.1) = false := by rfl) : DE X (.Call (.Name "all" p) (e :: es) [] pos) (dCB mR t) :=
  kU (Ax hc) GC hg hm PyProof.Rows.Boot.«all» ha (by decide) (by decide) he hpl
def tyD : PyData → String
  | .none => "NoneType"
  | .bool _ => "bool"
  | .int _ => "int"
  | .str _ => "str"
  | .list _ => "list"
  | .tuple _ => "tuple"
  | .dict _ => "dict"
def isT (T : String) (d : PyData) : Bool := tyD d == T || (T == "int" && tyD d == "bool")
theorem zZ {pins : List (Addr × Obj)} {σ : St} {H : Hp} {s : Shared} {μ : Mu} {d : PyData} {u : V} {v : Value} {k : Bool} {A : Around} {E : Value → Shared → Prop} {Q : Value → Shared → Prop} (I : Inv X pins σ H s) (r : Rp X.K μ H d u) (rx : RelV u v)
    (ek : PySem.W.kitOne X.K (.type (tyD d)) (.type T) = some k) (h : ∀ tk, Q (.bool k) { s with toks := tk }) : wpAny (model X.prog X.w) A (call (.builtin "isinstance") [v, .type T]) Q E s := by
  cases r with
  | none => cases rx; exact PySem.W.kia_one PySem.W.kitx_none I.kIn True.intro ek (fun z => nomatch z) h
  | bool b => cases rx; exact PySem.W.kia_one PySem.W.kitx_bool I.kIn True.intro ek (fun z => nomatch z) h
  | int i => obtain ⟨t, rfl⟩ := rx; exact PySem.W.kia_one PySem.W.kitx_int I.kIn True.intro ek (fun z => nomatch z) h
  | str y => obtain ⟨t, rfl⟩ := rx; exact PySem.W.kia_one PySem.W.kitx_str I.kIn True.intro ek (fun z => nomatch z) h
  | list hs hn q =>
    cases rx
    obtain ⟨its, rv, ⟨o, n, h1, h2, _⟩, _⟩ := I.list (SqL.of hs)
    exact PySem.W.kia_one PySem.W.kitx_list I.kIn ⟨o, h1, h2⟩ ek (fun z => nomatch z) h
  | tuple hs q =>
    cases rx
    obtain ⟨its, rv, ⟨o, h1, h2, _⟩, _⟩ := I.tuple hs
    exact PySem.W.kia_one PySem.W.kitx_tuple I.kIn ⟨o, h1, h2⟩ ek (fun z => nomatch z) h
theorem zE (K : PySem.W.Frag) (d : PyData) : PySem.W.kitOne K (.type (tyD d)) (.type "int") = some (isT "int" d) := by cases d <;> rfl
theorem qc (K : PySem.W.Frag) (d : PyData) : PySem.W.kitOne K (.type (tyD d)) (.type "bool") = some (isT "bool" d) := by cases d <;> rfl
theorem kit_tuple (K : PySem.W.Frag) (d : PyData) : PySem.W.kitOne K (.type (tyD d)) (.type "tuple") = some (isT "tuple" d) := by cases d <;> rfl
theorem we (kt : ∀ d, PySem.W.kitOne X.K (.type (tyD d)) (.type T) = some (isT T d)) : eV X (.builtin "isinstance") (fun xs H Q => ∃ μ d u, xs = [u, .ty T] ∧ Rp X.K μ H d u ∧ Q (.bl (isT T d)) H) := by
  intro pins s σ H xs us Q I r h
  obtain ⟨μ, d, u, rfl, rd, q⟩ := h
  obtain ⟨v, w', rfl, r1, r2⟩ := vals2 r
  cases r2
  exact zZ I rd r1 (kt d) fun tk => ⟨.bl (isT T d), H, I.tok _, rfl, q⟩
def ow (T : String) (te : DTE) : DTE := fun ρ μ Q => te ρ μ fun x μ1 => match x with
  | .v d => Q (.v (.bool (isT T d))) μ1
  | _ => False
theorem fw {y : Str} {py : Pos} (kt : ∀ d, PySem.W.kitOne X.K (.type (tyD d)) (.type T) = some (isT T d)) (hg : Gl X "isinstance") (hm : X.mg "isinstance" = none) (hgy : Gl X y) (hmy : X.mg y = none) (hvy : bootBuiltins y = some (.type T)) (ha : DE X e te)
    (hny : y ≠ "__name__" := by decide) (hdy : (y == ("__debug__" : Str)) = false := by decide)
    (he : starEach [e, .Name y py] X.env = (false, eval e X.env) :: starEach [.Name y py] X.env := by rfl) (he2 : starEach [.Name y py] X.env = [(false, eval (.Name y py) X.env)] := by rfl) (hpl : (backTo pos (starEach [.Name y py] X.env)).any (·.1) = false := by rfl) : DE X (.Call (.Name "isinstance" p) [e, .Name y py] [] pos) (ow T te) := by
  obtain ⟨t1, p1, l1⟩ := ha
  refine ⟨_, ng (we kt) hg hm PyProof.Rows.Boot.«isinstance» (fb p1 (fb (zy (v := .ty T) hgy hmy hvy rfl hny hdy) kL he2) he) (by decide) (by decide) he hpl, fun σ H ρ μ Qd Q S h k => ?_⟩
  refine l1 σ H ρ μ _ _ S h fun x ux μ1 H1 e1 S1 rx h1 => ?_
  split at h1
  · exact ⟨μ1, _, ux, rfl, rx, k (.v _) _ μ1 H1 e1 S1 (Rp.bool _) h1⟩
  · exact h1.elim
def isC : PyData → PyData → Option Bool
  | .bool a, .bool b => some (a == b)
  | .none, .none => some true
  | _, _ => none
def Ih : R2 := fun x y H Q => (∃ i j, x = .bl i ∧ y = .bl j ∧ Q (.bl (i == j)) H) ∨ (x = .non ∧ y = .non ∧ Q (.bl true) H)
theorem B1 : OpR X (compareOp .Is) Ih := by
  intro pins s σ H x y v u Q I rx ry h
  rcases h with ⟨i, j, rfl, rfl, q⟩ | ⟨rfl, rfl, q⟩
  · cases rx; cases ry
    exact wpAny_is_plain rfl ⟨.bl (i == j), H, I, by cases i <;> cases j <;> rfl, q⟩
  · cases rx; cases ry
    exact wpAny_is_plain rfl ⟨.bl true, H, I, rfl, q⟩
def Ae : D → D → Mu → DK → Prop := fun x y μ Q => match x, y with
  | .v (.bool i), .v (.bool j) => Q (.v (.bool (i == j))) μ
  | .v .none, .v .none => Q (.v (.bool true)) μ
  | _, _ => False
theorem ER {K : PySem.W.Frag} : da K Ih Ae := by
  intro x y ux uy H μ Qd Q ok rx ry h k
  unfold Ae at h
  split at h
  · cases rx; cases ry; exact .inl ⟨_, _, rfl, rfl, k (.v _) _ μ H .refl ok (Rp.bool _) h⟩
  · cases rx; cases ry; exact .inr ⟨rfl, rfl, k (.v _) _ μ H .refl ok (Rp.bool _) h⟩
  · exact h.elim
end
open PySem PySem.Spec PyProof.Rows
section
variable {X : Cx} {a b e : Expr} {es : List Expr} {ta tb te : DTE} {t : DTA} {p pos : Pos} {st : Stmt} {rest sts : List Stmt} {td ud : DTS} {tc : DTT}
def bu : DTS := fun Dd ρ μ => Dd.nx ρ μ
def aQ (t u : DTS) : DTS := fun Dd ρ μ => t { Dd with nx := u Dd } ρ μ
def bh (te : DTE) : DTS := fun Dd ρ μ => te ρ μ Dd.rt
def qU (te : DTE) : DTS := fun Dd ρ μ => te ρ μ fun _ μ1 => Dd.nx ρ μ1
def cB (c : DTT) (t u : DTS) : DTS := fun Dd ρ μ => c ρ μ fun b μ1 => if b = true then t Dd ρ μ1 else u Dd ρ μ1
theorem aV : DSs X [] bu := ⟨_, Ej, fun σ H ρ μ Dd De S h k1 k2 k3 k4 => k1 σ ρ μ H .refl S h⟩
theorem av (h : DS X st td) : DSs X [st] td := let ⟨t, p, l⟩ := h; ⟨t, D0 p, l⟩
theorem lift_seq {K : PySem.W.Frag} {t u : TS} (l1 : tI K t td) (l2 : tI K u ud) : tI K (HJ t u) (aQ td ud) := by
  intro σ H ρ μ Dd De S h k1 k2 k3 k4
  refine l1 σ H ρ μ _ _ S h (fun σ' ρ' μ' H' e' S' h' => ?_) k2 k3 k4
  exact l2 σ' H' ρ' μ' Dd De S' h' (fun a b c d e2 => k1 a b c d (e'.trans e2)) (fun a b c d e2 => k2 a b c d (e'.trans e2)) (fun a b c d e2 => k3 a b c d (e'.trans e2)) (fun a b c d e2 => k4 a b c d (e'.trans e2))
theorem ai (h1 : DS X st td) (h2 : DSs X rest ud) : DSs X (st :: rest) (aQ td ud) := by
  obtain ⟨t1, p1, l1⟩ := h1
  obtain ⟨t2, p2, l2⟩ := h2
  exact ⟨_, qZ p1 p2, lift_seq l1 l2⟩
theorem aH (he : DE X e te) : DS X (.Return (some e) pos) (bh te) := by
  obtain ⟨t1, p1, l1⟩ := he
  exact ⟨_, G8 p1, fun σ H ρ μ Dd De S h k1 k2 k3 k4 => l1 σ H ρ μ _ _ S h fun d u μ' H' e' S' r q => k2 d u μ' H' e' S'.mu r q⟩
theorem nj (he : DE X e te) (hs : swapsWith e none pos.line X.env = pure false := by rfl) : DS X (.Expr e pos) (qU te) := by
  obtain ⟨t1, p1, l1⟩ := he
  exact ⟨_, yG p1 hs, fun σ H ρ μ Dd De S h k1 k2 k3 k4 => l1 σ H ρ μ _ _ S h fun d u μ' H' e' S' r q => k1 σ ρ μ' H' e' S' q⟩
theorem bG {c : Expr} {x y : List Stmt} (hc : DT X c tc) (ha : DSs X x td) (hb : DSs X y ud) : DS X (.If c x y pos) (cB tc td ud) := by
  obtain ⟨t0, p0, l0⟩ := hc
  obtain ⟨t1, p1, l1⟩ := ha
  obtain ⟨t2, p2, l2⟩ := hb
  refine ⟨_, E2 p0 p1 p2, fun σ H ρ μ Dd De S h k1 k2 k3 k4 => ?_⟩
  refine l0 σ H ρ μ _ _ S h fun c μ1 H1 e1 S1 h1 => ?_
  cases c with
  | true => exact lY (l1 σ H1 ρ μ1 Dd De S1 (by simpa using h1) (fun a b c d e2 => k1 a b c d (e1.trans e2)) (fun a b c d e2 => k2 a b c d (e1.trans e2)) (fun a b c d e2 => k3 a b c d (e1.trans e2)) (fun a b c d e2 => k4 a b c d (e1.trans e2)))
  | false => exact mV (l2 σ H1 ρ μ1 Dd De S1 (by simpa using h1) (fun a b c d e2 => k1 a b c d (e1.trans e2)) (fun a b c d e2 => k2 a b c d (e1.trans e2)) (fun a b c d e2 => k3 a b c d (e1.trans e2)) (fun a b c d e2 => k4 a b c d (e1.trans e2)))
abbrev DTG := D → Rho → Mu → (Rho → Mu → Prop) → Prop
abbrev sA := List PyData → Rho → Mu → (Rho → Mu → Prop) → Prop
def BR (K : PySem.W.Frag) (g : TG) (gd : DTG) : Prop := ∀ (σ : St) (H : Hp) (ρ : Rho) (μ : Mu) (d : D) (u : V) (Qd : Rho → Mu → Prop) (Q : St → Hp → Prop), St0 K H ρ μ σ → RpD K μ H d u → gd d ρ μ Qd →
  (∀ σ' ρ' μ' H', Ext K μ H μ' H' → St0 K H' ρ' μ' σ' → Qd ρ' μ' → Q σ' H') → g u σ H Q
def Gw (K : PySem.W.Frag) (g : TGs) (gd : sA) : Prop := ∀ (σ : St) (H : Hp) (ρ : Rho) (μ : Mu) (ds : List PyData) (us : List V) (Qd : Rho → Mu → Prop) (Q : St → Hp → Prop), St0 K H ρ μ σ → RpL K μ H ds us → gd ds ρ μ Qd →
  (∀ σ' ρ' μ' H', Ext K μ H μ' H' → St0 K H' ρ' μ' σ' → Qd ρ' μ' → Q σ' H') → g us σ H Q
def DG (X : Cx) (tg : Expr) (gd : DTG) : Prop := ∃ g, PG X tg g ∧ BR X.K g gd
def DGs (X : Cx) (tg : List Expr) (gd : sA) : Prop := ∃ g, PGs X tg g ∧ Gw X.K g gd
theorem cE.set {K : PySem.W.Frag} {μ : Mu} {H : Hp} {ρ : Rho} {σ : St} {i : Nat} {d : D} {u : V} (r : cE K μ H ρ σ) (h : RpD K μ H d u) : cE K μ H (ρ.set i (some d)) (σ.set i (some u)) := by
  refine ⟨by rw [List.length_set, List.length_set]; exact r.1, fun j d' e => ?_⟩
  by_cases hj : i = j
  · subst hj
    have hl : i < ρ.length := by
      have := (List.getElem?_eq_some_iff.mp e).1
      rw [List.length_set] at this
      exact this
    rw [List.getElem?_set_self hl] at e
    cases e
    exact ⟨u, List.getElem?_set_self (by rw [← r.1]; exact hl), h⟩
  · rw [List.getElem?_set_ne hj] at e
    obtain ⟨w, e1, e2⟩ := r.2 j d' e
    exact ⟨w, by rw [List.getElem?_set_ne hj]; exact e1, e2⟩
def aw (i : Nat) : DTG := fun d ρ μ Q => Q (ρ.set i (some d)) μ
theorem qG {K : PySem.W.Frag} {i : Nat} : BR K (C8 i) (aw i) := fun σ H ρ μ d u Qd Q S r h k => k _ _ μ H .refl ⟨S.mu, S.rho.set r⟩ h
theorem aK {i : Nat} {x : Str} (hN : X.N.Nodup) (hi : X.N[i]? = some x) (hx : Loc X.env.scope x) (hf : X.fn x = true ∨ X.env.scope.names.lookup x = some .local := by first | exact .inl rfl | exact .inr rfl | assumption) : DG X (.Name x pos) (aw i) := ⟨_, Eb hN hi hx hf, qG⟩
def gQ : sA := fun ds ρ μ Q => match ds with
  | [] => Q ρ μ
  | _ => False
def ba (g : DTG) (gs : sA) : sA := fun ds ρ μ Q => match ds with
  | d :: r => g (.v d) ρ μ fun ρ1 μ1 => gs r ρ1 μ1 Q
  | _ => False
theorem dE : DGs X [] gQ := ⟨_, Dm, fun σ H ρ μ ds us Qd Q S r h k => by
  cases r with
  | nil => exact ⟨rfl, k σ ρ μ H .refl S h⟩
  | cons _ _ => exact h.elim⟩
theorem aP {g : DTG} {gs : sA} (h1 : DG X e g) (h2 : DGs X es gs) (hs : (assignEach (e :: es) X.env).map (·.2) = assign e X.env :: (assignEach es X.env).map (·.2) := by rfl) : DGs X (e :: es) (ba g gs) := by
  obtain ⟨t1, p1, l1⟩ := h1
  obtain ⟨t2, p2, l2⟩ := h2
  refine ⟨_, Bc p1 p2 hs, fun σ H ρ μ ds us Qd Q S r h k => ?_⟩
  cases r with
  | nil => exact h.elim
  | @cons d u ds us r1 r2 =>
    refine ⟨u, us, rfl, l1 σ H ρ μ (.v d) u _ _ S r1 h fun σ' ρ' μ' H' e1 S' h1 => ?_⟩
    exact l2 σ' H' ρ' μ' ds us _ _ S' (r2.ext S.mu e1) h1 fun a b c d e2 => k a b c d (e1.trans e2)
def gw (n : Nat) (gs : sA) : DTG := fun d ρ μ Q => match d with
  | .v (.tuple xs) => xs.length = n ∧ gs xs ρ μ Q
  | _ => False
theorem fE {k n : Nat} {gs : sA} (hc : X.calm = X.calm) (h : DGs X es gs)
    (hn : (assignEach es X.env).length = n := by rfl) (hst : (assignEach es X.env).findIdx? (·.1) = none := by rfl) : DG X (.Tuple es k pos) (gw n gs) := by
  obtain ⟨t1, p1, l1⟩ := h
  refine ⟨_, GZ hc p1 hn hst, fun σ H ρ μ d u Qd Q S r h k => ?_⟩
  unfold gw at h
  split at h
  · cases r with
    | @tuple a us _ ha ra => exact ⟨a, us, rfl, ha, by rw [← ra.length]; exact h.1, l1 σ H ρ μ _ us _ _ S ra h.2 k⟩
  · exact h.elim
def yF (to ti : DTE) : DTG := fun d ρ μ Q => to ρ μ fun o μ1 => ti ρ μ1 fun i μ2 => match o, i, d with
  | .m l, .v (.int k), .v x => (match μ2 l with
    | some xs => (match ixN xs.length k with
      | some j => Q ρ (ao μ2 l (xs.set j x))
      | none => False)
    | none => False)
  | _, _, _ => False
theorem Cz {o i : Expr} {to ti : DTE} (ho : DE X o to) (hi : DE X i ti)
    (ha : ∀ v, assign (.Subscript o i pos) X.env v = (do
      let ov ← holding [v] (eval o X.env)
      let iv ← holding [v, ov] (eval i X.env)
      standAt pos
      holding [v, ov, iv] (setItem ov iv v)
      release [v, ov, iv] []) := by intro _; rfl) : DG X (.Subscript o i pos) (yF to ti) := by
  obtain ⟨t1, p1, l1⟩ := ho
  obtain ⟨t2, p2, l2⟩ := hi
  refine ⟨_, Fl p1 p2 set_list ha, fun σ H ρ μ d u Qd Q S r h k => ?_⟩
  refine l1 σ H ρ μ _ _ S h fun x ux μ1 H1 e1 S1 rx h1 => ?_
  refine l2 σ H1 ρ μ1 _ _ S1 h1 fun y uy μ2 H2 e2 S2 ry h2 => ?_
  have r2 := (r.ext S.mu e1).ext S1.mu e2
  have rx2 := rx.ext S1.mu e2
  split at h2
  · rename_i l kk xv
    obtain ⟨rfl, ds, hm⟩ := rx2
    cases ry
    rw [hm] at h2
    obtain ⟨us, hl, rl⟩ := S2.mu l ds hm
    simp only at h2
    cases q : ixN ds.length kk with
    | none => rw [q] at h2; exact h2.elim
    | some j =>
      rw [q] at h2
      refine ⟨l, us, kk, j, rfl, rfl, hl, by rw [← rl.length]; exact q, ?_⟩
      have ex : Ext X.K μ2 H2 (ao μ2 l (ds.set j xv)) (upd H2 l (.lst (us.set j u))) := gS hm
      exact k σ ρ _ _ (e1.trans (e2.trans ex)) ⟨S2.mu.set hm (rl.set r2 j), S2.rho.ext S2.mu ex⟩ h2
  · exact h2.elim
def bE (te : DTE) (g : DTG) : DTS := fun Dd ρ μ => te ρ μ fun d μ1 => g d ρ μ1 Dd.nx
theorem xB {K : PySem.W.Frag} {t : TE} {g : TG} {gd : DTG} (l1 : mq K t te) (l2 : BR K g gd) : tI K (FR t g) (bE te gd) := by
  intro σ H ρ μ Dd De S h k1 k2 k3 k4
  refine l1 σ H ρ μ _ _ S h fun d u μ1 H1 e1 S1 r h1 => ?_
  exact l2 σ H1 ρ μ1 d u _ _ S1 r h1 fun a b c d e2 => k1 a b c d (e1.trans e2)
theorem hU {tg : Expr} {g : DTG} (he : DE X e te) (hg : DG X tg g) (hs : swapsWithSole [tg] e pos.line X.env = pure false := by rfl) (hw : swappedStores [tg] e X.env = pure none := by rfl)
    (h1 : (assignEach [tg] X.env).map (·.2) = [assign tg X.env] := by rfl) : DS X (.Assign [tg] e pos) (bE te g) := by
  obtain ⟨t1, p1, l1⟩ := he
  obtain ⟨t2, p2, l2⟩ := hg
  exact ⟨_, Ge p1 p2 hs hw h1, xB l1 l2⟩
theorem bb {i : Nat} {x : Str} {pos' : Pos} (hN : X.N.Nodup) (hi : X.N[i]? = some x) (hx : Loc X.env.scope x) (he : DE X e te) (hs : swapsWith e (some (.Name x pos')) pos.line X.env = pure false := by rfl) (hf : X.fn x = true ∨ X.env.scope.names.lookup x = some .local := by first | exact .inl rfl | exact .inr rfl | assumption) :
    DS X (.Assign [.Name x pos'] e pos) (bE te (aw i)) := by
  obtain ⟨t1, p1, l1⟩ := he
  exact ⟨_, Gg hN hi hx p1 hs hf, xB l1 qG⟩
def yb (i j : Nat) (t : DTA) : DTS := fun Dd ρ μ => t ρ μ fun ds μ1 => match ds with
  | [v, w] => Dd.nx ((ρ.set i (some v)).set j (some w)) μ1
  | _ => False
theorem qV {i j : Nat} {x y : Str} {a b : Expr} {t : DTA} {px py pt : Pos} {kt k2 pt2} (hc : X.calm = true) (hN : X.N.Nodup) (hi : X.N[i]? = some x) (hj : X.N[j]? = some y) (hij : i ≠ j)
    (hx : X.env.scope.names.lookup x = some .local) (hy : X.env.scope.names.lookup y = some .local) (ha : DA X [a, b] t)
    (hw : swappedStores [.Tuple [.Name x px, .Name y py] kt pt] (.Tuple [a, b] k2 pt2) X.env = pure (some [x, y]))
    (hs : swapsWithSole [.Tuple [.Name x px, .Name y py] kt pt] (.Tuple [a, b] k2 pt2) pos.line X.env = pure false := by rfl) :
    DS X (.Assign [.Tuple [.Name x px, .Name y py] kt pt] (.Tuple [a, b] k2 pt2) pos) (yb i j t) := by
  obtain ⟨t1, p1, l1⟩ := ha
  refine ⟨_, Hb hc hN hi hj hij hx hy p1 hw hs, fun σ H ρ μ Dd De S h k1 k2 k3 k4 => ?_⟩
  refine l1 σ H ρ μ _ _ S h fun ds us μ1 H1 e1 S1 rs len h1 => ?_
  split at h1
  · cases rs with
    | cons r1 r2 =>
      cases r2 with
      | cons r2 r3 =>
        cases r3
        exact ⟨_, _, rfl, k1 _ _ μ1 H1 e1 ⟨S1.mu, (S1.rho.set r1).set r2⟩ h1⟩
  · exact h1.elim
def yd (c : DTT) (tb : DTS) : DTS := fun Dd ρ μ => ∃ W : Nat → Rho → Mu → Prop, (∃ m, W m ρ μ) ∧ ∀ m ρ μ, W m ρ μ →
  c ρ μ fun b μ1 => if b = true then tb { Dd with nx := fun ρ' μ' => ∃ m', m' < m ∧ W m' ρ' μ', ct := fun ρ' μ' => ∃ m', m' < m ∧ W m' ρ' μ', bk := Dd.nx } ρ μ1 else Dd.nx ρ μ1
theorem wO {c : Expr} {body : List Stmt} (hp : PassesOwn (model X.prog X.w) X.A X.env X.xe) (hc : DT X c tc) (hb : DSs X body td) : DS X (.While c body [] pos) (yd tc td) := by
  obtain ⟨t0, p0, l0⟩ := hc
  obtain ⟨t1, p1, l1⟩ := hb
  refine ⟨_, CZ hp p0 p1, fun σ H ρ μ Dd De S h k1 k2 k3 k4 => ?_⟩
  obtain ⟨W, ⟨m, w0⟩, turn⟩ := h
  refine ⟨fun m σ' H' => ∃ ρ' μ', Ext X.K μ H μ' H' ∧ St0 X.K H' ρ' μ' σ' ∧ W m ρ' μ', ⟨m, ρ, μ, .refl, S, w0⟩, ?_⟩
  rintro m σ1 H1 ⟨ρ1, μ1, e1, S1, w1⟩
  refine l0 σ1 H1 ρ1 μ1 _ _ S1 (turn m ρ1 μ1 w1) fun b μ2 H2 e2 S2 h2 => ?_
  cases b with
  | true =>
    refine lY ⟨fun σ' H' => ∃ m', m' < m ∧ ∃ ρ' μ', Ext X.K μ H μ' H' ∧ St0 X.K H' ρ' μ' σ' ∧ W m' ρ' μ', fun σ' H' ⟨m', hm, q⟩ => ⟨m', hm, q⟩, ?_⟩
    have nxt : ∀ σ' ρ' μ' H', Ext X.K μ2 H2 μ' H' → St0 X.K H' ρ' μ' σ' → (∃ m', m' < m ∧ W m' ρ' μ') → ∃ m', m' < m ∧ ∃ ρ' μ', Ext X.K μ H μ' H' ∧ St0 X.K H' ρ' μ' σ' ∧ W m' ρ' μ' :=
      fun σ' ρ' μ' H' e3 S3 ⟨m', hm, q⟩ => ⟨m', hm, ρ', μ', e1.trans (e2.trans e3), S3, q⟩
    rw [if_pos rfl] at h2
    exact l1 σ1 H2 ρ1 μ2 _ _ S2 h2 nxt (fun a b c d e3 => k2 a b c d (e1.trans (e2.trans e3))) (fun a b c d e3 => k1 a b c d (e1.trans (e2.trans e3))) nxt
  | false => exact mV (k1 σ1 ρ1 μ2 H2 (e1.trans e2) S2 (by simpa using h2))
abbrev DTI := Rho → Mu → (List PyData → Mu → Prop) → Prop
def DJ (K : PySem.W.Frag) (J : It) (xs : List PyData) (μ1 : Mu) (H1 : Hp) : Prop := ∀ μ2 H2, Ext K μ1 H1 μ2 H2 → aZ K μ2 H2 → ∀ i, (i < xs.length → J.go i H2 ∧ ∀ x H', J.yld i H2 x H' → ∃ d, xs[i]? = some d ∧ i4 H2 H' ∧ Rp K μ2 H' d x) ∧ (i = xs.length → J.stop i H2)
def IM (K : PySem.W.Frag) (wi : TI) (src : DTI) : Prop := ∀ (σ : St) (H : Hp) (ρ : Rho) (μ : Mu) (Qd : List PyData → Mu → Prop) (R : It → Hp → Prop), St0 K H ρ μ σ → src ρ μ Qd →
  (∀ xs μ1 H1 J, Ext K μ H μ1 H1 → St0 K H1 ρ μ1 σ → DJ K J xs μ1 H1 → Qd xs μ1 → R J H1) → wi σ H R
def DI (X : Cx) (tg iter : Expr) (src : DTI) : Prop := ∃ wi, PI X tg iter wi ∧ IM X.K wi src
variable {tg : Expr}
def rE (te : DTE) : DTI := fun ρ μ Q => te ρ μ fun d μ1 => match d with
  | .v (.list xs) => Q xs μ1
  | _ => False
def o5 (te : DTE) : DTI := fun ρ μ Q => te ρ μ fun d μ1 => match d with
  | .v (.tuple xs) => Q xs μ1
  | _ => False
theorem zA (h : DE X e te) : DI X tg e (rE te) := by
  obtain ⟨t1, p1, l1⟩ := h
  refine ⟨_, pT p1, fun σ H ρ μ Qd R S h k => ?_⟩
  refine l1 σ H ρ μ _ _ S h fun d u μ1 H1 e1 S1 r h1 => ?_
  split at h1
  · rename_i xs
    cases r with
    | @list a us _ ha hn ra =>
      refine ⟨a, rfl, ⟨us, SqL.of ha⟩, k xs μ1 H1 _ e1 S1 (fun μ2 H2 e2 ok2 i => ⟨fun hi => ?_, fun hi => ?_⟩) h1⟩
      · have ha2 := e2.keep _ _ ha hn trivial
        have hiu : i < us.length := by rw [← ra.length]; exact hi
        refine ⟨⟨us, us[i], SqL.of ha2, by simp [hiu]⟩, fun x H' ⟨eH, hx⟩ => ?_⟩
        subst eH
        obtain ⟨u', h1', h2'⟩ := ra.get (i := i) (d := xs[i]) (by simp [hi])
        have := hx us (SqL.of ha2)
        rw [h1'] at this
        cases this
        exact ⟨xs[i], by simp [hi], i4.refl _, h2'.ext S1.mu e2⟩
      · exact ⟨us, SqL.of (e2.keep _ _ ha hn trivial), by rw [← ra.length]; omega⟩
  · exact h1.elim
theorem oh (h : DE X e te) : DI X tg e (o5 te) := by
  obtain ⟨t1, p1, l1⟩ := h
  refine ⟨_, Fd p1, fun σ H ρ μ Qd R S h k => ?_⟩
  refine l1 σ H ρ μ _ _ S h fun d u μ1 H1 e1 S1 r h1 => ?_
  split at h1
  · rename_i xs
    cases r with
    | @tuple a us _ ha ra =>
      refine ⟨a, rfl, ⟨us, ha⟩, k xs μ1 H1 _ e1 S1 (fun μ2 H2 e2 ok2 i => ⟨fun hi => ?_, fun hi => ?_⟩) h1⟩
      · have ha2 := uU S1.mu e2 ha
        have hiu : i < us.length := by rw [← ra.length]; exact hi
        refine ⟨⟨us, us[i], ha2, by simp [hiu]⟩, fun x H' ⟨eH, hx⟩ => ?_⟩
        subst eH
        obtain ⟨u', h1', h2'⟩ := ra.get (i := i) (d := xs[i]) (by simp [hi])
        have := hx us ha2
        rw [h1'] at this
        cases this
        exact ⟨xs[i], by simp [hi], i4.refl _, h2'.ext S1.mu e2⟩
      · exact ⟨us, uU S1.mu e2 ha, by rw [← ra.length]; omega⟩
  · exact h1.elim
def kQ (lo : Int) (n : Nat) : List PyData := (List.range n).map fun (i : Nat) => PyData.int (lo + (i : Int))
theorem B2 {K : PySem.W.Frag} {lo : Int} {n : Nat} {μ : Mu} {H : Hp} : DJ K (Itr lo n) (kQ lo n) μ H := fun μ2 H2 e2 ok2 i => by
  have hl : (kQ lo n).length = n := by unfold kQ; simp
  refine ⟨fun hi => ?_, fun hi => ?_⟩
  · rw [hl] at hi
    refine ⟨hi, fun x H' ⟨eH, hx⟩ => ?_⟩
    subst eH hx
    exact ⟨.int (lo + i), by unfold kQ; simp [hi], i4.refl _, .int _⟩
  · show n ≤ i
    omega
def rj (t : DTA) : DTI := fun ρ μ Q => t ρ μ fun ds μ1 => match ds with
  | [.v (.int j)] => (-(2 ^ 62) ≤ j ∧ j < 2 ^ 62) ∧ Q (kQ 0 j.toNat) μ1
  | _ => False
def yC (t : DTA) : DTI := fun ρ μ Q => t ρ μ fun ds μ1 => match ds with
  | [.v (.int i), .v (.int j)] => (-(2 ^ 62) ≤ i ∧ i < 2 ^ 62 ∧ -(2 ^ 62) ≤ j ∧ j < 2 ^ 62) ∧ Q (kQ i (j - i).toNat) μ1
  | _ => False
theorem vt {a : Expr} {t : DTA} {p pos : Pos} (hg : Gl X "range") (hm : X.mg "range" = none) (ha : DA X [a] t) (hs : starEach [a] X.env = [(false, eval a X.env)] := by rfl) (hc : X.calm = true := by rfl) : DI X tg (.Call (.Name "range" p) [a] [] pos) (rj t) := by
  obtain ⟨t1, p1, l1⟩ := ha
  refine ⟨_, AF hc hg hm p1 hs, fun σ H ρ μ Qd R S h k => ?_⟩
  refine l1 σ H ρ μ _ _ S h fun ds us μ1 H1 e1 S1 rs len h1 => ?_
  split at h1
  · rename_i j
    cases rs with
    | cons r1 r2 => cases r2; cases r1; exact ⟨j, rfl, h1.1.1, h1.1.2, k _ μ1 H1 _ e1 S1 B2 h1.2⟩
  · exact h1.elim
theorem DZ {a b : Expr} {t : DTA} {p pos : Pos} (hg : Gl X "range") (hm : X.mg "range" = none) (ha : DA X [a, b] t) (hs : starEach [a, b] X.env = [(false, eval a X.env), (false, eval b X.env)] := by rfl) (hs2 : starEach [b] X.env = [(false, eval b X.env)] := by rfl) (hc : X.calm = true := by rfl) : DI X tg (.Call (.Name "range" p) [a, b] [] pos) (yC t) := by
  obtain ⟨t1, p1, l1⟩ := ha
  refine ⟨_, zS hc hg hm p1 hs hs2, fun σ H ρ μ Qd R S h k => ?_⟩
  refine l1 σ H ρ μ _ _ S h fun ds us μ1 H1 e1 S1 rs len h1 => ?_
  split at h1
  · rename_i i j
    cases rs with
    | cons r1 r2 =>
      cases r2 with
      | cons r2 r3 => cases r3; cases r1; cases r2; exact ⟨i, j, rfl, h1.1, k _ μ1 H1 _ e1 S1 B2 h1.2⟩
  · exact h1.elim
def zX (src : DTI) (g : DTG) (tb : DTS) : DTS := fun Dd ρ μ => src ρ μ fun xs μ1 => ∃ Pv : Nat → Rho → Mu → Prop, Pv 0 ρ μ1 ∧
  (∀ i x ρ' μ', xs[i]? = some x → Pv i ρ' μ' → g (.v x) ρ' μ' fun ρ2 μ2 => tb { Dd with nx := Pv (i + 1), ct := Pv (i + 1), bk := Dd.nx } ρ2 μ2) ∧ (∀ ρ' μ', Pv xs.length ρ' μ' → Dd.nx ρ' μ')
theorem uE {iter : Expr} {body : List Stmt} {src : DTI} {g : DTG} (hp : PassesOwn (model X.prog X.w) X.A X.env X.xe) (hc : X.calm = true) (hi : DI X tg iter src) (hg : DG X tg g) (hb : DSs X body td)
    (hs : ∀ x, foldedSetIterable iter X.env x = pure x := by intro _; rfl) : DS X (.For tg iter body [] pos) (zX src g td) := by
  obtain ⟨t0, p0, l0⟩ := hi
  obtain ⟨t1, p1, l1⟩ := hg
  obtain ⟨t2, p2, l2⟩ := hb
  refine ⟨_, Gj hp hc p0 p1 p2 hs, fun σ H ρ μ Dd De S h k1 k2 k3 k4 => ?_⟩
  refine l0 σ H ρ μ _ _ S h fun xs μ1 H1 J e1 S1 it h1 => ?_
  obtain ⟨Pv, pv0, turn, fin⟩ := h1
  refine ⟨fun i m σ' H' => m = xs.length - i ∧ i ≤ xs.length ∧ ∃ ρ' μ', Ext X.K μ1 H1 μ' H' ∧ St0 X.K H' ρ' μ' σ' ∧ Pv i ρ' μ', ⟨xs.length, by simp, Nat.zero_le _, ρ, μ1, .refl, S1, pv0⟩, ?_⟩
  rintro i m σ' H' ⟨rfl, hi, ρ', μ', e2, S2, pv⟩
  obtain ⟨go, stop⟩ := it μ' H' e2 S2.mu i
  by_cases hlt : i < xs.length
  · obtain ⟨g1, y1⟩ := go hlt
    refine .inr ⟨g1, fun σ2 H2 => ∃ ρ2 μ2, Ext X.K μ1 H1 μ2 H2 ∧ St0 X.K H2 ρ2 μ2 σ2 ∧ Pv (i + 1) ρ2 μ2, fun σ2 H2 q => ⟨xs.length - (i + 1), by omega, rfl, hlt, q⟩, fun x H2 yl => ?_⟩
    obtain ⟨d, hd, sm, rd⟩ := y1 x H2 yl
    have e3 : Ext X.K μ' H' μ' H2 := .of_same sm
    have S3 : St0 X.K H2 ρ' μ' σ' := ⟨S2.mu.xU e3 sm, S2.rho.ext S2.mu e3⟩
    refine l1 σ' H2 ρ' μ' (.v d) x _ _ S3 rd (turn i d ρ' μ' hd pv) fun σ4 ρ4 μ4 H4 e4 S4 h4 => ?_
    have nxt : ∀ a b c dd, Ext X.K μ4 H4 c dd → St0 X.K dd b c a → Pv (i + 1) b c → ∃ ρ2 μ2, Ext X.K μ1 H1 μ2 dd ∧ St0 X.K dd ρ2 μ2 a ∧ Pv (i + 1) ρ2 μ2 := fun a b c dd e5 S5 q => ⟨b, c, e2.trans (e3.trans (e4.trans e5)), S5, q⟩
    have ee := e1.trans (e2.trans (e3.trans e4))
    exact l2 σ4 H4 ρ4 μ4 _ _ S4 h4 nxt (fun a b c d e5 => k2 a b c d (ee.trans e5)) (fun a b c d e5 => k1 a b c d (ee.trans e5)) nxt
  · have ei : i = xs.length := by omega
    subst ei
    exact .inl ⟨stop rfl, k1 σ' ρ' μ' H' (e1.trans e2) S2 (fin ρ' μ' pv)⟩
end
abbrev DSp := List D → Mu → DK → Prop
def spD (K : PySem.W.Frag) (dsp : DSp) : Sp := fun vs H Q _ => ∃ (ds : List D) (μ : Mu) (Qd : DK), aZ K μ H ∧ g9 K μ H ds vs ∧ dsp ds μ Qd ∧
  (∀ d u μ' H', Ext K μ H μ' H' → aZ K μ' H' → RpD K μ' H' d u → Qd d μ' → Q u H')
def aR (N : List Str) (ds : List D) : Rho := ds.map some ++ List.replicate (N.length - ds.length) none
theorem g9.get {K : PySem.W.Frag} {μ : Mu} {H : Hp} {ds : List D} {us : List V} : ∀ {i : Nat} {d : D}, g9 K μ H ds us → ds[i]? = some d → ∃ u, us[i]? = some u ∧ RpD K μ H d u
  | _, _, .nil, h => by simp at h
  | 0, _, .cons r _, h => by simp at h; subst h; exact ⟨_, rfl, r⟩
  | i + 1, d, .cons _ t, h => by
    obtain ⟨u, h1, h2⟩ := g9.get (i := i) (d := d) t (by simpa using h)
    exact ⟨u, by simpa using h1, h2⟩
theorem oR {K : PySem.W.Frag} {μ : Mu} {H : Hp} {N : List Str} {ds : List D} {vs : List V} (r : g9 K μ H ds vs) : cE K μ H (aR N ds) (start N vs) := by
  have hl := r.length
  refine ⟨by unfold aR start; simp [hl], fun i d e => ?_⟩
  unfold aR at e
  by_cases hi : i < ds.length
  · rw [List.getElem?_append_left (by simpa using hi), List.getElem?_map] at e
    unfold start
    rw [List.getElem?_append_left (by simpa [hl] using hi), List.getElem?_map]
    cases q : ds[i]? with
    | none => rw [q] at e; cases e
    | some d' =>
      rw [q] at e
      cases e
      obtain ⟨u, h1, h2⟩ := r.get q
      exact ⟨u, by rw [h1]; rfl, h2⟩
  · rw [List.getElem?_append_right (by simpa using hi), List.getElem?_replicate] at e
    split at e <;> cases e
section
variable {P : Program} {w : World} {K : PySem.W.Frag} {mg : Str → Option Value} {base : Heap}
theorem _root_.L2.Fun.okD {x qual : Str} {st : Stmt} {f : Addr} {fd : FuncData} {N ps : List Str} {k : Nat} {dsp : DSp} (F : Fun K x qual st f fd) (S : aN N ps (ay st)) (len : ∀ ds μ Q, dsp ds μ Q → ds.length = ps.length)
    (hbody : ∀ (cdv : Value) (A : Around) (outer : List Env) (s : Shared) (H : Hp) (E : XK), dO k (A.deeper (envOfC qual (ay st) s.heap.objs.size f cdv)) →
      ∃ td, DSs (i7 CX0 P w K mg base N qual (ay st) f cdv A outer s H E).nox (dU st) td ∧ ∀ ds μ Qd, dsp ds μ Qd → td { nx := fun _ μ' => Qd (.v .none) μ', rt := Qd } (aR N ds) μ) : bU P w K mg base CX0 (k + 1) f fd ps (spD K dsp) := by
  refine F.ok S (fun vs H Q E h => ?_) (fun cdv A outer s H vs Q E hr h => ?_)
  · obtain ⟨ds, μ, Qd, _, r, h, _⟩ := h
    rw [← r.length]
    exact len ds μ Qd h
  · obtain ⟨ds, μ, Qd, ok, r, h, fin⟩ := h
    obtain ⟨td, ⟨t, p, l⟩, rd⟩ := hbody cdv A outer s H E hr
    refine ⟨t, p, ?_⟩
    exact l (start N vs) H (aR N ds) μ _ _ ⟨ok, oR r⟩ (rd ds μ Qd h) (fun σ' ρ' μ' H' e' S' q => fin (.v .none) .non μ' H' e' S'.mu Rp.none q) (fun d u μ' H' e' ok' r' q => fin d u μ' H' e' ok' r' q) (fun _ _ _ _ _ _ q => q) (fun _ _ _ _ _ _ q => q)
end
section
variable {X : Cx} {e : Expr} {es : List Expr} {t : DTA} {p pos : Pos} {x : Str} {k : Nat} {f : Addr} {fd : FuncData} {ps : List Str} {dsp : DSp}
def aF (dsp : DSp) (t : DTA) : DTE := fun ρ μ Q => t ρ μ fun ds μ1 => dsp ds μ1 Q
theorem aq (F : bU X.prog X.w X.K X.mg X.base CX0 k f fd ps (spD X.K dsp)) (hr : dO k X.A) (hg : Gl X x) (hm : X.mg x = some (.ref f)) (hk : PySem.W.keepIn X.K (.ref f) = true) (hb : Binds X.K fd ps [])
    (ha : DA X (e :: es) t) (hdb : (x == ("__debug__" : Str)) = false := by decide) (he : starEach (e :: es) X.env = (false, eval e X.env) :: starEach es X.env := by rfl) (hpl : (backTo pos (starEach es X.env)).any (·.1) = false := by rfl) :
    DE X (.Call (.Name x p) (e :: es) [] pos) (aF dsp t) := by
  obtain ⟨t1, p1, l1⟩ := ha
  refine ⟨_, zK F hr hg hm hk hb .nil Hy p1 hdb he hpl, fun σ H ρ μ Qd Q S h kk => ?_⟩
  refine l1 σ H ρ μ _ _ S h fun ds us μ1 H1 e1 S1 rs len h1 => ?_
  refine ⟨ds, μ1, Qd, S1.mu, by rw [List.append_nil]; exact rs, h1, fun d u μ' H' e2 ok r q => ?_⟩
  exact kk d u μ' H' (e1.trans e2) ⟨ok, S1.rho.ext S1.mu e2⟩ r q
end
section
variable {X : Cx} {o e : Expr} {to te : DTE} {apos cpos : Pos}
def C5 (to te : DTE) : DTE := fun ρ μ Q => to ρ μ fun x μ1 => match x with
  | .m l => te ρ μ1 fun y μ2 => (match y, μ2 l with
    | .v d, some xs => xs.length < 1000 ∧ Q (.v .none) (ao μ2 l (xs ++ [d]))
    | _, _ => False)
  | _ => False
theorem oP (ho : DE X o to) (ha : DE X e te) (hbase : attributeBase o "append" X.env (eval o X.env) = eval o X.env := by rfl)
    (hfew : ((backTo cpos (starEach [e] X.env)).all (fun x => !x.1) && (backToKw cpos (keywordEach [] X.env)).all (fun x => x.1.isSome)
      && decide ([e].length + ([] : List Keyword).length + (if ([] : List Keyword).isEmpty then 0 else 1) < 30)) = true := by rfl)
    (hline : (apos.endLine == cpos.line) = true := by rfl) (hs : starEach [e] X.env = (false, eval e X.env) :: starEach [] X.env := by rfl) (hplain : (backTo cpos (starEach [] X.env)).any (·.1) = false := by rfl) :
    DE X (.Call (.Attribute o "append" apos) [e] [] cpos) (C5 to te) := by
  obtain ⟨t1, p1, l1⟩ := ho
  obtain ⟨t2, p2, l2⟩ := ha
  refine ⟨_, Ex PySem.F.plainAttrs_list PySem.F.slot_list_append PySem.F.type_list_append hR p1 (fb p2 kL hs) hbase hfew hline hs hplain, fun σ H ρ μ Qd Q S h k => ?_⟩
  refine l1 σ H ρ μ _ _ S h fun x ux μ1 H1 e1 S1 rx h1 => ?_
  cases x with
  | m l =>
    obtain ⟨rfl, ds, hm⟩ := id rx
    obtain ⟨us, hl, rl⟩ := S1.mu l ds hm
    refine ⟨.inl ⟨rfl, us, SqL.of hl⟩, ?_⟩
    refine l2 σ H1 ρ μ1 _ _ S1 h1 fun y uy μ2 H2 e2 S2 ry h2 => ?_
    obtain ⟨_, ds2, hm2⟩ := rx.ext S1.mu e2
    obtain ⟨us2, hl2, rl2⟩ := S2.mu l ds2 hm2
    rw [hm2] at h2
    cases y with
    | v d =>
      have h3 : ds2.length < 1000 ∧ Qd (.v .none) (ao μ2 l (ds2 ++ [d])) := h2
      refine ⟨l, us2, uy, rfl, rfl, hl2, by rw [← rl2.length]; exact cx (Nat.le_of_lt h3.1), ?_⟩
      have ex : Ext X.K μ2 H2 (ao μ2 l (ds2 ++ [d])) (upd H2 l (.lst (us2 ++ [uy]))) := gS hm2
      exact k (.v .none) .non _ _ (e1.trans (e2.trans ex)) ⟨S2.mu.set hm2 (rl2.append (.cons ry .nil)), S2.rho.ext S2.mu ex⟩ Rp.none h3.2
    | m _ => exact h2.elim
    | s _ => exact h2.elim
    | o _ => exact h2.elim
    | q _ => exact h2.elim
  | v d => exact h1.elim
  | s ns => exact h1.elim
  | o _ => exact h1.elim
  | q _ => exact h1.elim
def IY (to te : DTE) : DTE := fun ρ μ Q => to ρ μ fun x μ1 => match x with
  | .m l => te ρ μ1 fun y μ2 => (match y, μ2 l with
    | .v (.list ys), some xs => xs.length + ys.length ≤ 1000 ∧ Q (.v .none) (ao μ2 l (xs ++ ys))
    | _, _ => False)
  | _ => False
def HH (to : DTE) : DTE := fun ρ μ Q => to ρ μ fun x μ1 => match x with
  | .v (.int i) => Q (.v (.int (Builtin.Int.intBits i : Nat))) μ1
  | _ => False
end
open PySem PySem.Spec PyProof.Rows
theorem cj {prog : Program} {w : World} {A : Around} {R : Result → Shared → Prop} {s : Shared} {elt target iter : Expr} {ifs : List Expr} {scope : Scope} {pos : Pos} {it acc : Value} {env : Env} (I : Nat → Shared → Prop)
    (turn : ∀ n s, I n s → wpAny (model prog w) A (pyNext it) (fun r s₁ => match r with
      | none => R (.ok .next) s₁
      | some v => wpAny (model prog w) A (letOwnedTupleGo target it v) (fun _ s' => wpAny (model prog w) A (assign target env v) (fun _ s₂ =>
          wpAny (model prog w) A (forIn ifs true fun c r => if r = true then do let ok ← isTrue c env (eval c env); pure (ForInStep.yield ok) else pure (ForInStep.yield r)) (fun ok s₃ =>
            if ok = true then wpAny (model prog w) A (eval elt env) (fun x s₄ =>
              wpAny (model prog w) A (call (.builtin "list.append") [acc, x]) (fun _ s₅ => ∃ m, m < n ∧ I m s₅) (fun _ _ => False) s₄) (fun _ _ => False) s₃
            else ∃ m, m < n ∧ I m s₃) (fun _ _ => False) s₂) (fun _ _ => False) s') (fun _ _ => False) s₁) (fun _ _ => False) s)
    (n : Nat) (h : I n s) :
    codeAny (model prog w) A (.compLoop (.ListComp elt [⟨target, iter, ifs, 0⟩] scope pos) 0 it acc env) R s := by
  refine codeAny_loop rfl I (fun n s hI => ?_) n h
  show wpAny _ A ((compTurn (.ListComp elt [⟨target, iter, ifs, 0⟩] scope pos) 0 it acc env).onRaise (fun x => do noteFrame x env; theTreesLotGoes x)) _ _ s
  refine wpAny_noted ?_
  rw [compTurn_list]
  refine wpAny_bind (wpAny_standAt (wpAny_bind (wpAny_mono (turn n s hI) (fun r s₁ h₁ => ?_) fun _ _ h' => h'.elim)))
  cases r with
  | none => exact wpAny_pure h₁
  | some v =>
    refine wpAny_bind (wpAny_mono h₁ (fun _ s' h' => ?_) fun _ _ h' => h'.elim)
    refine wpAny_bind (wpAny_mono h' (fun _ s₂ h₂ => wpAny_bind (wpAny_mono h₂ (fun ok s₃ h₃ => ?_) fun _ _ h' => h'.elim)) fun _ _ h' => h'.elim)
    cases ok with
    | false => exact wpAny_pure ⟨rfl, h₃⟩
    | true =>
      exact wpAny_bind (wpAny_bind (wpAny_mono h₃ (fun x s₄ h₄ => wpAny_bind (wpAny_mono h₄ (fun _ s₅ h₅ => wpAny_pure (wpAny_pure ⟨rfl, h₅⟩)) fun _ _ h' => h'.elim)) fun _ _ h' => h'.elim))
section
variable {K : PySem.W.Frag} {μ μ' : Mu} {H : Hp}
mutual
theorem Rp.shrink {d : PyData} {u : V} (sub : ∀ a, μ' a = none → μ a = none) : Rp K μ' H d u → Rp K μ H d u
  | .none => .none
  | .bool b => .bool b
  | .int i => .int i
  | .str x => .str x
  | .list h n r => .list h (sub _ n) (RpL.shrink sub r)
  | .tuple h r => .tuple h (RpL.shrink sub r)
theorem RpL.shrink {ds : List PyData} {us : List V} (sub : ∀ a, μ' a = none → μ a = none) : RpL K μ' H ds us → RpL K μ H ds us
  | .nil => .nil
  | .cons h r => .cons (Rp.shrink sub h) (RpL.shrink sub r)
end
end
theorem qK {X : Cx} {e : Expr} {td : DTE} (h : ∀ (pins : List (Addr × Obj)) (s : Shared) (σ : St) (H : Hp) (ρ : Rho) (μ : Mu) (Qd : DK) (Q : VK), Inv X pins σ H s → St0 X.K H ρ μ σ → td ρ μ Qd →
    (∀ d u μ' H', Ext X.K μ H μ' H' → St0 X.K H' ρ μ' σ → RpD X.K μ' H' d u → Qd d μ' → Q u H') → wpAny (model X.prog X.w) X.A (eval e X.env) (EP X pins σ Q) X.xe s) : DE X e td :=
  ⟨fun σ H Q => ∃ ρ μ Qd, St0 X.K H ρ μ σ ∧ td ρ μ Qd ∧ (∀ d u μ' H', Ext X.K μ H μ' H' → St0 X.K H' ρ μ' σ → RpD X.K μ' H' d u → Qd d μ' → Q u H'),
    fun pins s σ H Q I ⟨ρ, μ, Qd, S, q, k⟩ => h pins s σ H ρ μ Qd Q I S q k, fun σ H ρ μ Qd Q S q k => ⟨ρ, μ, Qd, S, q, k⟩⟩
def az (X : Cx) (N' : List Str) (scope : Scope) (cl : List (Str × Addr)) (fp : List Addr) (s₃ : Shared) (H₃ : Hp) : Cx :=
  { X with N := N', s₀ := s₃, H₀ := H₃, env := compEnvC scope cl s₃.heap.objs.size X.env, outer := X.stack, stack := X.stack, ex := fp, fn := fun _ => false, pn := X.pn, xe := fun _ _ => False }
def Le : Rho → Rho → Prop
  | [], [] => True
  | none :: r, _ :: r' => Le r r'
  | some d :: r, some d' :: r' => d = d' ∧ Le r r'
  | _, _ => False
theorem Le.get : ∀ {ρ ρ' : Rho}, Le ρ ρ' → ρ.length = ρ'.length ∧ ∀ (i : Nat) d, ρ[i]? = some (some d) → ρ'[i]? = some (some d)
  | [], [], _ => ⟨rfl, fun _ _ h => h⟩
  | none :: r, x :: r', h => by
    obtain ⟨h1, h2⟩ := Le.get (ρ := r) (ρ' := r') h
    refine ⟨congrArg (· + 1) h1, fun i d e => ?_⟩
    cases i with
    | zero => simp at e
    | succ j => exact h2 j d (by simpa using e)
  | some d :: r, some d' :: r', h => by
    obtain ⟨rfl, h⟩ := h
    obtain ⟨h1, h2⟩ := Le.get (ρ := r) (ρ' := r') h
    refine ⟨congrArg (· + 1) h1, fun i d e => ?_⟩
    cases i with
    | zero => simpa using e
    | succ j => exact h2 j d (by simpa using e)
  | some d :: r, none :: r', h => h.elim
  | [], _ :: _, h => h.elim
  | none :: _, [], h => h.elim
  | some _ :: _, [], h => h.elim
def aO {α : Type} (cap : List (Option Nat)) (ρ : List (Option α)) : List (Option α) := cap.map fun o => o.bind fun j => (ρ[j]?).join
def nP (cap : List (Option Nat)) (src : DTI) (g : DTG) (c : DTT) (elt : DTE) : DTE := fun ρ μ Q => src ρ μ fun xs μ1 => xs.length ≤ 1000 ∧ ∃ f : PyData → Option PyData,
  (∀ x ∈ xs, ∀ μ' : Mu, (∀ a ds, μ1 a = some ds → μ' a = some ds) → g (.v x) (aO cap ρ) μ' fun ρ2 μ2 => Le (aO cap ρ) ρ2 ∧ c ρ2 μ2 fun b μ3 =>
    if b = true then elt ρ2 μ3 fun d μ4 => μ4 = μ' ∧ (match d with | .v y => f x = some y | _ => False) else μ3 = μ' ∧ f x = none) ∧ Q (.v (.list (xs.filterMap f))) μ1
def xx (X : Cx) (ifs : List Expr) (c : DTT) : Prop := ∀ (pins : List (Addr × Obj)) (s : Shared) (σ : St) (H : Hp) (ρ : Rho) (μ : Mu) (Qd : Bool → Mu → Prop) (Q : Bool → Hp → Prop), Inv X pins σ H s → St0 X.K H ρ μ σ → c ρ μ Qd →
  (∀ b μ' H', Ext X.K μ H μ' H' → St0 X.K H' ρ μ' σ → Qd b μ' → Q b H') →
  wpAny (model X.prog X.w) X.A (forIn ifs true fun c r => if r = true then do let ok ← isTrue c X.env (eval c X.env); pure (ForInStep.yield ok) else pure (ForInStep.yield r)) (TP X pins σ Q) X.xe s
def mX : DTT := fun _ μ Q => Q true μ
theorem hW {X : Cx} : xx X [] mX := fun pins s σ H ρ μ Qd Q I S h k => wpAny_tests_nil ⟨H, I, k true μ H .refl S h⟩
theorem rJ {X : Cx} {c : Expr} {tc : DTT} (h : DT X c tc) : xx X [c] tc := by
  obtain ⟨t, p, l⟩ := h
  exact fun pins s σ H ρ μ Qd Q I S h k => wpAny_tests_one (p pins s σ H _ I (l σ H ρ μ _ _ S h k))
theorem Un.after {fs ex : List Addr} {H H1 : Hp} {h h1 h' : Heap} (u : Un fs ex H H1 h h1) (k : ∀ b o, b < h.objs.size → h1.get? b = some o → h'.get? b = some o) : Un fs ex H H1 h h' :=
  ⟨fun b o e n hb hx => k b o (Heap.lt_size e) (u.keep b o e n hb hx), fun b o e n hb hx => let ⟨sl, q⟩ := u.slot b o e n hb hx; ⟨sl, k b _ (Heap.lt_size e) q⟩, u.free, fun b o e hx => let ⟨o', q⟩ := u.there b o e hx; ⟨o', k b _ (Heap.lt_size e) q⟩, u.lP, u.lC, u.lG⟩
theorem gz {α : Type} {cap : List (Option Nat)} {ρ : List (Option α)} {i : Nat} {d : α} (h : (aO cap ρ)[i]? = some (some d)) : ∃ j, cap[i]? = some (some j) ∧ ρ[j]? = some (some d) := by
  unfold aO at h
  rw [List.getElem?_map] at h
  cases q : cap[i]? with
  | none => rw [q] at h; cases h
  | some o =>
    rw [q] at h
    cases o with
    | none => cases h
    | some j =>
      refine ⟨j, rfl, ?_⟩
      simp only [Option.map_some, Option.bind_some, Option.some.injEq] at h
      cases z : ρ[j]? with
      | none => rw [z] at h; cases h
      | some y => rw [z] at h; simp only [Option.join_some] at h; rw [h]
theorem A4 {α : Type} {cap : List (Option Nat)} {ρ : List (Option α)} {i j : Nat} {d : α} (h : cap[i]? = some (some j)) (e : ρ[j]? = some (some d)) : (aO cap ρ)[i]? = some (some d) := by
  unfold aO
  rw [List.getElem?_map, h]
  simp [e]
theorem cE.cap {K : PySem.W.Frag} {μ : Mu} {H : Hp} {ρ : Rho} {σ : St} {cap : List (Option Nat)} (r : cE K μ H ρ σ) : cE K μ H (aO cap ρ) (aO cap σ) := by
  refine ⟨by unfold aO; simp, fun i d e => ?_⟩
  obtain ⟨j, h1, h2⟩ := gz e
  obtain ⟨u, h3, h4⟩ := r.2 j d h2
  exact ⟨u, A4 h1 h3, h4⟩
theorem cE.le {K : PySem.W.Frag} {μ : Mu} {H : Hp} {ρ ρ' : Rho} {σ : St} (r : cE K μ H ρ' σ) (l : Le ρ ρ') : cE K μ H ρ σ :=
  ⟨l.get.1.trans r.1, fun i d e => r.2 i d (l.get.2 i d e)⟩
theorem lh {xs : List PyData} {f : PyData → Option PyData} {i : Nat} {d : PyData} (h : xs[i]? = some d) : (xs.take (i + 1)).filterMap f = (xs.take i).filterMap f ++ (f d).toList := by
  obtain ⟨hi, e⟩ := List.getElem?_eq_some_iff.mp h
  rw [List.take_succ_eq_append_getElem hi, List.filterMap_append, e]
  cases q : f d <;> simp [q]
theorem ml {X : Cx} {N' : List Str} {scope : Scope} {cl : List (Str × Addr)} {elt iter tg : Expr} {ifs : List Expr} {pos : Pos} {cap : List (Option Nat)} {src : DTI} {g : DTG} {c : DTT} {te : DTE} (hc : X.calm = X.calm)
    (hi : DI X tg iter src) (hg : ∀ fp s₃ H₃, DG (az X N' scope cl fp s₃ H₃) tg g) (hif : ∀ fp s₃ H₃, xx (az X N' scope cl fp s₃ H₃) ifs c) (he : ∀ fp s₃ H₃, DE (az X N' scope cl fp s₃ H₃) elt te)
    (hclos : closureFor scope X.env = pure cl) (hcell : ∀ y ∈ scope.names, y.2 ≠ .cell) (hkind : scope.kind = .function) (hnames : ∀ y ∈ scope.names, y.2 = .local → scope.names.lookup y.1 = some .local)
    (hcl : ∀ x a, cl.lookup x = some a → X.env.cells.lookup x = some a) (hhas : ∀ x, (relabel scope X.env).names.lookup x = some .cell ∨ (relabel scope X.env).names.lookup x = some .free → ∃ a, cl.lookup x = some a)
    (hlen : cap.length = N'.length) (hcap : ∀ (i j : Nat) (x : Str), cap[i]? = some (some j) → N'[i]? = some x → X.N[j]? = some x ∧ Vis X.env.scope x ∧ X.env.kindOf x ≠ some .local ∧ ((relabel scope X.env).names.lookup x = some .cell ∨ (relabel scope X.env).names.lookup x = some .free))
    (hs : ∀ x, foldedSetIterable iter X.env x = pure x := by intro _; rfl) : DE X (.ListComp elt [⟨tg, iter, ifs, 0⟩] scope pos) (nP cap src g c te) := by
  refine qK fun pins s σ H ρ μ Qd Q I S h k => ?_
  obtain ⟨wi, pw, li⟩ := hi
  rw [eval_ListComp]
  refine wpAny_comprehension_free (use := none) rfl hs hclos hkind hnames (thn (pw pins s σ H _ I (li σ H ρ μ _ (fun J H1 => ∃ xs μ1, Ext X.K μ H μ1 H1 ∧ St0 X.K H1 ρ μ1 σ ∧ DJ X.K J xs μ1 H1 ∧ xs.length ≤ 1000 ∧ ∃ f : PyData → Option PyData,
      (∀ x ∈ xs, ∀ μ' : Mu, (∀ a ds, μ1 a = some ds → μ' a = some ds) → g (.v x) (aO cap ρ) μ' fun ρ2 μ2 => Le (aO cap ρ) ρ2 ∧ c ρ2 μ2 fun b μ3 =>
        if b = true then te ρ2 μ3 fun d μ4 => μ4 = μ' ∧ (match d with | .v y => f x = some y | _ => False) else μ3 = μ' ∧ f x = none) ∧ Qd (.v (.list (xs.filterMap f))) μ1) S h (fun xs μ1 H1 J e1 S1 it q => ⟨xs, μ1, e1, S1, it, q⟩)))
    fun v s1 h1 => thn h1 fun itv s2 h2 => ?_)
  obtain ⟨it, fp, tn, J, H2, rfl, I2, T, st2, f2, xs, μ1, e1, S1, itok, hxs, f, body, fin⟩ := h2
  refine wpAny_newObj_type (wpAny_newFunctionEnv hcell (by intro y hy; simp at hy) (fun h₁ hns₁ hsb₁ => ?_) hkind)
  dsimp only at hns₁ hsb₁ ⊢
  have hfree2 : H2 s2.heap.objs.size = none := I2.hok.fresh (Nat.le_refl _)
  have hK2 : X.K.lookup s2.heap.objs.size = none := by
    cases z : X.K.lookup s2.heap.objs.size with
    | none => rfl
    | some o => exact absurd (Heap.lt_size (I2.kIn _ _ z)) (Nat.lt_irrefl _)
  have I3 : Inv X pins σ (upd H2 s2.heap.objs.size (.lst [])) { s2 with heap := s2.heap.push { cls := .type "list", dict := none, data := .seq ([] : List Value).toArray } } :=
    I2.laid (t' := s2.toks) (fun b u e => Heap.get?_push_of_some _ e) (Nat.le_refl _) ⟨Nat.zero_le _, [], 0, .nil, Heap.get?_push_size _ rfl⟩
  generalize hH : s2.heap.push { cls := .type "list", dict := none, data := .seq ([] : List Value).toArray } = hp3 at hns₁ hsb₁ I3 ⊢
  have hsz3 : hp3.objs.size = s2.heap.objs.size + 1 := by rw [← hH, Heap.size_push]
  have kept3 : ∀ b o, hp3.get? b = some o → h₁.get? b = some o := fun b o e => hsb₁.extBut b o (Nat.ne_of_lt (Heap.lt_size e)) (Heap.get?_push_of_some _ e)
  have old3 : ∀ b o, s2.heap.get? b = some o → hp3.get? b = some o := fun b o e => by rw [← hH]; exact Heap.get?_push_of_some _ e
  have fplt : ∀ b ∈ fp, b < s2.heap.objs.size := fun b hb => by obtain ⟨o, e, _⟩ := T.obj 0 _ st2 b hb; exact Heap.lt_size e
  have fpst : ∀ b ∈ fp, b ∉ frs X.stack := fun b hb hz => by
    rcases List.mem_cons.mp (I2.gN b hz) with e | e
    · exact (f2 b hb).2.1 e
    · exact (f2 b hb).2.2.1 e
  obtain ⟨s3, hs3⟩ : ∃ s3 : Shared, s3 = { s2 with heap := hp3 } := ⟨_, rfl⟩
  obtain ⟨H3, hH3⟩ : ∃ H3 : Hp, H3 = upd H2 s2.heap.objs.size (.lst []) := ⟨_, rfl⟩
  have heap3 : s3.heap = hp3 := by rw [hs3]
  rw [← hH3] at I3
  have I3' : Inv X pins σ H3 s3 := by rw [hs3]; exact I3
  have hloc : H3 hp3.objs.size = none := by have := I3'.hok.fresh (a := hp3.objs.size) (by rw [heap3]; exact Nat.le_refl _); exact this
  have okc : (az X N' scope cl fp s3 H3).Ok := by
    refine ⟨I3.ok.mod, ?_, I3.ok.glob, I3.ok.blt, Nat.le_refl _, fun x y a h1 h2 => I3.ok.inj x y a (hcl x a h1) (hcl y a h2), fun x hx => hhas x hx, fun x a h => (nomatch h), I3.ok.hd, I3.ok.qt, I3.ok.frames, .inl rfl, fun b hb => ⟨?_, fun x a h => (f2 b hb).2.2.2.2.1 x a (hcl x a h)⟩,
      I3'.bs, Nat.le_trans I3.ok.bsz I3'.sz, fun b o e hb => ?_, fun b hb => fpst b hb, I3'.stack, I3'.jN⟩
    · exact hkind
    · show b ≠ s3.heap.objs.size
      rw [heap3, hsz3]
      exact Nat.ne_of_lt (Nat.lt_succ_of_lt (fplt b hb))
    · rcases (f2 b hb).2.2.2.1 with z | z
      · exact I3.ok.rW b o e z
      · exact absurd (Nat.lt_of_lt_of_le (Heap.lt_size (I3.ok.bs b o e).1) z) (Nat.lt_irrefl _)
  have I4 : Inv (az X N' scope cl fp s3 H3) [] (aO cap σ) H3 { s2 with heap := h₁, toks := s2.toks + ([] : List (Str × Value)).length } := by
    refine ⟨okc, by show s2.os = s3.os; rw [hs3], I3.bare, Un.kept (by show ∀ b o, s3.heap.get? b = some o → _; rw [heap3]; exact kept3), ⟨_, (by show h₁.Ns s3.heap.objs.size _; rw [heap3]; exact hns₁), fun i x v e1 e2 e3 => ?_⟩, fun x a h => ?_, (by show H3 s3.heap.objs.size = none; rw [heap3]; exact hloc), fun x a h => I3.dJ x a (hcl x a h), fun p hp => ?_, I3.hok.kept kept3, ?_⟩
    · obtain ⟨j, h1, h2⟩ := gz e2
      obtain ⟨hN, hv, hnl, hk⟩ := hcap i j x h1 e1
      obtain ⟨m, _, hl⟩ := I3.loc
      obtain ⟨u, r, lk⟩ := hl j x v hN h2 hv
      refine ⟨u, r, .inr ⟨hk, ?_⟩⟩
      obtain ⟨a, ha⟩ := hhas x hk
      rcases lk with ⟨z, _⟩ | ⟨_, a', z1, z2⟩
      · exact absurd z hnl
      · have : a' = a := by have q := hcl x a ha; rw [z1] at q; exact Option.some.inj q
        subst this
        obtain ⟨o, ho, hd⟩ := z2
        exact ⟨a', ha, o, kept3 _ _ ho, hd⟩
    · obtain ⟨v, o, ho, hd⟩ := I3.cell x a (hcl x a h)
      exact ⟨v, o, kept3 _ _ ho, hd⟩
    · have hp' : p ∈ X.pn ++ pins := List.mem_append_left _ (by simpa using (show p ∈ X.pn ++ [] from hp))
      obtain ⟨z1, z2, z3, z4, z5⟩ := I3'.pin p hp'
      refine ⟨kept3 _ _ (by rw [← heap3]; exact z1), z2, (show p.1 ≠ s3.heap.objs.size from Nat.ne_of_lt (Heap.lt_size z1)), fun z => ?_, z5⟩
      rcases List.mem_cons.mp (I3'.gN p.1 z) with e | e
      · exact z3 e
      · exact z4 e
    · show (aO cap σ).length = N'.length
      unfold aO
      rw [List.length_map]
      exact hlen
  have hμ1 : μ1 s2.heap.objs.size = none := S1.mu.free hfree2
  have sub1 : ∀ ys a ds, μ1 a = some ds → ao μ1 s2.heap.objs.size ys a = some ds := fun ys a ds e => by
    have : a ≠ s2.heap.objs.size := fun z => by rw [z, hμ1] at e; cases e
    rw [aJ this]; exact e
  have loop : codeAny (model X.prog X.w) X.A (.compLoop (.ListComp elt [⟨tg, iter, ifs, 0⟩] scope pos) 0 (.ref it) (.ref s2.heap.objs.size) (az X N' scope cl fp s3 H3).env)
      (compPost (model X.prog X.w) X.A X.xe none (EP X pins σ Q) (.ref s2.heap.objs.size) hp3.objs.size) { s2 with heap := h₁, toks := s2.toks + ([] : List (Str × Value)).length } := by
    refine cj (fun n s' => ∃ (i : Nat) (σc : St) (Hc : Hp), n = xs.length - i ∧ i ≤ xs.length ∧ Inv (az X N' scope cl fp s3 H3) [] σc Hc s' ∧ tn i s'.heap ∧ (∀ b ∈ fp, Hc b = none) ∧
      St0 X.K Hc (aO cap ρ) (ao μ1 s2.heap.objs.size ((xs.take i).filterMap f)) σc ∧ Ext X.K μ1 H2 (ao μ1 s2.heap.objs.size ((xs.take i).filterMap f)) Hc) ?_ xs.length
      ⟨0, aO cap σ, H3, by simp, Nat.zero_le _, I4, T.keep 0 _ _ st2 (fun b hb o e => kept3 b o (old3 b o e)), fun b hb => ?_, ?_, ?_⟩
    · rintro n s' ⟨i, σc, Hc, rfl, hi, Ic, tc, frc, Sc, Ec⟩
      have stat : ∀ {Hd : Hp}, (∀ b ∈ fp, Hd b = none) → ∀ b ∈ fp, oJ (az X N' scope cl fp s3 H3) [] Hd b := fun hn b hb =>
        ⟨hn b hb, (okc.exf b hb).1, fpst b hb, .inl hb, fun x a h => (okc.exf b hb).2 x a h, fun p hp => (f2 b hb).2.2.2.2.2 p (List.mem_append_left _ (by simpa using (show p ∈ X.pn ++ [] from hp)))⟩
      obtain ⟨go, stop⟩ := itok _ Hc Ec Sc.mu i
      by_cases hlt : i < xs.length
      · obtain ⟨g1, y1⟩ := go hlt
        refine thn (T.item (az X N' scope cl fp s3 H3) rfl rfl rfl (fun z => z) i [] s' σc Hc (fun _ _ => False) Ic (stat frc) tc g1) fun r s4 ⟨u, hr, h4⟩ => ?_
        subst hr
        refine thn h4 fun _ s5 ⟨x, H5, I5, r5, y5, st5, fr5⟩ => ?_
        obtain ⟨d, hd, sm, rd⟩ := y1 x H5 y5
        have I5' := I5.pinned (stat fr5) (T.obj _ _ st5)
        have e5 : Ext X.K _ Hc _ H5 := .of_same (μ := ao μ1 s2.heap.objs.size ((xs.take i).filterMap f)) sm
        have S5 : St0 X.K H5 (aO cap ρ) (ao μ1 s2.heap.objs.size ((xs.take i).filterMap f)) σc := ⟨Sc.mu.xU e5 sm, Sc.rho.ext Sc.mu e5⟩
        obtain ⟨gt, pg, lg⟩ := hg fp s3 H3
        have hmem : d ∈ xs := List.mem_of_getElem? hd
        refine thn (pg _ s5 σc H5 x u (fun σ' H' => ∃ ρ' μ', Ext X.K (ao μ1 s2.heap.objs.size ((xs.take i).filterMap f)) H5 μ' H' ∧ St0 X.K H' ρ' μ' σ' ∧ Le (aO cap ρ) ρ' ∧ c ρ' μ' fun b μ3 =>
            if b = true then te ρ' μ3 fun d' μ4 => μ4 = ao μ1 s2.heap.objs.size ((xs.take i).filterMap f) ∧ (match d' with | .v y => f d = some y | _ => False) else μ3 = ao μ1 s2.heap.objs.size ((xs.take i).filterMap f) ∧ f d = none) I5' r5
          (lg σc H5 (aO cap ρ) _ (.v d) x _ _ S5 rd (body d hmem _ (sub1 _)) fun σ' ρ' μ' H' e' S' q => ⟨ρ', μ', e', S', q⟩)) fun _ s6 ⟨σ6, H6, I6, ρ6, μ6, e6, S6, le6, q6⟩ => ?_
        refine thn (hif fp s3 H3 _ s6 σ6 H6 ρ6 μ6 _ (fun b H' => ∃ μ', Ext X.K μ6 H6 μ' H' ∧ St0 X.K H' ρ6 μ' σ6 ∧ if b = true then te ρ6 μ' fun d' μ4 => μ4 = ao μ1 s2.heap.objs.size ((xs.take i).filterMap f) ∧ (match d' with | .v y => f d = some y | _ => False) else μ' = ao μ1 s2.heap.objs.size ((xs.take i).filterMap f) ∧ f d = none)
          I6 S6 q6 fun b μ' H' e' S' q => ⟨μ', e', S', q⟩) fun b s7 ⟨H7, I7, μ7, e7, S7, q7⟩ => ?_
        have again : ∀ {H9 : Hp} {s9 : Shared}, Inv (az X N' scope cl fp s3 H3) ([] ++ jH fp s5.heap) σ6 H9 s9 → aZ X.K (ao μ1 s2.heap.objs.size ((xs.take (i + 1)).filterMap f)) H9 → cE X.K (ao μ1 s2.heap.objs.size ((xs.take (i + 1)).filterMap f)) H9 (aO cap ρ) σ6 →
            Ext X.K μ1 H2 (ao μ1 s2.heap.objs.size ((xs.take (i + 1)).filterMap f)) H9 → ∃ m, m < xs.length - i ∧ ∃ (i : Nat) (σc : St) (Hc : Hp), m = xs.length - i ∧ i ≤ xs.length ∧ Inv (az X N' scope cl fp s3 H3) [] σc Hc s9 ∧ tn i s9.heap ∧ (∀ b ∈ fp, Hc b = none) ∧
              St0 X.K Hc (aO cap ρ) (ao μ1 s2.heap.objs.size ((xs.take i).filterMap f)) σc ∧ Ext X.K μ1 H2 (ao μ1 s2.heap.objs.size ((xs.take i).filterMap f)) Hc := fun {H9 s9} I9 m9 r9 e9 => by
          refine ⟨xs.length - (i + 1), by omega, i + 1, σ6, H9, rfl, hlt, I9.eP, T.keep _ _ _ st5 fun b hb o e => (I9.pin (b, o) (List.mem_append_right _ (List.mem_append_right _ (bD hb e)))).1, fun b hb => ?_, ⟨m9, r9⟩, e9⟩
          obtain ⟨o, e, _⟩ := T.obj _ _ st5 b hb
          exact (I9.pin (b, o) (List.mem_append_right _ (List.mem_append_right _ (bD hb e)))).2.1
        cases b with
        | false =>
          have q8 : μ7 = ao μ1 s2.heap.objs.size ((xs.take i).filterMap f) ∧ f d = none := by simpa using q7
          refine mV ?_
          have et : (xs.take (i + 1)).filterMap f = (xs.take i).filterMap f := by rw [lh hd, q8.2]; simp
          have eμ : ao μ1 s2.heap.objs.size ((xs.take (i + 1)).filterMap f) = μ7 := by rw [et, q8.1]
          refine again I7 (by rw [eμ]; exact S7.mu) (by rw [eμ]; exact S7.rho.le le6) ?_
          rw [eμ]
          exact Ec.trans (e5.trans (e6.trans e7))
        | true =>
          refine lY ?_
          obtain ⟨t8, p8, l8⟩ := he fp s3 H3
          refine thn (p8 _ s7 σ6 H7 (fun v H' => ∃ y, Ext X.K μ7 H7 (ao μ1 s2.heap.objs.size ((xs.take i).filterMap f)) H' ∧ St0 X.K H' ρ6 (ao μ1 s2.heap.objs.size ((xs.take i).filterMap f)) σ6 ∧ Rp X.K (ao μ1 s2.heap.objs.size ((xs.take i).filterMap f)) H' y v ∧ f d = some y) I7
            (l8 σ6 H7 ρ6 μ7 _ _ S7 (by simpa using q7) fun d' v μ8 H8 e8 S8 r8 q8 => ?_)) fun v s8 ⟨v8, H8, I8, r8, y, e8, S8, ry, fy⟩ => ?_
          · obtain ⟨rfl, q8⟩ := q8
            cases d' with
            | v y => exact ⟨y, e8, S8, r8, q8⟩
            | m _ => exact q8.elim
            | s _ => exact q8.elim
            | o _ => exact q8.elim
            | q _ => exact q8.elim
          · obtain ⟨us, hacc, rus⟩ := S8.mu s2.heap.objs.size _ aB
            have hle : ((xs.take i).filterMap f).length ≤ 1000 := Nat.le_trans (List.length_filterMap_le _ _) (Nat.le_trans (by rw [List.length_take]; exact Nat.min_le_right _ _) hxs)
            refine thn (hR (X := az X N' scope cl fp s3 H3) _ s8 σ6 H8 (.ref s2.heap.objs.size) [v8] (.ref s2.heap.objs.size) [v] (fun _ H' => H' = upd H8 s2.heap.objs.size (.lst (us ++ [v8]))) I8 rfl (.cons r8 .nil) ⟨_, us, v8, rfl, rfl, hacc, by rw [← rus.length]; exact cx hle, rfl⟩) fun _ s9 ⟨_, H9, I9, _, e9⟩ => ?_
            subst e9
            have et : (xs.take (i + 1)).filterMap f = (xs.take i).filterMap f ++ [y] := by rw [lh hd, fy]; rfl
            have mset : ao (ao μ1 s2.heap.objs.size ((xs.take i).filterMap f)) s2.heap.objs.size ((xs.take (i + 1)).filterMap f) = ao μ1 s2.heap.objs.size ((xs.take (i + 1)).filterMap f) := i9
            have ex : Ext X.K (ao μ1 s2.heap.objs.size ((xs.take i).filterMap f)) H8 (ao μ1 s2.heap.objs.size ((xs.take (i + 1)).filterMap f)) (upd H8 s2.heap.objs.size (.lst (us ++ [v8]))) := by
              rw [← mset]
              exact gS aB
            refine again I9 ?_ ((S8.rho.le le6).ext S8.mu ex) (Ec.trans (e5.trans (e6.trans (e7.trans (e8.trans ex)))))
            rw [← mset]
            refine S8.mu.set aB ?_
            rw [et]
            exact rus.append (.cons ry .nil)
      · have ei : i = xs.length := by omega
        subst ei
        refine thn (T.done (az X N' scope cl fp s3 H3) rfl rfl rfl (fun z => z) _ [] s' σc Hc (fun _ _ => False) Ic (stat frc) tc (stop rfl)) fun r s4 ⟨hr, I5⟩ => ?_
        subst hr
        rw [List.take_length] at Sc Ec
        obtain ⟨m, hn, _⟩ := I5.loc
        refine ⟨m, (by have z : s4.heap.Ns s3.heap.objs.size m := hn; rw [heap3] at z; exact z), fun h' hs' => ?_⟩
        have kp : ∀ b o, b < s2.heap.objs.size → s4.heap.get? b = some o → h'.get? b = some o := fun b o hb e => hs'.extBut b o (by rw [hsz3]; exact Nat.ne_of_lt (Nat.lt_succ_of_lt hb)) e
        have hcC : Hc hp3.objs.size = none := by have z : Hc s3.heap.objs.size = none := I5.free; rw [heap3] at z; exact z
        have hok' : HOk X.prog X.w Hc h' := fun b ob e => by
          refine (I5.hok b ob e).mm (fun cc v hcc q => hs'.extBut cc v ?_ q) (fun _ q => q) fun _ _ q => q
          rintro rfl
          rcases hcc with z | z
          · rw [← z, hcC] at e; cases e
          · rw [hcC] at z; cases z
        have u1 : Un (frs X.stack) fp H2 H3 s2.heap s3.heap := by rw [heap3, hH3]; exact Un.laid old3 (Nat.le_refl _) hfree2
        have u2 : Un (frs X.stack) fp H3 Hc s3.heap s4.heap := I5.base
        have If : Inv X pins σ Hc { s4 with heap := h' } := I2.pb (ch := fp) (by show s4.os = s2.os; have z : s4.os = s3.os := I5.os; rw [z, hs3]) (Un.after (u1.trans u2) kp) hok' I5.bare fun b hb => ⟨(f2 b hb).2.2.2.1, (f2 b hb).2.1, (f2 b hb).2.2.2.2.1, (f2 b hb).2.2.2.2.2⟩
        obtain ⟨us, hacc, rus⟩ := Sc.mu s2.heap.objs.size _ aB
        have shr : ∀ a, ao μ1 s2.heap.objs.size (xs.filterMap f) a = none → μ1 a = none := fun a e => by
          by_cases ha : a = s2.heap.objs.size
          · rw [ha]; exact hμ1
          · rw [aJ ha] at e; exact e
        have eF : Ext X.K μ1 H2 μ1 Hc := ⟨Ec.keep, Ec.tb, fun _ ds q => ⟨ds, q⟩, fun _ q _ => q⟩
        have mF : aZ X.K μ1 Hc := ⟨fun a ds q => by
          obtain ⟨ys, z1, z2⟩ := Sc.mu a ds (sub1 _ a ds q)
          exact ⟨ys, z1, z2.shrink shr⟩, Sc.mu.tab⟩
        exact ⟨.ref s2.heap.objs.size, Hc, If, rfl, k (.v (.list (xs.filterMap f))) _ μ1 Hc (e1.trans eF) ⟨mF, S1.rho.ext S1.mu eF⟩ (Rp.list hacc hμ1 (rus.shrink shr)) fin⟩
    · have z : b ≠ s2.heap.objs.size := Nat.ne_of_lt (fplt b hb)
      rw [hH3, aT z]
      exact (f2 b hb).1
    · have ex := dq (o := .lst []) (ds := []) S1.mu hfree2 hK2
      rw [hH3]
      exact ⟨S1.mu.mut .nil hfree2 hK2, (S1.rho.ext S1.mu ex).cap⟩
    · rw [hH3]
      exact dq (o := .lst []) (ds := []) S1.mu hfree2 hK2
  have envE : (az X N' scope cl fp s3 H3).env = compEnvC scope cl hp3.objs.size X.env := by show compEnvC scope cl s3.heap.objs.size X.env = _; rw [heap3]
  rw [envE] at loop
  exact codeAny_compStart_list loop (T.self X.A 0 _ _ _ (T.keep 0 _ _ st2 (fun b hb o e => kept3 b o (old3 b o e))) loop)
open PySem PySem.Spec PyProof.Rows
section
variable {X : Cx} {a b c : Expr} {ta tb tc : DTE} {pos : Pos}
def vc (r r' : D → D → Mu → DK → Prop) (ta tb tc : DTE) : DTE := fun ρ μ Q => ta ρ μ fun x μ1 => tb ρ μ1 fun y μ2 => r x y μ2 fun z μ3 => match z with
  | .v (.bool k) => if k = true then tc ρ μ3 fun w μ4 => r' y w μ4 Q else Q (.v (.bool false)) μ3
  | _ => False
end
open PySem PySem.Spec PyProof.Rows
theorem wL {α : Type} {x : α} {xs : List α} : atI (x :: xs) 0 = some x := by unfold atI ixN; simp
theorem xg {α : Type} {x y : α} {xs : List α} : atI (x :: y :: xs) 1 = some y := by
  have h := pZ (xs := x :: y :: xs) (j := 1) (v := y) rfl
  exact h
theorem zN {α : Type} {x y z : α} {xs : List α} : atI (x :: y :: z :: xs) 2 = some z := by
  have h := pZ (xs := x :: y :: z :: xs) (j := 2) (v := z) rfl
  exact h
theorem BG {α : Type} {x y z u : α} {xs : List α} : atI (x :: y :: z :: u :: xs) 3 = some u := by
  have h := pZ (xs := x :: y :: z :: u :: xs) (j := 3) (v := u) rfl
  exact h
def iL : D → D → Mu → DK → Prop := fun x y μ Q => match x, y with
  | .v (.int i), .v (.int j) => Q (.v (.int (i + j))) μ
  | .v (.tuple xs), .v (.tuple ys) => xs.length + ys.length ≤ 1000 ∧ Q (.v (.tuple (xs ++ ys))) μ
  | _, _ => xr x y μ Q
theorem OpR.or {X : Cx} {f} {r1 r2 : R2} (h1 : OpR X f r1) (h2 : OpR X f r2) : OpR X f (fun x y H Q => r1 x y H Q ∨ r2 x y H Q) := by
  intro pins s σ H x y v u Q I rx ry h
  rcases h with h | h
  · exact h1 pins s σ H x y v u Q I rx ry h
  · exact h2 pins s σ H x y v u Q I rx ry h
theorem GK {K : PySem.W.Frag} : da K (fun x y H Q => (rI0 fun i j => .int (i + j)) x y H Q ∨ ((xS K) x y H Q ∨ FG x y H Q)) iL := by
  intro x y ux uy H μ Qd Q ok rx ry h k
  unfold iL at h
  split at h
  · exact .inl (zH (K := K) (gd := fun i j => .int (i + j)) (fun _ _ _ _ => .int _) _ _ ux uy H μ Qd Q ok rx ry h k)
  · exact .inr (.inl (Du _ _ ux uy H μ Qd Q ok rx ry h k))
  · exact .inr (.inr (Fm _ _ ux uy H μ Qd Q ok rx ry h k))
theorem jI {X : Cx} {a b : Expr} {ta tb : DTE} {pos : Pos} (ha : DE X a ta) (hb : DE X b tb) : DE X (.BinOp a .Add b pos) (dOp iL ta tb) := pA (AX.or (By.or G5)) GK ha hb
section
variable {ρ : Rho} {μ : Mu} {Q : DK} {QT : Bool → Mu → Prop} {QA : List D → Mu → Prop} {QG : Rho → Mu → Prop} {QI : List PyData → Mu → Prop} {QO : Option Int → Mu → Prop} {Dd : wX} {ta tb tc : DTE} {t u : DTT} {tA : DTA} {s1 s2 : DTS} {i j : Int} {x y : PyData} {xs ys : List PyData} {d e : D}
def yv : DTS := fun _ _ _ => False
theorem Ba {X : Cx} {st : Stmt} : DS X st yv := ⟨fun _ _ _ => False, fun _ _ _ _ _ _ h => h.elim, fun _ _ _ _ _ _ _ h => h.elim⟩
theorem Dg {o : Rho} : ah 0 (some d :: o) μ Q = Q d μ := propext Iff.rfl
theorem BZ {a} {o : Rho} : ah 1 (a :: some d :: o) μ Q = Q d μ := propext Iff.rfl
theorem C3 {a b} {o : Rho} : ah 2 (a :: b :: some d :: o) μ Q = Q d μ := propext Iff.rfl
theorem tY {a b c} {o : Rho} : ah 3 (a :: b :: c :: some d :: o) μ Q = Q d μ := propext Iff.rfl
theorem CT {a b c f} {o : Rho} : ah 4 (a :: b :: c :: f :: some d :: o) μ Q = Q d μ := propext Iff.rfl
theorem BU {a b c f g} {o : Rho} : ah 5 (a :: b :: c :: f :: g :: some d :: o) μ Q = Q d μ := propext Iff.rfl
theorem Cb {a b c f g h} {o : Rho} : ah 6 (a :: b :: c :: f :: g :: h :: some d :: o) μ Q = Q d μ := propext Iff.rfl
theorem Cw {a b c f g h k} {o : Rho} : ah 7 (a :: b :: c :: f :: g :: h :: k :: some d :: o) μ Q = Q d μ := propext Iff.rfl
theorem C9 {a b c f g h k l} {o : Rho} : ah 8 (a :: b :: c :: f :: g :: h :: k :: l :: some d :: o) μ Q = Q d μ := propext Iff.rfl
theorem Cg {a b c f g h k l m} {o : Rho} : ah 9 (a :: b :: c :: f :: g :: h :: k :: l :: m :: some d :: o) μ Q = Q d μ := propext Iff.rfl
theorem yO {a b c f g h k l m n} {o : Rho} : ah 10 (a :: b :: c :: f :: g :: h :: k :: l :: m :: n :: some d :: o) μ Q = Q d μ := propext Iff.rfl
theorem q_c : dC x ρ μ Q = Q (.v x) μ := propext Iff.rfl
theorem DY {r} : dOp r ta tb ρ μ Q = ta ρ μ fun x μ1 => tb ρ μ1 fun y μ2 => r x y μ2 Q := propext Iff.rfl
theorem q_B : dB ta ρ μ QT = ta ρ μ fun d μ1 => match d with | .v (.bool k) => QT k μ1 | _ => False := propext Iff.rfl
theorem HX {C : Int → Int → Prop} {g : Int → Int → PyData} : rII C g (.v (.int i)) (.v (.int j)) μ Q = (C i j ∧ Q (.v (g i j)) μ) := propext Iff.rfl
theorem EN {g : Int → Int → PyData} : su g (.v (.int i)) (.v (.int j)) μ Q = Q (.v (g i j)) μ := propext Iff.rfl
theorem Fb : pG ta ρ μ Q = ta ρ μ fun x μ1 => match x with | .v (.int i) => Q (.v (.int (-i))) μ1 | _ => False := propext Iff.rfl
theorem uY : nM t u ρ μ QT = t ρ μ fun c μ1 => if c = true then u ρ μ1 QT else QT false μ1 := propext Iff.rfl
theorem EG : fi t u ρ μ QT = t ρ μ fun c μ1 => if c = true then QT true μ1 else u ρ μ1 QT := propext Iff.rfl
theorem BP : cg t ρ μ QT = t ρ μ fun c μ1 => QT (!c) μ1 := propext Iff.rfl
theorem BL : mD ta tb ρ μ Q = ta ρ μ fun x μ1 => match x with | .v (.bool c) => if c = true then tb ρ μ1 Q else Q (.v (.bool false)) μ1 | _ => False := propext Iff.rfl
theorem E3 : Ji ta tb ρ μ Q = ta ρ μ fun x μ1 => match x with | .v (.bool c) => if c = true then Q (.v (.bool true)) μ1 else tb ρ μ1 Q | _ => False := propext Iff.rfl
theorem BV : CP ta ρ μ Q = ta ρ μ fun x μ1 => match x with | .v (.bool c) => Q (.v (.bool (!c))) μ1 | _ => False := propext Iff.rfl
theorem HL : dIf t ta tb ρ μ Q = t ρ μ fun c μ1 => if c = true then ta ρ μ1 Q else tb ρ μ1 Q := propext Iff.rfl
theorem rD : aj ρ μ QA = QA [] μ := propext Iff.rfl
theorem me : ae ta tA ρ μ QA = ta ρ μ fun x μ1 => tA ρ μ1 fun xs μ2 => QA (x :: xs) μ2 := propext Iff.rfl
theorem zG : aS tA ρ μ Q = tA ρ μ fun ds μ1 => match cq ds with | some xs => Q (.v (.tuple xs)) μ1 | none => False := propext Iff.rfl
theorem zu : jq tA ρ μ Q = tA ρ μ fun ds μ1 => match cq ds with | some xs => Q (.v (.list xs)) μ1 | none => False := propext Iff.rfl
theorem Co : wz tA ρ μ Q = tA ρ μ fun ds μ1 => match cq ds with | some xs => ∀ p, μ1 p = none → Q (.m p) (ao μ1 p xs) | none => False := propext Iff.rfl
theorem yH : cq [] = some [] := by rw [cq]
theorem ze {r : List D} : cq (.v x :: r) = (cq r).map (x :: ·) := by rw [cq]
theorem Bm {neg : Bool} : cu neg (.v x) (.v y) μ Q = (SeqAt.shaped x = true ∧ SeqAt.shaped y = true ∧ Q (.v (.bool (neg ^^ PyData.eqv x y))) μ) := propext Iff.rfl
theorem zo {neg : Bool} : cu neg (.v (.int i)) (.v (.int j)) μ Q = Q (.v (.bool (neg ^^ decide (i = j)))) μ := by
  have e : PyData.eqv (.int i) (.int j) = decide (i = j) := by simp [PyData.eqv]; rfl
  rw [Bm, e]
  exact propext ⟨fun h => h.2.2, fun h => ⟨rfl, rfl, h⟩⟩
theorem E1 {neg : Bool} : cu neg (.v (.tuple xs)) (.v (.tuple ys)) μ Q = (SeqAt.shaped (.tuple xs) = true ∧ SeqAt.shaped (.tuple ys) = true ∧ Q (.v (.bool (neg ^^ PyData.eqv (.tuple xs) (.tuple ys)))) μ) := propext Iff.rfl
theorem EX {neg : Bool} : cu neg (.v (.list xs)) (.v (.list ys)) μ Q = (SeqAt.shaped (.list xs) = true ∧ SeqAt.shaped (.list ys) = true ∧ Q (.v (.bool (neg ^^ PyData.eqv (.list xs) (.list ys)))) μ) := propext Iff.rfl
theorem EZ {neg a b : Bool} : cu neg (.v (.bool a)) (.v (.bool b)) μ Q = Q (.v (.bool (neg ^^ (a == b)))) μ := by
  have e : PyData.eqv (.bool a) (.bool b) = (a == b) := by cases a <;> cases b <;> simp [PyData.eqv] <;> rfl
  rw [Bm, e]
  exact propext ⟨fun h => h.2.2, fun h => ⟨rfl, rfl, h⟩⟩
theorem EU {neg : Bool} : Di neg (.v x) (.v (.list ys)) μ Q = (PyData.canLayAll0 ys = true ∧ x.canLay0 = true ∧ PyData.depth x ≤ 60 ∧ Q (.v (.bool (neg ^^ ys.any fun b => PyData.eqv b x))) μ) := propext Iff.rfl
theorem wK : aX (.v (.list xs)) (.v (.int i)) μ Q = (match atI xs i with | some d => Q (.v d) μ | none => False) := propext Iff.rfl
theorem tf : aX (.v (.tuple xs)) (.v (.int i)) μ Q = (match atI xs i with | some d => Q (.v d) μ | none => False) := propext Iff.rfl
theorem Cc {l : Addr} : aX (.m l) (.v (.int i)) μ Q = (match μ l with | some xs => (match atI xs i with | some d => Q (.v d) μ | none => False) | none => False) := propext Iff.rfl
theorem EL {ns : List Int} : aX (.s ns) (.v (.int i)) μ Q = (match atI ns i with | some d => Q (.v (.int d)) μ | none => False) := propext Iff.rfl
theorem ve : aX (.v (.list (x :: xs))) (.v (.int 0)) μ Q = Q (.v x) μ := by rw [wK, wL]
theorem yj : aX (.v (.tuple (x :: xs))) (.v (.int 0)) μ Q = Q (.v x) μ := by rw [tf, wL]
theorem CQ {z} : aX (.v (.list (z :: x :: xs))) (.v (.int 1)) μ Q = Q (.v x) μ := by rw [wK, xg]
theorem x9 {z} : aX (.v (.tuple (z :: x :: xs))) (.v (.int 1)) μ Q = Q (.v x) μ := by rw [tf, xg]
theorem AR {z w} : aX (.v (.list (z :: w :: x :: xs))) (.v (.int 2)) μ Q = Q (.v x) μ := by rw [wK, zN]
theorem yf {z w} : aX (.v (.tuple (z :: w :: x :: xs))) (.v (.int 2)) μ Q = Q (.v x) μ := by rw [tf, zN]
theorem Bq {z w v} : aX (.v (.tuple (z :: w :: v :: x :: xs))) (.v (.int 3)) μ Q = Q (.v x) μ := by rw [tf, BG]
theorem Eu : xr d e μ Q = (match o9 μ d, o9 μ e with | some xs, some ys => xs.length + ys.length ≤ 1000 ∧ Q (.v (.list (xs ++ ys))) μ | _, _ => False) := propext Iff.rfl
theorem Bx : ye (.v (.tuple xs)) (.v (.tuple ys)) μ Q = (xs.length + ys.length ≤ 1000 ∧ Q (.v (.tuple (xs ++ ys))) μ) := propext Iff.rfl
theorem AU : iL (.v (.int i)) (.v (.int j)) μ Q = Q (.v (.int (i + j))) μ := propext Iff.rfl
theorem Bt : iL (.v (.tuple xs)) (.v (.tuple ys)) μ Q = (xs.length + ys.length ≤ 1000 ∧ Q (.v (.tuple (xs ++ ys))) μ) := propext Iff.rfl
theorem CY : iL (.v (.list xs)) (.v (.list ys)) μ Q = (xs.length + ys.length ≤ 1000 ∧ Q (.v (.list (xs ++ ys))) μ) := propext Iff.rfl
theorem CU {a : Addr} : iL (.m a) e μ Q = xr (.m a) e μ Q := propext Iff.rfl
theorem IL {tl th : DTO} : dSl ta tl th ρ μ Q = ta ρ μ fun x μ1 => tl ρ μ1 fun l μ2 => th ρ μ2 fun u μ3 => CG x l u μ3 Q := propext Iff.rfl
theorem w9 : iK ρ μ QO = QO none μ := propext Iff.rfl
theorem BC : o6 ta ρ μ QO = ta ρ μ fun x μ1 => match x with | .v (.int i) => QO (some i) μ1 | _ => False := propext Iff.rfl
theorem EE {lo hi : Option Int} : CG (.v (.tuple xs)) lo hi μ Q = Q (.v (.tuple (mf xs lo hi))) μ := propext Iff.rfl
theorem EY {lo hi : Option Int} : CG (.v (.list xs)) lo hi μ Q = Q (.v (.list (mf xs lo hi))) μ := propext Iff.rfl
theorem EB : Ju ta ρ μ Q = ta ρ μ fun x μ1 => match x with | .v (.tuple xs) => Q (.v (.tuple xs.reverse)) μ1 | .v (.list xs) => Q (.v (.list xs.reverse)) μ1 | .m l => (match μ1 l with | some xs => Q (.v (.list xs.reverse)) μ1 | none => False) | _ => False := propext Iff.rfl
theorem Eg {rd} : dCB rd tA ρ μ Q = tA ρ μ fun ds μ1 => rd ds μ1 Q := propext Iff.rfl
theorem u7 : cT [.v (.list ys)] μ Q = Q (.v (.int (ys.length : Nat))) μ := propext Iff.rfl
theorem AW : cT [.v (.tuple ys)] μ Q = Q (.v (.int (ys.length : Nat))) μ := propext Iff.rfl
theorem Bi {ns : List Int} : cT [.s ns] μ Q = Q (.v (.int (ns.length : Nat))) μ := propext Iff.rfl
theorem Cy {l : Addr} : cT [.m l] μ Q = (match μ l with | some ys => Q (.v (.int (ys.length : Nat))) μ | none => False) := propext Iff.rfl
theorem EH : mI [.v (.int i)] μ Q = Q (.v (.int (i.natAbs : Nat))) μ := propext Iff.rfl
theorem HR {g : Int → Int → Int} : yh g [.v (.int i), .v (.int j)] μ Q = Q (.v (.int (g i j))) μ := propext Iff.rfl
theorem Cn {k : Bool} : lL [.v (.bool k)] μ Q = Q (.v (.int (if k then 1 else 0))) μ := propext Iff.rfl
theorem Bv : lL [.v (.int i)] μ Q = Q (.v (.int i)) μ := propext Iff.rfl
theorem zv : kz [.v (.list ys)] μ Q = Q (.v (.list ys)) μ := propext Iff.rfl
theorem yS : kz [.v (.tuple ys)] μ Q = Q (.v (.list ys)) μ := propext Iff.rfl
theorem CV : mR [.v (.list ys)] μ Q = (match bW ys with | some bs => Q (.v (.bool (bs.all id))) μ | none => False) := propext Iff.rfl
theorem EF {T : String} : ow T ta ρ μ Q = ta ρ μ fun x μ1 => match x with | .v d => Q (.v (.bool (isT T d))) μ1 | _ => False := propext Iff.rfl
theorem E8 {a b : Bool} : Ae (.v (.bool a)) (.v (.bool b)) μ Q = Q (.v (.bool (a == b))) μ := propext Iff.rfl
theorem E5 : Ae (.v .none) (.v .none) μ Q = Q (.v (.bool true)) μ := propext Iff.rfl
theorem k9 {n : Nat} : aw n d ρ μ QG = QG (ρ.set n (some d)) μ := propext Iff.rfl
theorem BQ : gQ [] ρ μ QG = QG ρ μ := propext Iff.rfl
theorem yV {g : DTG} {gs : sA} : ba g gs (x :: xs) ρ μ QG = g (.v x) ρ μ fun ρ1 μ1 => gs xs ρ1 μ1 QG := propext Iff.rfl
theorem BM {n : Nat} {gs : sA} : gw n gs (.v (.tuple xs)) ρ μ QG = (xs.length = n ∧ gs xs ρ μ QG) := propext Iff.rfl
theorem Cp : yF ta tb d ρ μ QG = ta ρ μ fun o μ1 => tb ρ μ1 fun i μ2 => match o, i, d with
  | .m l, .v (.int k), .v x => (match μ2 l with
    | some xs => (match ixN xs.length k with
      | some j => QG ρ (ao μ2 l (xs.set j x))
      | none => False)
    | none => False)
  | _, _, _ => False := propext Iff.rfl
theorem zO {g : DTG} : bE ta g Dd ρ μ = ta ρ μ fun d μ1 => g d ρ μ1 Dd.nx := propext Iff.rfl
theorem Fc {i j : Nat} : yb i j tA Dd ρ μ = tA ρ μ fun ds μ1 => match ds with | [v, w] => Dd.nx ((ρ.set i (some v)).set j (some w)) μ1 | _ => False := propext Iff.rfl
theorem BX : bu Dd ρ μ = Dd.nx ρ μ := propext Iff.rfl
theorem qe : aQ s1 s2 Dd ρ μ = s1 { Dd with nx := s2 Dd } ρ μ := propext Iff.rfl
theorem zJ : bh ta Dd ρ μ = ta ρ μ Dd.rt := propext Iff.rfl
theorem CL : qU ta Dd ρ μ = ta ρ μ fun _ μ1 => Dd.nx ρ μ1 := propext Iff.rfl
theorem yZ : cB t s1 s2 Dd ρ μ = t ρ μ fun b μ1 => if b = true then s1 Dd ρ μ1 else s2 Dd ρ μ1 := propext Iff.rfl
theorem zr : yv Dd ρ μ = False := propext Iff.rfl
theorem CJ {dsp : DSp} : aF dsp tA ρ μ Q = tA ρ μ fun ds μ1 => dsp ds μ1 Q := propext Iff.rfl
theorem Ey : C5 ta tb ρ μ Q = ta ρ μ fun x μ1 => match x with
  | .m l => tb ρ μ1 fun y μ2 => (match y, μ2 l with
    | .v d, some xs => xs.length < 1000 ∧ Q (.v .none) (ao μ2 l (xs ++ [d]))
    | _, _ => False)
  | _ => False := propext Iff.rfl
theorem Et : IY ta tb ρ μ Q = ta ρ μ fun x μ1 => match x with
  | .m l => tb ρ μ1 fun y μ2 => (match y, μ2 l with
    | .v (.list ys), some xs => xs.length + ys.length ≤ 1000 ∧ Q (.v .none) (ao μ2 l (xs ++ ys))
    | _, _ => False)
  | _ => False := propext Iff.rfl
theorem B8 : HH ta ρ μ Q = ta ρ μ fun x μ1 => match x with | .v (.int i) => Q (.v (.int (Builtin.Int.intBits i : Nat))) μ1 | _ => False := propext Iff.rfl
theorem zh {r r'} : vc r r' ta tb tc ρ μ Q = ta ρ μ fun x μ1 => tb ρ μ1 fun y μ2 => r x y μ2 fun z μ3 => match z with
  | .v (.bool k) => if k = true then tc ρ μ3 fun w μ4 => r' y w μ4 Q else Q (.v (.bool false)) μ3
  | _ => False := propext Iff.rfl
theorem A5 : mX ρ μ QT = QT true μ := propext Iff.rfl
theorem wt : rE ta ρ μ QI = ta ρ μ fun d μ1 => match d with | .v (.list xs) => QI xs μ1 | _ => False := propext Iff.rfl
theorem yI : o5 ta ρ μ QI = ta ρ μ fun d μ1 => match d with | .v (.tuple xs) => QI xs μ1 | _ => False := propext Iff.rfl
theorem vY : rj tA ρ μ QI = tA ρ μ fun ds μ1 => match ds with | [.v (.int j)] => (-(2 ^ 62) ≤ j ∧ j < 2 ^ 62) ∧ QI (kQ 0 j.toNat) μ1 | _ => False := propext Iff.rfl
theorem wD : yC tA ρ μ QI = tA ρ μ fun ds μ1 => match ds with | [.v (.int i), .v (.int j)] => (-(2 ^ 62) ≤ i ∧ i < 2 ^ 62 ∧ -(2 ^ 62) ≤ j ∧ j < 2 ^ 62) ∧ QI (kQ i (j - i).toNat) μ1 | _ => False := propext Iff.rfl
theorem zM {src : DTI} {g : DTG} : zX src g s1 Dd ρ μ = src ρ μ fun xs μ1 => ∃ Pv : Nat → Rho → Mu → Prop, Pv 0 ρ μ1 ∧
  (∀ i x ρ' μ', xs[i]? = some x → Pv i ρ' μ' → g (.v x) ρ' μ' fun ρ2 μ2 => s1 { Dd with nx := Pv (i + 1), ct := Pv (i + 1), bk := Dd.nx } ρ2 μ2) ∧ (∀ ρ' μ', Pv xs.length ρ' μ' → Dd.nx ρ' μ') := propext Iff.rfl
theorem AY {cap : List (Option Nat)} {src : DTI} {g : DTG} : nP cap src g t ta ρ μ Q = src ρ μ fun xs μ1 => xs.length ≤ 1000 ∧ ∃ f : PyData → Option PyData,
  (∀ x ∈ xs, ∀ μ' : Mu, (∀ a ds, μ1 a = some ds → μ' a = some ds) → g (.v x) (aO cap ρ) μ' fun ρ2 μ2 => Le (aO cap ρ) ρ2 ∧ t ρ2 μ2 fun b μ3 =>
    if b = true then ta ρ2 μ3 fun d μ4 => μ4 = μ' ∧ (match d with | .v y => f x = some y | _ => False) else μ3 = μ' ∧ f x = none) ∧ Q (.v (.list (xs.filterMap f))) μ1 := propext Iff.rfl
theorem Bn {α : Type} {r : List (Option α)} : aO [] r = [] := rfl
theorem CI {α : Type} {o : Option Nat} {c : List (Option Nat)} {r : List (Option α)} : aO (o :: c) r = (o.bind fun j => (r[j]?).join) :: aO c r := rfl
theorem EK : Le [] [] = True := propext ⟨fun _ => trivial, fun h => h⟩
theorem EW {r r' : Rho} {o : Option D} : Le (none :: r) (o :: r') = Le r r' := propext Iff.rfl
theorem Ez {r r' : Rho} {d d' : D} : Le (some d :: r) (some d' :: r') = (d = d' ∧ Le r r') := propext Iff.rfl
theorem iX {α : Type} (p : α → Bool) : ∀ xs : List α, bW (xs.map fun x => PyData.bool (p x)) = some (xs.map p)
  | [] => rfl
  | x :: r => by rw [List.map_cons, bW, iX p r]; rfl
theorem lz {α β : Type} (p : α → β) : ∀ xs : List α, xs.filterMap (fun x => some (p x)) = xs.map p
  | [] => rfl
  | x :: r => by rw [List.filterMap_cons, lz p r]; rfl
end
theorem Df {α β : Type} [BEq α] [LawfulBEq α] {x : α} {k : β} : ∀ {l : List (α × β)}, l.lookup x = some k → (x, k) ∈ l
  | [], h => by cases h
  | (y, j) :: r, h => by
    rw [List.lookup_cons] at h
    cases e : x == y with
    | true =>
      rw [e] at h
      simp only [Option.some.injEq] at h
      have : x = y := eq_of_beq e
      subst this h
      exact List.mem_cons_self
    | false =>
      rw [e] at h
      exact List.mem_cons_of_mem _ (Df h)
def cfK : NameKind → Bool
  | .cell => true
  | .free => true
  | _ => false
theorem eQ {names : List (Str × NameKind)} {cl : List (Str × Addr)} (h : (names.all fun y => !(cfK y.2) || (cl.lookup y.1).isSome) = true) (x : Str) (hx : names.lookup x = some .cell ∨ names.lookup x = some .free) : ∃ a, cl.lookup x = some a := by
  rw [List.all_eq_true] at h
  have key : ∀ k, cfK k = true → names.lookup x = some k → ∃ a, cl.lookup x = some a := fun k hk e => by
    have q := h _ (Df e)
    simp only [hk, Bool.not_true, Bool.false_or] at q
    exact Option.isSome_iff_exists.mp q
  rcases hx with e | e
  · exact key _ rfl e
  · exact key _ rfl e
def Dh (X : Cx) (sc : Scope) : List (Option Nat) → List Str → Prop
  | none :: c, _ :: n => Dh X sc c n
  | some j :: c, x :: n => (X.N[j]? = some x ∧ Vis X.env.scope x ∧ X.env.kindOf x ≠ some .local ∧ ((relabel sc X.env).names.lookup x = some .cell ∨ (relabel sc X.env).names.lookup x = some .free)) ∧ Dh X sc c n
  | _, _ => True
theorem fF {X : Cx} {sc : Scope} : ∀ {c : List (Option Nat)} {n : List Str}, Dh X sc c n → ∀ (i j : Nat) (x : Str), c[i]? = some (some j) → n[i]? = some x →
    X.N[j]? = some x ∧ Vis X.env.scope x ∧ X.env.kindOf x ≠ some .local ∧ ((relabel sc X.env).names.lookup x = some .cell ∨ (relabel sc X.env).names.lookup x = some .free)
  | [], _, _, i, j, x, h, _ => by simp at h
  | _ :: _, [], _, i, j, x, _, h => by simp at h
  | none :: c, y :: n, k, 0, j, x, h, _ => by simp at h
  | none :: c, y :: n, k, i + 1, j, x, h, g => fF (c := c) (n := n) k i j x (by simpa using h) (by simpa using g)
  | some l :: c, y :: n, k, 0, j, x, h, g => by
    simp only [List.getElem?_cons_zero, Option.some.injEq] at h g
    subst h g
    exact k.1
  | some l :: c, y :: n, k, i + 1, j, x, h, g => fF (c := c) (n := n) k.2 i j x (by simpa using h) (by simpa using g)
theorem Dq {X : Cx} {sc : Scope} {j : Nat} {x : Str} (h1 : X.N[j]? = some x := by rfl) (h2 : Vis X.env.scope x := by first | exact Or.inl rfl | exact Or.inr (Or.inl rfl) | exact Or.inr (Or.inr rfl)) (h3 : X.env.kindOf x ≠ some .local := by first | (intro z; cases z) | exact (fun z => nomatch z))
    (h4 : (relabel sc X.env).names.lookup x = some .cell ∨ (relabel sc X.env).names.lookup x = some .free := by first | exact Or.inl rfl | exact Or.inr rfl) : X.N[j]? = some x ∧ Vis X.env.scope x ∧ X.env.kindOf x ≠ some .local ∧ ((relabel sc X.env).names.lookup x = some .cell ∨ (relabel sc X.env).names.lookup x = some .free) := ⟨h1, h2, h3, h4⟩
open PySem PySem.Spec PyProof.Rows
def cf (μ : Mu) (p : Addr) : Mu := fun b => if b = p then none else μ b
theorem vG {μ : Mu} {p b : Addr} (h : b ≠ p) : cf μ p b = μ b := by unfold cf; rw [if_neg h]
def kD (cap : List (Option Nat)) (src : DTI) (g : DTG) (c : DTT) (elt : DTE) : DTE := fun ρ μ Q => src ρ μ fun xs μ1 => xs.length ≤ 1000 ∧ ∀ p, μ1 p = none → ∃ Pv : Nat → List PyData → Mu → Prop, Pv 0 [] (ao μ1 p []) ∧
  (∀ i x acc μ', xs[i]? = some x → μ' p = some acc → Pv i acc μ' → g (.v x) (aO cap ρ) μ' fun ρ2 μ2 => Le (aO cap ρ) ρ2 ∧ c ρ2 μ2 fun b μ3 =>
    if b = true then elt ρ2 μ3 fun d μ4 => μ4 p = some acc ∧ (match d with | .v y => Pv (i + 1) (acc ++ [y]) (ao μ4 p (acc ++ [y])) | _ => False) else μ3 p = some acc ∧ Pv (i + 1) acc μ3) ∧
  (∀ acc μ', Pv xs.length acc μ' → μ' p = some acc → Q (.v (.list acc)) (cf μ' p))
theorem Ap {X : Cx} {pos2 : Pos} {use : Option (Value → Sem Unit)} {QQ : Value → Shared → Prop} {pins : List (Addr × Obj)} {s : Shared} {σ : St} {H : Hp} {ρ : Rho} {μ : Mu} {Qd : DK} {N' : List Str} {scope : Scope} {cl : List (Str × Addr)} {elt iter tg : Expr} {ifs : List Expr} {pos : Pos} {cap : List (Option Nat)} {src : DTI} {g : DTG} {c : DTT} {te : DTE} (hc : X.calm = X.calm)
    (hi : DI X tg iter src) (hg : ∀ fp s₃ H₃, DG (az X N' scope cl fp s₃ H₃) tg g) (hif : ∀ fp s₃ H₃, xx (az X N' scope cl fp s₃ H₃) ifs c) (he : ∀ fp s₃ H₃, DE (az X N' scope cl fp s₃ H₃) elt te)
    (hclos : closureFor scope X.env = pure cl) (hcell : ∀ y ∈ scope.names, y.2 ≠ .cell) (hkind : scope.kind = .function) (hnames : ∀ y ∈ scope.names, y.2 = .local → scope.names.lookup y.1 = some .local)
    (hcl : ∀ x a, cl.lookup x = some a → X.env.cells.lookup x = some a) (hhas : ∀ x, (relabel scope X.env).names.lookup x = some .cell ∨ (relabel scope X.env).names.lookup x = some .free → ∃ a, cl.lookup x = some a)
    (hlen : cap.length = N'.length) (hcap : ∀ (i j : Nat) (x : Str), cap[i]? = some (some j) → N'[i]? = some x → X.N[j]? = some x ∧ Vis X.env.scope x ∧ X.env.kindOf x ≠ some .local ∧ ((relabel scope X.env).names.lookup x = some .cell ∨ (relabel scope X.env).names.lookup x = some .free))
    (hs : ∀ x, foldedSetIterable iter X.env x = pure x )
    (I : Inv X pins σ H s) (S : St0 X.K H ρ μ σ) (h : kD cap src g c te ρ μ Qd)
    (hend : ∀ (s4 : Shared) (Hc : Hp) (C pa : Addr) (m : Str → Option Value) (acc : List PyData) (μF : Mu), s4.heap.Ns C m → oJ X pins Hc C → (∀ h', Heap.SameBut C s4.heap h' → Inv X pins σ Hc { s4 with heap := h' }) →
      Ext X.K μ H μF Hc → St0 X.K Hc ρ μF σ → Rp X.K μF Hc (.list acc) (.ref pa) → Qd (.v (.list acc)) μF → compPost (model X.prog X.w) X.A X.xe use QQ (.ref pa) C (.ok .next) s4) :
    wpAny (model X.prog X.w) X.A (comprehension (.ListComp elt [⟨tg, iter, ifs, 0⟩] scope pos) scope X.env pos2 (newList []) false (eval iter X.env) use) QQ X.xe s := by
  obtain ⟨wi, pw, li⟩ := hi
  refine wpAny_comprehension_free rfl hs hclos hkind hnames (thn (pw pins s σ H _ I (li σ H ρ μ _ (fun J H1 => ∃ xs μ1, Ext X.K μ H μ1 H1 ∧ St0 X.K H1 ρ μ1 σ ∧ DJ X.K J xs μ1 H1 ∧ xs.length ≤ 1000 ∧ ∀ p, μ1 p = none → ∃ Pv : Nat → List PyData → Mu → Prop, Pv 0 [] (ao μ1 p []) ∧
      (∀ i x acc μ', xs[i]? = some x → μ' p = some acc → Pv i acc μ' → g (.v x) (aO cap ρ) μ' fun ρ2 μ2 => Le (aO cap ρ) ρ2 ∧ c ρ2 μ2 fun b μ3 =>
        if b = true then te ρ2 μ3 fun d μ4 => μ4 p = some acc ∧ (match d with | .v y => Pv (i + 1) (acc ++ [y]) (ao μ4 p (acc ++ [y])) | _ => False) else μ3 p = some acc ∧ Pv (i + 1) acc μ3) ∧
      (∀ acc μ', Pv xs.length acc μ' → μ' p = some acc → Qd (.v (.list acc)) (cf μ' p))) S h (fun xs μ1 H1 J e1 S1 it q => ⟨xs, μ1, e1, S1, it, q⟩)))
    fun v s1 h1 => thn h1 fun itv s2 h2 => ?_)
  obtain ⟨it, fp, tn, J, H2, rfl, I2, T, st2, f2, xs, μ1, e1, S1, itok, hxs, allp⟩ := h2
  refine wpAny_newObj_type (wpAny_newFunctionEnv hcell (by intro y hy; simp at hy) (fun h₁ hns₁ hsb₁ => ?_) hkind)
  dsimp only at hns₁ hsb₁ ⊢
  have hfree2 : H2 s2.heap.objs.size = none := I2.hok.fresh (Nat.le_refl _)
  have hK2 : X.K.lookup s2.heap.objs.size = none := by
    cases z : X.K.lookup s2.heap.objs.size with
    | none => rfl
    | some o => exact absurd (Heap.lt_size (I2.kIn _ _ z)) (Nat.lt_irrefl _)
  have I3 : Inv X pins σ (upd H2 s2.heap.objs.size (.lst [])) { s2 with heap := s2.heap.push { cls := .type "list", dict := none, data := .seq ([] : List Value).toArray } } :=
    I2.laid (t' := s2.toks) (fun b u e => Heap.get?_push_of_some _ e) (Nat.le_refl _) ⟨Nat.zero_le _, [], 0, .nil, Heap.get?_push_size _ rfl⟩
  generalize hH : s2.heap.push { cls := .type "list", dict := none, data := .seq ([] : List Value).toArray } = hp3 at hns₁ hsb₁ I3 ⊢
  have hsz3 : hp3.objs.size = s2.heap.objs.size + 1 := by rw [← hH, Heap.size_push]
  have kept3 : ∀ b o, hp3.get? b = some o → h₁.get? b = some o := fun b o e => hsb₁.extBut b o (Nat.ne_of_lt (Heap.lt_size e)) (Heap.get?_push_of_some _ e)
  have old3 : ∀ b o, s2.heap.get? b = some o → hp3.get? b = some o := fun b o e => by rw [← hH]; exact Heap.get?_push_of_some _ e
  have fplt : ∀ b ∈ fp, b < s2.heap.objs.size := fun b hb => by obtain ⟨o, e, _⟩ := T.obj 0 _ st2 b hb; exact Heap.lt_size e
  have fpst : ∀ b ∈ fp, b ∉ frs X.stack := fun b hb hz => by
    rcases List.mem_cons.mp (I2.gN b hz) with e | e
    · exact (f2 b hb).2.1 e
    · exact (f2 b hb).2.2.1 e
  obtain ⟨s3, hs3⟩ : ∃ s3 : Shared, s3 = { s2 with heap := hp3 } := ⟨_, rfl⟩
  obtain ⟨H3, hH3⟩ : ∃ H3 : Hp, H3 = upd H2 s2.heap.objs.size (.lst []) := ⟨_, rfl⟩
  have heap3 : s3.heap = hp3 := by rw [hs3]
  rw [← hH3] at I3
  have I3' : Inv X pins σ H3 s3 := by rw [hs3]; exact I3
  have hloc : H3 hp3.objs.size = none := by have := I3'.hok.fresh (a := hp3.objs.size) (by rw [heap3]; exact Nat.le_refl _); exact this
  have okc : (az X N' scope cl fp s3 H3).Ok := by
    refine ⟨I3.ok.mod, ?_, I3.ok.glob, I3.ok.blt, Nat.le_refl _, fun x y a h1 h2 => I3.ok.inj x y a (hcl x a h1) (hcl y a h2), fun x hx => hhas x hx, fun x a h => (nomatch h), I3.ok.hd, I3.ok.qt, I3.ok.frames, .inl rfl, fun b hb => ⟨?_, fun x a h => (f2 b hb).2.2.2.2.1 x a (hcl x a h)⟩,
      I3'.bs, Nat.le_trans I3.ok.bsz I3'.sz, fun b o e hb => ?_, fun b hb => fpst b hb, I3'.stack, I3'.jN⟩
    · exact hkind
    · show b ≠ s3.heap.objs.size
      rw [heap3, hsz3]
      exact Nat.ne_of_lt (Nat.lt_succ_of_lt (fplt b hb))
    · rcases (f2 b hb).2.2.2.1 with z | z
      · exact I3.ok.rW b o e z
      · exact absurd (Nat.lt_of_lt_of_le (Heap.lt_size (I3.ok.bs b o e).1) z) (Nat.lt_irrefl _)
  have I4 : Inv (az X N' scope cl fp s3 H3) [] (aO cap σ) H3 { s2 with heap := h₁, toks := s2.toks + ([] : List (Str × Value)).length } := by
    refine ⟨okc, by show s2.os = s3.os; rw [hs3], I3.bare, Un.kept (by show ∀ b o, s3.heap.get? b = some o → _; rw [heap3]; exact kept3), ⟨_, (by show h₁.Ns s3.heap.objs.size _; rw [heap3]; exact hns₁), fun i x v e1 e2 e3 => ?_⟩, fun x a h => ?_, (by show H3 s3.heap.objs.size = none; rw [heap3]; exact hloc), fun x a h => I3.dJ x a (hcl x a h), fun p hp => ?_, I3.hok.kept kept3, ?_⟩
    · obtain ⟨j, h1, h2⟩ := gz e2
      obtain ⟨hN, hv, hnl, hk⟩ := hcap i j x h1 e1
      obtain ⟨m, _, hl⟩ := I3.loc
      obtain ⟨u, r, lk⟩ := hl j x v hN h2 hv
      refine ⟨u, r, .inr ⟨hk, ?_⟩⟩
      obtain ⟨a, ha⟩ := hhas x hk
      rcases lk with ⟨z, _⟩ | ⟨_, a', z1, z2⟩
      · exact absurd z hnl
      · have : a' = a := by have q := hcl x a ha; rw [z1] at q; exact Option.some.inj q
        subst this
        obtain ⟨o, ho, hd⟩ := z2
        exact ⟨a', ha, o, kept3 _ _ ho, hd⟩
    · obtain ⟨v, o, ho, hd⟩ := I3.cell x a (hcl x a h)
      exact ⟨v, o, kept3 _ _ ho, hd⟩
    · have hp' : p ∈ X.pn ++ pins := List.mem_append_left _ (by simpa using (show p ∈ X.pn ++ [] from hp))
      obtain ⟨z1, z2, z3, z4, z5⟩ := I3'.pin p hp'
      refine ⟨kept3 _ _ (by rw [← heap3]; exact z1), z2, (show p.1 ≠ s3.heap.objs.size from Nat.ne_of_lt (Heap.lt_size z1)), fun z => ?_, z5⟩
      rcases List.mem_cons.mp (I3'.gN p.1 z) with e | e
      · exact z3 e
      · exact z4 e
    · show (aO cap σ).length = N'.length
      unfold aO
      rw [List.length_map]
      exact hlen
  have hμ1 : μ1 s2.heap.objs.size = none := S1.mu.free hfree2
  obtain ⟨Pv, pv0, body, fin⟩ := allp s2.heap.objs.size hμ1
  have loop : codeAny (model X.prog X.w) X.A (.compLoop (.ListComp elt [⟨tg, iter, ifs, 0⟩] scope pos) 0 (.ref it) (.ref s2.heap.objs.size) (az X N' scope cl fp s3 H3).env)
      (compPost (model X.prog X.w) X.A X.xe use QQ (.ref s2.heap.objs.size) hp3.objs.size) { s2 with heap := h₁, toks := s2.toks + ([] : List (Str × Value)).length } := by
    refine cj (fun n s' => ∃ (i : Nat) (σc : St) (Hc : Hp) (acc : List PyData) (μc : Mu), n = xs.length - i ∧ i ≤ xs.length ∧ Inv (az X N' scope cl fp s3 H3) [] σc Hc s' ∧ tn i s'.heap ∧ (∀ b ∈ fp, Hc b = none) ∧
      acc.length ≤ i ∧ μc s2.heap.objs.size = some acc ∧ Pv i acc μc ∧ St0 X.K Hc (aO cap ρ) μc σc ∧ Ext X.K μ1 H2 μc Hc) ?_ xs.length
      ⟨0, aO cap σ, H3, [], ao μ1 s2.heap.objs.size [], by simp, Nat.zero_le _, I4, T.keep 0 _ _ st2 (fun b hb o e => kept3 b o (old3 b o e)), fun b hb => ?_, Nat.le_refl _, aB, pv0, ?_, ?_⟩
    · rintro n s' ⟨i, σc, Hc, acc, μc, rfl, hi, Ic, tc, frc, hal, hpa, pvi, Sc, Ec⟩
      have stat : ∀ {Hd : Hp}, (∀ b ∈ fp, Hd b = none) → ∀ b ∈ fp, oJ (az X N' scope cl fp s3 H3) [] Hd b := fun hn b hb =>
        ⟨hn b hb, (okc.exf b hb).1, fpst b hb, .inl hb, fun x a h => (okc.exf b hb).2 x a h, fun p hp => (f2 b hb).2.2.2.2.2 p (List.mem_append_left _ (by simpa using (show p ∈ X.pn ++ [] from hp)))⟩
      obtain ⟨go, stop⟩ := itok _ Hc Ec Sc.mu i
      by_cases hlt : i < xs.length
      · obtain ⟨g1, y1⟩ := go hlt
        refine thn (T.item (az X N' scope cl fp s3 H3) rfl rfl rfl (fun z => z) i [] s' σc Hc (fun _ _ => False) Ic (stat frc) tc g1) fun r s4 ⟨u, hr, h4⟩ => ?_
        subst hr
        refine thn h4 fun _ s5 ⟨x, H5, I5, r5, y5, st5, fr5⟩ => ?_
        obtain ⟨d, hd, sm, rd⟩ := y1 x H5 y5
        have I5' := I5.pinned (stat fr5) (T.obj _ _ st5)
        have e5 : Ext X.K _ Hc _ H5 := .of_same (μ := μc) sm
        have S5 : St0 X.K H5 (aO cap ρ) μc σc := ⟨Sc.mu.xU e5 sm, Sc.rho.ext Sc.mu e5⟩
        obtain ⟨gt, pg, lg⟩ := hg fp s3 H3
        refine thn (pg _ s5 σc H5 x u (fun σ' H' => ∃ ρ' μ', Ext X.K μc H5 μ' H' ∧ St0 X.K H' ρ' μ' σ' ∧ Le (aO cap ρ) ρ' ∧ c ρ' μ' fun b μ3 =>
            if b = true then te ρ' μ3 fun d' μ4 => μ4 s2.heap.objs.size = some acc ∧ (match d' with | .v y => Pv (i + 1) (acc ++ [y]) (ao μ4 s2.heap.objs.size (acc ++ [y])) | _ => False) else μ3 s2.heap.objs.size = some acc ∧ Pv (i + 1) acc μ3) I5' r5
          (lg σc H5 (aO cap ρ) _ (.v d) x _ _ S5 rd (body i d acc μc hd hpa pvi) fun σ' ρ' μ' H' e' S' q => ⟨ρ', μ', e', S', q⟩)) fun _ s6 ⟨σ6, H6, I6, ρ6, μ6, e6, S6, le6, q6⟩ => ?_
        refine thn (hif fp s3 H3 _ s6 σ6 H6 ρ6 μ6 _ (fun b H' => ∃ μ', Ext X.K μ6 H6 μ' H' ∧ St0 X.K H' ρ6 μ' σ6 ∧ if b = true then te ρ6 μ' fun d' μ4 => μ4 s2.heap.objs.size = some acc ∧ (match d' with | .v y => Pv (i + 1) (acc ++ [y]) (ao μ4 s2.heap.objs.size (acc ++ [y])) | _ => False) else μ' s2.heap.objs.size = some acc ∧ Pv (i + 1) acc μ')
          I6 S6 q6 fun b μ' H' e' S' q => ⟨μ', e', S', q⟩) fun b s7 ⟨H7, I7, μ7, e7, S7, q7⟩ => ?_
        have again : ∀ {H9 : Hp} {s9 : Shared} {acc' : List PyData} {μ9 : Mu}, Inv (az X N' scope cl fp s3 H3) ([] ++ jH fp s5.heap) σ6 H9 s9 → acc'.length ≤ i + 1 → μ9 s2.heap.objs.size = some acc' → Pv (i + 1) acc' μ9 → aZ X.K μ9 H9 → cE X.K μ9 H9 (aO cap ρ) σ6 →
            Ext X.K μ1 H2 μ9 H9 → ∃ m, m < xs.length - i ∧ ∃ (i : Nat) (σc : St) (Hc : Hp) (acc : List PyData) (μc : Mu), m = xs.length - i ∧ i ≤ xs.length ∧ Inv (az X N' scope cl fp s3 H3) [] σc Hc s9 ∧ tn i s9.heap ∧ (∀ b ∈ fp, Hc b = none) ∧
              acc.length ≤ i ∧ μc s2.heap.objs.size = some acc ∧ Pv i acc μc ∧ St0 X.K Hc (aO cap ρ) μc σc ∧ Ext X.K μ1 H2 μc Hc := fun {H9 s9 acc' μ9} I9 l9 p9 v9 m9 r9 e9 => by
          refine ⟨xs.length - (i + 1), by omega, i + 1, σ6, H9, acc', μ9, rfl, hlt, I9.eP, T.keep _ _ _ st5 fun b hb o e => (I9.pin (b, o) (List.mem_append_right _ (List.mem_append_right _ (bD hb e)))).1, fun b hb => ?_, l9, p9, v9, ⟨m9, r9⟩, e9⟩
          obtain ⟨o, e, _⟩ := T.obj _ _ st5 b hb
          exact (I9.pin (b, o) (List.mem_append_right _ (List.mem_append_right _ (bD hb e)))).2.1
        cases b with
        | false =>
          have q8 : μ7 s2.heap.objs.size = some acc ∧ Pv (i + 1) acc μ7 := by simpa using q7
          refine mV ?_
          exact again I7 (by omega) q8.1 q8.2 S7.mu (S7.rho.le le6) (Ec.trans (e5.trans (e6.trans e7)))
        | true =>
          refine lY ?_
          obtain ⟨t8, p8, l8⟩ := he fp s3 H3
          refine thn (p8 _ s7 σ6 H7 (fun v H' => ∃ y μ8, Ext X.K μ7 H7 μ8 H' ∧ St0 X.K H' ρ6 μ8 σ6 ∧ Rp X.K μ8 H' y v ∧ μ8 s2.heap.objs.size = some acc ∧ Pv (i + 1) (acc ++ [y]) (ao μ8 s2.heap.objs.size (acc ++ [y]))) I7
            (l8 σ6 H7 ρ6 μ7 _ _ S7 (by simpa using q7) fun d' v μ8 H8 e8 S8 r8 q8 => ?_)) fun v s8 ⟨v8, H8, I8, r8, y, μ8, e8, S8, ry, pa8, fy⟩ => ?_
          · obtain ⟨q80, q8⟩ := q8
            cases d' with
            | v y => exact ⟨y, μ8, e8, S8, r8, q80, q8⟩
            | m _ => exact q8.elim
            | s _ => exact q8.elim
            | o _ => exact q8.elim
            | q _ => exact q8.elim
          · obtain ⟨us, hacc, rus⟩ := S8.mu s2.heap.objs.size _ pa8
            have hle : acc.length ≤ 1000 := by omega
            refine thn (hR (X := az X N' scope cl fp s3 H3) _ s8 σ6 H8 (.ref s2.heap.objs.size) [v8] (.ref s2.heap.objs.size) [v] (fun _ H' => H' = upd H8 s2.heap.objs.size (.lst (us ++ [v8]))) I8 rfl (.cons r8 .nil) ⟨_, us, v8, rfl, rfl, hacc, by rw [← rus.length]; exact cx hle, rfl⟩) fun _ s9 ⟨_, H9, I9, _, e9⟩ => ?_
            subst e9
            have ex : Ext X.K μ8 H8 (ao μ8 s2.heap.objs.size (acc ++ [y])) (upd H8 s2.heap.objs.size (.lst (us ++ [v8]))) := gS pa8
            exact again I9 (by rw [List.length_append, List.length_singleton]; omega) aB fy (S8.mu.set pa8 (rus.append (.cons ry .nil))) ((S8.rho.le le6).ext S8.mu ex) (Ec.trans (e5.trans (e6.trans (e7.trans (e8.trans ex)))))
      · have ei : i = xs.length := by omega
        subst ei
        refine thn (T.done (az X N' scope cl fp s3 H3) rfl rfl rfl (fun z => z) _ [] s' σc Hc (fun _ _ => False) Ic (stat frc) tc (stop rfl)) fun r s4 ⟨hr, I5⟩ => ?_
        subst hr
        obtain ⟨m, hn, _⟩ := I5.loc
        have hcC : Hc hp3.objs.size = none := by have z : Hc s3.heap.objs.size = none := I5.free; rw [heap3] at z; exact z
        obtain ⟨us, hacc, rus⟩ := Sc.mu s2.heap.objs.size _ hpa
        have shr : ∀ a, μc a = none → cf μc s2.heap.objs.size a = none := fun a e => by
          unfold cf
          split
          · rfl
          · exact e
        have dne : ∀ a ds, cf μc s2.heap.objs.size a = some ds → μc a = some ds := fun a ds e => by
          unfold cf at e
          split at e
          · cases e
          · exact e
        have eF : Ext X.K μ1 H2 (cf μc s2.heap.objs.size) Hc := by
          refine ⟨Ec.keep, Ec.tb, fun b ds q => ?_, fun b q z => shr b (Ec.fresh b q z)⟩
          obtain ⟨es, q2⟩ := Ec.dom b ds q
          have : b ≠ s2.heap.objs.size := fun z => by rw [z, hμ1] at q; cases q
          exact ⟨es, by unfold cf; rw [if_neg this]; exact q2⟩
        have mF : aZ X.K (cf μc s2.heap.objs.size) Hc := ⟨fun a ds q => by
          obtain ⟨ys, z1, z2⟩ := Sc.mu a ds (dne a ds q)
          exact ⟨ys, z1, z2.shrink shr⟩, Sc.mu.tab⟩
        refine hend s4 Hc hp3.objs.size s2.heap.objs.size m acc (cf μc s2.heap.objs.size) (by have z : s4.heap.Ns s3.heap.objs.size m := hn; rw [heap3] at z; exact z) (I2.A2 (by rw [hsz3]; exact Nat.le_succ _) hcC) (fun h' hs' => ?_) (e1.trans eF) ⟨mF, S1.rho.ext S1.mu eF⟩ (Rp.list hacc (by unfold cf; rw [if_pos rfl]) (rus.shrink shr)) (fin acc μc pvi hpa)
        have kp : ∀ b o, b < s2.heap.objs.size → s4.heap.get? b = some o → h'.get? b = some o := fun b o hb e => hs'.extBut b o (by rw [hsz3]; exact Nat.ne_of_lt (Nat.lt_succ_of_lt hb)) e
        have hok' : HOk X.prog X.w Hc h' := fun b ob e => by
          refine (I5.hok b ob e).mm (fun cc v hcc q => hs'.extBut cc v ?_ q) (fun _ q => q) fun _ _ q => q
          rintro rfl
          rcases hcc with z | z
          · rw [← z, hcC] at e; cases e
          · rw [hcC] at z; cases z
        have u1 : Un (frs X.stack) fp H2 H3 s2.heap s3.heap := by rw [heap3, hH3]; exact Un.laid old3 (Nat.le_refl _) hfree2
        have u2 : Un (frs X.stack) fp H3 Hc s3.heap s4.heap := I5.base
        exact I2.pb (ch := fp) (by show s4.os = s2.os; have z : s4.os = s3.os := I5.os; rw [z, hs3]) (Un.after (u1.trans u2) kp) hok' I5.bare fun b hb => ⟨(f2 b hb).2.2.2.1, (f2 b hb).2.1, (f2 b hb).2.2.2.2.1, (f2 b hb).2.2.2.2.2⟩
    · have z : b ≠ s2.heap.objs.size := Nat.ne_of_lt (fplt b hb)
      rw [hH3, aT z]
      exact (f2 b hb).1
    · have ex := dq (o := .lst []) (ds := []) S1.mu hfree2 hK2
      rw [hH3]
      exact ⟨S1.mu.mut .nil hfree2 hK2, (S1.rho.ext S1.mu ex).cap⟩
    · rw [hH3]
      exact dq (o := .lst []) (ds := []) S1.mu hfree2 hK2
  have envE : (az X N' scope cl fp s3 H3).env = compEnvC scope cl hp3.objs.size X.env := by show compEnvC scope cl s3.heap.objs.size X.env = _; rw [heap3]
  rw [envE] at loop
  exact codeAny_compStart_list loop (T.self X.A 0 _ _ _ (T.keep 0 _ _ st2 (fun b hb o e => kept3 b o (old3 b o e))) loop)
theorem ns_obj {h : Heap} {C : Addr} {m : Str → Option Value} (hn : h.Ns C m) : ∃ o, h.get? C = some o ∧ ∀ v, o.data ≠ .cell v := let ⟨o, es, ep, ho, hd, _⟩ := hn; ⟨o, ho, fun v z => by rw [hd] at z; cases z⟩
theorem Dz {h h' : Heap} {C : Addr} {m : Str → Option Value} (hn : h.Ns C m) (e : h'.get? C = h.get? C) : h'.Ns C m := let ⟨o, es, ep, ho, r⟩ := hn; ⟨o, es, ep, e.trans ho, r⟩
theorem ui {X : Cx} {i : Nat} {x : Str} {pos' spos : Pos} {N' : List Str} {scope : Scope} {cl : List (Str × Addr)} {elt iter tg : Expr} {ifs : List Expr} {pos : Pos} {cap : List (Option Nat)} {src : DTI} {g : DTG} {c : DTT} {te : DTE} (hN : X.N.Nodup) (hix : X.N[i]? = some x) (hx : X.env.scope.names.lookup x = some .local) (hc : X.calm = X.calm)
    (hi : DI X tg iter src) (hg : ∀ fp s₃ H₃, DG (az X N' scope cl fp s₃ H₃) tg g) (hif : ∀ fp s₃ H₃, xx (az X N' scope cl fp s₃ H₃) ifs c) (he : ∀ fp s₃ H₃, DE (az X N' scope cl fp s₃ H₃) elt te)
    (hclos : closureFor scope X.env = pure cl) (hcell : ∀ y ∈ scope.names, y.2 ≠ .cell) (hkind : scope.kind = .function) (hnames : ∀ y ∈ scope.names, y.2 = .local → scope.names.lookup y.1 = some .local)
    (hcl : ∀ x a, cl.lookup x = some a → X.env.cells.lookup x = some a) (hhas : ∀ x, (relabel scope X.env).names.lookup x = some .cell ∨ (relabel scope X.env).names.lookup x = some .free → ∃ a, cl.lookup x = some a)
    (hlen : cap.length = N'.length) (hcap : ∀ (i j : Nat) (x : Str), cap[i]? = some (some j) → N'[i]? = some x → X.N[j]? = some x ∧ Vis X.env.scope x ∧ X.env.kindOf x ≠ some .local ∧ ((relabel scope X.env).names.lookup x = some .cell ∨ (relabel scope X.env).names.lookup x = some .free))
    (hs : ∀ x, foldedSetIterable iter X.env x = pure x := by intro _; rfl)
    (hsw : swapsWith (.ListComp elt [⟨tg, iter, ifs, 0⟩] scope pos) (some (.Name x pos')) spos.line X.env = pure true := by rfl) : DS X (.Assign [.Name x pos'] (.ListComp elt [⟨tg, iter, ifs, 0⟩] scope pos) spos) (bE (kD cap src g c te) (aw i)) := by
  refine ⟨fun D σ H => ∃ ρ μ Dd, St0 X.K H ρ μ σ ∧ bE (kD cap src g c te) (aw i) Dd ρ μ ∧ (∀ σ' ρ' μ' H', Ext X.K μ H μ' H' → St0 X.K H' ρ' μ' σ' → Dd.nx ρ' μ' → D.nx σ' H'), ?_, fun σ H ρ μ Dd De S h k1 k2 k3 k4 => ⟨ρ, μ, Dd, S, h, k1⟩⟩
  rintro pins s σ H D I ⟨ρ, μ, Dd, S, h, k1⟩
  rw [exec_Assign_Name_used _ _ _ _ hsw]
  refine wpAny_bind (wpAny_standAt ?_)
  show wpAny _ _ ((comprehension (.ListComp elt [⟨tg, iter, ifs, 0⟩] scope pos) scope X.env (firstIterPos [⟨tg, iter, ifs, 0⟩] pos) (newList []) false (eval iter X.env) (some (assign (.Name x pos') X.env)) >>= fun _ => pure ()) >>= _) _ _ s
  refine wpAny_bind (wpAny_bind (Ap (Qd := fun d μ1 => aw i d ρ μ1 Dd.nx) hc hi hg hif he hclos hcell hkind hnames hcl hhas hlen hcap hs I S h fun s4 Hc C pa m acc μF hn fC hI e1 S1 r q => ?_))
  have I4 : Inv X pins σ Hc s4 := hI s4.heap (Heap.SameBut.refl _ _)
  obtain ⟨oC, hoC, hdC⟩ : ∃ o, s4.heap.get? C = some o ∧ ∀ v, o.data ≠ .cell v := by
    obtain ⟨o, h1, h2⟩ := ns_obj hn
    exact ⟨o, h1, h2⟩
  have I5 := I4.pinned (fp := [C]) (fun b hb => by rw [List.mem_singleton.mp hb]; exact fC) (fun b hb => by rw [List.mem_singleton.mp hb]; exact ⟨oC, hoC, hdC⟩)
  show wpAny _ _ (assign (.Name x pos') X.env (.ref pa)) _ _ s4
  refine wpAny_assign_Name (eR I5 hN hix (Or.inl hx) (show RelV (.ref pa) (.ref pa) from rfl) (fun s' I' => ?_) (.inr hx))
  have keepC : s'.heap.get? C = some oC := (I'.pin (C, oC) (List.mem_append_right _ (List.mem_append_right _ (bD (List.mem_singleton.mpr rfl) hoC)))).1
  have hn' : s'.heap.Ns C m := Dz hn (by rw [keepC, hoC])
  refine ⟨m, hn', fun h' hs' => wpAny_pure (wpAny_pure ?_)⟩
  refine ⟨σ.set i (some (.ref pa)), Hc, ?_, k1 _ _ _ _ e1 ⟨S1.mu, S1.rho.set (d := .v (.list acc)) r⟩ q⟩
  refine I'.eP.pb (ch := [C]) rfl ⟨fun b o e n hb hx => ?_, fun b o e n hb hx => ?_, fun b o e n hx => n, fun b o e hx => ?_, fun b xs e => e, fun b o u e => e, fun b ps e => ⟨#[], by rw [Array.append_empty]; exact e⟩⟩ ?_ I'.bare fun b hb => ?_
  · exact hs'.extBut b o (fun z => hx (List.mem_singleton.mpr z)) e
  · exact ⟨o.slots, hs'.extBut b o (fun z => hx (List.mem_singleton.mpr z)) e⟩
  · exact ⟨o, hs'.extBut b o (fun z => hx (List.mem_singleton.mpr z)) e⟩
  · exact fun b ob e => by
      refine (I'.hok b ob e).mm (fun cc v hcc q => hs'.extBut cc v ?_ q) (fun _ q => q) fun _ _ q => q
      rintro rfl
      rcases hcc with z | z
      · rw [← z, fC.1] at e; cases e
      · rw [fC.1] at z; cases z
  · rw [List.mem_singleton.mp hb]
    exact ⟨fC.2.2.2.1, fC.2.1, fC.2.2.2.2.1, fC.2.2.2.2.2⟩
theorem uF {cap : List (Option Nat)} {src : DTI} {g : DTG} {t : DTT} {ta : DTE} {ρ : Rho} {μ : Mu} {Q : DK} : kD cap src g t ta ρ μ Q = src ρ μ fun xs μ1 => xs.length ≤ 1000 ∧ ∀ p, μ1 p = none → ∃ Pv : Nat → List PyData → Mu → Prop, Pv 0 [] (ao μ1 p []) ∧
  (∀ i x acc μ', xs[i]? = some x → μ' p = some acc → Pv i acc μ' → g (.v x) (aO cap ρ) μ' fun ρ2 μ2 => Le (aO cap ρ) ρ2 ∧ t ρ2 μ2 fun b μ3 =>
    if b = true then ta ρ2 μ3 fun d μ4 => μ4 p = some acc ∧ (match d with | .v y => Pv (i + 1) (acc ++ [y]) (ao μ4 p (acc ++ [y])) | _ => False) else μ3 p = some acc ∧ Pv (i + 1) acc μ3) ∧
  (∀ acc μ', Pv xs.length acc μ' → μ' p = some acc → Q (.v (.list acc)) (cf μ' p)) := propext Iff.rfl
theorem tw {μ : Mu} {p : Addr} {ds : List PyData} (h : μ p = none) : cf (ao μ p ds) p = μ := by
  funext b
  unfold cf ao
  by_cases e : b = p
  · rw [if_pos e, e, h]
  · rw [if_neg e, if_neg e]
theorem FY {xs : List PyData} {f : PyData → Option PyData} {i : Nat} {d : PyData} (h : xs[i]? = some d) : (xs.take (i + 1)).filterMap f = (xs.take i).filterMap f ++ (f d).toList := lh h
open PySem PySem.Spec PyProof.Rows
section
variable {X : Cx} {es : List Expr} {x1 : Nat} {tpos : Pos}
def A8 : List PyData → List PyData → List PyData
  | x :: xs, y :: ys => .tuple [x, y] :: A8 xs ys
  | _, _ => []
def HY (t : DTA) : DTI := fun ρ μ Q => t ρ μ fun ds μ1 => match ds with
  | [.v (.list xs), .v (.list ys)] => Q (A8 xs ys) μ1
  | _ => False
theorem zg {t : DTA} {ρ : Rho} {μ : Mu} {Q : List PyData → Mu → Prop} : HY t ρ μ Q = t ρ μ fun ds μ1 => match ds with | [.v (.list xs), .v (.list ys)] => Q (A8 xs ys) μ1 | _ => False := propext Iff.rfl
end
open PySem PySem.Spec PyProof.Rows
section
variable {X : Cx} {a b e : Expr} {es : List Expr} {ta tb te : DTE} {t : DTA} {p pos : Pos}
def gR : List D → Mu → DK → Prop := fun xs μ Q => match xs with
  | [.v (.list ys)] => Q (.v (.tuple ys)) μ
  | [.v (.tuple ys)] => Q (.v (.tuple ys)) μ
  | [.m l] => (match μ l with | some ys => Q (.v (.tuple ys)) μ | none => False)
  | _ => False
theorem AV {K : PySem.W.Frag} : k6 K (fun xs H Q => ∃ p ys, xs = [.ref p] ∧ ((SqL K H p ys ∧ ∀ l, H l = none → Q (.ref l) (upd H l (.tup ys))) ∨ (SqT K H p ys ∧ Q (.ref p) H))) gR := by
  intro xs us H μ Qd Q ok rs h k
  unfold gR at h
  split at h
  · cases rs with
    | cons r1 r2 =>
      cases r2
      cases r1 with
      | list hs hn r => exact ⟨_, _, rfl, .inl ⟨SqL.of hs, fun l hl => k (.v _) _ μ _ (bL hl) (ok.new hl) (fA ok r hl) h⟩⟩
  · cases rs with
    | cons r1 r2 =>
      cases r2
      cases id r1 with
      | tuple hs r => exact ⟨_, _, rfl, .inr ⟨hs, k (.v _) _ μ H .refl ok r1 h⟩⟩
  · cases rs with
    | cons r1 r2 =>
      cases r2
      obtain ⟨rfl, ds, hm⟩ := r1
      rw [hm] at h
      obtain ⟨us, hl, r⟩ := ok _ ds hm
      exact ⟨_, _, rfl, .inl ⟨SqL.of hl, fun l hl' => k (.v _) _ μ _ (bL hl') (ok.new hl') (fA ok r hl') h⟩⟩
  · exact h.elim
theorem qx (hg : Gl X "tuple") (hm : X.mg "tuple" = none) (ha : DA X (e :: es) t)
    (he : starEach (e :: es) X.env = (false, eval e X.env) :: starEach es X.env := by rfl) (hpl : (backTo pos (starEach es X.env)).any (·.1) = false := by rfl) : DE X (.Call (.Name "tuple" p) (e :: es) [] pos) (dCB gR t) :=
  lB sL AV hg hm PyProof.Rows.Boot.«tuple» ha (by decide) (by decide) he hpl
theorem xE {ys : List PyData} {μ : Mu} {Q : DK} : gR [.v (.list ys)] μ Q = Q (.v (.tuple ys)) μ := propext Iff.rfl
theorem xh {ys : List PyData} {μ : Mu} {Q : DK} : gR [.v (.tuple ys)] μ Q = Q (.v (.tuple ys)) μ := propext Iff.rfl
theorem wC {l : Addr} {μ : Mu} {Q : DK} : gR [.m l] μ Q = (match μ l with | some ys => Q (.v (.tuple ys)) μ | none => False) := propext Iff.rfl
def HG : D → D → Mu → DK → Prop := fun x y μ Q => match x, y with
  | .v (.list xs), .v (.int k) => (0 ≤ k ∧ k ≤ 1000 ∧ xs.length * k.toNat ≤ 1000) ∧ Q (.v (.list (List.replicate k.toNat xs).flatten)) μ
  | _, _ => False
theorem RpL.rep {K : PySem.W.Frag} {μ : Mu} {H : Hp} {ds : List PyData} {us : List V} (r : RpL K μ H ds us) : ∀ n : Nat, RpL K μ H (List.replicate n ds).flatten (List.replicate n us).flatten
  | 0 => .nil
  | n + 1 => by rw [List.replicate_succ, List.flatten_cons, List.replicate_succ, List.flatten_cons]; exact r.append (RpL.rep r n)
theorem EO {xs : List PyData} {k : Int} {μ : Mu} {Q : DK} : HG (.v (.list xs)) (.v (.int k)) μ Q = ((0 ≤ k ∧ k ≤ 1000 ∧ xs.length * k.toNat ≤ 1000) ∧ Q (.v (.list (List.replicate k.toNat xs).flatten)) μ) := propext Iff.rfl
end
open PySem PySem.Spec PyProof.Rows
section
variable {prog : Program} {w : World} {A : Around} {E : Value → Shared → Prop} {s : Shared}
end
open PySem PySem.Spec PyProof.Rows
section
variable {X : Cx} {es : List Expr} {x1 : Nat} {tpos : Pos}
end
section
variable {X : Cx} {es : List Expr} {pos : Pos}
end
open PySem PySem.Spec PyProof.Rows
section
variable {X : Cx} {e : Expr} {es : List Expr} {t : DTA} {p pos : Pos}
end
section
variable {X : Cx} {e tg : Expr} {te : DTE} {td : DTS} {pos : Pos}
end
section
variable {X : Cx} {a b c : Expr} {ta tb tc : DTE} {pos : Pos}
theorem wH {op op' : CmpOp} {rr rr' : R2} {r r' : D → D → Mu → DK → Prop} (ho : OpR X (compareOp op) rr) (lo : da X.K rr r) (ho' : OpR X (compareOp op') rr') (lo' : da X.K rr' r') (ha : DE X a ta) (hb : DE X b tb) (hc : DE X c tc)
    (hm : lastMarks [op, op'] [b, c] = false := by with_unfolding_all rfl) : DT X (.Compare a [op, op'] [b, c] pos) (dB (vc r r' ta tb tc)) := by
  obtain ⟨t1, p1, l1⟩ := ha
  obtain ⟨t2, p2, l2⟩ := hb
  obtain ⟨t3, p3, l3⟩ := hc
  refine ⟨_, Bj ho ho' p1 p2 p3 hm, lu (fun σ H ρ μ Qd Q S h k => ?_)⟩
  refine l1 σ H ρ μ _ _ S h fun x ux μ1 H1 e1 S1 rx h1 => ?_
  refine l2 σ H1 ρ μ1 _ _ S1 h1 fun y uy μ2 H2 e2 S2 ry h2 => ?_
  refine lo x y ux uy H2 μ2 _ _ S2.mu (rx.ext S1.mu e2) ry h2 fun z uz μ3 H3 e3 ok3 rz h3 => ?_
  have S3 : St0 X.K H3 ρ μ3 σ := ⟨ok3, S2.rho.ext S2.mu e3⟩
  split at h3
  · rename_i kk
    cases rz
    refine ⟨kk, rfl, ?_⟩
    cases kk with
    | true =>
      refine lY ?_
      refine l3 σ H3 ρ μ3 _ _ S3 (by simpa using h3) fun w uw μ4 H4 e4 S4 rw' h4 => ?_
      exact lo' y w uy uw H4 μ4 _ _ S4.mu ((ry.ext S2.mu e3).ext S3.mu e4) rw' h4 fun d u μ' H' e5 ok r q => k d u μ' H' (e1.trans (e2.trans (e3.trans (e4.trans e5)))) ⟨ok, S4.rho.ext S4.mu e5⟩ r q
    | false => exact mV (k (.v (.bool false)) _ μ3 H3 (e1.trans (e2.trans e3)) S3 (Rp.bool false) (by simpa using h3))
  · exact h3.elim
end
open PySem PySem.Spec PyProof.Rows
section
variable {X : Cx} {o e : Expr} {to te : DTE} {apos cpos pos : Pos}
def JC (to : DTE) : DTE := fun ρ μ Q => to ρ μ fun x μ1 => match x with
  | .m l => (match μ1 l with
    | some xs => ∃ d, xs[xs.length - 1]? = some d ∧ Q (.v d) (ao μ1 l xs.dropLast)
    | none => False)
  | _ => False
theorem RpL.dropLast {K : PySem.W.Frag} {μ : Mu} {H : Hp} : ∀ {ds : List PyData} {us : List V}, RpL K μ H ds us → RpL K μ H ds.dropLast us.dropLast
  | _, _, .nil => .nil
  | _, _, .cons h .nil => .nil
  | _, _, .cons h (.cons h2 t) => .cons h (RpL.dropLast (.cons h2 t))
theorem RpL.eraseIdx {K : PySem.W.Frag} {μ : Mu} {H : Hp} : ∀ {ds : List PyData} {us : List V} (i : Nat), RpL K μ H ds us → RpL K μ H (ds.eraseIdx i) (us.eraseIdx i)
  | _, _, _, .nil => .nil
  | _, _, 0, .cons _ t => t
  | _, _, i + 1, .cons h t => .cons h (RpL.eraseIdx i t)
def yg (to te : DTE) : DTE := fun ρ μ Q => to ρ μ fun x μ1 => match x with
  | .m l => te ρ μ1 fun y μ2 => (match y, μ2 l with
    | .v (.int i), some xs => (0 ≤ i ∧ i < 1000) ∧ ∃ d, xs[i.toNat]? = some d ∧ Q (.v d) (ao μ2 l (xs.eraseIdx i.toNat))
    | _, _ => False)
  | _ => False
theorem Ho {i : Int} {n : Nat} (h0 : 0 ≤ i) (h : i.toNat < n) : seqIndex? i n = some i.toNat := by
  unfold seqIndex?
  simp only [Option.ite_none_right_eq_some, Option.some.injEq] <;> first | (split <;> (try split) <;> simp_all <;> omega) | (constructor <;> omega) | omega
theorem Bw (ho : DE X o to) (ha : DE X e te) (hbase : attributeBase o "pop" X.env (eval o X.env) = eval o X.env := by rfl)
    (hfew : ((backTo cpos (starEach [e] X.env)).all (fun x => !x.1) && (backToKw cpos (keywordEach [] X.env)).all (fun x => x.1.isSome)
      && decide ([e].length + ([] : List Keyword).length + (if ([] : List Keyword).isEmpty then 0 else 1) < 30)) = true := by rfl)
    (hline : (apos.endLine == cpos.line) = true := by rfl) (hs : starEach [e] X.env = (false, eval e X.env) :: starEach [] X.env := by rfl) (hplain : (backTo cpos (starEach [] X.env)).any (·.1) = false := by rfl) :
    DE X (.Call (.Attribute o "pop" apos) [e] [] cpos) (yg to te) := by
  obtain ⟨t1, p1, l1⟩ := ho
  obtain ⟨t2, p2, l2⟩ := ha
  refine ⟨_, Ex PySem.F.plainAttrs_list PySem.F.slot_list_pop PySem.F.type_list_pop B6 p1 (fb p2 kL hs) hbase hfew hline hs hplain, fun σ H ρ μ Qd Q S h k => ?_⟩
  refine l1 σ H ρ μ _ _ S h fun x ux μ1 H1 e1 S1 rx h1 => ?_
  cases x with
  | m l =>
    obtain ⟨rfl, ds, hm⟩ := id rx
    obtain ⟨us, hl, rl⟩ := S1.mu l ds hm
    refine ⟨.inl ⟨rfl, us, SqL.of hl⟩, ?_⟩
    refine l2 σ H1 ρ μ1 _ _ S1 h1 fun y uy μ2 H2 e2 S2 ry h2 => ?_
    obtain ⟨_, ds2, hm2⟩ := rx.ext S1.mu e2
    obtain ⟨us2, hl2, rl2⟩ := S2.mu l ds2 hm2
    rw [hm2] at h2
    split at h2
    · rename_i i ds3 e3
      cases e3
      obtain ⟨⟨i0, i1⟩, d, hd, q⟩ := h2
      cases ry
      obtain ⟨u, hu, ru⟩ := rl2.get hd
      have hlt : i.toNat < us2.length := by
        rcases Nat.lt_or_ge i.toNat us2.length with z | z
        · exact z
        · rw [List.getElem?_eq_none z] at hu; cases hu
      have ex : Ext X.K μ2 H2 (ao μ2 l (ds2.eraseIdx i.toNat)) (upd H2 l (.lst (us2.eraseIdx i.toNat))) := gS hm2
      exact ⟨l, us2, i, i.toNat, u, rfl, rfl, hl2, by omega, by omega, Ho i0 hlt, hu, k (.v d) u _ _ (e1.trans (e2.trans ex)) ⟨S2.mu.set hm2 (rl2.eraseIdx _), S2.rho.ext S2.mu ex⟩ (ru.ext S2.mu ex) q⟩
    · exact h2.elim
  | v d => exact h1.elim
  | s ns => exact h1.elim
  | o _ => exact h1.elim
  | q _ => exact h1.elim
def zp : R2 := fun x y H Q => ∃ i j, x = .bl i ∧ y = .bl j ∧ Q (.bl (!(i == j))) H
theorem Aw : OpR X (compareOp .IsNot) zp := by
  intro pins s σ H x y v u Q I rx ry h
  obtain ⟨i, j, rfl, rfl, q⟩ := h
  cases rx; cases ry
  exact wpAny_isNot_plain rfl ⟨.bl (!(i == j)), H, I, by cases i <;> cases j <;> rfl, q⟩
def uX : D → D → Mu → DK → Prop := fun x y μ Q => match x, y with
  | .v (.bool i), .v (.bool j) => Q (.v (.bool (!(i == j)))) μ
  | _, _ => False
theorem A7 {K : PySem.W.Frag} : da K zp uX := by
  intro x y ux uy H μ Qd Q ok rx ry h k
  unfold uX at h
  split at h
  · cases rx; cases ry; exact ⟨_, _, rfl, rfl, k (.v _) _ μ H .refl ok (Rp.bool _) h⟩
  · exact h.elim
end
section
variable {X : Cx} {e : Expr} {es : List Expr} {t : DTA} {p pos : Pos}
end
section
variable {X : Cx} {a b : Expr} {ta tb : DTE} {pos : Pos}
theorem om : fillsNumberSlot (.type "tuple") "mul" = pure false :=
  PySem.fillsNumberSlot_seq (id := "tuple.__mul__") (r := some (.builtin "tuple.__rmul__")) F.slot_tuple_mul.lookup (by decide +kernel) F.slot_tuple_rmul.lookup (by decide +kernel)
theorem u6 : seqRepeat? (.type "tuple") = pure (some (.builtin "tuple.__mul__")) := by
  unfold seqRepeat?
  rw [PySem.seqSlot_of (T := "tuple") (name := "__mul__") (id := "tuple.__mul__") F.slot_tuple_mul.lookup (by decide +kernel), PySem.seqSlot_of (T := "tuple") (name := "__rmul__") (id := "tuple.__rmul__") F.slot_tuple_rmul.lookup (by decide +kernel)]
  rfl
theorem qQ (a : Int) (t : Tok) (l : Addr) (o : Obj) (items : Array Value) (n : Nat) (hc : o.cls = .type "tuple") (hd : o.data = .seq items n) :
    Meets (Builtin.«int.__rmul__» ⟨[.int a t, .ref l], []⟩) (fun _ R s => s.heap.get? l = some o ∧ R (.ok (.ret Value.notImplemented)) s) :=
  .of_wp fun prog w A R s h => by
    obtain ⟨hp, g, d, tk, os⟩ := s; obtain ⟨hl, h⟩ := h
    wp_walk
    rw [hd]
    wp_walk
    exact ⟨_, rfl, h⟩
end
open PySem PySem.Spec PyProof.Rows
def BK (cells : List (Str × Addr)) : List (Str × Addr) → Prop
  | [] => True
  | (k, v) :: r => cells.lookup k = some v ∧ BK cells r
theorem bK {cells : List (Str × Addr)} : BK cells [] := trivial
theorem aL {cells r : List (Str × Addr)} {k : Str} {v : Addr} (h : cells.lookup k = some v) (t : BK cells r) : BK cells ((k, v) :: r) := ⟨h, t⟩
theorem aY {cells : List (Str × Addr)} : ∀ {cl : List (Str × Addr)}, BK cells cl → ∀ x a, cl.lookup x = some a → cells.lookup x = some a
  | [], _, _, _, h => by simp at h
  | (k, v) :: r, c, x, a, h => by
    rw [List.lookup_cons] at h
    cases e : x == k with
    | true =>
      have e' : x = k := by simpa using e
      rw [e] at h
      subst e'
      rw [c.1]; exact h
    | false =>
      rw [e] at h
      exact aY c.2 x a h
open PySem PySem.Spec PyProof.Rows
def Fly (O : Addr → Prop) (h : Heap) (e : Addr) (cls fl : Value) : Prop := (∀ b, O b → b < h.objs.size) ∧ ∃ oe vs T oT ts, h.get? e = some oe ∧ oe.cls = cls ∧ oe.data = .fields vs ∧ vs[1]? = some (.ref T) ∧ vs[2]? = some .none ∧ ¬ O e ∧ ¬ O T ∧ T ≠ e ∧ h.get? T = some oT ∧ oT.data = .fields ts ∧ ts[3]? = some fl
structure Kp (O : Addr → Prop) (fs : List Addr) (h h' : Heap) : Prop where
  keep : ∀ b o, h.get? b = some o → O b → b ∉ fs → h'.get? b = some o
  slot : ∀ b o, h.get? b = some o → (∀ vs, o.data ≠ .fields vs) → ∃ sl, h'.get? b = some { o with slots := sl }
section
variable {O : Addr → Prop} {fs : List Addr} {h h1 h2 : Heap}
theorem Kp.refl : Kp O fs h h := ⟨fun _ _ e _ _ => e, fun _ o e _ => ⟨o.slots, e⟩⟩
theorem Kp.trans (a : Kp O fs h h1) (b : Kp O fs h1 h2) : Kp O fs h h2 := ⟨fun c o e l f => b.keep c o (a.keep c o e l f) l f, fun c o e d => let ⟨_, e1⟩ := a.slot c o e d; let ⟨sl, e2⟩ := b.slot c _ e1 d; ⟨sl, e2⟩⟩
theorem Kp.of (k : ∀ b o, h.get? b = some o → h1.get? b = some o) : Kp O fs h h1 := ⟨fun b o e _ _ => k b o e, fun b o e _ => ⟨o.slots, k b o e⟩⟩
theorem Kp.sub {fs' : List Addr} (a : Kp O fs h h1) (s : ∀ b ∈ fs, b ∈ fs') : Kp O fs' h h1 := ⟨fun b o e l f => a.keep b o e l fun z => f (s b z), a.slot⟩
theorem Kp.frames {base : Heap} {l : List Env} (a : Kp O fs h h1) (k : h.FunFrames base l) : h1.FunFrames base l := k.of_keeps fun b o e d => let ⟨_, e1⟩ := a.slot b o e d; ⟨_, e1, rfl⟩
end
section
variable {M : Model} {A : Around} {E : Value → Shared → Prop} {s : Shared} {O : Addr → Prop} {e L : Addr} {cls fl : Value} {env : Env} {outer : List Env} {base : Heap} {Q : Unit → Shared → Prop}
theorem w6 {oe : Obj} {vs : Array Value} {head : Value} {hadNext : Bool} (hfr : A.frames = some (env :: outer)) (hl : s.heap.FunFrames base (env :: outer)) (hf : env.frame = some L)
    (he : s.heap.get? e = some oe) (hc : oe.cls = cls) (hd : oe.data = .fields vs) (hz : 1 < vs.size) (h2 : vs[2]? = some .none) (hO : ∀ b, O b → b < s.heap.objs.size) (hn : ¬ O e)
    (k : ∀ h', Kp O (frs (env :: outer)) s.heap h' → Fly O h' e cls (rawInt L) → Q () { s with heap := h' }) :
    wpAny M A (do let a ← frameOf env; let pl ← entryPlaceOf L hadNext; let b ← EntryCells.newEntry head a .none (rawInt L) .none pl; setField (.ref e) 1 b) Q E s := by
  have ene : e ∉ frs (env :: outer) := fun hm => by
    obtain ⟨_, o, ho, hnf⟩ := hl.mem hm
    rw [he] at ho
    exact hnf vs (by rw [← Option.some.inj ho]; exact hd)
  refine wpAny_bind (wpAny_frameOf_fun hfr hl hf fun g1 s1 => wpAny_bind (wpAny_entryPlaceOf fun pl hpl => ?_))
  unfold EntryCells.newEntry newFields; refine wpAny_bind (wpAny_newObj_type ?_ (hpl.sizeOk5 _ _ _ _ _))
  generalize hob : ({ cls := .type "traceback", dict := none, data := .fields ([head, .ref L, .none, rawInt L, .none] ++ (if pl.isEmpty then List.replicate 6 Value.none else pl)).toArray } : Obj) = ob
  have e1 : g1.get? e = some oe := (s1.2.1 e ene).trans he
  have e2 : (g1.push ob).get? e = some oe := Heap.get?_push_of_some ob e1
  have neT : g1.objs.size ≠ e := Nat.ne_of_gt (Heap.lt_size e1)
  have d3 := Obj.data_mapFields hd (·.setIfInBounds 1 (Value.ref g1.objs.size))
  have szs : ¬ O g1.objs.size := fun z => absurd (hO _ z) (by rw [s1.1]; exact Nat.lt_irrefl _)
  refine wpAny_setField e2 hd hz (k _ ⟨fun b o q l f => ?_, fun b o q d => ?_⟩ ?_)
  · have bne : e ≠ b := fun z => hn (by rw [z]; exact l)
    rw [Heap.get?_update_other _ _ bne]
    exact Heap.get?_push_of_some _ ((s1.2.1 b f).trans q)
  · have bne : e ≠ b := fun z => by rw [← z, he] at q; exact d vs (by rw [← Option.some.inj q]; exact hd)
    obtain ⟨sl, q1⟩ := s1.2.2 b o q
    exact ⟨sl, by rw [Heap.get?_update_other _ _ bne]; exact Heap.get?_push_of_some _ q1⟩
  · refine ⟨fun b z => Nat.lt_of_lt_of_le (hO b z) (by rw [Heap.size_after_update, Heap.size_push, s1.1]; exact Nat.le_succ _), _, _, g1.objs.size, ob, _, Heap.get?_update_self _ e2 (Obj.isFreed_of_fields d3), (Obj.cls_mapFields ..).trans hc, d3, by simp [hz], by rw [Array.getElem?_setIfInBounds_ne (by decide)]; exact h2, hn, szs, neT, ?_, by rw [← hob], ?_⟩
    · rw [Heap.get?_update_other _ _ (Ne.symm neT)]
      exact Heap.get?_push_size g1 (by rw [← hob]; rfl)
    · rcases hpl with z | ⟨_, _, _, _, _, _, _, z⟩ <;> (rw [z]; rfl)
theorem xV {oe : Obj} {vs : Array Value} (hfr : A.frames = some (env :: outer)) (hl : s.heap.FunFrames base (env :: outer)) (hf : env.frame = some L)
    (he : s.heap.get? e = some oe) (hc : oe.cls = cls) (hd : oe.data = .fields vs) (h1 : vs[1]? = some .none) (h2 : vs[2]? = some .none) (hO : ∀ b, O b → b < s.heap.objs.size) (hn : ¬ O e)
    (k : ∀ h', Kp O (frs (env :: outer)) s.heap h' → Fly O h' e cls (rawInt L) → Q () { s with heap := h' }) : wpAny M A (noteFrame (.ref e) env) Q E s := by
  unfold noteFrame; simp only [hf]
  refine wpAny_bind (wpAny_field he hd h1 ?_)
  rw [if_neg (by decide)]
  exact w6 hfr hl hf he hc hd (Array.getElem?_eq_some_iff.mp h1).1 h2 hO hn k
theorem sQ (hfr : A.frames = some (env :: outer)) (hl : s.heap.FunFrames base (env :: outer)) (hf : env.frame = some L) (F : Fly O s.heap e cls .none)
    (k : ∀ h', Kp O (frs (env :: outer)) s.heap h' → Fly O h' e cls (rawInt L) → Q () { s with heap := h' }) : wpAny M A (noteFrame (.ref e) env) Q E s := by
  obtain ⟨hO, oe, vs, T, oT, ts, he, hc, hd, h1, h2, hn, hT, nT, gT, dT, h3⟩ := F
  unfold noteFrame; simp only [hf]
  refine wpAny_bind (wpAny_field he hd h1 ?_)
  rw [if_pos (by simp)]
  refine wpAny_bind (wpAny_field gT dT h3 ?_)
  rw [if_neg (by simp [rawInt])]
  have oth : ∀ b, b ≠ T → (s.heap.update T (Obj.mapFields (·.setIfInBounds 3 Value.none))).get? b = s.heap.get? b := fun b hb => Heap.get?_update_other _ _ (Ne.symm hb)
  have kp : Kp O (frs (env :: outer)) s.heap (s.heap.update T (Obj.mapFields (·.setIfInBounds 3 Value.none))) :=
    ⟨fun b o q l _ => (oth b fun z => hT (by rw [← z]; exact l)).trans q, fun b o q d => ⟨o.slots, (oth b fun z => by rw [z, gT] at q; exact d ts (by rw [← Option.some.inj q]; exact dT)).trans q⟩⟩
  refine wpAny_bind (wpAny_setField gT dT (Array.getElem?_eq_some_iff.mp h3).1 ?_)
  exact w6 (s := { s with heap := s.heap.update T (Obj.mapFields (·.setIfInBounds 3 Value.none)) }) hfr (kp.frames hl) hf ((oth e (Ne.symm nT)).trans he) hc hd (Array.getElem?_eq_some_iff.mp h1).1 h2 (fun b z => by rw [Heap.size_after_update]; exact hO b z) hn fun h' a b => k h' (kp.trans a) b
theorem iJ {fs : List Addr} (F : Fly O s.heap e cls fl) (k : ∀ h', Kp O fs s.heap h' → Fly O h' e cls .none → Q () { s with heap := h' }) : wpAny M A (setFlight (.ref e) none) Q E s := by
  obtain ⟨hO, oe, vs, T, oT, ts, he, hc, hd, h1, h2, hn, hT, nT, gT, dT, h3⟩ := F
  have z3 : 3 < ts.size := (Array.getElem?_eq_some_iff.mp h3).1
  unfold setFlight
  refine wpAny_bind (wpAny_field he hd h1 ?_)
  rw [if_pos (by simp)]
  have oth : ∀ b, b ≠ T → (s.heap.update T (Obj.mapFields (·.setIfInBounds 3 ((none : Option Addr).elim Value.none fun f => rawInt f)))).get? b = s.heap.get? b := fun b hb => Heap.get?_update_other _ _ (Ne.symm hb)
  refine wpAny_setField gT dT z3 (k _ ⟨fun b o q l _ => (oth b fun z => hT (by rw [← z]; exact l)).trans q, fun b o q d => ⟨o.slots, (oth b fun z => by rw [z, gT] at q; exact d ts (by rw [← Option.some.inj q]; exact dT)).trans q⟩⟩ ?_)
  exact ⟨fun b z => by rw [Heap.size_after_update]; exact hO b z, oe, vs, T, _, _, (oth e (Ne.symm nT)).trans he, hc, hd, h1, h2, hn, hT, nT, Heap.get?_update_self _ gT (Obj.isFreed_of_fields (Obj.data_mapFields dT _)), Obj.data_mapFields dT _, by simp [z3]⟩
theorem wb {oe : Obj} {vs : Array Value} (hfr : A.frames = some (env :: outer)) (hl : s.heap.FunFrames base (env :: outer)) (hf : env.frame = some L)
    (he : s.heap.get? e = some oe) (hc : oe.cls = cls) (hd : oe.data = .fields vs) (h1 : vs[1]? = some .none) (h2 : vs[2]? = some .none) (hO : ∀ b, O b → b < s.heap.objs.size) (hn : ¬ O e)
    (k : ∀ h', Kp O (frs (env :: outer)) s.heap h' → Fly O h' e cls .none → Q () { s with heap := h' }) : wpAny M A (leaving env (.ref e)) Q E s := by
  unfold leaving
  exact wpAny_bind (xV hfr hl hf he hc hd h1 h2 hO hn fun h' a b => iJ (s := { s with heap := h' }) b fun h'' a' b' => k h'' (a.trans a') b')
theorem yr (hfr : A.frames = some (env :: outer)) (hl : s.heap.FunFrames base (env :: outer)) (hf : env.frame = some L) (F : Fly O s.heap e cls .none)
    (k : ∀ h', Kp O (frs (env :: outer)) s.heap h' → Fly O h' e cls .none → Q () { s with heap := h' }) : wpAny M A (leaving env (.ref e)) Q E s := by
  unfold leaving
  exact wpAny_bind (sQ hfr hl hf F fun h' a b => iJ (s := { s with heap := h' }) b fun h'' a' b' => k h'' (a.trans a') b')
end
open PySem PySem.Spec PyProof.Rows
def CX1 (P : Program) (w : World) : CXT := fun outer H s E e s' => ∃ (O : Addr → Prop) (ea : Addr) (cls : Value) (H' : Hp), e = .ref ea ∧ s'.os = s.os ∧ AllBare s'.gens ∧ Un (frs outer) [] H H' s.heap s'.heap ∧ HOk P w H' s'.heap ∧
  (∀ b o, s.heap.get? b = some o → O b) ∧ (∀ b, H' b ≠ none → O b) ∧ Fly O s'.heap ea cls .none ∧ E cls none H'
theorem Un.fly {fs : List Addr} {L : Addr} {H H' : Hp} {h h1 h2 : Heap} {O : Addr → Prop} (u : Un fs [] H H' h h1) (k : Kp O (L :: fs) h1 h2) (hO : ∀ b o, h.get? b = some o → O b) (hL : ∀ o, h.get? L ≠ some o) (hd : ∀ b ∈ fs, ∀ o, h1.get? b = some o → ∀ vs, o.data ≠ .fields vs) : Un fs [] H H' h h2 where
  keep := fun b o e n f x => k.keep b o (u.keep b o e n f x) (hO b o e) fun z => by
    rcases List.mem_cons.mp z with z | z
    · exact hL o (by rw [← z]; exact e)
    · exact f z
  slot := fun b o e n f x => by
    obtain ⟨sl, e1⟩ := u.slot b o e n f x
    obtain ⟨sl', e2⟩ := k.slot b _ e1 (hd b f _ e1)
    exact ⟨sl', e2⟩
  free := u.free
  there := fun b o e x => by
    obtain ⟨o1, e1⟩ := u.there b o e x
    by_cases f : b ∈ fs
    · obtain ⟨sl, e2⟩ := k.slot b _ e1 (hd b f _ e1)
      exact ⟨_, e2⟩
    · exact ⟨o1, k.keep b o1 e1 (hO b o e) fun z => by
        rcases List.mem_cons.mp z with z | z
        · exact hL o (by rw [← z]; exact e)
        · exact f z⟩
  lP := u.lP
  lC := u.lC
  lG := u.lG
theorem HOk.fly {P : Program} {w : World} {H : Hp} {h h1 : Heap} {O : Addr → Prop} {fs : List Addr} (x : HOk P w H h) (k : Kp O fs h h1) (hO : ∀ b, H b ≠ none → O b) (hf : ∀ b ∈ fs, H b = none) : HOk P w H h1 := fun a o e => by
  refine (x a o e).mm (fun b u hb q => ?_) (fun _ q => q) fun _ _ q => q
  have hb' : H b ≠ none := by
    rcases hb with rfl | hb
    · rw [e]; exact fun z => nomatch z
    · rw [hb]; exact fun z => nomatch z
  exact k.keep b u q (hO b hb') fun z => hb' (hf b z)
theorem AN {P : Program} {w : World} {H : Hp} {h : Heap} {a : Addr} {o : HO} (x : ie P w H h a o) : ∃ u, h.get? a = some u := by
  cases o with
  | lst xs => obtain ⟨_, _, _, _, e⟩ := x; exact ⟨_, e⟩
  | tup xs => obtain ⟨_, _, _, _, e, _⟩ := x; exact ⟨_, e⟩
  | dK kvs => obtain ⟨_, _, _, _, _, _, _, e, _⟩ := x; exact ⟨_, e⟩
  | dT kvs => obtain ⟨_, _, _, _, _, _, _, e, _⟩ := x; exact ⟨_, e⟩
  | set S n => obtain ⟨_, _, _, _, e, _⟩ := x; exact ⟨_, e⟩
  | ins C dx fs => obtain ⟨_, _, _, e, _⟩ := x; exact ⟨_, e⟩
  | own y => exact x
  | xd fs => obtain ⟨_, ⟨_, _, _, e, _⟩, _⟩ := x; exact ⟨_, e⟩
  | rng lo hi => obtain ⟨_, _, _, e⟩ := x; exact ⟨_, e⟩
  | frz ob u => obtain ⟨e, _⟩ := x; exact ⟨_, e⟩
  | tbl ps => exact ⟨_, (show h.get? a = some _ from x)⟩
  | met f y => exact ⟨_, (show h.get? a = some _ from x)⟩
  | ext φ => obtain ⟨_, e, _⟩ := x; exact e
section
variable {X : Cx} {pins : List (Addr × Obj)} {σ : St} {H : Hp} {s : Shared} {O : Addr → Prop} {ea : Addr} {cls : Value} {E : XK} {base : Heap}
structure Frm (X : Cx) : Prop where
  stk : X.stack = X.env :: X.outer
  fr : X.env.frame = some X.env.locals
  ex : X.ex = []
theorem nz (hF : Frm X) : frs (X.env :: X.outer) = X.env.locals :: X.fs := by
  unfold Cx.fs frs
  rw [List.filterMap_cons, hF.fr]
theorem tT (I : Inv X pins σ H s) : ∀ b ∈ X.fs, ∀ o, s.heap.get? b = some o → ∀ vs, o.data ≠ .fields vs := fun b hb o e vs => by
  obtain ⟨_, o', e', d⟩ := I.lU.mem hb
  rw [e] at e'
  rw [Option.some.inj e']
  exact d vs
theorem zf (I : Inv X pins σ H s) : ∀ o, X.s₀.heap.get? X.env.locals ≠ some o := fun o e => absurd (Heap.lt_size e) (Nat.not_lt.mpr I.ok.above)
theorem wF (hF : Frm X) (I : Inv X pins σ H s) : ∀ b ∈ frs (X.env :: X.outer), H b = none := fun b hb => by
  rw [nz hF] at hb
  rcases List.mem_cons.mp hb with e | hb
  · rw [e]; exact I.free
  · exact I.jN b (by rw [hF.stk, nz hF]; exact List.mem_cons_of_mem _ hb)
theorem oO (hF : Frm X) (I : Inv X pins σ H s) : s.heap.FunFrames X.base (X.env :: X.outer) := by
  have := I.stack
  rw [hF.stk] at this
  exact this
theorem BD (hF : Frm X) (I : Inv X pins σ H s) (hO : ∀ b o, X.s₀.heap.get? b = some o → O b) (ht : ∀ b, H b ≠ none → O b) {h' : Heap} (k : Kp O (frs (X.env :: X.outer)) s.heap h') (F : Fly O h' ea cls .none) (q : E cls none H) :
    CX1 X.prog X.w X.outer X.H₀ X.s₀ E (.ref ea) { s with heap := h' } := by
  refine ⟨O, ea, cls, H, rfl, I.os, I.bare, ?_, HOk.fly I.hok k ht (wF hF I), hO, ht, F, q⟩
  rw [nz hF] at k
  have u := I.base
  rw [hF.ex] at u
  exact Un.fly u k hO (zf I) (tT I)
theorem leave_new {vs : List Value} {h1 : Heap} {Qe : Value → Shared → Prop} (hF : Frm X) (I : Inv X pins σ H s) (hx : Heap.MadeExcOf s.heap h1 ea cls vs) (q : E cls none H) :
    wpAny (model X.prog X.w) X.A (leaving X.env (.ref ea)) (fun _ s'' => CX1 X.prog X.w X.outer X.H₀ X.s₀ E (.ref ea) s'') Qe { s with heap := h1 } := by
  obtain ⟨t, he, _, _⟩ := hx.there
  have I1 : Inv X pins σ H { s with heap := h1 } := I.kept (t' := s.toks) hx.keeps
  have fr : X.A.frames = some (X.env :: X.outer) := by rw [← hF.stk]; exact I.ok.frames
  have kp : Kp (fun b => ∃ o, s.heap.get? b = some o) (frs (X.env :: X.outer)) s.heap h1 := .of hx.keeps
  refine wb (O := fun b => ∃ o, s.heap.get? b = some o) (s := { s with heap := h1 }) fr (oO hF I1) hF.fr he rfl rfl rfl rfl (fun b ⟨o, e⟩ => Heap.lt_size (hx.keeps b o e)) (fun ⟨o, e⟩ => by rw [hx.new] at e; cases e) fun h' k F => ?_
  have e := BD (s := s) (X := X) hF I (fun b o e => I.base.there b o e (by rw [hF.ex]; exact fun z => nomatch z)) (fun b hb => by
    cases z : H b with
    | none => exact absurd z hb
    | some o => exact AN (I.hok b o z)) (kp.trans k) F q
  exact e
end
structure XOk (X : Cx) (E : XK) : Prop where
  new : ∀ (pins : List (Addr × Obj)) (σ : St) (H : Hp) (s : Shared) (ea : Addr) (cls : Value) (vs : List Value) (h1 : Heap), Inv X pins σ H s → Heap.MadeExcOf s.heap h1 ea cls vs → E cls none H → X.xe (.ref ea) { s with heap := h1 }
  pas : Passes (CX1 X.prog X.w) X E
theorem sR {X : Cx} {pins : List (Addr × Obj)} {σ : St} {H : Hp} {s s' : Shared} {E : XK} {e : Value} {Qe : Value → Shared → Prop} (hF : Frm X) (I : Inv X pins σ H s) (h : CX1 X.prog X.w X.stack H s E e s') :
    wpAny (model X.prog X.w) X.A (leaving X.env e) (fun _ s'' => CX1 X.prog X.w X.outer X.H₀ X.s₀ E e s'') Qe s' := by
  obtain ⟨O, ea, cls, H', rfl, os, bare, un, hok, hO, ht, F, q⟩ := h
  have I' : Inv X pins σ H' s' := I.pb (ch := []) os un hok bare (fun b z => nomatch z)
  have fr : X.A.frames = some (X.env :: X.outer) := by rw [← hF.stk]; exact I.ok.frames
  refine yr (s := s') fr (oO hF I') hF.fr F fun h' k F' => ?_
  exact BD (s := s') hF I' (fun b o e => by
    obtain ⟨o', e'⟩ := I.base.there b o e (by rw [hF.ex]; exact fun z => nomatch z)
    exact hO b o' e') ht k F' q
theorem pW {P : Program} {w : World} {K : PySem.W.Frag} {mg : Str → Option Value} {base : Heap} {N : List Str} {qual : Str} {scope : Scope} {f : Addr} {cd : Value} {A : Around} {outer : List Env} {s : Shared} {H : Hp} {E : XK} :
    XOk (i7 (CX1 P w) P w K mg base N qual scope f cd A outer s H E) E where
  new := fun pins σ H1 s1 ea cls vs h1 I hx q => leave_new (X := i7 (CX1 P w) P w K mg base N qual scope f cd A outer s H E) ⟨rfl, rfl, rfl⟩ I hx q
  pas := fun pins σ H1 s1 e s' I h => sR (X := i7 (CX1 P w) P w K mg base N qual scope f cd A outer s H E) ⟨rfl, rfl, rfl⟩ I h
abbrev DTX := Rho → Mu → (Mu → Prop) → Prop
abbrev XSp := List D → Mu → (Mu → Prop) → Prop
def yi (K : PySem.W.Frag) (E : XK) (C : Value) (μ : Mu) (H : Hp) (Xk : Mu → Prop) : Prop := ∀ μ' H', Ext K μ H μ' H' → aZ K μ' H' → Xk μ' → E C none H'
theorem yi.on {K : PySem.W.Frag} {E : XK} {C : Value} {μ μ1 : Mu} {H H1 : Hp} {Xk : Mu → Prop} (w : yi K E C μ H Xk) (e : Ext K μ H μ1 H1) : yi K E C μ1 H1 Xk := fun μ' H' e' => w μ' H' (e.trans e')
def XE (X : Cx) (E : XK) (C : Value) (e : Expr) (tx : DTX) : Prop := ∃ t : TE, PE X e t ∧ ∀ σ H ρ μ Xk Q, St0 X.K H ρ μ σ → tx ρ μ Xk → yi X.K E C μ H Xk → t σ H Q
def XS (X : Cx) (E : XK) (C : Value) (st : Stmt) (tx : DTX) : Prop := ∃ t : TS, PS X st t ∧ ∀ σ H ρ μ Xk D, St0 X.K H ρ μ σ → tx ρ μ Xk → yi X.K E C μ H Xk → t D σ H
def XSs (X : Cx) (E : XK) (C : Value) (st : List Stmt) (tx : DTX) : Prop := ∃ t : TS, PSs X st t ∧ ∀ σ H ρ μ Xk D, St0 X.K H ρ μ σ → tx ρ μ Xk → yi X.K E C μ H Xk → t D σ H
def spX (K : PySem.W.Frag) (C : Value) (dsp : XSp) : Sp := fun vs H _ E => ∃ (ds : List D) (μ : Mu) (Xk : Mu → Prop), aZ K μ H ∧ g9 K μ H ds vs ∧ dsp ds μ Xk ∧ yi K E C μ H Xk
section
variable {X : Cx} {E : XK} {C : Value} {e : Expr} {es : List Expr} {t : DTA} {te : DTE} {tx ty : DTX} {p pos : Pos} {x : Str} {k : Nat} {f : Addr} {fd : FuncData} {ps : List Str} {dsp : XSp} {st : Stmt} {sts : List Stmt}
def pB (dsp : XSp) (t : DTA) : DTX := fun ρ μ Xk => t ρ μ fun ds μ1 => dsp ds μ1 Xk
theorem mv (F : bU X.prog X.w X.K X.mg X.base (CX1 X.prog X.w) k f fd ps (spX X.K C dsp)) (hr : dO k X.A) (hg : Gl X x) (hm : X.mg x = some (.ref f)) (hk : PySem.W.keepIn X.K (.ref f) = true) (hb : Binds X.K fd ps []) (hx : XOk X E)
    (ha : DA X (e :: es) t) (hdb : (x == ("__debug__" : Str)) = false := by decide) (he : starEach (e :: es) X.env = (false, eval e X.env) :: starEach es X.env := by rfl) (hpl : (backTo pos (starEach es X.env)).any (·.1) = false := by rfl) :
    XE X E C (.Call (.Name x p) (e :: es) [] pos) (pB dsp t) := by
  obtain ⟨t1, p1, l1⟩ := ha
  refine ⟨_, zK F hr hg hm hk hb .nil hx.pas p1 hdb he hpl, fun σ H ρ μ Xk Q S h wsh => ?_⟩
  refine l1 σ H ρ μ _ _ S h fun ds us μ1 H1 e1 S1 rs len h1 => ?_
  exact ⟨ds, μ1, Xk, S1.mu, by rw [List.append_nil]; exact rs, h1, wsh.on e1⟩
theorem zD (h : XE X E C e tx) (hs : swapsWith e none pos.line X.env = pure false := by rfl) : XS X E C (.Expr e pos) tx := by
  obtain ⟨t1, p1, l1⟩ := h
  exact ⟨_, yG p1 hs, fun σ H ρ μ Xk D S h wsh => l1 σ H ρ μ Xk _ S h wsh⟩
def yz : DTX := fun _ _ _ => False
theorem sM : XSs X E C sts yz := ⟨_, sS, fun _ _ _ _ _ _ _ h _ => h.elim⟩
def xIf (tc : DTT) (tx ty : DTX) : DTX := fun ρ μ Xk => tc ρ μ fun b μ1 => if b = true then tx ρ μ1 Xk else ty ρ μ1 Xk
theorem EJ {c : Expr} {a b : List Stmt} {tc : DTT} (hc : DT X c tc) (ha : XSs X E C a tx) (hb : XSs X E C b ty) : XS X E C (.If c a b pos) (xIf tc tx ty) := by
  obtain ⟨t0, p0, l0⟩ := hc
  obtain ⟨t1, p1, l1⟩ := ha
  obtain ⟨t2, p2, l2⟩ := hb
  refine ⟨_, E2 p0 p1 p2, fun σ H ρ μ Xk D S h wsh => ?_⟩
  refine l0 σ H ρ μ _ _ S h fun c μ1 H1 e1 S1 h1 => ?_
  cases c with
  | true => exact lY (l1 σ H1 ρ μ1 Xk D S1 (by simpa using h1) (wsh.on e1))
  | false => exact mV (l2 σ H1 ρ μ1 Xk D S1 (by simpa using h1) (wsh.on e1))
theorem i8 (h : XS X E C st tx) : XSs X E C (st :: sts) tx := by
  obtain ⟨t1, p1, l1⟩ := h
  exact ⟨_, qZ p1 sS, fun σ H ρ μ Xk D S h wsh => l1 σ H ρ μ Xk _ S h wsh⟩
def Dv (td : DTS) (tx : DTX) : DTX := fun ρ μ Xk => td { nx := fun ρ' μ' => tx ρ' μ' Xk, rt := fun _ _ => False } ρ μ
theorem vH {td : DTS} (h : DS X st td) (hr : XSs X E C sts tx) : XSs X E C (st :: sts) (Dv td tx) := by
  obtain ⟨t1, p1, l1⟩ := h
  obtain ⟨t2, p2, l2⟩ := hr
  refine ⟨_, qZ p1 p2, fun σ H ρ μ Xk D S h wsh => ?_⟩
  refine l1 σ H ρ μ _ _ S h (fun σ' ρ' μ' H' e' S' q => ?_) (fun d u μ' H' e' ok r q => q.elim) (fun σ' ρ' μ' H' e' S' q => q.elim) (fun σ' ρ' μ' H' e' S' q => q.elim)
  exact l2 σ' H' ρ' μ' Xk D S' q (wsh.on e')
end
theorem _root_.L2.Fun.okX {P : Program} {w : World} {K : PySem.W.Frag} {mg : Str → Option Value} {base : Heap} {x qual : Str} {st : Stmt} {f : Addr} {fd : FuncData} {N ps : List Str} {k : Nat} {C : Value} {dsp : XSp} (F : Fun K x qual st f fd) (S : aN N ps (ay st)) (len : ∀ ds μ Xk, dsp ds μ Xk → ds.length = ps.length)
    (hbody : ∀ (cdv : Value) (A : Around) (outer : List Env) (s : Shared) (H : Hp) (E : XK), dO k (A.deeper (envOfC qual (ay st) s.heap.objs.size f cdv)) →
      ∃ tx, XSs (i7 (CX1 P w) P w K mg base N qual (ay st) f cdv A outer s H E) E C (dU st) tx ∧ ∀ ds μ Xk, dsp ds μ Xk → tx (aR N ds) μ Xk) : bU P w K mg base (CX1 P w) (k + 1) f fd ps (spX K C dsp) := by
  obtain ⟨oc, od, kV, doc, pm, an, cdv, ct, osl, rfl, lk, hcd⟩ := F.ex
  refine AS lk hcd S (fun vs H Q E h => ?_) fun A outer s H vs Q E hr hsp => ?_
  · obtain ⟨ds, μ, Xk, _, r, h, _⟩ := h
    rw [← r.length]; exact len ds μ Xk h
  · obtain ⟨tx, ⟨t, p, l⟩, q⟩ := hbody cdv A outer s H E hr
    obtain ⟨ds, μ, Xk, ok, r, h, wsh⟩ := hsp
    exact ⟨t, p, l (start N vs) H (aR N ds) μ Xk _ ⟨ok, oR r⟩ (q ds μ Xk h) wsh⟩
open PySem PySem.Spec PyProof.Rows
theorem Ek {K : PySem.W.Frag} {h : Heap} {C : Addr} {bmB : List Value} {newId : String} (X : K.In h) (q : PySem.W.excIn K C bmB newId = true) :
    ∃ bm N nm q bs hdct sn sub ab col dd k0 k1 k2 k3 k5 mN, h.get? C = some (excClassObj nm q C N bs bm hdct sn sub ab col dd k0 k1 k2 k3 k5 newId) ∧ h.Ns N mN ∧ mN "__init__" = none ∧ OwnTail h bmB bm := by
  unfold PySem.W.excIn at q
  split at q; rotate_left; · cases q
  rename_i dd cd sl ho; split at q; rotate_left; · cases q
  rename_i C' bm k0 k1 k2 k3 n k5 hm hs
  simp only [Bool.and_eq_true, beq_iff_eq, Bool.not_eq_true'] at q; obtain ⟨⟨⟨⟨⟨rfl, rfl⟩, hdel⟩, ht⟩, hok⟩, hni⟩ := q
  obtain ⟨nm, bs, mro, ns, qn, hd, sn, sub, ab, col, del⟩ := cd; dsimp only at hm hdel hok hni; subst hm hdel
  obtain rfl : sl = #[k0, k1, k2, k3, some (.builtin n), k5] := by obtain ⟨l⟩ := sl; exact congrArg Array.mk hs
  exact ⟨bm, ns, nm, qn, bs, hd, sn, sub, ab, col, dd, k0, k1, k2, k3, k5, _, X _ _ ho, .of_isNs (PySem.W.isNs_of_in X hok), PySem.W.nsMap_none_of_in X hok hni, PySem.W.tail_of_in X ht⟩
section
variable {X : Cx} {E : XK} {x : Str} {C : Addr}
theorem wo {txt : Str} {j} {np kp cpos pos : Pos} (hx : XOk X E) (hg : Gl X x) (hm : X.mg x = some (.ref C)) (hq : PySem.W.excIn X.K C bmV "ValueError.__new__" = true) (hc : X.calm = true := by rfl) (hdb : (x == ("__debug__" : Str)) = false := by decide)
    (hs : starEach [.Constant (.str txt) j kp] X.env = [(false, eval (.Constant (.str txt) j kp) X.env)] := by rfl) :
    XS X E (.ref C) (.Raise (some (.Call (.Name x np) [.Constant (.str txt) j kp] [] cpos)) none pos) (fun _ μ Xk => Xk μ) := by
  refine ⟨fun D σ H => E (.ref C) none H, fun pins s σ H D I h => ?_, fun σ H ρ μ Xk D S h wsh => wsh μ H .refl S.mu h⟩
  obtain ⟨tl, N, nm, q, bs, hdct, sn, sub, ab, col, dd, k0, k1, k2, k3, k5, mN, hC, hN, hni, T⟩ := Ek I.mod.kin hq
  refine wpAny_Raise_call_subT (C := C) (nm := nm) (q := q) (N := N) (bs := bs) (bm := tl) (hdct := hdct) (sn := sn) (sub := sub) (ab := ab) (col := col) (dd := dd) (k0 := k0) (k1 := k1) (k2 := k2) (k3 := k3) (k5 := k5)
    PySem.F.excBase_ValueError (mN := mN) (T.hasType PySem.F.excBase_ValueError.hasBase) (I.ok.hd hc) (by rw [hs]; rfl) hni (ll I hg hm ⟨rfl, ?_⟩ hdb)
  have pa := fb (X := X) (es := []) (BF (x := txt) (j := j) (pos := kp)) kL (by rw [hs]; rfl) cpos pins s σ H (fun vs H1 => vs.length = 1 ∧ H1 = H) I ⟨rfl, rfl⟩
  rw [hs] at pa ⊢
  refine Calls.evalArgs_plain (thn pa fun us s2 ⟨vs, H1, I1, r, l, e1⟩ => ?_)
  subst e1
  exact ⟨rfl, by rw [← r.length, l]; decide, I1.bk _ _ hC, hN.keeps I1.bk, T.keeps I1.bk, fun h' e hm' => hx.new pins σ H1 s2 e _ _ h' I1 hm' h⟩
end
open PySem PySem.Spec PyProof.Rows
structure pK (K : PySem.W.Frag) (C : Addr) : Prop where
  ga : PySem.W.findIn K (.ref C) "__getattribute__" = some (some (.builtin "BaseException.__getattribute__"))
  gx : PySem.W.findIn K (.ref C) "__getattr__" = some none
  cl : PySem.W.findIn K (.ref C) "__class__" = some (some (.builtin "object.__class__"))
  ob : PySem.W.mroIn K C (.type "object") = some true
  be : PySem.W.mroIn K C (.type "BaseException") = some true
  ci : (PySem.W.clsIn K C).isSome = true
section
variable {prog : Program} {w : World} {A : Around} {E : Value → Shared → Prop} {h : Heap} {g : Array GenState} {d : Drawn} {t : Nat} {os : OsState} {a C : Addr} {o : Obj} {K : PySem.W.Frag}
theorem DC {R : Result → Shared → Prop} (X : K.In h) (Z : pK K C) (hx : h.get? a = some o) (hc : o.cls = .ref C) (hq : R (.ok (.ret (.ref C))) ⟨h, g, d, t, os⟩) :
    codeAny (model prog w) A (.call (.builtin "getset_descriptor.__get__") ⟨[.builtin "object.__class__", .ref a, .ref C], []⟩) R ⟨h, g, d, t, os⟩ := by
  have hT5 : (⟨h, g, d, t, os⟩ : Shared).TypeIs (.builtin "object.__class__") "getset_descriptor" := F.typeOf_object_class
  have sub : ∀ {A' : Around} {Q' : Bool → Shared → Prop} {E' : Value → Shared → Prop} {g' d' t' os'}, Q' true ⟨h, g', d', t', os'⟩ → wpAny (model prog w) A' (isSubtype (.ref C) (.type (".".intercalate ("object.__class__".cutAt '.').dropLast))) Q' E' ⟨h, g', d', t', os'⟩ := fun q => by
    rw [F.owner_object_class]; exact (PySem.W.looks_mroIn X Z.ob).here q
  refine codeAny_call_builtin F.slot_gs_get.plain F.entry_gs_get (F.slot_gs_get.check _ _ _ _ _ _ _ _ hT5 (F.args_gs_get _ _ _) ?_)
  repeat (any_goals (first | assumption | (with_reducible refine wpAny_loadPart_at hx ?_; rw [hc]) | with_reducible refine sub ?_ | wp_step))
  refine ⟨Code.quiet_builtin _ (by decide +kernel), codeAny_builtin F.entry_object_class ?_⟩
  repeat (any_goals (first | assumption | (with_reducible refine wpAny_loadPart_at hx ?_; rw [hc]) | wp_step))
theorem Al {tk : Tok} {Q : Fin → Shared → Prop} (X : K.In h) (Z : pK K C) (hx : h.get? a = some o) (hc : o.cls = .ref C) (hq : Q (.done (.ret (.ref C))) ⟨h, g, d, t, os⟩) :
    wpAny (model prog w) A (Builtin.«object.__getattribute__» ⟨[.ref a, .str "__class__" tk], []⟩) Q E ⟨h, g, d, t, os⟩ := by
  have hT5 : (⟨h, g, d, t, os⟩ : Shared).TypeIs (.builtin "object.__class__") "getset_descriptor" := F.typeOf_object_class
  have f5 := F.typeOf_object_class; have f6 := F.slot_gs_get.lookup; have f7 := F.slot_gs_set.lookup
  have lk : ∀ {A' : Around} {Q' : Option Value → Shared → Prop} {E' : Value → Shared → Prop} {g' d' t' os'}, Q' (some (.builtin "object.__class__")) ⟨h, g', d', t', os'⟩ → wpAny (model prog w) A' (typeLookup (.ref C) "__class__") Q' E' ⟨h, g', d', t', os'⟩ := fun q => (PySem.W.looks_findIn X Z.cl).here q
  repeat (any_goals (first | assumption | (with_reducible refine wpAny_loadPart_at hx ?_; rw [hc]) | with_reducible refine lk ?_ | wp_step))
  refine DC X Z hx hc ?_
  repeat (any_goals (first | assumption | wp_step))
theorem Ab {nv : Value} {Q : Unit → Shared → Prop} (X : K.In h) (Z : pK K C) (hx : h.get? a = some o) (hc : o.cls = .ref C) (hq : Q () ⟨h, g, d, t, os⟩) : wpAny (model prog w) A (checkBuiltinCall "BaseException.__getattribute__" ⟨[.ref a, nv], []⟩) Q E ⟨h, g, d, t, os⟩ := by
  have hk : builtinKind "BaseException.__getattribute__" = some .slot := by decide +kernel
  have hsp : splitId "BaseException.__getattribute__" = some ("BaseException", "__getattribute__") := by decide +kernel
  have ha := F.args_bexc_ga (.ref a) nv
  have sub : ∀ {A' : Around} {Q' : Bool → Shared → Prop} {E' : Value → Shared → Prop} {g' d' t' os'}, Q' true ⟨h, g', d', t', os'⟩ → wpAny (model prog w) A' (isSubtype (.ref C) (.type "BaseException")) Q' E' ⟨h, g', d', t', os'⟩ := fun q => (PySem.W.looks_mroIn X Z.be).here q
  simp only [checkBuiltinCall, hk, hsp]
  refine wpAny_bind ?_
  unfold isInstance
  repeat (first | (with_reducible refine wpAny_loadPart_at hx ?_; rw [hc]) | with_reducible refine sub ?_ | wp_step)
  exact hq
theorem CB {tk : Tok} {R : Result → Shared → Prop} (X : K.In h) (Z : pK K C) (hx : h.get? a = some o) (hc : o.cls = .ref C) (hq : R (.ok (.ret (.ref C))) ⟨h, g, d, t, os⟩) :
    codeAny (model prog w) A (.call (.builtin "BaseException.__getattribute__") ⟨[.ref a, .str "__class__" tk], []⟩) R ⟨h, g, d, t, os⟩ :=
  codeAny_call_builtin F.attr_ValueError.ga.plain F.entry_bexc_ga (Ab X Z hx hc (Al X Z hx hc hq))
theorem Ft {tk : Tok} {Q : Value → Shared → Prop} (X : K.In h) (Z : pK K C) (hx : h.get? a = some o) (hc : o.cls = .ref C) (hq : Q (.ref C) ⟨h, g, d, t, os⟩) : wpAny (model prog w) A (getAttrBy (.ref a) (.str "__class__" tk) false) Q E ⟨h, g, d, t, os⟩ := by
  have f3 := F.attr_ValueError.ga.bind (.ref a)
  have hx2 : (Value.builtin "BaseException.__getattribute__" == Value.builtin "object.__getattribute__") = false := by decide +kernel
  have hx1 : (onTheHeap (Value.ref C) && Value.builtin "BaseException.__getattribute__" == Value.builtin "object.__getattribute__") = false := by rw [hx2]; rfl
  have lk : ∀ {A' : Around} {Q' : Option Value → Shared → Prop} {E' : Value → Shared → Prop} {g' d' t' os'}, Q' (some (.builtin "BaseException.__getattribute__")) ⟨h, g', d', t', os'⟩ → wpAny (model prog w) A' (typeLookup (.ref C) "__getattribute__") Q' E' ⟨h, g', d', t', os'⟩ := fun q => (PySem.W.looks_findIn X Z.ga).here q
  have lx : ∀ {A' : Around} {Q' : Option Value → Shared → Prop} {E' : Value → Shared → Prop} {g' d' t' os'}, Q' none ⟨h, g', d', t', os'⟩ → wpAny (model prog w) A' (typeLookup (.ref C) "__getattr__") Q' E' ⟨h, g', d', t', os'⟩ := fun q => (PySem.W.looks_findIn X Z.gx).here q
  repeat (any_goals (first | assumption | (with_reducible refine wpAny_loadPart_at hx ?_; rw [hc]) | with_reducible refine lk ?_ | with_reducible refine lx ?_ | wp_step))
  refine CB X Z hx hc ?_
  repeat (any_goals (first | assumption | wp_step))
theorem Ce {Q : Option Value → Shared → Prop} (X : K.In h) (Z : pK K C) (hx : h.get? a = some o) (hc : o.cls = .ref C) (hq : Q (some (.ref C)) ⟨h, g, d, t + 1, os⟩) : wpAny (model prog w) A (getAttr? (.ref a) "__class__") Q E ⟨h, g, d, t, os⟩ := by
  unfold getAttr? getAttrBy?
  repeat (any_goals (first | assumption | with_reducible apply Ft X Z hx hc | wp_step))
theorem BH (Z : pK K C) : PySem.W.KitX K (.ref a) (.ref C) (fun h => ∃ o, h.get? a = some o ∧ o.cls = .ref C) where
  ty := fun M h X ⟨o, e, c⟩ => by
    intro A' Q' E' s' k q
    unfold typeOf
    refine wpAny_bind (wpAny_loadPart (k _ _ e) ?_)
    rw [c]
    exact wpAny_pure q
  it := fun M h X _ => by
    have z := Z.ci
    unfold PySem.W.clsIn at z
    split at z
    · rename_i ho
      intro A' Q' E' s' k q
      unfold isType loadHead
      exact wpAny_bind (wpAny_loadPart (k _ _ (X _ _ ho)) (wpAny_pure q))
    · cases z
  ne := fun h tp dd its n sl X htp => by
    refine Bool.eq_false_iff.mpr fun q => ?_
    obtain rfl : C = tp := Value.ref.inj (beq_iff_eq.mp q)
    have z := Z.ci
    unfold PySem.W.clsIn at z
    split at z
    · rename_i ho; have z' := (X _ _ ho).symm.trans htp; cases z'
    · cases z
  ca := fun {_ _ _ _ _ s} X ⟨o, e, c⟩ k => by obtain ⟨h, g, d, t, os⟩ := s; exact Ce X Z e c k
end
open PySem PySem.Spec PyProof.Rows
theorem zq {K : PySem.W.Frag} {h : Heap} {c P : Addr} {o : Obj} {q : Str} (X : K.In h) (l : K.lookup c = some o) (e : bc o = some (P, q)) (ne : c ≠ P) : PySem.W.CodeHd h c P := by
  have ho := X _ _ l
  unfold bc at e
  split at e
  · rename_i cn vs hcls hd
    split at e
    · rename_i hcn
      subst hcn
      split at e
      · rename_i q' t' f1 f2 f3 f4 f5 f6 P' f7 f8 e1 e7 e9 e10 e11 e18
        split at e
        · cases e
          refine ⟨o, vs, f7, f8, f2, f3, f4, f5, f6, ho, hcls, hd, e11, ?_, ?_, ?_, ?_, ?_, ne⟩
          · rw [Array.getD_eq_getD_getElem?, e11]; rfl
          · rw [Array.getD_eq_getD_getElem?, e18]; rfl
          · rw [Array.getD_eq_getD_getElem?, e7]; rfl
          · rw [Array.getD_eq_getD_getElem?, e9]; rfl
          · rw [Array.getD_eq_getD_getElem?, e10]; rfl
        · cases e
      · cases e
    · cases e
  · cases e
def Eo (K : PySem.W.Frag) (mg : Str → Option Value) : Prop := ∃ bm ob, mg "__builtins__" = some (.ref bm) ∧ bm ≠ builtinsNs ∧ K.lookup bm = some ob ∧ ob.cls = .type "module" ∧ ob.dict = some builtinsNs ∧ ob.data = .plain
theorem zW {pos : Pos} {w : Value} {l3 : List Value} : ∀ {l : List Value}, TriplesOk l → codeAmong pos l = some w → codeAmong pos (l ++ l3) = some w := by
  intro l
  fun_induction TriplesOk l with
  | case1 => intro _ e; simp [codeAmong] at e
  | case2 a t b u x rest ih =>
    intro h e
    simp only [List.cons_append, codeAmong] at e ⊢
    split at e
    · rename_i hc; rw [if_pos hc]; exact e
    · rename_i hc; rw [if_neg hc]; exact ih h e
  | case3 l h1 h2 => intro h; exact h.elim
theorem zY {pos lpos : Pos} {cv : Value} {c : Value} : ∀ {l : List Value}, TriplesOk l → codeAmong pos l = none → codeAmong pos (l ++ [rawInt lpos.line, rawInt lpos.col, c]) = some cv → cv = c := by
  intro l
  fun_induction TriplesOk l with
  | case1 =>
    intro _ _ e
    simp only [List.nil_append, codeAmong, rawInt] at e
    split at e
    · exact (Option.some.inj e).symm
    · cases e
  | case2 a t b u x rest ih =>
    intro h n e
    simp only [List.cons_append, codeAmong] at n e
    split at n
    · cases n
    · rename_i hc; rw [if_neg hc] at e; exact ih h n e
  | case3 l h1 h2 => intro h; exact h.elim
section
variable {X : Cx} {pins : List (Addr × Obj)} {σ : St} {H : Hp} {s : Shared}
theorem tL {P c' : Addr} {ps : Array Value} {l3 : List Value} {h' : Heap} {tk : Nat} {φ : Heap → Prop} (I : Inv X pins σ H s) (hP : H P = some (.tbl ps)) (hx : Heap.ExtBut P s.heap h') (ht : h'.get? P = some (PySem.W.tabObj (ps ++ l3.toArray))) (hc : s.heap.objs.size ≤ c') (hφ : φ h') (hc' : ∃ o, h'.get? c' = some o) (hst : ∀ h1 h2 : Heap, φ h1 → (∀ o, h1.get? c' = some o → h2.get? c' = some o) → φ h2) :
    Inv X pins σ (upd (upd H P (.tbl (ps ++ l3.toArray))) c' (.ext φ)) { s with heap := h', toks := tk } := by
  have fc : H c' = none := I.hok.fresh hc
  have nPc : P ≠ c' := aG hP fc
  have low : ∀ b o, s.heap.get? b = some o → b ≠ c' := fun b o e z => absurd (Heap.lt_size e) (by rw [z]; exact Nat.not_lt.mpr hc)
  have old : ∀ b, b ≠ P → b ≠ c' → upd (upd H P (.tbl (ps ++ l3.toArray))) c' (.ext φ) b = H b := fun b h1 h2 => by rw [aT h2, aT h1]
  have atP : upd (upd H P (.tbl (ps ++ l3.toArray))) c' (.ext φ) P = some (.tbl (ps ++ l3.toArray)) := by rw [aT nPc]; exact bB
  refine I.un (t' := tk) ⟨fun b o e n _ _ => hx b o (fun z => by rw [z, hP] at n; cases n) e, fun b o e n _ _ => ⟨o.slots, hx b o (fun z => by rw [z, hP] at n; cases n) e⟩, fun b o e n _ => ?_, fun b o e _ => ?_, fun b xs e => ?_, fun b o u e => ?_, fun b qs e => ?_⟩ fun b o e => ?_
  · rw [old b (fun z => by rw [z, hP] at n; cases n) (low b o e)]; exact n
  · by_cases z : b = P
    · exact ⟨_, by rw [z]; exact ht⟩
    · exact ⟨o, hx b o z e⟩
  · rw [old b (fun z => by rw [z, hP] at e; cases e) (aG e fc)]; exact e
  · rw [old b (fun z => by rw [z, hP] at e; cases e) (aG e fc)]; exact e
  · by_cases z : b = P
    · rw [z] at e; rw [hP] at e; cases e
      exact ⟨l3.toArray, by rw [z]; exact atP⟩
    · exact ⟨#[], by rw [old b z (aG e fc)]; simpa using e⟩
  · by_cases zc : b = c'
    · subst zc
      rw [bB] at e; cases e
      exact ⟨hφ, hc', hst⟩
    · by_cases z : b = P
      · subst z
        rw [atP] at e; cases e
        exact ht
      · rw [old b z zc] at e
        refine (I.hok b o e).mm (fun d u hd q => hx d u ?_ q) (fun d q => ?_) fun d xs q => ?_
        · rcases hd with rfl | hd
          · exact z
          · exact fun y => by rw [y, hP] at hd; cases hd
        · rw [old d (fun y => by rw [y, hP] at q; cases q) (aG q fc)]; exact q
        · rw [old d (fun y => by rw [y, hP] at q; cases q) (aG q fc)]; exact q
theorem wG {K : PySem.W.Frag} {P c' : Addr} {ps : Array Value} {q : Str} {lpos : Pos} (t : rV K H) (hP : H P = some (.tbl ps)) (htr : TriplesOk ps.toList) (hcs : ∀ pos cv, codeAmong pos ps.toList = some cv → ∃ c, cv = .ref c ∧ H c = some (.ext (codeAt c (aM q)))) (hf : codeAmong lpos ps.toList = none) (fc : H c' = none)
    (hu : ∀ c2 o2 q2, K.lookup c2 = some o2 → bc o2 = some (P, q2) → q2 = q) :
    rV K (upd (upd H P (.tbl (ps ++ [rawInt lpos.line, rawInt lpos.col, .ref c'].toArray))) c' (.ext (codeAt c' (aM q)))) := fun c2 o2 P2 q2 l2 e2 => by
  have nPc : P ≠ c' := aG hP fc
  have old : ∀ b, b ≠ P → b ≠ c' → upd (upd H P (.tbl (ps ++ [rawInt lpos.line, rawInt lpos.col, .ref c'].toArray))) c' (.ext (codeAt c' (aM q))) b = H b := fun b h1 h2 => by rw [aT h2, aT h1]
  have cold : ∀ c qq, H c = some (.ext (codeAt c qq)) → upd (upd H P (.tbl (ps ++ [rawInt lpos.line, rawInt lpos.col, .ref c'].toArray))) c' (.ext (codeAt c' (aM q))) c = some (.ext (codeAt c qq)) := fun c qq h => by rw [old c (fun z => by rw [z, hP] at h; cases h) (aG h fc)]; exact h
  by_cases z : P2 = P
  · subst z
    obtain rfl := hu c2 o2 q2 l2 e2
    refine ⟨_, by rw [aT nPc]; exact bB, by rw [Array.toList_append]; exact TriplesOk_snoc _ _ _ _ htr, fun pos cv e => ?_⟩
    rw [Array.toList_append] at e
    cases hp : codeAmong pos ps.toList with
    | some w =>
      obtain ⟨c, hw, hc⟩ := hcs pos w hp
      have : codeAmong pos (ps.toList ++ [rawInt lpos.line, rawInt lpos.col, .ref c']) = some w := zW htr hp
      have e' : some w = some cv := this.symm.trans e
      cases e'
      exact ⟨c, hw, cold c _ hc⟩
    | none =>
      have := zY htr hp (show codeAmong pos (ps.toList ++ [rawInt lpos.line, rawInt lpos.col, .ref c']) = some cv from e)
      exact ⟨c', this, bB⟩
  · obtain ⟨qs, a1, a2, a3⟩ := t c2 o2 P2 q2 l2 e2
    exact ⟨qs, by rw [old P2 z (aG a1 fc)]; exact a1, a2, fun pos cv e => let ⟨c, w1, w2⟩ := a3 pos cv e; ⟨c, w1, cold c _ w2⟩⟩
theorem Gf {μ : Mu} {params : Arguments} {body : Expr} {lsc : Scope} {lpos : Pos} {cl : List (Str × Addr)} {c P : Addr} {o : Obj} {q : Str} {Qd : Value → Shared → Prop} (I : Inv X pins σ H s) (ok : aZ X.K μ H) (hcode : X.env.code = .ref c) (hl : X.K.lookup c = some o)
    (hlc : bc o = some (P, q)) (hu : ∀ c2 o2 q2, X.K.lookup c2 = some o2 → bc o2 = some (P, q2) → q2 = q) (hq : X.env.qual = q ++ ".<locals>.") (hB : Eo X.K X.mg) (hcl : closureFor lsc X.env = pure cl) (hdef : defaultsOf params X.env = ([], []))
    (k : ∀ (fa c1 : Addr) (ctv pm : Value) (H1 : Hp) (s1 : Shared), Inv X pins σ H1 s1 → Ext X.K μ H μ H1 → aZ X.K μ H1 → s1.heap.get? fa = some { cls := .type "function", data := .func (PySem.W.kla_fn "<lambda>" (aM q) params body lsc cl pm (.ref c1) ctv) } → H1 fa = none → fa ∉ frs X.stack → H1 c1 = some (.ext (codeAt c1 (aM q))) → Qd (.ref fa) s1) :
    wpAny (model X.prog X.w) X.A (eval (.Lambda params body lsc lpos) X.env) Qd X.xe s := by
  refine PySem.W.kla_eval hdef ?_
  rw [hq]
  obtain ⟨ps, hP, htr, hcs⟩ := ok.tab c o P q hl hlc
  have getP : s.heap.get? P = some (PySem.W.tabObj ps) := I.hok P _ hP
  have nK : ∀ b ob, X.K.lookup b = some ob → b ≠ P := fun b ob e z => by
    have := (I.bs b ob (I.mod.kin b ob e)).2
    rw [z, hP] at this; cases this
  have C := zq I.kIn hl hlc (nK c o hl)
  have hg : s.heap.Ns mainGlobals X.mg := I.mod.glob.keeps I.bk
  have hgP : mainGlobals ≠ P := fun z => by
    obtain ⟨og, es, ep, e, d, _⟩ := hg
    rw [z, getP] at e; cases e; cases d
  have hb : s.heap.BuiltinsAt X.mg P := by
    obtain ⟨bm, ob, b1, b2, b3, b4, b5, b6⟩ := hB
    refine ⟨bm, ob, b1, b2, fun z => ?_, nK bm ob b3, I.kIn _ _ b3, b4, b5, b6⟩
    obtain ⟨og, es, ep, e, d, _⟩ := hg
    rw [← z, I.kIn _ _ b3] at e; cases e; rw [b6] at d; cases d
  have stk : ∀ b, s.heap.objs.size ≤ b → b ∉ frs X.stack := fun b hb hm => by
    obtain ⟨_, ob, e, _⟩ := I.stack.mem hm
    exact absurd (Heap.lt_size e) (Nat.not_lt.mpr hb)
  cases hf : codeAmong lpos ps.toList with
  | some cv =>
    obtain ⟨c1, rfl, hc1⟩ := hcs lpos cv hf
    refine PySem.W.kla_makeFunctionHit hcl I.ok.glob hg hcode C getP htr hf hb fun ctv h' tk hk hsz => ?_
    have I2 : Inv X pins σ H { s with heap := h'.push { cls := .type "function", data := .func (PySem.W.kla_fn "<lambda>" (aM q) params body lsc cl ((X.mg "__name__").getD .none) (.ref c1) ctv) }, toks := tk } := I.kept (t' := tk) fun b u e => Heap.get?_push_of_some _ (hk b u e)
    exact k h'.objs.size c1 ctv _ H _ I2 .refl ok (Heap.get?_push_size _ rfl) (I.hok.fresh hsz) (stk _ hsz) hc1
  | none =>
    refine PySem.W.kla_makeFunction hcl I.ok.glob hg hcode C getP htr hf hgP hb fun c' ctv h' tk hx hge hlt hrec htb => ?_
    have hca : codeAt c' (aM q) h' := by
      obtain ⟨c2, oc, vs, t, e2, g2, d2, v2⟩ := hrec
      cases e2
      exact ⟨oc, vs, t, g2, d2, v2⟩
    have fc : H c' = none := I.hok.fresh hge
    have I1 : Inv X pins σ (upd (upd H P (.tbl (ps ++ [rawInt lpos.line, rawInt lpos.col, .ref c'].toArray))) c' (.ext (codeAt c' (aM q)))) { s with heap := h', toks := tk } := tL (φ := codeAt c' (aM q)) I hP hx htb hge hca (let ⟨oc, _, _, g2, _⟩ := hca; ⟨oc, g2⟩) (fun h1 h2 ⟨oc, vs, t, g2, d2, v2⟩ kk => ⟨oc, vs, t, kk _ g2, d2, v2⟩)
    have I2 : Inv X pins σ (upd (upd H P (.tbl (ps ++ [rawInt lpos.line, rawInt lpos.col, .ref c'].toArray))) c' (.ext (codeAt c' (aM q)))) { s with heap := h'.push { cls := .type "function", data := .func (PySem.W.kla_fn "<lambda>" (aM q) params body lsc cl ((X.mg "__name__").getD .none) (.ref c') ctv) }, toks := tk } := I1.kept (t' := tk) fun b u e => Heap.get?_push_of_some _ e
    have old : ∀ b, b ≠ P → b ≠ c' → upd (upd H P (.tbl (ps ++ [rawInt lpos.line, rawInt lpos.col, .ref c'].toArray))) c' (.ext (codeAt c' (aM q))) b = H b := fun b h1 h2 => by rw [aT h2, aT h1]
    have nPc : P ≠ c' := aG hP fc
    have ex : Ext X.K μ H μ (upd (upd H P (.tbl (ps ++ [rawInt lpos.line, rawInt lpos.col, .ref c'].toArray))) c' (.ext (codeAt c' (aM q)))) := ⟨fun b u e n nt => by rw [old b (fun z => by rw [z, hP] at e; cases e; exact nt) (aG e fc)]; exact e, fun b qs e n => by
      by_cases z : b = P
      · exact ⟨_, by rw [z, aT nPc]; exact bB⟩
      · exact ⟨qs, by rw [old b z (aG e fc)]; exact e⟩, fun _ ds e => ⟨ds, e⟩, fun _ e _ => e⟩
    have mu : aZ X.K μ (upd (upd H P (.tbl (ps ++ [rawInt lpos.line, rawInt lpos.col, .ref c'].toArray))) c' (.ext (codeAt c' (aM q)))) := ⟨fun a ds e => by
      obtain ⟨xs, h1, h2⟩ := ok a ds e
      exact ⟨xs, by rw [old a (fun z => by rw [z, hP] at h1; cases h1) (aG h1 fc)]; exact h1, h2.ext ok ex⟩, wG ok.tab hP htr hcs hf fc hu⟩
    have hfr : s.heap.objs.size ≤ h'.objs.size := Nat.le_trans hge (Nat.le_of_lt hlt)
    refine k h'.objs.size c' ctv _ _ _ I2 ex mu (Heap.get?_push_size _ rfl) ?_ (stk _ hfr) bB
    have : h'.objs.size ≠ c' := Nat.ne_of_gt hlt
    by_cases z : h'.objs.size = P
    · exact absurd (Heap.lt_size getP) (by rw [← z]; exact Nat.not_lt.mpr hfr)
    · rw [old _ z this]; exact I.hok.fresh hfr
end
open PySem PySem.Spec PyProof.Rows
def oW (lsc : Scope) (cl : List (Str × Addr)) (q : Str) (fa c1 L : Addr) : Env := { scope := lsc, locals := L, globals := mainGlobals, cells := cl, qual := q ++ ".<locals>.", func := some fa, code := .ref c1, frame := some L, builtins := builtinsNs }
def j3 (P : Program) (w : World) (K : PySem.W.Frag) (mg : Str → Option Value) (base : Heap) (N : List Str) (lsc : Scope) (cl : List (Str × Addr)) (q : Str) (fa c1 : Addr) (A : Around) (outer : List Env) (s : Shared) (H : Hp) (E : XK) : Cx where
  prog := P
  w := w
  K := K
  mg := mg
  base := base
  A := A.deeper (oW lsc cl q fa c1 s.heap.objs.size)
  N := N
  s₀ := s
  H₀ := H
  env := oW lsc cl q fa c1 s.heap.objs.size
  outer := outer
  stack := oW lsc cl q fa c1 s.heap.objs.size :: outer
  ex := []
  calm := true
  fn := fun _ => false
  pn := []
  xe := fun e s' => wpAny (model P w) (A.deeper (oW lsc cl q fa c1 s.heap.objs.size)) (leaving (oW lsc cl q fa c1 s.heap.objs.size) e) (fun _ s'' => CX1 P w outer H s E e s'') (fun e' s'' => CX1 P w outer H s E e' s'') s'
section
variable {P : Program} {w : World} {K : PySem.W.Frag} {mg : Str → Option Value} {base : Heap} {N : List Str} {lsc : Scope} {cl : List (Str × Addr)} {q : Str} {fa c1 : Addr} {A : Around} {outer : List Env} {s : Shared} {H : Hp} {E : XK} {σ : St} {k : Nat} {params : Arguments} {body : Expr} {pm ctv : Value} {t : TE}
theorem vD : XOk (j3 P w K mg base N lsc cl q fa c1 A outer s H E) E where
  new := fun pins σ H1 s1 ea cls vs h1 I hx qq => leave_new (X := j3 P w K mg base N lsc cl q fa c1 A outer s H E) ⟨rfl, rfl, rfl⟩ I hx qq
  pas := fun pins σ H1 s1 e s' I h => sR (X := j3 P w K mg base N lsc cl q fa c1 A outer s H E) ⟨rfl, rfl, rfl⟩ I h
structure Clo (lsc : Scope) (cl : List (Str × Addr)) (N : List Str) (σ : St) (h : Heap) (H : Hp) : Prop where
  cell : ∀ x c, cl.lookup x = some c → ∃ v, h.IsCell c v
  free : ∀ x c, cl.lookup x = some c → H c = none
  inj : ∀ x y c, cl.lookup x = some c → cl.lookup y = some c → x = y
  has : ∀ x, lsc.names.lookup x = some .cell ∨ lsc.names.lookup x = some .free → ∃ a, cl.lookup x = some a
  vals : ∀ (i : Nat) (x : Str) (v : V), N[i]? = some x → σ[i]? = some (some v) → Vis lsc x → ∃ u c, RelV v u ∧ lsc.names.lookup x = some .free ∧ cl.lookup x = some c ∧ h.IsCell c (some u)
  len : σ.length = N.length
theorem wg {Q : VK} (hk : lsc.kind = .function) (hco : lsc.isCoroutine = false) (hgen : lsc.isGenerator = false) (hcell : ∀ y ∈ lsc.names, y.2 ≠ .cell) (hr : dO (k + 1) A) (e0 : wV P w K mg base A outer s H)
    (ho : s.heap.get? fa = some { cls := .type "function", data := .func (PySem.W.kla_fn "<lambda>" q params body lsc cl pm (.ref c1) ctv) }) (hcd : H c1 = some (.ext (codeAt c1 q))) (hbind : bindArgs (PySem.W.kla_fn "<lambda>" q params body lsc cl pm (.ref c1) ctv) ⟨[], []⟩ = pure [])
    (C : Clo lsc cl N σ s.heap H) (pe : PE (j3 P w K mg base N lsc cl q fa c1 A outer s H E) body t) (ht : t σ H Q) :
    codeAny (model P w) A (.call (.ref fa) ⟨[], []⟩) (CR (CX1 P w) outer P w H s Q E) s := by
  have crec : s.heap.CodeRec (.ref c1) q := by
    obtain ⟨⟨o, vs, t, g, d, v⟩, _, _⟩ := e0.hok c1 _ hcd
    exact ⟨c1, o, vs, t, rfl, g, d, v⟩
  refine PySem.W.kla_callFunE hr.depth ho rfl hco hgen rfl crec ?_
  rw [hbind]
  refine wpAny_pure (wpAny_newFunctionEnv hcell (fun y hy => nomatch hy) (fun h₁ hns hsb => ?_) hk)
  have hk₁ : ∀ b o, s.heap.get? b = some o → h₁.get? b = some o := fun b o e => hsb.extBut b o (Nat.ne_of_lt (Heap.lt_size e)) (Heap.get?_push_of_some _ e)
  have lim : h₁.NoLimit := e0.mod.nolimit.keeps fun b o e => hk₁ b o (e0.bs b o e).1
  refine ⟨lim, ?_⟩
  have noA : ∀ b : Addr, b ∉ (j3 P w K mg base N lsc cl q fa c1 A outer s H E).ex := fun b z => nomatch z
  have I : Inv (j3 P w K mg base N lsc cl q fa c1 A outer s H E) [] σ H { s with heap := h₁, toks := s.toks + ([] : List (Str × Value)).length } := by
    refine ⟨⟨e0.mod, hk, rfl, rfl, Nat.le_refl _, C.inj, C.has, fun _ _ z => (nomatch z), fun _ => hr.hd, .inl hr.hd, Around.frames_deeper e0.frames, .inr ⟨rfl, rfl⟩, fun b z => absurd z (noA b), e0.bs, e0.bsz, fun b _ _ => noA b, fun b z => absurd z (noA b), e0.lU, e0.frf⟩,
      rfl, e0.bare, Un.kept hk₁, ⟨_, hns, fun i x v h1 h2 h3 => ?_⟩, fun x c h => ?_, e0.hok.fresh (Nat.le_refl _), C.free, fun p hp => (nomatch hp), e0.hok.kept hk₁, C.len⟩
    · obtain ⟨u, c, r, f1, f2, o, f3, f4⟩ := C.vals i x v h1 h2 h3
      exact ⟨u, r, .inr ⟨.inr f1, c, f2, o, hk₁ _ _ f3, f4⟩⟩
    · obtain ⟨v, o, f3, f4⟩ := C.cell x c h
      exact ⟨v, o, hk₁ _ _ f3, f4⟩
  show codeAny _ _ (.expr body (oW lsc cl q fa c1 s.heap.objs.size)) _ _
  refine PySem.W.kla_codeExpr (wpAny_mono (pe [] _ σ H Q I ht) (fun v s' hv => ?_) fun e s' hs => hs)
  obtain ⟨x, H', J, r, qq⟩ := hv
  exact ⟨x, H', J.os, J.bare, J.base, J.hok, r, qq⟩
end
open PySem PySem.Spec PyProof.Rows
def cxH (X : Cx) (ea : Addr) (oe : Obj) : Cx := { X with A := X.A.mark (some (.ref ea)), calm := false, pn := (ea, oe) :: X.pn, xe := fun _ _ => False }
section
variable {X : Cx} {pins : List (Addr × Obj)} {σ : St} {H : Hp} {s : Shared} {O : Addr → Prop} {ea : Addr} {oe : Obj} {vs : Array Value}
theorem vf {h' : Heap} (hF : Frm X) (I : Inv X pins σ H s) (k : Kp O (frs (X.env :: X.outer)) s.heap h') (hO : ∀ b o, X.s₀.heap.get? b = some o → O b) (ht : ∀ b, H b ≠ none → O b) (hp : ∀ p ∈ X.pn ++ pins, O p.1) : Inv X pins σ H { s with heap := h' } := by
  have cellK : ∀ c v, s.heap.IsCell c v → h'.IsCell c v := fun c v ⟨o, e, d⟩ => by
    obtain ⟨sl, e'⟩ := k.slot c o e fun vs z => by rw [d] at z; cases z
    exact ⟨_, e', d⟩
  refine ⟨I.ok, I.os, I.bare, ?_, ?_, fun x c e => let ⟨v, q⟩ := I.cell x c e; ⟨v, cellK c v q⟩, I.free, I.dJ, fun p hp' => ?_, HOk.fly I.hok k ht (wF hF I), I.len⟩
  · have k' := k
    rw [nz hF] at k'
    have u := I.base
    rw [hF.ex] at u ⊢
    exact Un.fly u k' hO (zf I) (tT I)
  · obtain ⟨m, ⟨o, es, ep, e, d, r⟩, hl⟩ := I.loc
    obtain ⟨sl, e'⟩ := k.slot _ o e fun vs z => by rw [d] at z; cases z
    refine ⟨m, ⟨_, es, ep, e', d, r⟩, fun i x v h1 h2 h3 => ?_⟩
    obtain ⟨u, ru, lk⟩ := hl i x v h1 h2 h3
    refine ⟨u, ru, ?_⟩
    rcases lk with z | ⟨z, c, z1, z2⟩
    · exact .inl z
    · exact .inr ⟨z, c, z1, cellK _ _ z2⟩
  · obtain ⟨a1, a2, a3, a4, a5⟩ := I.pin p hp'
    exact ⟨k.keep _ _ a1 (hp p hp') fun z => by
      rw [nz hF] at z
      rcases List.mem_cons.mp z with z | z
      · exact a3 z
      · exact a4 z, a2, a3, a4, a5⟩
theorem Hx (I : Inv X pins σ H s) (he : s.heap.get? ea = some oe) (hH : H ea = none) (hL : ea ≠ X.env.locals) (hfs : ea ∉ X.fs) (hd : oe.data = .fields vs) (h2 : vs[2]? = some .none) : Inv (cxH X ea oe) pins σ H s :=
  ⟨⟨I.ok.mod, I.ok.kind, I.ok.glob, I.ok.blt, I.ok.above, I.ok.inj, I.ok.has, I.ok.cab, fun z => (nomatch z), .inr ⟨ea, oe, vs, rfl, List.mem_cons_self, hd, h2⟩, I.ok.frames, I.ok.stk, I.ok.exf, I.ok.bs, I.ok.bsz, I.ok.rW, I.ok.B5, I.ok.lU, I.ok.frf⟩,
    I.os, I.bare, I.base, I.loc, I.cell, I.free, I.dJ, fun p hp => by
      rcases List.mem_cons.mp (show p ∈ (ea, oe) :: (X.pn ++ pins) from hp) with z | z
      · rw [z]; exact ⟨he, hH, hL, hfs, fun v y => by rw [hd] at y; cases y⟩
      · exact I.pin p z, I.hok, I.len⟩
theorem Cd {h' : Heap} {m' : Str → Option Value} {tk : Nat} (ok : X.Ok) (I : Inv (cxH X ea oe) pins σ H s) (hn : h'.Ns X.env.locals m') (hs : Heap.SameBut X.env.locals s.heap h') (hx : X.ex = []) : Inv X pins (List.replicate X.N.length none) H { s with heap := h', toks := tk } := by
  have kp : ∀ b o, b ≠ X.env.locals → s.heap.get? b = some o → h'.get? b = some o := fun b o hb e => (hs.2 b hb).trans e
  have low : ∀ b o, X.s₀.heap.get? b = some o → b ≠ X.env.locals := fun b o e => Nat.ne_of_lt (Nat.lt_of_lt_of_le (Heap.lt_size e) ok.above)
  have cne : ∀ x c, X.env.cells.lookup x = some c → c ≠ X.env.locals := I.cne
  have u : Un X.fs X.ex X.H₀ H X.s₀.heap s.heap := I.base
  have hneL : ∀ b ∈ X.fs, b ≠ X.env.locals := fun b hb z => by
    obtain ⟨_, o, e, _⟩ := ok.lU.mem hb
    exact low b o e z
  refine ⟨ok, I.os, I.bare, ⟨fun b o e n f x => kp b o (low b o e) (u.keep b o e n f x), fun b o e n f x => ?_, u.free, fun b o e x => ?_, u.lP, u.lC, u.lG⟩, ⟨m', hn, fun i x v h1 h2 h3 => ?_⟩, fun x c e => ?_, I.free, I.dJ, fun p hp => ?_, fun b o e => ?_, by simp⟩
  · obtain ⟨sl, e1⟩ := u.slot b o e n f x
    exact ⟨sl, kp b _ (low b o e) e1⟩
  · obtain ⟨o1, e1⟩ := u.there b o e x
    exact ⟨o1, kp b o1 (low b o e) e1⟩
  · rw [List.getElem?_replicate] at h2
    split at h2 <;> cases h2
  · obtain ⟨v, o, e1, d⟩ := I.cell x c e
    exact ⟨v, o, kp c o (cne x c e) e1, d⟩
  · obtain ⟨a1, a2, a3, a4, a5⟩ := I.pin p (List.mem_cons_of_mem _ hp)
    exact ⟨kp _ _ a3 a1, a2, a3, a4, a5⟩
  · refine (I.hok b o e).mm (fun d v hd q => kp d v ?_ q) (fun _ q => q) fun _ _ q => q
    have fr : H X.env.locals = none := I.free
    rintro rfl
    rcases hd with z | z
    · rw [← z, fr] at e; cases e
    · rw [fr] at z; cases z
def IW (X : Cx) (di ni : Nat) (C : Value) (tS : Addr → Obj → TS) : TS := fun D σ H => ∃ (fa : Addr) (Good : Hp → Prop), σ[di]? = some (some (.ref fa)) ∧
  (∀ s1, Inv X [] σ H s1 → PySem.W.FnAt fa s1.heap ∧ codeAny (model X.prog X.w) X.A (.call (.ref fa) ⟨[], []⟩) (CR (CX1 X.prog X.w) X.stack X.prog X.w H s1 (fun _ _ => False) (fun cls _ H' => cls = C ∧ Good H')) s1) ∧
  ∀ H' ea oe, Good H' → oe.cls = C → H' ea = none → tS ea oe { nx := fun _ _ => False, rt := D.rt } (σ.set ni (some (.ref ea))) H'
theorem Fs {dn x n : Str} {dp cp ep np hp pos : Pos} {di ni : Nat} {b₀ : Stmt} {suite : List Stmt} {C FE : Addr} {tS : Addr → Obj → TS} (hF : Frm X) (hpn : X.pn = []) (hNd : X.N.Nodup) (hd : X.N[di]? = some dn) (hv : Vis X.env.scope dn) (hn : X.N[ni]? = some n) (hl : X.env.kindOf n = some .local) (hg : Gl X x) (hm : X.mg x = some (.ref FE))
    (hex : PySem.W.exmOne X.K (.ref C) (.ref FE) = some true) (hs : ∀ ea oe, PSs (cxH X ea oe) (b₀ :: suite) (tS ea oe)) (hdb : (dn == ("__debug__" : Str)) = false := by decide) (hdc : (dn == ("__classdict__" : Str)) = false := by decide) (hxb : (x == ("__debug__" : Str)) = false := by decide)
    (hsw : swapsWith (.Call (.Name dn dp) [] [] cp) none ep.line X.env = pure false := by rfl) (pins0 : List (Addr × Obj)) (s : Shared) (σ : St) (H : Hp) (D : Ends) (hp0 : pins0 = []) (I0 : Inv X pins0 σ H s) (h : IW X di ni (.ref C) tS D σ H) :
    wpAny (model X.prog X.w) X.A (exec (.Try [.Expr (.Call (.Name dn dp) [] [] cp) ep] [.ExceptHandler (some (.Name x np)) (some n) (b₀ :: suite) hp] [] [] pos) X.env) (SP X pins0 D) X.xe s := by
  subst hp0
  obtain ⟨fa, Good, hσ, deed, good⟩ := h
  refine wpAny_Try_except (wpAny_execs_cons (wpAny_Expr_any (wpAny_Call_Name_kw (wpAny_mono (xZ (X := X.nox) hd hv hdb hdc [] s σ H (fun v H1 => v = .ref fa ∧ H1 = H) (I0.qj _) ⟨.ref fa, hσ, rfl, rfl⟩) (fun v s1 hv1 => ?_) fun _ _ z => z.elim)) I0.quiet hsw))
  obtain ⟨y, H1, I1, r, e1, e2⟩ := hv1
  subst e1 e2
  cases r
  have I1 := I1.jB
  obtain ⟨fn, code⟩ := deed s1 I1
  refine PySem.W.callWith_F0 fn (wpAny_call (codeAny_mono code fun r s' hr => ?_))
  cases r with
  | ok fl =>
    cases fl with
    | ret u => obtain ⟨_, _, _, _, _, _, _, z⟩ := hr; exact z.elim
    | next => exact hr.elim
    | brk => exact hr.elim
    | cont => exact hr.elim
  | error e =>
    obtain ⟨O, ea, cls, H', rfl, os, bare, un, hok, hO, ht, F, rfl, gd⟩ := hr
    have I' : Inv X [] σ H' s' := I1.pb (ch := []) os un hok bare (fun b z => nomatch z)
    have fr : X.A.frames = some (X.env :: X.outer) := by rw [← hF.stk]; exact I0.ok.frames
    have hO0 : ∀ b o, X.s₀.heap.get? b = some o → O b := fun b o e => by
      obtain ⟨o', e'⟩ := I1.base.there b o e (by rw [hF.ex]; exact fun z => nomatch z)
      exact hO b o' e'
    have hpp : ∀ p ∈ X.pn ++ ([] : List (Addr × Obj)), O p.1 := fun p hp => by rw [hpn] at hp; exact nomatch hp
    have hLO : O X.env.locals := by
      obtain ⟨m, ⟨o, es, ep, e, _⟩, _⟩ := I1.loc
      exact hO _ o e
    refine sQ (s := s') fr (oO hF I') hF.fr F fun h2 k2 F2 => ?_
    have I2 := vf hF I' k2 hO0 ht hpp
    refine iJ (s := { s' with heap := h2 }) (fs := frs (X.env :: X.outer)) F2 fun h3 k3 F3 => ?_
    have I3 := vf hF I2 k3 hO0 ht hpp
    have keyE : ∀ {h : Heap} {fl : Value}, Fly O h ea (.ref C) fl → ∀ {s4 : Shared}, s4.heap = h → Inv X [] σ H' s4 → ∃ oe, oe.cls = .ref C ∧ s4.heap.get? ea = some oe ∧ H' ea = none ∧ Inv (cxH X ea oe) [] σ H' s4 := fun {h fl} G {s4} e4 I4 => by
      obtain ⟨_, oe, vs, T, oT, ts, g1, g2, g3, g4, g5, g6, _⟩ := G
      have hH : H' ea = none := by
        cases z : H' ea with
        | none => rfl
        | some o => exact absurd (ht ea (by rw [z]; exact fun y => nomatch y)) g6
      refine ⟨oe, g2, by rw [e4]; exact g1, hH, Hx I4 (by rw [e4]; exact g1) hH (fun z => g6 (by rw [z]; exact hLO)) (fun z => ?_) g3 g5⟩
      exact tT I4 ea z oe (by rw [e4]; exact g1) vs g3
    obtain ⟨oe3, c3, g3, n3, H3⟩ := keyE F3 rfl I3
    refine wpAny_handleBy_cons (codeAny_handlers_test (ll (X := cxH X ea oe3) H3 hg hm ?_ hxb)) (by intro z; cases z)
    refine (PySem.W.exm_one (M := model X.prog X.w) (K := X.K) (h := h3) I3.kIn (fun A' Q' E' s4 kk q => ?_) hex).here ?_
    · have e3 := kk _ _ g3
      unfold typeOf
      refine wpAny_bind (wpAny_loadPart e3 ?_)
      rw [c3]
      exact wpAny_pure q
    · refine codeAny_handlers_suite_as (iJ (s := { s' with heap := h3 }) (fs := frs (X.env :: X.outer)) F3 fun h4 k4 F4 => ?_)
      have I4 := vf hF I3 k4 hO0 ht hpp
      obtain ⟨oe, c4, g4, n4, H4⟩ := keyE F4 rfl I4
      refine eR (X := cxH X ea oe) (v := .ref ea) H4 hNd hn (Or.inl hl) rfl (fun s5 I5 => ?_) (Or.inr hl)
      refine wpAny_mono (hs ea oe [] s5 _ H' { nx := fun _ _ => False, rt := D.rt } I5 (good H' ea oe gd c4 n4)) (fun f s6 h6 => ?_) fun e s6 z => z.elim
      cases f with
      | next => obtain ⟨_, _, _, z⟩ := h6; exact z.elim
      | brk => obtain ⟨_, _, _, z⟩ := h6; exact z.elim
      | cont => obtain ⟨_, _, _, z⟩ := h6; exact z.elim
      | ret u =>
        obtain ⟨v, σ', H6, I6, r6, q6⟩ := h6
        obtain ⟨m6, hn6, _⟩ := I6.loc
        refine wpAny_nameGoes (env := X.env) hl hn6 (by rw [I0.ok.kind]; rfl) fun h7 m7 hn7 hs7 => ?_
        exact ⟨v, _, H6, Cd I0.ok I6 hn7 hs7 hF.ex, r6, q6⟩
end
open PySem PySem.Spec PyProof.Rows
theorem HC {CX : CXT} {P : Program} {w : World} {K : PySem.W.Frag} {mg : Str → Option Value} {base : Heap} {k : Nat} {f : Addr} {name qual : Str} {params : Arguments} {body : List Stmt} {scope : Scope} {dV kV doc pm cdv ct oc : Value} {an od : Option Addr} {osl : Array (Option Value)} {N ps : List Str}
    {A : Around} {outer : List Env} {s : Shared} {H : Hp} {args : Args} {us : List Value} {vs : List V} {Q : VK} {E : XK} (lk : K.lookup f = some ⟨oc, od, .func (PySem.W.fnOf name qual params body scope dV kV doc pm an cdv ct), osl⟩) (hcd : PySem.W.codeIn K cdv qual = true) (S : aN N ps scope)
    (hl : vs.length = ps.length) (hr : dO (k + 1) A) (e0 : wV P w K mg base A outer s H) (hb : BindsTo s (PySem.W.fnOf name qual params body scope dV kV doc pm an cdv ct) args (ps.zip us)) (r : Vals vs us)
    (hq : ∀ s1, Inv (i7 CX P w K mg base N qual scope f cdv A outer s H E) [] (start N vs) H s1 → wpAny (model P w) (A.deeper (envOfC qual scope s.heap.objs.size f cdv)) (execs body (envOfC qual scope s.heap.objs.size f cdv)) (SP (i7 CX P w K mg base N qual scope f cdv A outer s H E) [] { nx := fun _ H' => Q .non H', rt := Q }) (i7 CX P w K mg base N qual scope f cdv A outer s H E).xe s1) :
    codeAny (model P w) A (.call (.ref f) args) (CR CX outer P w H s Q E) s := by
  have KX : K.In s.heap := e0.mod.kin.keeps fun b o e => (e0.bs b o e).1
  have lim : s.heap.NoLimit := e0.mod.nolimit.keeps fun b o e => (e0.bs b o e).1
  have hkind : ∀ y ∈ ps.zip us, scope.names.lookup y.1 = some .local ∨ (scope.names.lookup y.1 = some .cell ∧ ((cellsFrom (s.heap.objs.size + 1) scope.names []).lookup y.1).isSome = true) := fun ⟨n, v⟩ hy => by
    rcases S.par n (List.of_mem_zip hy).1 with q | q
    · exact .inl q
    · exact .inr ⟨q, PySem.W.cellsFrom_some _ _ _ (.inl q)⟩
  refine codeAny_call_function hr.depth (KX _ _ lk) rfl S.co S.gen rfl (PySem.W.codeRec_of KX hcd) (hb _ _ _ _ ?_)
  refine wpAny_newFunctionEnv_cells S.kind hkind fun env he s1 x => ?_
  subst he
  refine ⟨lim.keeps x.toInCall.keep, codeAny_func ?_⟩
  have I : Inv (i7 CX P w K mg base N qual scope f cdv A outer s H E) [] (start N vs) H s1 := sO S hr.hd e0 hl r x
  refine wpAny_mono (hq s1 I) (fun fl s' hs => ?_) fun e s' hs => hs
  have fin : ∀ {σ' : St} {H' : Hp} {v : V} {u : Value}, Inv (i7 CX P w K mg base N qual scope f cdv A outer s H E) [] σ' H' s' → RelV v u → Q v H' → CE outer P w H s Q u s' :=
    fun {σ' H' v u} J rv q => ⟨v, H', J.os, J.bare, J.base, J.hok, rv, q⟩
  cases fl with
  | ret u => obtain ⟨v, σ', H', J, rv, q⟩ := hs; exact fin J rv q
  | next => obtain ⟨σ', H', J, q⟩ := hs; exact fin (v := V.non) (u := Value.none) J rfl q
  | brk => obtain ⟨_, _, _, q⟩ := hs; exact False.elim q
  | cont => obtain ⟨_, _, _, q⟩ := hs; exact False.elim q
structure tN (P : Program) (w : World) (K : PySem.W.Frag) (mg : Str → Option Value) (base : Heap) (k : Nat) (f : Addr) (fd : FuncData) (dn : Str) (C : Value) (nm : Str) : Prop where
  run : ∀ (A : Around) (outer : List Env) (s : Shared) (H : Hp) (fa : Addr) (Good : Hp → Prop) (Q : VK), dO (k + 1) A → wV P w K mg base A outer s H → BindsTo s fd ⟨[.ref fa], []⟩ ([dn].zip [.ref fa]) →
    (∀ (A' : Around) (outer' : List Env) (s' : Shared), dO k A' → wV P w K mg base A' outer' s' H → Un (frs outer) [] H H s.heap s'.heap → PySem.W.FnAt fa s'.heap ∧ codeAny (model P w) A' (.call (.ref fa) ⟨[], []⟩) (CR (CX1 P w) outer' P w H s' (fun _ _ => False) (fun cls _ H' => cls = C ∧ Good H')) s') →
    (∀ H', Good H' → ∃ μ, aZ K μ H' ∧ ∀ H'', Ext K μ H' μ H'' → aZ K μ H'' → Q (.str nm) H'') →
    codeAny (model P w) A (.call (.ref f) ⟨[.ref fa], []⟩) (CR CX0 outer P w H s Q E0) s
theorem CH {P : Program} {w : World} {K : PySem.W.Frag} {mg : Str → Option Value} {base : Heap} {k : Nat} {f : Addr} {fd : FuncData} {fx qual : Str} {st : Stmt} {dn n y1 y2 x : Str} {dp cp ep np hp pos : Pos} {b₀ : Stmt} {suite rest : List Stmt} {C FE : Addr} {nm : Str} {td : Addr → DTS}
    (F : Fun K fx qual st f fd) (S : aN [dn, n, y1, y2] [dn] (ay st))
    (hbody : dU st = .Try [.Expr (.Call (.Name dn dp) [] [] cp) ep] [.ExceptHandler (some (.Name x np)) (some n) (b₀ :: suite) hp] [] [] pos :: rest)
    (hv : (ay st).names.lookup dn = some .local) (hl : (ay st).names.lookup n = some .local) (hg : (ay st).names.lookup x = some .globalImplicit) (hm : mg x = some (.ref FE)) (hex : PySem.W.exmOne K (.ref C) (.ref FE) = some true)
    (hdb : (dn == ("__debug__" : Str)) = false) (hdc : (dn == ("__classdict__" : Str)) = false) (hxb : (x == ("__debug__" : Str)) = false)
    (hsw : ∀ env : Env, swapsWith (.Call (.Name dn dp) [] [] cp) none ep.line env = pure false)
    (hs : ∀ (cdv : Value) (A : Around) (outer : List Env) (s : Shared) (H : Hp) (ea : Addr) (oe : Obj), oe.cls = .ref C → dO k (i7 CX0 P w K mg base [dn, n, y1, y2] qual (ay st) f cdv A outer s H E0).A → DSs (cxH (i7 CX0 P w K mg base [dn, n, y1, y2] qual (ay st) f cdv A outer s H E0) ea oe) (b₀ :: suite) (td ea))
    (hrd : ∀ (ea fa : Addr) (μ : Mu) (Qd : DK), Qd (.v (.str nm)) μ → td ea { nx := fun _ _ => False, rt := Qd } [some (.o fa), some (.o ea), none, none] μ) : tN P w K mg base (k + 1) f fd dn (.ref C) nm where
  run := fun A outer s H fa Good Q hr e0 hb deed fin => by
    obtain ⟨oc, od, kV, doc, pm, an, cdv, ct, osl, rfl, lk, hcd⟩ := F.ex
    refine HC (k := k + 1) (vs := [.ref fa]) (us := [.ref fa]) lk hcd S rfl hr e0 hb (.cons rfl .nil) fun s1 I => ?_
    show wpAny _ _ (execs (dU st) _) _ _ _
    rw [hbody]
    have hX : ∀ ea oe, PSs (cxH (i7 CX0 P w K mg base [dn, n, y1, y2] qual (ay st) f cdv A outer s H E0) ea oe) (b₀ :: suite) (fun D σ' H' => oe.cls = .ref C ∧ H' ea = none ∧ σ' = (start [dn, n, y1, y2] [V.ref fa]).set 1 (some (.ref ea)) ∧ ∃ μ, aZ K μ H' ∧ ∀ H'', Ext K μ H' μ H'' → aZ K μ H'' → D.rt (.str nm) H'') := fun ea oe pins' s' σ' H' D I' h => by
      obtain ⟨hc, hH, rfl, μ, ok, q⟩ := h
      obtain ⟨t, p, l⟩ := hs cdv A outer s H ea oe hc ((hr.deeper _).mono (Nat.le_succ _))
      refine p pins' s' _ H' D I' (l _ H' [some (.o fa), some (.o ea), none, none] μ { nx := fun _ _ => False, rt := fun d μ' => d = .v (.str nm) ∧ μ' = μ } D ⟨ok, rfl, fun i d e => ?_⟩ (hrd ea fa μ _ ⟨rfl, rfl⟩) (fun _ _ _ _ _ _ z => z.elim) (fun d u μ' H'' e' ok' r ⟨z1, z2⟩ => ?_) (fun _ _ _ _ _ _ z => z.elim) (fun _ _ _ _ _ _ z => z.elim))
      · match i, e with
        | 0, e => cases e; exact ⟨.ref fa, rfl, rfl⟩
        | 1, e => cases e; exact ⟨.ref ea, rfl, rfl⟩
        | 2, e => cases e
        | 3, e => cases e
      · subst z1 z2
        cases r
        exact q H'' e' ok'
    refine wpAny_execs_cons (wpAny_mono (Fs (X := i7 CX0 P w K mg base [dn, n, y1, y2] qual (ay st) f cdv A outer s H E0) (C := C) (FE := FE) (di := 0) (ni := 1) ⟨rfl, rfl, rfl⟩ rfl S.nd rfl (Or.inl hv) rfl hl hg hm hex hX hdb hdc hxb (hsw _) [] s1 _ H { nx := fun _ _ => False, rt := Q } rfl I
      ⟨fa, Good, rfl, fun s2 I2 => deed _ _ s2 (hr.deeper _) I2.D1 I2.base, fun H' ea oe gd c hn => ⟨c, hn, rfl, fin H' gd⟩⟩) (fun fl s' hs' => ?_) fun _ _ z => z)
    cases fl with
    | ret u => exact hs'
    | next => obtain ⟨_, _, _, z⟩ := hs'; exact z.elim
    | brk => obtain ⟨_, _, _, z⟩ := hs'; exact z.elim
    | cont => obtain ⟨_, _, _, z⟩ := hs'; exact z.elim
open PySem PySem.Spec PyProof.Rows
section
variable {X : Cx} {e : Expr} {te : DTE} {p py pos : Pos} {y : Str} {C : Addr} {b : Bool} {ea : Addr} {oe : Obj}
def dF (ea : Addr) (b : Bool) (te : DTE) : DTE := fun ρ μ Q => te ρ μ fun x μ1 => match x with
  | .o a => a = ea ∧ Q (.v (.bool b)) μ1
  | _ => False
theorem wZ {cv : V} {w : Value} (Z : pK X.K C) (hp : (ea, oe) ∈ X.pn) (hc : oe.cls = .ref C) (r : RelV cv w) (hw : ∀ u, RelV cv u → u = w) (ek : PySem.W.kitOne X.K (.ref C) w = some b) : eV X (.builtin "isinstance") (fun xs H Q => xs = [.ref ea, cv] ∧ Q (.bl b) H) := by
  intro pins s σ H xs us Q I rr h
  obtain ⟨rfl, q⟩ := h
  obtain ⟨v, w', rfl, r1, r2⟩ := vals2 rr
  cases r1
  obtain rfl := hw w' r2
  exact PySem.W.kia_one (BH Z) I.kIn ⟨oe, (I.pin (ea, oe) (List.mem_append_left _ hp)).1, hc⟩ ek (fun z => nomatch z) fun tk => ⟨.bl b, H, I.tok _, rfl, q⟩
theorem bF {C' : Addr} (Z : pK X.K C) (hp : (ea, oe) ∈ X.pn) (hc : oe.cls = .ref C) (ek : PySem.W.kitOne X.K (.ref C) (.ref C') = some b) (hg : Gl X "isinstance") (hm : X.mg "isinstance" = none) (hgy : Gl X y) (hmy : X.mg y = some (.ref C')) (ha : DE X e te) (hdy : (y == ("__debug__" : Str)) = false := by decide)
    (he : starEach [e, .Name y py] X.env = (false, eval e X.env) :: starEach [.Name y py] X.env := by rfl) (he2 : starEach [.Name y py] X.env = [(false, eval (.Name y py) X.env)] := by rfl) (hpl : (backTo pos (starEach [.Name y py] X.env)).any (·.1) = false := by rfl) : DE X (.Call (.Name "isinstance" p) [e, .Name y py] [] pos) (dF ea b te) := by
  obtain ⟨t1, p1, l1⟩ := ha
  refine ⟨_, ng (wZ (cv := .ref C') Z hp hc rfl (fun u h => h) ek) hg hm PyProof.Rows.Boot.«isinstance» (fb p1 (fb (yX (v := .ref C') hgy hmy rfl hdy) kL he2) he) (by decide) (by decide) he hpl, fun σ H ρ μ Qd Q S h k => ?_⟩
  refine l1 σ H ρ μ _ _ S h fun x ux μ1 H1 e1 S1 rx h1 => ?_
  split at h1
  · obtain ⟨rfl, h1⟩ := h1
    obtain rfl : ux = .ref _ := rx
    exact ⟨rfl, k (.v _) _ μ1 H1 e1 S1 (Rp.bool _) h1⟩
  · exact h1.elim
theorem yE {T : String} (Z : pK X.K C) (hp : (ea, oe) ∈ X.pn) (hc : oe.cls = .ref C) (ek : PySem.W.kitOne X.K (.ref C) (.type T) = some b) (hg : Gl X "isinstance") (hm : X.mg "isinstance" = none) (hgy : Gl X y) (hmy : X.mg y = none) (hvy : bootBuiltins y = some (.type T)) (ha : DE X e te) (hny : y ≠ "__name__" := by decide) (hdy : (y == ("__debug__" : Str)) = false := by decide)
    (he : starEach [e, .Name y py] X.env = (false, eval e X.env) :: starEach [.Name y py] X.env := by rfl) (he2 : starEach [.Name y py] X.env = [(false, eval (.Name y py) X.env)] := by rfl) (hpl : (backTo pos (starEach [.Name y py] X.env)).any (·.1) = false := by rfl) : DE X (.Call (.Name "isinstance" p) [e, .Name y py] [] pos) (dF ea b te) := by
  obtain ⟨t1, p1, l1⟩ := ha
  refine ⟨_, ng (wZ (cv := .ty T) Z hp hc rfl (fun u h => h) ek) hg hm PyProof.Rows.Boot.«isinstance» (fb p1 (fb (zy (v := .ty T) hgy hmy hvy rfl hny hdy) kL he2) he) (by decide) (by decide) he hpl, fun σ H ρ μ Qd Q S h k => ?_⟩
  refine l1 σ H ρ μ _ _ S h fun x ux μ1 H1 e1 S1 rx h1 => ?_
  split at h1
  · obtain ⟨rfl, h1⟩ := h1
    obtain rfl : ux = .ref _ := rx
    exact ⟨rfl, k (.v _) _ μ1 H1 e1 S1 (Rp.bool _) h1⟩
  · exact h1.elim
end
structure Fw (K : PySem.W.Frag) (mg : Str → Option Value) (c P : Addr) (q : Str) : Prop where
  obj : ∃ o, K.lookup c = some o ∧ bc o = some (P, q)
  one : ∀ c2 o2 q2, K.lookup c2 = some o2 → bc o2 = some (P, q2) → q2 = q
  blt : Eo K mg
def pV (cap : List (Option Nat)) (tx : DTX) (nm : Str) : DTE := fun ρ μ Qd => tx (aO cap ρ) μ fun μ' => Qd (.v (.str nm)) μ'
theorem zT {X : Cx} {k : Nat} {f c P : Addr} {fd : FuncData} {dn rn q nm : Str} {C : Value} {params : Arguments} {body : Expr} {lsc : Scope} {lpos p pos : Pos} {cl : List (Str × Addr)} {N' : List Str} {cap : List (Option Nat)} {tx : DTX}
    (R : tN X.prog X.w X.K X.mg X.base k f fd dn C nm) (hr : dO (k + 1) X.A) (hg : Gl X rn) (hm : X.mg rn = some (.ref f)) (hk : PySem.W.keepIn X.K (.ref f) = true) (hb : Binds X.K fd [dn] []) (L : Fw X.K X.mg c P q) (hcode : X.env.code = .ref c) (hq : X.env.qual = q ++ ".<locals>.")
    (hk0 : 0 < k) (he : ∀ (A' : Around) (outer' : List Env) (s' : Shared) (H' : Hp) (fa c1 : Addr) (E : XK), dO (k - 1) (j3 X.prog X.w X.K X.mg X.base N' lsc cl (aM q) fa c1 A' outer' s' H' E).A → XE (j3 X.prog X.w X.K X.mg X.base N' lsc cl (aM q) fa c1 A' outer' s' H' E) E C body tx)
    (hdef : defaultsOf params X.env = ([], [])) (hclos : closureFor lsc X.env = pure cl) (hbind : ∀ (pm ctv : Value) (c1 : Addr), bindArgs (PySem.W.kla_fn "<lambda>" (aM q) params body lsc cl pm (.ref c1) ctv) ⟨[], []⟩ = pure [])
    (hkind : lsc.kind = .function) (hco : lsc.isCoroutine = false) (hgen : lsc.isGenerator = false) (hcell : ∀ y ∈ lsc.names, y.2 ≠ .cell) (hcl : ∀ x a, cl.lookup x = some a → X.env.cells.lookup x = some a) (hhas : ∀ x, lsc.names.lookup x = some .cell ∨ lsc.names.lookup x = some .free → ∃ a, cl.lookup x = some a)
    (hlen : cap.length = N'.length) (hcap : ∀ (i j : Nat) (x : Str), cap[i]? = some (some j) → N'[i]? = some x → X.N[j]? = some x ∧ Vis X.env.scope x ∧ X.env.kindOf x ≠ some .local ∧ lsc.names.lookup x = some .free)
    (hdb : (rn == ("__debug__" : Str)) = false := by decide) (hst : starEach [.Lambda params body lsc lpos] X.env = [(false, eval (.Lambda params body lsc lpos) X.env)] := by rfl) :
    DE X (.Call (.Name rn p) [.Lambda params body lsc lpos] [] pos) (pV cap tx nm) := by
  refine qK fun pins s σ H ρ μ Qd Q I S h kk => ?_
  obtain ⟨o, hl, hlc⟩ := L.obj
  refine wpAny_Call_Name_kw (ll I hg hm ?_ hdb)
  refine PySem.W.callWith_K (h₀ := X.base) I.ok.mod.kin hk (spliced_more (Gf I S.mu hcode hl hlc L.one hq L.blt hclos hdef fun fa c1 ctv pm H1 s1 I1 ex mu ho hfa hfr hc1 => spliced_none ⟨I1.kIn, ?_⟩) (by rw [hst]; rfl)) (by rw [hst]; rfl) rfl
  have S1 : St0 X.K H1 ρ μ σ := ⟨mu, S.rho.ext S.mu ex⟩
  refine wpAny_call (codeAny_mono (R.run X.A X.stack s1 H1 fa (fun H' => ∃ μ', Ext X.K μ H1 μ' H' ∧ aZ X.K μ' H' ∧ Qd (.v (.str nm)) μ') Q hr I1.D1 (hb s1 [.ref fa] I1.kIn rfl) (fun A' outer' s' hr' e0' un => ?_) fun H' ⟨μ', e', ok', q'⟩ => ?_) fun r s' hq' => ?_)
  · have ho' := un.keep fa _ ho hfa hfr (fun z => nomatch z)
    refine ⟨⟨_, _, _, _, ho'⟩, ?_⟩
    obtain ⟨k', rfl⟩ : ∃ k', k = k' + 1 := ⟨k - 1, by omega⟩
    obtain ⟨t, pe, l⟩ := he A' outer' s' H1 fa c1 (fun cls _ H' => cls = C ∧ ∃ μ', Ext X.K μ H1 μ' H' ∧ aZ X.K μ' H' ∧ Qd (.v (.str nm)) μ') (hr'.deeper _)
    have cellK : ∀ x cc v, X.env.cells.lookup x = some cc → s1.heap.IsCell cc v → s'.heap.IsCell cc v := fun x cc v hx ⟨oc, ec, dc⟩ => by
      obtain ⟨sl, e2⟩ := un.any ec (I1.dJ x cc hx) (fun z => nomatch z)
      exact ⟨_, e2, dc⟩
    refine wg (σ := aO cap σ) (N := N') hkind hco hgen hcell hr' e0' ho' hc1 (hbind pm ctv c1) ⟨fun x cc hx => ?_, fun x cc hx => I1.dJ x cc (hcl x cc hx), fun x y cc h1 h2 => I1.ok.inj x y cc (hcl x cc h1) (hcl y cc h2), hhas, fun i x v h1 h2 h3 => ?_, ?_⟩ pe (l _ H1 (aO cap ρ) μ (fun μ' => Qd (.v (.str nm)) μ') _ ⟨mu, S1.rho.cap⟩ h fun μ' H' e' ok' q' => ⟨rfl, μ', e', ok', q'⟩)
    · obtain ⟨v, hv⟩ := I1.cell x cc (hcl x cc hx)
      exact ⟨v, cellK x cc v (hcl x cc hx) hv⟩
    · obtain ⟨j, j1, j2⟩ := gz h2
      obtain ⟨hN, hv, hnl, hfree⟩ := hcap i j x j1 h1
      obtain ⟨m, _, hll⟩ := I1.loc
      obtain ⟨u, ru, lk⟩ := hll j x v hN j2 hv
      obtain ⟨a, ha⟩ := hhas x (.inr hfree)
      rcases lk with ⟨z, _⟩ | ⟨_, a', z1, z2⟩
      · exact absurd z hnl
      · obtain rfl : a' = a := by have qq := hcl x a ha; rw [z1] at qq; exact Option.some.inj qq
        exact ⟨u, a', ru, hfree, ha, cellK x a' _ z1 z2⟩
    · unfold aO; rw [List.length_map]; exact hlen
  · exact ⟨μ', ok', fun H'' e'' ok'' => kk (.v (.str nm)) (.str nm) μ' H'' (ex.trans (e'.trans e'')) ⟨ok'', S1.rho.ext mu (e'.trans e'')⟩ (Rp.str nm) q'⟩
  · cases r with
    | error e => exact hq'.elim
    | ok fl =>
      cases fl with
      | ret u => exact I1.after hq'
      | next => exact hq'.elim
      | brk => exact hq'.elim
      | cont => exact hq'.elim
end L2.DL
set_option Elab.async false
set_option linter.all false
set_option maxRecDepth 100000
set_option maxHeartbeats 4000000
namespace L2
open PySem PySem.Spec PyProof.Rows DL
def Hr (tabs : List Addr) (H : Hp) : Prop := ∀ b, H b = none ∨ (∃ o xs, H b = some (.frz o (.lst xs))) ∨ (b ∈ tabs ∧ H b = some (.tbl #[]))
theorem AL {P : Program} {w : World} {K : PySem.W.Frag} {mg mb : Str → Option Value} {CX : CXT} {k : Nat} {fa a : Addr} {fd : FuncData} {x : Str} {sp : Sp} {s₁ : Shared} {vs : List Value} {ns : List Int} (tabs : List Addr)
    (hT : ∀ p ∈ tabs, s₁.heap.get? p = some (PySem.W.tabObj #[]) ∧ K.lookup p = none) (hA2 : ∀ c o p q, K.lookup c = some o → bc o = some (p, q) → p ∈ tabs) (hC : ∀ p ∈ tabs, isCodeTable s₁.heap p)
    (KX : K.In s₁.heap) (hns : s₁.heap.Ns mainGlobals mg) (hb : s₁.heap.Ns builtinsNs mb) (hbb : ∀ x : Str, x ≠ "__name__" → mb x = bootBuiltins x) (hlim : s₁.heap.NoLimit) (hg : s₁.gens = #[])
    (ha : s₁.heap.get? a = some { cls := .type "list", data := .seq vs.toArray }) (hi : IntsAre vs ns) (hl : ns.length ≤ sizeLine) (hr : dO k callerA)
    (F : ∀ base : Heap, K.In base → base.Ns mainGlobals mg → bU P w K mg base CX k fa fd [x] sp) (hbind : ∀ (s : Shared) (u : Value), BindsTo s fd ⟨[u], []⟩ [(x, u)])
    (hsp : ∀ H : Hp, rV K H → SqL K H a (ns.map V.int) → sp [.ref a] H (fun v _ => v = .bl true) fun _ _ _ => False)
    (hCX : ∀ H e s', CX [] H s₁ (fun _ _ _ => False) e s' → False) :
    codeAny (model P w) callerA (.call (.ref fa) ⟨[.ref a], []⟩) (fun r s' => r = .ok (.ret (.bool true)) ∧ OldK s₁.heap s'.heap ∧ s'.os = s₁.os ∧ AllBare s'.gens) s₁ := by
  have rv := tK hi
  have lenV := hi.length
  have ant : a ∉ tabs := fun z => by have := (hT a z).1; rw [ha] at this; cases this
  have core : ∀ H : Hp, Hr tabs H → SqL K H a (ns.map V.int) → HOk P w H s₁.heap → (∀ b, H b ≠ none → b = a ∨ b ∈ tabs) → (H a ≠ none → K.lookup a = none) → (∀ p ∈ tabs, H p = some (.tbl #[])) →
      codeAny (model P w) callerA (.call (.ref fa) ⟨[.ref a], []⟩) (fun r s' => r = .ok (.ret (.bool true)) ∧ OldK s₁.heap s'.heap ∧ s'.os = s₁.os ∧ AllBare s'.gens) s₁ := by
    intro H hO hS hok hA hK hP
    have base_of : ∀ {b : Addr} {o : Obj}, s₁.heap.get? b = some o → H b = none → (vw s₁.heap H).get? b = some o := fun e n => Cf e n
    have noA : ∀ {b : Addr} {o : Obj} {es : Array DictEntry} {ep : Nat}, s₁.heap.get? b = some o → o.data = .dict es ep → H b = none := fun {b o es ep} e d => by
      cases q : H b with
      | none => rfl
      | some u =>
        rcases hA b (by rw [q]; simp) with e' | e'
        · subst e'
          rw [ha] at e; cases e
          have d' : Data.seq vs.toArray _ = Data.dict es ep := d
          cases d'
        · rw [(hT b e').1] at e; cases e
          have d' : Data.fields #[] = Data.dict es ep := d
          cases d'
    have nsK : ∀ {b : Addr} {m : Str → Option Value}, s₁.heap.Ns b m → (vw s₁.heap H).Ns b m := fun {b m} ⟨o, es, ep, e, d, r⟩ => ⟨o, es, ep, base_of e (noA e d), d, r⟩
    have hKb : K.In (vw s₁.heap H) := fun b o e => base_of (KX b o e) (by
      cases q : H b with
      | none => rfl
      | some u =>
        rcases hA b (by rw [q]; simp) with e' | e'
        · subst e'
          rw [hK (by rw [q]; simp)] at e; cases e
        · have e2 := e; rw [show K.lookup b = none from (hT b e').2] at e2; cases e2)
    have hM : Mod K mg (vw s₁.heap H) := ⟨hKb, nsK hns, ⟨mb, nsK hb, hbb⟩, let ⟨mc, h1, h2⟩ := hlim; ⟨mc, nsK h1, h2⟩⟩
    have e0 : wV P w K mg (vw s₁.heap H) callerA [] s₁ H := ⟨rfl, hM, fun b o e => D5 e, Nat.le_of_eq (AM _ _), trivial, fun b hb => absurd (show b ∈ ([] : List Addr) from hb) (by simp), hok, .of_eq hg⟩
    have tb : rV K H := fun c o p q h1 h2 => ⟨#[], hP p (hA2 c o p q h1 h2), trivial, fun pos cv e => by simp [codeAmong] at e⟩
    refine codeAny_mono ((F _ hKb (nsK hns)).run callerA [] s₁ H ⟨[.ref a], []⟩ [.ref a] [.ref a] _ _ hr e0 (hbind s₁ (.ref a)) (.cons rfl .nil) (hsp H tb hS)) fun r s' h => ?_
    cases r with
    | error e => exact (hCX H e s' h).elim
    | ok fl =>
      cases fl with
      | next => exact False.elim h
      | brk => exact False.elim h
      | cont => exact False.elim h
      | ret u =>
        obtain ⟨v, H', os, bare, un, hok', r', q⟩ := h
        have q' : v = .bl true := q
        subst q'
        obtain rfl : u = Value.bool true := r'
        refine ⟨rfl, ⟨fun b o e => ?_, fun b o e => un.there b o e (by simp)⟩, os, bare⟩
        cases q : H b with
        | none => exact .inl (un.keep b o e q (by intro z; exact absurd (show b ∈ ([] : List Addr) from z) (by simp)) (by simp))
        | some u =>
          rcases hO b with z | ⟨ob, xs, z⟩ | ⟨zt, z⟩
          · rw [q] at z; cases z
          · have z2 := un.lC b ob _ z
            obtain ⟨e1, _⟩ := hok b _ z
            obtain ⟨e2, _⟩ := hok' b _ z2
            rw [e] at e1; cases e1
            exact .inl e2
          · obtain ⟨more, z2⟩ := un.lG b _ z
            have e2 : s'.heap.get? b = some { cls := .none, data := .fields (#[] ++ more) } := hok' b _ z2
            have e1 := (hT b zt).1
            rw [e] at e1; cases e1
            exact .inr (.inl ⟨hC b zt, rfl, #[], more, rfl, e2⟩)
  have okT : ∀ p ∈ tabs, s₁.heap.get? p = some { cls := .none, data := .fields #[] } := fun p hp => (hT p hp).1
  cases hk : K.lookup a with
  | some o =>
    have e := KX a o hk
    rw [ha] at e
    cases e
    refine core (fun b => if b ∈ tabs then some (.tbl #[]) else none) (fun b => ?_) (.inr ⟨_, vs.toArray, _, hk, rfl, rfl, rfl, by rw [List.size_toArray, lenV]; exact hl, by simpa using rv⟩) (fun b u z => ?_) (fun b z => ?_) (fun z => absurd (if_neg ant) z) (fun p hp => if_pos hp)
    · by_cases hb : b ∈ tabs
      · exact .inr (.inr ⟨hb, if_pos hb⟩)
      · exact .inl (if_neg hb)
    · by_cases hb : b ∈ tabs
      · have z' := (if_pos hb).symm.trans z; cases z'; exact okT b hb
      · have z' := (if_neg hb).symm.trans z; cases z'
    · by_cases hb : b ∈ tabs
      · exact .inr hb
      · exact absurd (if_neg hb) z
  | none =>
    refine core (fun b => if b = a then some (.frz { cls := .type "list", data := .seq vs.toArray } (.lst (ns.map V.int))) else if b ∈ tabs then some (.tbl #[]) else none) (fun b => ?_) (.inl (.inr ⟨{ cls := .type "list", data := .seq vs.toArray }, if_pos rfl⟩)) (fun b u z => ?_) (fun b z => ?_) (fun _ => hk) (fun p hp => by
      have : p ≠ a := fun y => ant (by rw [← y]; exact hp)
      exact (if_neg this).trans (if_pos hp))
    · by_cases hb : b = a
      · exact .inr (.inl ⟨_, _, if_pos hb⟩)
      · by_cases hb2 : b ∈ tabs
        · exact .inr (.inr ⟨hb2, (if_neg hb).trans (if_pos hb2)⟩)
        · exact .inl ((if_neg hb).trans (if_neg hb2))
    · by_cases hb : b = a
      · have z' := (if_pos hb).symm.trans z
        cases z'
        subst hb
        exact ⟨ha, by rw [List.length_map]; exact hl, vs, _, rv, ha⟩
      · by_cases hb2 : b ∈ tabs
        · have z' := ((if_neg hb).trans (if_pos hb2)).symm.trans z; cases z'; exact okT b hb2
        · have z' := ((if_neg hb).trans (if_neg hb2)).symm.trans z; cases z'
    · by_cases hb : b = a
      · exact .inl hb
      · by_cases hb2 : b ∈ tabs
        · exact .inr hb2
        · exact absurd ((if_neg hb).trans (if_neg hb2)) z
theorem A0 {l : PySem.W.OpenLaw} {n k : Nat} {q : Program} {loose : List Str} {XP : (Str → Option Value) → Heap → Prop} {YP : World → Heap → Prop} {d : DefRec} {K : Params → PySem.W.Frag} {CX : World → CXT} {sp : World → Sp} {x : Str} (tabs : List Addr)
    (hn : l.most = some n) (hn2 : n ≤ sizeLine) (hdf : d.params.defaults = []) (hr : dO k callerA)
    (hY : ∀ (w : World) (h : Heap), YP w h → (K w.params).In h ∧ (∀ p ∈ tabs, h.get? p = some (PySem.W.tabObj #[]) ∧ (K w.params).lookup p = none) ∧ (∀ p ∈ tabs, isCodeTable h p))
    (hA2 : ∀ (w : World) c o p q, (K w.params).lookup c = some o → bc o = some (p, q) → p ∈ tabs)
    (F : ∀ (w : World) (mg : Str → Option Value) (fa : Addr) (h : Heap), (K w.params).In h → h.Ns mainGlobals mg → mg d.name = some (.ref fa) →
      ∃ fd : FuncData, (∀ (s : Shared) (u : Value), BindsTo s fd ⟨[u], []⟩ [(x, u)]) ∧
        ∀ base : Heap, (K w.params).In base → base.Ns mainGlobals mg → bU l.prog w (K w.params) mg base (CX w) k fa fd [x] (sp w))
    (hsp : ∀ (w : World) (H : Hp) (a : Addr) (ns : List Int), ns.length ≤ n → rV (K w.params) H → SqL (K w.params) H a (ns.map V.int) → sp w [.ref a] H (fun v _ => v = .bl true) fun _ _ _ => False)
    (hCX : ∀ (w : World) (H : Hp) (s : Shared) (e : Value) (s' : Shared), CX w [] H s (fun _ _ _ => False) e s' → False) :
    PySem.W.WalkO q loose XP YP l.row.toRowW d [] (fun f vs => PySem.call f vs) := by
  refine Att.wc hn hdf fun w s₀ s₁ mg mb fa o pm cd doc a vs ns G Y ho hd hcd hmg hobj hints hlen hg => ?_
  obtain ⟨KX, hT, hC⟩ := hY w _ Y
  obtain ⟨fd, hb, hF⟩ := F w mg fa _ KX G.T.g hmg
  exact AL tabs hT (hA2 w) hC KX G.T.g G.T.b G.T.builtins G.T.nolimit hg hobj hints (Nat.le_trans hlen hn2) hr hF hb (fun H hO hS => hsp w H a ns hlen hO hS) fun H e s' => hCX w H s₁ e s'
end L2
namespace L2.DL
open PySem PySem.Spec PyProof.Rows
theorem _root_.L2.Fun.Jy {P : Program} {w : World} {K : PySem.W.Frag} {mg : Str → Option Value} {base : Heap} {x qual : Str} {st : Stmt} {f : Addr} {fd : FuncData} {N ps : List Str} {k : Nat} {dsp : DSp} (F : Fun K x qual st f fd) (S : aN N ps (ay st)) (len : ∀ ds μ Q, dsp ds μ Q → ds.length = ps.length)
    (hbody : ∀ (cdv : Value), fd.code = cdv → ∀ (A : Around) (outer : List Env) (s : Shared) (H : Hp) (E : XK), dO k (A.deeper (envOfC qual (ay st) s.heap.objs.size f cdv)) →
      ∃ td, DSs (i7 CX0 P w K mg base N qual (ay st) f cdv A outer s H E).nox (dU st) td ∧ ∀ ds μ Qd, dsp ds μ Qd → td { nx := fun _ μ' => Qd (.v .none) μ', rt := Qd } (aR N ds) μ) : bU P w K mg base CX0 (k + 1) f fd ps (spD K dsp) := by
  obtain ⟨oc, od, kV, doc, pm, an, cdv, ct, osl, rfl, lk, hcd⟩ := F.ex
  refine AS lk hcd S (fun vs H Q E h => ?_) fun A outer s H vs Q E hr h => ?_
  · obtain ⟨ds, μ, Qd, _, r, h, _⟩ := h
    rw [← r.length]; exact len ds μ Qd h
  · obtain ⟨ds, μ, Qd, ok, r, h, fin⟩ := h
    obtain ⟨td, ⟨t, p, l⟩, rd⟩ := hbody cdv rfl A outer s H E hr
    exact ⟨t, p.nox, l (start N vs) H (aR N ds) μ _ _ ⟨ok, oR r⟩ (rd ds μ Qd h) (fun σ' ρ' μ' H' e' S' q => fin (.v .none) .non μ' H' e' S'.mu Rp.none q) (fun d u μ' H' e' ok' r' q => fin d u μ' H' e' ok' r' q) (fun _ _ _ _ _ _ q => q) (fun _ _ _ _ _ _ q => q)⟩
def E4 (X : Cx) (lsc : Scope) : Option Nat → Str → Prop
  | some j, x => X.N[j]? = some x ∧ Vis X.env.scope x ∧ X.env.kindOf x ≠ some .local ∧ lsc.names.lookup x = some .free
  | none, _ => True
def Hn (X : Cx) (lsc : Scope) : List (Option Nat) → List Str → Prop
  | c :: r, x :: r' => E4 X lsc c x ∧ Hn X lsc r r'
  | _, _ => True
theorem pY {X : Cx} {lsc : Scope} : ∀ {cap : List (Option Nat)} {N' : List Str}, Hn X lsc cap N' → ∀ (i j : Nat) (x : Str), cap[i]? = some (some j) → N'[i]? = some x → X.N[j]? = some x ∧ Vis X.env.scope x ∧ X.env.kindOf x ≠ some .local ∧ lsc.names.lookup x = some .free
  | [], _, _, i, j, x, h, _ => by simp at h
  | _ :: _, [], _, i, j, x, _, h => by simp at h
  | c :: r, y :: r', h, 0, j, x, h1, h2 => by
    simp at h1 h2; subst h1 h2; exact h.1
  | c :: r, y :: r', h, i + 1, j, x, h1, h2 => pY h.2 i j x (by simpa using h1) (by simpa using h2)
theorem qk {X : Cx} {lsc : Scope} {j : Nat} {x : Str} (h1 : X.N[j]? = some x := by rfl) (h2 : X.env.kindOf x = some .cell := by rfl) (h3 : lsc.names.lookup x = some .free := by rfl) : E4 X lsc (some j) x :=
  ⟨h1, .inr (.inl h2), (by rw [h2]; decide), h3⟩
theorem zw {K : PySem.W.Frag} {l : List (Addr × Str)} (h : (K.filterMap fun p => bc p.2) = l) {c : Addr} {o : Obj} {P : Addr} {q : Str} (e : K.lookup c = some o) (e2 : bc o = some (P, q)) : (P, q) ∈ l := by
  rw [← h]
  have mem : ∀ (L : List (Addr × Obj)), List.lookup c L = some o → (c, o) ∈ L := fun L => by
    induction L with
    | nil => intro z; cases z
    | cons a r ih =>
      intro z
      rw [List.lookup_cons] at z
      by_cases y : c = a.1
      · rw [y] at z ⊢; simp at z; rw [← z]; exact List.mem_cons_self
      · rw [show (c == a.1) = false from by simpa using y] at z
        exact List.mem_cons_of_mem _ (ih z)
  exact List.mem_filterMap.mpr ⟨(c, o), mem K e, e2⟩
theorem tF {K : PySem.W.Frag} {h : Heap} {c P : Addr} {o : Obj} {q : Str} (X : K.In h) (l : K.lookup c = some o) (e : bc o = some (P, q)) : isCodeTable h P := by
  have ho := X _ _ l
  unfold bc at e
  split at e
  · rename_i cn vs hcls hd
    split at e
    · rename_i hcn
      subst hcn
      split at e
      · rename_i e11 e18
        split at e
        · cases e
          exact ⟨c, o, vs, ho, hcls, hd, by assumption⟩
        · cases e
      · cases e
    · cases e
  · cases e
theorem uC {K : PySem.W.Frag} {c P : Addr} {q : Str} (h : (K.lookup c).bind bc = some (P, q)) : ∃ o, K.lookup c = some o ∧ bc o = some (P, q) := Option.bind_eq_some_iff.mp h
theorem vh {K T : PySem.W.Frag} {h : Heap} (X : PySem.W.Frag.In (K ++ T) h) : K.In h := fun b o e => X b o (by
  show List.lookup b (K ++ T) = some o
  rw [List.lookup_append, show List.lookup b K = some o from e]; rfl)
theorem FU {K : PySem.W.Frag} {mg : Str → Option Value} {bm : Addr} {sl : Array (Option Value)} (h1 : mg "__builtins__" = some (.ref bm)) (h2 : bm ≠ builtinsNs) (h3 : K.lookup bm = some ⟨.type "module", some builtinsNs, .plain, sl⟩) : Eo K mg := ⟨bm, _, h1, h2, h3, rfl, rfl, rfl⟩
theorem Bz {cap : List (Option Nat)} {tx : DTX} {nm : Str} {ρ : Rho} {μ : Mu} {Q : DK} : pV cap tx nm ρ μ Q = tx (aO cap ρ) μ (fun μ' => Q (.v (.str nm)) μ') := propext Iff.rfl
theorem uh {dsp : XSp} {t : DTA} {ρ : Rho} {μ : Mu} {Xk : Mu → Prop} : pB dsp t ρ μ Xk = t ρ μ (fun ds μ1 => dsp ds μ1 Xk) := propext Iff.rfl
theorem E7 {tc : DTT} {tx ty : DTX} {ρ : Rho} {μ : Mu} {Xk : Mu → Prop} : xIf tc tx ty ρ μ Xk = tc ρ μ (fun b μ1 => if b = true then tx ρ μ1 Xk else ty ρ μ1 Xk) := propext Iff.rfl
theorem Bo {td : DTS} {tx : DTX} {ρ : Rho} {μ : Mu} {Xk : Mu → Prop} : Dv td tx ρ μ Xk = td { nx := fun ρ' μ' => tx ρ' μ' Xk, rt := fun _ _ => False } ρ μ := propext Iff.rfl
theorem Ik {ea : Addr} {b : Bool} {i : Nat} {ρ : Rho} {μ : Mu} {Q : DK} (h : ρ[i]? = some (some (.o ea))) : dF ea b (ah i) ρ μ Q = Q (.v (.bool b)) μ := by
  unfold dF ah
  rw [h]
  exact propext ⟨fun z => z.2, fun z => ⟨rfl, z⟩⟩
theorem va {ea : Addr} {b : Bool} {x : Option D} {r : Rho} {μ : Mu} {Q : DK} : dF ea b (ah 1) (x :: some (.o ea) :: r) μ Q = Q (.v (.bool b)) μ := Ik rfl
def AA : PyData → Option PyData
  | .tuple [.str n, .bool b] => if b = true then some (.str n) else none
  | _ => none
theorem w4 {r : Rho} {μ : Mu} {Q : DK} {ns : List (Str × Bool)} {i : Nat} (hi : r[i]? = some (some (.v (.list (ns.map fun n => .tuple [.str n.1, .bool n.2]))))) (hl : ns.length ≤ 1000) (q : Q (.v (.list ((ns.map fun n => (.tuple [.str n.1, .bool n.2] : PyData)).filterMap AA))) μ) :
    kD [none, none] (rE (ah i)) (gw 2 (ba (aw 0) (ba (aw 1) gQ))) (dB (ah 1)) (ah 0) r μ Q := by
  rw [uF]
  show (match r[i]? with | some (some d) => _ | _ => False)
  rw [hi]
  refine ⟨by rw [List.length_map]; exact hl, fun p hp => ⟨fun i acc μ' => acc = ((ns.map fun n => (.tuple [.str n.1, .bool n.2] : PyData)).take i).filterMap AA ∧ μ' = ao μ p acc, ⟨rfl, rfl⟩, ?_, ?_⟩⟩
  · rintro i x acc μ' hx hpa ⟨e0, e1⟩
    obtain ⟨n, hn, rfl⟩ := List.mem_map.mp (List.mem_of_getElem? hx)
    have st := lh (f := AA) hx
    obtain ⟨n, b⟩ := n
    refine ⟨rfl, ⟨trivial, ?_⟩⟩
    show if b = true then _ else _
    cases b with
    | true =>
      rw [if_pos rfl]
      refine ⟨hpa, ?_, ?_⟩
      · rw [st, ← e0]; rfl
      · rw [e1, i9]
    | false =>
      rw [if_neg (by decide)]
      refine ⟨hpa, ?_, e1⟩
      rw [st, ← e0]; simp [AA]
  · rintro acc μ' ⟨e0, e1⟩ hpa
    rw [List.take_length] at e0
    rw [e1, e0, tw hp]
    exact q
open PySem PySem.Spec PyProof.Rows
section
def E9 (K : PySem.W.Frag) (J : It) (xs : List PyData) (μ1 : Mu) (H1 : Hp) : Prop := ∀ μ2 H2, Ext K μ1 H1 μ2 H2 → aZ K μ2 H2 → (∀ a ds, μ1 a = some ds → μ2 a = some ds) → ∀ i, (i < xs.length → J.go i H2 ∧ ∀ x H', J.yld i H2 x H' → ∃ d, xs[i]? = some d ∧ i4 H2 H' ∧ Rp K μ2 H' d x) ∧ (i = xs.length → J.stop i H2)
def Gd (K : PySem.W.Frag) (wi : TI) (src : DTI) : Prop := ∀ (σ : St) (H : Hp) (ρ : Rho) (μ : Mu) (Qd : List PyData → Mu → Prop) (R : It → Hp → Prop), St0 K H ρ μ σ → src ρ μ Qd →
  (∀ xs μ1 H1 J, Ext K μ H μ1 H1 → St0 K H1 ρ μ1 σ → E9 K J xs μ1 H1 → Qd xs μ1 → R J H1) → wi σ H R
def DIW (X : Cx) (tg iter : Expr) (src : DTI) : Prop := ∃ wi, PI X tg iter wi ∧ Gd X.K wi src
def diM (te : DTE) : DTI := fun ρ μ Q => te ρ μ fun d μ1 => match d with
  | .m l => ∃ xs, μ1 l = some xs ∧ Q xs μ1
  | _ => False
theorem Jb {X : Cx} {e tg : Expr} {te : DTE} (h : DE X e te) : DIW X tg e (diM te) := by
  obtain ⟨t1, p1, l1⟩ := h
  refine ⟨_, pT p1, fun σ H ρ μ Qd R S h k => ?_⟩
  refine l1 σ H ρ μ _ _ S h fun d u μ1 H1 e1 S1 r h1 => ?_
  split at h1
  · rename_i l
    obtain ⟨xs, hl, h1⟩ := h1
    obtain ⟨rfl, _⟩ := r
    obtain ⟨us0, hus0, _⟩ := S1.mu l xs hl
    refine ⟨l, rfl, ⟨us0, SqL.of hus0⟩, k xs μ1 H1 _ e1 S1 (fun μ2 H2 e2 ok2 st i => ?_) h1⟩
    obtain ⟨us, hus, ra⟩ := ok2 l xs (st l xs hl)
    refine ⟨fun hi => ?_, fun hi => ⟨us, SqL.of hus, by rw [← ra.length]; omega⟩⟩
    have hiu : i < us.length := by rw [← ra.length]; exact hi
    refine ⟨⟨us, us[i], SqL.of hus, by simp [hiu]⟩, fun x H' ⟨eH, hx⟩ => ?_⟩
    subst eH
    obtain ⟨u', h1', h2'⟩ := ra.get (i := i) (d := xs[i]) (by simp [hi])
    have := hx us (SqL.of hus)
    rw [h1'] at this
    cases this
    exact ⟨xs[i], by simp [hi], i4.refl _, h2'⟩
  · exact h1.elim
theorem Dc {X : Cx} {N' : List Str} {scope : Scope} {cl : List (Str × Addr)} {elt iter tg : Expr} {ifs : List Expr} {pos : Pos} {cap : List (Option Nat)} {src : DTI} {g : DTG} {c : DTT} {te : DTE} (hc : X.calm = X.calm)
    (hi : DIW X tg iter src) (hg : ∀ fp s₃ H₃, DG (az X N' scope cl fp s₃ H₃) tg g) (hif : ∀ fp s₃ H₃, xx (az X N' scope cl fp s₃ H₃) ifs c) (he : ∀ fp s₃ H₃, DE (az X N' scope cl fp s₃ H₃) elt te)
    (hclos : closureFor scope X.env = pure cl) (hcell : ∀ y ∈ scope.names, y.2 ≠ .cell) (hkind : scope.kind = .function) (hnames : ∀ y ∈ scope.names, y.2 = .local → scope.names.lookup y.1 = some .local)
    (hcl : ∀ x a, cl.lookup x = some a → X.env.cells.lookup x = some a) (hhas : ∀ x, (relabel scope X.env).names.lookup x = some .cell ∨ (relabel scope X.env).names.lookup x = some .free → ∃ a, cl.lookup x = some a)
    (hlen : cap.length = N'.length) (hcap : ∀ (i j : Nat) (x : Str), cap[i]? = some (some j) → N'[i]? = some x → X.N[j]? = some x ∧ Vis X.env.scope x ∧ X.env.kindOf x ≠ some .local ∧ ((relabel scope X.env).names.lookup x = some .cell ∨ (relabel scope X.env).names.lookup x = some .free))
    (hs : ∀ x, foldedSetIterable iter X.env x = pure x := by intro _; rfl) : DE X (.ListComp elt [⟨tg, iter, ifs, 0⟩] scope pos) (nP cap src g c te) := by
  refine qK fun pins s σ H ρ μ Qd Q I S h k => ?_
  obtain ⟨wi, pw, li⟩ := hi
  rw [eval_ListComp]
  refine wpAny_comprehension_free (use := none) rfl hs hclos hkind hnames (thn (pw pins s σ H _ I (li σ H ρ μ _ (fun J H1 => ∃ xs μ1, Ext X.K μ H μ1 H1 ∧ St0 X.K H1 ρ μ1 σ ∧ E9 X.K J xs μ1 H1 ∧ xs.length ≤ 1000 ∧ ∃ f : PyData → Option PyData,
      (∀ x ∈ xs, ∀ μ' : Mu, (∀ a ds, μ1 a = some ds → μ' a = some ds) → g (.v x) (aO cap ρ) μ' fun ρ2 μ2 => Le (aO cap ρ) ρ2 ∧ c ρ2 μ2 fun b μ3 =>
        if b = true then te ρ2 μ3 fun d μ4 => μ4 = μ' ∧ (match d with | .v y => f x = some y | _ => False) else μ3 = μ' ∧ f x = none) ∧ Qd (.v (.list (xs.filterMap f))) μ1) S h (fun xs μ1 H1 J e1 S1 it q => ⟨xs, μ1, e1, S1, it, q⟩)))
    fun v s1 h1 => thn h1 fun itv s2 h2 => ?_)
  obtain ⟨it, fp, tn, J, H2, rfl, I2, T, st2, f2, xs, μ1, e1, S1, itok, hxs, f, body, fin⟩ := h2
  refine wpAny_newObj_type (wpAny_newFunctionEnv hcell (by intro y hy; simp at hy) (fun h₁ hns₁ hsb₁ => ?_) hkind)
  dsimp only at hns₁ hsb₁ ⊢
  have hfree2 : H2 s2.heap.objs.size = none := I2.hok.fresh (Nat.le_refl _)
  have hK2 : X.K.lookup s2.heap.objs.size = none := by
    cases z : X.K.lookup s2.heap.objs.size with
    | none => rfl
    | some o => exact absurd (Heap.lt_size (I2.kIn _ _ z)) (Nat.lt_irrefl _)
  have I3 : Inv X pins σ (upd H2 s2.heap.objs.size (.lst [])) { s2 with heap := s2.heap.push { cls := .type "list", dict := none, data := .seq ([] : List Value).toArray } } :=
    I2.laid (t' := s2.toks) (fun b u e => Heap.get?_push_of_some _ e) (Nat.le_refl _) ⟨Nat.zero_le _, [], 0, .nil, Heap.get?_push_size _ rfl⟩
  generalize hH : s2.heap.push { cls := .type "list", dict := none, data := .seq ([] : List Value).toArray } = hp3 at hns₁ hsb₁ I3 ⊢
  have hsz3 : hp3.objs.size = s2.heap.objs.size + 1 := by rw [← hH, Heap.size_push]
  have kept3 : ∀ b o, hp3.get? b = some o → h₁.get? b = some o := fun b o e => hsb₁.extBut b o (Nat.ne_of_lt (Heap.lt_size e)) (Heap.get?_push_of_some _ e)
  have old3 : ∀ b o, s2.heap.get? b = some o → hp3.get? b = some o := fun b o e => by rw [← hH]; exact Heap.get?_push_of_some _ e
  have fplt : ∀ b ∈ fp, b < s2.heap.objs.size := fun b hb => by obtain ⟨o, e, _⟩ := T.obj 0 _ st2 b hb; exact Heap.lt_size e
  have fpst : ∀ b ∈ fp, b ∉ frs X.stack := fun b hb hz => by
    rcases List.mem_cons.mp (I2.gN b hz) with e | e
    · exact (f2 b hb).2.1 e
    · exact (f2 b hb).2.2.1 e
  obtain ⟨s3, hs3⟩ : ∃ s3 : Shared, s3 = { s2 with heap := hp3 } := ⟨_, rfl⟩
  obtain ⟨H3, hH3⟩ : ∃ H3 : Hp, H3 = upd H2 s2.heap.objs.size (.lst []) := ⟨_, rfl⟩
  have heap3 : s3.heap = hp3 := by rw [hs3]
  rw [← hH3] at I3
  have I3' : Inv X pins σ H3 s3 := by rw [hs3]; exact I3
  have hloc : H3 hp3.objs.size = none := by have := I3'.hok.fresh (a := hp3.objs.size) (by rw [heap3]; exact Nat.le_refl _); exact this
  have okc : (az X N' scope cl fp s3 H3).Ok := by
    refine ⟨I3.ok.mod, ?_, I3.ok.glob, I3.ok.blt, Nat.le_refl _, fun x y a h1 h2 => I3.ok.inj x y a (hcl x a h1) (hcl y a h2), fun x hx => hhas x hx, fun x a h => (nomatch h), I3.ok.hd, I3.ok.qt, I3.ok.frames, .inl rfl, fun b hb => ⟨?_, fun x a h => (f2 b hb).2.2.2.2.1 x a (hcl x a h)⟩,
      I3'.bs, Nat.le_trans I3.ok.bsz I3'.sz, fun b o e hb => ?_, fun b hb => fpst b hb, I3'.stack, I3'.jN⟩
    · exact hkind
    · show b ≠ s3.heap.objs.size
      rw [heap3, hsz3]
      exact Nat.ne_of_lt (Nat.lt_succ_of_lt (fplt b hb))
    · rcases (f2 b hb).2.2.2.1 with z | z
      · exact I3.ok.rW b o e z
      · exact absurd (Nat.lt_of_lt_of_le (Heap.lt_size (I3.ok.bs b o e).1) z) (Nat.lt_irrefl _)
  have I4 : Inv (az X N' scope cl fp s3 H3) [] (aO cap σ) H3 { s2 with heap := h₁, toks := s2.toks + ([] : List (Str × Value)).length } := by
    refine ⟨okc, by show s2.os = s3.os; rw [hs3], I3.bare, Un.kept (by show ∀ b o, s3.heap.get? b = some o → _; rw [heap3]; exact kept3), ⟨_, (by show h₁.Ns s3.heap.objs.size _; rw [heap3]; exact hns₁), fun i x v e1 e2 e3 => ?_⟩, fun x a h => ?_, (by show H3 s3.heap.objs.size = none; rw [heap3]; exact hloc), fun x a h => I3.dJ x a (hcl x a h), fun p hp => ?_, I3.hok.kept kept3, ?_⟩
    · obtain ⟨j, h1, h2⟩ := gz e2
      obtain ⟨hN, hv, hnl, hk⟩ := hcap i j x h1 e1
      obtain ⟨m, _, hl⟩ := I3.loc
      obtain ⟨u, r, lk⟩ := hl j x v hN h2 hv
      refine ⟨u, r, .inr ⟨hk, ?_⟩⟩
      obtain ⟨a, ha⟩ := hhas x hk
      rcases lk with ⟨z, _⟩ | ⟨_, a', z1, z2⟩
      · exact absurd z hnl
      · have : a' = a := by have q := hcl x a ha; rw [z1] at q; exact Option.some.inj q
        subst this
        obtain ⟨o, ho, hd⟩ := z2
        exact ⟨a', ha, o, kept3 _ _ ho, hd⟩
    · obtain ⟨v, o, ho, hd⟩ := I3.cell x a (hcl x a h)
      exact ⟨v, o, kept3 _ _ ho, hd⟩
    · have hp' : p ∈ X.pn ++ pins := List.mem_append_left _ (by simpa using (show p ∈ X.pn ++ [] from hp))
      obtain ⟨z1, z2, z3, z4, z5⟩ := I3'.pin p hp'
      refine ⟨kept3 _ _ (by rw [← heap3]; exact z1), z2, (show p.1 ≠ s3.heap.objs.size from Nat.ne_of_lt (Heap.lt_size z1)), fun z => ?_, z5⟩
      rcases List.mem_cons.mp (I3'.gN p.1 z) with e | e
      · exact z3 e
      · exact z4 e
    · show (aO cap σ).length = N'.length
      unfold aO
      rw [List.length_map]
      exact hlen
  have hμ1 : μ1 s2.heap.objs.size = none := S1.mu.free hfree2
  have sub1 : ∀ ys a ds, μ1 a = some ds → ao μ1 s2.heap.objs.size ys a = some ds := fun ys a ds e => by
    have : a ≠ s2.heap.objs.size := fun z => by rw [z, hμ1] at e; cases e
    rw [aJ this]; exact e
  have loop : codeAny (model X.prog X.w) X.A (.compLoop (.ListComp elt [⟨tg, iter, ifs, 0⟩] scope pos) 0 (.ref it) (.ref s2.heap.objs.size) (az X N' scope cl fp s3 H3).env)
      (compPost (model X.prog X.w) X.A X.xe none (EP X pins σ Q) (.ref s2.heap.objs.size) hp3.objs.size) { s2 with heap := h₁, toks := s2.toks + ([] : List (Str × Value)).length } := by
    refine cj (fun n s' => ∃ (i : Nat) (σc : St) (Hc : Hp), n = xs.length - i ∧ i ≤ xs.length ∧ Inv (az X N' scope cl fp s3 H3) [] σc Hc s' ∧ tn i s'.heap ∧ (∀ b ∈ fp, Hc b = none) ∧
      St0 X.K Hc (aO cap ρ) (ao μ1 s2.heap.objs.size ((xs.take i).filterMap f)) σc ∧ Ext X.K μ1 H2 (ao μ1 s2.heap.objs.size ((xs.take i).filterMap f)) Hc) ?_ xs.length
      ⟨0, aO cap σ, H3, by simp, Nat.zero_le _, I4, T.keep 0 _ _ st2 (fun b hb o e => kept3 b o (old3 b o e)), fun b hb => ?_, ?_, ?_⟩
    · rintro n s' ⟨i, σc, Hc, rfl, hi, Ic, tc, frc, Sc, Ec⟩
      have stat : ∀ {Hd : Hp}, (∀ b ∈ fp, Hd b = none) → ∀ b ∈ fp, oJ (az X N' scope cl fp s3 H3) [] Hd b := fun hn b hb =>
        ⟨hn b hb, (okc.exf b hb).1, fpst b hb, .inl hb, fun x a h => (okc.exf b hb).2 x a h, fun p hp => (f2 b hb).2.2.2.2.2 p (List.mem_append_left _ (by simpa using (show p ∈ X.pn ++ [] from hp)))⟩
      obtain ⟨go, stop⟩ := itok _ Hc Ec Sc.mu (sub1 _) i
      by_cases hlt : i < xs.length
      · obtain ⟨g1, y1⟩ := go hlt
        refine thn (T.item (az X N' scope cl fp s3 H3) rfl rfl rfl (fun z => z) i [] s' σc Hc (fun _ _ => False) Ic (stat frc) tc g1) fun r s4 ⟨u, hr, h4⟩ => ?_
        subst hr
        refine thn h4 fun _ s5 ⟨x, H5, I5, r5, y5, st5, fr5⟩ => ?_
        obtain ⟨d, hd, sm, rd⟩ := y1 x H5 y5
        have I5' := I5.pinned (stat fr5) (T.obj _ _ st5)
        have e5 : Ext X.K _ Hc _ H5 := .of_same (μ := ao μ1 s2.heap.objs.size ((xs.take i).filterMap f)) sm
        have S5 : St0 X.K H5 (aO cap ρ) (ao μ1 s2.heap.objs.size ((xs.take i).filterMap f)) σc := ⟨Sc.mu.xU e5 sm, Sc.rho.ext Sc.mu e5⟩
        obtain ⟨gt, pg, lg⟩ := hg fp s3 H3
        have hmem : d ∈ xs := List.mem_of_getElem? hd
        refine thn (pg _ s5 σc H5 x u (fun σ' H' => ∃ ρ' μ', Ext X.K (ao μ1 s2.heap.objs.size ((xs.take i).filterMap f)) H5 μ' H' ∧ St0 X.K H' ρ' μ' σ' ∧ Le (aO cap ρ) ρ' ∧ c ρ' μ' fun b μ3 =>
            if b = true then te ρ' μ3 fun d' μ4 => μ4 = ao μ1 s2.heap.objs.size ((xs.take i).filterMap f) ∧ (match d' with | .v y => f d = some y | _ => False) else μ3 = ao μ1 s2.heap.objs.size ((xs.take i).filterMap f) ∧ f d = none) I5' r5
          (lg σc H5 (aO cap ρ) _ (.v d) x _ _ S5 rd (body d hmem _ (sub1 _)) fun σ' ρ' μ' H' e' S' q => ⟨ρ', μ', e', S', q⟩)) fun _ s6 ⟨σ6, H6, I6, ρ6, μ6, e6, S6, le6, q6⟩ => ?_
        refine thn (hif fp s3 H3 _ s6 σ6 H6 ρ6 μ6 _ (fun b H' => ∃ μ', Ext X.K μ6 H6 μ' H' ∧ St0 X.K H' ρ6 μ' σ6 ∧ if b = true then te ρ6 μ' fun d' μ4 => μ4 = ao μ1 s2.heap.objs.size ((xs.take i).filterMap f) ∧ (match d' with | .v y => f d = some y | _ => False) else μ' = ao μ1 s2.heap.objs.size ((xs.take i).filterMap f) ∧ f d = none)
          I6 S6 q6 fun b μ' H' e' S' q => ⟨μ', e', S', q⟩) fun b s7 ⟨H7, I7, μ7, e7, S7, q7⟩ => ?_
        have again : ∀ {H9 : Hp} {s9 : Shared}, Inv (az X N' scope cl fp s3 H3) ([] ++ jH fp s5.heap) σ6 H9 s9 → aZ X.K (ao μ1 s2.heap.objs.size ((xs.take (i + 1)).filterMap f)) H9 → cE X.K (ao μ1 s2.heap.objs.size ((xs.take (i + 1)).filterMap f)) H9 (aO cap ρ) σ6 →
            Ext X.K μ1 H2 (ao μ1 s2.heap.objs.size ((xs.take (i + 1)).filterMap f)) H9 → ∃ m, m < xs.length - i ∧ ∃ (i : Nat) (σc : St) (Hc : Hp), m = xs.length - i ∧ i ≤ xs.length ∧ Inv (az X N' scope cl fp s3 H3) [] σc Hc s9 ∧ tn i s9.heap ∧ (∀ b ∈ fp, Hc b = none) ∧
              St0 X.K Hc (aO cap ρ) (ao μ1 s2.heap.objs.size ((xs.take i).filterMap f)) σc ∧ Ext X.K μ1 H2 (ao μ1 s2.heap.objs.size ((xs.take i).filterMap f)) Hc := fun {H9 s9} I9 m9 r9 e9 => by
          refine ⟨xs.length - (i + 1), by omega, i + 1, σ6, H9, rfl, hlt, I9.eP, T.keep _ _ _ st5 fun b hb o e => (I9.pin (b, o) (List.mem_append_right _ (List.mem_append_right _ (bD hb e)))).1, fun b hb => ?_, ⟨m9, r9⟩, e9⟩
          obtain ⟨o, e, _⟩ := T.obj _ _ st5 b hb
          exact (I9.pin (b, o) (List.mem_append_right _ (List.mem_append_right _ (bD hb e)))).2.1
        cases b with
        | false =>
          have q8 : μ7 = ao μ1 s2.heap.objs.size ((xs.take i).filterMap f) ∧ f d = none := by simpa using q7
          refine mV ?_
          have et : (xs.take (i + 1)).filterMap f = (xs.take i).filterMap f := by rw [lh hd, q8.2]; simp
          have eμ : ao μ1 s2.heap.objs.size ((xs.take (i + 1)).filterMap f) = μ7 := by rw [et, q8.1]
          refine again I7 (by rw [eμ]; exact S7.mu) (by rw [eμ]; exact S7.rho.le le6) ?_
          rw [eμ]
          exact Ec.trans (e5.trans (e6.trans e7))
        | true =>
          refine lY ?_
          obtain ⟨t8, p8, l8⟩ := he fp s3 H3
          refine thn (p8 _ s7 σ6 H7 (fun v H' => ∃ y, Ext X.K μ7 H7 (ao μ1 s2.heap.objs.size ((xs.take i).filterMap f)) H' ∧ St0 X.K H' ρ6 (ao μ1 s2.heap.objs.size ((xs.take i).filterMap f)) σ6 ∧ Rp X.K (ao μ1 s2.heap.objs.size ((xs.take i).filterMap f)) H' y v ∧ f d = some y) I7
            (l8 σ6 H7 ρ6 μ7 _ _ S7 (by simpa using q7) fun d' v μ8 H8 e8 S8 r8 q8 => ?_)) fun v s8 ⟨v8, H8, I8, r8, y, e8, S8, ry, fy⟩ => ?_
          · obtain ⟨rfl, q8⟩ := q8
            cases d' with
            | v y => exact ⟨y, e8, S8, r8, q8⟩
            | m _ => exact q8.elim
            | s _ => exact q8.elim
            | o _ => exact q8.elim
            | q _ => exact q8.elim
          · obtain ⟨us, hacc, rus⟩ := S8.mu s2.heap.objs.size _ aB
            have hle : ((xs.take i).filterMap f).length ≤ 1000 := Nat.le_trans (List.length_filterMap_le _ _) (Nat.le_trans (by rw [List.length_take]; exact Nat.min_le_right _ _) hxs)
            refine thn (hR (X := az X N' scope cl fp s3 H3) _ s8 σ6 H8 (.ref s2.heap.objs.size) [v8] (.ref s2.heap.objs.size) [v] (fun _ H' => H' = upd H8 s2.heap.objs.size (.lst (us ++ [v8]))) I8 rfl (.cons r8 .nil) ⟨_, us, v8, rfl, rfl, hacc, by rw [← rus.length]; exact cx hle, rfl⟩) fun _ s9 ⟨_, H9, I9, _, e9⟩ => ?_
            subst e9
            have et : (xs.take (i + 1)).filterMap f = (xs.take i).filterMap f ++ [y] := by rw [lh hd, fy]; rfl
            have mset : ao (ao μ1 s2.heap.objs.size ((xs.take i).filterMap f)) s2.heap.objs.size ((xs.take (i + 1)).filterMap f) = ao μ1 s2.heap.objs.size ((xs.take (i + 1)).filterMap f) := i9
            have ex : Ext X.K (ao μ1 s2.heap.objs.size ((xs.take i).filterMap f)) H8 (ao μ1 s2.heap.objs.size ((xs.take (i + 1)).filterMap f)) (upd H8 s2.heap.objs.size (.lst (us ++ [v8]))) := by
              rw [← mset]
              exact gS aB
            refine again I9 ?_ ((S8.rho.le le6).ext S8.mu ex) (Ec.trans (e5.trans (e6.trans (e7.trans (e8.trans ex)))))
            rw [← mset]
            refine S8.mu.set aB ?_
            rw [et]
            exact rus.append (.cons ry .nil)
      · have ei : i = xs.length := by omega
        subst ei
        refine thn (T.done (az X N' scope cl fp s3 H3) rfl rfl rfl (fun z => z) _ [] s' σc Hc (fun _ _ => False) Ic (stat frc) tc (stop rfl)) fun r s4 ⟨hr, I5⟩ => ?_
        subst hr
        rw [List.take_length] at Sc Ec
        obtain ⟨m, hn, _⟩ := I5.loc
        refine ⟨m, (by have z : s4.heap.Ns s3.heap.objs.size m := hn; rw [heap3] at z; exact z), fun h' hs' => ?_⟩
        have kp : ∀ b o, b < s2.heap.objs.size → s4.heap.get? b = some o → h'.get? b = some o := fun b o hb e => hs'.extBut b o (by rw [hsz3]; exact Nat.ne_of_lt (Nat.lt_succ_of_lt hb)) e
        have hcC : Hc hp3.objs.size = none := by have z : Hc s3.heap.objs.size = none := I5.free; rw [heap3] at z; exact z
        have hok' : HOk X.prog X.w Hc h' := fun b ob e => by
          refine (I5.hok b ob e).mm (fun cc v hcc q => hs'.extBut cc v ?_ q) (fun _ q => q) fun _ _ q => q
          rintro rfl
          rcases hcc with z | z
          · rw [← z, hcC] at e; cases e
          · rw [hcC] at z; cases z
        have u1 : Un (frs X.stack) fp H2 H3 s2.heap s3.heap := by rw [heap3, hH3]; exact Un.laid old3 (Nat.le_refl _) hfree2
        have u2 : Un (frs X.stack) fp H3 Hc s3.heap s4.heap := I5.base
        have If : Inv X pins σ Hc { s4 with heap := h' } := I2.pb (ch := fp) (by show s4.os = s2.os; have z : s4.os = s3.os := I5.os; rw [z, hs3]) (Un.after (u1.trans u2) kp) hok' I5.bare fun b hb => ⟨(f2 b hb).2.2.2.1, (f2 b hb).2.1, (f2 b hb).2.2.2.2.1, (f2 b hb).2.2.2.2.2⟩
        obtain ⟨us, hacc, rus⟩ := Sc.mu s2.heap.objs.size _ aB
        have shr : ∀ a, ao μ1 s2.heap.objs.size (xs.filterMap f) a = none → μ1 a = none := fun a e => by
          by_cases ha : a = s2.heap.objs.size
          · rw [ha]; exact hμ1
          · rw [aJ ha] at e; exact e
        have eF : Ext X.K μ1 H2 μ1 Hc := ⟨Ec.keep, Ec.tb, fun _ ds q => ⟨ds, q⟩, fun _ q _ => q⟩
        have mF : aZ X.K μ1 Hc := ⟨fun a ds q => by
          obtain ⟨ys, z1, z2⟩ := Sc.mu a ds (sub1 _ a ds q)
          exact ⟨ys, z1, z2.shrink shr⟩, Sc.mu.tab⟩
        exact ⟨.ref s2.heap.objs.size, Hc, If, rfl, k (.v (.list (xs.filterMap f))) _ μ1 Hc (e1.trans eF) ⟨mF, S1.rho.ext S1.mu eF⟩ (Rp.list hacc hμ1 (rus.shrink shr)) fin⟩
    · have z : b ≠ s2.heap.objs.size := Nat.ne_of_lt (fplt b hb)
      rw [hH3, aT z]
      exact (f2 b hb).1
    · have ex := dq (o := .lst []) (ds := []) S1.mu hfree2 hK2
      rw [hH3]
      exact ⟨S1.mu.mut .nil hfree2 hK2, (S1.rho.ext S1.mu ex).cap⟩
    · rw [hH3]
      exact dq (o := .lst []) (ds := []) S1.mu hfree2 hK2
  have envE : (az X N' scope cl fp s3 H3).env = compEnvC scope cl hp3.objs.size X.env := by show compEnvC scope cl s3.heap.objs.size X.env = _; rw [heap3]
  rw [envE] at loop
  exact codeAny_compStart_list loop (T.self X.A 0 _ _ _ (T.keep 0 _ _ st2 (fun b hb o e => kept3 b o (old3 b o e))) loop)
end
open PySem PySem.Spec PyProof.Rows
section
variable {X : Cx} {a b e : Expr} {es : List Expr} {ta tb te : DTE} {t : DTA} {p pos : Pos} {x : Str} {bid T : String}
end
open PySem PySem.Spec PyProof.Rows
section
variable {X : Cx} {es : List Expr} {x1 : Nat} {tpos : Pos}
end
open PySem PySem.Spec PyProof.Rows
section
variable {X : Cx} {e : Expr} {te : DTE} {p p2 pos pos2 : Pos}
end
open PySem PySem.Spec PyProof.Rows
def xa (fa c1 : Addr) (q : Str) (params : Arguments) (body : Expr) (lsc : Scope) (cl : List (Str × Addr)) (h : Heap) : Prop := ∃ pm ctv, h.get? fa = some { cls := .type "function", data := .func (PySem.W.kla_fn "<lambda>" (aM q) params body lsc cl pm (.ref c1) ctv) }
def El (q : Str) (params : Arguments) (body : Expr) (lsc : Scope) (cl : List (Str × Addr)) : PQ := fun _ u μ H => ∃ fa c1, u = .ref fa ∧ H fa = some (.ext (xa fa c1 q params body lsc cl)) ∧ H c1 = some (.ext (codeAt c1 (aM q))) ∧ μ fa = none ∧ μ c1 = none
def QL (ds : List D) : PQ := fun K u μ H => ∃ a us, u = .ref a ∧ H a = some (.lst us) ∧ μ a = none ∧ g9 K μ H ds us
def QT (ds : List D) : PQ := fun K u μ H => ∃ a us, u = .ref a ∧ H a = some (.tup us) ∧ g9 K μ H ds us
section
variable {X : Cx} {pins : List (Addr × Obj)} {σ : St} {H : Hp} {s : Shared}
theorem DX {μ : Mu} {params : Arguments} {body : Expr} {lsc : Scope} {lpos : Pos} {cl : List (Str × Addr)} {c P : Addr} {o : Obj} {q : Str} {Qd : Value → Shared → Prop} (I : Inv X pins σ H s) (ok : aZ X.K μ H) (hcode : X.env.code = .ref c) (hl : X.K.lookup c = some o)
    (hlc : bc o = some (P, q)) (hu : ∀ c2 o2 q2, X.K.lookup c2 = some o2 → bc o2 = some (P, q2) → q2 = q) (hq : X.env.qual = q ++ ".<locals>.") (hB : Eo X.K X.mg) (hcl : closureFor lsc X.env = pure cl) (hdef : defaultsOf params X.env = ([], []))
    (k : ∀ (fa c1 : Addr) (H1 : Hp) (s1 : Shared), Inv X pins σ H1 s1 → Ext X.K μ H μ H1 → aZ X.K μ H1 → H1 fa = some (.ext (xa fa c1 q params body lsc cl)) → H1 c1 = some (.ext (codeAt c1 (aM q))) → Qd (.ref fa) s1) :
    wpAny (model X.prog X.w) X.A (eval (.Lambda params body lsc lpos) X.env) Qd X.xe s := by
  refine PySem.W.kla_eval hdef ?_
  rw [hq]
  obtain ⟨ps, hP, htr, hcs⟩ := ok.tab c o P q hl hlc
  have getP : s.heap.get? P = some (PySem.W.tabObj ps) := I.hok P _ hP
  have nK : ∀ b ob, X.K.lookup b = some ob → b ≠ P := fun b ob e z => by
    have := (I.bs b ob (I.mod.kin b ob e)).2
    rw [z, hP] at this; cases this
  have C := zq I.kIn hl hlc (nK c o hl)
  have hg : s.heap.Ns mainGlobals X.mg := I.mod.glob.keeps I.bk
  have hgP : mainGlobals ≠ P := fun z => by
    obtain ⟨og, es, ep, e, d, _⟩ := hg
    rw [z, getP] at e; cases e; cases d
  have hb : s.heap.BuiltinsAt X.mg P := by
    obtain ⟨bm, ob, b1, b2, b3, b4, b5, b6⟩ := hB
    refine ⟨bm, ob, b1, b2, fun z => ?_, nK bm ob b3, I.kIn _ _ b3, b4, b5, b6⟩
    obtain ⟨og, es, ep, e, d, _⟩ := hg
    rw [← z, I.kIn _ _ b3] at e; cases e; rw [b6] at d; cases d
  have stk : ∀ b, s.heap.objs.size ≤ b → b ∉ frs X.stack := fun b hb hm => by
    obtain ⟨_, ob, e, _⟩ := I.stack.mem hm
    exact absurd (Heap.lt_size e) (Nat.not_lt.mpr hb)
  cases hf : codeAmong lpos ps.toList with
  | some cv =>
    obtain ⟨c1, rfl, hc1⟩ := hcs lpos cv hf
    refine PySem.W.kla_makeFunctionHit hcl I.ok.glob hg hcode C getP htr hf hb fun ctv h' tk hk hsz => ?_
    have fr := I.hok.fresh hsz
    have I2 := I.laid (t' := tk) (h' := h'.push { cls := .type "function", data := .func (PySem.W.kla_fn "<lambda>" (aM q) params body lsc cl ((X.mg "__name__").getD .none) (.ref c1) ctv) }) (a := h'.objs.size) (o := .ext (xa h'.objs.size c1 q params body lsc cl)) (fun b u e => Heap.get?_push_of_some _ (hk b u e)) hsz ⟨⟨_, _, Heap.get?_push_size _ rfl⟩, ⟨_, Heap.get?_push_size _ rfl⟩, fun h1 h2 ⟨pm, ct, e⟩ kk => ⟨pm, ct, kk _ e⟩⟩
    exact k h'.objs.size c1 _ _ I2 (bL fr) (ok.new fr) bB (by rw [aT (aG hc1 fr)]; exact hc1)
  | none =>
    refine PySem.W.kla_makeFunction hcl I.ok.glob hg hcode C getP htr hf hgP hb fun c' ctv h' tk hx hge hlt hrec htb => ?_
    have hca : codeAt c' (aM q) h' := by
      obtain ⟨c2, oc, vs, t, e2, g2, d2, v2⟩ := hrec
      cases e2
      exact ⟨oc, vs, t, g2, d2, v2⟩
    have fc : H c' = none := I.hok.fresh hge
    have I1 : Inv X pins σ (upd (upd H P (.tbl (ps ++ [rawInt lpos.line, rawInt lpos.col, .ref c'].toArray))) c' (.ext (codeAt c' (aM q)))) { s with heap := h', toks := tk } := tL (φ := codeAt c' (aM q)) I hP hx htb hge hca (let ⟨oc, _, _, g2, _⟩ := hca; ⟨oc, g2⟩) (fun h1 h2 ⟨oc, vs, t, g2, d2, v2⟩ kk => ⟨oc, vs, t, kk _ g2, d2, v2⟩)
    have old : ∀ b, b ≠ P → b ≠ c' → upd (upd H P (.tbl (ps ++ [rawInt lpos.line, rawInt lpos.col, .ref c'].toArray))) c' (.ext (codeAt c' (aM q))) b = H b := fun b h1 h2 => by rw [aT h2, aT h1]
    have nPc : P ≠ c' := aG hP fc
    have ex : Ext X.K μ H μ (upd (upd H P (.tbl (ps ++ [rawInt lpos.line, rawInt lpos.col, .ref c'].toArray))) c' (.ext (codeAt c' (aM q)))) := ⟨fun b u e n nt => by rw [old b (fun z => by rw [z, hP] at e; cases e; exact nt) (aG e fc)]; exact e, fun b qs e n => by
      by_cases z : b = P
      · exact ⟨_, by rw [z, aT nPc]; exact bB⟩
      · exact ⟨qs, by rw [old b z (aG e fc)]; exact e⟩, fun _ ds e => ⟨ds, e⟩, fun _ e _ => e⟩
    have mu : aZ X.K μ (upd (upd H P (.tbl (ps ++ [rawInt lpos.line, rawInt lpos.col, .ref c'].toArray))) c' (.ext (codeAt c' (aM q)))) := ⟨fun a ds e => by
      obtain ⟨xs, h1, h2⟩ := ok a ds e
      exact ⟨xs, by rw [old a (fun z => by rw [z, hP] at h1; cases h1) (aG h1 fc)]; exact h1, h2.ext ok ex⟩, wG ok.tab hP htr hcs hf fc hu⟩
    have hfr : s.heap.objs.size ≤ h'.objs.size := Nat.le_trans hge (Nat.le_of_lt hlt)
    have frn : (upd (upd H P (.tbl (ps ++ [rawInt lpos.line, rawInt lpos.col, .ref c'].toArray))) c' (.ext (codeAt c' (aM q)))) h'.objs.size = none := by
      have : h'.objs.size ≠ c' := Nat.ne_of_gt hlt
      by_cases z : h'.objs.size = P
      · exact absurd (Heap.lt_size getP) (by rw [← z]; exact Nat.not_lt.mpr hfr)
      · rw [old _ z this]; exact I.hok.fresh hfr
    have I2 := I1.laid (t' := tk) (h' := h'.push { cls := .type "function", data := .func (PySem.W.kla_fn "<lambda>" (aM q) params body lsc cl ((X.mg "__name__").getD .none) (.ref c') ctv) }) (a := h'.objs.size) (o := .ext (xa h'.objs.size c' q params body lsc cl)) (fun b u e => Heap.get?_push_of_some _ e) (Nat.le_refl _) ⟨⟨_, _, Heap.get?_push_size _ rfl⟩, ⟨_, Heap.get?_push_size _ rfl⟩, fun h1 h2 ⟨pm, ct, e⟩ kk => ⟨pm, ct, kk _ e⟩⟩
    have hc1 : (upd (upd H P (.tbl (ps ++ [rawInt lpos.line, rawInt lpos.col, .ref c'].toArray))) c' (.ext (codeAt c' (aM q)))) c' = some (.ext (codeAt c' (aM q))) := bB
    exact k h'.objs.size c' _ _ I2 (ex.trans (bL frn)) (mu.new frn) bB (by rw [aT (aG hc1 frn)]; exact hc1)
end
section
variable {K : PySem.W.Frag} {μ : Mu} {H : Hp} {a : Addr} {us : List V} {ds : List D}
theorem HV (ok : aZ K μ H) (ha : H a = some (.lst us)) (hn : μ a = none) (r : g9 K μ H ds us) : RpD K μ H (.q (QL ds)) (.ref a) := fun μ' H' e => ⟨a, us, rfl, e.keep _ _ ha hn trivial, e.fresh _ hn (.inl (by rw [ha]; exact fun z => nomatch z)), r.ext ok e⟩
theorem Gq {fa c1 : Addr} {q : Str} {params : Arguments} {body : Expr} {lsc : Scope} {cl : List (Str × Addr)} (ok : aZ K μ H) (h1 : H fa = some (.ext (xa fa c1 q params body lsc cl))) (h2 : H c1 = some (.ext (codeAt c1 (aM q)))) : RpD K μ H (.q (El q params body lsc cl)) (.ref fa) := fun μ' H' e => by
  have n1 := ok.not h1 fun _ z => nomatch z
  have n2 := ok.not h2 fun _ z => nomatch z
  exact ⟨fa, c1, rfl, e.keep _ _ h1 n1 trivial, e.keep _ _ h2 n2 trivial, e.fresh _ n1 (.inl (by rw [h1]; exact fun z => nomatch z)), e.fresh _ n2 (.inl (by rw [h2]; exact fun z => nomatch z))⟩
end
section
variable {X : Cx} {es : List Expr} {t : DTA} {pos : Pos}
def dKq (P : PQ) : DTE := fun _ μ Q => Q (.q P) μ
theorem BI {c P : Addr} {q : Str} {params : Arguments} {body : Expr} {lsc : Scope} {lpos : Pos} {cl : List (Str × Addr)} (L : Fw X.K X.mg c P q) (hcode : X.env.code = .ref c) (hq : X.env.qual = q ++ ".<locals>.") (hdef : defaultsOf params X.env = ([], [])) (hclos : closureFor lsc X.env = pure cl) :
    DE X (.Lambda params body lsc lpos) (dKq (El q params body lsc cl)) := by
  refine qK fun pins s σ H ρ μ Qd Q I S h kk => ?_
  obtain ⟨o, hl, hlc⟩ := L.obj
  refine DX I S.mu hcode hl hlc L.one hq L.blt hclos hdef fun fa c1 H1 s1 I1 ex mu h1 h2 => ?_
  exact ⟨.ref fa, H1, I1, rfl, kk (.q _) (.ref fa) μ H1 ex ⟨mu, S.rho.ext S.mu ex⟩ (Gq mu h1 h2) h⟩
def A1 (t : DTA) : DTE := fun ρ μ Q => t ρ μ fun ds μ1 => Q (.q (QL ds)) μ1
theorem En (h : DA X es t) (hl : es.length ≤ 1000 := by decide) : DE X (.List es pos) (A1 t) := by
  obtain ⟨t1, p1, l1⟩ := h
  refine ⟨_, A3 p1, fun σ H ρ μ Qd Q S h k => ?_⟩
  refine l1 σ H ρ μ _ _ S h fun ds us μ1 H1 e1 S1 rs len h1 => ?_
  refine ⟨Nat.le_of_lt (cx (by rw [← rs.length, len]; exact hl)), fun p hp => ?_⟩
  have e2 := bL (K := X.K) (μ := μ1) (o := .lst us) hp
  have S2 := S1.new (o := .lst us) hp
  exact k (.q (QL ds)) _ μ1 _ (e1.trans e2) S2 (HV S2.mu bB (S1.mu.free hp) (rs.ext S1.mu e2)) h1
end
open PySem PySem.Spec PyProof.Rows
def EM (K : PySem.W.Frag) (J : It) (xs : List D) (μ1 : Mu) (H1 : Hp) : Prop := ∀ μ2 H2, Ext K μ1 H1 μ2 H2 → aZ K μ2 H2 → ∀ i, (i < xs.length → J.go i H2 ∧ ∀ x H', J.yld i H2 x H' → ∃ d, xs[i]? = some d ∧ i4 H2 H' ∧ RpD K μ2 H' d x) ∧ (i = xs.length → J.stop i H2)
abbrev IJ := Rho → Mu → (List D → Mu → Prop) → Prop
def Hh (K : PySem.W.Frag) (wi : TI) (src : IJ) : Prop := ∀ (σ : St) (H : Hp) (ρ : Rho) (μ : Mu) (Qd : List D → Mu → Prop) (R : It → Hp → Prop), St0 K H ρ μ σ → src ρ μ Qd →
  (∀ xs μ1 H1 J, Ext K μ H μ1 H1 → St0 K H1 ρ μ1 σ → EM K J xs μ1 H1 → Qd xs μ1 → R J H1) → wi σ H R
def diQ (te : DTE) : IJ := fun ρ μ Q => te ρ μ fun d μ1 => ∃ ds, d = .q (QL ds) ∧ Q ds μ1
theorem Jx {X : Cx} {e tg : Expr} {te : DTE} (h : DE X e te) : ∃ wi, PI X tg e wi ∧ Hh X.K wi (diQ te) := by
  obtain ⟨t1, p1, l1⟩ := h
  refine ⟨_, pT p1, fun σ H ρ μ Qd R S h k => ?_⟩
  refine l1 σ H ρ μ _ _ S h fun d u μ1 H1 e1 S1 r h1 => ?_
  obtain ⟨ds, rfl, h1⟩ := h1
  obtain ⟨a, us, rfl, ha, hn, ra⟩ := r μ1 H1 .refl
  refine ⟨a, rfl, ⟨us, SqL.of ha⟩, k ds μ1 H1 _ e1 S1 (fun μ2 H2 e2 ok2 i => ⟨fun hi => ?_, fun hi => ?_⟩) h1⟩
  · have ha2 := e2.keep _ _ ha hn trivial
    have hiu : i < us.length := by rw [← ra.length]; exact hi
    refine ⟨⟨us, us[i], SqL.of ha2, by simp [hiu]⟩, fun x H' ⟨eH, hx⟩ => ?_⟩
    subst eH
    obtain ⟨u', h1', h2'⟩ := (ra.ext S1.mu e2).get (i := i) (d := ds[i]) (by simp [hi])
    have := hx us (SqL.of ha2)
    rw [this] at h1'
    cases h1'
    exact ⟨ds[i], by simp [hi], i4.refl _, h2'⟩
  · have ha2 := e2.keep _ _ ha hn trivial
    exact ⟨us, SqL.of ha2, by rw [← ra.length]; omega⟩
theorem Dx {K : PySem.W.Frag} {μ : Mu} {H : Hp} {ρ : Rho} {σ : St} {d : D} {u : V} (r : cE K μ H ρ σ) (h : RpD K μ H d u) : cE K μ H (ρ ++ [some d]) (σ ++ [some u]) := by
  refine ⟨by simp [r.1], fun i x e => ?_⟩
  rcases Nat.lt_or_ge i ρ.length with z | z
  · rw [List.getElem?_append_left z] at e
    obtain ⟨v, h1, h2⟩ := r.2 i x e
    exact ⟨v, by rw [List.getElem?_append_left (by rw [← r.1]; exact z)]; exact h1, h2⟩
  · rw [List.getElem?_append_right z] at e
    have zi : i - ρ.length = 0 := by
      rcases Nat.eq_zero_or_pos (i - ρ.length) with q | q
      · exact q
      · rw [List.getElem?_eq_none (by simp; omega)] at e; cases e
    rw [zi] at e
    cases e
    exact ⟨u, by rw [List.getElem?_append_right (by rw [← r.1]; exact z), ← r.1, zi]; rfl, h⟩
def uo (cap : List (Option Nat)) (src : DTE) (g : DTG) (te : Rho → PQ → DTE) : DTE := fun ρ μ Q => diQ src ρ μ fun xs μ1 => xs.length ≤ 1000 ∧ ∃ f : Nat → PyData, (∀ (G : PQ) (i : Nat) (x : D), xs[i]? = some x → ∀ μ' : Mu, (∀ a ds, μ1 a = some ds → μ' a = some ds) → g x (aO cap ρ ++ [some (D.q G)]) μ' fun ρ2 μ2 => Le (aO cap ρ ++ [some (D.q G)]) ρ2 ∧ te ρ G ρ2 μ2 fun d μ4 => μ4 = μ' ∧ d = .v (f i)) ∧ Q (.v (.list ((List.range xs.length).map f))) μ1
theorem Ct {X : Cx} {N' : List Str} {gx : Str} {scope : Scope} {cl : List (Str × Addr)} {elt iter tg : Expr} {pos : Pos} {cap : List (Option Nat)} {src : DTE} {g : DTG} {te : Rho → PQ → DTE} (hc : X.calm = X.calm)
    (hi0 : DE X iter src) (hg : ∀ fp s₃ H₃, DG (az X (N' ++ [gx]) scope cl fp s₃ H₃) tg g)
    (he : ∀ fp s₃ H₃ pins σ ρ μ₁ (G : PQ), Inv X pins σ H₃ s₃ → St0 X.K H₃ ρ μ₁ σ → (∀ b ∈ fp, ∀ x a, X.env.cells.lookup x = some a → a ≠ b) → (∀ u μ H, G X.K u μ H → cE X.K μ H ρ σ) → DE (az X (N' ++ [gx]) scope cl fp s₃ H₃) elt (te ρ G))
    (hclos : closureFor scope X.env = pure cl) (hcell : ∀ y ∈ scope.names, y.2 ≠ .cell) (hkind : scope.kind = .function) (hnames : ∀ y ∈ scope.names, y.2 = .local → scope.names.lookup y.1 = some .local)
    (hcl : ∀ x a, cl.lookup x = some a → X.env.cells.lookup x = some a) (hhas : ∀ x, (relabel scope X.env).names.lookup x = some .cell ∨ (relabel scope X.env).names.lookup x = some .free → ∃ a, cl.lookup x = some a)
    (hlen : cap.length = N'.length) (hcap : ∀ (i j : Nat) (x : Str), cap[i]? = some (some j) → N'[i]? = some x → X.N[j]? = some x ∧ Vis X.env.scope x ∧ X.env.kindOf x ≠ some .local ∧ ((relabel scope X.env).names.lookup x = some .cell ∨ (relabel scope X.env).names.lookup x = some .free))
    (hgx : (relabel scope X.env).names.lookup gx = none) (hs : ∀ x, foldedSetIterable iter X.env x = pure x := by intro _; rfl) : DE X (.ListComp elt [⟨tg, iter, [], 0⟩] scope pos) (uo cap src g te) := by
  refine qK fun pins s σ H ρ μ Qd Q I S h k => ?_
  obtain ⟨wi, pw, li⟩ := Jx (tg := tg) hi0
  rw [eval_ListComp]
  refine wpAny_comprehension_free (use := none) rfl hs hclos hkind hnames (thn (pw pins s σ H _ I (li σ H ρ μ _ (fun J H1 => ∃ xs μ1, Ext X.K μ H μ1 H1 ∧ St0 X.K H1 ρ μ1 σ ∧ EM X.K J xs μ1 H1 ∧ xs.length ≤ 1000 ∧ ∃ f : Nat → PyData, (∀ (G : PQ) (i : Nat) (x : D), xs[i]? = some x → ∀ μ' : Mu, (∀ a ds, μ1 a = some ds → μ' a = some ds) → g x (aO cap ρ ++ [some (D.q G)]) μ' fun ρ2 μ2 => Le (aO cap ρ ++ [some (D.q G)]) ρ2 ∧ te ρ G ρ2 μ2 fun d μ4 => μ4 = μ' ∧ d = .v (f i)) ∧ Qd (.v (.list ((List.range xs.length).map f))) μ1) S h (fun xs μ1 H1 J e1 S1 it q => ⟨xs, μ1, e1, S1, it, q⟩)))
    fun v s1 h1 => thn h1 fun itv s2 h2 => ?_)
  obtain ⟨it, fp, tn, J, H2, rfl, I2, T, st2, f2, xs, μ1, e1, S1, itok, hxs, f, body, fin⟩ := h2
  refine wpAny_newObj_type (wpAny_newFunctionEnv hcell (by intro y hy; simp at hy) (fun h₁ hns₁ hsb₁ => ?_) hkind)
  dsimp only at hns₁ hsb₁ ⊢
  have hfree2 : H2 s2.heap.objs.size = none := I2.hok.fresh (Nat.le_refl _)
  have hK2 : X.K.lookup s2.heap.objs.size = none := by
    cases z : X.K.lookup s2.heap.objs.size with
    | none => rfl
    | some o => exact absurd (Heap.lt_size (I2.kIn _ _ z)) (Nat.lt_irrefl _)
  have I3 : Inv X pins σ (upd H2 s2.heap.objs.size (.lst [])) { s2 with heap := s2.heap.push { cls := .type "list", dict := none, data := .seq ([] : List Value).toArray } } :=
    I2.laid (t' := s2.toks) (fun b u e => Heap.get?_push_of_some _ e) (Nat.le_refl _) ⟨Nat.zero_le _, [], 0, .nil, Heap.get?_push_size _ rfl⟩
  generalize hH : s2.heap.push { cls := .type "list", dict := none, data := .seq ([] : List Value).toArray } = hp3 at hns₁ hsb₁ I3 ⊢
  have hsz3 : hp3.objs.size = s2.heap.objs.size + 1 := by rw [← hH, Heap.size_push]
  have kept3 : ∀ b o, hp3.get? b = some o → h₁.get? b = some o := fun b o e => hsb₁.extBut b o (Nat.ne_of_lt (Heap.lt_size e)) (Heap.get?_push_of_some _ e)
  have old3 : ∀ b o, s2.heap.get? b = some o → hp3.get? b = some o := fun b o e => by rw [← hH]; exact Heap.get?_push_of_some _ e
  have fplt : ∀ b ∈ fp, b < s2.heap.objs.size := fun b hb => by obtain ⟨o, e, _⟩ := T.obj 0 _ st2 b hb; exact Heap.lt_size e
  have fpst : ∀ b ∈ fp, b ∉ frs X.stack := fun b hb hz => by
    rcases List.mem_cons.mp (I2.gN b hz) with e | e
    · exact (f2 b hb).2.1 e
    · exact (f2 b hb).2.2.1 e
  obtain ⟨s3, hs3⟩ : ∃ s3 : Shared, s3 = { s2 with heap := hp3 } := ⟨_, rfl⟩
  obtain ⟨H3, hH3⟩ : ∃ H3 : Hp, H3 = upd H2 s2.heap.objs.size (.lst []) := ⟨_, rfl⟩
  have heap3 : s3.heap = hp3 := by rw [hs3]
  rw [← hH3] at I3
  have I3' : Inv X pins σ H3 s3 := by rw [hs3]; exact I3
  have hloc : H3 hp3.objs.size = none := by have := I3'.hok.fresh (a := hp3.objs.size) (by rw [heap3]; exact Nat.le_refl _); exact this
  have okc : (az X (N' ++ [gx]) scope cl fp s3 H3).Ok := by
    refine ⟨I3.ok.mod, ?_, I3.ok.glob, I3.ok.blt, Nat.le_refl _, fun x y a h1 h2 => I3.ok.inj x y a (hcl x a h1) (hcl y a h2), fun x hx => hhas x hx, fun x a h => (nomatch h), I3.ok.hd, I3.ok.qt, I3.ok.frames, .inl rfl, fun b hb => ⟨?_, fun x a h => (f2 b hb).2.2.2.2.1 x a (hcl x a h)⟩,
      I3'.bs, Nat.le_trans I3.ok.bsz I3'.sz, fun b o e hb => ?_, fun b hb => fpst b hb, I3'.stack, I3'.jN⟩
    · exact hkind
    · show b ≠ s3.heap.objs.size
      rw [heap3, hsz3]
      exact Nat.ne_of_lt (Nat.lt_succ_of_lt (fplt b hb))
    · rcases (f2 b hb).2.2.2.1 with z | z
      · exact I3.ok.rW b o e z
      · exact absurd (Nat.lt_of_lt_of_le (Heap.lt_size (I3.ok.bs b o e).1) z) (Nat.lt_irrefl _)
  have I4 : Inv (az X (N' ++ [gx]) scope cl fp s3 H3) [] (aO cap σ ++ [some .non]) H3 { s2 with heap := h₁, toks := s2.toks + ([] : List (Str × Value)).length } := by
    refine ⟨okc, by show s2.os = s3.os; rw [hs3], I3.bare, Un.kept (by show ∀ b o, s3.heap.get? b = some o → _; rw [heap3]; exact kept3), ⟨_, (by show h₁.Ns s3.heap.objs.size _; rw [heap3]; exact hns₁), fun i x v e1 e2 e3 => ?_⟩, fun x a h => ?_, (by show H3 s3.heap.objs.size = none; rw [heap3]; exact hloc), fun x a h => I3.dJ x a (hcl x a h), fun p hp => ?_, I3.hok.kept kept3, ?_⟩
    · have lenS : (aO cap σ).length = N'.length := by unfold aO; rw [List.length_map]; exact hlen
      have hlt : i < N'.length := by
        rcases Nat.lt_trichotomy i N'.length with z | z | z
        · exact z
        · exfalso
          have e1' : (N' ++ [gx])[i]? = some x := e1
          rw [z, List.getElem?_append_right (Nat.le_refl _), Nat.sub_self] at e1'
          have : gx = x := by simpa using e1'
          subst this
          have e3' : Vis (relabel scope X.env) gx := e3
          rcases e3' with q | q | q <;> rw [hgx] at q <;> cases q
        · exfalso
          have e1' : (N' ++ [gx])[i]? = some x := e1
          rw [List.getElem?_eq_none (by simp; omega)] at e1'
          cases e1'
      have e1 : N'[i]? = some x := by have q : (N' ++ [gx])[i]? = some x := e1; rwa [List.getElem?_append_left hlt] at q
      have e2 : (aO cap σ)[i]? = some (some v) := by rwa [List.getElem?_append_left (by rw [lenS]; exact hlt)] at e2
      obtain ⟨j, h1, h2⟩ := gz e2
      obtain ⟨hN, hv, hnl, hk⟩ := hcap i j x h1 e1
      obtain ⟨m, _, hl⟩ := I3.loc
      obtain ⟨u, r, lk⟩ := hl j x v hN h2 hv
      refine ⟨u, r, .inr ⟨hk, ?_⟩⟩
      obtain ⟨a, ha⟩ := hhas x hk
      rcases lk with ⟨z, _⟩ | ⟨_, a', z1, z2⟩
      · exact absurd z hnl
      · have : a' = a := by have q := hcl x a ha; rw [z1] at q; exact Option.some.inj q
        subst this
        obtain ⟨o, ho, hd⟩ := z2
        exact ⟨a', ha, o, kept3 _ _ ho, hd⟩
    · obtain ⟨v, o, ho, hd⟩ := I3.cell x a (hcl x a h)
      exact ⟨v, o, kept3 _ _ ho, hd⟩
    · have hp' : p ∈ X.pn ++ pins := List.mem_append_left _ (by simpa using (show p ∈ X.pn ++ [] from hp))
      obtain ⟨z1, z2, z3, z4, z5⟩ := I3'.pin p hp'
      refine ⟨kept3 _ _ (by rw [← heap3]; exact z1), z2, (show p.1 ≠ s3.heap.objs.size from Nat.ne_of_lt (Heap.lt_size z1)), fun z => ?_, z5⟩
      rcases List.mem_cons.mp (I3'.gN p.1 z) with e | e
      · exact z3 e
      · exact z4 e
    · show (aO cap σ ++ [some V.non]).length = (N' ++ [gx]).length
      unfold aO
      rw [List.length_append, List.length_append, List.length_map, hlen]
      rfl
  have hμ1 : μ1 s2.heap.objs.size = none := S1.mu.free hfree2
  have sub1 : ∀ ys a ds, μ1 a = some ds → ao μ1 s2.heap.objs.size ys a = some ds := fun ys a ds e => by
    have : a ≠ s2.heap.objs.size := fun z => by rw [z, hμ1] at e; cases e
    rw [aJ this]; exact e
  obtain ⟨G, hG⟩ : ∃ G : PQ, G = fun K _ μ H => cE K μ H ρ σ := ⟨_, rfl⟩
  have hGr : ∀ u μ H, G X.K u μ H → cE X.K μ H ρ σ := fun u μ H h => by rw [hG] at h; exact h
  have S3r : St0 X.K H3 ρ μ1 σ := by rw [hH3]; exact S1.new hfree2
  have loop : codeAny (model X.prog X.w) X.A (.compLoop (.ListComp elt [⟨tg, iter, [], 0⟩] scope pos) 0 (.ref it) (.ref s2.heap.objs.size) (az X (N' ++ [gx]) scope cl fp s3 H3).env)
      (compPost (model X.prog X.w) X.A X.xe none (EP X pins σ Q) (.ref s2.heap.objs.size) hp3.objs.size) { s2 with heap := h₁, toks := s2.toks + ([] : List (Str × Value)).length } := by
    refine cj (fun n s' => ∃ (i : Nat) (σc : St) (Hc : Hp), n = xs.length - i ∧ i ≤ xs.length ∧ Inv (az X (N' ++ [gx]) scope cl fp s3 H3) [] σc Hc s' ∧ tn i s'.heap ∧ (∀ b ∈ fp, Hc b = none) ∧
      St0 X.K Hc (aO cap ρ ++ [some (D.q G)]) (ao μ1 s2.heap.objs.size ((List.range i).map f)) σc ∧ Ext X.K μ1 H2 (ao μ1 s2.heap.objs.size ((List.range i).map f)) Hc) ?_ xs.length
      ⟨0, aO cap σ ++ [some .non], H3, by simp, Nat.zero_le _, I4, T.keep 0 _ _ st2 (fun b hb o e => kept3 b o (old3 b o e)), fun b hb => ?_, ?_, ?_⟩
    · rintro n s' ⟨i, σc, Hc, rfl, hi, Ic, tc, frc, Sc, Ec⟩
      have stat : ∀ {Hd : Hp}, (∀ b ∈ fp, Hd b = none) → ∀ b ∈ fp, oJ (az X (N' ++ [gx]) scope cl fp s3 H3) [] Hd b := fun hn b hb =>
        ⟨hn b hb, (okc.exf b hb).1, fpst b hb, .inl hb, fun x a h => (okc.exf b hb).2 x a h, fun p hp => (f2 b hb).2.2.2.2.2 p (List.mem_append_left _ (by simpa using (show p ∈ X.pn ++ [] from hp)))⟩
      obtain ⟨go, stop⟩ := itok _ Hc Ec Sc.mu i
      by_cases hlt : i < xs.length
      · obtain ⟨g1, y1⟩ := go hlt
        refine thn (T.item (az X (N' ++ [gx]) scope cl fp s3 H3) rfl rfl rfl (fun z => z) i [] s' σc Hc (fun _ _ => False) Ic (stat frc) tc g1) fun r s4 ⟨u, hr, h4⟩ => ?_
        subst hr
        refine thn h4 fun _ s5 ⟨x, H5, I5, r5, y5, st5, fr5⟩ => ?_
        obtain ⟨d, hd, sm, rd⟩ := y1 x H5 y5
        have I5' := I5.pinned (stat fr5) (T.obj _ _ st5)
        have e5 : Ext X.K _ Hc _ H5 := .of_same (μ := ao μ1 s2.heap.objs.size ((List.range i).map f)) sm
        have S5 : St0 X.K H5 (aO cap ρ ++ [some (D.q G)]) (ao μ1 s2.heap.objs.size ((List.range i).map f)) σc := ⟨Sc.mu.xU e5 sm, Sc.rho.ext Sc.mu e5⟩
        obtain ⟨gt, pg, lg⟩ := hg fp s3 H3
        have hmem : d ∈ xs := List.mem_of_getElem? hd
        refine thn (pg _ s5 σc H5 x u (fun σ' H' => ∃ ρ' μ', Ext X.K (ao μ1 s2.heap.objs.size ((List.range i).map f)) H5 μ' H' ∧ St0 X.K H' ρ' μ' σ' ∧ Le (aO cap ρ ++ [some (D.q G)]) ρ' ∧ te ρ G ρ' μ' fun d' μ4 => μ4 = ao μ1 s2.heap.objs.size ((List.range i).map f) ∧ d' = .v (f i)) I5' r5
          (lg σc H5 (aO cap ρ ++ [some (D.q G)]) _ d x _ _ S5 rd (body G i d hd _ (sub1 _)) fun σ' ρ' μ' H' e' S' q => ⟨ρ', μ', e', S', q⟩)) fun _ s6 ⟨σ6, H6, I6, ρ6, μ6, e6, S6, le6, q6⟩ => ?_
        have again : ∀ {H9 : Hp} {s9 : Shared}, Inv (az X (N' ++ [gx]) scope cl fp s3 H3) ([] ++ jH fp s5.heap) σ6 H9 s9 → aZ X.K (ao μ1 s2.heap.objs.size ((List.range (i + 1)).map f)) H9 → cE X.K (ao μ1 s2.heap.objs.size ((List.range (i + 1)).map f)) H9 (aO cap ρ ++ [some (D.q G)]) σ6 →
            Ext X.K μ1 H2 (ao μ1 s2.heap.objs.size ((List.range (i + 1)).map f)) H9 → ∃ m, m < xs.length - i ∧ ∃ (i : Nat) (σc : St) (Hc : Hp), m = xs.length - i ∧ i ≤ xs.length ∧ Inv (az X (N' ++ [gx]) scope cl fp s3 H3) [] σc Hc s9 ∧ tn i s9.heap ∧ (∀ b ∈ fp, Hc b = none) ∧
              St0 X.K Hc (aO cap ρ ++ [some (D.q G)]) (ao μ1 s2.heap.objs.size ((List.range i).map f)) σc ∧ Ext X.K μ1 H2 (ao μ1 s2.heap.objs.size ((List.range i).map f)) Hc := fun {H9 s9} I9 m9 r9 e9 => by
          refine ⟨xs.length - (i + 1), by omega, i + 1, σ6, H9, rfl, hlt, I9.eP, T.keep _ _ _ st5 fun b hb o e => (I9.pin (b, o) (List.mem_append_right _ (List.mem_append_right _ (bD hb e)))).1, fun b hb => ?_, ⟨m9, r9⟩, e9⟩
          obtain ⟨o, e, _⟩ := T.obj _ _ st5 b hb
          exact (I9.pin (b, o) (List.mem_append_right _ (List.mem_append_right _ (bD hb e)))).2.1
        refine wpAny_tests_nil (lY ?_)
        · skip
          obtain ⟨t8, p8, l8⟩ := he fp s3 H3 pins σ ρ μ1 G I3' S3r (fun b hb x a h => (f2 b hb).2.2.2.2.1 x a h) hGr
          refine thn (p8 _ s6 σ6 H6 (fun v H' => ∃ y, Ext X.K μ6 H6 (ao μ1 s2.heap.objs.size ((List.range i).map f)) H' ∧ St0 X.K H' ρ6 (ao μ1 s2.heap.objs.size ((List.range i).map f)) σ6 ∧ Rp X.K (ao μ1 s2.heap.objs.size ((List.range i).map f)) H' y v ∧ f i = y) I6
            (l8 σ6 H6 ρ6 μ6 _ _ S6 q6 fun d' v μ8 H8 e8 S8 r8 q8 => ?_)) fun v s8 ⟨v8, H8, I8, r8, y, e8, S8, ry, fy⟩ => ?_
          · obtain ⟨rfl, rfl⟩ := q8
            exact ⟨_, e8, S8, r8, rfl⟩
          · obtain ⟨us, hacc, rus⟩ := S8.mu s2.heap.objs.size _ aB
            have hle : ((List.range i).map f).length ≤ 1000 := by rw [List.length_map, List.length_range]; omega
            refine thn (hR (X := az X (N' ++ [gx]) scope cl fp s3 H3) _ s8 σ6 H8 (.ref s2.heap.objs.size) [v8] (.ref s2.heap.objs.size) [v] (fun _ H' => H' = upd H8 s2.heap.objs.size (.lst (us ++ [v8]))) I8 rfl (.cons r8 .nil) ⟨_, us, v8, rfl, rfl, hacc, by rw [← rus.length]; exact cx hle, rfl⟩) fun _ s9 ⟨_, H9, I9, _, e9⟩ => ?_
            subst e9
            have et : (List.range (i + 1)).map f = (List.range i).map f ++ [y] := by rw [List.range_succ, List.map_append, ← fy]; rfl
            have mset : ao (ao μ1 s2.heap.objs.size ((List.range i).map f)) s2.heap.objs.size ((List.range (i + 1)).map f) = ao μ1 s2.heap.objs.size ((List.range (i + 1)).map f) := i9
            have ex : Ext X.K (ao μ1 s2.heap.objs.size ((List.range i).map f)) H8 (ao μ1 s2.heap.objs.size ((List.range (i + 1)).map f)) (upd H8 s2.heap.objs.size (.lst (us ++ [v8]))) := by
              rw [← mset]
              exact gS aB
            refine again I9 ?_ ((S8.rho.le le6).ext S8.mu ex) (Ec.trans (e5.trans (e6.trans (e8.trans ex))))
            rw [← mset]
            refine S8.mu.set aB ?_
            rw [et]
            exact rus.append (.cons ry .nil)
      · have ei : i = xs.length := by omega
        subst ei
        refine thn (T.done (az X (N' ++ [gx]) scope cl fp s3 H3) rfl rfl rfl (fun z => z) _ [] s' σc Hc (fun _ _ => False) Ic (stat frc) tc (stop rfl)) fun r s4 ⟨hr, I5⟩ => ?_
        subst hr
        obtain ⟨m, hn, _⟩ := I5.loc
        refine ⟨m, (by have z : s4.heap.Ns s3.heap.objs.size m := hn; rw [heap3] at z; exact z), fun h' hs' => ?_⟩
        have kp : ∀ b o, b < s2.heap.objs.size → s4.heap.get? b = some o → h'.get? b = some o := fun b o hb e => hs'.extBut b o (by rw [hsz3]; exact Nat.ne_of_lt (Nat.lt_succ_of_lt hb)) e
        have hcC : Hc hp3.objs.size = none := by have z : Hc s3.heap.objs.size = none := I5.free; rw [heap3] at z; exact z
        have hok' : HOk X.prog X.w Hc h' := fun b ob e => by
          refine (I5.hok b ob e).mm (fun cc v hcc q => hs'.extBut cc v ?_ q) (fun _ q => q) fun _ _ q => q
          rintro rfl
          rcases hcc with z | z
          · rw [← z, hcC] at e; cases e
          · rw [hcC] at z; cases z
        have u1 : Un (frs X.stack) fp H2 H3 s2.heap s3.heap := by rw [heap3, hH3]; exact Un.laid old3 (Nat.le_refl _) hfree2
        have u2 : Un (frs X.stack) fp H3 Hc s3.heap s4.heap := I5.base
        have If : Inv X pins σ Hc { s4 with heap := h' } := I2.pb (ch := fp) (by show s4.os = s2.os; have z : s4.os = s3.os := I5.os; rw [z, hs3]) (Un.after (u1.trans u2) kp) hok' I5.bare fun b hb => ⟨(f2 b hb).2.2.2.1, (f2 b hb).2.1, (f2 b hb).2.2.2.2.1, (f2 b hb).2.2.2.2.2⟩
        obtain ⟨us, hacc, rus⟩ := Sc.mu s2.heap.objs.size _ aB
        have shr : ∀ a, ao μ1 s2.heap.objs.size ((List.range xs.length).map f) a = none → μ1 a = none := fun a e => by
          by_cases ha : a = s2.heap.objs.size
          · rw [ha]; exact hμ1
          · rw [aJ ha] at e; exact e
        have eF : Ext X.K μ1 H2 μ1 Hc := ⟨Ec.keep, Ec.tb, fun _ ds q => ⟨ds, q⟩, fun _ q _ => q⟩
        have mF : aZ X.K μ1 Hc := ⟨fun a ds q => by
          obtain ⟨ys, z1, z2⟩ := Sc.mu a ds (sub1 _ a ds q)
          exact ⟨ys, z1, z2.shrink shr⟩, Sc.mu.tab⟩
        exact ⟨.ref s2.heap.objs.size, Hc, If, rfl, k (.v (.list ((List.range xs.length).map f))) _ μ1 Hc (e1.trans eF) ⟨mF, S1.rho.ext S1.mu eF⟩ (Rp.list hacc hμ1 (rus.shrink shr)) fin⟩
    · have z : b ≠ s2.heap.objs.size := Nat.ne_of_lt (fplt b hb)
      rw [hH3, aT z]
      exact (f2 b hb).1
    · have ex := dq (o := .lst []) (ds := []) S1.mu hfree2 hK2
      rw [hH3]
      exact ⟨S1.mu.mut .nil hfree2 hK2, Dx (S1.rho.ext S1.mu ex).cap (fun μ' H' e' => by rw [hG]; exact (S1.rho.ext S1.mu ex).ext (S1.mu.mut .nil hfree2 hK2) e')⟩
    · rw [hH3]
      exact dq (o := .lst []) (ds := []) S1.mu hfree2 hK2
  have envE : (az X (N' ++ [gx]) scope cl fp s3 H3).env = compEnvC scope cl hp3.objs.size X.env := by show compEnvC scope cl s3.heap.objs.size X.env = _; rw [heap3]
  rw [envE] at loop
  exact codeAny_compStart_list loop (T.self X.A 0 _ _ _ (T.keep 0 _ _ st2 (fun b hb o e => kept3 b o (old3 b o e))) loop)
open PySem PySem.Spec PyProof.Rows
structure yq where
  P : PQ
  cap : List (Option Nat)
  tx : DTX
  nm : PyData
def B7 (ρo : Rho) (G : PQ) (gi vi : Nat) (tb : List yq) : DTE := fun ρ μ Q => ρ[gi]? = some (some (.q G)) ∧ ∃ e ∈ tb, ρ[vi]? = some (some (.q e.P)) ∧ e.tx (aO e.cap ρo) μ fun μ' => Q (.v e.nm) μ'
def xR (X : Cx) (k : Nat) (f : Addr) (fd : FuncData) (dn : Str) (e : yq) : Prop :=
  ∃ (C : Value) (q : Str) (params : Arguments) (body : Expr) (lsc : Scope) (cl : List (Str × Addr)) (N' : List Str) (nm : Str), e.nm = .str nm ∧ e.P = El q params body lsc cl ∧ tN X.prog X.w X.K X.mg X.base k f fd dn C nm ∧
    (∀ (A' : Around) (outer' : List Env) (s' : Shared) (H' : Hp) (fa c1 : Addr) (E : XK), dO (k - 1) (j3 X.prog X.w X.K X.mg X.base N' lsc cl (aM q) fa c1 A' outer' s' H' E).A → XE (j3 X.prog X.w X.K X.mg X.base N' lsc cl (aM q) fa c1 A' outer' s' H' E) E C body e.tx) ∧
    (∀ (pm ctv : Value) (c1 : Addr), bindArgs (PySem.W.kla_fn "<lambda>" (aM q) params body lsc cl pm (.ref c1) ctv) ⟨[], []⟩ = pure []) ∧ lsc.kind = .function ∧ lsc.isCoroutine = false ∧ lsc.isGenerator = false ∧ (∀ y ∈ lsc.names, y.2 ≠ .cell) ∧
    (∀ x a, cl.lookup x = some a → X.env.cells.lookup x = some a) ∧ (∀ x, lsc.names.lookup x = some .cell ∨ lsc.names.lookup x = some .free → ∃ a, cl.lookup x = some a) ∧ e.cap.length = N'.length ∧
    (∀ (i j : Nat) (x : Str), e.cap[i]? = some (some j) → N'[i]? = some x → X.N[j]? = some x ∧ Vis X.env.scope x ∧ X.env.kindOf x ≠ some .local ∧ lsc.names.lookup x = some .free)
theorem EA {X : Cx} {k : Nat} {f : Addr} {fd : FuncData} {dn q nm : Str} {C : Value} {params : Arguments} {body : Expr} {lsc : Scope} {cl : List (Str × Addr)} {N' : List Str} {cap : List (Option Nat)} {tx : DTX}
    (R : tN X.prog X.w X.K X.mg X.base k f fd dn C nm) (he : ∀ (A' : Around) (outer' : List Env) (s' : Shared) (H' : Hp) (fa c1 : Addr) (E : XK), dO (k - 1) (j3 X.prog X.w X.K X.mg X.base N' lsc cl (aM q) fa c1 A' outer' s' H' E).A → XE (j3 X.prog X.w X.K X.mg X.base N' lsc cl (aM q) fa c1 A' outer' s' H' E) E C body tx)
    (hbind : ∀ (pm ctv : Value) (c1 : Addr), bindArgs (PySem.W.kla_fn "<lambda>" (aM q) params body lsc cl pm (.ref c1) ctv) ⟨[], []⟩ = pure [])
    (hkind : lsc.kind = .function) (hco : lsc.isCoroutine = false) (hgen : lsc.isGenerator = false) (hcell : ∀ y ∈ lsc.names, y.2 ≠ .cell) (hcl : ∀ x a, cl.lookup x = some a → X.env.cells.lookup x = some a) (hhas : ∀ x, lsc.names.lookup x = some .cell ∨ lsc.names.lookup x = some .free → ∃ a, cl.lookup x = some a)
    (hlen : cap.length = N'.length) (hcap : ∀ (i j : Nat) (x : Str), cap[i]? = some (some j) → N'[i]? = some x → X.N[j]? = some x ∧ Vis X.env.scope x ∧ X.env.kindOf x ≠ some .local ∧ lsc.names.lookup x = some .free) :
    xR X k f fd dn ⟨El q params body lsc cl, cap, tx, .str nm⟩ := ⟨C, q, params, body, lsc, cl, N', nm, rfl, rfl, R, he, hbind, hkind, hco, hgen, hcell, hcl, hhas, hlen, hcap⟩
def tW (X : Cx) (k : Nat) (f : Addr) (fd : FuncData) (dn : Str) (tb : List yq) : Prop := ∀ e ∈ tb, xR X k f fd dn e
theorem Bb {X : Cx} {k : Nat} {f : Addr} {fd : FuncData} {dn : Str} : tW X k f fd dn [] := fun _ h => nomatch h
theorem tD {X : Cx} {k : Nat} {f : Addr} {fd : FuncData} {dn : Str} {e : yq} {tb : List yq} (h : xR X k f fd dn e) (t : tW X k f fd dn tb) : tW X k f fd dn (e :: tb) := fun x hx => by
  rcases List.mem_cons.mp hx with rfl | hx
  · exact h
  · exact t x hx
theorem yt {X : Cx} {k : Nat} {f : Addr} {fd : FuncData} {dn rn vn : Str} {N₁ : List Str} {scope : Scope} {cl₀ : List (Str × Addr)} {fp : List Addr} {s₃ : Shared} {H₃ : Hp} {pins : List (Addr × Obj)} {σ : St} {ρo : Rho} {G : PQ} {gi vi : Nat} {tb : List yq} {p pv pos : Pos}
    (I3 : Inv X pins σ H₃ s₃) (hfp : ∀ b ∈ fp, ∀ x a, X.env.cells.lookup x = some a → a ≠ b) (hG : ∀ u μ H, G X.K u μ H → cE X.K μ H ρo σ) (T : tW X k f fd dn tb)
    (hr : dO (k + 1) X.A) (hk0 : 0 < k) (hg : Gl (az X N₁ scope cl₀ fp s₃ H₃) rn) (hm : X.mg rn = some (.ref f)) (hk : PySem.W.keepIn X.K (.ref f) = true) (hb : Binds X.K fd [dn] [])
    (hN : N₁[vi]? = some vn) (hv : Vis (az X N₁ scope cl₀ fp s₃ H₃).env.scope vn)
    (hdb : (rn == ("__debug__" : Str)) = false := by decide) (hd : (vn == ("__debug__" : Str)) = false := by decide) (hcd : (vn == ("__classdict__" : Str)) = false := by decide)
    (hst : starEach [.Name vn pv] (az X N₁ scope cl₀ fp s₃ H₃).env = [(false, eval (.Name vn pv) (az X N₁ scope cl₀ fp s₃ H₃).env)] := by rfl) :
    DE (az X N₁ scope cl₀ fp s₃ H₃) (.Call (.Name rn p) [.Name vn pv] [] pos) (B7 ρo G gi vi tb) := by
  refine qK fun pins' s' σ' H' ρ' μ' Qd Q I S h kk => ?_
  obtain ⟨hgi, e, he, hvi, htx⟩ := h
  obtain ⟨C, q, params, body, lsc, cl, N', nm, hnm, hP, R, hbody, hbind, hkind, hco, hgen, hcell, hcl, hhas, hlen, hcap⟩ := T e he
  obtain ⟨ug, hug, rg⟩ := S.rho.2 gi _ hgi
  have rr : cE X.K μ' H' ρo σ := hG ug μ' H' (rg μ' H' .refl)
  obtain ⟨ul, hul, rl⟩ := S.rho.2 vi _ hvi
  rw [hP] at rl
  rw [hnm] at htx
  obtain ⟨fa, c1, rfl, hfa, hc1, n1, n2⟩ := rl μ' H' .refl
  refine wpAny_Call_Name_kw (ll I hg hm ?_ hdb)
  have pa : PA (az X N₁ scope cl₀ fp s₃ H₃) [.Name vn pv] (Ew (Fo vi) H0) := fb (xZ hN hv hd hcd) kL (by rw [hst]; rfl)
  refine PySem.W.callWith_K (h₀ := X.base) I.ok.mod.kin hk (thn (pa pos pins' s' σ' H' (fun xs H1 => xs = [.ref fa] ∧ H1 = H') I ⟨.ref fa, hul, rfl, rfl⟩) fun us s1 ⟨vs, H1, I1, r, z1, z2⟩ => ⟨I1.kIn, ?_⟩) (by rw [hst]; rfl) rfl
  subst z1 z2
  obtain rfl : us = [.ref fa] := by
    cases r with
    | cons r1 r2 => cases r2; cases r1; rfl
  refine wpAny_call (codeAny_mono (R.run X.A X.stack s1 H1 fa (fun H' => ∃ μ'', Ext X.K μ' H1 μ'' H' ∧ aZ X.K μ'' H' ∧ Qd (.v (.str nm)) μ'') Q hr I1.D1 (hb s1 [.ref fa] I1.kIn rfl) (fun A' outer' s' hr' e0' un => ?_) fun H' ⟨μ'', e', ok', q'⟩ => ?_) fun r s' hq' => ?_)
  · obtain ⟨⟨pm, ctv, ho'⟩, _, _⟩ := e0'.hok fa _ hfa
    refine ⟨⟨_, _, _, _, ho'⟩, ?_⟩
    obtain ⟨k', rfl⟩ : ∃ k', k = k' + 1 := ⟨k - 1, by omega⟩
    obtain ⟨t, pe, l⟩ := hbody A' outer' s' H1 fa c1 (fun cls _ H' => cls = C ∧ ∃ μ'', Ext X.K μ' H1 μ'' H' ∧ aZ X.K μ'' H' ∧ Qd (.v (.str nm)) μ'') (hr'.deeper _)
    have base : Un (az X N₁ scope cl₀ fp s₃ H₃).fs fp H₃ H1 s₃.heap s1.heap := I1.base
    have nfp : ∀ x cc, X.env.cells.lookup x = some cc → cc ∉ fp := fun x cc hx z => hfp cc z x cc hx rfl
    have frC : ∀ x cc, X.env.cells.lookup x = some cc → H1 cc = none := fun x cc hx => by
      obtain ⟨v, oc, ec, dc⟩ := I3.cell x cc hx
      exact base.free cc oc ec (I3.dJ x cc hx) (nfp x cc hx)
    have cellK : ∀ x cc v, X.env.cells.lookup x = some cc → s₃.heap.IsCell cc v → s'.heap.IsCell cc v := fun x cc v hx ⟨oc, ec, dc⟩ => by
      obtain ⟨sl, e2⟩ := base.any ec (I3.dJ x cc hx) (nfp x cc hx)
      obtain ⟨sl', e3⟩ := un.any e2 (frC x cc hx) (fun z => nomatch z)
      exact ⟨_, e3, dc⟩
    refine wg (σ := aO e.cap σ) (N := N') hkind hco hgen hcell hr' e0' ho' hc1 (hbind pm ctv c1) ⟨fun x cc hx => ?_, fun x cc hx => frC x cc (hcl x cc hx), fun x y cc h1 h2 => I3.ok.inj x y cc (hcl x cc h1) (hcl y cc h2), hhas, fun i x v h1 h2 h3 => ?_, ?_⟩ pe (l _ H1 (aO e.cap ρo) μ' (fun μ'' => Qd (.v (.str nm)) μ'') _ ⟨S.mu, rr.cap⟩ htx fun μ'' H' e' ok' q' => ⟨rfl, μ'', e', ok', q'⟩)
    · obtain ⟨v, hv⟩ := I3.cell x cc (hcl x cc hx)
      exact ⟨v, cellK x cc v (hcl x cc hx) hv⟩
    · obtain ⟨j, j1, j2⟩ := gz h2
      obtain ⟨hN, hv, hnl, hfree⟩ := hcap i j x j1 h1
      obtain ⟨m, _, hll⟩ := I3.loc
      obtain ⟨u, ru, lk⟩ := hll j x v hN j2 hv
      obtain ⟨a, ha⟩ := hhas x (.inr hfree)
      rcases lk with ⟨z, _⟩ | ⟨_, a', z1, z2⟩
      · exact absurd z hnl
      · obtain rfl : a' = a := by have qq := hcl x a ha; rw [z1] at qq; exact Option.some.inj qq
        exact ⟨u, a', ru, hfree, ha, cellK x a' _ z1 z2⟩
    · unfold aO; rw [List.length_map]; exact hlen
  · exact ⟨μ'', ok', fun H'' e'' ok'' => kk (.v (.str nm)) (.str nm) μ'' H'' (e'.trans e'') ⟨ok'', S.rho.ext S.mu (e'.trans e'')⟩ (Rp.str nm) q'⟩
  · cases r with
    | error e => exact hq'.elim
    | ok fl =>
      cases fl with
      | ret u => exact I1.after hq'
      | next => exact hq'.elim
      | brk => exact hq'.elim
      | cont => exact hq'.elim
theorem Aq {ρ : Rho} {μ : Mu} {Q : DK} {i : Nat} {tb : List yq} {nm : Str} (hi : ρ[i]? = some (some (.q (QL (tb.map fun e => .q e.P))))) (hl : tb.length ≤ 1000) (hnm : ∀ e ∈ tb, e.nm = .str nm) (hs : SeqAt.shaped (.str nm) = true)
    (htx : ∀ e ∈ tb, ∀ μ' : Mu, (∀ a es, μ a = some es → μ' a = some es) → ∀ Xk : Mu → Prop, Xk μ' → e.tx (aO e.cap ρ) μ' Xk) (q : Q (.v (.list ((List.range tb.length).map fun _ => .bool true))) μ) :
    uo [none] (ah i) (aw 0) (fun ρo G => dOp (cu false) (B7 ρo G 1 0 tb) (dC (.str nm))) ρ μ Q := by
  unfold uo diQ ah
  rw [hi]
  refine ⟨_, rfl, by rw [List.length_map]; exact hl, fun _ => .bool true, fun G j x hx μ' sub => ⟨⟨rfl, trivial⟩, rfl, ?_⟩, by rw [List.length_map]; exact q⟩
  rw [List.getElem?_map] at hx
  cases he : tb[j]? with
  | none => rw [he] at hx; cases hx
  | some e =>
    rw [he] at hx
    cases hx
    have hm := List.mem_of_getElem? he
    refine ⟨e, hm, rfl, htx e hm μ' sub _ ?_⟩
    rw [hnm e hm]
    exact ⟨hs, hs, rfl, by rw [SeqAt.eqv_refl _ (SeqAt.canLay_of_shaped hs)]; rfl⟩
theorem Jo {P : PQ} {ρ : Rho} {μ : Mu} {Q : DK} : dKq P ρ μ Q = Q (.q P) μ := propext Iff.rfl
theorem Gs {t : DTA} {ρ : Rho} {μ : Mu} {Q : DK} : A1 t ρ μ Q = t ρ μ fun ds μ1 => Q (.q (QL ds)) μ1 := propext Iff.rfl
open PySem PySem.Spec PyProof.Rows
section
variable {X : Cx} {o e : Expr} {to te : DTE} {apos cpos : Pos}
end
section
variable {X : Cx} {E : XK} {C : Value} {a b : Expr} {tx : DTX} {pos : Pos}
end
section
variable {X : Cx}
end
open PySem PySem.Spec PyProof.Rows
section
variable {X : Cx}
end
open PySem PySem.Spec PyProof.Rows
mutual
theorem Rp.sub {K : PySem.W.Frag} {μ μ1 : Mu} {H : Hp} (h : ∀ a, μ1 a = none → μ a = none) : ∀ {d : PyData} {u : V}, Rp K μ1 H d u → Rp K μ H d u
  | _, _, .none => .none
  | _, _, .bool b => .bool b
  | _, _, .int i => .int i
  | _, _, .str x => .str x
  | _, _, .list a b c => .list a (h _ b) (RpL.sub h c)
  | _, _, .tuple a c => .tuple a (RpL.sub h c)
theorem RpL.sub {K : PySem.W.Frag} {μ μ1 : Mu} {H : Hp} (h : ∀ a, μ1 a = none → μ a = none) : ∀ {ds : List PyData} {us : List V}, RpL K μ1 H ds us → RpL K μ H ds us
  | _, _, .nil => .nil
  | _, _, .cons a b => .cons (Rp.sub h a) (RpL.sub h b)
end
def uB (tx : DTX) : DTX := fun ρ μ Xk => tx ρ μ fun μ' => (∀ a ds, μ a = some ds → μ' a = some ds) ∧ Xk μ
theorem tu {X : Cx} {E : XK} {C : Value} {e : Expr} {tx : DTX} (h : XE X E C e tx) : XE X E C e (uB tx) := by
  obtain ⟨t, p, l⟩ := h
  refine ⟨t, p, fun σ H ρ μ Xk Q S ht w => l σ H ρ μ _ Q S ht fun μ' H' e ok ⟨sub, x⟩ => w μ H' ⟨e.keep, e.tb, fun b ds z => ⟨ds, z⟩, fun _ z _ => z⟩ ⟨fun a ds z => ?_, ok.tab⟩ x⟩
  obtain ⟨xs, h1, h2⟩ := ok.lst a ds (sub a ds z)
  refine ⟨xs, h1, h2.sub fun b hb => ?_⟩
  cases z' : μ b with
  | none => rfl
  | some es => rw [sub b es z'] at hb; cases hb
open PySem PySem.Spec PyProof.Rows
def rf (μ μ' : Mu) : Prop := ∀ b ds, μ b = some ds → μ' b = some ds
theorem rf.refl {μ : Mu} : rf μ μ := fun _ _ e => e
theorem rf.trans {μ μ1 μ2 : Mu} (h : rf μ μ1) (g : rf μ1 μ2) : rf μ μ2 := fun b ds e => g b ds (h b ds e)
theorem rf.set {μ μ' : Mu} {p : Addr} {ds : List PyData} (h : rf μ μ') (n : μ p = none) : rf μ (ao μ' p ds) := fun b es e => by
  have : b ≠ p := fun z => by rw [z, n] at e; cases e
  rw [aJ this]; exact h b es e
theorem rf.none {μ μ' : Mu} (h : rf μ μ') {b : Addr} (e : μ' b = none) : μ b = none := by
  cases z : μ b with
  | none => rfl
  | some ds => rw [h b ds z] at e; cases e
open PySem PySem.Spec PyProof.Rows
def QP (x : PyData) (a : Addr) : PQ := QT [.v x, .m a]
section
variable {K : PySem.W.Frag} {μ : Mu} {H : Hp}
theorem Gr {x : PyData} {u : V} (r : Rp K μ H x u) : Rp K (fun _ => none) H x u := r.sub fun _ _ => rfl
theorem Jh {a : Addr} {es : List PyData} (ok : aZ K μ H) (h : μ a = some es) : Rp K (fun _ => none) H (.list es) (.ref a) := by
  obtain ⟨xs, h1, h2⟩ := ok.lst a es h
  exact .list h1 rfl (h2.sub fun _ _ => rfl)
theorem HP {x : PyData} {a : Addr} {u : V} (r : RpD K μ H (.q (QP x a)) u) : ∃ p ux, u = .ref p ∧ SqT K H p [ux, .ref a] ∧ Rp K μ H x ux ∧ ∃ ds, μ a = some ds := by
  obtain ⟨p, us, rfl, hp, rs⟩ := r μ H .refl
  cases rs with
  | cons r1 r2 =>
    cases r2 with
    | cons r2 r3 =>
      cases r3
      obtain ⟨rfl, ds, hd⟩ := r2
      exact ⟨p, _, rfl, .inl (.inl hp), r1, ds, hd⟩
def nX : D → D → Mu → DK → Prop := fun x y μ Q => match x, y with
  | .q P, .v (.int i) => ∃ z a, P = QP z a ∧ ((i = 0 ∧ Q (.v z) μ) ∨ (i = 1 ∧ Q (.m a) μ))
  | x, y => aX x y μ Q
theorem Fu : da K (rIx K) nX := by
  intro x y ux uy H μ Qd Q ok rx ry h k
  unfold nX at h
  split at h
  · obtain ⟨z, a, rfl, h⟩ := h
    cases ry
    obtain ⟨p, u, rfl, hp, r1, ds, hd⟩ := HP rx
    rcases h with ⟨rfl, h⟩ | ⟨rfl, h⟩
    · exact .inr (.inl ⟨p, _, 0, u, rfl, rfl, hp, rfl, k (.v z) u μ H .refl ok r1 h⟩)
    · exact .inr (.inl ⟨p, _, 1, .ref a, rfl, rfl, hp, rfl, k (.m a) _ μ H .refl ok ⟨rfl, ds, hd⟩ h⟩)
  · exact Es x y ux uy H μ Qd Q ok rx ry h k
def AJ (neg : Bool) : D → D → Mu → DK → Prop := fun x y μ Q => match x, y with
  | .m a, .v b => ∃ es, μ a = some es ∧ SeqAt.shaped (.list es) = true ∧ SeqAt.shaped b = true ∧ Q (.v (.bool (neg ^^ PyData.eqv (.list es) b))) μ
  | x, y => cu neg x y μ Q
theorem Cj {neg : Bool} : da K (D9 K neg) (AJ neg) := by
  intro x y ux uy H μ Qd Q ok rx ry h k
  unfold AJ at h
  split at h
  · rename_i a b
    obtain ⟨es, hm, s1, s2, h⟩ := h
    obtain ⟨rfl, _⟩ := rx
    exact ⟨_, _, _, Jh ok hm, Gr ry, s1, s2, k (.v _) _ μ H .refl ok (Rp.bool _) h⟩
  · exact bA x y ux uy H μ Qd Q ok rx ry h k
end
section
variable {X : Cx} {a b e : Expr} {ta tb te : DTE} {pos p : Pos} {T : String}
theorem nS (ha : DE X a ta) (hb : DE X b tb) (hs : uJ b) : DE X (.Subscript a b pos) (dOp nX ta tb) := by
  obtain ⟨t1, p1, l1⟩ := ha
  obtain ⟨t2, p2, l2⟩ := hb
  exact ⟨_, ET BA p1 p2 hs, mU Fu l1 l2⟩
end
theorem GI {x : PyData} {d : D} {μ : Mu} {Q : DK} : nX (.v x) d μ Q = aX (.v x) d μ Q := by unfold nX; rfl
theorem Gb {neg : Bool} {x : PyData} {d : D} {μ : Mu} {Q : DK} : AJ neg (.v x) d μ Q = cu neg (.v x) d μ Q := by unfold AJ; rfl
end L2.DL
set_option Elab.async false
set_option linter.all false
set_option maxRecDepth 100000
set_option maxHeartbeats 4000000
namespace L2
open PySem PySem.W PyProof.Rows
section
variable {X : Cx} {a b c d : Expr} {ta tb tc td : TE} {pos : Pos}
def DB (r r' r'' : R2) (ta tb tc td : TE) : TE := fun σ H Q => ta σ H fun x H1 => tb σ H1 fun y H2 => r x y H2 fun z H3 => ∃ k, z = .bl k ∧
  (if k = true then tc σ H3 fun w' H4 => r' y w' H4 fun z H5 => ∃ k, z = .bl k ∧ (if k = true then td σ H5 fun v' H6 => r'' w' v' H6 Q else Q (.bl false) H5) else Q (.bl false) H3)
theorem Ay {op op' op'' : CmpOp} {r r' r'' : R2} (ho : OpR X (compareOp op) r) (ho' : OpR X (compareOp op') r') (ho'' : OpR X (compareOp op'') r'') (ha : PE X a ta) (hb : PE X b tb) (hc : PE X c tc) (hd : PE X d td)
    (hm : lastMarks [op, op', op''] [b, c, d] = false := by with_unfolding_all rfl) : PT X (.Compare a [op, op', op''] [b, c, d] pos) (zP (DB r r' r'' ta tb tc td)) := by
  intro pins s σ H Q I h
  refine isTrue_chain (thn (ha pins s σ H _ I h) fun v s1 ⟨x, H1, I1, r1, q1⟩ => test_link (thn (hb pins s1 σ H1 _ I1 q1) fun u s2 ⟨y, H2, I2, r2, q2⟩ =>
    thn (ho pins s2 σ H2 x y v u _ I2 r1 r2 q2) fun d s3 ⟨z, H3, I3, r3, k, e, q3⟩ => ?_)) hm
  subst e
  cases r3
  refine wpAny_truthy_bool ?_
  cases k with
  | false =>
    obtain ⟨k', e', q'⟩ := q3
    cases e'
    exact ite_ff ⟨H3, I3, q'⟩
  | true =>
    refine ite_tt (test_link (thn (hc pins s3 σ H3 _ I3 q3) fun w' s4 ⟨z', H4, I4, r4, q4⟩ => thn (ho' pins s4 σ H4 y z' u w' _ I4 r2 r4 q4) fun d' s5 ⟨z2, H5, I5, r5, k2, e2, q5⟩ => ?_))
    subst e2
    cases r5
    refine wpAny_truthy_bool ?_
    cases k2 with
    | false =>
      obtain ⟨k', e', q'⟩ := q5
      cases e'
      exact ite_ff ⟨H5, I5, q'⟩
    | true =>
      refine ite_tt (test_last (thn (hd pins s5 σ H5 _ I5 q5) fun v' s6 ⟨z3, H6, I6, r6, q6⟩ => thn (ho'' pins s6 σ H6 z' z3 w' v' _ I6 r4 r6 q6) fun d'' s7 ⟨z4, H7, I7, r7, k3, e3, q7⟩ => ?_))
      subst e3
      cases r7
      exact wpAny_truthy_bool ⟨H7, I7, q7⟩
end
end L2
namespace L2.DL
open PySem PySem.Spec PyProof.Rows
section
variable {X : Cx} {a b c d : Expr} {ta tb tc td : DTE} {pos : Pos}
def um (r r' r'' : D → D → Mu → DK → Prop) (ta tb tc td : DTE) : DTE := fun ρ μ Q => ta ρ μ fun x μ1 => tb ρ μ1 fun y μ2 => r x y μ2 fun z μ3 => match z with
  | .v (.bool k) => if k = true then tc ρ μ3 fun w μ4 => r' y w μ4 fun z μ5 => (match z with
      | .v (.bool k) => if k = true then td ρ μ5 fun v μ6 => r'' w v μ6 Q else Q (.v (.bool false)) μ5
      | _ => False) else Q (.v (.bool false)) μ3
  | _ => False
theorem Au {op op' op'' : CmpOp} {rr rr' rr'' : R2} {r r' r'' : D → D → Mu → DK → Prop} (ho : OpR X (compareOp op) rr) (lo : da X.K rr r) (ho' : OpR X (compareOp op') rr') (lo' : da X.K rr' r') (ho'' : OpR X (compareOp op'') rr'') (lo'' : da X.K rr'' r'') (ha : DE X a ta) (hb : DE X b tb) (hc : DE X c tc) (hd : DE X d td)
    (hm : lastMarks [op, op', op''] [b, c, d] = false := by with_unfolding_all rfl) : DT X (.Compare a [op, op', op''] [b, c, d] pos) (dB (um r r' r'' ta tb tc td)) := by
  obtain ⟨t1, p1, l1⟩ := ha
  obtain ⟨t2, p2, l2⟩ := hb
  obtain ⟨t3, p3, l3⟩ := hc
  obtain ⟨t4, p4, l4⟩ := hd
  refine ⟨_, Ay ho ho' ho'' p1 p2 p3 p4 hm, lu (fun σ H ρ μ Qd Q S h k => ?_)⟩
  refine l1 σ H ρ μ _ _ S h fun x ux μ1 H1 e1 S1 rx h1 => ?_
  refine l2 σ H1 ρ μ1 _ _ S1 h1 fun y uy μ2 H2 e2 S2 ry h2 => ?_
  refine lo x y ux uy H2 μ2 _ _ S2.mu (rx.ext S1.mu e2) ry h2 fun z uz μ3 H3 e3 ok3 rz h3 => ?_
  have S3 : St0 X.K H3 ρ μ3 σ := ⟨ok3, S2.rho.ext S2.mu e3⟩
  split at h3
  · rename_i kk
    cases rz
    refine ⟨kk, rfl, ?_⟩
    cases kk with
    | true =>
      refine lY ?_
      refine l3 σ H3 ρ μ3 _ _ S3 (by simpa using h3) fun w uw μ4 H4 e4 S4 rw' h4 => ?_
      refine lo' y w uy uw H4 μ4 _ _ S4.mu ((ry.ext S2.mu e3).ext S3.mu e4) rw' h4 fun z uz μ5 H5 e5 ok5 rz h5 => ?_
      have S5 : St0 X.K H5 ρ μ5 σ := ⟨ok5, S4.rho.ext S4.mu e5⟩
      have e15 := e1.trans (e2.trans (e3.trans (e4.trans e5)))
      split at h5
      · rename_i kk
        cases rz
        refine ⟨kk, rfl, ?_⟩
        cases kk with
        | true =>
          refine lY ?_
          refine l4 σ H5 ρ μ5 _ _ S5 (by simpa using h5) fun v uv μ6 H6 e6 S6 rv h6 => ?_
          exact lo'' w v uw uv H6 μ6 _ _ S6.mu ((rw'.ext S4.mu e5).ext S5.mu e6) rv h6 fun d u μ' H' e7 ok r q => k d u μ' H' (e15.trans (e6.trans e7)) ⟨ok, S6.rho.ext S6.mu e7⟩ r q
        | false => exact mV (k (.v (.bool false)) _ μ5 H5 e15 S5 (Rp.bool false) (by simpa using h5))
      · exact h5.elim
    | false => exact mV (k (.v (.bool false)) _ μ3 H3 (e1.trans (e2.trans e3)) S3 (Rp.bool false) (by simpa using h3))
  · exact h3.elim
theorem Be {r r' r'' : D → D → Mu → DK → Prop} {ρ : Rho} {μ : Mu} {Q : DK} : um r r' r'' ta tb tc td ρ μ Q = ta ρ μ (fun x μ1 => tb ρ μ1 fun y μ2 => r x y μ2 fun z μ3 => match z with
  | .v (.bool k) => if k = true then tc ρ μ3 fun w μ4 => r' y w μ4 fun z μ5 => (match z with
      | .v (.bool k) => if k = true then td ρ μ5 fun v μ6 => r'' w v μ6 Q else Q (.v (.bool false)) μ5
      | _ => False) else Q (.v (.bool false)) μ3
  | _ => False) := propext Iff.rfl
end
end L2.DL
namespace L2
open PySem PySem.W PyProof.Rows
section
variable {X : Cx}
theorem Hm {pins : List (Addr × Obj)} {σ : St} {H : Hp} {s : Shared} (I : Inv X pins σ H s) : X.K.lookup s.heap.objs.size = none := by
  cases c : X.K.lookup s.heap.objs.size with
  | none => rfl
  | some o => exact absurd (Heap.lt_size (I.kIn _ _ c)) (Nat.lt_irrefl _)
theorem xO : eV X (.type "list") (fun xs H Q => ∃ p ys, xs = [.ref p] ∧ (SqL X.K H p ys ∨ SqT X.K H p ys) ∧ ∀ l, H l = none → X.K.lookup l = none → Q (.ref l) (upd H l (.lst ys))) := by
  intro pins s σ H xs us Q I r h
  obtain ⟨p, ys, rfl, hq, q⟩ := h
  have hk := Hm I
  obtain ⟨u, rfl, rx⟩ := vals1 r
  cases rx
  have go : ∀ (A : Around) (E : Value → Shared → Prop) (its : List Value), Vals ys its → ys.length ≤ sizeLine → ∀ (o : Obj) (n : Nat), (o.cls = .type "list" ∨ o.cls = .type "tuple") → s.heap.get? p = some o → o.data = .seq its.toArray n → wpAny (model X.prog X.w) A (call (.type "list") [.ref p]) (EP X pins σ Q) E s := fun A E its rv hz o n hc ho hd => by
    have hlen := rv.length
    rcases hc with hc | hc
    · refine call_list_seq p (.inl rfl) ho hc hd (fun h' c' kp e => ⟨.ref s.heap.objs.size, _, I.laid (t' := s.toks) kp (Nat.le_refl _) ?_, rfl, q _ (I.hok.fresh (Nat.le_refl _)) hk⟩) (by rw [List.size_toArray]; omega)
      exact ⟨hz, its, c', rv, e⟩
    · refine call_list_seq p (.inr rfl) ho hc hd (fun h' c' kp e => ⟨.ref s.heap.objs.size, _, I.laid (t' := s.toks) kp (Nat.le_refl _) ?_, rfl, q _ (I.hok.fresh (Nat.le_refl _)) hk⟩) (by rw [List.size_toArray]; omega)
      exact ⟨hz, its, c', rv, e⟩
  rcases hq with hq | hq
  · obtain ⟨its, rv, pl, hz⟩ := I.list hq
    obtain ⟨o, ho, hc, n, hd⟩ := pl.isList
    exact go _ _ its rv hz o n (.inl hc) ho hd
  · obtain ⟨its, rv, pl, hz⟩ := I.tuple hq
    obtain ⟨o, ho, hc, n, hd⟩ := pl
    exact go _ _ its rv hz o n (.inr hc) ho hd
end
end L2
namespace L2.DL
open PySem PySem.Spec PyProof.Rows
def uO : List D → Mu → DK → Prop := fun xs μ Q => match xs with
  | [.v (.list ys)] => ∀ p, μ p = none → Q (.m p) (ao μ p ys)
  | [.v (.tuple ys)] => ∀ p, μ p = none → Q (.m p) (ao μ p ys)
  | [.m a] => ∃ ys, μ a = some ys ∧ ∀ p, μ p = none → Q (.m p) (ao μ p ys)
  | _ => False
theorem B9 {K : PySem.W.Frag} : k6 K (fun xs H Q => ∃ p ys, xs = [.ref p] ∧ (SqL K H p ys ∨ SqT K H p ys) ∧ ∀ l, H l = none → K.lookup l = none → Q (.ref l) (upd H l (.lst ys))) uO := by
  intro xs us H μ Qd Q ok rs h k
  have fin : ∀ (ys : List PyData) (vs : List V), RpL K μ H ys vs → (∀ p, μ p = none → Qd (.m p) (ao μ p ys)) → ∀ l, H l = none → K.lookup l = none → Q (.ref l) (upd H l (.lst vs)) := fun ys vs r q l hl hk =>
    k (.m l) _ (ao μ l ys) _ (dq (o := .lst vs) (ds := ys) ok hl hk) (ok.mut r hl hk) ⟨rfl, ys, aB⟩ (q l (ok.free hl))
  unfold uO at h
  split at h
  · cases rs with
    | cons r1 r2 =>
      cases r2
      cases r1 with
      | list hs hn r => exact ⟨_, _, rfl, .inl (SqL.of hs), fin _ _ r h⟩
  · cases rs with
    | cons r1 r2 =>
      cases r2
      cases r1 with
      | tuple hs r => exact ⟨_, _, rfl, .inr hs, fin _ _ r h⟩
  · cases rs with
    | cons r1 r2 =>
      cases r2
      obtain ⟨ys, hm, h⟩ := h
      obtain ⟨rfl, _⟩ := r1
      obtain ⟨vs, hl, r⟩ := ok.lst _ ys hm
      exact ⟨_, _, rfl, .inl (SqL.of hl), fin _ _ r h⟩
  · exact h.elim
theorem Cq {X : Cx} {e : Expr} {es : List Expr} {t : DTA} {pos p : Pos} (hg : Gl X "list") (hm : X.mg "list" = none) (ha : DA X (e :: es) t)
    (he : starEach (e :: es) X.env = (false, eval e X.env) :: starEach es X.env := by rfl) (hpl : (backTo pos (starEach es X.env)).any (·.1) = false := by rfl) : DE X (.Call (.Name "list" p) (e :: es) [] pos) (dCB uO t) :=
  lB xO B9 hg hm PyProof.Rows.Boot.«list» ha (by decide) (by decide) he hpl
open PySem PySem.Spec PyProof.Rows
section
variable {X : Cx} {a b : Expr} {ta tb : DTE} {pos : Pos}
theorem oN (l : Addr) (o : Obj) (items : Array Value) (n : Nat) (k : Int) (u : Tok) (hc : o.cls = .type "tuple") (hd : o.data = .seq items n) (h2 : 2 ≤ k) (h3 : k ≤ 1000) (he : items.isEmpty = false) (hz : items.size * k.toNat ≤ 4000) :
    Meets (Builtin.«tuple.__mul__» ⟨[.ref l, .int k u], []⟩) (fun _ R s => s.heap.get? l = some o ∧ R (.ok (.ret (Value.ref s.heap.objs.size))) { s with heap := s.heap.push { cls := Value.type "tuple", data := Data.seq (List.foldl (fun x1 x2 => x1 ++ x2) #[] (List.replicate k.toNat items)) }, toks := s.toks }) :=
  .of_wp fun prog w A R s h => by
    obtain ⟨hp, g, d, tk, os⟩ := s; obtain ⟨hl, h⟩ := h
    have c1 : ¬ (decide (k < -2 ^ 63) || decide (k ≥ 2 ^ 63)) = true := by simp; omega
    have c2 : ¬ (items.isEmpty || k == 1) = true := by rw [he]; simp; omega
    have c3 : ¬ (decide (k ≤ 0) || items.isEmpty) = true := by rw [he]; simp; omega
    have hp' : (items.size : Int) * k ≤ 4000 := by
      have : (items.size : Int) * k = ((items.size * k.toNat : Nat) : Int) := by rw [Int.natCast_mul]; congr 1; omega
      omega
    have c4 : ¬ (items.size : Int) * k > (2 ^ 63 - 1) / 8 := by
      have : ((2 : Int) ^ 63 - 1) / 8 > 4000 := by decide
      omega
    have c5 : ¬ Builtin.Tuple.tupleTooMany ((items.size : Int) * k) = true := by
      unfold Builtin.Tuple.tupleTooMany
      have : (4000 : Int) ≤ (sizeLine : Int) := by decide
      simp only [decide_eq_true_eq]; omega
    wp_walk
    rw [if_neg c1]
    wp_walk
    rw [hd]
    refine wpAny_pure (wpAny_pure ?_)
    show wpAny _ _ (if (items.isEmpty || k == 1) = true then _ else _) _ _ _
    rw [if_neg c2]
    show wpAny _ _ (if (decide (k ≤ 0) || items.isEmpty) = true then _ else _) _ _ _
    rw [if_neg c3]
    show wpAny _ _ (if (items.size : Int) * k > (2 ^ 63 - 1) / 8 then _ else _) _ _ _
    rw [if_neg c4]
    show wpAny _ _ (if Builtin.Tuple.tupleTooMany ((items.size : Int) * k) = true then _ else _) _ _ _
    rw [if_neg c5]
    have hsz : ¬ (List.foldl (fun x1 x2 => x1 ++ x2) #[] (List.replicate k.toNat items)).size > sizeLine := by
      have e : ∀ (m : Nat) (acc : Array Value), (List.foldl (fun x1 x2 => x1 ++ x2) acc (List.replicate m items)).size = acc.size + m * items.size := by
        intro m
        induction m with
        | zero => intro acc; simp
        | succ m ih => intro acc; rw [List.replicate_succ, List.foldl_cons, ih, Array.size_append, Nat.succ_mul]; omega
      rw [e]
      have : (4000 : Nat) ≤ sizeLine := by decide
      simp only [List.size_toArray, List.length_nil]
      rw [Nat.mul_comm] at hz
      omega
    show wpAny _ _ (Builtin.Tuple.tupleExact (List.foldl (fun x1 x2 => x1 ++ x2) #[] (List.replicate k.toNat items)) >>= _) _ _ _
    refine wpAny_bind ?_
    unfold Builtin.Tuple.tupleExact
    refine wpAny_newObj_type ?_ (by first | exact Nat.not_lt.mp hsz | omega | size_fits)
    wp_walk
    exact ⟨_, rfl, h⟩
def CO (K : PySem.W.Frag) : R2 := fun x y H Q => ∃ l k xs, x = .ref l ∧ y = .int k ∧ SqT K H l xs ∧ 2 ≤ k ∧ k ≤ 1000 ∧ xs ≠ [] ∧ xs.length * k.toNat ≤ 4000 ∧
  ∀ p, H p = none → Q (.ref p) (upd H p (.tup (List.replicate k.toNat xs).flatten))
theorem Cr : OpR X (binaryOp .Mult) (CO X.K) := by
  intro pins s σ H x y v u Q I rx ry h
  obtain ⟨l, k, xs, rfl, rfl, hT, h2, h3, hne, hz, q⟩ := h
  cases rx
  obtain ⟨t, rfl⟩ := ry
  obtain ⟨its, r, ⟨o, ho, hc, n, hd⟩, hzz⟩ := I.tuple hT
  have hl := r.length
  have he : its.toArray.isEmpty = false := by
    cases its with
    | nil => exact absurd (r.pU.mp rfl) hne
    | cons a r' => simp
  have hnew : List.foldl (fun x1 x2 => x1 ++ x2) #[] (List.replicate k.toNat its.toArray) = (List.replicate k.toNat its).flatten.toArray := by
    have := foldl_rep its k.toNat []
    rw [List.nil_append] at this
    exact this
  refine wpAny_binaryOp_repeat_ref (T := "tuple") (U := "int") (by decide) ⟨_, ho, hc⟩ (fun s' => typeIs_int s' k t) om F.fills_int_mul F.slot_int_rmul u6 F.slot_int_index.lookup
    (call_meets F.slot_int_rmul (typeIs_int s k t) F.entry_int_rmul (F.args_int_rmul_2 _ _) (qQ k t l o its.toArray n hc hd)
      ⟨ho, rfl, ⟨_, ho, hc⟩, call_meets F.slot_tuple_mul ⟨_, ho, hc⟩ F.entry_tuple_mul (F.args_tuple_mul_2 _ _) (oN l o its.toArray n k t hc hd h2 h3 he (by rw [List.size_toArray, ← hl]; exact hz)) ⟨ho, ?_⟩⟩)
  rw [hnew]
  refine ⟨.ref s.heap.objs.size, _, I.laid (t' := s.toks) (o := .tup (List.replicate k.toNat xs).flatten) (fun b ob q => Heap.get?_push_of_some _ q) (Nat.le_refl _) ?_, rfl, q _ (I.hok.fresh (Nat.le_refl _))⟩
  exact ⟨Nat.le_trans (by rw [len_rep, Nat.mul_comm]; exact hz) (by decide), _, r.rep k.toNat, IsTup.new _ _⟩
def nB : D → D → Mu → DK → Prop := fun x y μ Q => match x, y with
  | .v (.tuple xs), .v (.int k) => (2 ≤ k ∧ k ≤ 1000 ∧ xs ≠ [] ∧ xs.length * k.toNat ≤ 4000) ∧ Q (.v (.tuple (List.replicate k.toNat xs).flatten)) μ
  | _, _ => False
theorem Ei {xs : List PyData} {k : Int} {μ : Mu} {Q : DK} : nB (.v (.tuple xs)) (.v (.int k)) μ Q = ((2 ≤ k ∧ k ≤ 1000 ∧ xs ≠ [] ∧ xs.length * k.toNat ≤ 4000) ∧ Q (.v (.tuple (List.replicate k.toNat xs).flatten)) μ) := propext Iff.rfl
theorem CC {K : PySem.W.Frag} : da K (CO K) nB := by
  intro x y ux uy H μ Qd Q ok rx ry h k
  unfold nB at h
  split at h
  · rename_i xs n
    cases ry
    cases rx with
    | @tuple a us _ ha ra =>
      refine ⟨a, n, us, rfl, rfl, ha, h.1.1, h.1.2.1, fun z => h.1.2.2.1 ?_, by rw [← ra.length]; exact h.1.2.2.2, fun p hp => ?_⟩
      · subst z; cases ra; rfl
      · exact k (.v _) _ μ _ (bL hp) (ok.new hp) (fA ok (ra.rep _) hp) h.2
  · exact h.elim
theorem Bg (ha : DE X a ta) (hb : DE X b tb) : DE X (.BinOp a .Mult b pos) (dOp nB ta tb) := pA Cr CC ha hb
end
open PySem PySem.Spec PyProof.Rows
def ES (K : PySem.W.Frag) (J : It) (xs : List PyData) (R : Mu → Prop) (μ1 : Mu) (H1 : Hp) : Prop := ∀ μ2 H2, Ext K μ1 H1 μ2 H2 → aZ K μ2 H2 → R μ2 → ∀ i, (i < xs.length → J.go i H2 ∧ ∀ x H', J.yld i H2 x H' → ∃ d, xs[i]? = some d ∧ i4 H2 H' ∧ Rp K μ2 H' d x) ∧ (i = xs.length → J.stop i H2)
abbrev Ah := Rho → Mu → (List PyData → (Mu → Prop) → Mu → Prop) → Prop
def G2 (K : PySem.W.Frag) (wi : TI) (src : Ah) : Prop := ∀ (σ : St) (H : Hp) (ρ : Rho) (μ : Mu) (Qd : List PyData → (Mu → Prop) → Mu → Prop) (R : It → Hp → Prop), St0 K H ρ μ σ → src ρ μ Qd →
  (∀ xs S μ1 H1 J, Ext K μ H μ1 H1 → St0 K H1 ρ μ1 σ → ES K J xs S μ1 H1 → Qd xs S μ1 → R J H1) → wi σ H R
def DIR (X : Cx) (tg iter : Expr) (src : Ah) : Prop := ∃ wi, PI X tg iter wi ∧ G2 X.K wi src
def GU (te : DTE) : Ah := fun ρ μ Q => te ρ μ fun d μ1 => match d with
  | .m l => ∃ xs, μ1 l = some xs ∧ Q xs (fun μ' => μ' l = some xs) μ1
  | _ => False
theorem Hq {X : Cx} {e tg : Expr} {te : DTE} (h : DE X e te) : DIR X tg e (GU te) := by
  obtain ⟨t1, p1, l1⟩ := h
  refine ⟨_, pT p1, fun σ H ρ μ Qd R S h k => ?_⟩
  refine l1 σ H ρ μ _ _ S h fun d u μ1 H1 e1 S1 r h1 => ?_
  split at h1
  · rename_i l
    obtain ⟨xs, hl, h1⟩ := h1
    obtain ⟨rfl, _⟩ := r
    obtain ⟨us0, hus0, _⟩ := S1.mu l xs hl
    refine ⟨l, rfl, ⟨us0, SqL.of hus0⟩, k xs _ μ1 H1 _ e1 S1 (fun μ2 H2 e2 ok2 st i => ?_) h1⟩
    obtain ⟨us, hus, ra⟩ := ok2 l xs st
    refine ⟨fun hi => ?_, fun hi => ⟨us, SqL.of hus, by rw [← ra.length]; omega⟩⟩
    have hiu : i < us.length := by rw [← ra.length]; exact hi
    refine ⟨⟨us, us[i], SqL.of hus, by simp [hiu]⟩, fun x H' ⟨eH, hx⟩ => ?_⟩
    subst eH
    obtain ⟨u', h1', h2'⟩ := ra.get (i := i) (d := xs[i]) (by simp [hi])
    have := hx us (SqL.of hus)
    rw [h1'] at this
    cases this
    exact ⟨xs[i], by simp [hi], i4.refl _, h2'⟩
  · exact h1.elim
def qa (cap : List (Option Nat)) (src : Ah) (g : DTG) (c : DTT) (elt : DTE) : DTE := fun ρ μ Q => src ρ μ fun xs R μ1 => xs.length ≤ 1000 ∧ ∀ p, μ1 p = none → ∃ Pv : Nat → List PyData → Mu → Prop, (∀ i acc μ', Pv i acc μ' → R μ') ∧ Pv 0 [] (ao μ1 p []) ∧
  (∀ i x acc μ', xs[i]? = some x → μ' p = some acc → Pv i acc μ' → g (.v x) (aO cap ρ) μ' fun ρ2 μ2 => Le (aO cap ρ) ρ2 ∧ c ρ2 μ2 fun b μ3 =>
    if b = true then elt ρ2 μ3 fun d μ4 => μ4 p = some acc ∧ (match d with | .v y => Pv (i + 1) (acc ++ [y]) (ao μ4 p (acc ++ [y])) | _ => False) else μ3 p = some acc ∧ Pv (i + 1) acc μ3) ∧
  (∀ acc μ', Pv xs.length acc μ' → μ' p = some acc → Q (.v (.list acc)) (cf μ' p))
theorem xP {X : Cx} {pos2 : Pos} {use : Option (Value → Sem Unit)} {QQ : Value → Shared → Prop} {pins : List (Addr × Obj)} {s : Shared} {σ : St} {H : Hp} {ρ : Rho} {μ : Mu} {Qd : DK} {N' : List Str} {scope : Scope} {cl : List (Str × Addr)} {elt iter tg : Expr} {ifs : List Expr} {pos : Pos} {cap : List (Option Nat)} {src : Ah} {g : DTG} {c : DTT} {te : DTE} (hc : X.calm = X.calm)
    (hi : DIR X tg iter src) (hg : ∀ fp s₃ H₃, DG (az X N' scope cl fp s₃ H₃) tg g) (hif : ∀ fp s₃ H₃, xx (az X N' scope cl fp s₃ H₃) ifs c) (he : ∀ fp s₃ H₃, DE (az X N' scope cl fp s₃ H₃) elt te)
    (hclos : closureFor scope X.env = pure cl) (hcell : ∀ y ∈ scope.names, y.2 ≠ .cell) (hkind : scope.kind = .function) (hnames : ∀ y ∈ scope.names, y.2 = .local → scope.names.lookup y.1 = some .local)
    (hcl : ∀ x a, cl.lookup x = some a → X.env.cells.lookup x = some a) (hhas : ∀ x, (relabel scope X.env).names.lookup x = some .cell ∨ (relabel scope X.env).names.lookup x = some .free → ∃ a, cl.lookup x = some a)
    (hlen : cap.length = N'.length) (hcap : ∀ (i j : Nat) (x : Str), cap[i]? = some (some j) → N'[i]? = some x → X.N[j]? = some x ∧ Vis X.env.scope x ∧ X.env.kindOf x ≠ some .local ∧ ((relabel scope X.env).names.lookup x = some .cell ∨ (relabel scope X.env).names.lookup x = some .free))
    (hs : ∀ x, foldedSetIterable iter X.env x = pure x )
    (I : Inv X pins σ H s) (S : St0 X.K H ρ μ σ) (h : qa cap src g c te ρ μ Qd)
    (hend : ∀ (s4 : Shared) (Hc : Hp) (C pa : Addr) (m : Str → Option Value) (acc : List PyData) (μF : Mu), s4.heap.Ns C m → oJ X pins Hc C → (∀ h', Heap.SameBut C s4.heap h' → Inv X pins σ Hc { s4 with heap := h' }) →
      Ext X.K μ H μF Hc → St0 X.K Hc ρ μF σ → Rp X.K μF Hc (.list acc) (.ref pa) → Qd (.v (.list acc)) μF → compPost (model X.prog X.w) X.A X.xe use QQ (.ref pa) C (.ok .next) s4) :
    wpAny (model X.prog X.w) X.A (comprehension (.ListComp elt [⟨tg, iter, ifs, 0⟩] scope pos) scope X.env pos2 (newList []) false (eval iter X.env) use) QQ X.xe s := by
  obtain ⟨wi, pw, li⟩ := hi
  refine wpAny_comprehension_free rfl hs hclos hkind hnames (thn (pw pins s σ H _ I (li σ H ρ μ _ (fun J H1 => ∃ xs R μ1, Ext X.K μ H μ1 H1 ∧ St0 X.K H1 ρ μ1 σ ∧ ES X.K J xs R μ1 H1 ∧ xs.length ≤ 1000 ∧ ∀ p, μ1 p = none → ∃ Pv : Nat → List PyData → Mu → Prop, (∀ i acc μ', Pv i acc μ' → R μ') ∧ Pv 0 [] (ao μ1 p []) ∧
      (∀ i x acc μ', xs[i]? = some x → μ' p = some acc → Pv i acc μ' → g (.v x) (aO cap ρ) μ' fun ρ2 μ2 => Le (aO cap ρ) ρ2 ∧ c ρ2 μ2 fun b μ3 =>
        if b = true then te ρ2 μ3 fun d μ4 => μ4 p = some acc ∧ (match d with | .v y => Pv (i + 1) (acc ++ [y]) (ao μ4 p (acc ++ [y])) | _ => False) else μ3 p = some acc ∧ Pv (i + 1) acc μ3) ∧
      (∀ acc μ', Pv xs.length acc μ' → μ' p = some acc → Qd (.v (.list acc)) (cf μ' p))) S h (fun xs R μ1 H1 J e1 S1 it q => ⟨xs, R, μ1, e1, S1, it, q⟩)))
    fun v s1 h1 => thn h1 fun itv s2 h2 => ?_)
  obtain ⟨it, fp, tn, J, H2, rfl, I2, T, st2, f2, xs, R, μ1, e1, S1, itok, hxs, allp⟩ := h2
  refine wpAny_newObj_type (wpAny_newFunctionEnv hcell (by intro y hy; simp at hy) (fun h₁ hns₁ hsb₁ => ?_) hkind)
  dsimp only at hns₁ hsb₁ ⊢
  have hfree2 : H2 s2.heap.objs.size = none := I2.hok.fresh (Nat.le_refl _)
  have hK2 : X.K.lookup s2.heap.objs.size = none := by
    cases z : X.K.lookup s2.heap.objs.size with
    | none => rfl
    | some o => exact absurd (Heap.lt_size (I2.kIn _ _ z)) (Nat.lt_irrefl _)
  have I3 : Inv X pins σ (upd H2 s2.heap.objs.size (.lst [])) { s2 with heap := s2.heap.push { cls := .type "list", dict := none, data := .seq ([] : List Value).toArray } } :=
    I2.laid (t' := s2.toks) (fun b u e => Heap.get?_push_of_some _ e) (Nat.le_refl _) ⟨Nat.zero_le _, [], 0, .nil, Heap.get?_push_size _ rfl⟩
  generalize hH : s2.heap.push { cls := .type "list", dict := none, data := .seq ([] : List Value).toArray } = hp3 at hns₁ hsb₁ I3 ⊢
  have hsz3 : hp3.objs.size = s2.heap.objs.size + 1 := by rw [← hH, Heap.size_push]
  have kept3 : ∀ b o, hp3.get? b = some o → h₁.get? b = some o := fun b o e => hsb₁.extBut b o (Nat.ne_of_lt (Heap.lt_size e)) (Heap.get?_push_of_some _ e)
  have old3 : ∀ b o, s2.heap.get? b = some o → hp3.get? b = some o := fun b o e => by rw [← hH]; exact Heap.get?_push_of_some _ e
  have fplt : ∀ b ∈ fp, b < s2.heap.objs.size := fun b hb => by obtain ⟨o, e, _⟩ := T.obj 0 _ st2 b hb; exact Heap.lt_size e
  have fpst : ∀ b ∈ fp, b ∉ frs X.stack := fun b hb hz => by
    rcases List.mem_cons.mp (I2.gN b hz) with e | e
    · exact (f2 b hb).2.1 e
    · exact (f2 b hb).2.2.1 e
  obtain ⟨s3, hs3⟩ : ∃ s3 : Shared, s3 = { s2 with heap := hp3 } := ⟨_, rfl⟩
  obtain ⟨H3, hH3⟩ : ∃ H3 : Hp, H3 = upd H2 s2.heap.objs.size (.lst []) := ⟨_, rfl⟩
  have heap3 : s3.heap = hp3 := by rw [hs3]
  rw [← hH3] at I3
  have I3' : Inv X pins σ H3 s3 := by rw [hs3]; exact I3
  have hloc : H3 hp3.objs.size = none := by have := I3'.hok.fresh (a := hp3.objs.size) (by rw [heap3]; exact Nat.le_refl _); exact this
  have okc : (az X N' scope cl fp s3 H3).Ok := by
    refine ⟨I3.ok.mod, ?_, I3.ok.glob, I3.ok.blt, Nat.le_refl _, fun x y a h1 h2 => I3.ok.inj x y a (hcl x a h1) (hcl y a h2), fun x hx => hhas x hx, fun x a h => (nomatch h), I3.ok.hd, I3.ok.qt, I3.ok.frames, .inl rfl, fun b hb => ⟨?_, fun x a h => (f2 b hb).2.2.2.2.1 x a (hcl x a h)⟩,
      I3'.bs, Nat.le_trans I3.ok.bsz I3'.sz, fun b o e hb => ?_, fun b hb => fpst b hb, I3'.stack, I3'.jN⟩
    · exact hkind
    · show b ≠ s3.heap.objs.size
      rw [heap3, hsz3]
      exact Nat.ne_of_lt (Nat.lt_succ_of_lt (fplt b hb))
    · rcases (f2 b hb).2.2.2.1 with z | z
      · exact I3.ok.rW b o e z
      · exact absurd (Nat.lt_of_lt_of_le (Heap.lt_size (I3.ok.bs b o e).1) z) (Nat.lt_irrefl _)
  have I4 : Inv (az X N' scope cl fp s3 H3) [] (aO cap σ) H3 { s2 with heap := h₁, toks := s2.toks + ([] : List (Str × Value)).length } := by
    refine ⟨okc, by show s2.os = s3.os; rw [hs3], I3.bare, Un.kept (by show ∀ b o, s3.heap.get? b = some o → _; rw [heap3]; exact kept3), ⟨_, (by show h₁.Ns s3.heap.objs.size _; rw [heap3]; exact hns₁), fun i x v e1 e2 e3 => ?_⟩, fun x a h => ?_, (by show H3 s3.heap.objs.size = none; rw [heap3]; exact hloc), fun x a h => I3.dJ x a (hcl x a h), fun p hp => ?_, I3.hok.kept kept3, ?_⟩
    · obtain ⟨j, h1, h2⟩ := gz e2
      obtain ⟨hN, hv, hnl, hk⟩ := hcap i j x h1 e1
      obtain ⟨m, _, hl⟩ := I3.loc
      obtain ⟨u, r, lk⟩ := hl j x v hN h2 hv
      refine ⟨u, r, .inr ⟨hk, ?_⟩⟩
      obtain ⟨a, ha⟩ := hhas x hk
      rcases lk with ⟨z, _⟩ | ⟨_, a', z1, z2⟩
      · exact absurd z hnl
      · have : a' = a := by have q := hcl x a ha; rw [z1] at q; exact Option.some.inj q
        subst this
        obtain ⟨o, ho, hd⟩ := z2
        exact ⟨a', ha, o, kept3 _ _ ho, hd⟩
    · obtain ⟨v, o, ho, hd⟩ := I3.cell x a (hcl x a h)
      exact ⟨v, o, kept3 _ _ ho, hd⟩
    · have hp' : p ∈ X.pn ++ pins := List.mem_append_left _ (by simpa using (show p ∈ X.pn ++ [] from hp))
      obtain ⟨z1, z2, z3, z4, z5⟩ := I3'.pin p hp'
      refine ⟨kept3 _ _ (by rw [← heap3]; exact z1), z2, (show p.1 ≠ s3.heap.objs.size from Nat.ne_of_lt (Heap.lt_size z1)), fun z => ?_, z5⟩
      rcases List.mem_cons.mp (I3'.gN p.1 z) with e | e
      · exact z3 e
      · exact z4 e
    · show (aO cap σ).length = N'.length
      unfold aO
      rw [List.length_map]
      exact hlen
  have hμ1 : μ1 s2.heap.objs.size = none := S1.mu.free hfree2
  obtain ⟨Pv, keepR, pv0, body, fin⟩ := allp s2.heap.objs.size hμ1
  have loop : codeAny (model X.prog X.w) X.A (.compLoop (.ListComp elt [⟨tg, iter, ifs, 0⟩] scope pos) 0 (.ref it) (.ref s2.heap.objs.size) (az X N' scope cl fp s3 H3).env)
      (compPost (model X.prog X.w) X.A X.xe use QQ (.ref s2.heap.objs.size) hp3.objs.size) { s2 with heap := h₁, toks := s2.toks + ([] : List (Str × Value)).length } := by
    refine cj (fun n s' => ∃ (i : Nat) (σc : St) (Hc : Hp) (acc : List PyData) (μc : Mu), n = xs.length - i ∧ i ≤ xs.length ∧ Inv (az X N' scope cl fp s3 H3) [] σc Hc s' ∧ tn i s'.heap ∧ (∀ b ∈ fp, Hc b = none) ∧
      acc.length ≤ i ∧ μc s2.heap.objs.size = some acc ∧ Pv i acc μc ∧ St0 X.K Hc (aO cap ρ) μc σc ∧ Ext X.K μ1 H2 μc Hc) ?_ xs.length
      ⟨0, aO cap σ, H3, [], ao μ1 s2.heap.objs.size [], by simp, Nat.zero_le _, I4, T.keep 0 _ _ st2 (fun b hb o e => kept3 b o (old3 b o e)), fun b hb => ?_, Nat.le_refl _, aB, pv0, ?_, ?_⟩
    · rintro n s' ⟨i, σc, Hc, acc, μc, rfl, hi, Ic, tc, frc, hal, hpa, pvi, Sc, Ec⟩
      have stat : ∀ {Hd : Hp}, (∀ b ∈ fp, Hd b = none) → ∀ b ∈ fp, oJ (az X N' scope cl fp s3 H3) [] Hd b := fun hn b hb =>
        ⟨hn b hb, (okc.exf b hb).1, fpst b hb, .inl hb, fun x a h => (okc.exf b hb).2 x a h, fun p hp => (f2 b hb).2.2.2.2.2 p (List.mem_append_left _ (by simpa using (show p ∈ X.pn ++ [] from hp)))⟩
      obtain ⟨go, stop⟩ := itok _ Hc Ec Sc.mu (keepR i acc μc pvi) i
      by_cases hlt : i < xs.length
      · obtain ⟨g1, y1⟩ := go hlt
        refine thn (T.item (az X N' scope cl fp s3 H3) rfl rfl rfl (fun z => z) i [] s' σc Hc (fun _ _ => False) Ic (stat frc) tc g1) fun r s4 ⟨u, hr, h4⟩ => ?_
        subst hr
        refine thn h4 fun _ s5 ⟨x, H5, I5, r5, y5, st5, fr5⟩ => ?_
        obtain ⟨d, hd, sm, rd⟩ := y1 x H5 y5
        have I5' := I5.pinned (stat fr5) (T.obj _ _ st5)
        have e5 : Ext X.K _ Hc _ H5 := .of_same (μ := μc) sm
        have S5 : St0 X.K H5 (aO cap ρ) μc σc := ⟨Sc.mu.xU e5 sm, Sc.rho.ext Sc.mu e5⟩
        obtain ⟨gt, pg, lg⟩ := hg fp s3 H3
        refine thn (pg _ s5 σc H5 x u (fun σ' H' => ∃ ρ' μ', Ext X.K μc H5 μ' H' ∧ St0 X.K H' ρ' μ' σ' ∧ Le (aO cap ρ) ρ' ∧ c ρ' μ' fun b μ3 =>
            if b = true then te ρ' μ3 fun d' μ4 => μ4 s2.heap.objs.size = some acc ∧ (match d' with | .v y => Pv (i + 1) (acc ++ [y]) (ao μ4 s2.heap.objs.size (acc ++ [y])) | _ => False) else μ3 s2.heap.objs.size = some acc ∧ Pv (i + 1) acc μ3) I5' r5
          (lg σc H5 (aO cap ρ) _ (.v d) x _ _ S5 rd (body i d acc μc hd hpa pvi) fun σ' ρ' μ' H' e' S' q => ⟨ρ', μ', e', S', q⟩)) fun _ s6 ⟨σ6, H6, I6, ρ6, μ6, e6, S6, le6, q6⟩ => ?_
        refine thn (hif fp s3 H3 _ s6 σ6 H6 ρ6 μ6 _ (fun b H' => ∃ μ', Ext X.K μ6 H6 μ' H' ∧ St0 X.K H' ρ6 μ' σ6 ∧ if b = true then te ρ6 μ' fun d' μ4 => μ4 s2.heap.objs.size = some acc ∧ (match d' with | .v y => Pv (i + 1) (acc ++ [y]) (ao μ4 s2.heap.objs.size (acc ++ [y])) | _ => False) else μ' s2.heap.objs.size = some acc ∧ Pv (i + 1) acc μ')
          I6 S6 q6 fun b μ' H' e' S' q => ⟨μ', e', S', q⟩) fun b s7 ⟨H7, I7, μ7, e7, S7, q7⟩ => ?_
        have again : ∀ {H9 : Hp} {s9 : Shared} {acc' : List PyData} {μ9 : Mu}, Inv (az X N' scope cl fp s3 H3) ([] ++ jH fp s5.heap) σ6 H9 s9 → acc'.length ≤ i + 1 → μ9 s2.heap.objs.size = some acc' → Pv (i + 1) acc' μ9 → aZ X.K μ9 H9 → cE X.K μ9 H9 (aO cap ρ) σ6 →
            Ext X.K μ1 H2 μ9 H9 → ∃ m, m < xs.length - i ∧ ∃ (i : Nat) (σc : St) (Hc : Hp) (acc : List PyData) (μc : Mu), m = xs.length - i ∧ i ≤ xs.length ∧ Inv (az X N' scope cl fp s3 H3) [] σc Hc s9 ∧ tn i s9.heap ∧ (∀ b ∈ fp, Hc b = none) ∧
              acc.length ≤ i ∧ μc s2.heap.objs.size = some acc ∧ Pv i acc μc ∧ St0 X.K Hc (aO cap ρ) μc σc ∧ Ext X.K μ1 H2 μc Hc := fun {H9 s9 acc' μ9} I9 l9 p9 v9 m9 r9 e9 => by
          refine ⟨xs.length - (i + 1), by omega, i + 1, σ6, H9, acc', μ9, rfl, hlt, I9.eP, T.keep _ _ _ st5 fun b hb o e => (I9.pin (b, o) (List.mem_append_right _ (List.mem_append_right _ (bD hb e)))).1, fun b hb => ?_, l9, p9, v9, ⟨m9, r9⟩, e9⟩
          obtain ⟨o, e, _⟩ := T.obj _ _ st5 b hb
          exact (I9.pin (b, o) (List.mem_append_right _ (List.mem_append_right _ (bD hb e)))).2.1
        cases b with
        | false =>
          have q8 : μ7 s2.heap.objs.size = some acc ∧ Pv (i + 1) acc μ7 := by simpa using q7
          refine mV ?_
          exact again I7 (by omega) q8.1 q8.2 S7.mu (S7.rho.le le6) (Ec.trans (e5.trans (e6.trans e7)))
        | true =>
          refine lY ?_
          obtain ⟨t8, p8, l8⟩ := he fp s3 H3
          refine thn (p8 _ s7 σ6 H7 (fun v H' => ∃ y μ8, Ext X.K μ7 H7 μ8 H' ∧ St0 X.K H' ρ6 μ8 σ6 ∧ Rp X.K μ8 H' y v ∧ μ8 s2.heap.objs.size = some acc ∧ Pv (i + 1) (acc ++ [y]) (ao μ8 s2.heap.objs.size (acc ++ [y]))) I7
            (l8 σ6 H7 ρ6 μ7 _ _ S7 (by simpa using q7) fun d' v μ8 H8 e8 S8 r8 q8 => ?_)) fun v s8 ⟨v8, H8, I8, r8, y, μ8, e8, S8, ry, pa8, fy⟩ => ?_
          · obtain ⟨q80, q8⟩ := q8
            cases d' with
            | v y => exact ⟨y, μ8, e8, S8, r8, q80, q8⟩
            | m _ => exact q8.elim
            | s _ => exact q8.elim
            | o _ => exact q8.elim
            | q _ => exact q8.elim
          · obtain ⟨us, hacc, rus⟩ := S8.mu s2.heap.objs.size _ pa8
            have hle : acc.length ≤ 1000 := by omega
            refine thn (hR (X := az X N' scope cl fp s3 H3) _ s8 σ6 H8 (.ref s2.heap.objs.size) [v8] (.ref s2.heap.objs.size) [v] (fun _ H' => H' = upd H8 s2.heap.objs.size (.lst (us ++ [v8]))) I8 rfl (.cons r8 .nil) ⟨_, us, v8, rfl, rfl, hacc, by rw [← rus.length]; exact cx hle, rfl⟩) fun _ s9 ⟨_, H9, I9, _, e9⟩ => ?_
            subst e9
            have ex : Ext X.K μ8 H8 (ao μ8 s2.heap.objs.size (acc ++ [y])) (upd H8 s2.heap.objs.size (.lst (us ++ [v8]))) := gS pa8
            exact again I9 (by rw [List.length_append, List.length_singleton]; omega) aB fy (S8.mu.set pa8 (rus.append (.cons ry .nil))) ((S8.rho.le le6).ext S8.mu ex) (Ec.trans (e5.trans (e6.trans (e7.trans (e8.trans ex)))))
      · have ei : i = xs.length := by omega
        subst ei
        refine thn (T.done (az X N' scope cl fp s3 H3) rfl rfl rfl (fun z => z) _ [] s' σc Hc (fun _ _ => False) Ic (stat frc) tc (stop rfl)) fun r s4 ⟨hr, I5⟩ => ?_
        subst hr
        obtain ⟨m, hn, _⟩ := I5.loc
        have hcC : Hc hp3.objs.size = none := by have z : Hc s3.heap.objs.size = none := I5.free; rw [heap3] at z; exact z
        obtain ⟨us, hacc, rus⟩ := Sc.mu s2.heap.objs.size _ hpa
        have shr : ∀ a, μc a = none → cf μc s2.heap.objs.size a = none := fun a e => by
          unfold cf
          split
          · rfl
          · exact e
        have dne : ∀ a ds, cf μc s2.heap.objs.size a = some ds → μc a = some ds := fun a ds e => by
          unfold cf at e
          split at e
          · cases e
          · exact e
        have eF : Ext X.K μ1 H2 (cf μc s2.heap.objs.size) Hc := by
          refine ⟨Ec.keep, Ec.tb, fun b ds q => ?_, fun b q z => shr b (Ec.fresh b q z)⟩
          obtain ⟨es, q2⟩ := Ec.dom b ds q
          have : b ≠ s2.heap.objs.size := fun z => by rw [z, hμ1] at q; cases q
          exact ⟨es, by unfold cf; rw [if_neg this]; exact q2⟩
        have mF : aZ X.K (cf μc s2.heap.objs.size) Hc := ⟨fun a ds q => by
          obtain ⟨ys, z1, z2⟩ := Sc.mu a ds (dne a ds q)
          exact ⟨ys, z1, z2.shrink shr⟩, Sc.mu.tab⟩
        refine hend s4 Hc hp3.objs.size s2.heap.objs.size m acc (cf μc s2.heap.objs.size) (by have z : s4.heap.Ns s3.heap.objs.size m := hn; rw [heap3] at z; exact z) (I2.A2 (by rw [hsz3]; exact Nat.le_succ _) hcC) (fun h' hs' => ?_) (e1.trans eF) ⟨mF, S1.rho.ext S1.mu eF⟩ (Rp.list hacc (by unfold cf; rw [if_pos rfl]) (rus.shrink shr)) (fin acc μc pvi hpa)
        have kp : ∀ b o, b < s2.heap.objs.size → s4.heap.get? b = some o → h'.get? b = some o := fun b o hb e => hs'.extBut b o (by rw [hsz3]; exact Nat.ne_of_lt (Nat.lt_succ_of_lt hb)) e
        have hok' : HOk X.prog X.w Hc h' := fun b ob e => by
          refine (I5.hok b ob e).mm (fun cc v hcc q => hs'.extBut cc v ?_ q) (fun _ q => q) fun _ _ q => q
          rintro rfl
          rcases hcc with z | z
          · rw [← z, hcC] at e; cases e
          · rw [hcC] at z; cases z
        have u1 : Un (frs X.stack) fp H2 H3 s2.heap s3.heap := by rw [heap3, hH3]; exact Un.laid old3 (Nat.le_refl _) hfree2
        have u2 : Un (frs X.stack) fp H3 Hc s3.heap s4.heap := I5.base
        exact I2.pb (ch := fp) (by show s4.os = s2.os; have z : s4.os = s3.os := I5.os; rw [z, hs3]) (Un.after (u1.trans u2) kp) hok' I5.bare fun b hb => ⟨(f2 b hb).2.2.2.1, (f2 b hb).2.1, (f2 b hb).2.2.2.2.1, (f2 b hb).2.2.2.2.2⟩
    · have z : b ≠ s2.heap.objs.size := Nat.ne_of_lt (fplt b hb)
      rw [hH3, aT z]
      exact (f2 b hb).1
    · have ex := dq (o := .lst []) (ds := []) S1.mu hfree2 hK2
      rw [hH3]
      exact ⟨S1.mu.mut .nil hfree2 hK2, (S1.rho.ext S1.mu ex).cap⟩
    · rw [hH3]
      exact dq (o := .lst []) (ds := []) S1.mu hfree2 hK2
  have envE : (az X N' scope cl fp s3 H3).env = compEnvC scope cl hp3.objs.size X.env := by show compEnvC scope cl s3.heap.objs.size X.env = _; rw [heap3]
  rw [envE] at loop
  exact codeAny_compStart_list loop (T.self X.A 0 _ _ _ (T.keep 0 _ _ st2 (fun b hb o e => kept3 b o (old3 b o e))) loop)
theorem Ao {X : Cx} {N' : List Str} {scope : Scope} {cl : List (Str × Addr)} {elt iter tg : Expr} {ifs : List Expr} {pos : Pos} {cap : List (Option Nat)} {src : Ah} {g : DTG} {c : DTT} {te : DTE} (hc : X.calm = X.calm)
    (hi : DIR X tg iter src) (hg : ∀ fp s₃ H₃, DG (az X N' scope cl fp s₃ H₃) tg g) (hif : ∀ fp s₃ H₃, xx (az X N' scope cl fp s₃ H₃) ifs c) (he : ∀ fp s₃ H₃, DE (az X N' scope cl fp s₃ H₃) elt te)
    (hclos : closureFor scope X.env = pure cl) (hcell : ∀ y ∈ scope.names, y.2 ≠ .cell) (hkind : scope.kind = .function) (hnames : ∀ y ∈ scope.names, y.2 = .local → scope.names.lookup y.1 = some .local)
    (hcl : ∀ x a, cl.lookup x = some a → X.env.cells.lookup x = some a) (hhas : ∀ x, (relabel scope X.env).names.lookup x = some .cell ∨ (relabel scope X.env).names.lookup x = some .free → ∃ a, cl.lookup x = some a)
    (hlen : cap.length = N'.length) (hcap : ∀ (i j : Nat) (x : Str), cap[i]? = some (some j) → N'[i]? = some x → X.N[j]? = some x ∧ Vis X.env.scope x ∧ X.env.kindOf x ≠ some .local ∧ ((relabel scope X.env).names.lookup x = some .cell ∨ (relabel scope X.env).names.lookup x = some .free))
    (hs : ∀ x, foldedSetIterable iter X.env x = pure x := by intro _; rfl) : DE X (.ListComp elt [⟨tg, iter, ifs, 0⟩] scope pos) (qa cap src g c te) := by
  refine qK fun pins s σ H ρ μ Qd Q I S h k => ?_
  rw [eval_ListComp]
  refine xP hc hi hg hif he hclos hcell hkind hnames hcl hhas hlen hcap hs I S h fun s4 Hc C pa m acc μF hn _ hI e1 S1 r q => ?_
  exact ⟨m, hn, fun h' hs' => ⟨.ref pa, Hc, hI h' hs', rfl, k (.v (.list acc)) _ μF Hc e1 S1 r q⟩⟩
theorem Ci {cap : List (Option Nat)} {te : DTE} {g : DTG} {c : DTT} {elt : DTE} {ρ : Rho} {μ : Mu} {Q : DK} : qa cap (GU te) g c elt ρ μ Q = te ρ μ (fun d μ1 => match d with
  | .m l => ∃ xs, μ1 l = some xs ∧ xs.length ≤ 1000 ∧ ∀ p, μ1 p = none → ∃ Pv : Nat → List PyData → Mu → Prop, (∀ i acc μ', Pv i acc μ' → μ' l = some xs) ∧ Pv 0 [] (ao μ1 p []) ∧
  (∀ i x acc μ', xs[i]? = some x → μ' p = some acc → Pv i acc μ' → g (.v x) (aO cap ρ) μ' fun ρ2 μ2 => Le (aO cap ρ) ρ2 ∧ c ρ2 μ2 fun b μ3 =>
    if b = true then elt ρ2 μ3 fun d μ4 => μ4 p = some acc ∧ (match d with | .v y => Pv (i + 1) (acc ++ [y]) (ao μ4 p (acc ++ [y])) | _ => False) else μ3 p = some acc ∧ Pv (i + 1) acc μ3) ∧
  (∀ acc μ', Pv xs.length acc μ' → μ' p = some acc → Q (.v (.list acc)) (cf μ' p))
  | _ => False) := propext Iff.rfl
end L2.DL
set_option Elab.async false
set_option linter.all false
set_option maxRecDepth 100000
set_option maxHeartbeats 4000000
namespace L2
open PySem PySem.Spec PyProof.Rows
section
variable {X : Cx} {pos : Pos}
def HU (i j l : Nat) (ta : TA) : TS := fun D σ H => ta σ H fun vs H1 => ∃ v w u, vs = [v, w, u] ∧ D.nx (((σ.set i (some v)).set j (some w)).set l (some u)) H1
theorem Dn {i j l : Nat} {x y z : Str} {a b c : Expr} {ta : TA} {px py pz pt : Pos} {kt k2 pt2} (hc : X.calm = true) (hN : X.N.Nodup) (hi : X.N[i]? = some x) (hj : X.N[j]? = some y) (hl : X.N[l]? = some z) (hij : i ≠ j) (hil : i ≠ l) (hjl : j ≠ l)
    (hx : X.env.scope.names.lookup x = some .local) (hy : X.env.scope.names.lookup y = some .local) (hz : X.env.scope.names.lookup z = some .local) (ha : PA X [a, b, c] ta)
    (hw : swappedStores [.Tuple [.Name x px, .Name y py, .Name z pz] kt pt] (.Tuple [a, b, c] k2 pt2) X.env = pure (some [x, y, z]))
    (hs : swapsWithSole [.Tuple [.Name x px, .Name y py, .Name z pz] kt pt] (.Tuple [a, b, c] k2 pt2) pos.line X.env = pure false := by rfl) :
    PS X (.Assign [.Tuple [.Name x px, .Name y py, .Name z pz] kt pt] (.Tuple [a, b, c] k2 pt2) pos) (HU i j l ta) := by
  intro pins s σ H D I h
  rw [exec_Assign_arm]
  refine wpAny_bind (wpAny_standAt ?_)
  rw [hs]
  refine wpAny_bind (wpAny_pure ?_)
  rw [if_neg (by decide)]
  refine wpAny_bind (Tuple_ (thn (ha _ pins s σ H _ I h) fun us s1 ⟨vs, H1, I1, r1, q1⟩ => ?_))
  obtain ⟨v, w, u, e1, q1⟩ := q1
  subst e1
  obtain ⟨u1, u2, u3, rfl, rv, rw', ru⟩ : ∃ u1 u2 u3, us = [u1, u2, u3] ∧ RelV v u1 ∧ RelV w u2 ∧ RelV u u3 := by
    cases r1 with
    | cons p q =>
      cases q with
      | cons p' q' =>
        cases q' with
        | cons p'' q'' =>
          cases q''
          exact ⟨_, _, _, rfl, p, p', p''⟩
  refine wpAny_newObj_type ?_ (by show 3 ≤ sizeLine; decide)
  have I2 : Inv X pins σ H1 { s1 with heap := s1.heap.push { cls := .type "tuple", data := .seq [u1, u2, u3].toArray } } := I1.kept (t' := s1.toks) fun b o e => Heap.get?_push_of_some _ e
  rw [hw]
  refine wpAny_bind (wpAny_pure ?_)
  show wpAny (model X.prog X.w) X.A (do rule "assign.swapped-stores"; let items ← unpackItems (.ref s1.heap.objs.size) 3 none; assignInOrder [fun v => bindName X.env z v, fun v => bindName X.env y v, fun v => bindName X.env x v] items.reverse; pure Flow.next) _ _ _
  refine wpAny_bind (wpAny_rule (wpAny_bind (unpackItems_tuple (items := #[u1, u2, u3]) (I.ok.hd hc) (IsTup.new s1.heap _) fun h' hx' => ?_)))
  have I3 := I2.kept (h' := h') (t' := s1.toks) fun b o e => hx' b o (Nat.ne_of_lt (Heap.lt_size e)) e
  show wpAny _ _ (assignInOrder [fun v => bindName X.env z v, fun v => bindName X.env y v, fun v => bindName X.env x v] [u3, u2, u1] >>= fun _ => pure Flow.next) _ _ _
  refine wpAny_bind (assignInOrder_cons (wpAny_bindName (eR I3 hN hl (.inl hz) ru (fun s2 I4 => ?_) (.inr hz))))
  refine assignInOrder_cons (wpAny_bindName (eR I4 hN hj (.inl hy) rw' (fun s3 I5 => ?_) (.inr hy)))
  refine assignInOrder_cons (wpAny_bindName (eR I5 hN hi (.inl hx) rv (fun s4 I6 => assignInOrder_nil (wpAny_pure ?_)) (.inr hx)))
  rw [List.set_comm _ _ (Ne.symm hij), List.set_comm _ _ (Ne.symm hil), List.set_comm _ _ (Ne.symm hjl)] at I6
  exact ⟨_, H1, I6, q1⟩
end
end L2
namespace L2.DL
open PySem PySem.W PyProof.Rows
section
variable {X : Cx} {pos : Pos}
def BS (i j l : Nat) (t : DTA) : DTS := fun Dd ρ μ => t ρ μ fun ds μ1 => match ds with
  | [v, w, u] => Dd.nx (((ρ.set i (some v)).set j (some w)).set l (some u)) μ1
  | _ => False
theorem GR {i j l : Nat} {tA : DTA} {Dd : wX} {ρ : Rho} {μ : Mu} : BS i j l tA Dd ρ μ = tA ρ μ fun ds μ1 => match ds with | [v, w, u] => Dd.nx (((ρ.set i (some v)).set j (some w)).set l (some u)) μ1 | _ => False := propext Iff.rfl
theorem Dp {i j l : Nat} {x y z : Str} {a b c : Expr} {t : DTA} {px py pz pt : Pos} {kt k2 pt2} (hc : X.calm = true) (hN : X.N.Nodup) (hi : X.N[i]? = some x) (hj : X.N[j]? = some y) (hl : X.N[l]? = some z) (hij : i ≠ j) (hil : i ≠ l) (hjl : j ≠ l)
    (hx : X.env.scope.names.lookup x = some .local) (hy : X.env.scope.names.lookup y = some .local) (hz : X.env.scope.names.lookup z = some .local) (ha : DA X [a, b, c] t)
    (hw : swappedStores [.Tuple [.Name x px, .Name y py, .Name z pz] kt pt] (.Tuple [a, b, c] k2 pt2) X.env = pure (some [x, y, z]))
    (hs : swapsWithSole [.Tuple [.Name x px, .Name y py, .Name z pz] kt pt] (.Tuple [a, b, c] k2 pt2) pos.line X.env = pure false := by rfl) :
    DS X (.Assign [.Tuple [.Name x px, .Name y py, .Name z pz] kt pt] (.Tuple [a, b, c] k2 pt2) pos) (BS i j l t) := by
  obtain ⟨t1, p1, l1⟩ := ha
  refine ⟨_, Dn hc hN hi hj hl hij hil hjl hx hy hz p1 hw hs, fun σ H ρ μ Dd De S h k1 k2 k3 k4 => ?_⟩
  refine l1 σ H ρ μ _ _ S h fun ds us μ1 H1 e1 S1 rs len h1 => ?_
  split at h1
  · cases rs with
    | cons r1 r2 =>
      cases r2 with
      | cons r2 r3 =>
        cases r3 with
        | cons r3 r4 =>
          cases r4
          exact ⟨_, _, _, rfl, k1 _ _ μ1 H1 e1 ⟨S1.mu, ((S1.rho.set r1).set r2).set r3⟩ h1⟩
  · exact h1.elim
end
end L2.DL
set_option linter.all false
set_option maxRecDepth 100000
set_option maxHeartbeats 1000000
namespace NM
section
variable {d : Int} {x y z k s o : N3} {A B C A' B' C' P Q R E F G : Int}
end
end NM
set_option linter.all false
set_option maxRecDepth 100000
set_option maxHeartbeats 4000000
namespace NM
section
variable {d : Int} {x y z : N3}
section
variable {f : N3}
end
end
end NM
set_option linter.all false
set_option maxRecDepth 100000
set_option maxHeartbeats 4000000
namespace NM
section
variable {d : Int} {n m : Nat} {x y : N3}
end
end NM
set_option linter.all false
set_option maxRecDepth 100000
set_option maxHeartbeats 4000000
namespace NM
section
variable {d : Int} {x y z : N3}
def gtL (d : Int) (k o : N3) : Prop := ((yT d o).a.natAbs : Int) * (yT d k).c < ((yT d k).a.natAbs : Int) * (yT d o).c
instance : Decidable (gtL d x y) := by unfold gtL; infer_instance
end
end NM
set_option linter.all false
set_option maxRecDepth 100000
set_option maxHeartbeats 400000
namespace NM
section
variable {d : Int} {x y z k s o f : N3}
end
end NM
set_option linter.all false
set_option maxRecDepth 100000
set_option maxHeartbeats 400000
namespace NM
section
variable {d : Int} {x y z k s o f : N3}
end
end NM
set_option Elab.async false
set_option linter.all false
set_option maxHeartbeats 4000000
namespace NM
section
variable {d : Int} {x y z u p q s t w h p' q' s' t' w' h' : N3}
def hf (d : Int) (p q h : N3) : N3 := plus (times d p h) (times d q (kf h))
end
end NM
set_option linter.all false
set_option maxRecDepth 100000
set_option maxHeartbeats 400000
namespace NM
section
variable {d : Int} {x y z k s o f u v : N3}
end
end NM
set_option Elab.async false
set_option linter.all false
set_option maxRecDepth 100000
set_option maxHeartbeats 4000000
namespace L2.DL
open PySem PySem.Spec PyProof.Rows NM
theorem tE {n m : Nat} {i j : Int} (h : Sz n i) (g : Sz m j) (l : n + m ≤ 100000) : IntMulOk i j := by
  have b1 : ∀ {k : Nat} {z : Int}, Sz k z → Builtin.Int.intBits z ≤ k := fun {k z} hz => by
    unfold Builtin.Int.intBits
    split
    · exact Nat.zero_le _
    · rename_i q
      have hz' : z.natAbs ≠ 0 := by simp at q; omega
      have := (Nat.log2_lt hz').mpr hz.lt
      omega
  have e1 := b1 h
  have e2 := b1 g
  unfold IntMulOk
  intro z
  simp only [Bool.and_eq_true] at z
  have z3 := z.2
  unfold Builtin.Int.intTooBig at z3
  simp only [decide_eq_true_eq] at z3
  have : (100000 : Int) ≤ bitsLine := by decide
  omega
theorem EI {n : Nat} {i j : Int} (h0 : j ≠ 0) (h : Sz n j) (l : n ≤ 8900) : tG i j := by
  refine ⟨h0, PyProof.noPylong_of_log2 ?_⟩
  have hz' : j.natAbs ≠ 0 := by omega
  have := (Nat.log2_lt hz').mpr h.lt
  omega
theorem divC {i j : Int} (h0 : j ≠ 0) (h1 : j.natAbs < 1073741824) : tG i j := ⟨h0, PyProof.noPylong_small h1⟩
theorem mulL {i j : Int} (h : i.natAbs < 2 ^ 64) : IntMulOk i j := Eh.ok (.inl (by omega))
theorem mulR {i j : Int} (h : j.natAbs < 2 ^ 64) : IntMulOk i j := Eh.ok (.inr (by omega))
def dN (x : N3) : PyData := .tuple [.int x.a, .int x.b, .int x.c]
def isWhole (d : PyData) : Bool := isT "int" d && !isT "bool" d
def isNum : PyData → Bool
  | .tuple [.int a, .int b, .int c] => decide (1 ≤ c) && (g3 a b c == 1)
  | _ => false
def cU : DSp := fun ds μ Q => ∃ d, ds = [.v d] ∧ Q (.v (.bool (isWhole d))) μ
def kB : DSp := fun ds μ Q => ∃ a b : Int, ds = [.v (.int a), .v (.int b)] ∧ Q (.v (.int (Int.gcd a b : Nat))) μ
def uu : DSp := fun ds μ Q => ∃ a b c : Int, ds = [.v (.int a), .v (.int b), .v (.int c)] ∧ Q (.v (.int (g3 a b c : Nat))) μ
def Few : PyData → Prop
  | .tuple xs => xs.length ≤ 1000
  | _ => True
def lR : DSp := fun ds μ Q => ∃ d, ds = [.v d] ∧ Few d ∧ Q (.v (.bool (isNum d))) μ
def kT : DSp := fun ds μ Q => ∃ a b c : Int, ds = [.v (.int a), .v (.int b), .v (.int c)] ∧ c ≠ 0 ∧ Sz 8800 c ∧ Q (.v (dN (low a b c))) μ
def lZ : DSp := fun ds μ Q => ∃ x : N3, ds = [.v (dN x)] ∧ Q (.v (dN (kf x))) μ
def jM : DSp := fun ds μ Q => ∃ x : N3, ds = [.v (dN x)] ∧ Q (.v (dN (minus x))) μ
def DV : DSp := fun ds μ Q => ∃ d a b : Int, ds = [.v (.int d), .v (.int a), .v (.int b)] ∧ Sz 5 d ∧ Sz 9900 a ∧ Sz 9900 b ∧ Q (.v (.int (sg d a b))) μ
def uH : DSp := fun ds μ Q => ∃ (d : Int) (x : N3), ds = [.v (.int d), .v (dN x)] ∧ bz d ∧ Bd 8900 x ∧ Q (.v (.int (sg d x.a x.b))) μ
def Bag (μ : Mu) (a : Addr) : Prop := ∃ g m : Int, μ a = some [.int g, .int m] ∧ 0 ≤ g ∧ 0 ≤ m ∧ m < 2147483648
def Step (a : Addr) (μ μ' : Mu) : Prop := Bag μ' a ∧ ∀ b, b ≠ a → μ' b = μ b
def za : DSp := fun ds μ Q => ∃ (ns : List Int) (k : Int), ds = [.s ns, .v (.int k)] ∧ 0 ≤ k ∧ k ≤ 1000 ∧ ∀ p μ', μ p = none → Step p μ μ' → Q (.m p) μ'
def bo : DSp := fun ds μ Q => ∃ (a : Addr) (n : Int), ds = [.m a, .v (.int n)] ∧ 1 ≤ n ∧ n ≤ 1000000000 ∧ Bag μ a ∧ ∀ r μ', 0 ≤ r → r < n → Step a μ μ' → Q (.v (.int r)) μ'
def p6 : DSp := fun ds μ Q => ∃ a : Addr, ds = [.m a] ∧ Bag μ a ∧ ∀ d μ', bz d → Step a μ μ' → Q (.v (.int d)) μ'
theorem Step.trans {a : Addr} {μ μ1 μ2 : Mu} (h : Step a μ μ1) (g : Step a μ1 μ2) : Step a μ μ2 := ⟨g.1, fun b n => (g.2 b n).trans (h.2 b n)⟩
theorem Step.set {a : Addr} {μ : Mu} {g m : Int} (h1 : 0 ≤ g) (h2 : 0 ≤ m) (h3 : m < 2147483648) : Step a μ (ao μ a [.int g, .int m]) := ⟨⟨g, m, aB, h1, h2, h3⟩, fun b n => aJ n⟩
local macro_rules | `(tactic| walk_at "rd") => `(tactic| simp only [↓Dg, ↓BZ, ↓C3, ↓tY, ↓CT, ↓BU, ↓Cb, ↓Cw, ↓C9, ↓Cg, ↓yO, ↓q_c, ↓DY, ↓q_B, ↓HX, ↓EN, ↓Fb, ↓uY, ↓EG, ↓BP, ↓BL, ↓E3, ↓BV, ↓HL, ↓rD, ↓me, ↓zG, ↓zu, ↓Co, ↓yH, ↓ze, ↓zo, ↓E1, ↓EX, ↓EZ, ↓EU, ↓ve, ↓CQ, ↓AR, ↓yj, ↓x9, ↓yf, ↓Bq, ↓wK, ↓tf, ↓Cc, ↓EL, ↓Eu, ↓Bx, ↓AU, ↓Bt, ↓CY, ↓CU, ↓IL, ↓w9, ↓BC, ↓EE, ↓EY, ↓EB, ↓Eg, ↓u7, ↓AW, ↓Bi, ↓Cy, ↓EH, ↓HR, ↓Cn, ↓Bv, ↓zv, ↓yS, ↓CV, ↓EF, ↓E8, ↓E5, ↓k9, ↓BQ, ↓yV, ↓BM, ↓Cp, ↓zO, ↓Fc, ↓BX, ↓qe, ↓zJ, ↓CL, ↓yZ, ↓zr, ↓CJ, ↓Ey, ↓Et, ↓B8, ↓zh, ↓A5, ↓wt, ↓yI, ↓vY, ↓wD, ↓zg, ↓xE, ↓xh, ↓wC, ↓EO, A8, ↓AY, ↓uF, Bn, CI, EK, EW, Ez, Option.bind_none, Option.bind_some, Option.join_some, List.getElem?_cons_zero, List.getElem?_cons_succ, aR, dN, o9, wL, xg, zN, BG, List.map, List.append, List.replicate, List.length_cons, List.length_nil, Nat.reduceAdd, Nat.reduceSub, List.nil_append, List.cons_append, List.set_cons_zero, List.set_cons_succ, Option.map_some, ↓reduceIte, Bool.not_true, Bool.not_false, Bool.false_eq_true, Bool.true_eq_false, Bool.xor_false, Bool.false_xor])
def iU : DTS :=
  (bh (mD (ow "int" (ah 0)) (CP (ow "bool" (ah 0)))))
def eO : DTS :=
  (aQ (yd (dB (dOp (cu true) (ah 1) (dC (.int 0)))) (yb 0 1 (ae (ah 1) (ae (sI (ah 0) (ah 1)) aj))))
  (bh (dCB mI (ae (ah 0) aj))))
def eU : DTS :=
  (bh (aF kB (ae (aF kB (ae (ah 2) (ae (ah 0) aj))) (ae (ah 1) aj))))
def il : DTS :=
  (aQ (yb 0 1 (ae (dCB mI (ae (ah 0) aj)) (ae (dCB mI (ae (ah 1) aj)) aj)))
  (aQ (yd (dB (dOp rGt (ah 1) (dC (.int 0)))) (yb 0 1 (ae (ah 1) (ae (sI (ah 0) (ah 1)) aj))))
  (bh (ah 0))))
section
theorem zI (x : Int) {y : Int} (h : y ≠ 0) : (x.fmod y).natAbs < y.natAbs := by
  have e := Int.mul_fdiv_add_fmod x y
  have := Int.fmod_def x y
  rcases Int.lt_or_gt_of_ne h with h | h
  · have k := Int.neg_fmod_neg (a := x) (b := y)
    have h1 := Int.fmod_nonneg_of_pos (-x) (show 0 < -y by omega)
    have h2 := Int.fmod_lt_of_pos (-x) (show 0 < -y by omega)
    omega
  · have h1 := Int.fmod_nonneg_of_pos x h
    have h2 := Int.fmod_lt_of_pos x h
    omega
theorem wy (x y : Int) : Int.gcd y (x.fmod y) = Int.gcd x y := by
  have e := Int.mul_fdiv_add_fmod x y
  have e' : x.fmod y = x + y * (-(x.fdiv y)) := by rw [Int.mul_neg]; omega
  rw [e', Int.gcd_add_mul_left_right, Int.gcd_comm]
theorem pk {μ Qd ds} (h : cU ds μ Qd) : iU { nx := fun _ μ' => Qd (.v .none) μ', rt := Qd } (aR ["thing"] ds) μ := by
  obtain ⟨d, rfl, q⟩ := h
  unfold iU
  walk_at "rd"
  unfold isWhole at q
  cases hb : isT "int" d <;> simp_all
theorem nk {μ Qd ds} (h : kB ds μ Qd) : eO { nx := fun _ μ' => Qd (.v .none) μ', rt := Qd } (aR ["a", "b"] ds) μ := by
  obtain ⟨a, b, rfl, q⟩ := h
  unfold eO
  walk_at "rd"
  refine ⟨fun m ρ μ' => ∃ x y : Int, ρ = [some (.v (.int x)), some (.v (.int y))] ∧ m = y.natAbs ∧ Int.gcd x y = Int.gcd a b ∧ μ' = μ, ⟨_, a, b, rfl, rfl, rfl, rfl⟩, ?_⟩
  rintro m ρ μ' ⟨x, y, rfl, rfl, hg, rfl⟩
  walk_at "rd"
  by_cases hy : y = 0
  · subst hy
    have e : Int.gcd x 0 = x.natAbs := Int.gcd_zero_right x
    rw [← hg, e] at q
    simpa using q
  · have z : (true ^^ decide (y = 0)) = true := by simp [hy]
    rw [if_pos z]
    exact ⟨hy, _, zI x hy, y, x.fmod y, rfl, rfl, (wy x y).trans hg, trivial⟩
theorem rC {μ Qd ds} (h : kB ds μ Qd) : il { nx := fun _ μ' => Qd (.v .none) μ', rt := Qd } (aR ["_law_one", "_law_other"] ds) μ := by
  obtain ⟨a, b, rfl, q⟩ := h
  unfold il
  walk_at "rd"
  refine ⟨fun m ρ μ' => ∃ x y : Int, ρ = [some (.v (.int x)), some (.v (.int y))] ∧ m = y.natAbs ∧ 0 ≤ x ∧ 0 ≤ y ∧ Int.gcd x y = Int.gcd a b ∧ μ' = μ, ⟨_, _, _, rfl, rfl, by omega, by omega, by simp [Int.gcd], rfl⟩, ?_⟩
  rintro m ρ μ' ⟨x, y, rfl, rfl, hx, hy, hg, rfl⟩
  walk_at "rd"
  by_cases h0 : 0 < y
  · rw [if_pos (by simpa using h0)]
    have hy' : y ≠ 0 := by omega
    exact ⟨hy', _, zI x hy', y, x.fmod y, rfl, rfl, by omega, Int.fmod_nonneg_of_pos x h0, (wy x y).trans hg, trivial⟩
  · rw [if_neg (by simpa using h0)]
    have e : y = 0 := by omega
    subst e
    rw [Int.gcd_zero_right] at hg
    have : x = ((Int.gcd a b : Nat) : Int) := by omega
    rw [this]
    exact q
theorem mK {μ Qd ds} (h : uu ds μ Qd) : eU { nx := fun _ μ' => Qd (.v .none) μ', rt := Qd } (aR ["a", "b", "c"] ds) μ := by
  obtain ⟨a, b, c, rfl, q⟩ := h
  unfold eU
  walk_at "rd"
  rw [← Dl] at q
  exact ⟨c, a, rfl, _, b, rfl, q⟩
end
open PySem PySem.Spec PyProof.Rows NM
def kJ : DTS :=
  (aQ (bE (kd (aF kB (ae (aF kB (ae (ah 0) (ae (ah 1) aj))) (ae (ah 2) aj))) (dOp aX (jq (ae (dC (.int 1)) (ae (pG (dC (.int 1))) aj))) (dCB lL (ae (dOp rLt (ah 2) (dC (.int 0))) aj)))) (aw 3))
  (bh (aS (ae (xI (ah 0) (ah 3)) (ae (xI (ah 1) (ah 3)) (ae (xI (ah 2) (ah 3)) aj))))))
def jU : DTS :=
  (bh (aS (ae (dOp aX (ah 0) (dC (.int 0))) (ae (nr (dC (.int 0)) (dOp aX (ah 0) (dC (.int 1)))) (ae (dOp aX (ah 0) (dC (.int 2))) aj)))))
def iY : DTS :=
  (bh (aS (ae (nr (dC (.int 0)) (dOp aX (ah 0) (dC (.int 0)))) (ae (nr (dC (.int 0)) (dOp aX (ah 0) (dC (.int 1)))) (ae (dOp aX (ah 0) (dC (.int 2))) aj)))))
def ur : DTS :=
  (bh (aS (ae (dOp aX (ah 0) (dC (.int 0))) (ae (pG (dOp aX (ah 0) (dC (.int 1)))) (ae (dOp aX (ah 0) (dC (.int 2))) aj)))))
section
variable {μ : Mu} {Qd : DK} {ds : List D}
theorem Js (i j : Int) : PyData.eqv (.int i) (.int j) = decide (i = j) := by simp [PyData.eqv]; rfl
theorem gdv {a b c : Int} (h : Sz 8800 c) (hc : c ≠ 0) : Sz 8800 ((g3 a b c : Nat) : Int) := by
  have h1 := (C7 a b c).2.2
  have h2 := Int.natAbs_dvd_natAbs.mpr h1
  exact h.le (Nat.le_of_dvd (by omega) h2)
theorem vV (h : kT ds μ Qd) : kJ { nx := fun _ μ' => Qd (.v .none) μ', rt := Qd } (aR ["_law_a", "_law_b", "_law_c", "_law_common"] ds) μ := by
  obtain ⟨a, b, c, rfl, hc, hz, q⟩ := h
  unfold kJ
  walk_at "rd"
  refine ⟨a, b, rfl, _, c, rfl, ?_⟩
  walk_at "rd"
  have hp := yo (a := a) (b := b) hc
  have hg := gdv (a := a) (b := b) hz hc
  unfold low NM.dv dN at q
  simp only at q
  by_cases hn : c < 0
  · simp only [hn, decide_true, ↓reduceIte, xg]
    rw [if_pos hn] at q
    have e : ((Int.gcd (Int.gcd a b : Nat) c : Nat) : Int) * -1 = -((g3 a b c : Nat) : Int) := by unfold g3; omega
    walk_at "rd"
    rw [e]
    have o : ∀ i : Int, tG i (-((g3 a b c : Nat) : Int)) := fun i => EI (by omega) hg.neg (by decide)
    exact ⟨mulR (by decide), o _, o _, o _, q⟩
  · simp only [hn, decide_false, Bool.false_eq_true, ↓reduceIte, wL]
    rw [if_neg hn] at q
    have e : ((Int.gcd (Int.gcd a b : Nat) c : Nat) : Int) * 1 = ((g3 a b c : Nat) : Int) := by unfold g3; omega
    walk_at "rd"
    rw [e]
    have o : ∀ i : Int, tG i ((g3 a b c : Nat) : Int) := fun i => EI (by omega) hg (by decide)
    exact ⟨mulR (by decide), o _, o _, o _, q⟩
theorem Er (h : lZ ds μ Qd) : ur { nx := fun _ μ' => Qd (.v .none) μ', rt := Qd } (aR ["x"] ds) μ := by
  obtain ⟨x, rfl, q⟩ := h
  unfold ur
  walk_at "rd"
  exact q
theorem ub (h : lZ ds μ Qd) : jU { nx := fun _ μ' => Qd (.v .none) μ', rt := Qd } (aR ["_law_x"] ds) μ := by
  obtain ⟨x, rfl, q⟩ := h
  unfold jU
  walk_at "rd"
  trace_state
  simp only [Int.zero_sub]
  exact q
theorem sx (h : jM ds μ Qd) : iY { nx := fun _ μ' => Qd (.v .none) μ', rt := Qd } (aR ["_law_x"] ds) μ := by
  obtain ⟨x, rfl, q⟩ := h
  unfold iY
  walk_at "rd"
  simp only [Int.zero_sub]
  exact q
theorem IP (a b c a' b' c' : Int) : PyData.eqv (.tuple [.int a, .int b, .int c]) (.tuple [.int a', .int b', .int c']) = decide (a = a' ∧ b = b' ∧ c = c') := by
  simp [PyData.eqv, PyData.eqvAll]
  rfl
end
open PySem PySem.Spec PyProof.Rows NM
def jg : DTS :=
  (aQ (cB (nM (dB (dOp (cu false) (ah 1) (dC (.int 0)))) (dB (dOp (cu false) (ah 2) (dC (.int 0))))) (bh (dC (.int 0))) bu)
  (aQ (cB (nM (dB (dOp rGe (ah 1) (dC (.int 0)))) (dB (dOp rGe (ah 2) (dC (.int 0))))) (bh (dC (.int 1))) bu)
  (aQ (cB (nM (dB (dOp rLe (ah 1) (dC (.int 0)))) (dB (dOp rLe (ah 2) (dC (.int 0))))) (bh (pG (dC (.int 1)))) bu)
  (aQ (bE (dIf (dB (dOp rGt (kd (ah 1) (ah 1)) (kd (kd (ah 0) (ah 2)) (ah 2)))) (ah 1) (ah 2)) (aw 3))
  (bh (dIf (dB (dOp rGt (ah 3) (dC (.int 0)))) (dC (.int 1)) (pG (dC (.int 1)))))))))
def jS : DTS :=
  (aQ (yb 2 3 (ae (kd (dOp aX (ah 1) (dC (.int 0))) (dOp aX (ah 1) (dC (.int 0)))) (ae (kd (kd (ah 0) (dOp aX (ah 1) (dC (.int 1)))) (dOp aX (ah 1) (dC (.int 1)))) aj)))
  (aQ (bE (jq (ae (nr (dCB lL (ae (dOp rGt (dOp aX (ah 1) (dC (.int 0))) (dC (.int 0))) aj)) (dCB lL (ae (dOp rLt (dOp aX (ah 1) (dC (.int 0))) (dC (.int 0))) aj))) (ae (nr (dCB lL (ae (dOp rGt (dOp aX (ah 1) (dC (.int 1))) (dC (.int 0))) aj)) (dCB lL (ae (dOp rLt (dOp aX (ah 1) (dC (.int 1))) (dC (.int 0))) aj))) aj))) (aw 4))
  (aQ (cB (dB (dOp rGe (kd (dOp aX (ah 4) (dC (.int 0))) (dOp aX (ah 4) (dC (.int 1)))) (dC (.int 0)))) (bh (dIf (dB (dOp (cu true) (dOp aX (ah 4) (dC (.int 0))) (dC (.int 0)))) (dOp aX (ah 4) (dC (.int 0))) (dOp aX (ah 4) (dC (.int 1))))) bu)
  (bh (dIf (dB (dOp rGt (ah 2) (ah 3))) (dOp aX (ah 4) (dC (.int 0))) (dOp aX (ah 4) (dC (.int 1))))))))
section
variable {μ : Mu} {Qd : DK} {ds : List D}
theorem AH (h : DV ds μ Qd) : jg { nx := fun _ μ' => Qd (.v .none) μ', rt := Qd } (aR ["d", "a", "b", "prevailing"] ds) μ := by
  obtain ⟨d, a, b, rfl, hd, ha, hb, q⟩ := h
  unfold jg
  walk_at "rd"
  have m1 : MulOk a a := tE ha ha (by decide)
  have m2 : MulOk d b := tE hd hb (by decide)
  have m3 : MulOk (d * b) b := tE (hd.mul hb) hb (by decide)
  unfold sg at q
  by_cases h1 : a = 0
  · by_cases h2 : b = 0
    · subst h1 h2; simpa using q
    · subst h1
      rcases Int.lt_or_gt_of_ne h2 with h3 | h3
      · have e : ¬ (0 ≤ b) := by omega
        have e' : b ≤ 0 := by omega
        simp only [h2, e, e', and_false, true_and, if_true, if_false, decide_true, decide_false, Int.le_refl, ↓reduceIte, Bool.false_eq_true] at q ⊢
        exact q
      · have e : (0 ≤ b) := by omega
        simp only [h2, e, and_false, true_and, if_true, if_false, decide_true, decide_false, Int.le_refl, ↓reduceIte, Bool.false_eq_true] at q ⊢
        exact q
  · by_cases h3 : 0 ≤ a <;> by_cases h4 : 0 ≤ b <;> by_cases h5 : a ≤ 0 <;> by_cases h6 : b ≤ 0 <;> by_cases h7 : d * b * b < a * a <;> (try (exfalso; omega)) <;>
      simp only [h1, h3, h4, h5, h6, h7, and_false, false_and, and_true, true_and, if_true, if_false, decide_true, decide_false, ↓reduceIte, Bool.false_eq_true, and_self, m1, m2, m3, gt_iff_lt] at q ⊢ <;> (try exact q)
    all_goals
      first
      | (by_cases h8 : 0 < a <;> simp only [h8, if_true, if_false, decide_true, decide_false, ↓reduceIte, Bool.false_eq_true] at q ⊢ <;> exact q)
      | (by_cases h8 : 0 < b <;> simp only [h8, if_true, if_false, decide_true, decide_false, ↓reduceIte, Bool.false_eq_true] at q ⊢ <;> exact q)
theorem GB {d a b sa sb : Int} (ha : (a < 0 ∧ sa = -1) ∨ (a = 0 ∧ sa = 0) ∨ (0 < a ∧ sa = 1)) (hb : (b < 0 ∧ sb = -1) ∨ (b = 0 ∧ sb = 0) ∨ (0 < b ∧ sb = 1)) :
    sg d a b = if 0 ≤ sa * sb then (if sa ≠ 0 then sa else sb) else if d * b * b < a * a then sa else sb := by
  unfold sg
  by_cases h7 : d * b * b < a * a <;> rcases ha with ⟨h1, rfl⟩ | ⟨h1, rfl⟩ | ⟨h1, rfl⟩ <;> rcases hb with ⟨h2, rfl⟩ | ⟨h2, rfl⟩ | ⟨h2, rfl⟩ <;> simp only [h7, ↓reduceIte] <;> (repeat' split) <;> omega
theorem u4 (h : uH ds μ Qd) : jS { nx := fun _ μ' => Qd (.v .none) μ', rt := Qd } (aR ["_law_d", "_law_x", "_law_first", "_law_second", "_law_sides"] ds) μ := by
  obtain ⟨d, x, rfl, hd, bx, q⟩ := h
  unfold jS
  walk_at "rd"
  have s5 := Jt hd.1 hd.2.1
  refine ⟨tE bx.a bx.a (by decide), tE s5 bx.b (by decide), tE (s5.mul bx.b) bx.b (by decide), ?_⟩
  have sd : ∀ u : Int, (u < 0 ∧ ((if decide (0 < u) = true then 1 else 0) - if decide (u < 0) = true then 1 else 0 : Int) = -1) ∨ (u = 0 ∧ ((if decide (0 < u) = true then 1 else 0) - if decide (u < 0) = true then 1 else 0 : Int) = 0) ∨ (0 < u ∧ ((if decide (0 < u) = true then 1 else 0) - if decide (u < 0) = true then 1 else 0 : Int) = 1) := fun u => by
    simp only [decide_eq_true_eq]
    split <;> split <;> omega
  have ha := sd x.a
  have hb := sd x.b
  generalize ((if decide (0 < x.a) = true then 1 else 0) - if decide (x.a < 0) = true then 1 else 0 : Int) = sa at ha ⊢
  generalize ((if decide (0 < x.b) = true then 1 else 0) - if decide (x.b < 0) = true then 1 else 0 : Int) = sb at hb ⊢
  rw [GB ha hb] at q
  refine ⟨mulL (by omega), ?_⟩
  by_cases c1 : 0 ≤ sa * sb <;> by_cases c2 : sa = 0 <;> by_cases c3 : d * x.b * x.b < x.a * x.a <;> simp only [c1, c2, c3, decide_true, decide_false, ↓reduceIte, Bool.false_eq_true, Bool.xor_false, Bool.xor_true, Bool.not_true, ne_eq, not_true_eq_false, not_false_eq_true, Int.zero_mul, Int.le_refl] at q ⊢ <;> exact q
end
open PySem PySem.Spec PyProof.Rows NM
def ku : DTS :=
  (aQ (bE (dC (.int 0)) (aw 2))
  (aQ (cB (dB (dOp rLt (ah 1) (dCB cT (ae (ah 0) aj)))) (bE (dOp aX (ah 0) (ah 1)) (aw 2)) bu)
  (aQ (bE (dC (.int 0)) (aw 3))
  (aQ (cB (dB (dOp rGe (dCB mI (ae (ah 2) aj)) (Dy (dC (.int 10)) (dC (.int 18))))) (bE (dCB mI (ae (ah 2) aj)) (aw 3)) bu)
  (aQ (bE (jq (ae (dC (.int 2147483647)) (ae (dC (.int 2147483629)) (ae (dC (.int 2147483587)) (ae (dC (.int 2147483579)) (ae (dC (.int 2147483563)) (ae (dC (.int 2147483549)) (ae (dC (.int 2147483543)) (ae (dC (.int 2147483497)) aj))))))))) (aw 4))
  (aQ (bE (lF (lF (lF (kd (sI (ah 2) (dC (.int 2147483647))) (dC (.int 69623))) (kd (kd (dC (.int 104729)) (ah 1)) (ah 1))) (kd (dC (.int 7919)) (ah 1))) (dC (.int 12345))) (aw 5))
  (bh (wz (ae (ah 3) (ae (sI (ah 5) (dOp aX (ah 4) (sI (ah 1) (dC (.int 8))))) aj))))))))))
def jX : DTS :=
  (aQ (cB (dB (dOp rGt (dOp aX (ah 0) (dC (.int 0))) (dC (.int 0)))) (aQ (bE (sI (dOp aX (ah 0) (dC (.int 0))) (ah 1)) (aw 2))
  (aQ (bE (xI (dOp aX (ah 0) (dC (.int 0))) (ah 1)) (yF (ah 0) (dC (.int 0))))
  (bh (ah 2)))) bu)
  (aQ (bE (sI (lF (kd (dOp aX (ah 0) (dC (.int 1))) (dC (.int 48271))) (dC (.int 2531011))) (dC (.int 2147483647))) (yF (ah 0) (dC (.int 1))))
  (bh (sI (xI (sI (Dy (dOp aX (ah 0) (dC (.int 1))) (dC (.int 3))) (dC (.int 2147483629))) (dC (.int 64))) (ah 1)))))
section
variable {μ : Mu} {Qd : DK} {ds : List D}
theorem p7 {α : Type} {xs : List α} {i : Int} (h0 : 0 ≤ i) (h : i < (xs.length : Nat)) : ∃ d, atI xs i = some d ∧ d ∈ xs := by
  have hj : i.toNat < xs.length := by omega
  have e := pZ (xs := xs) (j := i.toNat) (v := xs[i.toNat]) (by simp [hj])
  rw [show ((i.toNat : Nat) : Int) = i by omega] at e
  exact ⟨_, e, List.getElem_mem _⟩
theorem kG (x : Int) {y : Int} (h : 0 < y) : 0 ≤ x.fmod y ∧ x.fmod y < y := ⟨Int.fmod_nonneg_of_pos x h, Int.fmod_lt_of_pos x h⟩
theorem Dk {x y : Int} (hx : 0 ≤ x) (hy : 0 < y) : 0 ≤ x.fdiv y := by rw [Int.fdiv_eq_ediv_of_nonneg _ (by omega)]; exact Int.ediv_nonneg hx (by omega)
def lj : List PyData := [.int 2147483647, .int 2147483629, .int 2147483587, .int 2147483579, .int 2147483563, .int 2147483549, .int 2147483543, .int 2147483497]
theorem vZ (h : za ds μ Qd) : ku { nx := fun _ μ' => Qd (.v .none) μ', rt := Qd } (aR ["_law_script", "_law_at", "_law_cell", "_law_great", "_law_primes", "_law_mixed"] ds) μ := by
  obtain ⟨ns, k, rfl, h0, h1, q⟩ := h
  unfold ku
  have hp : ∃ pr : Int, atI lj (k.fmod 8) = some (.int pr) ∧ 0 < pr ∧ pr < 2147483648 := by
    obtain ⟨h2, h3⟩ := kG k (show (0 : Int) < 8 by decide)
    obtain ⟨p, e, hm⟩ := p7 (xs := lj) h2 (by exact h3)
    simp only [lj, List.mem_cons, List.not_mem_nil, or_false] at hm
    rcases hm with rfl | rfl | rfl | rfl | rfl | rfl | rfl | rfl <;> exact ⟨_, e, by decide, by decide⟩
  obtain ⟨pr, hpe, hp0, hp1⟩ := hp
  unfold lj at hpe
  walk_at "rd"
  rw [hpe]
  walk_at "rd"
  have c1 : FP 10 18 := ⟨by decide, by decide, by decide⟩
  have z1 : (2147483647 : Int) ≠ 0 := by decide
  have z2 : (8 : Int) ≠ 0 := by decide
  have m1 : ∀ i : Int, MulOk i 69623 := fun i => mulR (by decide)
  have m2 : MulOk 104729 k := mulL (by decide)
  have m3 : MulOk (104729 * k) k := mulR (by omega)
  have m4 : MulOk 7919 k := mulL (by decide)
  have z3 : pr ≠ 0 := by omega
  have fin : ∀ G x : Int, 0 ≤ G → ∀ p, μ p = none → Qd (.m p) (ao μ p [.int G, .int (x.fmod pr)]) := fun G x hG p hp => by
    obtain ⟨h2, h3⟩ := kG x hp0
    exact q p _ hp (Step.set hG h2 (by omega))
  by_cases hk : k < (ns.length : Nat)
  · rw [if_pos (by simpa using hk)]
    obtain ⟨c, hc, _⟩ := p7 h0 hk
    rw [hc]
    walk_at "rd"
    refine ⟨c1, ?_⟩
    split
    · exact ⟨z1, m1 _, m2, m3, m4, z2, z3, fin _ _ (by omega)⟩
    · exact ⟨z1, m1 _, m2, m3, m4, z2, z3, fin _ _ (by omega)⟩
  · rw [if_neg (by simpa using hk)]
    refine ⟨c1, ?_⟩
    split
    · exact ⟨z1, m1 _, m2, m3, m4, z2, z3, fin _ _ (by omega)⟩
    · exact ⟨z1, m1 _, m2, m3, m4, z2, z3, fin _ _ (by omega)⟩
theorem uQ (h : bo ds μ Qd) : jX { nx := fun _ μ' => Qd (.v .none) μ', rt := Qd } (aR ["_law_bag_here", "_law_many", "_law_digit"] ds) μ := by
  obtain ⟨a, n, rfl, h0, h1, ⟨g, m, hb, hg, hm, hm'⟩, q⟩ := h
  unfold jX
  walk_at "rd"
  rw [hb]
  walk_at "rd"
  rw [hb]
  walk_at "rd"
  have n0 : n ≠ 0 := by omega
  have i0 : ixN 2 0 = some 0 := by rfl
  have i1 : ixN 2 1 = some 1 := by rfl
  by_cases hg0 : 0 < g
  · rw [if_pos (by simpa using hg0)]
    simp only [hb]
    walk_at "rd"
    obtain ⟨r0, r1⟩ := kG g (show 0 < n by omega)
    refine ⟨n0, ?_⟩
    simp only [hb]
    walk_at "rd"
    refine ⟨divC n0 (by omega), ?_⟩
    simp only [hb, List.length_cons, List.length_nil, Nat.reduceAdd, i0, List.set_cons_zero]
    exact q _ _ r0 r1 (Step.set (Dk hg (by omega)) hm hm')
  · rw [if_neg (by simpa using hg0)]
    simp only [hb, i1, aB]
    walk_at "rd"
    obtain ⟨s0, s1⟩ := kG (m * 48271 + 2531011) (show (0 : Int) < 2147483647 by decide)
    generalize (m * 48271 + 2531011).fmod 2147483647 = w at s0 s1 ⊢
    obtain ⟨r0, r1⟩ := kG ((((w ^ Int.toNat 3).fmod 2147483629).fdiv 64)) (show 0 < n by omega)
    refine ⟨mulL (by omega), by decide, ?_⟩
    refine ⟨⟨by decide, by decide, by omega⟩, (by show (2147483629 : Int) ≠ 0; decide), divC (by decide) (by decide), n0, ?_⟩
    exact q _ _ r0 r1 (Step.set hg s0 (by omega))
end
open PySem PySem.Spec PyProof.Rows NM
section
variable {μ : Mu} {Qd : DK} {ds : List D}
end
open PySem PySem.Spec PyProof.Rows NM
def jW : DTS :=
  (aQ (cB (fi (cg (dB (ow "tuple" (ah 0)))) (dB (dOp (cu true) (dCB cT (ae (ah 0) aj)) (dC (.int 3))))) (bh (dC (.bool false))) bu)
  (aQ (bE (ah 0) (gw 3 (ba (aw 1) (ba (aw 2) (ba (aw 3) gQ)))))
  (aQ (cB (fi (cg (dB (aF cU (ae (ah 1) aj)))) (fi (cg (dB (aF cU (ae (ah 2) aj)))) (cg (dB (aF cU (ae (ah 3) aj)))))) (bh (dC (.bool false))) bu)
  (bh (mD (dOp rGe (ah 3) (dC (.int 1))) (dOp (cu false) (aF uu (ae (ah 1) (ae (ah 2) (ae (ah 3) aj)))) (dC (.int 1))))))))
section
variable {μ : Mu} {Qd : DK} {ds : List D}
def zj (i : Int) : Bool := decide (2 ≤ i) && decide (i ≤ 30) && !(decide (i = 4) || decide (i = 9) || decide (i = 16) || decide (i = 25))
theorem cK (d : PyData) : (∃ i, d = .int i ∧ isWhole d = true) ∨ ((∀ i, d ≠ .int i) ∧ isWhole d = false) := by
  cases d <;> first | exact .inl ⟨_, rfl, rfl⟩ | exact .inr ⟨fun _ z => (by cases z), rfl⟩
theorem zF (d : PyData) : (∃ xs, d = .tuple xs ∧ isT "tuple" d = true) ∨ ((∀ xs, d ≠ .tuple xs) ∧ isT "tuple" d = false) := by
  cases d <;> first | exact .inl ⟨_, rfl, rfl⟩ | exact .inr ⟨fun _ z => (by cases z), rfl⟩
theorem sN {d : PyData} (h : ∀ xs, d ≠ .tuple xs) : isNum d = false := by cases d <;> first | rfl | exact absurd rfl (h _)
theorem sZ {xs : List PyData} (h : xs.length ≠ 3) : isNum (.tuple xs) = false := by
  unfold isNum
  split
  · rename_i e; cases e; exact absurd rfl h
  · rfl
theorem three {α : Type} {xs : List α} (h : xs.length = 3) : ∃ a b c, xs = [a, b, c] := by
  match xs, h with
  | [a, b, c], _ => exact ⟨a, b, c, rfl⟩
theorem vA (h : lR ds μ Qd) : jW { nx := fun _ μ' => Qd (.v .none) μ', rt := Qd } (aR ["thing", "a", "b", "c"] ds) μ := by
  obtain ⟨d, rfl, _, q⟩ := h
  unfold jW
  walk_at "rd"
  rcases zF d with ⟨xs, rfl, e⟩ | ⟨hn, e⟩
  · rw [e]
    walk_at "rd"
    by_cases hl : xs.length = 3
    · obtain ⟨a, b, c, rfl⟩ := three hl
      have e3 : decide ((([a, b, c].length : Nat) : Int) = 3) = true := rfl
      have e3' : [a, b, c].length = 3 := rfl
      simp only [e3, Bool.xor_self, Bool.false_eq_true, ↓reduceIte]
      refine ⟨rfl, ?_⟩
      walk_at "rd"
      refine ⟨a, rfl, ?_⟩
      rcases cK a with ⟨i, rfl, e⟩ | ⟨hn, e⟩
      · rw [e]
        walk_at "rd"
        refine ⟨b, rfl, ?_⟩
        rcases cK b with ⟨j, rfl, e⟩ | ⟨hn, e⟩
        · rw [e]
          walk_at "rd"
          refine ⟨c, rfl, ?_⟩
          rcases cK c with ⟨k, rfl, e⟩ | ⟨hn, e⟩
          · rw [e]
            walk_at "rd"
            have q' : Qd (.v (.bool (decide (1 ≤ k) && (g3 i j k == 1)))) μ := q
            by_cases hk : 1 ≤ k
            · rw [if_pos (by simpa using hk)]
              refine ⟨i, j, k, rfl, ?_⟩
              walk_at "rd"
              have ee : decide (((g3 i j k : Nat) : Int) = 1) = (decide (1 ≤ k) && (g3 i j k == 1)) := by
                rw [decide_eq_true hk, Bool.true_and, Bool.eq_iff_iff]; simp; omega
              rw [ee]
              exact q'
            · rw [if_neg (by simpa using hk)]
              rw [decide_eq_false hk] at q'
              exact q'
          · rw [e]
            walk_at "rd"
            have : isNum (.tuple [.int i, .int j, c]) = false := by cases c <;> first | rfl | exact absurd rfl (hn _)
            rw [this] at q
            exact q
        · rw [e]
          walk_at "rd"
          have : isNum (.tuple [.int i, b, c]) = false := by cases b <;> first | rfl | exact absurd rfl (hn _)
          rw [this] at q
          exact q
      · rw [e]
        walk_at "rd"
        have : isNum (.tuple [a, b, c]) = false := by cases a <;> first | rfl | exact absurd rfl (hn _)
        rw [this] at q
        exact q
    · rw [sZ hl] at q
      have : decide (((xs.length : Nat) : Int) = 3) = false := by simp; omega
      rw [this]
      simp only [Bool.xor_false, ↓reduceIte]
      exact q
  · rw [e]
    rw [sN hn] at q
    walk_at "rd"
    exact q
end
open PySem PySem.Spec PyProof.Rows NM
def eL : DTS :=
  (aQ (cB (fi (cg (dB (ow "tuple" (ah 0)))) (fi (dB (dOp (cu true) (dCB cT (ae (ah 0) aj)) (dC (.int 3)))) (cg (dB (dCB mR (ae (nP [none] (o5 (ah 0)) (aw 0) mX (aF cU (ae (ah 0) aj))) aj)))))) (bh (dC (.bool false))) bu)
  (bh (mD (dOp rGt (dOp aX (ah 0) (dC (.int 2))) (dC (.int 0))) (dOp (cu false) (aF kB (ae (aF kB (ae (dOp aX (ah 0) (dC (.int 0))) (ae (dOp aX (ah 0) (dC (.int 1))) aj))) (ae (dOp aX (ah 0) (dC (.int 2))) aj))) (dC (.int 1))))))
section
variable {μ : Mu} {Qd : DK} {ds : List D}
theorem nG (h : lR ds μ Qd) : eL { nx := fun _ μ' => Qd (.v .none) μ', rt := Qd } (aR ["_law_thing"] ds) μ := by
  obtain ⟨d, rfl, few, q⟩ := h
  unfold eL
  walk_at "rd"
  rcases zF d with ⟨xs, rfl, e⟩ | ⟨hn, e⟩
  · rw [e]
    walk_at "rd"
    by_cases hl : xs.length = 3
    · obtain ⟨a, b, c, rfl⟩ := three hl
      have e3 : decide ((([a, b, c].length : Nat) : Int) = 3) = true := rfl
      simp only [e3, Bool.xor_self, Bool.false_eq_true, ↓reduceIte]
      refine ⟨by simp, fun x => some (.bool (isWhole x)), fun x hx μ' hs => ⟨trivial, x, rfl, rfl, rfl⟩, ?_⟩
      rw [lz (fun x => PyData.bool (isWhole x)), iX]
      simp only [List.map_cons, List.map_nil, List.all_cons, List.all_nil, id, Bool.and_true]
      rcases cK a with ⟨i, rfl, ea⟩ | ⟨hn, ea⟩
      · rcases cK b with ⟨j, rfl, e1⟩ | ⟨hn, e1⟩
        · rcases cK c with ⟨k, rfl, e2⟩ | ⟨hn, e2⟩
          · rw [ea, e1, e2]
            simp only [Bool.and_self]
            walk_at "rd"
            have q' : Qd (.v (.bool (decide (1 ≤ k) && (g3 i j k == 1)))) μ := q
            by_cases hk : 1 ≤ k
            · rw [if_pos (by simp; omega)]
              refine ⟨i, j, rfl, _, k, rfl, ?_⟩
              walk_at "rd"
              have ee : decide (((Int.gcd (Int.gcd i j : Nat) k : Nat) : Int) = 1) = (decide (1 ≤ k) && (g3 i j k == 1)) := by
                unfold g3
                rw [decide_eq_true hk, Bool.true_and, Bool.eq_iff_iff]; simp; omega
              rw [ee]
              exact q'
            · rw [if_neg (by simp; omega)]
              rw [decide_eq_false hk] at q'
              exact q'
          · rw [ea, e1, e2]
            simp only [Bool.and_false]
            walk_at "rd"
            have : isNum (.tuple [.int i, .int j, c]) = false := by cases c <;> first | rfl | exact absurd rfl (hn _)
            rw [this] at q
            exact q
        · rw [ea, e1]
          simp only [Bool.and_false, Bool.false_and]
          walk_at "rd"
          have : isNum (.tuple [.int i, b, c]) = false := by cases b <;> first | rfl | exact absurd rfl (hn _)
          rw [this] at q
          exact q
      · rw [ea]
        simp only [Bool.and_false, Bool.false_and]
        walk_at "rd"
        have : isNum (.tuple [a, b, c]) = false := by cases a <;> first | rfl | exact absurd rfl (hn _)
        rw [this] at q
        exact q
    · rw [sZ hl] at q
      have : decide (((xs.length : Nat) : Int) = 3) = false := by simp; omega
      rw [this]
      simp only [Bool.xor_false, ↓reduceIte]
      exact q
  · rw [e]
    rw [sN hn] at q
    walk_at "rd"
    exact q
theorem pick {P : PyData → Prop} {xs : List PyData} {i : Int} (h0 : 0 ≤ i) (h1 : i < (xs.length : Nat)) (h : ∀ x ∈ xs, P x) : ∃ d, atI xs i = some d ∧ P d := let ⟨d, e, m⟩ := p7 h0 h1; ⟨d, e, h d m⟩
theorem Step.refl {a : Addr} (h : Bag μ a) : Step a μ μ := ⟨h, fun _ _ => rfl⟩
end
open PySem PySem.Spec PyProof.Rows NM
def jP : DTS :=
  (aQ (cB (dB (dOp (cu false) (aF bo (ae (ah 0) (ae (dC (.int 2)) aj))) (dC (.int 0)))) (bh (dOp aX (jq (ae (dC (.int 2)) (ae (dC (.int 3)) (ae (dC (.int 5)) aj)))) (aF bo (ae (ah 0) (ae (dC (.int 3)) aj))))) bu)
  (aQ (bE (kD [none] (yC (ae (dC (.int 2)) (ae (dC (.int 31)) aj))) (aw 0) (dB (dOp (Di true) (ah 0) (jq (ae (dC (.int 4)) (ae (dC (.int 9)) (ae (dC (.int 16)) (ae (dC (.int 25)) aj))))))) (ah 0)) (aw 1))
  (bh (dOp aX (ah 1) (aF bo (ae (ah 0) (ae (dC (.int 25)) aj)))))))
def kW : DTS :=
  (aQ (bE (jq (ae (dC .none) (ae (dC (.bool true)) (ae (dC (.bool false)) (ae (dC (.str "1")) (ae (dC (.str "")) (ae (pG (dC (.int 1))) (ae (dC (.int 0)) (ae (dC (.int 1)) (ae (Dy (dC (.int 10)) (dC (.int 59))) (ae (aS aj) (ae (jq aj) (ae (jq (ae (dC (.int 0)) aj)) (ae (aS (ae (dC (.int 0)) (ae (dC (.int 0)) aj))) (ae (aS (ae (dC (.int 1)) (ae (dC (.int 0)) (ae (dC (.int 0)) aj)))) (ae (aS (ae (dC (.int 2)) (ae (dC (.int 0)) (ae (dC (.int 2)) aj)))) (ae (aS (ae (dC (.int 1)) (ae (dC (.bool true)) (ae (dC (.int 1)) aj)))) (ae (aS (ae (dC (.int 1)) (ae (dC (.int 1)) (ae (pG (dC (.int 1))) aj)))) (ae (jq (ae (dC (.int 1)) (ae (dC (.int 0)) (ae (dC (.int 1)) aj)))) (ae (aS (ae (dC (.int 1)) (ae (dC (.int 0)) aj))) (ae (dC (.str "a")) aj))))))))))))))))))))) (aw 1))
  (bh (dOp aX (ah 1) (aF bo (ae (ah 0) (ae (dC (.int 20)) aj))))))
section
variable {μ : Mu} {Qd : DK} {ds : List D}
theorem D3 {lo : Int} {n : Nat} {x : PyData} (h : x ∈ kQ lo n) : ∃ i : Int, x = .int i ∧ lo ≤ i ∧ i < lo + n := by
  unfold kQ at h
  obtain ⟨k, hk, rfl⟩ := List.mem_map.mp h
  have := List.mem_range.mp hk
  exact ⟨_, rfl, by omega, by omega⟩
def xy : PyData → Option PyData
  | .int i => if zj i then some (.int i) else none
  | _ => none
def uq : List PyData := [2, 3, 5, 6, 7, 8, 10, 11, 12, 13, 14, 15, 17, 18, 19, 20, 21, 22, 23, 24, 26, 27, 28, 29, 30].map PyData.int
theorem in4 (i : Int) : (List.any [PyData.int 4, PyData.int 9, PyData.int 16, PyData.int 25] fun b => PyData.eqv b (.int i)) = (decide (i = 4) || decide (i = 9) || decide (i = 16) || decide (i = 25)) := by
  have ev : ∀ j : Int, PyData.eqv (.int j) (.int i) = decide (i = j) := fun j => by rw [Js]; simp [eq_comm]
  simp only [List.any_cons, List.any_nil, ev, Bool.or_false, Bool.or_assoc]
theorem vz (h : p6 ds μ Qd) : jP { nx := fun _ μ' => Qd (.v .none) μ', rt := Qd } (aR ["_law_bag_here", "_law_some"] ds) μ := by
  obtain ⟨a, rfl, hb, q⟩ := h
  unfold jP
  walk_at "rd"
  refine ⟨a, 2, rfl, by decide, by decide, hb, fun r0 μ1 h0 h1 s1 => ?_⟩
  walk_at "rd"
  by_cases hr : r0 = 0
  · rw [if_pos (by simpa using hr)]
    refine ⟨a, 3, rfl, by decide, by decide, s1.1, fun r1 μ2 h2 h3 s2 => ?_⟩
    walk_at "rd"
    obtain ⟨w, e, i, rfl, w0⟩ := pick (P := fun d => ∃ i : Int, d = .int i ∧ bz i) (xs := [PyData.int 2, PyData.int 3, PyData.int 5]) h2 (by exact h3) (by
      intro x hx
      simp only [List.mem_cons, List.not_mem_nil, or_false] at hx
      rcases hx with rfl | rfl | rfl <;> exact ⟨_, rfl, by unfold bz; omega⟩)
    rw [e]
    exact q _ _ w0 (s1.trans s2)
  · rw [if_neg (by simpa using hr)]
    refine ⟨⟨by decide, by decide, by decide, by decide⟩, by decide, fun p hp => ⟨fun i acc μ' => acc = ((kQ 2 29).take i).filterMap xy ∧ μ' = ao μ1 p acc, ⟨rfl, rfl⟩, ?_, ?_⟩⟩
    · rintro i x acc μ' hx hpa ⟨e0, e1⟩
      obtain ⟨k, rfl, i0, i1⟩ := D3 (List.mem_of_getElem? hx)
      refine ⟨trivial, rfl, rfl, by show 0 ≤ 60; decide, ?_⟩
      rw [in4]
      have i1' : k < 31 := by simpa using i1
      have e : xy (.int k) = if zj k then some (.int k) else none := rfl
      have e2 : zj k = !(decide (k = 4) || decide (k = 9) || decide (k = 16) || decide (k = 25)) := by
        unfold zj
        rw [decide_eq_true i0, decide_eq_true (show k ≤ 30 by omega)]
        rfl
      have ft : ((kQ 2 29).take (i + 1)).filterMap xy = ((kQ 2 29).take i).filterMap xy ++ (xy (.int k)).toList := FY hx
      rw [e, e2] at ft
      cases hh : (decide (k = 4) || decide (k = 9) || decide (k = 16) || decide (k = 25))
      · rw [hh] at ft
        simp only [Bool.true_xor, Bool.not_false, ↓reduceIte] at ft ⊢
        refine ⟨hpa, ?_, ?_⟩
        · rw [ft, e0]; rfl
        · rw [e1, i9]
      · rw [hh] at ft
        simp only [Bool.true_xor, Bool.not_true, ↓reduceIte, Bool.false_eq_true] at ft ⊢
        refine ⟨hpa, ?_, e1⟩
        rw [ft, e0]; simp
    rintro acc μ' ⟨e0, e1⟩ _
    have ed : cf μ' p = μ1 := by rw [e1]; exact tw hp
    rw [ed]
    have e0' : acc = uq := by rw [e0]; rfl
    rw [e0']
    refine ⟨a, 25, rfl, by decide, by decide, s1.1, fun r1 μ2 h2 h3 s2 => ?_⟩
    walk_at "rd"
    obtain ⟨w, e, i, rfl, w0⟩ := pick (P := fun d => ∃ i : Int, d = .int i ∧ bz i) (xs := uq) h2 (by exact h3) (by
      intro x hx
      unfold uq at hx
      obtain ⟨k, hk, rfl⟩ := List.mem_map.mp hx
      refine ⟨_, rfl, ?_⟩
      simp only [List.mem_cons, List.not_mem_nil, or_false] at hk
      unfold bz
      omega)
    rw [e]
    exact q _ _ w0 (s1.trans s2)
def eD : List PyData := [.none, .bool true, .bool false, .str "1", .str "", .int (-1), .int 0, .int 1, .int (10 ^ Int.toNat 59), .tuple [], .list [], .list [.int 0], .tuple [.int 0, .int 0], .tuple [.int 1, .int 0, .int 0], .tuple [.int 2, .int 0, .int 2], .tuple [.int 1, .bool true, .int 1], .tuple [.int 1, .int 1, .int (-1)], .list [.int 1, .int 0, .int 1], .tuple [.int 1, .int 0], .str "a"]
def xp : DSp := fun ds μ Q => ∃ a : Addr, ds = [.m a] ∧ Bag μ a ∧ ∀ d μ', d ∈ eD → Step a μ μ' → Q (.v d) μ'
theorem xw (h : xp ds μ Qd) : kW { nx := fun _ μ' => Qd (.v .none) μ', rt := Qd } (aR ["_law_bag_here", "_law_some"] ds) μ := by
  obtain ⟨a, rfl, hb, q⟩ := h
  unfold kW
  walk_at "rd"
  refine ⟨⟨by decide, by decide, by decide⟩, a, 20, rfl, by decide, by decide, hb, fun r0 μ1 h0 h1 s1 => ?_⟩
  walk_at "rd"
  obtain ⟨d, e, m⟩ := p7 (xs := eD) h0 (by exact h1)
  unfold eD at e
  rw [e]
  exact q d _ m s1
end
open PySem PySem.Spec PyProof.Rows NM
section
variable {μ : Mu} {Q : DK} {ds : List D}
def qi : DSp := fun ds μ Q => ∃ ns : List Int, ds = [.s ns] ∧ ns.length ≤ 63 ∧ ∀ μ', Q (.v (.bool true)) μ'
theorem o3 (h : cU ds μ Q) : ds.length = 1 := by obtain ⟨_, rfl, _⟩ := h; rfl
theorem tq (h : kB ds μ Q) : ds.length = 2 := by obtain ⟨_, _, rfl, _⟩ := h; rfl
theorem xJ (h : uu ds μ Q) : ds.length = 3 := by obtain ⟨_, _, _, rfl, _⟩ := h; rfl
theorem qO (h : lR ds μ Q) : ds.length = 1 := by obtain ⟨_, rfl, _⟩ := h; rfl
theorem vb (h : kT ds μ Q) : ds.length = 3 := by obtain ⟨_, _, _, rfl, _⟩ := h; rfl
theorem qR (h : lZ ds μ Q) : ds.length = 1 := by obtain ⟨_, rfl, _⟩ := h; rfl
theorem vN (h : jM ds μ Q) : ds.length = 1 := by obtain ⟨_, rfl, _⟩ := h; rfl
theorem yx (h : uH ds μ Q) : ds.length = 2 := by obtain ⟨_, _, rfl, _⟩ := h; rfl
theorem AI (h : za ds μ Q) : ds.length = 2 := by obtain ⟨_, _, rfl, _⟩ := h; rfl
theorem xT (h : bo ds μ Q) : ds.length = 2 := by obtain ⟨_, _, rfl, _⟩ := h; rfl
theorem wN (h : p6 ds μ Q) : ds.length = 1 := by obtain ⟨_, rfl, _⟩ := h; rfl
theorem Az (h : xp ds μ Q) : ds.length = 1 := by obtain ⟨_, rfl, _⟩ := h; rfl
theorem zR (h : qi ds μ Q) : ds.length = 1 := by obtain ⟨_, rfl, _⟩ := h; rfl
end
def jx : DTS := iU
theorem ou {μ Qd ds} (h : cU ds μ Qd) : jx { nx := fun _ μ' => Qd (.v .none) μ', rt := Qd } (aR ["_law_thing"] ds) μ := pk h
structure II (K : PySem.W.Frag) (mg : Str → Option Value) (x : Str) (g : Addr) (a b c : Int) : Prop where
  m : mg x = some (.ref g)
  l : ∃ (od : Option Addr) (n : Nat) (sl : Array (Option Value)) (t u v : Tok), K.lookup g = some ⟨.type "tuple", od, .seq #[.int a t, .int b u, .int c v] n, sl⟩
theorem Bh {X : Cx} {x : Str} {g : Addr} {a b c : Int} {pos : Pos} (hg : Gl X x) (h : II X.K X.mg x g a b c) (hd : (x == ("__debug__" : Str)) = false := by decide) : DE X (.Name x pos) (dC (.tuple [.int a, .int b, .int c])) := by
  obtain ⟨od, n, sl, t, u, v, e⟩ := h.l
  refine lr (u := .ref g) hg h.m rfl (fun μ H _ => Rp.tuple (xs := [.int a, .int b, .int c]) (.inr ⟨_, _, _, e, rfl, rfl, (by show 3 ≤ sizeLine; decide), .cons ⟨t, rfl⟩ (.cons ⟨u, rfl⟩ (.cons ⟨v, rfl⟩ .nil))⟩) (.cons (.int a) (.cons (.int b) (.cons (.int c) .nil)))) hd
theorem Ac {K : PySem.W.Frag} {H : Hp} {a : Addr} {ns : List Int} (hl : ns.length ≤ 63) (hT : rV K H) (hS : SqL K H a (ns.map V.int)) : spD K qi [.ref a] H (fun v _ => v = .bl true) fun _ _ _ => False := by
  refine ⟨[.s ns], fun _ => none, fun d _ => d = .v (.bool true), ⟨fun a ds h => (by cases h), hT⟩, .cons ⟨a, rfl, hS, rfl⟩ .nil, ⟨ns, rfl, hl, fun _ => rfl⟩, fun d u μ' H' _ _ r q => ?_⟩
  subst q
  cases r
  rfl
open PySem PySem.Spec PyProof.Rows NM
section
variable {μ : Mu} {Q : DK} {ds : List D} {x y : N3}
theorem Hz (a b c : Int) : PyData.tuple [.int a, .int b, .int c] = dN ⟨a, b, c⟩ := rfl
theorem GY : aX (.v (dN x)) (.v (.int 0)) μ Q = Q (.v (.int x.a)) μ := by unfold dN; rw [yj]
theorem GO : aX (.v (dN x)) (.v (.int 1)) μ Q = Q (.v (.int x.b)) μ := by unfold dN; rw [x9]
theorem FD : aX (.v (dN x)) (.v (.int 2)) μ Q = Q (.v (.int x.c)) μ := by unfold dN; rw [yf]
theorem eqN : PyData.eqv (dN x) (dN y) = decide (x = y) := by
  unfold dN
  rw [IP, Bool.eq_iff_iff]
  simp only [decide_eq_true_eq]
  exact ⟨fun h => N3.ext' h.1 h.2.1 h.2.2, fun h => by subst h; exact ⟨rfl, rfl, rfl⟩⟩
theorem HS {neg : Bool} : cu neg (.v (dN x)) (.v (dN y)) μ Q = Q (.v (.bool (neg ^^ decide (x = y)))) μ := by
  rw [Bm, eqN]
  exact propext ⟨fun h => h.2.2, fun h => ⟨rfl, rfl, h⟩⟩
theorem Cs (h : Ok x) : isNum (dN x) = true := by
  have := h.c
  show (decide (1 ≤ x.c) && (g3 x.a x.b x.c == 1)) = true
  rw [h.g]
  simp; omega
theorem j6 : Few (dN x) := by simp [dN, Few]
theorem Gu {d a b c : Int} (h : bz d) (hc : 0 < c) : sg d (low a b c).a (low a b c).b = sg d a b := by
  obtain ⟨k, hk, hs, p1, p2, p3, _⟩ := kX a b (show c ≠ 0 by omega)
  have e := kK (a := (low a b c).a) (b := (low a b c).b) h (hs.mpr hc)
  rw [← p1, ← p2] at e
  exact e.symm
theorem CA {lo : Int} {n i : Nat} {x : PyData} (h : (kQ lo n)[i]? = some x) : x = .int (lo + i) ∧ i < n := by
  unfold kQ at h
  rw [List.getElem?_map] at h
  by_cases hi : i < n
  · rw [List.getElem?_range hi] at h
    cases h
    exact ⟨rfl, hi⟩
  · rw [List.getElem?_eq_none (by simpa using hi)] at h
    cases h
theorem Ck {lo : Int} {n : Nat} : (kQ lo n).length = n := by unfold kQ; simp
end
end L2.DL
set_option Elab.async false
set_option linter.all false
set_option maxRecDepth 100000
set_option maxHeartbeats 4000000
namespace NM
inductive Euc : Nat → Nat → List Nat → Prop
  | nil (r : Nat) : Euc r 0 []
  | cons {r s : Nat} {cs : List Nat} : 0 < s → Euc s (r % s) cs → Euc r s (r / s :: cs)
theorem Euc.eq {r s : Nat} {cs cs' : List Nat} (h : Euc r s cs) : Euc r s cs' → cs = cs' := by
  induction h generalizing cs' with
  | nil r =>
    intro g
    cases g with
    | nil => rfl
    | cons h _ => exact absurd h (by decide)
  | cons hs _ ih =>
    intro g
    cases g with
    | nil => exact absurd hs (by decide)
    | cons _ g => rw [ih g]
section
variable {d : Int} {u : N3} {i j : Nat}
theorem Ja (i : Int) : Ok ⟨i, 0, 1⟩ := ⟨by show (0 : Int) < 1; decide, by show Int.gcd (Int.gcd i 0) 1 = 1; exact Int.gcd_one_right _⟩
end
end NM
set_option Elab.async false
set_option linter.all false
set_option maxRecDepth 100000
set_option maxHeartbeats 4000000
namespace L2.DL
open PySem PySem.Spec PyProof.Rows NM
local macro_rules | `(tactic| walk_at "rn") => `(tactic| simp only [↓Dg, ↓BZ, ↓C3, ↓tY, ↓CT, ↓BU, ↓Cb, ↓Cw, ↓C9, ↓Cg, ↓yO, ↓q_c, ↓DY, ↓q_B, ↓HX, ↓EN, ↓Fb, ↓uY, ↓EG, ↓BP, ↓BL, ↓E3, ↓BV, ↓HL, ↓rD, ↓me, ↓zG, ↓zu, ↓Co, ↓yH, ↓ze, ↓zo, ↓E1, ↓EX, ↓EZ, ↓EU, ↓ve, ↓CQ, ↓AR, ↓yj, ↓x9, ↓yf, ↓Bq, ↓wK, ↓tf, ↓Cc, ↓EL, ↓Eu, ↓Bx, ↓AU, ↓Bt, ↓CY, ↓CU, ↓IL, ↓w9, ↓BC, ↓EE, ↓EY, ↓EB, ↓Eg, ↓u7, ↓AW, ↓Bi, ↓Cy, ↓EH, ↓HR, ↓Cn, ↓Bv, ↓zv, ↓yS, ↓CV, ↓EF, ↓E8, ↓E5, ↓k9, ↓BQ, ↓yV, ↓BM, ↓Cp, ↓zO, ↓Fc, ↓BX, ↓qe, ↓zJ, ↓CL, ↓yZ, ↓zr, ↓CJ, ↓Ey, ↓Et, ↓B8, ↓zh, ↓A5, ↓wt, ↓yI, ↓vY, ↓wD, ↓zg, ↓xE, ↓xh, ↓wC, ↓EO, A8, ↓AY, ↓uF, Bn, CI, EK, EW, Ez, Option.bind_none, Option.bind_some, Option.join_some, List.getElem?_cons_zero, List.getElem?_cons_succ, aR, Hz, GY, GO, FD, HS, o9, wL, xg, zN, BG, List.map, List.append, List.replicate, List.length_cons, List.length_nil, Nat.reduceAdd, Nat.reduceSub, List.nil_append, List.cons_append, List.set_cons_zero, List.set_cons_succ, Option.map_some, ↓reduceIte, Bool.not_true, Bool.not_false, Bool.false_eq_true, Bool.true_eq_false, Bool.xor_false, Bool.false_xor])
def numOf : PyData → N3
  | .tuple [.int a, .int b, .int c] => ⟨a, b, c⟩
  | _ => cm
def fj (n : Int) : PyData → Bool
  | .tuple [.int i, .int j, c] => isNum c && (decide (0 ≤ i) && (decide (i < j) && (decide (j < n) && !decide (numOf c = cm))))
  | _ => false
def iD : PyData → Bool
  | .tuple [.int l, .tuple ts] => decide (2 ≤ l) && (decide (l ≤ 61) && (decide (1 ≤ ts.length) && (decide (ts.length ≤ 60) && ts.all (fj l))))
  | _ => false
def uj (x : PyData) : Prop := ∀ a b c, x = .tuple [a, b, c] → Few c
def my (t : PyData) : Prop := ∀ l ts, t = .tuple [l, .tuple ts] → ∀ x ∈ ts, uj x
def yU : DSp := fun ds μ Q => ∃ (t : PyData) (n : Int), ds = [.v t, .v (.int n)] ∧ uj t ∧ Q (.v (.bool (fj n t))) μ
theorem zQ {ds : List D} {μ : Mu} {Q : DK} (h : yU ds μ Q) : ds.length = 2 := by obtain ⟨_, _, rfl, _⟩ := h; rfl
def dm : DSp := fun ds μ Q => ∃ t : PyData, ds = [.v t] ∧ my t ∧ Q (.v (.bool (iD t))) μ
theorem pd {ds : List D} {μ : Mu} {Q : DK} (h : dm ds μ Q) : ds.length = 1 := by obtain ⟨_, rfl, _⟩ := h; rfl
abbrev T3N := Int × Int × N3
def bV (e : T3N) : PyData := .tuple [.int e.1, .int e.2.1, dN e.2.2]
def g7 (n : Int) (es : List T3N) : PyData := .tuple [.int n, .tuple (es.map bV)]
structure GN (n : Int) (es : List T3N) : Prop where
  n2 : 2 ≤ n
  n61 : n ≤ 61
  l1 : 1 ≤ es.length
  l60 : es.length ≤ 60
  ok : ∀ e ∈ es, 0 ≤ e.1 ∧ e.1 < e.2.1 ∧ e.2.1 < n ∧ Ok e.2.2 ∧ e.2.2 ≠ cm
def jj : DSp := fun ds μ Q => ∃ t : PyData, ds = [.v t] ∧ my t ∧ iD t = true ∧ Q (.v .none) μ
theorem sF {ds : List D} {μ : Mu} {Q : DK} (h : jj ds μ Q) : ds.length = 1 := by obtain ⟨_, rfl, _⟩ := h; rfl
def jJ : XSp := fun ds μ Xk => ∃ t : PyData, ds = [.v t] ∧ my t ∧ iD t = false ∧ Xk μ
theorem o8 {ds : List D} {μ : Mu} {Xk : Mu → Prop} (h : jJ ds μ Xk) : ds.length = 1 := by obtain ⟨_, rfl, _⟩ := h; rfl
def mS : XSp := fun ds μ Xk => ∃ (t : PyData) (z z' : D), ds = [z, .v t, z'] ∧ my t ∧ iD t = false ∧ Xk μ
theorem u5 {ds : List D} {μ : Mu} {Xk : Mu → Prop} (h : mS ds μ Xk) : ds.length = 3 := by obtain ⟨_, _, _, rfl, _⟩ := h; rfl
def ko : XSp := fun ds μ Xk => ∃ (n : Int) (es : List T3N) (z z' : D), ds = [z, .v (g7 n es), z'] ∧ GN n es ∧ (13 < n ∨ 12 < es.length) ∧ Xk μ
theorem sf {ds : List D} {μ : Mu} {Xk : Mu → Prop} (h : ko ds μ Xk) : ds.length = 3 := by obtain ⟨_, _, _, _, rfl, _⟩ := h; rfl
def jr (e : T3N) : T3N := (e.1, e.2.1, kf e.2.2)
def jk : DSp := fun ds μ Q => ∃ (n : Int) (es : List T3N), ds = [.v (g7 n es)] ∧ GN n es ∧ Q (.v (g7 n (es.map jr))) μ
theorem rY {ds : List D} {μ : Mu} {Q : DK} (h : jk ds μ Q) : ds.length = 1 := by obtain ⟨_, _, rfl, _⟩ := h; rfl
def oo : DTS :=
  (aQ (cB (fi (cg (dB (ow "tuple" (ah 0)))) (dB (dOp (cu true) (dCB cT (ae (ah 0) aj)) (dC (.int 3))))) (bh (dC (.bool false))) bu)
  (aQ (bE (ah 0) (gw 3 (ba (aw 2) (ba (aw 3) (ba (aw 4) gQ)))))
  (aQ (cB (fi (cg (dB (aF cU (ae (ah 2) aj)))) (fi (cg (dB (aF cU (ae (ah 3) aj)))) (cg (dB (aF lR (ae (ah 4) aj)))))) (bh (dC (.bool false))) bu)
  (bh (mD (dOp rLe (dC (.int 0)) (ah 2)) (mD (dOp rLt (ah 2) (ah 3)) (mD (dOp rLt (ah 3) (ah 1)) (dOp (cu true) (ah 4) (dC (.tuple [.int 0, .int 0, .int 1]))))))))))
def nW : DTS :=
  (aQ (cB (fi (cg (dB (ow "tuple" (ah 0)))) (dB (dOp (cu true) (dCB cT (ae (ah 0) aj)) (dC (.int 2))))) (bh (dC (.bool false))) bu)
  (aQ (bE (ah 0) (gw 2 (ba (aw 1) (ba (aw 2) gQ))))
  (aQ (cB (fi (cg (dB (aF cU (ae (ah 1) aj)))) (fi (dB (dOp rLt (ah 1) (dC (.int 2)))) (dB (dOp rGt (ah 1) (dC (.int 61)))))) (bh (dC (.bool false))) bu)
  (aQ (cB (fi (cg (dB (ow "tuple" (ah 2)))) (fi (dB (dOp rLt (dCB cT (ae (ah 2) aj)) (dC (.int 1)))) (dB (dOp rGt (dCB cT (ae (ah 2) aj)) (dC (.int 60)))))) (bh (dC (.bool false))) bu)
  (bh (dCB mR (ae (nP [none, some 1] (o5 (ah 2)) (aw 0) mX (aF yU (ae (ah 0) (ae (ah 1) aj)))) aj)))))))
def iq : DTS :=
  (cB (cg (dB (aF dm (ae (ah 0) aj)))) yv bu)
def cP : DTX :=
  (xIf (cg (dB (aF dm (ae (ah 0) aj)))) (fun _ μ Xk => Xk μ) yz)
def kR : DTS :=
  (aQ (qU (aF jj (ae (ah 0) aj)))
  (aQ (bE (ah 0) (gw 2 (ba (aw 1) (ba (aw 2) gQ))))
  (bh (aS (ae (ah 1) (ae (dCB gR (ae (nP [none, none, none] (o5 (ah 2)) (gw 3 (ba (aw 0) (ba (aw 1) (ba (aw 2) gQ)))) mX (aS (ae (ah 0) (ae (ah 1) (ae (aF lZ (ae (ah 2) aj)) aj))))) aj)) aj))))))
def d0 : DTX :=
  (pB jJ (ae (ah 0) aj))
def cY : DTX :=
  (pB jJ (ae (ah 1) aj))
def cH : DTX :=
  (Dv (qU (aF jj (ae (ah 1) aj)))
  (Dv (bE (ah 1) (gw 2 (ba (aw 3) (ba (aw 4) gQ))))
  (xIf (fi (dB (dOp rGt (ah 3) (dC (.int 13)))) (dB (dOp rGt (dCB cT (ae (ah 4) aj)) (dC (.int 12))))) (fun _ μ Xk => Xk μ) yz)))
def iE : DTS :=
  (aQ (cB (fi (cg (dB (ow "tuple" (ah 0)))) (fi (dB (dOp (cu true) (dCB cT (ae (ah 0) aj)) (dC (.int 2)))) (fi (cg (dB (aF cU (ae (dOp aX (ah 0) (dC (.int 0))) aj)))) (cg (dB (vc rLe rLe (dC (.int 2)) (dOp aX (ah 0) (dC (.int 0))) (dC (.int 61)))))))) (bh (dC (.bool false))) bu)
  (aQ (bE (ah 0) (gw 2 (ba (aw 1) (ba (aw 2) gQ))))
  (aQ (cB (fi (cg (dB (ow "tuple" (ah 2)))) (cg (dB (vc rLe rLe (dC (.int 1)) (dCB cT (ae (ah 2) aj)) (dC (.int 60)))))) (bh (dC (.bool false))) bu)
  (aQ (zX (o5 (ah 2)) (aw 3) (aQ (cB (fi (cg (dB (ow "tuple" (ah 3)))) (fi (dB (dOp (cu true) (dCB cT (ae (ah 3) aj)) (dC (.int 3)))) (cg (dB (dCB mR (ae (nP [none] (o5 (dSl (ah 3) iK (o6 (dC (.int 2))))) (aw 0) mX (aF cU (ae (ah 0) aj))) aj)))))) (bh (dC (.bool false))) bu)
  (cB (fi (cg (dB (um rLe rLt rLt (dC (.int 0)) (dOp aX (ah 3) (dC (.int 0))) (dOp aX (ah 3) (dC (.int 1))) (ah 1)))) (fi (cg (dB (aF lR (ae (dOp aX (ah 3) (dC (.int 2))) aj)))) (dB (dOp (cu false) (dOp aX (ah 3) (dC (.int 2))) (aS (ae (dC (.int 0)) (ae (dC (.int 0)) (ae (dC (.int 1)) aj)))))))) (bh (dC (.bool false))) bu)))
  (bh (dC (.bool true)))))))
section
variable {μ : Mu} {Qd : DK} {ds : List D} {Xk : Mu → Prop}
theorem hJ {d : PyData} (h : isWhole d = true) : ∃ i, d = .int i := by
  cases d with
  | int i => exact ⟨i, rfl⟩
  | none => cases h
  | bool b => cases h
  | str s => cases h
  | list l => cases h
  | tuple l => cases h
  | _ => cases h
theorem mi {t : PyData} (h : isNum t = true) : ∃ x : N3, t = dN x ∧ Ok x := by
  unfold isNum at h
  split at h
  · rename_i a b c
    simp only [Bool.and_eq_true, decide_eq_true_eq, beq_iff_eq] at h
    exact ⟨⟨a, b, c⟩, rfl, by show 0 < c; omega, h.2⟩
  · cases h
theorem zx {n : Int} {a b c : PyData} (h : isWhole a = false) : fj n (.tuple [a, b, c]) = false := by
  cases a with
  | int i => cases h
  | _ => rfl
theorem yK {n : Int} {a b c : PyData} (h : isWhole b = false) : fj n (.tuple [a, b, c]) = false := by
  cases b with
  | int i => cases h
  | _ => cases a <;> rfl
theorem xt {n : Int} {xs : List PyData} (h : xs.length ≠ 3) : fj n (.tuple xs) = false := by
  unfold fj
  split
  · rename_i e; simp only [PyData.tuple.injEq] at e; subst e; exact absurd rfl h
  · rfl
theorem Cm {xs : List PyData} (h : xs.length = 3) : ∃ a b c, xs = [a, b, c] := by
  match xs, h with
  | [a, b, c], _ => exact ⟨a, b, c, rfl⟩
theorem Io {xs : List PyData} (h : xs.length = 2) : ∃ a b, xs = [a, b] := by
  match xs, h with
  | [a, b], _ => exact ⟨a, b, rfl⟩
theorem uT {t : PyData} (h : isT "tuple" t = false) : ∀ xs, t ≠ .tuple xs := fun xs e => by rw [e] at h; cases h
theorem jy {t : PyData} (h : isT "tuple" t = true) : ∃ xs, t = .tuple xs := by
  cases t with
  | tuple xs => exact ⟨xs, rfl⟩
  | _ => cases h
theorem An (h : yU ds μ Qd) : oo { nx := fun _ μ' => Qd (.v .none) μ', rt := Qd } (aR ["thing", "lines", "lower", "upper", "shape"] ds) μ := by
  obtain ⟨t, n, rfl, ft, q⟩ := h
  unfold oo
  walk_at "rn"
  cases e : isT "tuple" t with
  | false =>
    walk_at "rn"
    have : fj n t = false := by
      unfold fj
      split
      · exact absurd rfl (uT e _)
      · rfl
    rw [this] at q
    exact q
  | true =>
    obtain ⟨xs, rfl⟩ := jy e
    walk_at "rn"
    by_cases hl : xs.length = 3
    · obtain ⟨a, b, c, rfl⟩ := Cm hl
      have fc := ft a b c rfl
      walk_at "rn"
      rw [if_neg (by simp)]
      refine ⟨trivial, a, rfl, ?_⟩
      cases ha : isWhole a with
      | false => walk_at "rn"; rw [zx ha] at q; exact q
      | true =>
        walk_at "rn"
        refine ⟨b, rfl, ?_⟩
        cases hb : isWhole b with
        | false => walk_at "rn"; rw [yK hb] at q; exact q
        | true =>
          walk_at "rn"
          refine ⟨c, rfl, fc, ?_⟩
          obtain ⟨i, rfl⟩ := hJ ha
          obtain ⟨j, rfl⟩ := hJ hb
          have eq : fj n (.tuple [.int i, .int j, c]) = (isNum c && (decide (0 ≤ i) && (decide (i < j) && (decide (j < n) && !decide (numOf c = cm))))) := rfl
          rw [eq] at q
          cases hc : isNum c with
          | false => walk_at "rn"; rw [hc, Bool.false_and] at q; exact q
          | true =>
            walk_at "rn"
            rw [hc, Bool.true_and] at q
            obtain ⟨x, rfl, ox⟩ := mi hc
            rw [show numOf (dN x) = x from rfl] at q
            cases h1 : decide (0 ≤ i) with
            | false => rw [h1, Bool.false_and] at q; walk_at "rn"; exact q
            | true =>
              rw [h1, Bool.true_and] at q
              walk_at "rn"
              cases h2 : decide (i < j) with
              | false => rw [h2, Bool.false_and] at q; walk_at "rn"; exact q
              | true =>
                rw [h2, Bool.true_and] at q
                walk_at "rn"
                cases h3 : decide (j < n) with
                | false => rw [h3, Bool.false_and] at q; walk_at "rn"; exact q
                | true =>
                  rw [h3, Bool.true_and] at q
                  walk_at "rn"
                  rw [Bool.true_xor]
                  exact q
    · rw [if_pos (by simp; omega)]
      rw [xt hl] at q
      exact q
theorem wB {xs : List PyData} (h : xs.length ≠ 2) : iD (.tuple xs) = false := by
  unfold iD
  split
  · rename_i e; simp only [PyData.tuple.injEq] at e; subst e; exact absurd rfl h
  · rfl
theorem Bk {l t : PyData} (h : isWhole l = false) : iD (.tuple [l, t]) = false := by
  cases l with
  | int i => cases h
  | _ => rfl
theorem C2 {l : Int} {t : PyData} (h : isT "tuple" t = false) : iD (.tuple [.int l, t]) = false := by
  cases t with
  | tuple xs => cases h
  | _ => rfl
theorem xc {t : PyData} (e : isT "tuple" t = false) : iD t = false := by
  unfold iD
  split
  · exact absurd rfl (uT e _)
  · rfl
theorem Ak (h : dm ds μ Qd) : nW { nx := fun _ μ' => Qd (.v .none) μ', rt := Qd } (aR ["thing", "lines", "ties"] ds) μ := by
  obtain ⟨t, rfl, nt, q⟩ := h
  unfold nW
  walk_at "rn"
  cases e : isT "tuple" t with
  | false => walk_at "rn"; rw [xc e] at q; exact q
  | true =>
    obtain ⟨xs, rfl⟩ := jy e
    walk_at "rn"
    by_cases hl : xs.length = 2
    · obtain ⟨l, ts, rfl⟩ := Io hl
      walk_at "rn"
      rw [if_neg (by simp)]
      refine ⟨trivial, l, rfl, ?_⟩
      cases hw : isWhole l with
      | false => walk_at "rn"; rw [Bk hw] at q; exact q
      | true =>
        obtain ⟨n, rfl⟩ := hJ hw
        walk_at "rn"
        by_cases h2 : n < 2
        · rw [decide_eq_true h2]
          walk_at "rn"
          have : iD (.tuple [.int n, ts]) = false := by cases ts with
            | tuple ts => show (decide (2 ≤ n) && _) = false; rw [decide_eq_false (by omega), Bool.false_and]
            | _ => rfl
          rw [this] at q; exact q
        · rw [decide_eq_false h2]
          walk_at "rn"
          by_cases h6 : 61 < n
          · rw [if_pos (decide_eq_true h6)]
            have : iD (.tuple [.int n, ts]) = false := by cases ts with
              | tuple ts => show (_ && (decide (n ≤ 61) && _)) = false; rw [decide_eq_false (show ¬ n ≤ 61 by omega), Bool.false_and, Bool.and_false]
              | _ => rfl
            rw [this] at q; exact q
          · rw [if_neg (by simpa using h6)]
            cases et : isT "tuple" ts with
            | false => walk_at "rn"; rw [C2 et] at q; exact q
            | true =>
              obtain ⟨ys, rfl⟩ := jy et
              walk_at "rn"
              have en : iD (.tuple [.int n, .tuple ys]) = (decide (1 ≤ ys.length) && (decide (ys.length ≤ 60) && ys.all (fj n))) := by
                show (decide (2 ≤ n) && (decide (n ≤ 61) && _)) = _
                rw [decide_eq_true (show 2 ≤ n by omega), decide_eq_true (show n ≤ 61 by omega), Bool.true_and, Bool.true_and]
              rw [en] at q
              by_cases y1 : ys.length < 1
              · rw [decide_eq_true (by omega)]
                walk_at "rn"
                rw [decide_eq_false (show ¬ 1 ≤ ys.length by omega), Bool.false_and] at q; exact q
              · rw [decide_eq_false (by omega)]
                walk_at "rn"
                rw [decide_eq_true (show 1 ≤ ys.length by omega), Bool.true_and] at q
                by_cases y2 : 60 < ys.length
                · rw [if_pos (decide_eq_true (by omega))]
                  rw [decide_eq_false (show ¬ ys.length ≤ 60 by omega), Bool.false_and] at q; exact q
                · rw [if_neg (by simp; omega)]
                  rw [decide_eq_true (show ys.length ≤ 60 by omega), Bool.true_and] at q
                  refine ⟨by omega, fun x => some (.bool (fj n x)), fun x hx μ' _ => ⟨⟨trivial, trivial⟩, ?_⟩, ?_⟩
                  · exact ⟨x, n, rfl, nt _ _ rfl x hx, rfl, rfl⟩
                  · rw [lz (fun x => PyData.bool (fj n x)), iX (fun x => fj n x)]
                    have : (ys.map fun x => fj n x).all id = ys.all (fj n) := by rw [List.all_map]; rfl
                    dsimp only
                    rw [this]
                    exact q
    · rw [if_pos (by simp; omega)]
      rw [wB hl] at q
      exact q
theorem qd (h : jj ds μ Qd) : iq { nx := fun _ μ' => Qd (.v .none) μ', rt := Qd } (aR ["thing"] ds) μ := by
  obtain ⟨t, rfl, nt, e, q⟩ := h
  unfold iq
  walk_at "rn"
  refine ⟨t, rfl, nt, ?_⟩
  rw [e]
  walk_at "rn"
  exact q
theorem ke (h : jJ ds μ Xk) : cP (aR ["thing"] ds) μ Xk := by
  obtain ⟨t, rfl, nt, e, q⟩ := h
  unfold cP
  rw [E7]
  walk_at "rn"
  refine ⟨t, rfl, nt, ?_⟩
  rw [e]
  exact q
theorem mh (h : jJ ds μ Xk) : d0 (aR ["net", "lines", "ties"] ds) μ Xk := by
  obtain ⟨t, rfl, g⟩ := h
  unfold d0
  rw [uh]
  walk_at "rn"
  exact ⟨t, rfl, g⟩
theorem kE (h : mS ds μ Xk) : cY (aR ["d", "net", "through", "lines", "ties", "found", "heights", "streams"] ds) μ Xk := by
  obtain ⟨t, z, z', rfl, g⟩ := h
  unfold cY
  rw [uh]
  walk_at "rn"
  exact ⟨t, rfl, g⟩
theorem GN.net {n : Int} {es : List T3N} (h : GN n es) : iD (g7 n es) = true := by
  have n2 := h.n2
  have n61 := h.n61
  have l1 := h.l1
  have l60 := h.l60
  show (decide (2 ≤ n) && (decide (n ≤ 61) && (decide (1 ≤ (es.map bV).length) && (decide ((es.map bV).length ≤ 60) && (es.map bV).all (fj n))))) = true
  rw [List.length_map, decide_eq_true n2, decide_eq_true n61, decide_eq_true l1, decide_eq_true l60, Bool.true_and, Bool.true_and, Bool.true_and, Bool.true_and, List.all_eq_true]
  intro x hx
  obtain ⟨e, he, rfl⟩ := List.mem_map.mp hx
  obtain ⟨a, b, c, o, z⟩ := h.ok e he
  show (isNum (dN e.2.2) && (decide (0 ≤ e.1) && (decide (e.1 < e.2.1) && (decide (e.2.1 < n) && !decide (numOf (dN e.2.2) = cm))))) = true
  rw [Cs o, decide_eq_true a, decide_eq_true b, decide_eq_true c, decide_eq_false (show ¬ numOf (dN e.2.2) = cm from z)]; rfl
theorem C4 {n : Int} {x : PyData} (h : fj n x = true) : ∃ e : T3N, x = bV e ∧ 0 ≤ e.1 ∧ e.1 < e.2.1 ∧ e.2.1 < n ∧ Ok e.2.2 ∧ e.2.2 ≠ cm := by
  unfold fj at h
  split at h
  · rename_i i j c
    simp only [Bool.and_eq_true, decide_eq_true_eq, Bool.not_eq_true', decide_eq_false_iff_not] at h
    obtain ⟨z, rfl, oz⟩ := mi h.1
    exact ⟨(i, j, z), rfl, h.2.1, h.2.2.1, h.2.2.2.1, oz, h.2.2.2.2⟩
  · cases h
theorem tH {n : Int} : ∀ (xs : List PyData), xs.all (fj n) = true → ∃ es : List T3N, xs = es.map bV ∧ ∀ e ∈ es, 0 ≤ e.1 ∧ e.1 < e.2.1 ∧ e.2.1 < n ∧ Ok e.2.2 ∧ e.2.2 ≠ cm
  | [], _ => ⟨[], rfl, fun _ z => nomatch z⟩
  | x :: r, h => by
    rw [List.all_cons, Bool.and_eq_true] at h
    obtain ⟨e, rfl, g⟩ := C4 h.1
    obtain ⟨es, rfl, gs⟩ := tH r h.2
    refine ⟨e :: es, rfl, fun y hy => ?_⟩
    rcases List.mem_cons.mp hy with rfl | hy
    · exact g
    · exact gs y hy
theorem wm {t : PyData} (h : iD t = true) : ∃ n es, t = g7 n es ∧ GN n es := by
  unfold iD at h
  split at h
  · rename_i n ts
    simp only [Bool.and_eq_true, decide_eq_true_eq] at h
    obtain ⟨es, rfl, gs⟩ := tH ts h.2.2.2.2
    rw [List.length_map] at h
    exact ⟨n, es, rfl, h.1, h.2.1, h.2.2.1, h.2.2.2.1, gs⟩
  · cases h
theorem GN.few {n : Int} {es : List T3N} : my (g7 n es) := fun l ts e x hx => by
  simp only [g7, PyData.tuple.injEq, List.cons.injEq, and_true] at e
  obtain ⟨_, rfl⟩ := e
  obtain ⟨y, _, rfl⟩ := List.mem_map.mp hx
  intro a b c ec
  simp only [bV, PyData.tuple.injEq, List.cons.injEq, and_true] at ec
  rw [← ec.2.2]
  exact j6
theorem jZ (h : ko ds μ Xk) : cH (aR ["d", "net", "through", "lines", "ties", "found", "heights", "streams"] ds) μ Xk := by
  obtain ⟨n, es, z, z', rfl, g, hm, q⟩ := h
  unfold cH
  rw [Bo]
  walk_at "rn"
  refine ⟨_, rfl, GN.few, g.net, ?_⟩
  dsimp only
  rw [Bo]
  unfold g7
  walk_at "rn"
  refine ⟨trivial, ?_⟩
  rw [E7]
  walk_at "rn"
  rw [List.length_map]
  by_cases h1 : 13 < n
  · rw [decide_eq_true h1]
    walk_at "rn"
    exact q
  · rw [decide_eq_false h1]
    walk_at "rn"
    rw [if_pos (decide_eq_true (by omega))]
    exact q
theorem xu (h : jk ds μ Qd) : kR { nx := fun _ μ' => Qd (.v .none) μ', rt := Qd } (aR ["net", "lines", "ties"] ds) μ := by
  obtain ⟨n, es, rfl, g, q⟩ := h
  unfold kR
  walk_at "rn"
  refine ⟨_, rfl, GN.few, g.net, ?_⟩
  dsimp only
  have l60 := g.l60
  unfold g7 at q ⊢
  walk_at "rn"
  refine ⟨trivial, by rw [List.length_map]; omega, fun t => some (match t with | .tuple [.int i, .int j, .tuple [.int a, .int b, .int c]] => bV (i, j, kf ⟨a, b, c⟩) | _ => .none), fun x hx μ' _ => ?_, ?_⟩
  · obtain ⟨e, _, rfl⟩ := List.mem_map.mp hx
    unfold bV
    walk_at "rn"
    exact ⟨trivial, trivial, _, rfl, rfl, rfl⟩
  · rw [lz, List.map_map]
    rw [List.map_map] at q
    exact q
theorem qW (h : dm ds μ Qd) : iE { nx := fun _ μ' => Qd (.v .none) μ', rt := Qd } (aR ["_law_thing", "_law_lines", "_law_ties", "_law_tie"] ds) μ := by
  obtain ⟨t, rfl, nt, q⟩ := h
  unfold iE
  walk_at "rn"
  cases e : isT "tuple" t with
  | false => walk_at "rn"; rw [xc e] at q; exact q
  | true =>
    obtain ⟨xs, rfl⟩ := jy e
    walk_at "rn"
    by_cases hl : xs.length = 2
    · obtain ⟨l, ts, rfl⟩ := Io hl
      walk_at "rn"
      rw [show (true ^^ decide (((2 : Nat) : Int) = 2)) = false by simp]
      walk_at "rn"
      refine ⟨l, rfl, ?_⟩
      cases hw : isWhole l with
      | false => walk_at "rn"; rw [Bk hw] at q; exact q
      | true =>
        obtain ⟨n, rfl⟩ := hJ hw
        walk_at "rn"
        by_cases h2 : 2 ≤ n
        · rw [decide_eq_true h2]
          walk_at "rn"
          by_cases h6 : n ≤ 61
          · rw [decide_eq_true h6]
            walk_at "rn"
            refine ⟨trivial, ?_⟩
            cases et : isT "tuple" ts with
            | false => walk_at "rn"; rw [C2 et] at q; exact q
            | true =>
              obtain ⟨ys, rfl⟩ := jy et
              walk_at "rn"
              have en : iD (.tuple [.int n, .tuple ys]) = (decide (1 ≤ ys.length) && (decide (ys.length ≤ 60) && ys.all (fj n))) := by
                show (decide (2 ≤ n) && (decide (n ≤ 61) && _)) = _
                rw [decide_eq_true h2, decide_eq_true h6, Bool.true_and, Bool.true_and]
              rw [en] at q
              by_cases y1 : 1 ≤ ys.length
              · rw [decide_eq_true (show (1 : Int) ≤ ((ys.length : Nat) : Int) by omega)]
                walk_at "rn"
                rw [decide_eq_true y1, Bool.true_and] at q
                by_cases y2 : ys.length ≤ 60
                · rw [decide_eq_true (show ((ys.length : Nat) : Int) ≤ 60 by omega)]
                  walk_at "rn"
                  rw [decide_eq_true y2, Bool.true_and] at q
                  rw [zM]
                  walk_at "rn"
                  refine ⟨fun i ρ μ' => ∃ r3, ρ = [some (.v (.tuple [.int n, .tuple ys])), some (.v (.int n)), some (.v (.tuple ys)), r3] ∧ μ' = μ ∧ ∀ x ∈ ys.take i, fj n x = true, ⟨_, rfl, rfl, fun x h => by simp at h⟩, ?_, ?_⟩
                  · rintro i x ρ μ' hx ⟨r3, rfl, rfl, hi⟩
                    have hm := List.mem_of_getElem? hx
                    have bad : fj n x = false → Qd (.v (.bool false)) μ' := fun h => by
                      have : ys.all (fj n) = false := by rw [List.all_eq_false]; exact ⟨x, hm, by rw [h]; decide⟩
                      rw [this] at q; exact q
                    have good : fj n x = true → ∃ r3, ([some (.v (.tuple [.int n, .tuple ys])), some (.v (.int n)), some (.v (.tuple ys)), some (.v x)] : Rho) = [some (.v (.tuple [.int n, .tuple ys])), some (.v (.int n)), some (.v (.tuple ys)), r3] ∧ True ∧ ∀ y ∈ ys.take (i + 1), fj n y = true := fun h => ⟨_, rfl, trivial, fun y hy => by
                      rw [List.take_succ, hx] at hy
                      rcases List.mem_append.mp hy with z | z
                      · exact hi y z
                      · simp only [Option.toList_some, List.mem_singleton] at z; rw [z]; exact h⟩
                    have ft := nt _ _ rfl x hm
                    walk_at "rn"
                    cases ex : isT "tuple" x with
                    | false =>
                      walk_at "rn"
                      refine bad ?_
                      unfold fj
                      split
                      · exact absurd rfl (uT ex _)
                      · rfl
                    | true =>
                      obtain ⟨zs, rfl⟩ := jy ex
                      walk_at "rn"
                      by_cases hz : zs.length = 3
                      · obtain ⟨a, b, c, rfl⟩ := Cm hz
                        walk_at "rn"
                        rw [if_neg (by simp)]
                        rw [show mf [a, b, c] none (some 2) = [a, b] from rfl]
                        refine ⟨by simp, fun y => some (.bool (isWhole y)), fun y _ μ'' _ => ⟨trivial, y, rfl, rfl, rfl⟩, ?_⟩
                        rw [lz (fun y => PyData.bool (isWhole y)), iX (fun y => isWhole y)]
                        dsimp only
                        rw [show ([a, b].map fun y => isWhole y).all id = (isWhole a && isWhole b) by simp]
                        cases ha : isWhole a with
                        | false => simp only [Bool.false_and, Bool.not_false, ↓reduceIte]; exact bad (zx ha)
                        | true =>
                          cases hb : isWhole b with
                          | false => simp only [Bool.and_false, Bool.not_false, ↓reduceIte]; exact bad (yK hb)
                          | true =>
                            obtain ⟨i1, rfl⟩ := hJ ha
                            obtain ⟨j1, rfl⟩ := hJ hb
                            have eq : fj n (.tuple [.int i1, .int j1, c]) = (isNum c && (decide (0 ≤ i1) && (decide (i1 < j1) && (decide (j1 < n) && !decide (numOf c = cm))))) := rfl
                            rw [eq] at bad good
                            simp only [Bool.and_self, Bool.not_true, Bool.false_eq_true, ↓reduceIte]
                            rw [Be]
                            walk_at "rn"
                            cases h1 : decide (0 ≤ i1) with
                            | false => rw [h1] at bad; walk_at "rn"; exact bad (by simp)
                            | true =>
                              rw [h1] at bad good
                              walk_at "rn"
                              cases h2' : decide (i1 < j1) with
                              | false => rw [h2'] at bad; walk_at "rn"; exact bad (by simp)
                              | true =>
                                rw [h2'] at bad good
                                walk_at "rn"
                                cases h3 : decide (j1 < n) with
                                | false => rw [h3] at bad; walk_at "rn"; exact bad (by simp)
                                | true =>
                                  rw [h3] at bad good
                                  walk_at "rn"
                                  refine ⟨c, rfl, ft _ _ _ rfl, ?_⟩
                                  cases hc : isNum c with
                                  | false => rw [hc] at bad; walk_at "rn"; exact bad (by simp)
                                  | true =>
                                    rw [hc] at bad good
                                    walk_at "rn"
                                    obtain ⟨z, rfl, oz⟩ := mi hc
                                    rw [show numOf (dN z) = z from rfl] at bad good
                                    walk_at "rn"
                                    rw [show ({ a := 0, b := 0, c := 1 } : N3) = cm from rfl]
                                    by_cases hz0 : z = cm
                                    · rw [if_pos (decide_eq_true hz0)]
                                      exact bad (by simp [hz0])
                                    · rw [if_neg (by simpa using hz0)]
                                      exact good (by simp [hz0])
                      · rw [if_pos (by simp; omega)]
                        exact bad (xt hz)
                  · rintro ρ μ' ⟨r3, rfl, rfl, hi⟩
                    rw [List.take_length] at hi
                    have : ys.all (fj n) = true := by rw [List.all_eq_true]; exact hi
                    rw [this] at q
                    exact q
                · rw [decide_eq_false (show ¬ ((ys.length : Nat) : Int) ≤ 60 by omega)]
                  walk_at "rn"
                  rw [decide_eq_false y2, Bool.false_and] at q; exact q
              · rw [decide_eq_false (show ¬ (1 : Int) ≤ ((ys.length : Nat) : Int) by omega)]
                walk_at "rn"
                rw [decide_eq_false y1, Bool.false_and] at q; exact q
          · rw [decide_eq_false h6]
            walk_at "rn"
            have : iD (.tuple [.int n, ts]) = false := by cases ts with
              | tuple ts => show (_ && (decide (n ≤ 61) && _)) = false; rw [decide_eq_false h6, Bool.false_and, Bool.and_false]
              | _ => rfl
            rw [this] at q; exact q
        · rw [decide_eq_false h2]
          walk_at "rn"
          have : iD (.tuple [.int n, ts]) = false := by cases ts with
            | tuple ts => show (decide (2 ≤ n) && _) = false; rw [decide_eq_false h2, Bool.false_and]
            | _ => rfl
          rw [this] at q; exact q
    · rw [show (true ^^ decide (((xs.length : Nat) : Int) = 2)) = true by simp; omega]
      walk_at "rn"
      rw [wB hl] at q
      exact q
end
open PySem PySem.Spec PyProof.Rows NM
def oZ (a : Addr) (μ μ' : Mu) : Prop := Bag μ' a ∧ ∀ b, b ≠ a → ∀ ds, μ b = some ds → μ' b = some ds
theorem oZ.trans {a : Addr} {μ μ1 μ2 : Mu} (h : oZ a μ μ1) (g : oZ a μ1 μ2) : oZ a μ μ2 := ⟨g.1, fun b n ds e => g.2 b n ds (h.2 b n ds e)⟩
theorem Step.w {a : Addr} {μ μ' : Mu} (h : Step a μ μ') : oZ a μ μ' := ⟨h.1, fun b n ds e => by rw [h.2 b n]; exact e⟩
def uL : DSp := fun ds μ Q => ∃ (a : Addr) (d way : Int), ds = [.m a, .v (.int d), .v (.int way)] ∧ bz d ∧ Bag μ a ∧ ∀ x μ', Ok x → x ≠ cm → Step a μ μ' → Q (.v (dN x)) μ'
theorem xY {ds : List D} {μ : Mu} {Q : DK} (h : uL ds μ Q) : ds.length = 3 := by obtain ⟨_, _, _, rfl, _⟩ := h; rfl
def jG : DSp := fun ds μ Q => ∃ (a : Addr) (d : Int), ds = [.m a, .v (.int d)] ∧ bz d ∧ Bag μ a ∧ ∀ x μ', Ok x → x ≠ cm → Step a μ μ' → Q (.v (dN x)) μ'
theorem qX {ds : List D} {μ : Mu} {Q : DK} (h : jG ds μ Q) : ds.length = 2 := by obtain ⟨_, _, rfl, _⟩ := h; rfl
def pX : DSp := fun ds μ Q => ∃ (a p : Addr) (xs : List PyData), ds = [.m a, .m p] ∧ p ≠ a ∧ Bag μ a ∧ μ p = some xs ∧ xs.length ≤ 60 ∧ ∀ zs μ', zs.length = xs.length → (∀ z ∈ zs, z ∈ xs) → oZ a μ μ' → Q (.v (.list zs)) μ'
theorem xj {ds : List D} {μ : Mu} {Q : DK} (h : pX ds μ Q) : ds.length = 2 := by obtain ⟨_, _, _, rfl, _⟩ := h; rfl
def nE : DSp := fun ds μ Q => ∃ (a : Addr) (d n k : Int), ds = [.m a, .v (.int d), .v (.int n), .v (.int k)] ∧ bz d ∧ 2 ≤ n ∧ n ≤ 61 ∧ 1 ≤ k ∧ k ≤ 60 ∧ Bag μ a ∧ ∀ es μ', GN n es → oZ a μ μ' → Q (.v (g7 n es)) μ'
theorem vB {ds : List D} {μ : Mu} {Q : DK} (h : nE ds μ Q) : ds.length = 4 := by obtain ⟨_, _, _, _, rfl, _⟩ := h; rfl
def pQ : DSp := fun ds μ Q => ∃ (a : Addr) (d : Int), ds = [.m a, .v (.int d)] ∧ bz d ∧ Bag μ a ∧ ∀ n es μ', GN n es → oZ a μ μ' → Q (.v (g7 n es)) μ'
theorem xD {ds : List D} {μ : Mu} {Q : DK} (h : pQ ds μ Q) : ds.length = 2 := by obtain ⟨_, _, rfl, _⟩ := h; rfl
structure Sh (t : PyData) : Prop where
  lay : t.canLay0 = true
  dep : t.depth ≤ 60
theorem Sh.shaped {t : PyData} (h : Sh t) : SeqAt.shaped t = true := by
  unfold SeqAt.shaped
  rw [h.lay, Bool.true_and, decide_eq_true_eq]
  have := h.dep; omega
structure Lt (n : Nat) (t : PyData) : Prop where
  lay : t.canLay0 = true
  dep : t.depth ≤ n
theorem Lt.sh {n : Nat} {t : PyData} (h : Lt n t) (hn : n ≤ 60) : Sh t := ⟨h.lay, Nat.le_trans h.dep hn⟩
theorem zC {xs : List PyData} (h : ∀ x ∈ xs, x.canLay0 = true) : PyData.canLayAll0 xs = true := by
  induction xs with
  | nil => rfl
  | cons x r ih => rw [PyData.canLayAll0, h x (by simp), ih (fun y hy => h y (by simp [hy]))]; rfl
theorem sW {xs : List PyData} {n : Nat} (h : ∀ x ∈ xs, x.depth ≤ n) : PyData.depthAll xs ≤ n := by
  induction xs with
  | nil => exact Nat.zero_le _
  | cons x r ih =>
    rw [PyData.depthAll]
    have h1 := h x (by simp)
    have h2 := ih (fun y hy => h y (by simp [hy]))
    omega
theorem vp {xs : List PyData} {n : Nat} (h : ∀ x ∈ xs, Lt n x) : Lt (n + 1) (.tuple xs) :=
  ⟨by rw [PyData.canLay0]; exact zC fun x hx => (h x hx).lay, by rw [PyData.depth]; have := sW (n := n) fun x hx => (h x hx).dep; omega⟩
theorem FW {xs : List PyData} {n : Nat} (h : ∀ x ∈ xs, Lt n x) : Lt (n + 1) (.list xs) :=
  ⟨by rw [PyData.canLay0]; exact zC fun x hx => (h x hx).lay, by rw [PyData.depth]; have := sW (n := n) fun x hx => (h x hx).dep; omega⟩
theorem lt_int {n : Nat} {i : Int} : Lt n (.int i) := ⟨rfl, Nat.zero_le _⟩
def jC : DTS :=
  (aQ (cB (dB (dOp (cu false) (ah 2) (dC (.int 0)))) (bh (aS (ae (lF (dC (.int 1)) (aF bo (ae (ah 0) (ae (dC (.int 6)) aj)))) (ae (dC (.int 0)) (ae (dC (.int 1)) aj))))) bu)
  (aQ (cB (dB (dOp (cu false) (ah 2) (dC (.int 1)))) (bh (aF kT (ae (lF (dC (.int 1)) (aF bo (ae (ah 0) (ae (dC (.int 9)) aj)))) (ae (dC (.int 0)) (ae (lF (dC (.int 1)) (aF bo (ae (ah 0) (ae (dC (.int 3)) aj)))) aj))))) bu)
  (aQ (bE (aF kT (ae (nr (aF bo (ae (ah 0) (ae (dC (.int 19)) aj))) (dC (.int 9))) (ae (nr (aF bo (ae (ah 0) (ae (dC (.int 9)) aj))) (dC (.int 4))) (ae (lF (dC (.int 1)) (aF bo (ae (ah 0) (ae (dC (.int 2)) aj)))) aj)))) (aw 3))
  (aQ (bE (aF uH (ae (ah 1) (ae (ah 3) aj))) (aw 4))
  (aQ (cB (dB (dOp (cu false) (ah 4) (dC (.int 0)))) (bh (aS (ae (dC (.int 1)) (ae (dC (.int 1)) (ae (dC (.int 1)) aj))))) bu)
  (bh (dIf (dB (dOp rGt (ah 4) (dC (.int 0)))) (ah 3) (aF jM (ae (ah 3) aj)))))))))
def eY : DTS :=
  (aQ (bE (aF uL (ae (ah 0) (ae (ah 1) (ae (aF bo (ae (ah 0) (ae (dC (.int 4)) aj))) aj)))) (aw 2))
  (bh (dIf (dB (dOp (cu false) (aF bo (ae (ah 0) (ae (dC (.int 5)) aj))) (dC (.int 0)))) (aF jM (ae (ah 2) aj)) (ah 2))))
def i5 : DTS :=
  (aQ (bE (dCB uO (ae (ah 1) aj)) (aw 2))
  (bh (qa [none, some 2, some 0] (GU (ah 1)) (aw 0) mX (yg (ah 1) (aF bo (ae (ah 2) (ae (dCB cT (ae (ah 1) aj)) aj)))))))
def eK : DTS :=
  (aQ (bE (aF jG (ae (ah 0) (ae (ah 1) aj))) (aw 8))
  (aQ (cB (nM (dB (dOp (AJ true) (ah 4) (jq aj))) (dB (dOp (AJ false) (aF bo (ae (ah 0) (ae (dC (.int 12)) aj))) (dC (.int 0))))) (BS 6 7 8 (ae (dOp nX (dOp nX (ah 4) (pG (dC (.int 1)))) (dC (.int 0))) (ae (dOp nX (dOp nX (ah 4) (pG (dC (.int 1)))) (dC (.int 1))) (ae (aF jM (ae (dOp nX (dOp nX (ah 4) (pG (dC (.int 1)))) (dC (.int 2))) aj)) aj)))) bu)
  (qU (C5 (ah 4) (aS (ae (ah 6) (ae (ah 7) (ae (ah 8) aj))))))))
def gD : DTS :=
  (aQ (bE (wz aj) (aw 4))
  (aQ (zX (rj (ae (ah 3) aj)) (aw 5) (aQ (bE (aF bo (ae (ah 0) (ae (nr (ah 2) (dC (.int 1))) aj))) (aw 6))
  (aQ (bE (lF (lF (ah 6) (dC (.int 1))) (aF bo (ae (ah 0) (ae (nr (nr (ah 2) (dC (.int 1))) (ah 6)) aj)))) (aw 7))
  (aQ (cB (nM (dB (dOp rLt (ah 5) (nr (ah 2) (dC (.int 1))))) (dB (dOp rGt (aF bo (ae (ah 0) (ae (dC (.int 12)) aj))) (dC (.int 0))))) (yb 6 7 (ae (ah 5) (ae (lF (ah 5) (dC (.int 1))) aj))) bu)
  (eK)))))
  (bh (aS (ae (ah 2) (ae (dCB gR (ae (aF pX (ae (ah 0) (ae (ah 4) aj))) aj)) aj))))))
def eM : DTS :=
  (aQ (bE (dOp aX (jq (ae (aS (ae (lF (dC (.int 2)) (aF bo (ae (ah 0) (ae (dC (.int 5)) aj)))) (ae (lF (dC (.int 1)) (aF bo (ae (ah 0) (ae (dC (.int 8)) aj)))) aj))) (ae (aS (ae (lF (dC (.int 12)) (aF bo (ae (ah 0) (ae (dC (.int 3)) aj)))) (ae (lF (dC (.int 11)) (aF bo (ae (ah 0) (ae (dC (.int 3)) aj)))) aj))) (ae (aS (ae (dC (.int 61)) (ae (dC (.int 60)) aj))) (ae (aS (ae (dC (.int 2)) (ae (dC (.int 60)) aj))) (ae (aS (ae (dC (.int 61)) (ae (dC (.int 1)) aj))) (ae (aS (ae (dC (.int 13)) (ae (dC (.int 12)) aj))) aj))))))) (xI (kd (aF bo (ae (ah 0) (ae (dC (.int 9)) aj))) (dC (.int 5))) (dC (.int 8)))) (gw 2 (ba (aw 2) (ba (aw 3) gQ))))
  (bh (aF nE (ae (ah 0) (ae (ah 1) (ae (ah 2) (ae (ah 3) aj)))))))
section
variable {μ : Mu} {Qd : DK} {ds : List D}
theorem vM {d : Int} {x : N3} (h : sg d x.a x.b ≠ 0) : x ≠ cm := fun e => by rw [e] at h; exact h (hE.mpr ⟨rfl, rfl⟩)
theorem qC {x : N3} (h : x ≠ cm) : minus x ≠ cm := fun e => h (by
  have h1 : -x.a = 0 := congrArg N3.a e
  have h2 : -x.b = 0 := congrArg N3.b e
  have h3 : x.c = 1 := congrArg N3.c e
  exact N3.ext' (by show x.a = 0; omega) (by show x.b = 0; omega) h3)
theorem u9 (h : uL ds μ Qd) : jC { nx := fun _ μ' => Qd (.v .none) μ', rt := Qd } (aR ["_law_bag_here", "_law_d", "_law_way", "_law_x", "_law_sign_here"] ds) μ := by
  obtain ⟨a, d, way, rfl, hd, hb, q⟩ := h
  unfold jC
  walk_at "rn"
  by_cases c0 : way = 0
  · rw [if_pos (decide_eq_true c0)]
    refine ⟨a, 6, rfl, by decide, by decide, hb, fun t μ1 t0 t1 s1 => ?_⟩
    walk_at "rn"
    exact q ⟨1 + t, 0, 1⟩ μ1 (Ja _) (fun e => by have : 1 + t = 0 := congrArg N3.a e; omega) s1
  · rw [if_neg (by simpa using c0)]
    by_cases c1 : way = 1
    · rw [if_pos (decide_eq_true c1)]
      refine ⟨a, 9, rfl, by decide, by decide, hb, fun t μ1 t0 t1 s1 => ?_⟩
      walk_at "rn"
      refine ⟨a, 3, rfl, by decide, by decide, s1.1, fun u μ2 u0 u1 s2 => ?_⟩
      walk_at "rn"
      have un : 1 + u ≠ 0 := by omega
      refine ⟨_, _, _, rfl, un, (Sz.of (n := 4) (by show (1 + u).natAbs < 16; omega)).mono (by decide), ?_⟩
      refine q _ μ2 (CM _ _ un) (vM (d := d) ?_) (s1.trans s2)
      rw [Gu hd (by omega), (ip hd).mpr (.inl ⟨by omega, by omega, by omega⟩)]
      decide
    · rw [if_neg (by simpa using c1)]
      refine ⟨a, 19, rfl, by decide, by decide, hb, fun t μ1 t0 t1 s1 => ?_⟩
      walk_at "rn"
      refine ⟨a, 9, rfl, by decide, by decide, s1.1, fun u μ2 u0 u1 s2 => ?_⟩
      walk_at "rn"
      refine ⟨a, 2, rfl, by decide, by decide, s2.1, fun v μ3 v0 v1 s3 => ?_⟩
      walk_at "rn"
      have vn : 1 + v ≠ 0 := by omega
      have zz : ∀ {i : Int}, i.natAbs < 32 → Sz 5 i := fun h => Sz.of h
      refine ⟨_, _, _, rfl, vn, (zz (by omega)).mono (by decide), ?_⟩
      have ox := CM (t - 9) (u - 4) vn
      have bx : Bd 5 (low (t - 9) (u - 4) (1 + v)) := Fi vn (zz (by omega)) (zz (by omega)) (zz (by omega))
      generalize low (t - 9) (u - 4) (1 + v) = x at ox bx
      have s13 := s1.trans (s2.trans s3)
      walk_at "rn"
      refine ⟨d, x, rfl, hd, bx.mono (by decide), ?_⟩
      walk_at "rn"
      by_cases z : sg d x.a x.b = 0
      · rw [if_pos (decide_eq_true z)]
        exact q ⟨1, 1, 1⟩ μ3 ⟨by decide, by decide⟩ (fun e => by have : (1 : Int) = 0 := congrArg N3.b e; omega) s13
      · rw [if_neg (by simpa using z)]
        have nx := vM z
        by_cases p : 0 < sg d x.a x.b
        · rw [if_pos (decide_eq_true p)]
          exact q x μ3 ox nx s13
        · rw [if_neg (by simpa using p)]
          exact ⟨x, rfl, q _ μ3 (rP ox) (qC nx) s13⟩
theorem nD (h : jG ds μ Qd) : eY { nx := fun _ μ' => Qd (.v .none) μ', rt := Qd } (aR ["_law_bag_here", "_law_d", "_law_x"] ds) μ := by
  obtain ⟨a, d, rfl, hd, hb, q⟩ := h
  unfold eY
  walk_at "rn"
  refine ⟨a, 4, rfl, by decide, by decide, hb, fun w μ1 w0 w1 s1 => ?_⟩
  refine ⟨a, d, w, rfl, hd, s1.1, fun x μ2 ox nx s2 => ?_⟩
  walk_at "rn"
  refine ⟨a, 5, rfl, by decide, by decide, s2.1, fun v μ3 v0 v1 s3 => ?_⟩
  walk_at "rn"
  have s13 := s1.trans (s2.trans s3)
  by_cases z : v = 0
  · rw [if_pos (decide_eq_true z)]
    exact ⟨x, rfl, q _ μ3 (rP ox) (qC nx) s13⟩
  · rw [if_neg (by simpa using z)]
    exact q x μ3 ox nx s13
theorem rT (h : pX ds μ Qd) : i5 { nx := fun _ μ' => Qd (.v .none) μ', rt := Qd } (aR ["_law_bag_here", "_law_row", "_law_rest"] ds) μ := by
  obtain ⟨a, p, xs, rfl, pa, hb, hp, hl, q⟩ := h
  unfold i5
  walk_at "rn"
  refine ⟨xs, hp, fun r hr => ?_⟩
  have ra : r ≠ a := fun z => by obtain ⟨g, w, e, _⟩ := hb; rw [z, e] at hr; cases hr
  have rp : r ≠ p := fun z => by rw [z, hp] at hr; cases hr
  walk_at "rn"
  rw [Ci]
  walk_at "rn"
  refine ⟨xs, by rw [aJ (Ne.symm rp)]; exact hp, by omega, fun t ht => ?_⟩
  have hbag := hb
  obtain ⟨g0, w0, eb, zb⟩ := hb
  have ta : t ≠ a := fun z => by rw [z, aJ (Ne.symm ra), eb] at ht; cases ht
  have tr : t ≠ r := fun z => by rw [z, aB] at ht; cases ht
  have tp : t ≠ p := fun z => by rw [z, aJ (Ne.symm rp), hp] at ht; cases ht
  refine ⟨fun i acc μ' => acc.length = i ∧ (∀ z ∈ acc, z ∈ xs) ∧ Bag μ' a ∧ (∃ rest, μ' r = some rest ∧ rest.length = xs.length - i ∧ ∀ z ∈ rest, z ∈ xs) ∧ (∀ b, b ≠ a → b ≠ r → b ≠ t → ∀ es, μ b = some es → μ' b = some es),
    fun i acc μ' h => h.2.2.2.2 p pa (Ne.symm rp) (Ne.symm tp) xs hp, ⟨rfl, (fun _ z => nomatch z), ⟨g0, w0, by rw [aJ (Ne.symm ta), aJ (Ne.symm ra)]; exact eb, zb⟩, ⟨xs, by rw [aJ (Ne.symm tr), aB], by omega, fun _ z => z⟩, fun b n1 n2 n3 es e => by rw [aJ n3, aJ n2]; exact e⟩, ?_, ?_⟩
  · rintro i x acc μ' hx hacc ⟨hal, hin, hba, ⟨rest, hrest, hrl, hrin⟩, kp⟩
    have hi : i < xs.length := (List.getElem?_eq_some_iff.mp hx).1
    refine ⟨⟨trivial, trivial, trivial⟩, ?_⟩
    unfold yg
    walk_at "rn"
    rw [hrest]
    dsimp only
    refine ⟨a, _, rfl, by omega, by omega, hba, fun v μ2 v0 v1 s2 => ?_⟩
    have hr2 : μ2 r = some rest := by rw [s2.2 r ra]; exact hrest
    dsimp only
    rw [hr2]
    have hv : v.toNat < rest.length := by omega
    refine ⟨⟨v0, by omega⟩, rest[v.toNat], List.getElem?_eq_getElem hv, ?_, ?_, ?_, ?_, ?_, ?_⟩
    · rw [aJ tr, s2.2 t ta]; exact hacc
    · simp [hal]
    · intro z hz
      rcases List.mem_append.mp hz with h | h
      · exact hin z h
      · rw [List.mem_singleton.mp h]; exact hrin _ (List.getElem_mem hv)
    · obtain ⟨g, w, e, z⟩ := s2.1
      exact ⟨g, w, by rw [aJ (Ne.symm ta), aJ (Ne.symm ra)]; exact e, z⟩
    · refine ⟨rest.eraseIdx v.toNat, by rw [aJ (Ne.symm tr), aB], by rw [List.length_eraseIdx_of_lt hv]; omega, fun z hz => hrin z (List.mem_of_mem_eraseIdx hz)⟩
    · intro b n1 n2 n3 es e
      rw [aJ n3, aJ n2, s2.2 b n1]
      exact kp b n1 n2 n3 es e
  · rintro acc μ' ⟨hal, hin, hba, ⟨rest, hrest, hrl, hrin⟩, kp⟩ hacc
    refine q acc _ hal hin ⟨?_, fun b nb es e => ?_⟩
    · obtain ⟨g, w, e, z⟩ := hba
      exact ⟨g, w, by rw [vG (Ne.symm ta)]; exact e, z⟩
    · have br : b ≠ r := fun z => by rw [z, hr] at e; cases e
      have bt : b ≠ t := fun z => by rw [z] at e br; rw [aJ br] at ht; rw [ht] at e; cases e
      rw [vG bt]
      exact kp b nb br bt es e
theorem tV {l : List PyData} {v : PyData} : atI (l ++ [v]) (-1) = some v := by
  unfold atI ixN
  have e : (l ++ [v]).length = l.length + 1 := by simp
  rw [e]
  split
  · omega
  · rw [if_pos (by omega)]
    have z : (-1 + ((l.length + 1 : Nat) : Int)).toNat = l.length := by omega
    simp only [Option.bind_some]
    rw [z]
    simp
theorem Fg {l : Addr} {y : D} {μ : Mu} {Q : DK} : nX (.m l) y μ Q = aX (.m l) y μ Q := by unfold nX; rfl
theorem Hv {x : N3} : Lt 1 (dN x) := vp (n := 0) fun y hy => by
  simp only [List.mem_cons, List.not_mem_nil, or_false] at hy
  rcases hy with rfl | rfl | rfl <;> exact lt_int
theorem CN {e : T3N} : Lt 2 (bV e) := vp fun y hy => by
  simp only [List.mem_cons, List.not_mem_nil, or_false] at hy
  rcases hy with rfl | rfl | rfl
  · exact lt_int
  · exact lt_int
  · exact Hv
theorem DN {es : List T3N} : SeqAt.shaped (.list (es.map bV)) = true := (Lt.sh (n := 3) (FW fun y hy => by obtain ⟨e, _, rfl⟩ := List.mem_map.mp hy; exact CN) (by decide)).shaped
theorem n9 {n : Int} {es : List T3N} : SeqAt.shaped (g7 n es) = true := (Lt.sh (n := 4) (vp fun y hy => by
  simp only [List.mem_cons, List.not_mem_nil, or_false] at hy
  rcases hy with rfl | rfl
  · exact lt_int
  · exact vp fun y hy => by obtain ⟨e, _, rfl⟩ := List.mem_map.mp hy; exact CN) (by decide)).shaped
theorem yJ {es : List T3N} : ∀ (zs : List PyData), (∀ z ∈ zs, z ∈ es.map bV) → ∃ es' : List T3N, zs = es'.map bV ∧ ∀ e ∈ es', e ∈ es
  | [], _ => ⟨[], rfl, fun _ z => nomatch z⟩
  | z :: r, h => by
    obtain ⟨e, he, rfl⟩ := List.mem_map.mp (h z List.mem_cons_self)
    obtain ⟨es', rfl, g⟩ := yJ r fun y hy => h y (List.mem_cons_of_mem _ hy)
    refine ⟨e :: es', rfl, fun y hy => ?_⟩
    rcases List.mem_cons.mp hy with rfl | hy
    · exact he
    · exact g y hy
theorem pM (h : nE ds μ Qd) : gD { nx := fun _ μ' => Qd (.v .none) μ', rt := Qd } (aR ["_law_bag_here", "_law_d", "_law_lines", "_law_ties", "_law_found", "_law_k", "_law_i", "_law_j", "_law_shape"] ds) μ := by
  obtain ⟨a, d, n, k, rfl, hd, n2, n61, k1, k60, hb, q⟩ := h
  unfold gD
  walk_at "rn"
  intro p hp
  have pa : p ≠ a := fun z => by obtain ⟨g, w, e, _⟩ := hb; rw [z, e] at hp; cases hp
  have hb' : Bag (ao μ p []) a := by obtain ⟨g, w, e, z⟩ := hb; exact ⟨g, w, by rw [aJ (Ne.symm pa)]; exact e, z⟩
  rw [zM]
  walk_at "rn"
  refine ⟨⟨by omega, by omega⟩, fun i ρ μ' => ∃ (es : List T3N) (r5 r6 r7 r8 : Option D), ρ = [some (.m a), some (.v (.int d)), some (.v (.int n)), some (.v (.int k)), some (.m p), r5, r6, r7, r8] ∧ μ' p = some (es.map bV) ∧ es.length = i ∧ (∀ e ∈ es, 0 ≤ e.1 ∧ e.1 < e.2.1 ∧ e.2.1 < n ∧ Ok e.2.2 ∧ e.2.2 ≠ cm) ∧ Bag μ' a ∧ (∀ b, b ≠ a → b ≠ p → ∀ es, μ b = some es → μ' b = some es),
    ⟨[], _, _, _, _, rfl, aB, rfl, (fun _ z => nomatch z), hb', fun b n1 n2 es e => by rw [aJ n2]; exact e⟩, ?_, ?_⟩
  · rintro i x ρ μ1 hx ⟨es, r5, r6, r7, r8, rfl, hp1, hl, hok, hb1, kp⟩
    obtain ⟨rfl, hi⟩ := CA hx
    walk_at "rn"
    refine ⟨a, _, rfl, by omega, by omega, hb1, fun u μ2 u0 u1 s2 => ?_⟩
    walk_at "rn"
    refine ⟨a, _, rfl, by omega, by omega, s2.1, fun v μ3 v0 v1 s3 => ?_⟩
    walk_at "rn"
    have fin : ∀ (Dd : wX) (i' j' : Int) (r8 : Option D) (μ' : Mu), (∀ (es : List T3N) (r6 r7 r8 : Option D) (μ' : Mu), μ' p = some (es.map bV) → es.length = i + 1 → (∀ e ∈ es, 0 ≤ e.1 ∧ e.1 < e.2.1 ∧ e.2.1 < n ∧ Ok e.2.2 ∧ e.2.2 ≠ cm) → Bag μ' a → (∀ b, b ≠ a → b ≠ p → ∀ es, μ b = some es → μ' b = some es) → Dd.nx [some (.m a), some (.v (.int d)), some (.v (.int n)), some (.v (.int k)), some (.m p), some (.v (.int (0 + (i : Int)))), r6, r7, r8] μ') →
        0 ≤ i' → i' < j' → j' < n → Step a μ1 μ' → eK Dd [some (.m a), some (.v (.int d)), some (.v (.int n)), some (.v (.int k)), some (.m p), some (.v (.int (0 + (i : Int)))), some (.v (.int i')), some (.v (.int j')), r8] μ' := fun Dd i' j' r8 μ' nx h1 h2 h3 st => by
      have app : ∀ (e : T3N) (r6 r7 r8 : Option D) (μ'' : Mu), Step a μ' μ'' → 0 ≤ e.1 ∧ e.1 < e.2.1 ∧ e.2.1 < n ∧ Ok e.2.2 ∧ e.2.2 ≠ cm → Dd.nx [some (.m a), some (.v (.int d)), some (.v (.int n)), some (.v (.int k)), some (.m p), some (.v (.int (0 + (i : Int)))), r6, r7, r8] (ao μ'' p (es.map bV ++ [bV e])) := fun e r6 r7 r8 μ'' s'' he => by
        have s2' := st.trans s''
        refine nx (es ++ [e]) r6 r7 r8 _ (by rw [aB, List.map_append]; rfl) (by simp [hl]) (fun x hx => ?_) ?_ fun b n1 n2 es' e' => by rw [aJ n2, s2'.2 b n1]; exact kp b n1 n2 es' e'
        · rcases List.mem_append.mp hx with z | z
          · exact hok x z
          · rw [List.mem_singleton.mp z]; exact he
        · obtain ⟨g, w, e, z⟩ := s2'.1
          exact ⟨g, w, by rw [aJ (Ne.symm pa)]; exact e, z⟩
      have hpm : ∀ μ'', Step a μ' μ'' → μ'' p = some (es.map bV) := fun μ'' s'' => by rw [(st.trans s'').2 p pa]; exact hp1
      have hlen : (es.map bV).length < 1000 := by rw [List.length_map]; omega
      unfold eK
      walk_at "rn"
      refine ⟨a, d, rfl, hd, st.1, fun x μ4 ox nx' s4 => ?_⟩
      walk_at "rn"
      have hp4 := hpm μ4 s4
      refine ⟨_, hp4, DN, by decide +kernel, ?_⟩
      have good1 : 0 ≤ i' ∧ i' < j' ∧ j' < n ∧ Ok x ∧ x ≠ cm := ⟨h1, h2, h3, ox, nx'⟩
      rcases List.eq_nil_or_concat es with rfl | ⟨ini, l, hcc⟩
      · rw [show (true ^^ PyData.eqv (.list (List.map bV [])) (.list [])) = false from rfl]
        simp only [Bool.false_eq_true, ↓reduceIte]
        rw [hp4]
        exact ⟨by decide, app (i', j', x) _ _ _ μ4 s4 good1⟩
      · rw [List.concat_eq_append] at hcc
        subst hcc
        have el : (ini ++ [l]).map bV = ini.map bV ++ [bV l] := by rw [List.map_append]; rfl
        have ne : PyData.eqv (.list ((ini ++ [l]).map bV)) (.list []) = false := by rw [el]; cases ini <;> rfl
        rw [ne]
        simp only [Bool.xor_false, ↓reduceIte]
        refine ⟨a, 12, rfl, by decide, by decide, s4.1, fun w μ5 w0 w1 s5 => ?_⟩
        have hp5 := hpm μ5 (s4.trans s5)
        dsimp only
        rw [Gb]
        walk_at "rn"
        by_cases c : w = 0
        · rw [if_pos (by simpa using c)]
          have hol := hok l (by simp)
          have e5 : bV l = .tuple [.int l.1, .int l.2.1, dN l.2.2] := rfl
          rw [GR]
          walk_at "rn"
          simp only [Fg, GI, Cc, hp5, el, tV, e5]
          walk_at "rn"
          simp only [hp5, el, tV, e5]
          walk_at "rn"
          simp only [hp5, el, tV, e5]
          walk_at "rn"
          refine ⟨l.2.2, rfl, ?_⟩
          walk_at "rn"
          rw [hp5]
          exact ⟨by rw [List.length_map] at hlen ⊢; exact hlen, app (l.1, l.2.1, minus l.2.2) _ _ _ μ5 (s4.trans s5) ⟨hol.1, hol.2.1, hol.2.2.1, rP hol.2.2.2.1, qC hol.2.2.2.2⟩⟩
        · rw [if_neg (by simpa using c)]
          rw [hp5]
          exact ⟨hlen, app (i', j', x) _ _ _ μ5 (s4.trans s5) good1⟩
    by_cases c1 : 0 + (i : Int) < n - 1
    · rw [if_pos (decide_eq_true c1)]
      refine ⟨a, 12, rfl, by decide, by decide, s3.1, fun w μ4 w0 w1 s4 => ?_⟩
      walk_at "rn"
      by_cases c2 : 0 < w
      · rw [if_pos (decide_eq_true c2)]
        exact fin _ _ _ _ _ (fun es r6 r7 r8 μ' h1 h2 h3 h4 h5 => ⟨es, _, _, _, _, rfl, h1, h2, h3, h4, h5⟩) (by omega) (by omega) (by omega) (s2.trans (s3.trans s4))
      · rw [if_neg (by simpa using c2)]
        exact fin _ _ _ _ _ (fun es r6 r7 r8 μ' h1 h2 h3 h4 h5 => ⟨es, _, _, _, _, rfl, h1, h2, h3, h4, h5⟩) (by omega) (by omega) (by omega) (s2.trans (s3.trans s4))
    · rw [if_neg (by simpa using c1)]
      exact fin _ _ _ _ _ (fun es r6 r7 r8 μ' h1 h2 h3 h4 h5 => ⟨es, _, _, _, _, rfl, h1, h2, h3, h4, h5⟩) (by omega) (by omega) (by omega) (s2.trans s3)
  · rintro ρ μ1 ⟨es, r5, r6, r7, r8, rfl, hp1, hl, hok, hb1, kp⟩
    rw [Ck] at hl
    walk_at "rn"
    refine ⟨a, p, _, rfl, pa, hb1, hp1, by rw [List.length_map]; omega, fun zs μ2 hz hin s2 => ?_⟩
    obtain ⟨es', rfl, hes⟩ := yJ zs hin
    rw [List.length_map, List.length_map] at hz
    walk_at "rn"
    refine q es' μ2 ⟨n2, n61, by omega, by omega, fun e he => hok e (hes e he)⟩ ⟨s2.1, fun b nb es0 e0 => ?_⟩
    have bp : b ≠ p := fun z => by rw [z, hp] at e0; cases e0
    exact s2.2 b nb es0 (kp b nb bp es0 e0)
theorem nA (h : pQ ds μ Qd) : eM { nx := fun _ μ' => Qd (.v .none) μ', rt := Qd } (aR ["_law_bag_here", "_law_d", "_law_lines", "_law_ties"] ds) μ := by
  obtain ⟨a, d, rfl, hd, hb, q⟩ := h
  unfold eM
  walk_at "rn"
  refine ⟨a, 5, rfl, by decide, by decide, hb, fun t1 μ1 t10 t11 s1 => ?_⟩
  walk_at "rn"
  refine ⟨a, 8, rfl, by decide, by decide, s1.1, fun t2 μ2 t20 t21 s2 => ?_⟩
  walk_at "rn"
  refine ⟨a, 3, rfl, by decide, by decide, s2.1, fun t3 μ3 t30 t31 s3 => ?_⟩
  walk_at "rn"
  refine ⟨a, 3, rfl, by decide, by decide, s3.1, fun t4 μ4 t40 t41 s4 => ?_⟩
  walk_at "rn"
  refine ⟨a, 9, rfl, by decide, by decide, s4.1, fun t5 μ5 t50 t51 s5 => ?_⟩
  walk_at "rn"
  refine ⟨mulR (by decide), divC (by decide) (by decide), ?_⟩
  have f0 : 0 ≤ (t5 * 5).fdiv 8 := by rw [Int.fdiv_eq_ediv_of_nonneg _ (by decide)]; omega
  have f1 : (t5 * 5).fdiv 8 < 6 := by rw [Int.fdiv_eq_ediv_of_nonneg _ (by decide)]; omega
  obtain ⟨_, e, n, k, rfl, n2, n61, k1, k60⟩ := pick (P := fun v => ∃ n k : Int, v = .tuple [.int n, .int k] ∧ 2 ≤ n ∧ n ≤ 61 ∧ 1 ≤ k ∧ k ≤ 60) (xs := [.tuple [.int (2 + t1), .int (1 + t2)], .tuple [.int (12 + t3), .int (11 + t4)], .tuple [.int 61, .int 60], .tuple [.int 2, .int 60], .tuple [.int 61, .int 1], .tuple [.int 13, .int 12]]) f0 (by exact f1) (by
    intro v hv
    simp only [List.mem_cons, List.not_mem_nil, or_false] at hv
    rcases hv with rfl | rfl | rfl | rfl | rfl | rfl <;> exact ⟨_, _, rfl, by omega, by omega, by omega, by omega⟩)
  rw [e]
  walk_at "rn"
  exact ⟨trivial, a, d, n, k, rfl, hd, n2, n61, k1, k60, s5.1, fun es μ6 g s6 => q n es μ6 g ((s1.trans (s2.trans (s3.trans (s4.trans s5)))).w.trans s6)⟩
end
open PySem PySem.Spec PyProof.Rows NM
def ly : DSp := fun ds μ Q => ∃ (xs : List PyData) (i : Int) (y : PyData), ds = [.v (.tuple xs), .v (.int i), .v y] ∧ xs.length ≤ 100 ∧ ∀ zs, (∀ z ∈ zs, z ∈ xs ∨ z = y) → Q (.v (.tuple zs)) μ
theorem si {μ : Mu} {Q : DK} {ds : List D} (h : ly ds μ Q) : ds.length = 3 := by obtain ⟨_, _, _, rfl, _⟩ := h; rfl
def jf : DSp := fun ds μ Q => ∃ (a : Addr) (n : Int) (es : List T3N), ds = [.m a, .v (g7 n es)] ∧ GN n es ∧ Bag μ a ∧ ∀ t μ', my t → Step a μ μ' → Q (.v t) μ'
theorem sJ {ds : List D} {μ : Mu} {Q : DK} (h : jf ds μ Q) : ds.length = 2 := by obtain ⟨_, _, _, rfl, _⟩ := h; rfl
def nc : DSp := fun ds μ Q => ∃ (d : Int) (t : PyData), ds = [.v (.int d), .v t] ∧ my t ∧ Q (.v (.bool true)) μ
theorem uk {ds : List D} {μ : Mu} {Q : DK} (h : nc ds μ Q) : ds.length = 2 := by obtain ⟨_, _, rfl, _⟩ := h; rfl
def gJ : DTS :=
  (bh (dOp iL (dOp iL (dSl (ah 0) iK (o6 (ah 1))) (aS (ae (ah 2) aj))) (dSl (ah 0) (o6 (dOp iL (ah 1) (dC (.int 1)))) iK)))
def fk (ea : Addr) : DTS :=
  (aQ (bE (jq (ae (aS (ae (dC (.str "NoRoot")) (ae (dF ea false (ah 1)) aj))) (ae (aS (ae (dC (.str "NoNumber")) (ae (dF ea false (ah 1)) aj))) (ae (aS (ae (dC (.str "NoLaying")) (ae (dF ea false (ah 1)) aj))) (ae (aS (ae (dC (.str "NoTile")) (ae (dF ea false (ah 1)) aj))) (ae (aS (ae (dC (.str "NoFit")) (ae (dF ea false (ah 1)) aj))) (ae (aS (ae (dC (.str "NoKinds")) (ae (dF ea false (ah 1)) aj))) (ae (aS (ae (dC (.str "NoPlan")) (ae (dF ea false (ah 1)) aj))) (ae (aS (ae (dC (.str "NoSpot")) (ae (dF ea false (ah 1)) aj))) (ae (aS (ae (dC (.str "NoNet")) (ae (dF ea true (ah 1)) aj))) (ae (aS (ae (dC (.str "NoText")) (ae (dF ea false (ah 1)) aj))) (ae (aS (ae (dC (.str "NoSaying")) (ae (dF ea false (ah 1)) aj))) (ae (aS (ae (dC (.str "NoName")) (ae (dF ea false (ah 1)) aj))) (ae (aS (ae (dC (.str "TooMany")) (ae (dF ea false (ah 1)) aj))) aj)))))))))))))) (aw 2))
  (aQ (bE (kD [none, none] (rE (ah 2)) (gw 2 (ba (aw 0) (ba (aw 1) gQ))) (dB (ah 1)) (ah 0)) (aw 3))
  (aQ (cB (nM (dB (dOp (cu false) (dCB cT (ae (ah 3) aj)) (dC (.int 1)))) (dB (dF ea true (ah 1)))) (bh (dOp aX (ah 3) (dC (.int 0)))) bu)
  (bh (dC (.str "several"))))))
def eC (ea : Addr) : DTS :=
  (aQ (bE (jq (ae (aS (ae (dC (.str "NoRoot")) (ae (dF ea false (ah 1)) aj))) (ae (aS (ae (dC (.str "NoNumber")) (ae (dF ea false (ah 1)) aj))) (ae (aS (ae (dC (.str "NoLaying")) (ae (dF ea false (ah 1)) aj))) (ae (aS (ae (dC (.str "NoTile")) (ae (dF ea false (ah 1)) aj))) (ae (aS (ae (dC (.str "NoFit")) (ae (dF ea false (ah 1)) aj))) (ae (aS (ae (dC (.str "NoKinds")) (ae (dF ea false (ah 1)) aj))) (ae (aS (ae (dC (.str "NoPlan")) (ae (dF ea false (ah 1)) aj))) (ae (aS (ae (dC (.str "NoSpot")) (ae (dF ea false (ah 1)) aj))) (ae (aS (ae (dC (.str "NoNet")) (ae (dF ea false (ah 1)) aj))) (ae (aS (ae (dC (.str "NoText")) (ae (dF ea false (ah 1)) aj))) (ae (aS (ae (dC (.str "NoSaying")) (ae (dF ea false (ah 1)) aj))) (ae (aS (ae (dC (.str "NoName")) (ae (dF ea false (ah 1)) aj))) (ae (aS (ae (dC (.str "TooMany")) (ae (dF ea true (ah 1)) aj))) aj)))))))))))))) (aw 2))
  (aQ (bE (kD [none, none] (rE (ah 2)) (gw 2 (ba (aw 0) (ba (aw 1) gQ))) (dB (ah 1)) (ah 0)) (aw 3))
  (aQ (cB (nM (dB (dOp (cu false) (dCB cT (ae (ah 3) aj)) (dC (.int 1)))) (dB (dF ea true (ah 1)))) (bh (dOp aX (ah 3) (dC (.int 0)))) bu)
  (bh (dC (.str "several"))))))
def gc : DTS :=
  (aQ (bE (ah 1) (gw 2 (ba (aw 2) (ba (aw 3) gQ))))
  (aQ (bE (aF bo (ae (ah 0) (ae (dCB cT (ae (ah 3) aj)) aj))) (aw 4))
  (aQ (bE (aF bo (ae (ah 0) (ae (dC (.int 12)) aj))) (aw 5))
  (aQ (bE (aF xp (ae (ah 0) aj)) (aw 6))
  (aQ (bE (dOp aX (ah 3) (ah 4)) (gw 3 (ba (aw 7) (ba (aw 8) (ba (aw 9) gQ)))))
  (aQ (bE (jq (ae (aS (ae (ah 8) (ae (ah 7) (ae (ah 9) aj)))) (ae (aS (ae (ah 7) (ae (ah 7) (ae (ah 9) aj)))) (ae (aS (ae (ah 7) (ae (ah 2) (ae (ah 9) aj)))) (ae (aS (ae (pG (dC (.int 1))) (ae (ah 8) (ae (ah 9) aj)))) (ae (aS (ae (ah 7) (ae (ah 8) (ae (aS (ae (dC (.int 0)) (ae (dC (.int 0)) (ae (dC (.int 1)) aj)))) aj)))) (ae (jq (ae (ah 7) (ae (ah 8) (ae (ah 9) aj)))) (ae (aS (ae (ah 7) (ae (ah 8) aj))) (ae (aS (ae (ah 7) (ae (ah 8) (ae (ah 6) aj)))) (ae (aS (ae (ah 6) (ae (ah 8) (ae (ah 9) aj)))) (ae (aS (ae (ah 7) (ae (ah 6) (ae (ah 9) aj)))) (ae (ah 6) (ae (aS (ae (ah 7) (ae (ah 8) (ae (ah 9) (ae (ah 9) aj))))) (ae (aS (ae (ah 7) (ae (ah 8) (ae (dCB kz (ae (ah 9) aj)) aj)))) (ae (aS (ae (ah 7) (ae (ah 8) (ae (aS (ae (kd (dOp aX (ah 9) (dC (.int 0))) (dC (.int 2))) (ae (kd (dOp aX (ah 9) (dC (.int 1))) (dC (.int 2))) (ae (kd (dOp aX (ah 9) (dC (.int 2))) (dC (.int 2))) aj)))) aj)))) (ae (aS (ae (ah 7) (ae (ah 8) (ae (aF jM (ae (ah 9) aj)) aj)))) (ae (aS (ae (dC (.int 0)) (ae (nr (ah 2) (dC (.int 1))) (ae (ah 9) aj)))) aj))))))))))))))))) (aw 10))
  (aQ (cB (dB (dOp rLt (ah 5) (dC (.int 7)))) (bh (aS (ae (ah 2) (ae (aF ly (ae (ah 3) (ae (ah 4) (ae (dOp aX (ah 10) (aF bo (ae (ah 0) (ae (dC (.int 16)) aj)))) aj)))) aj)))) bu)
  (aQ (cB (dB (dOp (cu false) (ah 5) (dC (.int 7)))) (bh (aS (ae (dOp aX (jq (ae (ah 6) (ae (nr (ah 2) (dC (.int 1))) (ae (dOp iL (ah 2) (dC (.int 1))) (ae (dC (.int 1)) (ae (dC (.int 62)) (ae (dC (.int 61)) (ae (dC (.int 0)) aj)))))))) (aF bo (ae (ah 0) (ae (dC (.int 7)) aj)))) (ae (ah 3) aj)))) bu)
  (aQ (cB (dB (dOp (cu false) (ah 5) (dC (.int 8)))) (bh (aS (ae (ah 2) (ae (dSl (dOp nB (ah 3) (dC (.int 60))) iK (o6 (dOp iL (dC (.int 59)) (aF bo (ae (ah 0) (ae (dC (.int 4)) aj)))))) aj)))) bu)
  (aQ (cB (dB (dOp (cu false) (ah 5) (dC (.int 9)))) (bh (aS (ae (ah 2) (ae (dOp iL (dSl (ah 3) iK (o6 (ah 4))) (dSl (ah 3) (o6 (dOp iL (ah 4) (dC (.int 1)))) iK)) aj)))) bu)
  (bh (dOp aX (jq (ae (jq (ae (ah 2) (ae (ah 3) aj))) (ae (aS (ae (ah 2) (ae (dCB kz (ae (ah 3) aj)) aj))) (ae (aS (ae (ah 2) aj)) (ae (aS (ae (ah 2) (ae (ah 3) (ae (aS aj) aj)))) (ae (ah 6) (ae (aS (ae (ah 2) (ae (ah 6) aj))) (ae (aS (ae (ah 2) (ae (aS aj) aj))) aj)))))))) (aF bo (ae (ah 0) (ae (dC (.int 7)) aj)))))))))))))))
def gF (P0 : PQ) (P1 : PQ) : DTS :=
  (aQ (bE (aF dm (ae (ah 1) aj)) (aw 2))
  (aQ (cB (fi (cg (dB (ow "bool" (ah 2)))) (dB (dOp (cu true) (ah 2) (aF dm (ae (ah 1) aj))))) (bh (dC (.bool false))) bu)
  (aQ (bE (aS (ae (dC (.int 1)) (ae (dC (.int 0)) (ae (dC (.int 1)) aj)))) (aw 3))
  (aQ (cB (cg (dB (ah 2))) (aQ (bE (A1 (ae (dKq P0) (ae (dKq P1) aj))) (aw 4))
  (bh (dCB mR (ae (uo [none] (ah 4) (aw 0) (fun ρo G => (dOp (cu false) (B7 ρo G 1 0 [⟨P0, [some 1], (uB (pB jJ (ae (ah 0) aj))), .str "NoNet"⟩, ⟨P1, [some 0, some 1, some 3], (uB (pB mS (ae (ah 0) (ae (ah 1) (ae (ah 2) aj))))), .str "NoNet"⟩]) (dC (.str "NoNet"))))) aj)))) bu)
  (aQ (bE (aF jk (ae (ah 1) aj)) (aw 5))
  (aQ (bE (aS (ae (dOp aX (ah 1) (dC (.int 0))) (ae (dCB gR (ae (nP [none, none, none] (o5 (dOp aX (ah 1) (dC (.int 1)))) (gw 3 (ba (aw 0) (ba (aw 1) (ba (aw 2) gQ)))) mX (aS (ae (ah 0) (ae (ah 1) (ae (aF lZ (ae (ah 2) aj)) aj))))) aj)) aj))) (aw 6))
  (aQ (cB (fi (dB (dOp (cu true) (ah 5) (ah 6))) (dB (dOp (cu true) (aF jk (ae (ah 5) aj)) (ah 1)))) (bh (dC (.bool false))) bu)
  (aQ (cB (fi (dB (dOp rGt (dOp aX (ah 1) (dC (.int 0))) (dC (.int 13)))) (dB (dOp rGt (dCB cT (ae (dOp aX (ah 1) (dC (.int 1))) aj)) (dC (.int 12))))) (bh (dOp (cu false) (pV [some 0, some 1, some 3] (pB ko (ae (ah 0) (ae (ah 1) (ae (ah 2) aj)))) "TooMany") (dC (.str "TooMany")))) bu)
  (bh (dC (.bool true)))))))))))
def ym : DTS :=
  (aQ (zX (rj (ae (dCB (yh max) (ae (dC (.int 2)) (ae (dCB (yh min) (ae (dC (.int 5)) (ae (dCB cT (ae (ah 0) aj)) aj))) aj))) aj)) (aw 1) (aQ (bE (aF za (ae (ah 0) (ae (ah 1) aj))) (aw 2))
  (aQ (bE (aF p6 (ae (ah 2) aj)) (aw 3))
  (aQ (bE (aF pQ (ae (ah 2) (ae (ah 3) aj))) (aw 4))
  (aQ (bE (wz (ae (ah 4) (ae (aF xp (ae (ah 2) aj)) aj))) (aw 5))
  (aQ (zX (rj (ae (dC (.int 6)) aj)) (aw 6) (aQ (bE (aF jf (ae (ah 2) (ae (ah 4) aj))) (aw 7))
  (aQ (qU (C5 (ah 5) (ah 7)))
  (cB (dB (aF dm (ae (ah 7) aj))) (qU (C5 (ah 5) (aF jf (ae (ah 2) (ae (ah 7) aj))))) bu))))
  (cB (fi (cg (dB (dCB mR (ae (nP [none, some 3] (diM (ah 5)) (aw 0) mX (aF nc (ae (ah 1) (ae (ah 0) aj)))) aj)))) (dB (dOp uX (aF dm (ae (ah 4) aj)) (dC (.bool true))))) (bh (dC (.bool false))) bu)))))))
  (bh (mD (dOp Ae (aF dm (ae (aS (ae (dC (.int 61)) (ae (aS (ae (aS (ae (dC (.int 0)) (ae (dC (.int 60)) (ae (aS (ae (dC (.int 1)) (ae (dC (.int 0)) (ae (dC (.int 1)) aj)))) aj)))) aj)) aj))) aj)) (dC (.bool true))) (dOp Ae (aF dm (ae (aS (ae (dC (.int 2)) (ae (aS (ae (aS (ae (dC (.int 0)) (ae (dC (.int 1)) (ae (aS (ae (dC (.int 0)) (ae (dC (.int 0)) (ae (dC (.int 1)) aj)))) aj)))) aj)) aj))) aj)) (dC (.bool false))))))
section
variable {μ : Mu} {Qd : DK} {ds : List D} {ρ : Rho}
theorem nF {xs : List PyData} {lo hi : Option Int} : ∀ x ∈ mf xs lo hi, x ∈ xs := fun x hx => by
  unfold mf at hx
  exact List.mem_of_mem_drop (List.mem_of_mem_take hx)
theorem vg {xs : List PyData} {lo hi : Option Int} : (mf xs lo hi).length ≤ xs.length := by
  unfold mf
  rw [List.length_take, List.length_drop]; omega
theorem pH (h : ly ds μ Qd) : gJ { nx := fun _ μ' => Qd (.v .none) μ', rt := Qd } (aR ["_law_row", "_law_at", "_law_thing"] ds) μ := by
  obtain ⟨xs, i, y, rfl, hl, q⟩ := h
  unfold gJ
  walk_at "rn"
  have l1 := vg (xs := xs) (lo := none) (hi := some i)
  have l2 := vg (xs := xs) (lo := some (i + 1)) (hi := none)
  refine ⟨by first | omega | (simp; omega), by first | omega | (simp; omega), q _ fun z hz => ?_⟩
  rcases List.mem_append.mp hz with w | w
  · rcases List.mem_append.mp w with w | w
    · exact .inl (nF z w)
    · exact .inr (List.mem_singleton.mp w)
  · exact .inl (nF z w)
theorem kc {μ : Mu} {Qd : DK} {ea fa : Addr} (q : Qd (.v (.str "NoNet")) μ) : fk ea { nx := fun _ _ => False, rt := Qd } [some (.o fa), some (.o ea), none, none] μ := by
  unfold fk
  simp only [↓qe, ↓zO, ↓zu, ↓zG, ↓me, ↓rD, ↓q_c, ↓va, ↓yH, ↓ze, ↓k9, Option.map_some, List.set_cons_zero, List.set_cons_succ]
  refine w4 (ns := [("NoRoot", false), ("NoNumber", false), ("NoLaying", false), ("NoTile", false), ("NoFit", false), ("NoKinds", false), ("NoPlan", false), ("NoSpot", false), ("NoNet", true), ("NoText", false), ("NoSaying", false), ("NoName", false), ("TooMany", false)]) rfl (by decide) ?_
  simp only [↓k9, ↓qe, List.set_cons_zero, List.set_cons_succ, List.map_cons, List.map_nil, List.filterMap_cons, List.filterMap_nil, AA, Bool.false_eq_true, ↓reduceIte]
  simp only [↓yZ, ↓uY, ↓q_B, ↓DY, ↓Eg, ↓me, ↓rD, ↓tY, ↓u7, ↓q_c, ↓zo, ↓va, ↓zJ, ↓ve, List.getElem?_cons_zero, List.getElem?_cons_succ, List.length_cons, List.length_nil]
  exact q
theorem ji {μ : Mu} {Qd : DK} {ea fa : Addr} (q : Qd (.v (.str "TooMany")) μ) : eC ea { nx := fun _ _ => False, rt := Qd } [some (.o fa), some (.o ea), none, none] μ := by
  unfold eC
  simp only [↓qe, ↓zO, ↓zu, ↓zG, ↓me, ↓rD, ↓q_c, ↓va, ↓yH, ↓ze, ↓k9, Option.map_some, List.set_cons_zero, List.set_cons_succ]
  refine w4 (ns := [("NoRoot", false), ("NoNumber", false), ("NoLaying", false), ("NoTile", false), ("NoFit", false), ("NoKinds", false), ("NoPlan", false), ("NoSpot", false), ("NoNet", false), ("NoText", false), ("NoSaying", false), ("NoName", false), ("TooMany", true)]) rfl (by decide) ?_
  simp only [↓k9, ↓qe, List.set_cons_zero, List.set_cons_succ, List.map_cons, List.map_nil, List.filterMap_cons, List.filterMap_nil, AA, Bool.false_eq_true, ↓reduceIte]
  simp only [↓yZ, ↓uY, ↓q_B, ↓DY, ↓Eg, ↓me, ↓rD, ↓tY, ↓u7, ↓q_c, ↓zo, ↓va, ↓zJ, ↓ve, List.getElem?_cons_zero, List.getElem?_cons_succ, List.length_cons, List.length_nil]
  exact q
theorem qB {x : PyData} (h : SeqAt.shaped x = true) : x.eqv x = true := SeqAt.eqv_refl _ (SeqAt.canLay_of_shaped h)
theorem eq_str {μ : Mu} {Qd : DK} {s : Str} (h : SeqAt.shaped (.str s) = true) (q : Qd (.v (.bool true)) μ) : cu false (.v (.str s)) (.v (.str s)) μ Qd := ⟨h, h, by rw [qB h]; exact q⟩
theorem je {a b c : PyData} (h : Few c) : uj (.tuple [a, b, c]) := fun a' b' c' e => by
  simp only [PyData.tuple.injEq, List.cons.injEq, and_true] at e
  rw [← e.2.2]; exact h
theorem BO {e : T3N} : uj (bV e) := je j6
theorem D4 {t : PyData} (h : t ∈ eD) : Few t := by
  unfold eD at h
  simp only [List.mem_cons, List.not_mem_nil, or_false] at h
  rcases h with rfl | rfl | rfl | rfl | rfl | rfl | rfl | rfl | rfl | rfl | rfl | rfl | rfl | rfl | rfl | rfl | rfl | rfl | rfl | rfl <;> simp [Few]
theorem AZ {t : PyData} (h : t ∈ eD) : uj t := by
  unfold eD at h
  simp only [List.mem_cons, List.not_mem_nil, or_false] at h
  rcases h with rfl | rfl | rfl | rfl | rfl | rfl | rfl | rfl | rfl | rfl | rfl | rfl | rfl | rfl | rfl | rfl | rfl | rfl | rfl | rfl <;> intro a b c e <;> cases e <;> trivial
theorem yM {t : PyData} (h : t ∈ eD) : my t := by
  unfold eD at h
  simp only [List.mem_cons, List.not_mem_nil, or_false] at h
  rcases h with rfl | rfl | rfl | rfl | rfl | rfl | rfl | rfl | rfl | rfl | rfl | rfl | rfl | rfl | rfl | rfl | rfl | rfl | rfl | rfl <;> intro l ts e <;> cases e
theorem G6 {t : PyData} (h : t ∈ eD) {ts : List PyData} (e : t = .tuple ts) : ∀ x ∈ ts, uj x := by
  unfold eD at h
  simp only [List.mem_cons, List.not_mem_nil, or_false] at h
  rcases h with rfl | rfl | rfl | rfl | rfl | rfl | rfl | rfl | rfl | rfl | rfl | rfl | rfl | rfl | rfl | rfl | rfl | rfl | rfl | rfl <;> cases e <;> intro x hx <;> simp only [List.mem_cons, List.not_mem_nil, or_false] at hx <;> (try rcases hx with rfl | rfl | rfl) <;> (try rcases hx with rfl | rfl) <;> (try intro a b c e) <;> (try cases e) <;> (try cases hx)
theorem rG {l : PyData} {ts : List PyData} (h : ∀ x ∈ ts, uj x) : my (.tuple [l, .tuple ts]) := fun l' ts' e x hx => by
  simp only [PyData.tuple.injEq, List.cons.injEq, and_true] at e
  rw [← e.2] at hx; exact h x hx
theorem oi (h : jf ds μ Qd) : gc { nx := fun _ μ' => Qd (.v .none) μ', rt := Qd } (aR ["_law_bag_here", "_law_net", "_law_lines", "_law_ties", "_law_at", "_law_way", "_law_odd_here", "_law_i", "_law_j", "_law_shape", "_law_some"] ds) μ := by
  obtain ⟨a, n, es, rfl, g, hb, q⟩ := h
  have l1 := g.l1
  have l60 := g.l60
  have ft : ∀ x ∈ es.map bV, uj x := fun x hx => by obtain ⟨e, _, rfl⟩ := List.mem_map.mp hx; exact BO
  have lm : (es.map bV).length = es.length := List.length_map _
  unfold gc g7
  walk_at "rn"
  refine ⟨trivial, a, _, rfl, by rw [lm]; omega, by rw [lm]; omega, hb, fun at' μ1 a0 a1 s1 => ?_⟩
  walk_at "rn"
  refine ⟨a, 12, rfl, by decide, by decide, s1.1, fun way μ2 w0 w1 s2 => ?_⟩
  walk_at "rn"
  refine ⟨a, rfl, s2.1, fun o μ3 ho s3 => ?_⟩
  walk_at "rn"
  obtain ⟨_, e1, e, he, rfl⟩ := pick (P := fun v => ∃ e ∈ es, v = bV e) (xs := es.map bV) a0 (by exact a1) (fun v hv => by obtain ⟨e, he, rfl⟩ := List.mem_map.mp hv; exact ⟨e, he, rfl⟩)
  rw [e1]
  rw [show bV e = .tuple [.int e.1, .int e.2.1, dN e.2.2] from rfl]
  walk_at "rn"
  refine ⟨trivial, ?_⟩
  have m2 : ∀ z : Int, MulOk z 2 := fun z => mulR (by decide)
  have s13 := s1.trans (s2.trans s3)
  simp only [kz, dN]
  walk_at "rn"
  refine ⟨m2 _, m2 _, m2 _, e.2.2, rfl, ?_⟩
  walk_at "rn"
  by_cases c7 : way < 7
  · rw [if_pos (decide_eq_true c7)]
    refine ⟨a, 16, rfl, by decide, by decide, s3.1, fun r μ4 r0 r1 s4 => ?_⟩
    walk_at "rn"
    obtain ⟨y, ey, fy⟩ := pick (P := uj) (xs := [PyData.tuple [PyData.int e.2.1, PyData.int e.1, dN e.2.2], PyData.tuple [PyData.int e.1, PyData.int e.1, dN e.2.2], PyData.tuple [PyData.int e.1, PyData.int n, dN e.2.2], PyData.tuple [PyData.int (-1), PyData.int e.2.1, dN e.2.2], PyData.tuple [PyData.int e.1, PyData.int e.2.1, dN ⟨0, 0, 1⟩], PyData.list [PyData.int e.1, PyData.int e.2.1, dN e.2.2], PyData.tuple [PyData.int e.1, PyData.int e.2.1], PyData.tuple [PyData.int e.1, PyData.int e.2.1, o], PyData.tuple [o, PyData.int e.2.1, dN e.2.2], PyData.tuple [PyData.int e.1, o, dN e.2.2], o, PyData.tuple [PyData.int e.1, PyData.int e.2.1, dN e.2.2, dN e.2.2], PyData.tuple [PyData.int e.1, PyData.int e.2.1, PyData.list [PyData.int e.2.2.a, PyData.int e.2.2.b, PyData.int e.2.2.c]], PyData.tuple [PyData.int e.1, PyData.int e.2.1, dN ⟨e.2.2.a * 2, e.2.2.b * 2, e.2.2.c * 2⟩], PyData.tuple [PyData.int e.1, PyData.int e.2.1, dN (minus e.2.2)], PyData.tuple [PyData.int 0, PyData.int (n - 1), dN e.2.2]]) r0 (by exact r1) (by
      intro v hv
      simp only [List.mem_cons, List.not_mem_nil, or_false] at hv
      rcases hv with rfl | rfl | rfl | rfl | rfl | rfl | rfl | rfl | rfl | rfl | rfl | rfl | rfl | rfl | rfl | rfl
      · exact je j6
      · exact je j6
      · exact je j6
      · exact je j6
      · exact je j6
      · intro a b c e; cases e
      · intro a b c e; cases e
      · exact je (D4 ho)
      · exact je j6
      · exact je j6
      · exact AZ ho
      · intro a b c e; cases e
      · exact je trivial
      · exact je j6
      · exact je j6
      · exact je j6)
    rw [show ({ a := e.2.2.a, b := e.2.2.b, c := e.2.2.c } : N3) = e.2.2 from rfl, ey]
    refine ⟨_, at', y, rfl, by rw [lm]; omega, fun zs hz => ?_⟩
    refine q _ μ4 (rG fun x hx => ?_) (s13.trans s4)
    rcases hz x hx with z | z
    · exact ft x z
    · rw [z]; exact fy
  · rw [if_neg (by simpa using c7)]
    by_cases d7 : way = 7
    · rw [if_pos (decide_eq_true d7)]
      refine ⟨a, 7, rfl, by decide, by decide, s3.1, fun r μ4 r0 r1 s4 => ?_⟩
      walk_at "rn"
      obtain ⟨y, ey, _⟩ := pick (P := fun _ => True) (xs := [o, PyData.int (n - 1), PyData.int (n + 1), PyData.int 1, PyData.int 62, PyData.int 61, PyData.int 0]) r0 (by exact r1) (fun _ _ => trivial)
      rw [ey]
      exact q _ μ4 (rG ft) (s13.trans s4)
    · rw [if_neg (by simpa using d7)]
      by_cases d8 : way = 8
      · rw [if_pos (decide_eq_true d8)]
        rw [Ei]
        have hne : es.map bV ≠ [] := by
          intro z
          have h0 : (es.map bV).length = 0 := by rw [z]; rfl
          have := g.l1
          rw [lm] at h0
          omega
        refine ⟨⟨by decide, by decide, hne, by rw [lm]; show es.length * 60 ≤ 4000; omega⟩, ?_⟩
        walk_at "rn"
        refine ⟨a, 4, rfl, by decide, by decide, s3.1, fun r μ4 r0 r1 s4 => ?_⟩
        walk_at "rn"
        refine q _ μ4 (rG fun x hx => ?_) (s13.trans s4)
        have h1 := nF x hx
        obtain ⟨l, hl, hxl⟩ := List.mem_flatten.mp h1
        rw [List.eq_of_mem_replicate hl] at hxl
        exact ft x hxl
      · rw [if_neg (by simpa using d8)]
        by_cases d9 : way = 9
        · rw [if_pos (decide_eq_true d9)]
          have c1 := vg (xs := es.map bV) (lo := none) (hi := some at')
          have c2 := vg (xs := es.map bV) (lo := some (at' + 1)) (hi := none)
          refine ⟨by omega, q _ μ3 (rG fun x hx => ?_) s13⟩
          rcases List.mem_append.mp hx with z | z
          · exact ft x (nF x z)
          · exact ft x (nF x z)
        · rw [if_neg (by simpa using d9)]
          refine ⟨a, 7, rfl, by decide, by decide, s3.1, fun r μ4 r0 r1 s4 => ?_⟩
          walk_at "rn"
          obtain ⟨y, ey, fy⟩ := pick (P := my) (xs := [PyData.list [PyData.int n, PyData.tuple (List.map bV es)], PyData.tuple [PyData.int n, PyData.list (List.map bV es)], PyData.tuple [PyData.int n], PyData.tuple [PyData.int n, PyData.tuple (List.map bV es), PyData.tuple []], o, PyData.tuple [PyData.int n, o], PyData.tuple [PyData.int n, PyData.tuple []]]) r0 (by exact r1) (by
            intro v hv
            simp only [List.mem_cons, List.not_mem_nil, or_false] at hv
            rcases hv with rfl | rfl | rfl | rfl | rfl | rfl | rfl
            · intro l ts e; cases e
            · intro l ts e; cases e
            · intro l ts e; cases e
            · intro l ts e; cases e
            · exact yM ho
            · intro l ts e x hx
              simp only [PyData.tuple.injEq, List.cons.injEq, and_true] at e
              exact G6 ho e.2 x hx
            · exact rG fun x hx => nomatch hx)
          rw [ey]
          exact q y μ4 fy (s13.trans s4)
theorem HN : SeqAt.shaped (.str "NoNet") = true := by decide +kernel
theorem GN.kf {n : Int} {es : List T3N} (g : GN n es) : GN n (es.map jr) := ⟨g.n2, g.n61, by rw [List.length_map]; exact g.l1, by rw [List.length_map]; exact g.l60, fun e he => by
  obtain ⟨f, hf, rfl⟩ := List.mem_map.mp he
  obtain ⟨a, b, c, o, z⟩ := g.ok f hf
  exact ⟨a, b, c, uK o, fun e => z (by
    have h1 : f.2.2.a = 0 := congrArg N3.a e
    have h2 : -f.2.2.b = 0 := congrArg N3.b e
    have h3 : f.2.2.c = 1 := congrArg N3.c e
    exact N3.ext' h1 (by show f.2.2.b = 0; omega) h3)⟩⟩
theorem Fz {es : List T3N} : (es.map jr).map jr = es := by
  rw [List.map_map]
  have : jr ∘ jr = id := by
    funext e
    show (e.1, e.2.1, kf (kf e.2.2)) = e
    have : kf (kf e.2.2) = e.2.2 := N3.ext' rfl (by show - -e.2.2.b = e.2.2.b; omega) rfl
    rw [this]
  rw [this, List.map_id]
theorem pJ (P0 P1 : PQ) (h : nc ds μ Qd) : gF P0 P1 { nx := fun _ μ' => Qd (.v .none) μ', rt := Qd } (aR ["_law_d", "_law_thing", "_law_told", "_law_through", "_law_deeds", "_law_other", "_law_due"] ds) μ := by
  obtain ⟨d, t, rfl, nt, q⟩ := h
  unfold gF
  walk_at "rn"
  refine ⟨t, rfl, nt, ?_⟩
  have eb : ∀ b : Bool, isT "bool" (.bool b) = true := fun b => rfl
  walk_at "rn"
  rw [eb]
  walk_at "rn"
  refine ⟨t, rfl, nt, ?_⟩
  walk_at "rn"
  rw [if_neg (by simp)]
  cases e : iD t with
  | false =>
    walk_at "rn"
    simp only [↓Gs, ↓me, ↓rD, ↓Jo]
    refine Aq rfl (by show 2 ≤ 1000; decide) (fun e he => ?_) HN (fun e' he μ' sub Xk hx => ?_) ?_
    · simp only [List.mem_cons, List.not_mem_nil, or_false] at he
      rcases he with rfl | rfl <;> rfl
    · simp only [List.mem_cons, List.not_mem_nil, or_false] at he
      rcases he with rfl | rfl
      · exact (show jJ [.v t] μ' (fun μ'' => (∀ a ds, μ' a = some ds → μ'' a = some ds) ∧ Xk μ') from ⟨t, rfl, nt, e, fun _ _ z => z, hx⟩)
      · exact (show mS [.v (.int d), .v t, .v (dN one)] μ' (fun μ'' => (∀ a ds, μ' a = some ds → μ'' a = some ds) ∧ Xk μ') from ⟨t, _, _, rfl, nt, e, fun _ _ z => z, hx⟩)
    · rw [CV]
      exact q
  | true =>
    obtain ⟨n, es, rfl, g⟩ := wm e
    walk_at "rn"
    refine ⟨n, es, rfl, g, ?_⟩
    walk_at "rn"
    unfold g7
    have l60 := g.l60
    walk_at "rn"
    have ec : ∀ f : PyData → PyData, (∀ e ∈ es, f (bV e) = bV (jr e)) → PyData.tuple [PyData.int n, PyData.tuple (List.filterMap (fun t => some (f t)) (List.map bV es))] = g7 n (es.map jr) := by
      intro f hf
      rw [lz, List.map_map]
      unfold g7
      rw [List.map_map]
      congr 4
      exact List.map_congr_left hf
    refine ⟨by rw [List.length_map]; omega, fun t => some ((fun t => match t with | .tuple [.int i, .int j, .tuple [.int a, .int b, .int c]] => bV (i, j, kf ⟨a, b, c⟩) | _ => .none) t), fun x hx μ' _ => ?_, ?_⟩
    · obtain ⟨e, _, rfl⟩ := List.mem_map.mp hx
      unfold bV
      walk_at "rn"
      exact ⟨trivial, trivial, _, rfl, rfl, rfl⟩
    · rw [ec _ (fun e he => rfl)]
      refine ⟨n9, n9, ?_⟩
      have e1 : (PyData.tuple [PyData.int n, PyData.tuple (List.map bV (List.map jr es))]).eqv (g7 n (es.map jr)) = true := qB (n9 (n := n))
      rw [e1, if_neg (by simp)]
      refine ⟨n, es.map jr, rfl, g.kf, ?_⟩
      rw [Fz]
      refine ⟨n9, n9, ?_⟩
      have e2 : (g7 n es).eqv (PyData.tuple [PyData.int n, PyData.tuple (List.map bV es)]) = true := qB (n9 (n := n))
      rw [e2]
      dsimp only
      rw [if_neg (by decide)]
      have many : (13 < n ∨ 12 < es.length) → pV [some 0, some 1, some 3] (pB ko (ae (ah 0) (ae (ah 1) (ae (ah 2) aj)))) (Str.ofString "TooMany")
          [some (D.v (PyData.int d)), some (D.v (PyData.tuple [PyData.int n, PyData.tuple (List.map bV es)])),
            some (D.v (PyData.bool true)), some (D.v (dN { a := 1, b := 0, c := 1 })), none,
            some (D.v (PyData.tuple [PyData.int n, PyData.tuple (List.map bV (List.map jr es))])),
            some (D.v (g7 n (List.map jr es)))]
          μ fun x μ1 => cu false x (D.v (PyData.str (Str.ofString "TooMany"))) μ1 Qd := by
        intro hm
        rw [Bz, uh]
        walk_at "rn"
        refine ⟨n, es, _, _, rfl, g, hm, ?_⟩
        exact eq_str (by decide +kernel) q
      by_cases h13 : 13 < n
      · rw [if_pos (decide_eq_true h13)]
        exact many (.inl h13)
      · rw [if_neg (by simpa using h13)]
        by_cases h12 : 12 < es.length
        · rw [if_pos (decide_eq_true (by rw [List.length_map]; omega))]
          exact many (.inr h12)
        · rw [if_neg (by rw [List.length_map]; simp; omega)]
          exact q
theorem Ds {L : List PyData} : bW (L.filterMap (fun _ => some (PyData.bool true))) = some (List.replicate L.length true) := by
  induction L with
  | nil => rfl
  | cons x L ih =>
    rw [List.filterMap_cons]
    show bW (PyData.bool true :: _) = _
    unfold bW
    rw [ih]
    rfl
theorem He (h : qi ds μ Qd) : ym { nx := fun _ μ' => Qd (.v .none) μ', rt := Qd } (aR ["_law_script", "_law_k", "_law_bag_here", "_law_d", "_law_net", "_law_things", "_law_turn", "_law_thing"] ds) μ := by
  obtain ⟨ns, rfl, h63, q⟩ := h
  unfold ym
  rw [qe, zM]
  walk_at "rn"
  have hm : (-(2 ^ 62) ≤ max 2 (min 5 ((ns.length : Nat) : Int)) ∧ max 2 (min 5 ((ns.length : Nat) : Int)) < 2 ^ 62) := by omega
  refine ⟨hm, fun i ρ μ' => ∃ r1 r2 r3 r4 r5 r6 r7, ρ = [some (.s ns), r1, r2, r3, r4, r5, r6, r7], ⟨_, _, _, _, _, _, _, rfl⟩, ?_, ?_⟩
  · rintro i x ρ μ0 hx ⟨r1, r2, r3, r4, r5, r6, r7, rfl⟩
    obtain ⟨rfl, hi⟩ := CA hx
    walk_at "rn"
    refine ⟨ns, _, rfl, by omega, by omega, fun a μ1 ha s1 => ?_⟩
    walk_at "rn"
    refine ⟨a, rfl, s1.1, fun d μ2 hd s2 => ?_⟩
    walk_at "rn"
    refine ⟨a, d, rfl, hd, s2.1, fun n es μ3 g s3 => ?_⟩
    walk_at "rn"
    refine ⟨a, rfl, s3.1, fun o μ4 ho s4 => ?_⟩
    walk_at "rn"
    intro p hp
    have hap : a ≠ p := fun z => by obtain ⟨g, m, e, _⟩ := s4.1; rw [z, hp] at e; cases e
    have hb4 : Bag (ao μ4 p [g7 n es, o]) a := by obtain ⟨g, m, e, z⟩ := s4.1; exact ⟨g, m, by rw [aJ hap]; exact e, z⟩
    rw [zM]
    walk_at "rn"
    refine ⟨⟨by decide, by decide⟩, fun i' ρ μ' => ∃ r1 r6 r7 T, ρ = [some (.s ns), r1, some (.m a), some (.v (.int d)), some (.v (g7 n es)), some (.m p), r6, r7] ∧ Bag μ' a ∧ μ' p = some T ∧ T.length ≤ 2 + 2 * i' ∧ ∀ t ∈ T, my t, ⟨_, _, _, [g7 n es, o], rfl, hb4, aB, by simp, ?_⟩, ?_, ?_⟩
    · intro t ht
      simp only [List.mem_cons, List.not_mem_nil, or_false] at ht
      rcases ht with rfl | rfl
      · exact GN.few
      · exact yM ho
    · rintro j y ρ μ6 hy ⟨r1, r6, r7, T, rfl, hb, hT, lT, gT⟩
      obtain ⟨rfl, hj⟩ := CA hy
      have hj' : j < 6 := by simpa using hj
      walk_at "rn"
      refine ⟨a, n, es, rfl, g, hb, fun t μ7 nt s7 => ?_⟩
      walk_at "rn"
      have hT7 : μ7 p = some T := by rw [s7.2 p (fun z => hap z.symm)]; exact hT
      rw [hT7]
      refine ⟨by omega, t, rfl, nt, ?_⟩
      have hb7 : Bag (ao μ7 p (T ++ [t])) a := by obtain ⟨g, m, e, z⟩ := s7.1; exact ⟨g, m, by rw [aJ hap]; exact e, z⟩
      have gT1 : ∀ u ∈ T ++ [t], my u := by
        intro u hu
        rcases List.mem_append.mp hu with h | h
        · exact gT u h
        · rw [List.mem_singleton.mp h]; exact nt
      dsimp only
      cases e : iD t with
      | false =>
        rw [if_neg (by simp)]
        exact ⟨_, _, _, _, rfl, hb7, aB, by simp; omega, gT1⟩
      | true =>
        rw [if_pos rfl]
        obtain ⟨n', es', rfl, g'⟩ := wm e
        refine ⟨a, n', es', rfl, g', hb7, fun t2 μ8 nt2 s8 => ?_⟩
        have hT8 : μ8 p = some (T ++ [g7 n' es']) := by rw [s8.2 p (fun z => hap z.symm)]; exact aB
        dsimp only
        rw [hT8]
        refine ⟨by simp; omega, _, _, _, _, rfl, ?_, aB, by simp; omega, ?_⟩
        · obtain ⟨g, m, e, z⟩ := s8.1; exact ⟨g, m, by rw [aJ hap]; exact e, z⟩
        · intro u hu
          rcases List.mem_append.mp hu with h | h
          · exact gT1 u h
          · rw [List.mem_singleton.mp h]; exact nt2
    · rintro ρ μ6 ⟨r1, r6, r7, T, rfl, hb, hT, lT, gT⟩
      walk_at "rn"
      refine ⟨T, hT, by rw [Ck] at lT; have : (Int.toNat 6) = 6 := rfl; omega, fun _ => some (.bool true), fun x hx μ' _ => ?_, ?_⟩
      · exact ⟨⟨trivial, trivial⟩, d, x, rfl, gT x hx, rfl, rfl⟩
      · rw [Ds]
        dsimp only
        rw [if_neg (by simp)]
        refine ⟨_, rfl, GN.few, ?_⟩
        rw [g.net]
        exact ⟨_, _, _, _, _, _, _, rfl⟩
  · rintro ρ μ0 ⟨r1, r2, r3, r4, r5, r6, r7, rfl⟩
    have n61 : my (PyData.tuple [PyData.int 61, PyData.tuple [PyData.tuple [PyData.int 0, PyData.int 60, dN ⟨1, 0, 1⟩]]]) := GN.few (n := 61) (es := [(0, 60, ⟨1, 0, 1⟩)])
    have n2 : my (PyData.tuple [PyData.int 2, PyData.tuple [PyData.tuple [PyData.int 0, PyData.int 1, dN ⟨0, 0, 1⟩]]]) := GN.few (n := 2) (es := [(0, 1, ⟨0, 0, 1⟩)])
    have e1 : iD (PyData.tuple [PyData.int 61, PyData.tuple [PyData.tuple [PyData.int 0, PyData.int 60, dN ⟨1, 0, 1⟩]]]) = true := by decide +kernel
    have e2 : iD (PyData.tuple [PyData.int 2, PyData.tuple [PyData.tuple [PyData.int 0, PyData.int 1, dN ⟨0, 0, 1⟩]]]) = false := by decide +kernel
    refine ⟨_, rfl, n61, ?_⟩
    rw [e1]
    refine ⟨_, rfl, n2, ?_⟩
    rw [e2]
    exact q _
end
end L2.DL
set_option Elab.async false
set_option linter.all false
set_option maxRecDepth 100000
set_option maxHeartbeats 4000000
namespace K30
open PySem L2 L2.DL
structure Adr where
  jY : Addr
  l7 : FuncData
  dD : Addr
  fI : FuncData
  iO : Addr
  kM : FuncData
  dy : Addr
  gb : FuncData
  vy : Addr
  xM : FuncData
  mH : Addr
  qp : FuncData
  mL : Addr
  rq : FuncData
  dI : Addr
  gh : FuncData
  iC : Addr
  jR : FuncData
  eJ : Addr
  gX : FuncData
  iT : Addr
  kC : FuncData
  fg : Addr
  ia : FuncData
  dj : Addr
  fm : FuncData
  iN : Addr
  ki : FuncData
  jL : Addr
  l6 : FuncData
  gv : Addr
  iZ : FuncData
  iW : Addr
  kn : FuncData
  g8 : Addr
  jD : FuncData
  gY : Addr
  jT : FuncData
  gu : Addr
  i2 : FuncData
  dP : Addr
  gM : FuncData
  dk : Addr
  fP : FuncData
  cZ : Addr
  fh : FuncData
  iI : Addr
  kj : FuncData
  jF : Addr
  lX : FuncData
  iR : Addr
  kS : FuncData
  jK : Addr
  lV : FuncData
  dR : Addr
  gO : FuncData
  eX : Addr
  ix : FuncData
  dw : Addr
  fH : FuncData
  eT : Addr
  eW : FuncData
  yN : Addr
  Cu : FuncData
  sy : Tok
  qu : Tok
  sj : Tok
  km : Tok
  lE : Tok
  AK : Addr
  bN : Addr
  eo : Addr
  cD : Addr
  cF : Addr
  d6 : Addr
  gB : Addr
  dg : Addr
  eA : Addr
  ef : Addr
  aA : Addr
  ej : Addr
  cC : Addr
  eh : Addr
  au : Addr
  bX : Addr
  cV : Addr
structure Txt (K : PySem.W.Frag) (mg : Str → Option Value) (t : Adr) : Prop where
  yB : Fun K "is_whole" "is_whole" fB t.jY t.l7
  fT : mg "is_whole" = some (.ref t.jY)
  fO : PySem.W.keepIn K (.ref t.jY) = true
  gf : Binds K t.l7 ["thing"] []
  oV : Fun K "common_divisor" "common_divisor" bR t.dD t.fI
  jz : mg "common_divisor" = some (.ref t.dD)
  jc : PySem.W.keepIn K (.ref t.dD) = true
  jh : Binds K t.fI ["a", "b"] []
  wW : Fun K "is_number" "is_number" d5 t.iO t.kM
  xn : mg "is_number" = some (.ref t.iO)
  w8 : PySem.W.keepIn K (.ref t.iO) = true
  wJ : Binds K t.kM ["thing"] []
  oB : Fun K "divisor_of_all" "divisor_of_all" bQ t.dy t.gb
  nU : mg "divisor_of_all" = some (.ref t.dy)
  oM : PySem.W.keepIn K (.ref t.dy) = true
  oG : Binds K t.gb ["a", "b", "c"] []
  Gv : Fun K "mate" "mate" nV t.vy t.xM
  FN : mg "mate" = some (.ref t.vy)
  GX : PySem.W.keepIn K (.ref t.vy) = true
  Gx : Binds K t.xM ["x"] []
  CF : Fun K "is_net" "is_net" jt t.mH t.qp
  jn : mg "is_net" = some (.ref t.mH)
  jd : PySem.W.keepIn K (.ref t.mH) = true
  jo : Binds K t.qp ["thing"] []
  BB : Fun K "is_tie" "is_tie" jm t.mL t.rq
  B3 : mg "is_tie" = some (.ref t.mL)
  Cv : PySem.W.keepIn K (.ref t.mL) = true
  BJ : Binds K t.rq ["thing", "lines"] []
  lO : Fun K "must_be_net" "must_be_net" cL t.dI t.gh
  gp : mg "must_be_net" = some (.ref t.dI)
  gr : PySem.W.keepIn K (.ref t.dI) = true
  gk : Binds K t.gh ["thing"] []
  ql : Fun K "mate_net" "mate_net" fJ t.iC t.jR
  lS : mg "mate_net" = some (.ref t.iC)
  md : PySem.W.keepIn K (.ref t.iC) = true
  mj : Binds K t.jR ["net"] []
  mY : Fun K "streams_of" "streams_of" dr t.eJ t.gX
  nI : mg "streams_of" = some (.ref t.eJ)
  mE : PySem.W.keepIn K (.ref t.eJ) = true
  nq : Binds K t.gX ["d", "net", "through"] []
  vP : Fun K "_law_take" "_law_take" eg t.iT t.kC
  aD : mg "_law_take" = some (.ref t.iT)
  aC : PySem.W.keepIn K (.ref t.iT) = true
  aE : Binds K t.kC ["_law_bag_here", "_law_many"] []
  rM : Fun K "_law_any_net" "_law_any_net" cy t.fg t.ia
  rH : mg "_law_any_net" = some (.ref t.fg)
  qL : PySem.W.keepIn K (.ref t.fg) = true
  rA : Binds K t.ia ["_law_bag_here", "_law_d", "_law_lines", "_law_ties"] []
  oj : Fun K "_law_shape_any" "_law_shape_any" bT t.dj t.fm
  oA : mg "_law_shape_any" = some (.ref t.dj)
  oE : PySem.W.keepIn K (.ref t.dj) = true
  oq : Binds K t.fm ["_law_bag_here", "_law_d"] []
  xl : Fun K "_law_side" "_law_side" ez t.iN t.ki
  wR : mg "_law_side" = some (.ref t.iN)
  vO : PySem.W.keepIn K (.ref t.iN) = true
  wM : Binds K t.ki ["_law_bag_here", "_law_d", "_law_way"] []
  yA : Fun K "_law_low" "_law_low" fu t.jL t.l6
  qT : mg "_law_low" = some (.ref t.jL)
  rR : PySem.W.keepIn K (.ref t.jL) = true
  qw : Binds K t.l6 ["_law_a", "_law_b", "_law_c"] []
  sE : Fun K "_law_shared" "_law_shared" cI t.gv t.iZ
  gm : mg "_law_shared" = some (.ref t.gv)
  gn : PySem.W.keepIn K (.ref t.gv) = true
  gq : Binds K t.iZ ["_law_one", "_law_other"] []
  xk : Fun K "_law_sign" "_law_sign" d4 t.iW t.kn
  xb : mg "_law_sign" = some (.ref t.iW)
  wa : PySem.W.keepIn K (.ref t.iW) = true
  vL : Binds K t.kn ["_law_d", "_law_x"] []
  vo : Fun K "_law_minus" "_law_minus" dz t.g8 t.jD
  gZ : mg "_law_minus" = some (.ref t.g8)
  gU : PySem.W.keepIn K (.ref t.g8) = true
  gW : Binds K t.jD ["_law_x"] []
  vj : Fun K "_law_mixed" "_law_mixed" du t.gY t.jT
  uD : mg "_law_mixed" = some (.ref t.gY)
  uN : PySem.W.keepIn K (.ref t.gY) = true
  tQ : Binds K t.jT ["_law_bag_here", "_law_row"] []
  sC : Fun K "_law_is_net" "_law_is_net" cN t.gu t.i2
  lJ : mg "_law_is_net" = some (.ref t.gu)
  lK : PySem.W.keepIn K (.ref t.gu) = true
  lH : Binds K t.i2 ["_law_thing"] []
  pN : Fun K "_law_is_whole" "_law_is_whole" bZ t.dP t.gM
  gE : mg "_law_is_whole" = some (.ref t.dP)
  gH : PySem.W.keepIn K (.ref t.dP) = true
  gK : Binds K t.gM ["_law_thing"] []
  oK : Fun K "_law_is_number" "_law_is_number" bS t.dk t.fP
  oX : mg "_law_is_number" = some (.ref t.dk)
  oI : PySem.W.keepIn K (.ref t.dk) = true
  oH : Binds K t.fP ["_law_thing"] []
  kZ : Fun K "_law_refusal" "_law_refusal" cw t.cZ t.fh
  kA : mg "_law_refusal" = some (.ref t.cZ)
  kH : PySem.W.keepIn K (.ref t.cZ) = true
  kg : Binds K t.fh ["_law_deed"] []
  vJ : Fun K "_law_mate" "_law_mate" eu t.iI t.kj
  vF : mg "_law_mate" = some (.ref t.iI)
  wu : PySem.W.keepIn K (.ref t.iI) = true
  wQ : Binds K t.kj ["_law_x"] []
  yp : Fun K "_law_bag" "_law_bag" fM t.jF t.lX
  xN : mg "_law_bag" = some (.ref t.jF)
  xX : PySem.W.keepIn K (.ref t.jF) = true
  xK : Binds K t.lX ["_law_script", "_law_at"] []
  wd : Fun K "_law_root" "_law_root" eB t.iR t.kS
  xG : mg "_law_root" = some (.ref t.iR)
  xi : PySem.W.keepIn K (.ref t.iR) = true
  xA : Binds K t.kS ["_law_bag_here"] []
  yu : Fun K "_law_odd" "_law_odd" fY t.jK t.lV
  qS : mg "_law_odd" = some (.ref t.jK)
  qY : PySem.W.keepIn K (.ref t.jK) = true
  rO : Binds K t.lV ["_law_bag_here"] []
  pF : Fun K "_law_bent_net" "_law_bent_net" bY t.dR t.gO
  j9 : mg "_law_bent_net" = some (.ref t.dR)
  j0 : PySem.W.keepIn K (.ref t.dR) = true
  j4 : Binds K t.gO ["_law_bag_here", "_law_net"] []
  rh : Fun K "_law_swapped" "_law_swapped" cz t.eX t.ix
  qD : mg "_law_swapped" = some (.ref t.eX)
  rQ : PySem.W.keepIn K (.ref t.eX) = true
  qf : Binds K t.ix ["_law_row", "_law_at", "_law_thing"] []
  oD : Fun K "_law_sized_net" "_law_sized_net" bP t.dw t.fH
  ot : mg "_law_sized_net" = some (.ref t.dw)
  oU : PySem.W.keepIn K (.ref t.dw) = true
  oF : Binds K t.fH ["_law_bag_here", "_law_d"] []
  rK : Fun K "_law_is_told" "_law_is_told" cA t.eT t.eW
  qy : mg "_law_is_told" = some (.ref t.eT)
  rB : PySem.W.keepIn K (.ref t.eT) = true
  qP : Binds K t.eW ["_law_d", "_law_thing"] []
  Hw : Fun K "law" "law" lI t.yN t.Cu
  Jz : mg "law" = some (.ref t.yN)
  JB : PySem.W.keepIn K (.ref t.yN) = true
  JA : Binds K t.Cu ["_law_script"] []
  ak : mg "isinstance" = none
  qN : mg "int" = none
  x6 : mg "bool" = none
  wx : mg "abs" = none
  eE : mg "tuple" = none
  gA : mg "len" = none
  xF : mg "all" = none
  pR : mg "range" = none
  yD : mg "list" = none
  mO : mg "ValueError" = none
  Iu : mg "max" = none
  IG : mg "min" = none
  vv : mg "MOST_TILES" = some (.int 60 t.sy)
  sH : mg "LEAST_LINES" = some (.int 2 t.qu)
  vd : mg "MOST_LINES" = some (.int 61 t.sj)
  lD : mg "MOST_LINES_SOLVED" = some (.int 13 t.km)
  l5 : mg "MOST_TIES_SOLVED" = some (.int 12 t.lE)
  CK : II K mg "NOUGHT" t.AK 0 0 1
  nh : mg "FloorError" = some (.ref t.bN)
  xf : mg "NoRoot" = some (.ref t.eo)
  rk : mg "NoNumber" = some (.ref t.cD)
  qI : mg "NoLaying" = some (.ref t.cF)
  vI : mg "NoTile" = some (.ref t.d6)
  zL : mg "NoFit" = some (.ref t.gB)
  sY : mg "NoKinds" = some (.ref t.dg)
  xm : mg "NoPlan" = some (.ref t.eA)
  vK : mg "NoSpot" = some (.ref t.ef)
  tR : mg "NoNet" = some (.ref t.aA)
  xo : mg "NoText" = some (.ref t.ej)
  qr : mg "NoSaying" = some (.ref t.cC)
  vX : mg "NoName" = some (.ref t.eh)
  oY : mg "TooMany" = some (.ref t.au)
  uf : PySem.W.excIn K (t.aA) bmV "ValueError.__new__" = true
  vC : PySem.W.exmOne K (.ref t.aA) (.ref t.bN) = some true
  ic : PySem.W.kitOne K (.ref t.aA) (.ref t.eo) = some false
  fX : PySem.W.kitOne K (.ref t.aA) (.ref t.cD) = some false
  fR : PySem.W.kitOne K (.ref t.aA) (.ref t.cF) = some false
  iz : PySem.W.kitOne K (.ref t.aA) (.ref t.d6) = some false
  i3 : PySem.W.kitOne K (.ref t.aA) (.ref t.gB) = some false
  gP : PySem.W.kitOne K (.ref t.aA) (.ref t.dg) = some false
  ir : PySem.W.kitOne K (.ref t.aA) (.ref t.eA) = some false
  ig : PySem.W.kitOne K (.ref t.aA) (.ref t.ef) = some false
  i6 : PySem.W.kitOne K (.ref t.aA) (.ref t.aA) = some true
  iw : PySem.W.kitOne K (.ref t.aA) (.ref t.ej) = some false
  fq : PySem.W.kitOne K (.ref t.aA) (.ref t.cC) = some false
  iy : PySem.W.kitOne K (.ref t.aA) (.ref t.eh) = some false
  gL : PySem.W.kitOne K (.ref t.aA) (.ref t.au) = some false
  n6 : PySem.W.kitOne K (.ref t.aA) (.type "ValueError") = some true
  n8 : PySem.W.excIn K (t.au) bmV "ValueError.__new__" = true
  nR : PySem.W.exmOne K (.ref t.au) (.ref t.bN) = some true
  fK : PySem.W.kitOne K (.ref t.au) (.ref t.eo) = some false
  dY : PySem.W.kitOne K (.ref t.au) (.ref t.cD) = some false
  dW : PySem.W.kitOne K (.ref t.au) (.ref t.cF) = some false
  fV : PySem.W.kitOne K (.ref t.au) (.ref t.d6) = some false
  gI : PySem.W.kitOne K (.ref t.au) (.ref t.gB) = some false
  eI : PySem.W.kitOne K (.ref t.au) (.ref t.dg) = some false
  gg : PySem.W.kitOne K (.ref t.au) (.ref t.eA) = some false
  fz : PySem.W.kitOne K (.ref t.au) (.ref t.ef) = some false
  gG : PySem.W.kitOne K (.ref t.au) (.ref t.aA) = some false
  fL : PySem.W.kitOne K (.ref t.au) (.ref t.ej) = some false
  dX : PySem.W.kitOne K (.ref t.au) (.ref t.cC) = some false
  fv : PySem.W.kitOne K (.ref t.au) (.ref t.eh) = some false
  eS : PySem.W.kitOne K (.ref t.au) (.ref t.au) = some true
  kq : PySem.W.kitOne K (.ref t.au) (.type "ValueError") = some true
  cS : pK K t.aA
  bH : pK K t.au
  hV : Fw K mg t.bX t.cV "_law_is_told"
  gC : t.eW.code = .ref t.bX
structure EQ where
  P : Program
  w : World
  K : PySem.W.Frag
  mg : Str → Option Value
  base : Heap
  t : Adr
abbrev TX (e : EQ) : Prop := Txt e.K e.mg e.t
abbrev iP (e : EQ) : Prop := bU e.P e.w e.K e.mg e.base CX0 1 e.t.jY e.t.l7 ["thing"] (spD e.K cU)
abbrev iQ (e : EQ) : Prop := bU e.P e.w e.K e.mg e.base CX0 1 e.t.dD e.t.fI ["a", "b"] (spD e.K kB)
abbrev mM (e : EQ) : Prop := bU e.P e.w e.K e.mg e.base CX0 3 e.t.iO e.t.kM ["thing"] (spD e.K lR)
abbrev iG (e : EQ) : Prop := bU e.P e.w e.K e.mg e.base CX0 2 e.t.dy e.t.gb ["a", "b", "c"] (spD e.K uu)
abbrev yL (e : EQ) : Prop := bU e.P e.w e.K e.mg e.base CX0 1 e.t.vy e.t.xM ["x"] (spD e.K lZ)
abbrev jw (e : EQ) : Prop := bU e.P e.w e.K e.mg e.base CX0 5 e.t.mH e.t.qp ["thing"] (spD e.K dm)
abbrev tM (e : EQ) : Prop := bU e.P e.w e.K e.mg e.base CX0 4 e.t.mL e.t.rq ["thing", "lines"] (spD e.K yU)
abbrev iB (e : EQ) : Prop := bU e.P e.w e.K e.mg e.base CX0 6 e.t.dI e.t.gh ["thing"] (spD e.K jj)
abbrev pj (e : EQ) : Prop := bU e.P e.w e.K e.mg e.base CX0 7 e.t.iC e.t.jR ["net"] (spD e.K jk)
abbrev bM (e : EQ) : Prop := bU e.P e.w e.K e.mg e.base CX0 1 e.t.iT e.t.kC ["_law_bag_here", "_law_many"] (spD e.K bo)
abbrev ka (e : EQ) : Prop := bU e.P e.w e.K e.mg e.base CX0 5 e.t.fg e.t.ia ["_law_bag_here", "_law_d", "_law_lines", "_law_ties"] (spD e.K nE)
abbrev iF (e : EQ) : Prop := bU e.P e.w e.K e.mg e.base CX0 4 e.t.dj e.t.fm ["_law_bag_here", "_law_d"] (spD e.K jG)
abbrev mx (e : EQ) : Prop := bU e.P e.w e.K e.mg e.base CX0 3 e.t.iN e.t.ki ["_law_bag_here", "_law_d", "_law_way"] (spD e.K uL)
abbrev o4 (e : EQ) : Prop := bU e.P e.w e.K e.mg e.base CX0 2 e.t.jL e.t.l6 ["_law_a", "_law_b", "_law_c"] (spD e.K kT)
abbrev ik (e : EQ) : Prop := bU e.P e.w e.K e.mg e.base CX0 1 e.t.gv e.t.iZ ["_law_one", "_law_other"] (spD e.K kB)
abbrev mz (e : EQ) : Prop := bU e.P e.w e.K e.mg e.base CX0 1 e.t.iW e.t.kn ["_law_d", "_law_x"] (spD e.K uH)
abbrev dM (e : EQ) : Prop := bU e.P e.w e.K e.mg e.base CX0 1 e.t.g8 e.t.jD ["_law_x"] (spD e.K jM)
abbrev lM (e : EQ) : Prop := bU e.P e.w e.K e.mg e.base CX0 2 e.t.gY e.t.jT ["_law_bag_here", "_law_row"] (spD e.K pX)
abbrev ib (e : EQ) : Prop := bU e.P e.w e.K e.mg e.base CX0 3 e.t.gu e.t.i2 ["_law_thing"] (spD e.K dm)
abbrev fW (e : EQ) : Prop := bU e.P e.w e.K e.mg e.base CX0 1 e.t.dP e.t.gM ["_law_thing"] (spD e.K cU)
abbrev iV (e : EQ) : Prop := bU e.P e.w e.K e.mg e.base CX0 2 e.t.dk e.t.fP ["_law_thing"] (spD e.K lR)
abbrev mZ (e : EQ) : Prop := bU e.P e.w e.K e.mg e.base CX0 1 e.t.iI e.t.kj ["_law_x"] (spD e.K lZ)
abbrev o7 (e : EQ) : Prop := bU e.P e.w e.K e.mg e.base CX0 1 e.t.jF e.t.lX ["_law_script", "_law_at"] (spD e.K za)
abbrev mW (e : EQ) : Prop := bU e.P e.w e.K e.mg e.base CX0 2 e.t.iR e.t.kS ["_law_bag_here"] (spD e.K p6)
abbrev kF (e : EQ) : Prop := bU e.P e.w e.K e.mg e.base CX0 2 e.t.jK e.t.lV ["_law_bag_here"] (spD e.K xp)
abbrev jl (e : EQ) : Prop := bU e.P e.w e.K e.mg e.base CX0 3 e.t.dR e.t.gO ["_law_bag_here", "_law_net"] (spD e.K jf)
abbrev j5 (e : EQ) : Prop := bU e.P e.w e.K e.mg e.base CX0 1 e.t.eX e.t.ix ["_law_row", "_law_at", "_law_thing"] (spD e.K ly)
abbrev iM (e : EQ) : Prop := bU e.P e.w e.K e.mg e.base CX0 6 e.t.dw e.t.fH ["_law_bag_here", "_law_d"] (spD e.K pQ)
abbrev j7 (e : EQ) : Prop := bU e.P e.w e.K e.mg e.base CX0 10 e.t.eT e.t.eW ["_law_d", "_law_thing"] (spD e.K nc)
abbrev C1 (e : EQ) : Prop := bU e.P e.w e.K e.mg e.base CX0 11 e.t.yN e.t.Cu ["_law_script"] (spD e.K qi)
abbrev cQ (e : EQ) : Prop := bU e.P e.w e.K e.mg e.base (CX1 e.P e.w) 6 e.t.dI e.t.gh ["thing"] (spX e.K (.ref e.t.aA) jJ)
abbrev iu (e : EQ) : Prop := bU e.P e.w e.K e.mg e.base (CX1 e.P e.w) 7 e.t.iC e.t.jR ["net"] (spX e.K (.ref e.t.aA) jJ)
abbrev gy (e : EQ) : Prop := bU e.P e.w e.K e.mg e.base (CX1 e.P e.w) 7 e.t.eJ e.t.gX ["d", "net", "through"] (spX e.K (.ref e.t.aA) mS)
abbrev ff (e : EQ) : Prop := bU e.P e.w e.K e.mg e.base (CX1 e.P e.w) 7 e.t.eJ e.t.gX ["d", "net", "through"] (spX e.K (.ref e.t.au) ko)
abbrev sX (e : EQ) : Prop := tN e.P e.w e.K e.mg e.base 8 e.t.cZ e.t.fh "_law_deed" (.ref e.t.aA) "NoNet"
abbrev pf (e : EQ) : Prop := tN e.P e.w e.K e.mg e.base 8 e.t.cZ e.t.fh "_law_deed" (.ref e.t.au) "TooMany"
section
variable {e : EQ}
theorem wA : aN ["thing"] ["thing"] (ay fB) := ⟨rfl, rfl, rfl, by decide +kernel, rfl, by decide +kernel, by decide +kernel⟩
theorem wY (T : TX e)  : iP e := by
  have S := wA
  exact T.yB.okD S (fun ds μ Q h => o3 h) (fun cdv A outer s H E hr => ⟨iU, (av (aH (kr (fw (zE _) rfl T.ak rfl T.qN PyProof.Rows.Boot.«int» (dv 0)) (nQ (Bf (fw (qc _) rfl T.ak rfl T.x6 PyProof.Rows.Boot.«bool» (dv 0))))))), fun ds μ Qd h => pk h⟩)
theorem nL : aN ["a", "b"] ["a", "b"] (ay bR) := ⟨rfl, rfl, rfl, by decide +kernel, rfl, by decide +kernel, by decide +kernel⟩
theorem ny (T : TX e)  : iQ e := by
  have S := nL
  exact T.oV.okD S (fun ds μ Q h => tq h) (fun cdv A outer s H E hr => ⟨eO, (ai (wO PassesOwn.never (aU (fQ hr.units) bA (dv 1) af (aI _)) (av (qV (i := 0) (j := 1) rfl S.nd rfl rfl (by decide) rfl rfl (aa (dv 1) (aa (jV (dv 0) (dv 1)) ag)) rfl)))
    (av (aH (qA rfl T.wx (aa (dv 0) ag))))), fun ds μ Qd h => nk h⟩)
theorem DM : aN ["x"] ["x"] (ay nV) := ⟨rfl, rfl, rfl, by decide +kernel, rfl, by decide +kernel, by decide +kernel⟩
theorem uK (T : TX e)  : yL e := by
  have S := DM
  exact T.Gv.okD S (fun ds μ Q h => qR h) (fun cdv A outer s H E hr => ⟨ur, (av (aH (ax (aa (aW (dv 0) af (fun _ _ => rfl)) (aa (ky (aW (dv 0) af (fun _ _ => rfl))) (aa (aW (dv 0) af (fun _ _ => rfl)) ag)))))), fun ds μ Qd h => Er h⟩)
theorem uV : aN ["_law_bag_here", "_law_many", "_law_digit"] ["_law_bag_here", "_law_many"] (ay eg) := ⟨rfl, rfl, rfl, by decide +kernel, rfl, by decide +kernel, by decide +kernel⟩
theorem uc (T : TX e)  : bM e := by
  have S := uV
  exact T.vP.okD S (fun ds μ Q h => xT h) (fun cdv A outer s H E hr => ⟨jX, (ai (bG (aU iS de (aW (dv 0) af (fun _ _ => rfl)) af (aI _)) (ai (bb (i := 2) S.nd rfl (Or.inl rfl) (jV (aW (dv 0) af (fun _ _ => rfl)) (dv 1)))
    (ai (hU (nZ (aW (dv 0) af (fun _ _ => rfl)) (dv 1)) (Cz (dv 0) af))
    (av (aH (dv 2))))) aV)
    (ai (hU (jV (dZ (fe (aW (dv 0) af (fun _ _ => rfl)) af) af) af) (Cz (dv 0) af))
    (av (aH (jV (nZ (jV (yn (aW (dv 0) af (fun _ _ => rfl)) af) af) af) (dv 1)))))), fun ds μ Qd h => uQ h⟩)
theorem rS : aN ["_law_one", "_law_other"] ["_law_one", "_law_other"] (ay cI) := ⟨rfl, rfl, rfl, by decide +kernel, rfl, by decide +kernel, by decide +kernel⟩
theorem q9 (T : TX e)  : ik e := by
  have S := rS
  exact T.sE.okD S (fun ds μ Q h => tq h) (fun cdv A outer s H E hr => ⟨il, (ai (qV (i := 0) (j := 1) rfl S.nd rfl rfl (by decide) rfl rfl (aa (qA rfl T.wx (aa (dv 0) ag)) (aa (qA rfl T.wx (aa (dv 1) ag)) ag)) rfl)
    (ai (wO PassesOwn.never (aU iS de (dv 1) af (aI _)) (av (qV (i := 0) (j := 1) rfl S.nd rfl rfl (by decide) rfl rfl (aa (dv 1) (aa (jV (dv 0) (dv 1)) ag)) rfl)))
    (av (aH (dv 0))))), fun ds μ Qd h => rC h⟩)
theorem uP : aN ["_law_d", "_law_x", "_law_first", "_law_second", "_law_sides"] ["_law_d", "_law_x"] (ay d4) := ⟨rfl, rfl, rfl, by decide +kernel, rfl, by decide +kernel, by decide +kernel⟩
theorem tX (T : TX e)  : mz e := by
  have S := uP
  exact T.xk.okD S (fun ds μ Q h => yx h) (fun cdv A outer s H E hr => ⟨jS, (ai (qV (i := 2) (j := 3) rfl S.nd rfl rfl (by decide) rfl rfl (aa (fe (aW (dv 1) af (fun _ _ => rfl)) (aW (dv 1) af (fun _ _ => rfl))) (aa (fe (fe (dv 0) (aW (dv 1) af (fun _ _ => rfl))) (aW (dv 1) af (fun _ _ => rfl))) ag)) rfl)
    (ai (bb (i := 4) S.nd rfl (Or.inl rfl) (cO (aa (fN (kh rfl T.qN (aa (cX iS de (aW (dv 1) af (fun _ _ => rfl)) af (aI _)) ag)) (kh rfl T.qN (aa (cX j8 de (aW (dv 1) af (fun _ _ => rfl)) af (aI _)) ag))) (aa (fN (kh rfl T.qN (aa (cX iS de (aW (dv 1) af (fun _ _ => rfl)) af (aI _)) ag)) (kh rfl T.qN (aa (cX j8 de (aW (dv 1) af (fun _ _ => rfl)) af (aI _)) ag))) ag))))
    (ai (bG (aU Bu de (fe (aW (dv 4) af (fun _ _ => rfl)) (aW (dv 4) af (fun _ _ => rfl))) af (aI _)) (av (aH (yP (aU (fQ hr.units) bA (aW (dv 4) af (fun _ _ => rfl)) af (aI _)) (aW (dv 4) af (fun _ _ => rfl)) (aW (dv 4) af (fun _ _ => rfl))))) aV)
    (av (aH (yP (aU iS de (dv 2) (dv 3) (aI _)) (aW (dv 4) af (fun _ _ => rfl)) (aW (dv 4) af (fun _ _ => rfl)))))))), fun ds μ Qd h => u4 h⟩)
theorem sD : aN ["_law_x"] ["_law_x"] (ay dz) := ⟨rfl, rfl, rfl, by decide +kernel, rfl, by decide +kernel, by decide +kernel⟩
theorem sG (T : TX e)  : dM e := by
  have S := sD
  exact T.vo.okD S (fun ds μ Q h => vN h) (fun cdv A outer s H E hr => ⟨iY, (av (aH (ax (aa (fN af (aW (dv 0) af (fun _ _ => rfl))) (aa (fN af (aW (dv 0) af (fun _ _ => rfl))) (aa (aW (dv 0) af (fun _ _ => rfl)) ag)))))), fun ds μ Qd h => sx h⟩)
theorem oS : aN ["_law_thing"] ["_law_thing"] (ay bZ) := ⟨rfl, rfl, rfl, by decide +kernel, rfl, by decide +kernel, by decide +kernel⟩
theorem oQ (T : TX e)  : fW e := by
  have S := oS
  exact T.pN.okD S (fun ds μ Q h => o3 h) (fun cdv A outer s H E hr => ⟨jx, (av (aH (kr (fw (zE _) rfl T.ak rfl T.qN PyProof.Rows.Boot.«int» (dv 0)) (nQ (Bf (fw (qc _) rfl T.ak rfl T.x6 PyProof.Rows.Boot.«bool» (dv 0))))))), fun ds μ Qd h => ou h⟩)
theorem uR : aN ["_law_x"] ["_law_x"] (ay eu) := ⟨rfl, rfl, rfl, by decide +kernel, rfl, by decide +kernel, by decide +kernel⟩
theorem vq (T : TX e)  : mZ e := by
  have S := uR
  exact T.vJ.okD S (fun ds μ Q h => qR h) (fun cdv A outer s H E hr => ⟨jU, (av (aH (ax (aa (aW (dv 0) af (fun _ _ => rfl)) (aa (fN af (aW (dv 0) af (fun _ _ => rfl))) (aa (aW (dv 0) af (fun _ _ => rfl)) ag)))))), fun ds μ Qd h => ub h⟩)
theorem vS : aN ["_law_script", "_law_at", "_law_cell", "_law_great", "_law_primes", "_law_mixed_here"] ["_law_script", "_law_at"] (ay fM) := ⟨rfl, rfl, rfl, by decide +kernel, rfl, by decide +kernel, by decide +kernel⟩
theorem vT (T : TX e)  : o7 e := by
  have S := vS
  exact T.yp.okD S (fun ds μ Q h => AI h) (fun cdv A outer s H E hr => ⟨ku, (ai (bb (i := 2) S.nd rfl (Or.inl rfl) af)
    (ai (bG (aU j8 de (dv 1) (dh rfl T.gA (aa (dv 0) ag)) (aI _)) (av (bb (i := 2) S.nd rfl (Or.inl rfl) (aW (dv 0) (dv 1) (fun _ _ => rfl)))) aV)
    (ai (bb (i := 3) S.nd rfl (Or.inl rfl) af)
    (ai (bG (aU Bu de (qA rfl T.wx (aa (dv 2) ag)) (yn af af) (aI _)) (av (bb (i := 3) S.nd rfl (Or.inl rfl) (qA rfl T.wx (aa (dv 2) ag)))) aV)
    (ai (bb (i := 4) S.nd rfl (Or.inl rfl) (cO (aa af (aa af (aa af (aa af (aa af (aa af (aa af (aa af ag))))))))))
    (ai (bb (i := 5) S.nd rfl (Or.inl rfl) (dZ (dZ (dZ (fe (jV (dv 2) af) af) (fe (fe af (dv 1)) (dv 1))) (fe af (dv 1))) af))
    (av (aH (tO (aa (dv 3) (aa (jV (dv 5) (aW (dv 4) (jV (dv 1) af) (fun _ _ => rfl))) ag))))))))))), fun ds μ Qd h => vZ h⟩)
theorem pE : aN ["_law_row", "_law_at", "_law_thing"] ["_law_row", "_law_at", "_law_thing"] (ay cz) := ⟨rfl, rfl, rfl, by decide +kernel, rfl, by decide +kernel, by decide +kernel⟩
theorem pI (T : TX e)  : j5 e := by
  have S := pE
  exact T.rh.okD S (fun ds μ Q h => si h) (fun cdv A outer s H E hr => ⟨gJ, (av (aH (jI (jI (jv (dv 0) lA (lp (dv 1))) (ax (aa (dv 2) ag))) (jv (dv 0) (lp (jI (dv 1) af)) lA)))), fun ds μ Qd h => pH h⟩)
theorem mG : aN ["a", "b", "c"] ["a", "b", "c"] (ay bQ) := ⟨rfl, rfl, rfl, by decide +kernel, rfl, by decide +kernel, by decide +kernel⟩
theorem nO (T : TX e) (dA : iQ e) : iG e := by
  have S := mG
  exact T.oB.okD S (fun ds μ Q h => xJ h) (fun cdv A outer s H E hr => ⟨eU, (av (aH (aq dA (hr.mono (by decide)) rfl T.jz T.jc T.jh (aa (aq dA (hr.mono (by decide)) rfl T.jz T.jc T.jh (aa (dv 2) (aa (dv 0) ag))) (aa (dv 1) ag))))), fun ds μ Qd h => mK h⟩)
theorem xC : aN ["_law_a", "_law_b", "_law_c", "_law_common"] ["_law_a", "_law_b", "_law_c"] (ay fu) := ⟨rfl, rfl, rfl, by decide +kernel, rfl, by decide +kernel, by decide +kernel⟩
theorem wI (T : TX e) (bO : ik e) : o4 e := by
  have S := xC
  exact T.yA.okD S (fun ds μ Q h => vb h) (fun cdv A outer s H E hr => ⟨kJ, (ai (bb (i := 3) S.nd rfl (Or.inl rfl) (fe (aq bO (hr.mono (by decide)) rfl T.gm T.gn T.gq (aa (aq bO (hr.mono (by decide)) rfl T.gm T.gn T.gq (aa (dv 0) (aa (dv 1) ag))) (aa (dv 2) ag))) (aW (cO (aa af (aa (ky af) ag))) (kh rfl T.qN (aa (cX j8 de (dv 2) af (aI _)) ag)) (fun _ _ => rfl))))
    (av (aH (ax (aa (nZ (dv 0) (dv 3)) (aa (nZ (dv 1) (dv 3)) (aa (nZ (dv 2) (dv 3)) ag))))))), fun ds μ Qd h => vV h⟩)
theorem rZ : aN ["_law_bag_here", "_law_row", "_law_rest"] ["_law_bag_here", "_law_row"] (ay du) := ⟨rfl, rfl, rfl, by decide +kernel, rfl, by decide +kernel, by decide +kernel⟩
theorem sr (T : TX e) (ar : bM e) : lM e := by
  have S := rZ
  exact T.vj.okD S (fun ds μ Q h => xj h) (fun cdv A outer s H E hr => ⟨i5, (ai (bb (i := 2) S.nd rfl (Or.inr rfl) (Cq rfl T.yD (aa (dv 1) ag)))
    (av (aH (Ao (N' := ["_law_thing", "_law_rest", "_law_bag_here"]) (cap := [none, some 2, some 0]) rfl (Hq (dv 1)) (fun _ _ _ => (aK (i := 0) (show List.Nodup (["_law_thing", "_law_rest", "_law_bag_here"] : List Str) by decide +kernel) rfl (Or.inl rfl))) (fun _ _ _ => hW) (fun _ _ _ => (Bw (dv 1) (aq ar (hr.mono (by decide)) rfl T.aD T.aC T.aE (aa (dv 2) (aa (dh rfl T.gA (aa (dv 1) ag)) ag))))) rfl (by decide +kernel) rfl (by decide +kernel) (by intro _ _ h; first | exact h | exact cl1 h | exact cl2 (by decide +kernel) h | exact cl3 (by decide +kernel) h | exact aY (aL rfl bK) _ _ h | exact aY (aL rfl (aL rfl bK)) _ _ h | exact aY (aL rfl (aL rfl (aL rfl bK))) _ _ h | cases h) (eQ rfl) rfl (fF ⟨Dq, ⟨Dq, trivial⟩⟩))))), fun ds μ Qd h => rT h⟩)
theorem mP : aN ["_law_thing"] ["_law_thing"] (ay bS) := ⟨rfl, rfl, rfl, by decide +kernel, rfl, by decide +kernel, by decide +kernel⟩
theorem mQ (T : TX e) (bI : fW e) (bO : ik e) : iV e := by
  have S := mP
  exact T.oK.okD S (fun ds μ Q h => qO h) (fun cdv A outer s H E hr => ⟨eL, (ai (bG (DW.dt (cG (bC (bw (fw (kit_tuple _) rfl T.ak rfl T.eE PyProof.Rows.Boot.«tuple» (dv 0)))) (cG (aU (fQ hr.units) bA (dh rfl T.gA (aa (dv 0) ag)) af (aI _)) (cW (bC (bw (qg rfl rfl T.xF (aa (ml (N' := ["_law_one"]) (cap := [none]) rfl (oh (dv 0)) (fun _ _ _ => (aK (i := 0) (show List.Nodup (["_law_one"] : List Str) by decide +kernel) rfl (Or.inl rfl))) (fun _ _ _ => hW) (fun _ _ _ => (aq bI (hr.mono (by decide)) rfl T.gE T.gH T.gK (aa (dv 0) ag))) rfl (by decide +kernel) rfl (by decide +kernel) (by intro _ _ h; first | exact h | exact cl1 h | exact cl2 (by decide +kernel) h | exact cl3 (by decide +kernel) h | exact aY (aL rfl bK) _ _ h | exact aY (aL rfl (aL rfl bK)) _ _ h | exact aY (aL rfl (aL rfl (aL rfl bK))) _ _ h | cases h) (eQ rfl) rfl (fF trivial)) ag)))))))) (av (aH df)) aV)
    (av (aH (kr (cX iS de (aW (dv 0) af (fun _ _ => rfl)) af (aI _)) (nQ (cX (dG hr.units) bA (aq bO (hr.mono (by decide)) rfl T.gm T.gn T.gq (aa (aq bO (hr.mono (by decide)) rfl T.gm T.gn T.gq (aa (aW (dv 0) af (fun _ _ => rfl)) (aa (aW (dv 0) af (fun _ _ => rfl)) ag))) (aa (aW (dv 0) af (fun _ _ => rfl)) ag))) af (aI _))))))), fun ds μ Qd h => nG h⟩)
theorem vm : aN ["_law_bag_here", "_law_some"] ["_law_bag_here"] (ay eB) := ⟨rfl, rfl, rfl, by decide +kernel, rfl, by decide +kernel, by decide +kernel⟩
theorem vk (T : TX e) (ar : bM e) : mW e := by
  have S := vm
  exact T.wd.okD S (fun ds μ Q h => wN h) (fun cdv A outer s H E hr => ⟨jP, (ai (bG (aU (dG hr.units) bA (aq ar (hr.mono (by decide)) rfl T.aD T.aC T.aE (aa (dv 0) (aa af ag))) af (aI _)) (av (aH (aW (cO (aa af (aa af (aa af ag)))) (aq ar (hr.mono (by decide)) rfl T.aD T.aC T.aE (aa (dv 0) (aa af ag))) (fun _ _ => rfl)))) aV)
    (ai (ui (i := 1) (N' := ["_law_d"]) (cap := [none]) S.nd rfl rfl rfl (DZ rfl T.pR (aa af (aa af ag))) (fun _ _ _ => (aK (i := 0) (show List.Nodup (["_law_d"] : List Str) by decide +kernel) rfl (Or.inl rfl))) (fun _ _ _ => (rJ (aU (zU hr.units) G3 (dv 0) (cO (aa af (aa af (aa af (aa af ag))))) (by with_unfolding_all rfl)))) (fun _ _ _ => (dv 0)) rfl (by decide +kernel) rfl (by decide +kernel) (by intro _ _ h; first | exact h | exact cl1 h | exact cl2 (by decide +kernel) h | exact cl3 (by decide +kernel) h | exact aY (aL rfl bK) _ _ h | exact aY (aL rfl (aL rfl bK)) _ _ h | exact aY (aL rfl (aL rfl (aL rfl bK))) _ _ h | cases h) (eQ rfl) rfl (fF trivial))
    (av (aH (aW (dv 1) (aq ar (hr.mono (by decide)) rfl T.aD T.aC T.aE (aa (dv 0) (aa af ag))) (fun _ _ => rfl)))))), fun ds μ Qd h => vz h⟩)
theorem xq : aN ["_law_bag_here", "_law_some"] ["_law_bag_here"] (ay fY) := ⟨rfl, rfl, rfl, by decide +kernel, rfl, by decide +kernel, by decide +kernel⟩
theorem vQ (T : TX e) (ar : bM e) : kF e := by
  have S := xq
  exact T.yu.okD S (fun ds μ Q h => Az h) (fun cdv A outer s H E hr => ⟨kW, (ai (bb (i := 1) S.nd rfl (Or.inl rfl) (cO (aa GP (aa df (aa df (aa bf (aa bf (aa (ky af) (aa af (aa af (aa (yn af af) (aa (ax ag) (aa (cO ag) (aa (cO (aa af ag)) (aa (ax (aa af (aa af ag))) (aa (ax (aa af (aa af (aa af ag)))) (aa (ax (aa af (aa af (aa af ag)))) (aa (ax (aa af (aa df (aa af ag)))) (aa (ax (aa af (aa af (aa (ky af) ag)))) (aa (cO (aa af (aa af (aa af ag)))) (aa (ax (aa af (aa af ag))) (aa bf ag))))))))))))))))))))))
    (av (aH (aW (dv 1) (aq ar (hr.mono (by decide)) rfl T.aD T.aC T.aE (aa (dv 0) (aa af ag))) (fun _ _ => rfl))))), fun ds μ Qd h => xw h⟩)
theorem uG : aN ["thing", "a", "b", "c"] ["thing"] (ay d5) := ⟨rfl, rfl, rfl, by decide +kernel, rfl, by decide +kernel, by decide +kernel⟩
theorem uA (T : TX e) (bJ : iP e) (fS : iG e) : mM e := by
  have S := uG
  exact T.wW.okD S (fun ds μ Q h => qO h) (fun cdv A outer s H E hr => ⟨jW, (ai (bG (DW.dt (cG (bC (bw (fw (kit_tuple _) rfl T.ak rfl T.eE PyProof.Rows.Boot.«tuple» (dv 0)))) (cW (aU (fQ hr.units) bA (dh rfl T.gA (aa (dv 0) ag)) af (aI _))))) (av (aH df)) aV)
    (ai (hU (dv 0) (fE (n := 3) rfl (aP (aK (i := 1) S.nd rfl (Or.inl rfl)) (aP (aK (i := 2) S.nd rfl (Or.inl rfl)) (aP (aK (i := 3) S.nd rfl (Or.inl rfl)) dE)))))
    (ai (bG (DW.dt (cG (bC (bw (aq bJ (hr.mono (by decide)) rfl T.fT T.fO T.gf (aa (dv 1) ag)))) (cG (bC (bw (aq bJ (hr.mono (by decide)) rfl T.fT T.fO T.gf (aa (dv 2) ag)))) (cW (bC (bw (aq bJ (hr.mono (by decide)) rfl T.fT T.fO T.gf (aa (dv 3) ag)))))))) (av (aH df)) aV)
    (av (aH (kr (cX Bu de (dv 3) af (aI _)) (nQ (cX (dG hr.units) bA (aq fS (hr.mono (by decide)) rfl T.nU T.oM T.oG (aa (dv 1) (aa (dv 2) (aa (dv 3) ag)))) af (aI _))))))))), fun ds μ Qd h => vA h⟩)
theorem tP : aN ["_law_bag_here", "_law_d", "_law_way", "_law_x", "_law_sign_here"] ["_law_bag_here", "_law_d", "_law_way"] (ay ez) := ⟨rfl, rfl, rfl, by decide +kernel, rfl, by decide +kernel, by decide +kernel⟩
theorem uM (T : TX e) (ar : bM e) (jQ : o4 e) (kN : mz e) (bj : dM e) : mx e := by
  have S := tP
  exact T.xl.okD S (fun ds μ Q h => xY h) (fun cdv A outer s H E hr => ⟨jC, (ai (bG (aU (dG hr.units) bA (dv 2) af (aI _)) (av (aH (ax (aa (dZ af (aq ar (hr.mono (by decide)) rfl T.aD T.aC T.aE (aa (dv 0) (aa af ag)))) (aa af (aa af ag)))))) aV)
    (ai (bG (aU (dG hr.units) bA (dv 2) af (aI _)) (av (aH (aq jQ (hr.mono (by decide)) rfl T.qT T.rR T.qw (aa (dZ af (aq ar (hr.mono (by decide)) rfl T.aD T.aC T.aE (aa (dv 0) (aa af ag)))) (aa af (aa (dZ af (aq ar (hr.mono (by decide)) rfl T.aD T.aC T.aE (aa (dv 0) (aa af ag)))) ag)))))) aV)
    (ai (bb (i := 3) S.nd rfl (Or.inl rfl) (aq jQ (hr.mono (by decide)) rfl T.qT T.rR T.qw (aa (fN (aq ar (hr.mono (by decide)) rfl T.aD T.aC T.aE (aa (dv 0) (aa af ag))) af) (aa (fN (aq ar (hr.mono (by decide)) rfl T.aD T.aC T.aE (aa (dv 0) (aa af ag))) af) (aa (dZ af (aq ar (hr.mono (by decide)) rfl T.aD T.aC T.aE (aa (dv 0) (aa af ag)))) ag)))))
    (ai (bb (i := 4) S.nd rfl (Or.inl rfl) (aq kN (hr.mono (by decide)) rfl T.xb T.wa T.vL (aa (dv 1) (aa (dv 3) ag))))
    (ai (bG (aU (dG hr.units) bA (dv 4) af (aI _)) (av (aH (ax (aa af (aa af (aa af ag)))))) aV)
    (av (aH (yP (aU iS de (dv 4) af (aI _)) (dv 3) (aq bj (hr.mono (by decide)) rfl T.gZ T.gU T.gW (aa (dv 3) ag)))))))))), fun ds μ Qd h => u9 h⟩)
theorem qJ : aN ["_law_thing", "_law_lines", "_law_ties", "_law_tie"] ["_law_thing"] (ay cN) := ⟨rfl, rfl, rfl, by decide +kernel, rfl, by decide +kernel, by decide +kernel⟩
theorem qo (T : TX e) (bI : fW e) (fG : iV e) : ib e := by
  have S := qJ
  exact T.sC.okD S (fun ds μ Q h => pd h) (fun cdv A outer s H E hr => ⟨iE, (ai (bG (DW.dt (cG (bC (bw (fw (kit_tuple _) rfl T.ak rfl T.eE PyProof.Rows.Boot.«tuple» (dv 0)))) (cG (aU (fQ hr.units) bA (dh rfl T.gA (aa (dv 0) ag)) af (aI _)) (cG (bC (bw (aq bI (hr.mono (by decide)) rfl T.gE T.gH T.gK (aa (aW (dv 0) af (fun _ _ => rfl)) ag)))) (cW (bC (wH tj de tj de af (aW (dv 0) af (fun _ _ => rfl)) af))))))) (av (aH df)) aV)
    (ai (hU (dv 0) (fE (n := 2) rfl (aP (aK (i := 1) S.nd rfl (Or.inl rfl)) (aP (aK (i := 2) S.nd rfl (Or.inl rfl)) dE))))
    (ai (bG (DW.dt (cG (bC (bw (fw (kit_tuple _) rfl T.ak rfl T.eE PyProof.Rows.Boot.«tuple» (dv 2)))) (cW (bC (wH tj de tj de af (dh rfl T.gA (aa (dv 2) ag)) af))))) (av (aH df)) aV)
    (ai (uE PassesOwn.never rfl (oh (dv 2)) (aK (i := 3) S.nd rfl (Or.inl rfl)) (ai (bG (DW.dt (cG (bC (bw (fw (kit_tuple _) rfl T.ak rfl T.eE PyProof.Rows.Boot.«tuple» (dv 3)))) (cG (aU (fQ hr.units) bA (dh rfl T.gA (aa (dv 3) ag)) af (aI _)) (cW (bC (bw (qg rfl rfl T.xF (aa (ml (N' := ["_law_one"]) (cap := [none]) rfl (oh (jv (dv 3) lA (lp af))) (fun _ _ _ => (aK (i := 0) (show List.Nodup (["_law_one"] : List Str) by decide +kernel) rfl (Or.inl rfl))) (fun _ _ _ => hW) (fun _ _ _ => (aq bI (hr.mono (by decide)) rfl T.gE T.gH T.gK (aa (dv 0) ag))) rfl (by decide +kernel) rfl (by decide +kernel) (by intro _ _ h; first | exact h | exact cl1 h | exact cl2 (by decide +kernel) h | exact cl3 (by decide +kernel) h | exact aY (aL rfl bK) _ _ h | exact aY (aL rfl (aL rfl bK)) _ _ h | exact aY (aL rfl (aL rfl (aL rfl bK))) _ _ h | cases h) (eQ rfl) rfl (fF trivial)) ag)))))))) (av (aH df)) aV)
    (av (bG (DW.dt (cG (bC (Au tj de j8 de j8 de af (aW (dv 3) af (fun _ _ => rfl)) (aW (dv 3) af (fun _ _ => rfl)) (dv 1))) (cG (bC (bw (aq fG (hr.mono (by decide)) rfl T.oX T.oI T.oH (aa (aW (dv 3) af (fun _ _ => rfl)) ag)))) (cW (aU (dG hr.units) bA (aW (dv 3) af (fun _ _ => rfl)) (ax (aa af (aa af (aa af ag)))) (aI _)))))) (av (aH df)) aV))))
    (av (aH df)))))), fun ds μ Qd h => qW h⟩)
theorem n5 : aN ["_law_bag_here", "_law_net", "_law_lines", "_law_ties", "_law_at", "_law_way", "_law_odd_here", "_law_i", "_law_j", "_law_shape", "_law_some"] ["_law_bag_here", "_law_net"] (ay bY) := ⟨rfl, rfl, rfl, by decide +kernel, rfl, by decide +kernel, by decide +kernel⟩
theorem nY (T : TX e) (ar : bM e) (fo : kF e) (bj : dM e) (ij : j5 e) : jl e := by
  have S := n5
  exact T.pF.okD S (fun ds μ Q h => sJ h) (fun cdv A outer s H E hr => ⟨gc, (ai (hU (dv 1) (fE (n := 2) rfl (aP (aK (i := 2) S.nd rfl (Or.inl rfl)) (aP (aK (i := 3) S.nd rfl (Or.inl rfl)) dE))))
    (ai (bb (i := 4) S.nd rfl (Or.inl rfl) (aq ar (hr.mono (by decide)) rfl T.aD T.aC T.aE (aa (dv 0) (aa (dh rfl T.gA (aa (dv 3) ag)) ag))))
    (ai (bb (i := 5) S.nd rfl (Or.inl rfl) (aq ar (hr.mono (by decide)) rfl T.aD T.aC T.aE (aa (dv 0) (aa af ag))))
    (ai (bb (i := 6) S.nd rfl (Or.inl rfl) (aq fo (hr.mono (by decide)) rfl T.qS T.qY T.rO (aa (dv 0) ag)))
    (ai (hU (aW (dv 3) (dv 4) (fun _ _ => rfl)) (fE (n := 3) rfl (aP (aK (i := 7) S.nd rfl (Or.inl rfl)) (aP (aK (i := 8) S.nd rfl (Or.inl rfl)) (aP (aK (i := 9) S.nd rfl (Or.inl rfl)) dE)))))
    (ai (bb (i := 10) S.nd rfl (Or.inl rfl) (cO (aa (ax (aa (dv 8) (aa (dv 7) (aa (dv 9) ag)))) (aa (ax (aa (dv 7) (aa (dv 7) (aa (dv 9) ag)))) (aa (ax (aa (dv 7) (aa (dv 2) (aa (dv 9) ag)))) (aa (ax (aa (ky af) (aa (dv 8) (aa (dv 9) ag)))) (aa (ax (aa (dv 7) (aa (dv 8) (aa (ax (aa af (aa af (aa af ag)))) ag)))) (aa (cO (aa (dv 7) (aa (dv 8) (aa (dv 9) ag)))) (aa (ax (aa (dv 7) (aa (dv 8) ag))) (aa (ax (aa (dv 7) (aa (dv 8) (aa (dv 6) ag)))) (aa (ax (aa (dv 6) (aa (dv 8) (aa (dv 9) ag)))) (aa (ax (aa (dv 7) (aa (dv 6) (aa (dv 9) ag)))) (aa (dv 6) (aa (ax (aa (dv 7) (aa (dv 8) (aa (dv 9) (aa (dv 9) ag))))) (aa (ax (aa (dv 7) (aa (dv 8) (aa (zB rfl T.yD (aa (dv 9) ag)) ag)))) (aa (ax (aa (dv 7) (aa (dv 8) (aa (ax (aa (fe (aW (dv 9) af (fun _ _ => rfl)) af) (aa (fe (aW (dv 9) af (fun _ _ => rfl)) af) (aa (fe (aW (dv 9) af (fun _ _ => rfl)) af) ag)))) ag)))) (aa (ax (aa (dv 7) (aa (dv 8) (aa (aq bj (hr.mono (by decide)) rfl T.gZ T.gU T.gW (aa (dv 9) ag)) ag)))) (aa (ax (aa af (aa (fN (dv 2) af) (aa (dv 9) ag)))) ag))))))))))))))))))
    (ai (bG (aU j8 de (dv 5) af (aI _)) (av (aH (ax (aa (dv 2) (aa (aq ij (hr.mono (by decide)) rfl T.qD T.rQ T.qf (aa (dv 3) (aa (dv 4) (aa (aW (dv 10) (aq ar (hr.mono (by decide)) rfl T.aD T.aC T.aE (aa (dv 0) (aa af ag))) (fun _ _ => rfl)) ag)))) ag))))) aV)
    (ai (bG (aU (dG hr.units) bA (dv 5) af (aI _)) (av (aH (ax (aa (aW (cO (aa (dv 6) (aa (fN (dv 2) af) (aa (jI (dv 2) af) (aa af (aa af (aa af (aa af ag)))))))) (aq ar (hr.mono (by decide)) rfl T.aD T.aC T.aE (aa (dv 0) (aa af ag))) (fun _ _ => rfl)) (aa (dv 3) ag))))) aV)
    (ai (bG (aU (dG hr.units) bA (dv 5) af (aI _)) (av (aH (ax (aa (dv 2) (aa (jv (Bg (dv 3) af) lA (lp (jI af (aq ar (hr.mono (by decide)) rfl T.aD T.aC T.aE (aa (dv 0) (aa af ag)))))) ag))))) aV)
    (ai (bG (aU (dG hr.units) bA (dv 5) af (aI _)) (av (aH (ax (aa (dv 2) (aa (jI (jv (dv 3) lA (lp (dv 4))) (jv (dv 3) (lp (jI (dv 4) af)) lA)) ag))))) aV)
    (av (aH (aW (cO (aa (cO (aa (dv 2) (aa (dv 3) ag))) (aa (ax (aa (dv 2) (aa (zB rfl T.yD (aa (dv 3) ag)) ag))) (aa (ax (aa (dv 2) ag)) (aa (ax (aa (dv 2) (aa (dv 3) (aa (ax ag) ag)))) (aa (dv 6) (aa (ax (aa (dv 2) (aa (dv 6) ag))) (aa (ax (aa (dv 2) (aa (ax ag) ag))) ag)))))))) (aq ar (hr.mono (by decide)) rfl T.aD T.aC T.aE (aa (dv 0) (aa af ag))) (fun _ _ => rfl)))))))))))))), fun ds μ Qd h => oi h⟩)
theorem Am : aN ["thing", "lines", "lower", "upper", "shape"] ["thing", "lines"] (ay jm) := ⟨rfl, rfl, rfl, by decide +kernel, rfl, by decide +kernel, by decide +kernel⟩
theorem Ar (T : TX e) (bJ : iP e) (kI : mM e) : tM e := by
  have S := Am
  exact T.BB.okD S (fun ds μ Q h => zQ h) (fun cdv A outer s H E hr => ⟨oo, (ai (bG (DW.dt (cG (bC (bw (fw (kit_tuple _) rfl T.ak rfl T.eE PyProof.Rows.Boot.«tuple» (dv 0)))) (cW (aU (fQ hr.units) bA (dh rfl T.gA (aa (dv 0) ag)) af (aI _))))) (av (aH df)) aV)
    (ai (hU (dv 0) (fE (n := 3) rfl (aP (aK (i := 2) S.nd rfl (Or.inl rfl)) (aP (aK (i := 3) S.nd rfl (Or.inl rfl)) (aP (aK (i := 4) S.nd rfl (Or.inl rfl)) dE)))))
    (ai (bG (DW.dt (cG (bC (bw (aq bJ (hr.mono (by decide)) rfl T.fT T.fO T.gf (aa (dv 2) ag)))) (cG (bC (bw (aq bJ (hr.mono (by decide)) rfl T.fT T.fO T.gf (aa (dv 3) ag)))) (cW (bC (bw (aq kI (hr.mono (by decide)) rfl T.xn T.w8 T.wJ (aa (dv 4) ag)))))))) (av (aH df)) aV)
    (av (aH (kr (cX tj de af (dv 2) (aI _)) (kr (cX j8 de (dv 2) (dv 3) (aI _)) (kr (cX j8 de (dv 3) (dv 1) (aI _)) (nQ (cX (fQ hr.units) bA (dv 4) (Bh rfl T.CK) (aI _))))))))))), fun ds μ Qd h => An h⟩)
theorem mn : aN ["_law_bag_here", "_law_d", "_law_x"] ["_law_bag_here", "_law_d"] (ay bT) := ⟨rfl, rfl, rfl, by decide +kernel, rfl, by decide +kernel, by decide +kernel⟩
theorem mw (T : TX e) (k7 : mx e) (ar : bM e) (bj : dM e) : iF e := by
  have S := mn
  exact T.oj.okD S (fun ds μ Q h => qX h) (fun cdv A outer s H E hr => ⟨eY, (ai (bb (i := 2) S.nd rfl (Or.inl rfl) (aq k7 (hr.mono (by decide)) rfl T.wR T.vO T.wM (aa (dv 0) (aa (dv 1) (aa (aq ar (hr.mono (by decide)) rfl T.aD T.aC T.aE (aa (dv 0) (aa af ag))) ag)))))
    (av (aH (yP (aU (dG hr.units) bA (aq ar (hr.mono (by decide)) rfl T.aD T.aC T.aE (aa (dv 0) (aa af ag))) af (aI _)) (aq bj (hr.mono (by decide)) rfl T.gZ T.gU T.gW (aa (dv 2) ag)) (dv 2))))), fun ds μ Qd h => nD h⟩)
theorem Av : aN ["thing", "lines", "ties"] ["thing"] (ay jt) := ⟨rfl, rfl, rfl, by decide +kernel, rfl, by decide +kernel, by decide +kernel⟩
theorem zV (T : TX e) (bJ : iP e) (qh : tM e) : jw e := by
  have S := Av
  exact T.CF.okD S (fun ds μ Q h => pd h) (fun cdv A outer s H E hr => ⟨nW, (ai (bG (DW.dt (cG (bC (bw (fw (kit_tuple _) rfl T.ak rfl T.eE PyProof.Rows.Boot.«tuple» (dv 0)))) (cW (aU (fQ hr.units) bA (dh rfl T.gA (aa (dv 0) ag)) af (aI _))))) (av (aH df)) aV)
    (ai (hU (dv 0) (fE (n := 2) rfl (aP (aK (i := 1) S.nd rfl (Or.inr rfl)) (aP (aK (i := 2) S.nd rfl (Or.inl rfl)) dE))))
    (ai (bG (DW.dt (cG (bC (bw (aq bJ (hr.mono (by decide)) rfl T.fT T.fO T.gf (aa (dv 1) ag)))) (cG (aU j8 de (dv 1) (lr (u := .int 2) rfl T.sH ⟨_, rfl⟩ (fun _ _ _ => Rp.int 2)) (aI _)) (cW (aU iS de (dv 1) (lr (u := .int 61) rfl T.vd ⟨_, rfl⟩ (fun _ _ _ => Rp.int 61)) (aI _)))))) (av (aH df)) aV)
    (ai (bG (DW.dt (cG (bC (bw (fw (kit_tuple _) rfl T.ak rfl T.eE PyProof.Rows.Boot.«tuple» (dv 2)))) (cG (aU j8 de (dh rfl T.gA (aa (dv 2) ag)) af (aI _)) (cW (aU iS de (dh rfl T.gA (aa (dv 2) ag)) (lr (u := .int 60) rfl T.vv ⟨_, rfl⟩ (fun _ _ _ => Rp.int 60)) (aI _)))))) (av (aH df)) aV)
    (av (aH (qg rfl rfl T.xF (aa (ml (N' := ["tie", "lines"]) (cap := [none, some 1]) rfl (oh (dv 2)) (fun _ _ _ => (aK (i := 0) (show List.Nodup (["tie", "lines"] : List Str) by decide +kernel) rfl (Or.inl rfl))) (fun _ _ _ => hW) (fun _ _ _ => (aq qh (hr.mono (by decide)) rfl T.B3 T.Cv T.BJ (aa (dv 0) (aa (dv 1) ag)))) rfl (by decide +kernel) rfl (by decide +kernel) (by intro _ _ h; first | exact h | exact cl1 h | exact cl2 (by decide +kernel) h | exact cl3 (by decide +kernel) h | exact aY (aL rfl bK) _ _ h | exact aY (aL rfl (aL rfl bK)) _ _ h | exact aY (aL rfl (aL rfl (aL rfl bK))) _ _ h | cases h) (eQ rfl) rfl (fF ⟨Dq, trivial⟩)) ag)))))))), fun ds μ Qd h => Ak h⟩)
theorem pC : aN ["_law_bag_here", "_law_d", "_law_lines", "_law_ties", "_law_found", "_law_k", "_law_i", "_law_j", "_law_shape"] ["_law_bag_here", "_law_d", "_law_lines", "_law_ties"] (ay cy) := ⟨rfl, rfl, rfl, by decide +kernel, rfl, by decide +kernel, by decide +kernel⟩
theorem pO (T : TX e) (ar : bM e) (fU : iF e) (bj : dM e) (jE : lM e) : ka e := by
  have S := pC
  exact T.rM.okD S (fun ds μ Q h => vB h) (fun cdv A outer s H E hr => ⟨gD, (ai (bb (i := 4) S.nd rfl (Or.inl rfl) (tO ag))
    (ai (uE PassesOwn.never rfl (vt rfl T.pR (aa (dv 3) ag)) (aK (i := 5) S.nd rfl (Or.inl rfl)) (ai (bb (i := 6) S.nd rfl (Or.inl rfl) (aq ar (hr.mono (by decide)) rfl T.aD T.aC T.aE (aa (dv 0) (aa (fN (dv 2) af) ag))))
    (ai (bb (i := 7) S.nd rfl (Or.inl rfl) (dZ (dZ (dv 6) af) (aq ar (hr.mono (by decide)) rfl T.aD T.aC T.aE (aa (dv 0) (aa (fN (fN (dv 2) af) (dv 6)) ag)))))
    (ai (bG (DW.dt (uW (aU j8 de (dv 5) (fN (dv 2) af) (aI _)) (pS (aU iS de (aq ar (hr.mono (by decide)) rfl T.aD T.aC T.aE (aa (dv 0) (aa af ag))) af (aI _))))) (av (qV (i := 6) (j := 7) rfl S.nd rfl rfl (by decide) rfl rfl (aa (dv 5) (aa (dZ (dv 5) af) ag)) rfl)) aV)
    (ai (bb (i := 8) S.nd rfl (Or.inl rfl) (aq fU (hr.mono (by decide)) rfl T.oA T.oE T.oq (aa (dv 0) (aa (dv 1) ag))))
    (ai (bG (DW.dt (uW (aU (fQ hr.units) Cj (dv 4) (cO ag) (aI _)) (pS (aU (dG hr.units) Cj (aq ar (hr.mono (by decide)) rfl T.aD T.aC T.aE (aa (dv 0) (aa af ag))) af (aI _))))) (av (Dp (i := 6) (j := 7) (l := 8) rfl S.nd rfl rfl rfl (by decide) (by decide) (by decide) rfl rfl rfl (aa (nS (nS (dv 4) (ky af) (fun _ _ => rfl)) af (fun _ _ => rfl)) (aa (nS (nS (dv 4) (ky af) (fun _ _ => rfl)) af (fun _ _ => rfl)) (aa (aq bj (hr.mono (by decide)) rfl T.gZ T.gU T.gW (aa (nS (nS (dv 4) (ky af) (fun _ _ => rfl)) af (fun _ _ => rfl)) ag)) ag))) rfl)) aV)
    (av (nj (oP (dv 4) (ax (aa (dv 6) (aa (dv 7) (aa (dv 8) ag)))))))))))))
    (av (aH (ax (aa (dv 2) (aa (qx rfl T.eE (aa (aq jE (hr.mono (by decide)) rfl T.uD T.uN T.tQ (aa (dv 0) (aa (dv 4) ag))) ag)) ag))))))), fun ds μ Qd h => pM h⟩)
theorem kY : aN ["thing"] ["thing"] (ay cL) := ⟨rfl, rfl, rfl, by decide +kernel, rfl, by decide +kernel, by decide +kernel⟩
theorem kb (T : TX e) (ck : jw e) : cQ e := by
  have S := kY
  exact T.lO.okX S (fun ds μ Xk h => o8 h) (fun cdv A outer s H E hr => ⟨cP, (i8 (EJ (bC (bw (aq ck (hr.mono (by decide)) rfl T.jn T.jd T.jo (aa (dv 0) ag)))) (i8 (wo pW rfl T.tR T.uf)) sM)), fun ds μ Xk h => ke h⟩)
theorem rF (T : TX e) (ck : jw e) : iB e := by
  have S := kY
  exact T.lO.okD S (fun ds μ Q h => sF h) (fun cdv A outer s H E hr => ⟨iq, (av (bG (bC (bw (aq ck (hr.mono (by decide)) rfl T.jn T.jd T.jo (aa (dv 0) ag)))) (av Ba) aV)), fun ds μ Qd h => qd h⟩)
theorem nN : aN ["_law_bag_here", "_law_d", "_law_lines", "_law_ties"] ["_law_bag_here", "_law_d"] (ay bP) := ⟨rfl, rfl, rfl, by decide +kernel, rfl, by decide +kernel, by decide +kernel⟩
theorem mB (T : TX e) (ar : bM e) (hZ : ka e) : iM e := by
  have S := nN
  exact T.oD.okD S (fun ds μ Q h => xD h) (fun cdv A outer s H E hr => ⟨eM, (ai (hU (aW (cO (aa (ax (aa (dZ af (aq ar (hr.mono (by decide)) rfl T.aD T.aC T.aE (aa (dv 0) (aa af ag)))) (aa (dZ af (aq ar (hr.mono (by decide)) rfl T.aD T.aC T.aE (aa (dv 0) (aa af ag)))) ag))) (aa (ax (aa (dZ af (aq ar (hr.mono (by decide)) rfl T.aD T.aC T.aE (aa (dv 0) (aa af ag)))) (aa (dZ af (aq ar (hr.mono (by decide)) rfl T.aD T.aC T.aE (aa (dv 0) (aa af ag)))) ag))) (aa (ax (aa af (aa af ag))) (aa (ax (aa af (aa af ag))) (aa (ax (aa af (aa af ag))) (aa (ax (aa af (aa af ag))) ag))))))) (nZ (fe (aq ar (hr.mono (by decide)) rfl T.aD T.aC T.aE (aa (dv 0) (aa af ag))) af) af) (fun _ _ => rfl)) (fE (n := 2) rfl (aP (aK (i := 2) S.nd rfl (Or.inl rfl)) (aP (aK (i := 3) S.nd rfl (Or.inl rfl)) dE))))
    (av (aH (aq hZ (hr.mono (by decide)) rfl T.rH T.qL T.rA (aa (dv 0) (aa (dv 1) (aa (dv 2) (aa (dv 3) ag)))))))), fun ds μ Qd h => nA h⟩)
theorem pq : aN ["net", "lines", "ties"] ["net"] (ay fJ) := ⟨rfl, rfl, rfl, by decide +kernel, rfl, by decide +kernel, by decide +kernel⟩
theorem lW (T : TX e) (bq : cQ e) : iu e := by
  have S := pq
  exact T.ql.okX S (fun ds μ Xk h => o8 h) (fun cdv A outer s H E hr => ⟨d0, (i8 (zD (mv bq (hr.mono (by decide)) rfl T.gp T.gr T.gk pW (aa (dv 0) ag)))), fun ds μ Xk h => mh h⟩)
theorem wU (T : TX e) (cJ : iB e) (x8 : yL e) : pj e := by
  have S := pq
  exact T.ql.okD S (fun ds μ Q h => rY h) (fun cdv A outer s H E hr => ⟨kR, (ai (nj (aq cJ (hr.mono (by decide)) rfl T.gp T.gr T.gk (aa (dv 0) ag)))
    (ai (hU (dv 0) (fE (n := 2) rfl (aP (aK (i := 1) S.nd rfl (Or.inl rfl)) (aP (aK (i := 2) S.nd rfl (Or.inl rfl)) dE))))
    (av (aH (ax (aa (dv 1) (aa (qx rfl T.eE (aa (ml (N' := ["lower", "upper", "shape"]) (cap := [none, none, none]) rfl (oh (dv 2)) (fun _ _ _ => (fE (n := 3) rfl (aP (aK (i := 0) (show List.Nodup (["lower", "upper", "shape"] : List Str) by decide +kernel) rfl (Or.inl rfl)) (aP (aK (i := 1) (show List.Nodup (["lower", "upper", "shape"] : List Str) by decide +kernel) rfl (Or.inl rfl)) (aP (aK (i := 2) (show List.Nodup (["lower", "upper", "shape"] : List Str) by decide +kernel) rfl (Or.inl rfl)) dE))))) (fun _ _ _ => hW) (fun _ _ _ => (ax (aa (dv 0) (aa (dv 1) (aa (aq x8 (hr.mono (by decide)) rfl T.FN T.GX T.Gx (aa (dv 2) ag)) ag))))) rfl (by decide +kernel) rfl (by decide +kernel) (by intro _ _ h; first | exact h | exact cl1 h | exact cl2 (by decide +kernel) h | exact cl3 (by decide +kernel) h | exact aY (aL rfl bK) _ _ h | exact aY (aL rfl (aL rfl bK)) _ _ h | exact aY (aL rfl (aL rfl (aL rfl bK))) _ _ h | cases h) (eQ rfl) rfl (fF trivial)) ag)) ag))))))), fun ds μ Qd h => xu h⟩)
theorem lN : aN ["d", "net", "through", "lines", "ties", "found", "heights", "streams"] ["d", "net", "through"] (ay dr) := ⟨rfl, rfl, rfl, by decide +kernel, rfl, by decide +kernel, by decide +kernel⟩
theorem kP (T : TX e) (bq : cQ e) : gy e := by
  have S := lN
  exact T.mY.okX S (fun ds μ Xk h => u5 h) (fun cdv A outer s H E hr => ⟨cY, (i8 (zD (mv bq (hr.mono (by decide)) rfl T.gp T.gr T.gk pW (aa (dv 1) ag)))), fun ds μ Xk h => kE h⟩)
theorem jA (T : TX e) (cJ : iB e) : ff e := by
  have S := lN
  exact T.mY.okX S (fun ds μ Xk h => sf h) (fun cdv A outer s H E hr => ⟨cH, (vH (nj (aq cJ (hr.mono (by decide)) rfl T.gp T.gr T.gk (aa (dv 1) ag)))
    (vH (hU (dv 1) (fE (n := 2) rfl (aP (aK (i := 3) S.nd rfl (Or.inl rfl)) (aP (aK (i := 4) S.nd rfl (Or.inl rfl)) dE))))
    (i8 (EJ (DW.dt (cG (aU iS de (dv 3) (lr (u := .int 13) rfl T.lD ⟨_, rfl⟩ (fun _ _ _ => Rp.int 13)) (aI _)) (cW (aU iS de (dh rfl T.gA (aa (dv 4) ag)) (lr (u := .int 12) rfl T.l5 ⟨_, rfl⟩ (fun _ _ _ => Rp.int 12)) (aI _))))) (i8 (wo pW rfl T.oY T.n8)) sM)))), fun ds μ Xk h => jZ h⟩)
theorem dS : aN ["_law_deed", "e", "_law_some", "_law_names"] ["_law_deed"] (ay cw) := ⟨rfl, rfl, rfl, by decide +kernel, rfl, by decide +kernel, by decide +kernel⟩
theorem Ad (T : TX e) : sX e := by
  have S := dS
  exact CH (k := 7) T.kZ dS rfl rfl rfl rfl T.nh T.vC (by decide) (by decide) (by decide) (fun _ => rfl) (fun cdv A outer s H ea oe hc hr => (ai (bb (i := 2) S.nd rfl (Or.inl rfl) (cO (aa (ax (aa bf (aa (bF (ea := ea) (oe := oe) T.cS (List.mem_cons_self) hc T.ic rfl T.ak rfl T.xf (dv 1)) ag))) (aa (ax (aa bf (aa (bF (ea := ea) (oe := oe) T.cS (List.mem_cons_self) hc T.fX rfl T.ak rfl T.rk (dv 1)) ag))) (aa (ax (aa bf (aa (bF (ea := ea) (oe := oe) T.cS (List.mem_cons_self) hc T.fR rfl T.ak rfl T.qI (dv 1)) ag))) (aa (ax (aa bf (aa (bF (ea := ea) (oe := oe) T.cS (List.mem_cons_self) hc T.iz rfl T.ak rfl T.vI (dv 1)) ag))) (aa (ax (aa bf (aa (bF (ea := ea) (oe := oe) T.cS (List.mem_cons_self) hc T.i3 rfl T.ak rfl T.zL (dv 1)) ag))) (aa (ax (aa bf (aa (bF (ea := ea) (oe := oe) T.cS (List.mem_cons_self) hc T.gP rfl T.ak rfl T.sY (dv 1)) ag))) (aa (ax (aa bf (aa (bF (ea := ea) (oe := oe) T.cS (List.mem_cons_self) hc T.ir rfl T.ak rfl T.xm (dv 1)) ag))) (aa (ax (aa bf (aa (bF (ea := ea) (oe := oe) T.cS (List.mem_cons_self) hc T.ig rfl T.ak rfl T.vK (dv 1)) ag))) (aa (ax (aa bf (aa (bF (ea := ea) (oe := oe) T.cS (List.mem_cons_self) hc T.i6 rfl T.ak rfl T.tR (dv 1)) ag))) (aa (ax (aa bf (aa (bF (ea := ea) (oe := oe) T.cS (List.mem_cons_self) hc T.iw rfl T.ak rfl T.xo (dv 1)) ag))) (aa (ax (aa bf (aa (bF (ea := ea) (oe := oe) T.cS (List.mem_cons_self) hc T.fq rfl T.ak rfl T.qr (dv 1)) ag))) (aa (ax (aa bf (aa (bF (ea := ea) (oe := oe) T.cS (List.mem_cons_self) hc T.iy rfl T.ak rfl T.vX (dv 1)) ag))) (aa (ax (aa bf (aa (bF (ea := ea) (oe := oe) T.cS (List.mem_cons_self) hc T.gL rfl T.ak rfl T.oY (dv 1)) ag))) ag)))))))))))))))
    (ai (ui (i := 3) (N' := ["_law_name", "_law_is_so"]) (cap := [none, none]) S.nd rfl rfl rfl (zA (dv 2)) (fun _ _ _ => (fE (n := 2) rfl (aP (aK (i := 0) (show List.Nodup (["_law_name", "_law_is_so"] : List Str) by decide +kernel) rfl (Or.inl rfl)) (aP (aK (i := 1) (show List.Nodup (["_law_name", "_law_is_so"] : List Str) by decide +kernel) rfl (Or.inl rfl)) dE)))) (fun _ _ _ => (rJ (bw (dv 1)))) (fun _ _ _ => (dv 0)) rfl (by decide +kernel) rfl (by decide +kernel) (by intro _ _ h; first | exact h | exact cl1 h | exact cl2 (by decide +kernel) h | exact cl3 (by decide +kernel) h | exact aY (aL rfl bK) _ _ h | exact aY (aL rfl (aL rfl bK)) _ _ h | exact aY (aL rfl (aL rfl (aL rfl bK))) _ _ h | cases h) (eQ rfl) rfl (fF trivial))
    (ai (bG (DW.dt (uW (aU (dG hr.units) bA (dh rfl T.gA (aa (dv 3) ag)) af (aI _)) (pS (bw (yE (ea := ea) (oe := oe) (T := "ValueError") T.cS (List.mem_cons_self) hc T.n6 rfl T.ak rfl T.mO PyProof.Rows.Boot.«ValueError» (dv 1)))))) (av (aH (aW (dv 3) af (fun _ _ => rfl)))) aV)
    (av (aH bf)))))) (fun ea fa μ Qd h => kc h)
theorem wk (T : TX e) : pf e := by
  have S := dS
  exact CH (k := 7) T.kZ dS rfl rfl rfl rfl T.nh T.nR (by decide) (by decide) (by decide) (fun _ => rfl) (fun cdv A outer s H ea oe hc hr => (ai (bb (i := 2) S.nd rfl (Or.inl rfl) (cO (aa (ax (aa bf (aa (bF (ea := ea) (oe := oe) T.bH (List.mem_cons_self) hc T.fK rfl T.ak rfl T.xf (dv 1)) ag))) (aa (ax (aa bf (aa (bF (ea := ea) (oe := oe) T.bH (List.mem_cons_self) hc T.dY rfl T.ak rfl T.rk (dv 1)) ag))) (aa (ax (aa bf (aa (bF (ea := ea) (oe := oe) T.bH (List.mem_cons_self) hc T.dW rfl T.ak rfl T.qI (dv 1)) ag))) (aa (ax (aa bf (aa (bF (ea := ea) (oe := oe) T.bH (List.mem_cons_self) hc T.fV rfl T.ak rfl T.vI (dv 1)) ag))) (aa (ax (aa bf (aa (bF (ea := ea) (oe := oe) T.bH (List.mem_cons_self) hc T.gI rfl T.ak rfl T.zL (dv 1)) ag))) (aa (ax (aa bf (aa (bF (ea := ea) (oe := oe) T.bH (List.mem_cons_self) hc T.eI rfl T.ak rfl T.sY (dv 1)) ag))) (aa (ax (aa bf (aa (bF (ea := ea) (oe := oe) T.bH (List.mem_cons_self) hc T.gg rfl T.ak rfl T.xm (dv 1)) ag))) (aa (ax (aa bf (aa (bF (ea := ea) (oe := oe) T.bH (List.mem_cons_self) hc T.fz rfl T.ak rfl T.vK (dv 1)) ag))) (aa (ax (aa bf (aa (bF (ea := ea) (oe := oe) T.bH (List.mem_cons_self) hc T.gG rfl T.ak rfl T.tR (dv 1)) ag))) (aa (ax (aa bf (aa (bF (ea := ea) (oe := oe) T.bH (List.mem_cons_self) hc T.fL rfl T.ak rfl T.xo (dv 1)) ag))) (aa (ax (aa bf (aa (bF (ea := ea) (oe := oe) T.bH (List.mem_cons_self) hc T.dX rfl T.ak rfl T.qr (dv 1)) ag))) (aa (ax (aa bf (aa (bF (ea := ea) (oe := oe) T.bH (List.mem_cons_self) hc T.fv rfl T.ak rfl T.vX (dv 1)) ag))) (aa (ax (aa bf (aa (bF (ea := ea) (oe := oe) T.bH (List.mem_cons_self) hc T.eS rfl T.ak rfl T.oY (dv 1)) ag))) ag)))))))))))))))
    (ai (ui (i := 3) (N' := ["_law_name", "_law_is_so"]) (cap := [none, none]) S.nd rfl rfl rfl (zA (dv 2)) (fun _ _ _ => (fE (n := 2) rfl (aP (aK (i := 0) (show List.Nodup (["_law_name", "_law_is_so"] : List Str) by decide +kernel) rfl (Or.inl rfl)) (aP (aK (i := 1) (show List.Nodup (["_law_name", "_law_is_so"] : List Str) by decide +kernel) rfl (Or.inl rfl)) dE)))) (fun _ _ _ => (rJ (bw (dv 1)))) (fun _ _ _ => (dv 0)) rfl (by decide +kernel) rfl (by decide +kernel) (by intro _ _ h; first | exact h | exact cl1 h | exact cl2 (by decide +kernel) h | exact cl3 (by decide +kernel) h | exact aY (aL rfl bK) _ _ h | exact aY (aL rfl (aL rfl bK)) _ _ h | exact aY (aL rfl (aL rfl (aL rfl bK))) _ _ h | cases h) (eQ rfl) rfl (fF trivial))
    (ai (bG (DW.dt (uW (aU (dG hr.units) bA (dh rfl T.gA (aa (dv 3) ag)) af (aI _)) (pS (bw (yE (ea := ea) (oe := oe) (T := "ValueError") T.bH (List.mem_cons_self) hc T.kq rfl T.ak rfl T.mO PyProof.Rows.Boot.«ValueError» (dv 1)))))) (av (aH (aW (dv 3) af (fun _ _ => rfl)))) aV)
    (av (aH bf)))))) (fun ea fa μ Qd h => ji h)
theorem pP : aN ["_law_d", "_law_thing", "_law_told", "_law_through", "_law_deeds", "_law_other", "_law_due"] ["_law_d", "_law_thing"] (ay cA) := ⟨rfl, rfl, rfl, by decide +kernel, rfl, by decide +kernel, by decide +kernel⟩
theorem pD (T : TX e) (ck : jw e) (cM : ib e) (mJ : sX e) (eN : iu e) (dH : gy e) (jO : pj e) (kO : mZ e) (lQ : pf e) (cR : ff e) : j7 e := by
  have S := pP
  exact T.rK.Jy S (fun ds μ Q h => uk h) (fun cdv hcv A outer s H E hr => ⟨gF _ _, (ai (bb (i := 2) S.nd rfl (Or.inl rfl) (aq ck (hr.mono (by decide)) rfl T.jn T.jd T.jo (aa (dv 1) ag)))
    (ai (bG (DW.dt (cG (bC (bw (fw (qc _) rfl T.ak rfl T.x6 PyProof.Rows.Boot.«bool» (dv 2)))) (cW (aU (fQ hr.units) bA (dv 2) (aq cM (hr.mono (by decide)) rfl T.lJ T.lK T.lH (aa (dv 1) ag)) (aI _))))) (av (aH df)) aV)
    (ai (bb (i := 3) S.nd rfl (Or.inr rfl) (ax (aa af (aa af (aa af ag)))))
    (ai (bG (bC (bw (dv 2))) (ai (bb (i := 4) S.nd rfl (Or.inl rfl) (En (aa (BI T.hV (hcv.symm.trans T.gC) rfl rfl rfl) (aa (BI T.hV (hcv.symm.trans T.gC) rfl rfl rfl) ag))))
    (av (aH (qg rfl rfl T.xF (aa (Ct (N' := ["_law_deed"]) (gx := ".") (cap := [none]) rfl (dv 4) (fun _ _ _ => (aK (i := 0) (show List.Nodup (["_law_deed", "."] : List Str) by decide +kernel) rfl (Or.inl rfl))) (fun fp s₃ H₃ pins σ ρo μ₁ G I3 S3 hfp hG => (cX (dG hr.units) bA (yt (gi := 1) (vi := 0) I3 hfp hG (tD (EA (N' := (["_law_thing"] : List Str)) (cap := [some 1]) mJ (fun A' outer' s' H' fa c1 E hrL => (tu (mv eN (hrL.mono (by decide)) rfl T.lS T.md T.mj vD (aa (dv 0) ag)))) (fun _ _ _ => rfl) rfl rfl rfl (by decide +kernel) (by intro _ _ h; first | exact aY (aL rfl bK) _ _ h | exact h | exact cl1 h | exact cl2 (by decide +kernel) h | exact cl3 (by decide +kernel) h | exact aY (aL rfl bK) _ _ h | exact aY (aL rfl (aL rfl bK)) _ _ h | exact aY (aL rfl (aL rfl (aL rfl bK))) _ _ h | exact aY (aL rfl (aL rfl (aL rfl (aL rfl bK)))) _ _ h | exact aY bK _ _ h | cases h) (eQ rfl) rfl (pY ⟨qk, trivial⟩)) (tD (EA (N' := (["_law_d", "_law_thing", "_law_through"] : List Str)) (cap := [some 0, some 1, some 3]) mJ (fun A' outer' s' H' fa c1 E hrL => (tu (mv dH (hrL.mono (by decide)) rfl T.nI T.mE T.nq vD (aa (dv 0) (aa (dv 1) (aa (dv 2) ag)))))) (fun _ _ _ => rfl) rfl rfl rfl (by decide +kernel) (by intro _ _ h; first | exact aY (aL rfl (aL rfl (aL rfl bK))) _ _ h | exact h | exact cl1 h | exact cl2 (by decide +kernel) h | exact cl3 (by decide +kernel) h | exact aY (aL rfl bK) _ _ h | exact aY (aL rfl (aL rfl bK)) _ _ h | exact aY (aL rfl (aL rfl (aL rfl bK))) _ _ h | exact aY (aL rfl (aL rfl (aL rfl (aL rfl bK)))) _ _ h | exact aY bK _ _ h | cases h) (eQ rfl) rfl (pY ⟨qk, ⟨qk, ⟨qk, trivial⟩⟩⟩)) Bb)) (hr.mono (by decide)) (by decide) rfl T.kA T.kH T.kg rfl (Or.inl rfl)) bf (aI _))) rfl (by decide +kernel) rfl (by decide +kernel) (by intro _ _ h; first | exact h | exact cl1 h | exact cl2 (by decide +kernel) h | exact cl3 (by decide +kernel) h | exact aY (aL rfl bK) _ _ h | exact aY (aL rfl (aL rfl bK)) _ _ h | exact aY (aL rfl (aL rfl (aL rfl bK))) _ _ h | exact aY (aL rfl (aL rfl (aL rfl (aL rfl bK)))) _ _ h | exact aY bK _ _ h | cases h) (eQ rfl) rfl (fF trivial) rfl) ag))))) aV)
    (ai (bb (i := 5) S.nd rfl (Or.inl rfl) (aq jO (hr.mono (by decide)) rfl T.lS T.md T.mj (aa (dv 1) ag)))
    (ai (bb (i := 6) S.nd rfl (Or.inl rfl) (ax (aa (aW (dv 1) af (fun _ _ => rfl)) (aa (qx rfl T.eE (aa (ml (N' := ["_law_i", "_law_j", "_law_shape"]) (cap := [none, none, none]) rfl (oh (aW (dv 1) af (fun _ _ => rfl))) (fun _ _ _ => (fE (n := 3) rfl (aP (aK (i := 0) (show List.Nodup (["_law_i", "_law_j", "_law_shape"] : List Str) by decide +kernel) rfl (Or.inl rfl)) (aP (aK (i := 1) (show List.Nodup (["_law_i", "_law_j", "_law_shape"] : List Str) by decide +kernel) rfl (Or.inl rfl)) (aP (aK (i := 2) (show List.Nodup (["_law_i", "_law_j", "_law_shape"] : List Str) by decide +kernel) rfl (Or.inl rfl)) dE))))) (fun _ _ _ => hW) (fun _ _ _ => (ax (aa (dv 0) (aa (dv 1) (aa (aq kO (hr.mono (by decide)) rfl T.vF T.wu T.wQ (aa (dv 2) ag)) ag))))) rfl (by decide +kernel) rfl (by decide +kernel) (by intro _ _ h; first | exact h | exact cl1 h | exact cl2 (by decide +kernel) h | exact cl3 (by decide +kernel) h | exact aY (aL rfl bK) _ _ h | exact aY (aL rfl (aL rfl bK)) _ _ h | exact aY (aL rfl (aL rfl (aL rfl bK))) _ _ h | cases h) (eQ rfl) rfl (fF trivial)) ag)) ag))))
    (ai (bG (DW.dt (cG (aU (fQ hr.units) bA (dv 5) (dv 6) (aI _)) (cW (aU (fQ hr.units) bA (aq jO (hr.mono (by decide)) rfl T.lS T.md T.mj (aa (dv 5) ag)) (dv 1) (aI _))))) (av (aH df)) aV)
    (ai (bG (DW.dt (cG (aU iS de (aW (dv 1) af (fun _ _ => rfl)) af (aI _)) (cW (aU iS de (dh rfl T.gA (aa (aW (dv 1) af (fun _ _ => rfl)) ag)) af (aI _))))) (av (aH (cX (dG hr.units) bA (zT (N' := (["_law_d", "_law_thing", "_law_through"] : List Str)) (cap := [some 0, some 1, some 3]) lQ (hr.mono (by decide)) rfl T.kA T.kH T.kg T.hV (hcv.symm.trans T.gC) rfl (by decide) (fun A' outer' s' H' fa c1 E hrL => (mv cR (hrL.mono (by decide)) rfl T.nI T.mE T.nq vD (aa (dv 0) (aa (dv 1) (aa (dv 2) ag))))) rfl rfl (fun _ _ _ => rfl) rfl rfl rfl (by decide +kernel) (by intro _ _ h; first | exact h | exact cl1 h | exact cl2 (by decide +kernel) h | exact cl3 (by decide +kernel) h | exact aY (aL rfl bK) _ _ h | exact aY (aL rfl (aL rfl bK)) _ _ h | exact aY (aL rfl (aL rfl (aL rfl bK))) _ _ h | exact aY (aL rfl (aL rfl (aL rfl (aL rfl bK)))) _ _ h | cases h) (eQ rfl) rfl (pY ⟨qk, ⟨qk, ⟨qk, trivial⟩⟩⟩)) bf (aI _)))) aV)
    (av (aH df)))))))))), fun ds μ Qd h => pJ _ _ h⟩)
theorem G4 : aN ["_law_script", "_law_k", "_law_bag_here", "_law_d", "_law_net", "_law_things", "_law_turn", "_law_thing"] ["_law_script"] (ay lI) := ⟨rfl, rfl, rfl, by decide +kernel, rfl, by decide +kernel, by decide +kernel⟩
theorem GL (T : TX e) (ma : o7 e) (kx : mW e) (fZ : iM e) (fo : kF e) (dQ : jl e) (cM : ib e) (iA : j7 e) (ck : jw e) : C1 e := by
  have S := G4
  exact T.Hw.okD S (fun ds μ Q h => zR h) (fun cdv A outer s H E hr => ⟨ym, (ai (uE PassesOwn.never rfl (vt rfl T.pR (aa (Gn rfl rfl T.Iu (aa af (aa (G9 rfl rfl T.IG (aa af (aa (dh rfl T.gA (aa (dv 0) ag)) ag))) ag))) ag)) (aK (i := 1) S.nd rfl (Or.inl rfl)) (ai (bb (i := 2) S.nd rfl (Or.inl rfl) (aq ma (hr.mono (by decide)) rfl T.xN T.xX T.xK (aa (dv 0) (aa (dv 1) ag))))
    (ai (bb (i := 3) S.nd rfl (Or.inr rfl) (aq kx (hr.mono (by decide)) rfl T.xG T.xi T.xA (aa (dv 2) ag)))
    (ai (bb (i := 4) S.nd rfl (Or.inl rfl) (aq fZ (hr.mono (by decide)) rfl T.ot T.oU T.oF (aa (dv 2) (aa (dv 3) ag))))
    (ai (bb (i := 5) S.nd rfl (Or.inl rfl) (tO (aa (dv 4) (aa (aq fo (hr.mono (by decide)) rfl T.qS T.qY T.rO (aa (dv 2) ag)) ag))))
    (ai (uE PassesOwn.never rfl (vt rfl T.pR (aa af ag)) (aK (i := 6) S.nd rfl (Or.inl rfl)) (ai (bb (i := 7) S.nd rfl (Or.inl rfl) (aq dQ (hr.mono (by decide)) rfl T.j9 T.j0 T.j4 (aa (dv 2) (aa (dv 4) ag))))
    (ai (nj (oP (dv 5) (dv 7)))
    (av (bG (bw (aq cM (hr.mono (by decide)) rfl T.lJ T.lK T.lH (aa (dv 7) ag))) (av (nj (oP (dv 5) (aq dQ (hr.mono (by decide)) rfl T.j9 T.j0 T.j4 (aa (dv 2) (aa (dv 7) ag)))))) aV)))))
    (av (bG (DW.dt (cG (bC (bw (qg rfl rfl T.xF (aa (Dc (N' := ["_law_thing", "_law_d"]) (cap := [none, some 3]) rfl (Jb (dv 5)) (fun _ _ _ => (aK (i := 0) (show List.Nodup (["_law_thing", "_law_d"] : List Str) by decide +kernel) rfl (Or.inl rfl))) (fun _ _ _ => hW) (fun _ _ _ => (aq iA (hr.mono (by decide)) rfl T.qy T.rB T.qP (aa (dv 1) (aa (dv 0) ag)))) rfl (by decide +kernel) rfl (by decide +kernel) (by intro _ _ h; first | exact h | exact cl1 h | exact cl2 (by decide +kernel) h | exact cl3 (by decide +kernel) h | exact aY (aL rfl bK) _ _ h | exact aY (aL rfl (aL rfl bK)) _ _ h | exact aY (aL rfl (aL rfl (aL rfl bK))) _ _ h | cases h) (eQ rfl) rfl (fF ⟨Dq, trivial⟩)) ag)))) (cW (aU Aw A7 (aq ck (hr.mono (by decide)) rfl T.jn T.jd T.jo (aa (dv 4) ag)) df (aI _))))) (av (aH df)) aV))))))))
    (av (aH (kr (cX B1 ER (aq ck (hr.mono (by decide)) rfl T.jn T.jd T.jo (aa (ax (aa af (aa (ax (aa (ax (aa af (aa af (aa (ax (aa af (aa af (aa af ag)))) ag)))) ag)) ag))) ag)) df (aI _)) (nQ (cX B1 ER (aq ck (hr.mono (by decide)) rfl T.jn T.jd T.jo (aa (ax (aa af (aa (ax (aa (ax (aa af (aa af (aa (ax (aa af (aa af (aa af ag)))) ag)))) ag)) ag))) ag)) df (aI _))))))), fun ds μ Qd h => He h⟩)
theorem Fy (T : TX e) : C1 e := by
  have bJ := wY T
  have dA := ny T
  have x8 := uK T
  have ar := uc T
  have bO := q9 T
  have kN := tX T
  have bj := sG T
  have bI := oQ T
  have kO := vq T
  have ma := vT T
  have ij := pI T
  have fS := nO T dA
  have jQ := wI T bO
  have jE := sr T ar
  have fG := mQ T bI bO
  have kx := vk T ar
  have fo := vQ T ar
  have kI := uA T bJ fS
  have k7 := uM T ar jQ kN bj
  have cM := qo T bI fG
  have dQ := nY T ar fo bj ij
  have qh := Ar T bJ kI
  have fU := mw T k7 ar bj
  have ck := zV T bJ qh
  have hZ := pO T ar fU bj jE
  have bq := kb T ck
  have cJ := rF T ck
  have fZ := mB T ar hZ
  have eN := lW T bq
  have jO := wU T cJ x8
  have dH := kP T bq
  have cR := jA T cJ
  have mJ := Ad T
  have lQ := wk T
  have iA := pD T ck cM mJ eN dH jO kO lQ cR
  exact GL T ma kx fZ fo dQ cM iA ck
end
theorem all_mk {l : PySem.W.OpenLaw} {w : World} {K : PySem.W.Frag} {h : Heap} {mg : Str → Option Value} {fa : Addr} (X : K.In h) (G : h.Ns mainGlobals mg) (hfa : mg "law" = some (.ref fa))
    {f0 c0 f1 c1 f2 c2 f3 c3 f4 c4 f5 c5 f6 c6 f7 c7 f8 c8 f9 c9 f10 c10 f11 c11 f12 c12 f13 c13 f14 c14 f15 c15 f16 c16 f17 c17 f18 c18 f19 c19 f20 c20 f21 c21 f22 c22 f23 c23 f24 c24 f25 c25 f26 c26 f27 c27 f28 c28 f29 c29 f30 c30 f31 c31 : Addr} {t0 t1 t2 t3 t4 t5 t6 t7 t8 t9 t10 t11 t12 t13 t14 t15 t16 t17 t18 t19 t20 t21 t22 t23 t24 t25 t26 t27 t28 t29 t30 t31 : Tok} {m0 m1 m2 m3 m4 m5 m6 m7 m8 m9 m10 m11 m12 m13 m14 m15 m16 m17 m18 m19 m20 m21 m22 m23 m24 m25 m26 m27 m28 m29 m30 m31 : Str} {q0 : Tok} {q1 : Tok} {q2 : Tok} {q3 : Tok} {q4 : Tok} {g5 : Addr} {go5 : Option Addr} {q5a q5b q5c : Tok} {gn5 : Nat} {gs5 : Array (Option Value)} {bN : Addr} {eo : Addr} {cD : Addr} {cF : Addr} {d6 : Addr} {gB : Addr} {dg : Addr} {eA : Addr} {ef : Addr} {aA : Addr} {ej : Addr} {cC : Addr} {eh : Addr} {au : Addr} {bm : Addr} {bsl : Array (Option Value)} {bX cV : Addr}
    (a0 : FQ K "is_whole" fB f0 c0 t0 m0)
    (a1 : FQ K "common_divisor" bR f1 c1 t1 m1)
    (a2 : FQ K "is_number" d5 f2 c2 t2 m2)
    (a3 : FQ K "divisor_of_all" bQ f3 c3 t3 m3)
    (a4 : FQ K "mate" nV f4 c4 t4 m4)
    (a5 : FQ K "is_net" jt f5 c5 t5 m5)
    (a6 : FQ K "is_tie" jm f6 c6 t6 m6)
    (a7 : FQ K "must_be_net" cL f7 c7 t7 m7)
    (a8 : FQ K "mate_net" fJ f8 c8 t8 m8)
    (a9 : FQ K "streams_of" dr f9 c9 t9 m9)
    (a10 : FQ K "_law_take" eg f10 c10 t10 m10)
    (a11 : FQ K "_law_any_net" cy f11 c11 t11 m11)
    (a12 : FQ K "_law_shape_any" bT f12 c12 t12 m12)
    (a13 : FQ K "_law_side" ez f13 c13 t13 m13)
    (a14 : FQ K "_law_low" fu f14 c14 t14 m14)
    (a15 : FQ K "_law_shared" cI f15 c15 t15 m15)
    (a16 : FQ K "_law_sign" d4 f16 c16 t16 m16)
    (a17 : FQ K "_law_minus" dz f17 c17 t17 m17)
    (a18 : FQ K "_law_mixed" du f18 c18 t18 m18)
    (a19 : FQ K "_law_is_net" cN f19 c19 t19 m19)
    (a20 : FQ K "_law_is_whole" bZ f20 c20 t20 m20)
    (a21 : FQ K "_law_is_number" bS f21 c21 t21 m21)
    (a22 : FQ K "_law_refusal" cw f22 c22 t22 m22)
    (a23 : FQ K "_law_mate" eu f23 c23 t23 m23)
    (a24 : FQ K "_law_bag" fM f24 c24 t24 m24)
    (a25 : FQ K "_law_root" eB f25 c25 t25 m25)
    (a26 : FQ K "_law_odd" fY f26 c26 t26 m26)
    (a27 : FQ K "_law_bent_net" bY f27 c27 t27 m27)
    (a28 : FQ K "_law_swapped" cz f28 c28 t28 m28)
    (a29 : FQ K "_law_sized_net" bP f29 c29 t29 m29)
    (a30 : FQ K "_law_is_told" cA f30 c30 t30 m30)
    (a31 : FQ K "law" lI f31 c31 t31 m31)
    (z0 : PySem.W.nsIn K mainGlobals "isinstance" = some none)
    (z1 : PySem.W.nsIn K mainGlobals "int" = some none)
    (z2 : PySem.W.nsIn K mainGlobals "bool" = some none)
    (z3 : PySem.W.nsIn K mainGlobals "abs" = some none)
    (z4 : PySem.W.nsIn K mainGlobals "tuple" = some none)
    (z5 : PySem.W.nsIn K mainGlobals "len" = some none)
    (z6 : PySem.W.nsIn K mainGlobals "all" = some none)
    (z7 : PySem.W.nsIn K mainGlobals "range" = some none)
    (z8 : PySem.W.nsIn K mainGlobals "list" = some none)
    (z9 : PySem.W.nsIn K mainGlobals "ValueError" = some none)
    (z10 : PySem.W.nsIn K mainGlobals "max" = some none)
    (z11 : PySem.W.nsIn K mainGlobals "min" = some none)
    (v0 : PySem.W.nsIn K mainGlobals "MOST_TILES" = some (some (.int 60 q0)))
    (v1 : PySem.W.nsIn K mainGlobals "LEAST_LINES" = some (some (.int 2 q1)))
    (v2 : PySem.W.nsIn K mainGlobals "MOST_LINES" = some (some (.int 61 q2)))
    (v3 : PySem.W.nsIn K mainGlobals "MOST_LINES_SOLVED" = some (some (.int 13 q3)))
    (v4 : PySem.W.nsIn K mainGlobals "MOST_TIES_SOLVED" = some (some (.int 12 q4)))
    (v5 : PySem.W.nsIn K mainGlobals "NOUGHT" = some (some (.ref g5))) (w5 : K.lookup g5 = some ⟨.type "tuple", go5, .seq #[.int 0 q5a, .int 0 q5b, .int 1 q5c] gn5, gs5⟩)
    (y0 : PySem.W.nsIn K mainGlobals "FloorError" = some (some (.ref bN)))
    (y1 : PySem.W.nsIn K mainGlobals "NoRoot" = some (some (.ref eo)))
    (y2 : PySem.W.nsIn K mainGlobals "NoNumber" = some (some (.ref cD)))
    (y3 : PySem.W.nsIn K mainGlobals "NoLaying" = some (some (.ref cF)))
    (y4 : PySem.W.nsIn K mainGlobals "NoTile" = some (some (.ref d6)))
    (y5 : PySem.W.nsIn K mainGlobals "NoFit" = some (some (.ref gB)))
    (y6 : PySem.W.nsIn K mainGlobals "NoKinds" = some (some (.ref dg)))
    (y7 : PySem.W.nsIn K mainGlobals "NoPlan" = some (some (.ref eA)))
    (y8 : PySem.W.nsIn K mainGlobals "NoSpot" = some (some (.ref ef)))
    (y9 : PySem.W.nsIn K mainGlobals "NoNet" = some (some (.ref aA)))
    (y10 : PySem.W.nsIn K mainGlobals "NoText" = some (some (.ref ej)))
    (y11 : PySem.W.nsIn K mainGlobals "NoSaying" = some (some (.ref cC)))
    (y12 : PySem.W.nsIn K mainGlobals "NoName" = some (some (.ref eh)))
    (y13 : PySem.W.nsIn K mainGlobals "TooMany" = some (some (.ref au)))
    (uf : PySem.W.excIn K (aA) bmV "ValueError.__new__" = true)
    (vC : PySem.W.exmOne K (.ref aA) (.ref bN) = some true)
    (z1_NoNet : PySem.W.findIn K (.ref aA) "__getattribute__" = some (some (.builtin "BaseException.__getattribute__")))
    (z2_NoNet : PySem.W.findIn K (.ref aA) "__getattr__" = some none)
    (z3_NoNet : PySem.W.findIn K (.ref aA) "__class__" = some (some (.builtin "object.__class__")))
    (z4_NoNet : PySem.W.mroIn K aA (.type "object") = some true)
    (z5_NoNet : PySem.W.mroIn K aA (.type "BaseException") = some true)
    (z6_NoNet : (PySem.W.clsIn K aA).isSome = true)
    (ic : PySem.W.kitOne K (.ref aA) (.ref eo) = some false)
    (fX : PySem.W.kitOne K (.ref aA) (.ref cD) = some false)
    (fR : PySem.W.kitOne K (.ref aA) (.ref cF) = some false)
    (iz : PySem.W.kitOne K (.ref aA) (.ref d6) = some false)
    (i3 : PySem.W.kitOne K (.ref aA) (.ref gB) = some false)
    (gP : PySem.W.kitOne K (.ref aA) (.ref dg) = some false)
    (ir : PySem.W.kitOne K (.ref aA) (.ref eA) = some false)
    (ig : PySem.W.kitOne K (.ref aA) (.ref ef) = some false)
    (i6 : PySem.W.kitOne K (.ref aA) (.ref aA) = some true)
    (iw : PySem.W.kitOne K (.ref aA) (.ref ej) = some false)
    (fq : PySem.W.kitOne K (.ref aA) (.ref cC) = some false)
    (iy : PySem.W.kitOne K (.ref aA) (.ref eh) = some false)
    (gL : PySem.W.kitOne K (.ref aA) (.ref au) = some false)
    (n6 : PySem.W.kitOne K (.ref aA) (.type "ValueError") = some true)
    (n8 : PySem.W.excIn K (au) bmV "ValueError.__new__" = true)
    (nR : PySem.W.exmOne K (.ref au) (.ref bN) = some true)
    (z1_TooMany : PySem.W.findIn K (.ref au) "__getattribute__" = some (some (.builtin "BaseException.__getattribute__")))
    (z2_TooMany : PySem.W.findIn K (.ref au) "__getattr__" = some none)
    (z3_TooMany : PySem.W.findIn K (.ref au) "__class__" = some (some (.builtin "object.__class__")))
    (z4_TooMany : PySem.W.mroIn K au (.type "object") = some true)
    (z5_TooMany : PySem.W.mroIn K au (.type "BaseException") = some true)
    (z6_TooMany : (PySem.W.clsIn K au).isSome = true)
    (fK : PySem.W.kitOne K (.ref au) (.ref eo) = some false)
    (dY : PySem.W.kitOne K (.ref au) (.ref cD) = some false)
    (dW : PySem.W.kitOne K (.ref au) (.ref cF) = some false)
    (fV : PySem.W.kitOne K (.ref au) (.ref d6) = some false)
    (gI : PySem.W.kitOne K (.ref au) (.ref gB) = some false)
    (eI : PySem.W.kitOne K (.ref au) (.ref dg) = some false)
    (gg : PySem.W.kitOne K (.ref au) (.ref eA) = some false)
    (fz : PySem.W.kitOne K (.ref au) (.ref ef) = some false)
    (gG : PySem.W.kitOne K (.ref au) (.ref aA) = some false)
    (fL : PySem.W.kitOne K (.ref au) (.ref ej) = some false)
    (dX : PySem.W.kitOne K (.ref au) (.ref cC) = some false)
    (fv : PySem.W.kitOne K (.ref au) (.ref eh) = some false)
    (eS : PySem.W.kitOne K (.ref au) (.ref au) = some true)
    (kq : PySem.W.kitOne K (.ref au) (.type "ValueError") = some true)
    (bb1 : PySem.W.nsIn K mainGlobals "__builtins__" = some (some (.ref bm))) (bb2 : bm ≠ builtinsNs) (bb3 : K.lookup bm = some ⟨.type "module", some builtinsNs, .plain, bsl⟩)
    (lo__law_is_told : (K.lookup bX).bind bc = some (cV, ("_law_is_told" : Str))) (l1__law_is_told : ∀ c2 o2 q2, K.lookup c2 = some o2 → bc o2 = some (cV, q2) → q2 = "_law_is_told") (lc__law_is_told : c30 = bX) :
    ∃ fd : FuncData, (∀ (s : Shared) (v : Value), BindsTo s fd ⟨[v], []⟩ [("_law_script", v)]) ∧ ∀ base : Heap, K.In base → base.Ns mainGlobals mg → bU l.prog w K mg base CX0 11 fa fd ["_law_script"] (spD K qi) := by
  have e := hfa.symm.trans (PySem.W.mg_of X G a31.1)
  cases e
  have F0 := bg (st := fB) a0.2.1 a0.2.2.1 a0.2.2.2
  have b0 := F0.binds (ps := ["thing"]) fun _ _ _ _ _ _ us hl => match us, hl with | [_], _ => rfl
  have F1 := bg (st := bR) a1.2.1 a1.2.2.1 a1.2.2.2
  have b1 := F1.binds (ps := ["a", "b"]) fun _ _ _ _ _ _ us hl => match us, hl with | [_, _], _ => rfl
  have F2 := bg (st := d5) a2.2.1 a2.2.2.1 a2.2.2.2
  have b2 := F2.binds (ps := ["thing"]) fun _ _ _ _ _ _ us hl => match us, hl with | [_], _ => rfl
  have F3 := bg (st := bQ) a3.2.1 a3.2.2.1 a3.2.2.2
  have b3 := F3.binds (ps := ["a", "b", "c"]) fun _ _ _ _ _ _ us hl => match us, hl with | [_, _, _], _ => rfl
  have F4 := bg (st := nV) a4.2.1 a4.2.2.1 a4.2.2.2
  have b4 := F4.binds (ps := ["x"]) fun _ _ _ _ _ _ us hl => match us, hl with | [_], _ => rfl
  have F5 := bg (st := jt) a5.2.1 a5.2.2.1 a5.2.2.2
  have b5 := F5.binds (ps := ["thing"]) fun _ _ _ _ _ _ us hl => match us, hl with | [_], _ => rfl
  have F6 := bg (st := jm) a6.2.1 a6.2.2.1 a6.2.2.2
  have b6 := F6.binds (ps := ["thing", "lines"]) fun _ _ _ _ _ _ us hl => match us, hl with | [_, _], _ => rfl
  have F7 := bg (st := cL) a7.2.1 a7.2.2.1 a7.2.2.2
  have b7 := F7.binds (ps := ["thing"]) fun _ _ _ _ _ _ us hl => match us, hl with | [_], _ => rfl
  have F8 := bg (st := fJ) a8.2.1 a8.2.2.1 a8.2.2.2
  have b8 := F8.binds (ps := ["net"]) fun _ _ _ _ _ _ us hl => match us, hl with | [_], _ => rfl
  have F9 := bg (st := dr) a9.2.1 a9.2.2.1 a9.2.2.2
  have b9 := F9.binds (ps := ["d", "net", "through"]) fun _ _ _ _ _ _ us hl => match us, hl with | [_, _, _], _ => rfl
  have F10 := bg (st := eg) a10.2.1 a10.2.2.1 a10.2.2.2
  have b10 := F10.binds (ps := ["_law_bag_here", "_law_many"]) fun _ _ _ _ _ _ us hl => match us, hl with | [_, _], _ => rfl
  have F11 := bg (st := cy) a11.2.1 a11.2.2.1 a11.2.2.2
  have b11 := F11.binds (ps := ["_law_bag_here", "_law_d", "_law_lines", "_law_ties"]) fun _ _ _ _ _ _ us hl => match us, hl with | [_, _, _, _], _ => rfl
  have F12 := bg (st := bT) a12.2.1 a12.2.2.1 a12.2.2.2
  have b12 := F12.binds (ps := ["_law_bag_here", "_law_d"]) fun _ _ _ _ _ _ us hl => match us, hl with | [_, _], _ => rfl
  have F13 := bg (st := ez) a13.2.1 a13.2.2.1 a13.2.2.2
  have b13 := F13.binds (ps := ["_law_bag_here", "_law_d", "_law_way"]) fun _ _ _ _ _ _ us hl => match us, hl with | [_, _, _], _ => rfl
  have F14 := bg (st := fu) a14.2.1 a14.2.2.1 a14.2.2.2
  have b14 := F14.binds (ps := ["_law_a", "_law_b", "_law_c"]) fun _ _ _ _ _ _ us hl => match us, hl with | [_, _, _], _ => rfl
  have F15 := bg (st := cI) a15.2.1 a15.2.2.1 a15.2.2.2
  have b15 := F15.binds (ps := ["_law_one", "_law_other"]) fun _ _ _ _ _ _ us hl => match us, hl with | [_, _], _ => rfl
  have F16 := bg (st := d4) a16.2.1 a16.2.2.1 a16.2.2.2
  have b16 := F16.binds (ps := ["_law_d", "_law_x"]) fun _ _ _ _ _ _ us hl => match us, hl with | [_, _], _ => rfl
  have F17 := bg (st := dz) a17.2.1 a17.2.2.1 a17.2.2.2
  have b17 := F17.binds (ps := ["_law_x"]) fun _ _ _ _ _ _ us hl => match us, hl with | [_], _ => rfl
  have F18 := bg (st := du) a18.2.1 a18.2.2.1 a18.2.2.2
  have b18 := F18.binds (ps := ["_law_bag_here", "_law_row"]) fun _ _ _ _ _ _ us hl => match us, hl with | [_, _], _ => rfl
  have F19 := bg (st := cN) a19.2.1 a19.2.2.1 a19.2.2.2
  have b19 := F19.binds (ps := ["_law_thing"]) fun _ _ _ _ _ _ us hl => match us, hl with | [_], _ => rfl
  have F20 := bg (st := bZ) a20.2.1 a20.2.2.1 a20.2.2.2
  have b20 := F20.binds (ps := ["_law_thing"]) fun _ _ _ _ _ _ us hl => match us, hl with | [_], _ => rfl
  have F21 := bg (st := bS) a21.2.1 a21.2.2.1 a21.2.2.2
  have b21 := F21.binds (ps := ["_law_thing"]) fun _ _ _ _ _ _ us hl => match us, hl with | [_], _ => rfl
  have F22 := bg (st := cw) a22.2.1 a22.2.2.1 a22.2.2.2
  have b22 := F22.binds (ps := ["_law_deed"]) fun _ _ _ _ _ _ us hl => match us, hl with | [_], _ => rfl
  have F23 := bg (st := eu) a23.2.1 a23.2.2.1 a23.2.2.2
  have b23 := F23.binds (ps := ["_law_x"]) fun _ _ _ _ _ _ us hl => match us, hl with | [_], _ => rfl
  have F24 := bg (st := fM) a24.2.1 a24.2.2.1 a24.2.2.2
  have b24 := F24.binds (ps := ["_law_script", "_law_at"]) fun _ _ _ _ _ _ us hl => match us, hl with | [_, _], _ => rfl
  have F25 := bg (st := eB) a25.2.1 a25.2.2.1 a25.2.2.2
  have b25 := F25.binds (ps := ["_law_bag_here"]) fun _ _ _ _ _ _ us hl => match us, hl with | [_], _ => rfl
  have F26 := bg (st := fY) a26.2.1 a26.2.2.1 a26.2.2.2
  have b26 := F26.binds (ps := ["_law_bag_here"]) fun _ _ _ _ _ _ us hl => match us, hl with | [_], _ => rfl
  have F27 := bg (st := bY) a27.2.1 a27.2.2.1 a27.2.2.2
  have b27 := F27.binds (ps := ["_law_bag_here", "_law_net"]) fun _ _ _ _ _ _ us hl => match us, hl with | [_, _], _ => rfl
  have F28 := bg (st := cz) a28.2.1 a28.2.2.1 a28.2.2.2
  have b28 := F28.binds (ps := ["_law_row", "_law_at", "_law_thing"]) fun _ _ _ _ _ _ us hl => match us, hl with | [_, _, _], _ => rfl
  have F29 := bg (st := bP) a29.2.1 a29.2.2.1 a29.2.2.2
  have b29 := F29.binds (ps := ["_law_bag_here", "_law_d"]) fun _ _ _ _ _ _ us hl => match us, hl with | [_, _], _ => rfl
  have F30 := bg (st := cA) a30.2.1 a30.2.2.1 a30.2.2.2
  have b30 := F30.binds (ps := ["_law_d", "_law_thing"]) fun _ _ _ _ _ _ us hl => match us, hl with | [_, _], _ => rfl
  have F31 := bg (st := lI) a31.2.1 a31.2.2.1 a31.2.2.2
  have b31 := F31.binds (ps := ["_law_script"]) fun _ _ _ _ _ _ us hl => match us, hl with | [_], _ => rfl
  have T : Txt K mg ⟨f0, fd "is_whole" fB t0 m0 c0, f1, fd "common_divisor" bR t1 m1 c1, f2, fd "is_number" d5 t2 m2 c2, f3, fd "divisor_of_all" bQ t3 m3 c3, f4, fd "mate" nV t4 m4 c4, f5, fd "is_net" jt t5 m5 c5, f6, fd "is_tie" jm t6 m6 c6, f7, fd "must_be_net" cL t7 m7 c7, f8, fd "mate_net" fJ t8 m8 c8, f9, fd "streams_of" dr t9 m9 c9, f10, fd "_law_take" eg t10 m10 c10, f11, fd "_law_any_net" cy t11 m11 c11, f12, fd "_law_shape_any" bT t12 m12 c12, f13, fd "_law_side" ez t13 m13 c13, f14, fd "_law_low" fu t14 m14 c14, f15, fd "_law_shared" cI t15 m15 c15, f16, fd "_law_sign" d4 t16 m16 c16, f17, fd "_law_minus" dz t17 m17 c17, f18, fd "_law_mixed" du t18 m18 c18, f19, fd "_law_is_net" cN t19 m19 c19, f20, fd "_law_is_whole" bZ t20 m20 c20, f21, fd "_law_is_number" bS t21 m21 c21, f22, fd "_law_refusal" cw t22 m22 c22, f23, fd "_law_mate" eu t23 m23 c23, f24, fd "_law_bag" fM t24 m24 c24, f25, fd "_law_root" eB t25 m25 c25, f26, fd "_law_odd" fY t26 m26 c26, f27, fd "_law_bent_net" bY t27 m27 c27, f28, fd "_law_swapped" cz t28 m28 c28, f29, fd "_law_sized_net" bP t29 m29 c29, f30, fd "_law_is_told" cA t30 m30 c30, fa, fd "law" lI t31 m31 c31, q0, q1, q2, q3, q4, g5, bN, eo, cD, cF, d6, gB, dg, eA, ef, aA, ej, cC, eh, au, bX, cV⟩ := ⟨F0, PySem.W.mg_of X G a0.1, a0.2.2.2, b0, F1, PySem.W.mg_of X G a1.1, a1.2.2.2, b1, F2, PySem.W.mg_of X G a2.1, a2.2.2.2, b2, F3, PySem.W.mg_of X G a3.1, a3.2.2.2, b3, F4, PySem.W.mg_of X G a4.1, a4.2.2.2, b4, F5, PySem.W.mg_of X G a5.1, a5.2.2.2, b5, F6, PySem.W.mg_of X G a6.1, a6.2.2.2, b6, F7, PySem.W.mg_of X G a7.1, a7.2.2.2, b7, F8, PySem.W.mg_of X G a8.1, a8.2.2.2, b8, F9, PySem.W.mg_of X G a9.1, a9.2.2.2, b9, F10, PySem.W.mg_of X G a10.1, a10.2.2.2, b10, F11, PySem.W.mg_of X G a11.1, a11.2.2.2, b11, F12, PySem.W.mg_of X G a12.1, a12.2.2.2, b12, F13, PySem.W.mg_of X G a13.1, a13.2.2.2, b13, F14, PySem.W.mg_of X G a14.1, a14.2.2.2, b14, F15, PySem.W.mg_of X G a15.1, a15.2.2.2, b15, F16, PySem.W.mg_of X G a16.1, a16.2.2.2, b16, F17, PySem.W.mg_of X G a17.1, a17.2.2.2, b17, F18, PySem.W.mg_of X G a18.1, a18.2.2.2, b18, F19, PySem.W.mg_of X G a19.1, a19.2.2.2, b19, F20, PySem.W.mg_of X G a20.1, a20.2.2.2, b20, F21, PySem.W.mg_of X G a21.1, a21.2.2.2, b21, F22, PySem.W.mg_of X G a22.1, a22.2.2.2, b22, F23, PySem.W.mg_of X G a23.1, a23.2.2.2, b23, F24, PySem.W.mg_of X G a24.1, a24.2.2.2, b24, F25, PySem.W.mg_of X G a25.1, a25.2.2.2, b25, F26, PySem.W.mg_of X G a26.1, a26.2.2.2, b26, F27, PySem.W.mg_of X G a27.1, a27.2.2.2, b27, F28, PySem.W.mg_of X G a28.1, a28.2.2.2, b28, F29, PySem.W.mg_of X G a29.1, a29.2.2.2, b29, F30, PySem.W.mg_of X G a30.1, a30.2.2.2, b30, F31, PySem.W.mg_of X G a31.1, a31.2.2.2, b31, PySem.W.mg_none_of X G z0, PySem.W.mg_none_of X G z1, PySem.W.mg_none_of X G z2, PySem.W.mg_none_of X G z3, PySem.W.mg_none_of X G z4, PySem.W.mg_none_of X G z5, PySem.W.mg_none_of X G z6, PySem.W.mg_none_of X G z7, PySem.W.mg_none_of X G z8, PySem.W.mg_none_of X G z9, PySem.W.mg_none_of X G z10, PySem.W.mg_none_of X G z11, PySem.W.mg_of X G v0, PySem.W.mg_of X G v1, PySem.W.mg_of X G v2, PySem.W.mg_of X G v3, PySem.W.mg_of X G v4, ⟨PySem.W.mg_of X G v5, ⟨_, _, _, _, _, _, w5⟩⟩, PySem.W.mg_of X G y0, PySem.W.mg_of X G y1, PySem.W.mg_of X G y2, PySem.W.mg_of X G y3, PySem.W.mg_of X G y4, PySem.W.mg_of X G y5, PySem.W.mg_of X G y6, PySem.W.mg_of X G y7, PySem.W.mg_of X G y8, PySem.W.mg_of X G y9, PySem.W.mg_of X G y10, PySem.W.mg_of X G y11, PySem.W.mg_of X G y12, PySem.W.mg_of X G y13, uf, vC, ic, fX, fR, iz, i3, gP, ir, ig, i6, iw, fq, iy, gL, n6, n8, nR, fK, dY, dW, fV, gI, eI, gg, fz, gG, fL, dX, fv, eS, kq, ⟨z1_NoNet, z2_NoNet, z3_NoNet, z4_NoNet, z5_NoNet, z6_NoNet⟩, ⟨z1_TooMany, z2_TooMany, z3_TooMany, z4_TooMany, z5_TooMany, z6_TooMany⟩, ⟨uC lo__law_is_told, l1__law_is_told, FU (PySem.W.mg_of X G bb1) bb2 bb3⟩, congrArg Value.ref lc__law_is_told⟩
  exact ⟨_, fun s v => .of_eq rfl, fun base _ _ => Fy (e := ⟨l.prog, w, K, mg, base, _⟩) T⟩
theorem walk {l : PySem.W.OpenLaw} {q : Program} {loose : List Str} {XP : (Str → Option Value) → Heap → Prop} {YP : World → Heap → Prop} {d : DefRec} {K : Params → PySem.W.Frag} (tabs : List Addr) (hn : l.most = some 63) (hdf : d.params.defaults = [])
    (hY : ∀ (w : World) (h : Heap), YP w h → (K w.params).In h ∧ (∀ p ∈ tabs, h.get? p = some (PySem.W.tabObj #[]) ∧ (K w.params).lookup p = none) ∧ (∀ p ∈ tabs, isCodeTable h p))
    (hA2 : ∀ (w : World) c o p q, (K w.params).lookup c = some o → bc o = some (p, q) → p ∈ tabs)
    (F : ∀ (w : World) (mg : Str → Option Value) (fa : Addr) (h : Heap), (K w.params).In h → h.Ns mainGlobals mg → mg d.name = some (.ref fa) →
      ∃ fd : FuncData, (∀ (s : Shared) (u : Value), BindsTo s fd ⟨[u], []⟩ [("_law_script", u)]) ∧ ∀ base : Heap, (K w.params).In base → base.Ns mainGlobals mg → bU l.prog w (K w.params) mg base CX0 11 fa fd ["_law_script"] (spD (K w.params) qi)) :
    PySem.W.WalkO q loose XP YP l.row.toRowW d [] (fun f vs => PySem.call f vs) :=
  L2.A0 (n := 63) (k := 11) (x := "_law_script") (CX := fun _ => CX0) (sp := fun w => spD (K w.params) qi) tabs hn (by decide) hdf ⟨rfl, by decide, by decide⟩ hY hA2 F (fun w H a ns hl hT hS => Ac hl hT hS) fun _ _ _ _ _ z => z
end K30
open PySem PySem.W PyProof.Rows L2.DL in
set_option maxRecDepth 100000 in
set_option maxHeartbeats 0 in
theorem PySem.Challenge.cw_matefloors_k30_what_is_a_net_holds : PySem.Challenge.rw_matefloors_k30_what_is_a_net.Holds :=
  holds_law K30.H.ws fun said => holds_open (XP := XL K30.H.V []) (YP := K30.H.HK.says) (d := K30.H.D) (kwd := []) K30.H.left K30.H.HK.of K30.H.HK.keeps (fun s e => xl_of s (Bool.and_eq_true_iff.mp e).1) XL.keeps (by kernel_rfl) (by kernel_rfl) (by kernel_rfl)
    (fun s e => recFacts_of (Bool.and_eq_true_iff.mp e).2) (by kernel_rfl) said (by kernel_rfl) ⟨by kernel_rfl, by kernel_rfl, by kernel_rfl, by kernel_rfl, by kernel_rfl, by kernel_rfl⟩ ⟨[.list []], by kernel_rfl, by kernel_rfl⟩
    (K30.walk (l := PySem.Challenge.rw_matefloors_k30_what_is_a_net) (K := K30.H.K) K30.H.tabs (by kernel_rfl) (by kernel_rfl) (fun w h Y => by
      have Y : (K30.H.KF w.params).In h := Y
      refine ⟨vh Y, fun p hp => ?_, fun p hp => ?_⟩
      · rcases List.mem_cons.mp hp with rfl | hp
        · exact ⟨Y _ _ (K30.H.jb w.params).1, (K30.H.jb w.params).2⟩
        rcases List.mem_cons.mp hp with rfl | hp
        · exact ⟨Y _ _ (K30.H.zm w.params).1, (K30.H.zm w.params).2⟩
        exact nomatch hp
      · rcases List.mem_cons.mp hp with rfl | hp
        · obtain ⟨o, e1, e2⟩ := uC (K30.H.iH w.params); exact tF (vh Y) e1 e2
        rcases List.mem_cons.mp hp with rfl | hp
        · obtain ⟨o, e1, e2⟩ := uC (K30.H.Bs w.params); exact tF (vh Y) e1 e2
        exact nomatch hp) (fun w c o p q e e2 => by
      have h := zw (K30.H.Bl w.params) e e2
      have h2 := List.mem_map_of_mem (f := fun x : Addr × Str => x.1) h
      exact h2) fun w mg fa h KX G hmg => by
      obtain ⟨h0, h1, h2, h3, h4, h5, h6, h7, h8, h9, h10, h11, h12, h13, h14, h15, h16, h17, h18, h19, h20, h21, h22, h23, h24, h25, h26, h27, h28, h29, h30, h31, h32, h33, h34, h35, h36, h37, h38, h39, h40, h41, h42, h43, h44, h45, h46, h47, h48, h49, h50, h51, h52, h53, h54, h55, h56, h57, h58, h59, h60, h61, h62, h63, h64, h65, h66, h67, h68, h69, h70, h71, h72, h73, h74, h75, h76, h77, h78, h79, h80, h81, h82, h83, h84, h85, h86, h87, h88, h89, h90, h91, h92, h93, h94, h95, h96, h97, h98, h99, h100, h101, h102, h103, h104, h105, h106, h107, h108⟩ := K30.H.facts w.params
      exact K30.all_mk KX G hmg h0 h1 h2 h3 h4 h5 h6 h7 h8 h9 h10 h11 h12 h13 h14 h15 h16 h17 h18 h19 h20 h21 h22 h23 h24 h25 h26 h27 h28 h29 h30 h31 h32 h33 h34 h35 h36 h37 h38 h39 h40 h41 h42 h43 h44 h45 h46 h47 h48 h49.1 h49.2 h50 h51 h52 h53 h54 h55 h56 h57 h58 h59 h60 h61 h62 h63 h64 h65 h66 h67 h68 h69 h70 h71 h72 h73 h74 h75 h76 h77 h78 h79 h80 h81 h82 h83 h84 h85 h86 h87 h88 h89 h90 h91 h92 h93 h94 h95 h96 h97 h98 h99 h100 h101 h102 h103 h104 h105 h106 h107 h108.1 h108.2.1 h108.2.2 (K30.H.iH w.params) (fun c2 o2 q2 e e2 => K30.H.nu (zw (K30.H.Bl w.params) e e2)) rfl)
