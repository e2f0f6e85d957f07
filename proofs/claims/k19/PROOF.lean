import PyProof.Rows.All
import KE.KFind
import KE.KLam
import KE.KTryMore
import KE.LcSums
import KE.KRevSl
import Lean
import PySem.Challenge.RW_matefloors_k19_squares_taken_away
set_option Elab.async false
set_option linter.all false
set_option maxRecDepth 100000
set_option maxHeartbeats 4000000
namespace L2
open PySem PySem.W
def ip : Sem Fin → Bool
  | .choose .. => false
  | .os .. => false
  | _ => true
theorem C7 {den : Code → Sem Fin} {p : Program} {w : World} {os : OsState} {s s' : Shared} {t t' : Thread} (h : ip t.cur = true) (e : step den p ⟨fun _ _ => 0, w.params⟩ s t = .go s' t') :
    step den p w { s with os := os } t = .go { s' with os := os } t' := by
  obtain ⟨heap, gens, drawn, toks, os0⟩ := s
  obtain ⟨cur, code, pos, stack⟩ := t
  cases cur <;> simp only [step, finish, ip] at e h ⊢ <;> (try (cases h; done)) <;> (repeat' split at e) <;> simp_all <;> (try (obtain ⟨rfl, rfl⟩ := e; simp_all)) <;> (try (obtain ⟨h1, h2⟩ := e; subst h1; rfl))
def lO (tb : String → Option Builtin) (p : Program) (P : Params) (n₀ : Nat) (ann : Option Value) : Nat → Shared → Thread → Option Shared
  | 0, _, _ => none
  | n + 1, s, t => match through t with
    | true => some s
    | false => match stepOk n₀ ann t && ip t.cur with
      | false => none
      | true => match step (denote tb) p ⟨fun _ _ => 0, P⟩ s t with
        | .go s' t' => lO tb p P n₀ ann n s' t'
        | .halt _ _ => none
theorem o3 {tb : String → Option Builtin} {p : Program} {w : World} {n₀ : Nat} {ann : Option Value} {os : OsState} : ∀ {n : Nat} {s s' : Shared} {t : Thread}, lO tb p w.params n₀ ann n s t = some s' → topRun tb p w n₀ ann n { s with os := os } t = some { s' with os := os }
  | 0, _, _, _, h => by cases h
  | n + 1, s, s', t, h => by
    unfold lO at h
    unfold topRun
    cases ht : through t with
    | true => rw [ht] at h; cases h; rfl
    | false =>
      rw [ht] at h
      cases hk : (stepOk n₀ ann t && ip t.cur) with
      | false => rw [hk] at h; cases h
      | true =>
        rw [hk] at h
        obtain ⟨k1, k2⟩ := Bool.and_eq_true_iff.mp hk
        cases hs : step (denote tb) p ⟨fun _ _ => 0, w.params⟩ s t with
        | halt o s₂ => rw [hs] at h; cases h
        | go s₂ t₂ =>
          rw [hs] at h
          rw [k1, C7 (os := os) k2 hs]
          exact o3 h
noncomputable def n5 (p : Program) (P : Params) (n₀ : Nat) (ann : Option Value) : Nat → Shared → Thread → Option Shared
  | 0, _, _ => none
  | n + 1, s, t => match through t with
    | true => some s
    | false => match Fast.tw6613529449190102663 n₀ ann t && ip t.cur with
      | false => none
      | true => match Fast.tw8437177126325714943 (Fast.tw11892475500146522536 Fast.tw14364793385576792824) p ⟨fun _ _ => 0, P⟩ s t with
        | .go s' t' => n5 p P n₀ ann n s' t'
        | .halt _ _ => none
theorem pE {p : Program} {P : Params} {n₀ : Nat} {ann : Option Value} : ∀ (n : Nat) (s : Shared) (t : Thread), n5 p P n₀ ann n s t = lO treeTable p P n₀ ann n s t
  | 0, _, _ => rfl
  | n + 1, s, t => by
    unfold n5 lO
    rw [← Fast.te6613529449190102663, ← Fast.te8437177126325714943, ← Fast.te11892475500146522536, ← Fast.te14364793385576792824]
    cases through t with
    | true => rfl
    | false =>
      cases (stepOk n₀ ann t && ip t.cur) with
      | false => rfl
      | true =>
        cases step (denote treeTable) p ⟨fun _ _ => 0, P⟩ s t with
        | halt o s₂ => rfl
        | go s₂ t₂ => exact pE n s₂ t₂
end L2
namespace L2
open PySem
def j5 (s : Stmt) : Arguments := match s with
  | .FunctionDef _ a _ _ _ _ _ _ _ _ => a
  | _ => { posonlyargs := [], args := [], vararg := none, kwonlyargs := [], kw_defaults := [], kwarg := none, defaults := [] }
def gx (s : Stmt) : List Stmt := match s with
  | .FunctionDef _ _ b _ _ _ _ _ _ _ => b
  | _ => []
def ar (s : Stmt) : Scope := match s with
  | .FunctionDef _ _ _ _ _ _ sc _ _ _ => sc
  | _ => { kind := .function, names := [], isGenerator := false, isCoroutine := false }
end L2
namespace L2.DL
open PySem
def Am : List Str := ["law", "_law_is_right", "_law_is_put", "_law_are_refused", "_law_is_told", "_law_said", "_law_is_plan_told"]
def cq (o : Obj) : Option (Addr × Str) := match o.cls, o.data with
  | .type c, .fields vs => if c = "code" then (match vs[1]?, vs[7]?, vs[9]?, vs[10]?, vs[11]?, vs[18]? with
    | some (Value.str q _), some (Value.int _ _), some (Value.bool _), some (Value.int _ _), some (Value.ref P), some (Value.str _ _) => if Am.contains q = true then some (P, q) else none
    | _, _, _, _, _, _ => none) else none
  | _, _ => none
end L2.DL
namespace K19
open PySem L2
def top (i : Nat) : Stmt := PySem.Challenge.pw_matefloors_k19_squares_taken_away.main.body.getD i (.Pass ⟨0, 0, 0, 0⟩)
abbrev eZ : Stmt := top 6
abbrev bM : Stmt := top 7
abbrev d5 : Stmt := top 8
abbrev bL : Stmt := top 9
abbrev ij : Stmt := top 10
abbrev j3 : Stmt := top 11
abbrev mz : Stmt := top 12
abbrev eV : Stmt := top 13
abbrev fV : Stmt := top 14
abbrev bT : Stmt := top 15
abbrev bD : Stmt := top 16
abbrev aY : Stmt := top 17
abbrev de : Stmt := top 19
abbrev bF : Stmt := top 20
abbrev dR : Stmt := top 21
abbrev cF : Stmt := top 23
abbrev dM : Stmt := top 24
abbrev dg : Stmt := top 25
abbrev eT : Stmt := top 26
abbrev cI : Stmt := top 27
abbrev bV : Stmt := top 28
abbrev cE : Stmt := top 29
abbrev bO : Stmt := top 30
abbrev bX : Stmt := top 31
abbrev dQ : Stmt := top 32
abbrev bb : Stmt := top 33
abbrev dI : Stmt := top 34
abbrev d6 : Stmt := top 35
abbrev cX : Stmt := top 36
abbrev da : Stmt := top 37
abbrev cV : Stmt := top 38
abbrev eU : Stmt := top 39
abbrev d0 : Stmt := top 40
abbrev d4 : Stmt := top 41
abbrev br : Stmt := top 42
abbrev dh : Stmt := top 43
abbrev cG : Stmt := top 44
abbrev cw : Stmt := top 45
abbrev kf : Stmt := top 46
abbrev fd (n : Str) (s : Stmt) (tk : Tok) (m : Str) (cd : Addr) : FuncData := PySem.W.fnOf n n (j5 s) (gx s) (ar s) .none .none .none (.str m tk) none (.ref cd) .none
abbrev FQ (K : PySem.W.Frag) (n : Str) (s : Stmt) (a cd : Addr) (tk : Tok) (m : Str) : Prop := PySem.W.nsIn K mainGlobals n = some (some (.ref a)) ∧ K.lookup a = some ⟨.type "function", none, .func (fd n s tk m cd), #[]⟩ ∧ PySem.W.codeIn K (.ref cd) n = true ∧ PySem.W.keepIn K (.ref a) = true
end K19
namespace K19.H
open PySem PySem.W PyProof.Rows L2 L2.DL
set_option maxRecDepth 100000
set_option maxHeartbeats 0
abbrev R : OpenLaw := PySem.Challenge.rw_matefloors_k19_squares_taken_away
noncomputable def sT (P : Params) : Option Shared := n5 R.row.prog P 11 (some (.ref 6)) 20000 { heap := boot_heap P, gens := #[], drawn := boot_drawn, toks := boot_toks, os := default } (topStub R.row.prog)
noncomputable def hT (P : Params) : Heap := (sT P).elim default (·.heap)
def isNm : Stmt → Bool
  | .Assign [.Name x _] _ _ => x == "__name__"
  | _ => false
def V : Program := { R.row.prog with main := { R.row.prog.main with body := R.row.prog.main.body.filter fun s => !isNm s } }
def as : List Addr := [3, 48, 47, 55, 54, 62, 61, 69, 68, 76, 75, 83, 82, 90, 89, 97, 96, 104, 103, 111, 110, 118, 117, 125, 124, 132, 131, 139, 138, 146, 145, 153, 152, 160, 159, 167, 166, 174, 173, 181, 180, 188, 187, 193, 192, 198, 197, 205, 204, 212, 211, 219, 218, 226, 225, 233, 232, 240, 239, 247, 246, 254, 253, 261, 260, 266, 265, 273, 272, 280, 279, 287, 286, 294, 293, 299, 298, 304, 303, 40, 41]
def tabs : List Addr := [296, 301]
noncomputable def K (P : Params) : Frag := as.map fun a => (a, ((hT P).get? a).getD default)
noncomputable def TF (P : Params) : Frag := tabs.map fun a => (a, ((hT P).get? a).getD default)
noncomputable def KF (P : Params) : Frag := K P ++ TF P
theorem kAs (P : Params) : as ++ tabs = (KF P).map (·.1) := by
  unfold KF K TF
  rw [List.map_append, List.map_map, List.map_map]
  exact congr (congrArg HAppend.hAppend (List.map_id _).symm) (List.map_id _).symm
noncomputable def HK : Hook := kHook KF (as ++ tabs) kAs
def posOf : Stmt → Pos
  | .FunctionDef _ _ _ _ _ _ _ _ _ p => p
  | _ => ⟨0, 0, 0, 0⟩
def D : DefRec := ⟨"law", j5 K19.kf, gx K19.kf, ar K19.kf, posOf K19.kf⟩
def Xt : Shared → Bool := fun s => xlAt V [] s && recOk R.row.records s
theorem runC (P : Params) : (sT P).map (fun s => (s.gens, s.drawn, s.toks)) = some (#[], {}, 597) := by kernel_rfl
theorem run (w : World) (os : OsState) : topRun treeTable R.row.prog w 11 (some (.ref 6)) 20000 { heap := boot_heap w.params, gens := #[], drawn := boot_drawn, toks := boot_toks, os := os } (topStub R.row.prog) = some { heap := hT w.params, gens := #[], drawn := {}, toks := 597, os := os } := by
  have h := runC w.params
  cases e : sT w.params with
  | none => rw [e] at h; cases h
  | some s =>
    rw [e] at h
    obtain ⟨heap, gens, drawn, toks, os0⟩ := s
    have hh : hT w.params = heap := by unfold hT; rw [e]; rfl
    have h' : some (gens, drawn, toks) = some ((#[] : Array GenState), ({} : Drawn), 597) := h
    cases h'
    rw [hh]
    exact o3 (w := w) (os := os) ((pE _ _ _).symm.trans e)
theorem Fi (w : World) (os : OsState) : (staticsOk (importedModules R.row.prog.main.body) (boot_heap w.params) (hT w.params) && namesBound R.row.prog (hT w.params) && gensDone { heap := hT w.params, gens := #[], drawn := {}, toks := 597, os := os } && laidKept (boot_heap w.params) (hT w.params)) = true := by kernel_rfl
theorem CD (w : World) (os : OsState) : (openSeen V [] (importedModules R.row.prog.main.body) Xt true { heap := hT w.params, gens := #[], drawn := {}, toks := 597, os := os }).1 = (openGood V []).1 := by kernel_rfl
theorem Dw (w : World) (os : OsState) : (openSeen V [] (importedModules R.row.prog.main.body) Xt true { heap := hT w.params, gens := #[], drawn := {}, toks := 597, os := os }).2.1 = (openGood V []).2.1 := by kernel_rfl
theorem Ds (w : World) (os : OsState) : (openSeen V [] (importedModules R.row.prog.main.body) Xt true { heap := hT w.params, gens := #[], drawn := {}, toks := 597, os := os }).2.2.1 = (openGood V []).2.2.1 := by kernel_rfl
theorem DZ (w : World) (os : OsState) : (openSeen V [] (importedModules R.row.prog.main.body) Xt true { heap := hT w.params, gens := #[], drawn := {}, toks := 597, os := os }).2.2.2.1 = (openGood V []).2.2.2.1 := by kernel_rfl
theorem CT (w : World) (os : OsState) : (openSeen V [] (importedModules R.row.prog.main.body) Xt true { heap := hT w.params, gens := #[], drawn := {}, toks := 597, os := os }).2.2.2.2.1 = (openGood V []).2.2.2.2.1 := by kernel_rfl
theorem Dm (w : World) (os : OsState) : (openSeen V [] (importedModules R.row.prog.main.body) Xt true { heap := hT w.params, gens := #[], drawn := {}, toks := 597, os := os }).2.2.2.2.2.1 = (openGood V []).2.2.2.2.2.1 := by kernel_rfl
theorem Ei (w : World) (os : OsState) : (openSeen V [] (importedModules R.row.prog.main.body) Xt true { heap := hT w.params, gens := #[], drawn := {}, toks := 597, os := os }).2.2.2.2.2.2.1 = (openGood V []).2.2.2.2.2.2.1 := by kernel_rfl
theorem CM (w : World) (os : OsState) : (openSeen V [] (importedModules R.row.prog.main.body) Xt true { heap := hT w.params, gens := #[], drawn := {}, toks := 597, os := os }).2.2.2.2.2.2.2.1 = (openGood V []).2.2.2.2.2.2.2.1 := by kernel_rfl
theorem D3 (w : World) (os : OsState) : (openSeen V [] (importedModules R.row.prog.main.body) Xt true { heap := hT w.params, gens := #[], drawn := {}, toks := 597, os := os }).2.2.2.2.2.2.2.2 = (openGood V []).2.2.2.2.2.2.2.2 := by kernel_rfl
theorem Ft (w : World) (os : OsState) : openSeen V [] (importedModules R.row.prog.main.body) Xt true { heap := hT w.params, gens := #[], drawn := {}, toks := 597, os := os } = openGood V [] := Prod.ext (CD w os) (Prod.ext (Dw w os) (Prod.ext (Ds w os) (Prod.ext (DZ w os) (Prod.ext (CT w os) (Prod.ext (Dm w os) (Prod.ext (Ei w os) (Prod.ext (CM w os) (D3 w os))))))))
theorem EC (w : World) (os : OsState) : HK.obs { heap := hT w.params, gens := #[], drawn := {}, toks := 597, os := os } = HK.val w := by kernel_rfl
theorem seen (w : World) : (fun os => (staticsOk (importedModules R.row.prog.main.body) (boot_heap w.params) (hT w.params) && namesBound R.row.prog (hT w.params) && gensDone { heap := hT w.params, gens := #[], drawn := {}, toks := 597, os := os } && laidKept (boot_heap w.params) (hT w.params),
    openSeen V [] (importedModules R.row.prog.main.body) Xt true { heap := hT w.params, gens := #[], drawn := {}, toks := 597, os := os }, HK.obs { heap := hT w.params, gens := #[], drawn := {}, toks := 597, os := os })) = fun _ : OsState => (true, openGood V [], HK.val w) :=
  funext fun os => Prod.ext (Fi w os) (Prod.ext (Ft w os) (EC w os))
theorem ws : R.wellSaid = true := by kernel_rfl
theorem facts (P : Params) : FQ (K P) "is_whole" eZ 48 47 223 "matefloors.numbers" ∧ FQ (K P) "common_divisor" bM 55 54 223 "matefloors.numbers" ∧ FQ (K P) "is_number" d5 62 61 223 "matefloors.numbers" ∧ FQ (K P) "divisor_of_all" bL 69 68 223 "matefloors.numbers" ∧ FQ (K P) "number" ij 76 75 223 "matefloors.numbers" ∧ FQ (K P) "times" j3 83 82 223 "matefloors.numbers" ∧ FQ (K P) "over" mz 90 89 223 "matefloors.numbers" ∧ FQ (K P) "contrary" eV 97 96 223 "matefloors.numbers" ∧ FQ (K P) "sign_of" fV 104 103 223 "matefloors.numbers" ∧ FQ (K P) "sign_of_parts" bT 111 110 223 "matefloors.numbers" ∧ FQ (K P) "is_above_nought" bD 118 117 223 "matefloors.numbers" ∧ FQ (K P) "must_be_above_nought" aY 125 124 223 "matefloors.numbers" ∧ FQ (K P) "squares_of" de 132 131 338 "matefloors.squares" ∧ FQ (K P) "bar_for_squares" bF 139 138 338 "matefloors.squares" ∧ FQ (K P) "counts_of" dR 146 145 338 "matefloors.squares" ∧ FQ (K P) "_law_counts" cF 153 152 368 "law_matefloors_k19_squares_taken_away" ∧ FQ (K P) "_law_over" dM 160 159 368 "law_matefloors_k19_squares_taken_away" ∧ FQ (K P) "_law_times" dg 167 166 368 "law_matefloors_k19_squares_taken_away" ∧ FQ (K P) "_law_low" eT 174 173 368 "law_matefloors_k19_squares_taken_away" ∧ FQ (K P) "_law_shared" cI 181 180 368 "law_matefloors_k19_squares_taken_away" ∧ FQ (K P) "_law_contrary" bV 188 187 368 "law_matefloors_k19_squares_taken_away" ∧ FQ (K P) "_law_is_bar" cE 193 192 368 "law_matefloors_k19_squares_taken_away" ∧ FQ (K P) "_law_is_number" bO 198 197 368 "law_matefloors_k19_squares_taken_away" ∧ FQ (K P) "_law_is_whole" bX 205 204 368 "law_matefloors_k19_squares_taken_away" ∧ FQ (K P) "_law_sign" dQ 212 211 368 "law_matefloors_k19_squares_taken_away" ∧ FQ (K P) "_law_is_never_below" bb 219 218 368 "law_matefloors_k19_squares_taken_away" ∧ FQ (K P) "_law_mate" dI 226 225 368 "law_matefloors_k19_squares_taken_away" ∧ FQ (K P) "_law_plus" d6 233 232 368 "law_matefloors_k19_squares_taken_away" ∧ FQ (K P) "_law_below" cX 240 239 368 "law_matefloors_k19_squares_taken_away" ∧ FQ (K P) "_law_minus" da 247 246 368 "law_matefloors_k19_squares_taken_away" ∧ FQ (K P) "_law_weigh" cV 254 253 368 "law_matefloors_k19_squares_taken_away" ∧ FQ (K P) "_law_bag" eU 261 260 368 "law_matefloors_k19_squares_taken_away" ∧ FQ (K P) "_law_root" d0 266 265 368 "law_matefloors_k19_squares_taken_away" ∧ FQ (K P) "_law_take" d4 273 272 368 "law_matefloors_k19_squares_taken_away" ∧ FQ (K P) "_law_floor_sides" br 280 279 368 "law_matefloors_k19_squares_taken_away" ∧ FQ (K P) "_law_above" dh 287 286 368 "law_matefloors_k19_squares_taken_away" ∧ FQ (K P) "_law_number" cG 294 293 368 "law_matefloors_k19_squares_taken_away" ∧ FQ (K P) "_law_is_told" cw 299 298 368 "law_matefloors_k19_squares_taken_away" ∧ FQ (K P) "law" kf 304 303 368 "law_matefloors_k19_squares_taken_away" ∧ nsIn (K P) mainGlobals "isinstance" = some none ∧ nsIn (K P) mainGlobals "int" = some none ∧ nsIn (K P) mainGlobals "bool" = some none ∧ nsIn (K P) mainGlobals "abs" = some none ∧ nsIn (K P) mainGlobals "tuple" = some none ∧ nsIn (K P) mainGlobals "len" = some none ∧ nsIn (K P) mainGlobals "min" = some none ∧ nsIn (K P) mainGlobals "max" = some none ∧ nsIn (K P) mainGlobals "all" = some none ∧ nsIn (K P) mainGlobals "range" = some none ∧ nsIn (K P) mainGlobals "list" = some none ∧ (nsIn (K P) mainGlobals "NOUGHT" = some (some (.ref 40)) ∧ (K P).lookup 40 = some ⟨.type "tuple", none, .seq #[.int 0 225, .int 0 226, .int 1 227] 0, #[]⟩) ∧ (nsIn (K P) mainGlobals "ONE" = some (some (.ref 41)) ∧ (K P).lookup 41 = some ⟨.type "tuple", none, .seq #[.int 1 229, .int 0 230, .int 1 231] 0, #[]⟩) :=
  ⟨⟨by kernel_rfl, by kernel_rfl, by kernel_rfl, by kernel_rfl⟩, ⟨by kernel_rfl, by kernel_rfl, by kernel_rfl, by kernel_rfl⟩, ⟨by kernel_rfl, by kernel_rfl, by kernel_rfl, by kernel_rfl⟩, ⟨by kernel_rfl, by kernel_rfl, by kernel_rfl, by kernel_rfl⟩, ⟨by kernel_rfl, by kernel_rfl, by kernel_rfl, by kernel_rfl⟩, ⟨by kernel_rfl, by kernel_rfl, by kernel_rfl, by kernel_rfl⟩, ⟨by kernel_rfl, by kernel_rfl, by kernel_rfl, by kernel_rfl⟩, ⟨by kernel_rfl, by kernel_rfl, by kernel_rfl, by kernel_rfl⟩, ⟨by kernel_rfl, by kernel_rfl, by kernel_rfl, by kernel_rfl⟩, ⟨by kernel_rfl, by kernel_rfl, by kernel_rfl, by kernel_rfl⟩, ⟨by kernel_rfl, by kernel_rfl, by kernel_rfl, by kernel_rfl⟩, ⟨by kernel_rfl, by kernel_rfl, by kernel_rfl, by kernel_rfl⟩, ⟨by kernel_rfl, by kernel_rfl, by kernel_rfl, by kernel_rfl⟩, ⟨by kernel_rfl, by kernel_rfl, by kernel_rfl, by kernel_rfl⟩, ⟨by kernel_rfl, by kernel_rfl, by kernel_rfl, by kernel_rfl⟩, ⟨by kernel_rfl, by kernel_rfl, by kernel_rfl, by kernel_rfl⟩, ⟨by kernel_rfl, by kernel_rfl, by kernel_rfl, by kernel_rfl⟩, ⟨by kernel_rfl, by kernel_rfl, by kernel_rfl, by kernel_rfl⟩, ⟨by kernel_rfl, by kernel_rfl, by kernel_rfl, by kernel_rfl⟩, ⟨by kernel_rfl, by kernel_rfl, by kernel_rfl, by kernel_rfl⟩, ⟨by kernel_rfl, by kernel_rfl, by kernel_rfl, by kernel_rfl⟩, ⟨by kernel_rfl, by kernel_rfl, by kernel_rfl, by kernel_rfl⟩, ⟨by kernel_rfl, by kernel_rfl, by kernel_rfl, by kernel_rfl⟩, ⟨by kernel_rfl, by kernel_rfl, by kernel_rfl, by kernel_rfl⟩, ⟨by kernel_rfl, by kernel_rfl, by kernel_rfl, by kernel_rfl⟩, ⟨by kernel_rfl, by kernel_rfl, by kernel_rfl, by kernel_rfl⟩, ⟨by kernel_rfl, by kernel_rfl, by kernel_rfl, by kernel_rfl⟩, ⟨by kernel_rfl, by kernel_rfl, by kernel_rfl, by kernel_rfl⟩, ⟨by kernel_rfl, by kernel_rfl, by kernel_rfl, by kernel_rfl⟩, ⟨by kernel_rfl, by kernel_rfl, by kernel_rfl, by kernel_rfl⟩, ⟨by kernel_rfl, by kernel_rfl, by kernel_rfl, by kernel_rfl⟩, ⟨by kernel_rfl, by kernel_rfl, by kernel_rfl, by kernel_rfl⟩, ⟨by kernel_rfl, by kernel_rfl, by kernel_rfl, by kernel_rfl⟩, ⟨by kernel_rfl, by kernel_rfl, by kernel_rfl, by kernel_rfl⟩, ⟨by kernel_rfl, by kernel_rfl, by kernel_rfl, by kernel_rfl⟩, ⟨by kernel_rfl, by kernel_rfl, by kernel_rfl, by kernel_rfl⟩, ⟨by kernel_rfl, by kernel_rfl, by kernel_rfl, by kernel_rfl⟩, ⟨by kernel_rfl, by kernel_rfl, by kernel_rfl, by kernel_rfl⟩, ⟨by kernel_rfl, by kernel_rfl, by kernel_rfl, by kernel_rfl⟩, by kernel_rfl, by kernel_rfl, by kernel_rfl, by kernel_rfl, by kernel_rfl, by kernel_rfl, by kernel_rfl, by kernel_rfl, by kernel_rfl, by kernel_rfl, by kernel_rfl, ⟨by kernel_rfl, by kernel_rfl⟩, ⟨by kernel_rfl, by kernel_rfl⟩⟩
theorem wc (P : Params) : ((K P).filterMap fun p => cq p.2) = [(296, ("_law_is_told" : Str)), (301, ("law" : Str))] ∧ ((K P).lookup 298).bind cq = some (296, ("_law_is_told" : Str)) ∧ ((K P).lookup 303).bind cq = some (301, ("law" : Str)) ∧ (KF P).lookup 296 = some (tabObj #[]) ∧ (KF P).lookup 301 = some (tabObj #[]) ∧ (K P).lookup 296 = none ∧ (K P).lookup 301 = none := ⟨by kernel_rfl, by kernel_rfl, by kernel_rfl, by kernel_rfl, by kernel_rfl, by kernel_rfl, by kernel_rfl⟩
theorem DU (P : Params) : ((K P).filterMap fun p => cq p.2) = [(296, ("_law_is_told" : Str)), (301, ("law" : Str))] := (wc P).1
theorem mf (P : Params) : ((K P).lookup 298).bind cq = some (296, ("_law_is_told" : Str)) := (wc P).2.1
theorem wN {q2 : Str} (h : ((296 : Addr), q2) ∈ ([(296, ("_law_is_told" : Str)), (301, ("law" : Str))] : List (Addr × Str))) : q2 = "_law_is_told" := by simpa using h
theorem zk (P : Params) : ((K P).lookup 303).bind cq = some (301, ("law" : Str)) := (wc P).2.2.1
theorem E9 {q2 : Str} (h : ((301 : Addr), q2) ∈ ([(296, ("_law_is_told" : Str)), (301, ("law" : Str))] : List (Addr × Str))) : q2 = "law" := by simpa using h
theorem ia (P : Params) : (KF P).lookup 296 = some (tabObj #[]) ∧ (K P).lookup 296 = none := ⟨(wc P).2.2.2.1, (wc P).2.2.2.2.2.1⟩
theorem wC (P : Params) : (KF P).lookup 301 = some (tabObj #[]) ∧ (K P).lookup 301 = none := ⟨(wc P).2.2.2.2.1, (wc P).2.2.2.2.2.2⟩
theorem left : LeftO R.row.prog V [] Xt HK.obs HK.val 20000 :=
  LeftO.of_pieces (H₀ := boot_heap) (H₁ := hT) (gs₀ := #[]) (gs₁ := #[]) (d₀ := boot_drawn) (d₁ := {}) (k₀ := boot_toks) (k₁ := 597) (m₀ := 11) (ann := some (.ref 6)) (M := 20000)
    (boot_open (by kernel_rfl) (by kernel_rfl) (fun s => by kernel_rfl)) (fun w => by kernel_rfl) run (by kernel_rfl) seen
end K19.H
set_option Elab.async false
set_option linter.all false
set_option maxRecDepth 100000
namespace L2
open PySem PySem.Spec PyProof.Rows
def fg (A : Around) (h : Heap) : Prop := A.handled = none ∨ ∃ (e : Addr) (oe : Obj) (vs : Array Value), A.handled = some (.ref e) ∧ h.get? e = some oe ∧ oe.data = .fields vs ∧ vs[2]? = some .none
theorem qg : entryFor table "proto.unchain" = some Builtin.«proto.unchain» := entryFor_of_tree (by kernel_rfl)
section
variable {prog : Program} {w : World} {A : Around} {E : Value → Shared → Prop} {s : Shared}
theorem sO {x e : Addr} {oe : Obj} {vs : Array Value} {Q : Value → Shared → Prop} (he : s.heap.get? e = some oe) (hd : oe.data = .fields vs) (h2 : vs[2]? = some .none) (h : Q .none s) :
    wpAny (model prog w) A (runValue (.builtin "proto.unchain" ⟨[.ref x, .ref e, .ref e, .bool false], []⟩)) Q E s := by
  refine wpAny_runValue (codeAny_builtin qg ?_)
  unfold Builtin.«proto.unchain»
  dsimp only
  refine wpAny_bind (wpAny_field he hd h2 ?_)
  rw [if_pos (by rfl)]
  exact wpAny_pure h
theorem oq {α : Type} {a : Addr} {oa : Obj} {ws : Array Value} {Q : α → Shared → Prop} (q : fg A s.heap) (ha : s.heap.get? a = some oa) (hda : oa.data = .fields ws) (hz : 2 < ws.size)
    (hnew : ∀ e oe, A.handled = some (.ref e) → s.heap.get? e = some oe → e ≠ a)
    (h : ∀ h', Heap.ExtBut a s.heap h' → (∃ o', h'.get? a = some o' ∧ o'.cls = oa.cls) → E (.ref a) { s with heap := h' }) : wpAny (model prog w) A (raiseNew (.ref a) : Sem α) Q E s := by
  unfold raiseNew
  refine wpAny_bind (wpAny_handled ?_)
  rcases q with q | ⟨e, oe, vs, q, he, hd, h2⟩
  · rw [q]
    exact wpAny_bind (wpAny_pure (wpAny_throw (h s.heap (fun b o _ z => z) ⟨oa, ha, rfl⟩)))
  · rw [q]
    have ne : e ≠ a := hnew e oe q he
    dsimp only
    rw [if_pos (by simp [ne])]
    refine wpAny_bind (wpAny_holding (sO he hd h2 ?_))
    refine wpAny_bind ?_
    refine wpAny_setField ha hda hz (wpAny_throw ?_)
    have hd' := Obj.data_mapFields hda (·.setIfInBounds 2 (Value.ref e))
    exact h _ (Heap.SameBut.update ..).extBut ⟨_, Heap.get?_update_self _ ha (Obj.isFreed_of_fields hd'), Obj.cls_mapFields ..⟩
theorem oN {it : Addr} {α : Type} {h0 : Heap} {Q : α → Shared → Prop} (q : fg A s.heap) (k : Heap.ExtBut it h0 s.heap) (kl : ∀ e oe, A.handled = some (.ref e) → s.heap.get? e = some oe → True)
    (h : ∀ h' a, Heap.ExtBut it h0 h' → (∃ o', h'.get? a = some o' ∧ o'.cls = .type "StopIteration") → E (.ref a) { s with heap := h' }) : wpAny (model prog w) A (newExc (.type "StopIteration") [] >>= fun e => (raiseNew e : Sem α)) Q E s := by
  refine wpAny_bind ?_; simp only [newExc, newTuple]
  refine wpAny_bind (wpAny_newObj_type ?_ (by size_fits)); refine wpAny_bind (m := firstArgMember _ _) (wpAny_of_eq (a := Value.none) (by first | rfl | (simp only [firstArgMember]; rfl)) ?_); refine wpAny_newObj_type ?_ (by size_fits)
  have q' : ∀ o1 o2 : Obj, fg A ((s.heap.push o1).push o2) := fun o1 o2 => by
    rcases q with q | ⟨e, oe, vs, q, he, r⟩
    · exact .inl q
    · exact .inr ⟨e, oe, vs, q, Heap.get?_push_of_some _ (Heap.get?_push_of_some _ he), r⟩
  refine oq (q' _ _) (Heap.get?_push_size _ rfl) rfl (by rw [Array.size_append]; exact Nat.lt_of_lt_of_le (by decide : 2 < 6) (Nat.le_add_right _ _)) (fun e oe hq he z => ?_) fun h' hx ⟨o', ho', hc'⟩ => h h' _ (fun b o hb e => hx b o ?_ (Heap.get?_push_of_some _ (Heap.get?_push_of_some _ (k b o hb e)))) ⟨o', ho', hc'⟩
  · rcases q with q | ⟨e1, oe1, vs, q, he1, r⟩
    · rw [q] at hq; cases hq
    · rw [q] at hq; cases hq
      exact absurd (Heap.lt_size he1) (by rw [z]; simp)
  · exact Nat.ne_of_lt (Nat.lt_of_lt_of_le (Heap.lt_size (k b o hb e)) (by simp))
theorem k7 {it : Addr} {o : Obj} {ws : Array Value} {f : Array Value → Array Value} (q : fg A s.heap) (ho : s.heap.get? it = some o) (hd : o.data = .fields ws) (hn : ∀ e, A.handled = some (.ref e) → e ≠ it) : fg A (s.heap.update it (Obj.mapFields f)) := by
  rcases q with q | ⟨e, oe, vs, q, he, r⟩
  · exact .inl q
  · exact .inr ⟨e, oe, vs, q, by rw [Heap.get?_update_other _ _ (Ne.symm (hn e q))]; exact he, r⟩
theorem qJ {it l : Addr} {i : Nat} {items} {Q : Option Value → Shared → Prop} (q : fg A s.heap) (hn : ∀ e, A.handled = some (.ref e) → e ≠ it) (hit : s.heap.IsListIter it l i) (hl : s.heap.IsList l items) (hx : items[i]? = none)
    (hQ : ∀ h', Heap.ExtBut it s.heap h' → Q none { s with heap := h' }) : wpAny (model prog w) A (pyNext (.ref it)) Q E s := by
  obtain ⟨o, ho, hc, hd⟩ := id hit
  obtain ⟨ol, hol, _, nl, hdl⟩ := hl; unfold pyNext
  refine wpAny_bind (wpAny_attempt (wpAny_callSpecial?_slot (name := Str.ofString "__next__") hit.typeIs slot_listiter_next (wpAny_call_entry slot_listiter_next hit.typeIs entry_listiter_next ?_ (args_listiter_next _))))
  show wpAny _ _ (field (.ref it) 0 >>= _) _ _ s; refine wpAny_bind (wpAny_field ho hd (x := .ref l) rfl ?_)
  show wpAny _ _ (if (Value.ref l == Value.none) = true then _ else _) _ _ s; rw [if_neg (show ¬ ((Value.ref l == Value.none) = true) from Bool.false_ne_true)]
  show wpAny _ _ (field (.ref it) 1 >>= _) _ _ s; refine wpAny_bind (wpAny_field ho hd (x := .int i 0) rfl ?_)
  show wpAny _ _ (seqItems? (.ref l) >>= _) _ _ s; refine wpAny_bind (wpAny_seqItems hol hdl ?_); simp only [Int.toNat_natCast, hx]
  refine wpAny_bind (wpAny_rule (wpAny_bind (wpAny_setField ho hd (by simp) ?_)))
  refine oN (it := it) (h0 := s.heap) (A := A.in1) (k7 (A := A.in1) q ho hd hn) (Heap.SameBut.update ..).extBut (fun _ _ _ _ => trivial) fun h' a hx' ⟨o', ho', hc'⟩ => ?_
  refine wpAny_bind (wpAny_isInstance (T := "StopIteration") (b := true) ⟨_, ho', hc'⟩ isSubtype_stop ?_); exact wpAny_pure (hQ _ hx')
theorem k5 {it t : Addr} {i : Nat} {items} {Q : Option Value → Shared → Prop} (q : fg A s.heap) (hn : ∀ e, A.handled = some (.ref e) → e ≠ it) (hit : IsTupIter s.heap it t i) (ht : IsTup s.heap t items) (hx : items[i]? = none)
    (hQ : ∀ h', Heap.ExtBut it s.heap h' → Q none { s with heap := h' }) : wpAny (model prog w) A (pyNext (.ref it)) Q E s := by
  obtain ⟨o, ho, hc, hd⟩ := id hit
  obtain ⟨ol, hol, _, nl, hdl⟩ := ht; unfold pyNext
  refine wpAny_bind (wpAny_attempt (wpAny_callSpecial?_slot (name := Str.ofString "__next__") hit.typeIs slot_tupleiter_next (wpAny_call_entry slot_tupleiter_next hit.typeIs entry_tupleiter_next ?_ (args_tupleiter_next _))))
  show wpAny _ _ (field (.ref it) 0 >>= _) _ _ s; refine wpAny_bind (wpAny_field ho hd (x := .ref t) rfl ?_)
  show wpAny _ _ (if (Value.ref t == Value.none) = true then _ else _) _ _ s; rw [if_neg (show ¬ ((Value.ref t == Value.none) = true) from Bool.false_ne_true)]
  show wpAny _ _ (field (.ref it) 1 >>= _) _ _ s; refine wpAny_bind (wpAny_field ho hd (x := .int i 0) rfl ?_)
  show wpAny _ _ (seqItems? (.ref t) >>= _) _ _ s; refine wpAny_bind (wpAny_seqItems hol hdl ?_); simp only [Int.toNat_natCast, hx]
  refine wpAny_bind (wpAny_rule (wpAny_bind (wpAny_setField ho hd (by simp) ?_)))
  refine oN (it := it) (h0 := s.heap) (A := A.in1) (k7 (A := A.in1) q ho hd hn) (Heap.SameBut.update ..).extBut (fun _ _ _ _ => trivial) fun h' a hx' ⟨o', ho', hc'⟩ => ?_
  refine wpAny_bind (wpAny_isInstance (T := "StopIteration") (b := true) ⟨_, ho', hc'⟩ isSubtype_stop ?_); exact wpAny_pure (hQ _ hx')
theorem qG {env : Env} {elts : List Expr} {x1} {pos : Pos} {t : Addr} {items : Array Value} {Q : Unit → Shared → Prop} (q : fg A s.heap) (ht : IsTup s.heap t items) (hn : (assignEach elts env).length = items.size)
    (hstar : (assignEach elts env).findIdx? (·.1) = none) (h : ∀ h', Heap.ExtBut s.heap.objs.size s.heap h' → wpAny (model prog w) A (assignInOrder ((assignEach elts env).map (·.2)) items.toList) Q E { s with heap := h' }) :
    wpAny (model prog w) A (assign (.Tuple elts x1 pos) env (.ref t)) Q E s := by
  rw [assign_Tuple]
  refine wpAny_bind (wpAny_standAt ?_)
  unfold unpack; rw [hn, hstar]
  refine wpAny_bind (wpAny_holding ?_)
  have hlt : t ≠ s.heap.objs.size := by obtain ⟨o, ho, _⟩ := ht; exact Nat.ne_of_lt (Heap.lt_size ho)
  unfold unpackItems; refine wpAny_bind ?_
  unfold notIterableAtAll; refine wpAny_bind (wpAny_specialOf ht.typeIs slot_tuple_iter.lookup ?_); refine wpAny_pure ?_; simp only [Bool.false_eq_true, if_false]
  refine wpAny_bind (wpAny_holding (iter_tuple ht ?_))
  refine wpAny_bind (wpAny_holding (draw_tuple hlt items.size 0 _ _ ⟨_, Heap.get?_push_size _ rfl, rfl, rfl⟩ (ht.push _) (by omega) fun h₁ hit₁ hs₁ => ?_))
  rw [show List.take items.size (List.drop 0 items.toList) = items.toList from by rw [List.drop_zero]; exact List.take_of_length_le (by simp), if_neg (by simp)]
  have fr : ∀ e, A.handled = some (.ref e) → e ≠ s.heap.objs.size := fun e hq => by
    rcases q with q | ⟨e1, oe1, vs, q, he1, r⟩
    · rw [q] at hq; cases hq
    · rw [q] at hq; cases hq; exact Nat.ne_of_lt (Heap.lt_size he1)
  have q1 : fg A h₁ := by
    rcases q with q | ⟨e, oe, vs, q, he, r⟩
    · exact .inl q
    · exact .inr ⟨e, oe, vs, q, hs₁.extBut e oe (fr e q) (Heap.get?_push_of_some _ he), r⟩
  refine wpAny_bind (wpAny_holding (k5 q1 fr hit₁ ((ht.push _).extBut hs₁.extBut hlt) (by simp) fun h₂ he₂ => ?_)); simp only [Option.isSome_none, Bool.false_eq_true, if_false]
  exact wpAny_pure (h h₂ fun b o hb e => he₂ b o hb (hs₁.extBut b o hb (Heap.get?_push_of_some _ e)))
end
end L2
set_option Elab.async false
set_option linter.all false
set_option maxRecDepth 100000
namespace L2
open PySem PySem.Spec PyProof.Rows
abbrev Key := Sum Int Str
def BY : Key → Value → Bool
  | .inl k, v => Value.isInt k v
  | .inr x, v => Value.isStrOf x v
def FO (w : World) : Key → Int
  | .inl k => hashInt k
  | .inr x => hashStr w x
theorem bZ : ∀ {k : Key} {v : Value}, BY k v = true → (∃ i t, k = Sum.inl i ∧ v = Value.int i t) ∨ (∃ x t, k = Sum.inr x ∧ v = Value.str x t)
  | .inl i, v, h => by
    obtain ⟨t, e⟩ := Value.isInt_shape (k := i) (v := v) h
    exact .inl ⟨i, t, rfl, e⟩
  | .inr x, v, h => by
    obtain ⟨t, e⟩ := Value.isStrOf_shape (x := x) (v := v) h
    exact .inr ⟨x, t, rfl, e⟩
theorem CP (a b : Int) : decide ((Sum.inl a : Key) = Sum.inl b) = (a == b) := by
  by_cases e : a = b
  · subst e; simp
  · have h : ¬ (Sum.inl a : Key) = Sum.inl b := fun q => e (Sum.inl.inj q)
    rw [decide_eq_false h]
    exact (beq_eq_false_iff_ne.mpr e).symm
theorem C4 (a b : Str) : decide ((Sum.inr a : Key) = Sum.inr b) = decide (a = b) := by
  by_cases e : a = b
  · subst e; simp
  · have h : ¬ (Sum.inr a : Key) = Sum.inr b := fun q => e (Sum.inr.inj q)
    rw [decide_eq_false h, decide_eq_false e]
theorem Dc (a : Int) (b : Str) : decide ((Sum.inl a : Key) = Sum.inr b) = false := decide_eq_false (fun q => nomatch q)
theorem D1 (a : Str) (b : Int) : decide ((Sum.inr a : Key) = Sum.inl b) = false := decide_eq_false (fun q => nomatch q)
def wy (prog : Program) (w : World) : PySem.KeyKind prog w Key where
  is := BY
  hash := FO w
  inj := fun v a b ha hb => by
    rcases bZ ha with ⟨i, t, rfl, rfl⟩ | ⟨x, t, rfl, rfl⟩
    · rcases bZ hb with ⟨j, u, rfl, e⟩ | ⟨y, u, rfl, e⟩
      · injection e with e1 _; rw [e1]
      · exact nomatch e
    · rcases bZ hb with ⟨j, u, rfl, e⟩ | ⟨y, u, rfl, e⟩
      · exact nomatch e
      · injection e with e1 _; rw [e1]
  byValue := fun k v h => by
    rcases bZ h with ⟨i, t, rfl, rfl⟩ | ⟨x, t, rfl, rfl⟩ <;> rfl
  pyHash := fun hv h => by
    rcases bZ hv with ⟨i, t, rfl, rfl⟩ | ⟨x, t, rfl, rfl⟩
    · exact wpAny_pyHash_int h
    · exact wpAny_pyHash_str h
  eqBool := fun hu hv h => by
    rcases bZ hu with ⟨i, t, rfl, rfl⟩ | ⟨x, t, rfl, rfl⟩
    · rcases bZ hv with ⟨j, u, rfl, rfl⟩ | ⟨y, u, rfl, rfl⟩
      · rw [CP] at h; exact wpAny_eqBool_int h
      · rw [Dc] at h; exact SeqAt.EqAt.int_str i t y u _ _ _ _ h
    · rcases bZ hv with ⟨j, u, rfl, rfl⟩ | ⟨y, u, rfl, rfl⟩
      · rw [D1] at h; exact SeqAt.EqAt.str_int x t j u _ _ _ _ h
      · rw [C4] at h; exact wpAny_eqBool_str h
  «strs» := fun k x t v h => by
    rcases bZ h with ⟨i, u, rfl, e⟩ | ⟨y, u, rfl, e⟩
    · exact nomatch e
    · injection e with e1 _
      subst e1
      cases v <;> rfl
end L2
namespace L2
open PySem PySem.Spec PyProof.Rows
inductive V where
  | non | bl (b : Bool) | int (i : Int) | str (x : Str) | byt (b : Array UInt8) | flt (b : UInt64) | ref (a : Addr) | ty (n : String)
  deriving DecidableEq
def RelV : V → Value → Prop
  | .non, u => u = Value.none
  | .bl b, u => u = Value.bool b
  | .int i, u => ∃ t, u = Value.int i t
  | .str x, u => ∃ t, u = Value.str x t
  | .byt b, u => ∃ t, u = Value.bytes b t
  | .flt b, u => ∃ t, u = Value.float b t
  | .ref a, u => u = Value.ref a
  | .ty n, u => u = Value.type n
abbrev Vals : List V → List Value → Prop := Paired RelV
theorem Vals.length {xs : List V} {us : List Value} (r : Vals xs us) : xs.length = us.length := Paired.length r
theorem Vals.get : ∀ {xs : List V} {us : List Value} {i : Nat} {x : V}, Vals xs us → xs[i]? = some x → ∃ u, us[i]? = some u ∧ RelV x u
  | _, _, _, _, .nil, e => by simp at e
  | _, _, 0, _, .cons r _, e => by simp at e; subst e; exact ⟨_, rfl, r⟩
  | _, _, i + 1, x, .cons _ t, e => by
    obtain ⟨u, h1, h2⟩ := Vals.get (i := i) (x := x) t (by simpa using e)
    exact ⟨u, by simpa using h1, h2⟩
theorem Vals.set {x : V} {u : Value} (r : RelV x u) : ∀ {xs : List V} {us : List Value} (i : Nat), Vals xs us → Vals (xs.set i x) (us.set i u)
  | _, _, _, .nil => .nil
  | _, _, 0, .cons _ t => .cons r t
  | _, _, i + 1, .cons q t => .cons q (Vals.set r i t)
theorem Vals.append : ∀ {xs ys : List V} {us ws : List Value}, Vals xs us → Vals ys ws → Vals (xs ++ ys) (us ++ ws)
  | _, _, _, _, .nil, s => s
  | _, _, _, _, .cons r t, s => .cons r (Vals.append t s)
theorem Vals.take : ∀ {xs : List V} {us : List Value} (n : Nat), Vals xs us → Vals (xs.take n) (us.take n)
  | _, _, 0, _ => .nil
  | _, _, _ + 1, .nil => .nil
  | _, _, n + 1, .cons r t => .cons r (Vals.take n t)
theorem Vals.drop : ∀ {xs : List V} {us : List Value} (n : Nat), Vals xs us → Vals (xs.drop n) (us.drop n)
  | _, _, 0, r => r
  | _, _, _ + 1, .nil => .nil
  | _, _, n + 1, .cons _ t => Vals.drop n t
def EH : Option V → Option Value → Prop
  | some v, some u => RelV v u
  | none, none => True
  | _, _ => False
def KV {κ : Type} : List (κ × V) → List (κ × Value) → Prop := Paired fun (p : κ × V) (q : κ × Value) => p.1 = q.1 ∧ RelV p.2 q.2
def kV : Key → V
  | .inl i => .int i
  | .inr x => .str x
inductive HO where
  /-- a list -/
  | lst (xs : List V)
  /-- a tuple (never changes) -/
  | tup (xs : List V)
  /-- a dict whose keys are ints and texts; one whose keys are tuples of ints and texts (the empty one is both) -/
  | dK (kvs : List (Key × V)) | dT (kvs : List (List Key × V))
  /-- a set of ints: its members, its size -/
  | set (S : Int → Bool) (n : Nat)
  /-- an instance of the class at C, its dict at dx, its attributes -/
  | ins (C dx : Addr) (fs : List (Str × V))
  /-- the dict of the instance at x -/
  | own (x : Addr)
  /-- the dict of an exception -/
  | xd (fs : List (Str × V))
  /-- a bound method, f of x -/
  | met (f x : Addr)
  /-- a range object lo, lo + 1, .. below hi -/
  | rng (lo hi : Int)
  /-- a thing that is known to the object (the script; a dict while a loop walks it): read, never written while it is so -/
  | frz (o : Obj) (u : HO)
  /-- a code object's table -/
  | tbl (ps : Array Value)
  /-- any other thing, by what is true of its one object (a def of one's own: SetO a S n := HO.ext fun h => ..) -/
  | ext (φ : Heap → Prop)
abbrev Hp := Addr → Option HO
def upd (H : Hp) (a : Addr) (o : HO) : Hp := fun b => if b = a then some o else H b
theorem fz {H : Hp} {a : Addr} {o : HO} : upd H a o a = some o := by unfold upd; rw [if_pos rfl]
theorem bo {H : Hp} {a b : Addr} {o : HO} (h : b ≠ a) : upd H a o b = H b := by unfold upd; rw [if_neg h]
theorem bQ {H : Hp} {a b : Addr} {o : HO} (h : H a = some o) (h' : H b = none) : a ≠ b := by
  intro e; subst e; rw [h] at h'; cases h'
section
variable (P : Program) (w : World)
def jd (H : Hp) (h : Heap) (a : Addr) : HO → Prop
  | .lst xs => xs.length ≤ sizeLine ∧ ∃ (its : List Value) (n : Nat), Vals xs its ∧ h.get? a = some { cls := .type "list", data := .seq its.toArray n }
  | .tup xs => xs.length ≤ sizeLine ∧ ∃ its : List Value, Vals xs its ∧ IsTup h a its.toArray
  | .dK kvs => kvs.length ≤ sizeLine ∧ (a == sysModules) = false ∧ ∃ vs, KV kvs vs ∧ h.DictOf (wy P w) a vs
  | .dT kvs => kvs.length ≤ sizeLine ∧ (a == sysModules) = false ∧ ∃ xs : List (List Key × Addr × Value),
      Paired (fun (p : List Key × V) (q : List Key × Addr × Value) => p.1 = q.1 ∧ H q.2.1 = some (.tup (p.1.map kV)) ∧ RelV p.2 q.2.2) kvs xs ∧
      ∃ o es ep, h.get? a = some o ∧ o.ExactDict ∧ o.data = .dict es ep ∧ es.toList = xs.map (entryOfKey (tupleKind (wy P w))) ∧ (xs.map (·.1)).Nodup
  | .set S n => h.SetOf (intKind P w) a S n
  | .ins C dx fs => H dx = some (.own a) ∧ fs.length ≤ 1000 ∧ dx ≠ a ∧ h.get? a = some (PySem.W.instObj C dx) ∧
      ∃ mA, h.Ns1 dx mA ∧ (∀ f, EH (fs.lookup f) (mA f)) ∧ PySem.Within mA (fs.map (·.1))
  | .own _ => ∃ o, h.get? a = some o
  | .xd fs => ∃ mA, h.Ns1 a mA ∧ ∀ f, EH (fs.lookup f) (mA f)
  | .rng lo hi => ∃ t u v, h.get? a = some { cls := .type "range", data := .fields #[.int lo t, .int hi u, .int 1 v] }
  | .frz o u => h.get? a = some o ∧ jd H h a u
  | .tbl ps => h.get? a = some { cls := .none, data := .fields ps }
  | .met f x => h.get? a = some (PySem.W.methodObj (.ref f) (.ref x))
  | .ext φ => φ h ∧ (∃ o, h.get? a = some o) ∧ ∀ h1 h2 : Heap, φ h1 → (∀ o, h1.get? a = some o → h2.get? a = some o) → φ h2
def HOk (H : Hp) (h : Heap) : Prop := ∀ a o, H a = some o → jd P w H h a o
end
section
variable {P : Program} {w : World} {H H' : Hp} {h h' : Heap} {a : Addr} {o : HO}
theorem jd.lt (x : jd P w H h a o) : a < h.objs.size := by
  cases o with
  | lst xs => obtain ⟨_, _, _, _, e⟩ := x; exact Heap.lt_size e
  | tup xs => obtain ⟨_, _, _, p⟩ := x; exact p.lt
  | dK kvs => obtain ⟨_, _, _, _, o, _, _, e, _⟩ := x; exact Heap.lt_size e
  | dT kvs => obtain ⟨_, _, _, _, o, _, _, e, _⟩ := x; exact Heap.lt_size e
  | set S n => obtain ⟨o, _, _, _, e, _⟩ := x; exact Heap.lt_size e
  | ins C dx fs => obtain ⟨_, _, _, e, _⟩ := x; exact Heap.lt_size e
  | own y => obtain ⟨_, e⟩ := x; exact Heap.lt_size e
  | xd fs => obtain ⟨_, ⟨_, _, _, e, _⟩, _⟩ := x; exact Heap.lt_size e
  | rng lo hi => obtain ⟨_, _, _, e⟩ := x; exact Heap.lt_size e
  | frz ob u => obtain ⟨e, _⟩ := x; exact Heap.lt_size e
  | tbl ps => exact Heap.lt_size (show h.get? a = some _ from x)
  | met f y => exact Heap.lt_size (show h.get? a = some _ from x)
  | ext φ => obtain ⟨_, ⟨_, e⟩, _⟩ := x; exact Heap.lt_size e
theorem Paired.Fl {α β : Type} {F G : α → β → Prop} : ∀ {l₁ : List α} {l₂ : List β}, Paired F l₁ l₂ → (∀ a b, F a b → G a b) → Paired G l₁ l₂
  | _, _, .nil, _ => .nil
  | _, _, .cons r t, f => .cons (f _ _ r) (Paired.Fl t f)
theorem jd.sS (x : jd P w H h a o) (k : ∀ b u, (b = a ∨ H b = some (.own a)) → h.get? b = some u → h'.get? b = some u)
    (ho : ∀ b, H b = some (.own a) → H' b = some (.own a)) (ht : ∀ b xs, H b = some (.tup xs) → H' b = some (.tup xs)) : jd P w H' h' a o := by
  induction o with
  | lst xs => obtain ⟨z, its, n, r, e⟩ := x; exact ⟨z, its, n, r, k _ _ (.inl rfl) e⟩
  | tup xs => obtain ⟨z, its, r, ob, e, c⟩ := x; exact ⟨z, its, r, ob, k _ _ (.inl rfl) e, c⟩
  | dK kvs => obtain ⟨z, y, vs, r, ob, es, ep, e, c⟩ := x; exact ⟨z, y, vs, r, ob, es, ep, k _ _ (.inl rfl) e, c⟩
  | dT kvs =>
    obtain ⟨z, y, xs, r, ob, es, ep, e, c⟩ := x
    exact ⟨z, y, xs, Paired.Fl r fun p q z => ⟨z.1, ht _ _ z.2.1, z.2.2⟩, ob, es, ep, k _ _ (.inl rfl) e, c⟩
  | set S n => obtain ⟨ob, es, ep, t, e, c⟩ := x; exact ⟨ob, es, ep, t, k _ _ (.inl rfl) e, c⟩
  | ins C dx fs =>
    obtain ⟨d, z, ne, e, mA, ⟨od, es, ep, e2, c⟩, r⟩ := x
    exact ⟨ho _ d, z, ne, k _ _ (.inl rfl) e, mA, ⟨od, es, ep, k _ _ (.inr d) e2, c⟩, r⟩
  | own y => obtain ⟨ob, e⟩ := x; exact ⟨ob, k _ _ (.inl rfl) e⟩
  | xd fs => obtain ⟨mA, ⟨od, es, ep, e, c⟩, r⟩ := x; exact ⟨mA, ⟨od, es, ep, k _ _ (.inl rfl) e, c⟩, r⟩
  | rng lo hi => obtain ⟨t, u, v, e⟩ := x; exact ⟨t, u, v, k _ _ (.inl rfl) e⟩
  | frz ob u ih => obtain ⟨e, q⟩ := x; exact ⟨k _ _ (.inl rfl) e, ih q⟩
  | tbl ps =>
    have e : h.get? a = some { cls := .none, data := .fields ps } := x
    show h'.get? a = some { cls := .none, data := .fields ps }
    exact k a _ (.inl rfl) e
  | met f y =>
    have e : h.get? a = some (PySem.W.methodObj (.ref f) (.ref y)) := x
    show h'.get? a = some (PySem.W.methodObj (.ref f) (.ref y))
    exact k a _ (.inl rfl) e
  | ext φ => obtain ⟨p, ⟨o, e⟩, st⟩ := x; exact ⟨st _ _ p fun o q => k _ _ (.inl rfl) q, ⟨o, k _ _ (.inl rfl) e⟩, st⟩
theorem HOk.lt (x : HOk P w H h) (e : H a = some o) : a < h.objs.size := (x a o e).lt
theorem HOk.fresh (x : HOk P w H h) (e : h.objs.size ≤ a) : H a = none := by
  cases q : H a with
  | none => rfl
  | some u => exact absurd (Nat.lt_of_lt_of_le (x.lt q) e) (Nat.lt_irrefl _)
theorem HOk.kept (x : HOk P w H h) (k : ∀ b u, h.get? b = some u → h'.get? b = some u) : HOk P w H h' := fun a o e =>
  (x a o e).sS (fun b u _ q => k b u q) (fun _ q => q) fun _ _ q => q
theorem HOk.laid (x : HOk P w H h) (k : ∀ b u, h.get? b = some u → h'.get? b = some u) (hp : h.objs.size ≤ a) (new : jd P w (upd H a o) h' a o) : HOk P w (upd H a o) h' := fun b u e => by
  have hn := x.fresh hp
  by_cases hb : b = a
  · subst hb; rw [fz] at e; cases e; exact new
  · rw [bo hb] at e
    exact (x b u e).sS (fun c v _ q => k c v q) (fun c q => by rw [bo (bQ q hn)]; exact q) fun c xs q => by rw [bo (bQ q hn)]; exact q
end
def Rd (H : Hp) (a : Addr) (u : HO) : Prop := H a = some u ∨ ∃ o, H a = some (.frz o u)
theorem Rd.of {H : Hp} {a : Addr} {u : HO} (h : H a = some u) : Rd H a u := .inl h
theorem Rd.ok {P : Program} {w : World} {H : Hp} {h : Heap} {a : Addr} {u : HO} (r : Rd H a u) (x : HOk P w H h) : jd P w H h a u := by
  rcases r with r | ⟨o, r⟩
  · exact x a u r
  · obtain ⟨_, q⟩ := x a _ r
    exact q
def Mut : Option HO → Prop
  | some (.lst _) => True
  | some (.dK _) => True
  | some (.dT _) => True
  | some (.set _ _) => True
  | some (.ins _ _ _) => True
  | some (.ext _) => True
  | _ => False
section
variable {P : Program} {w : World} {H : Hp} {h h' : Heap} {x e : Addr} {o' : HO}
theorem HOk.write (ok : HOk P w H h) (mu : Mut (H x)) (he : e = x ∨ H e = some (.own x)) (k : ∀ b u, b ≠ e → h.get? b = some u → h'.get? b = some u) (heo : ∃ u, h'.get? e = some u)
    (new : jd P w (upd H x o') h' x o') : HOk P w (upd H x o') h' := fun b u q => by
  have nown : ∀ c y, H c = some (.own y) → c ≠ x := fun c y r z => by subst z; rw [r] at mu; exact mu
  have ntup : ∀ c xs, H c = some (.tup xs) → c ≠ x := fun c xs r z => by subst z; rw [r] at mu; exact mu
  by_cases hb : b = x
  · subst hb; rw [fz] at q; cases q; exact new
  · rw [bo hb] at q
    by_cases hbe : b = e
    · have q' : H b = some (.own x) := by
        rcases he with z | z
        · exact absurd (hbe.trans z) hb
        · rw [hbe]; exact z
      rw [q] at q'; cases q'
      obtain ⟨v, hv⟩ := heo
      exact ⟨v, by rw [hbe]; exact hv⟩
    · refine (ok b u q).sS (fun c v hc r => k c v ?_ r) (fun c r => by rw [bo (nown c b r)]; exact r) fun c xs r => by rw [bo (ntup c xs r)]; exact r
      rcases hc with rfl | hc
      · exact hbe
      · rintro rfl
        rcases he with z | z
        · exact nown c b hc z
        · rw [hc] at z; cases z; exact hb rfl
end
structure Un (fs ex : List Addr) (H H' : Hp) (h h' : Heap) : Prop where
  keep : ∀ b o, h.get? b = some o → H b = none → b ∉ fs → b ∉ ex → h'.get? b = some o
  slot : ∀ b o, h.get? b = some o → H b = none → b ∈ fs → b ∉ ex → ∃ sl, h'.get? b = some { o with slots := sl }
  free : ∀ b o, h.get? b = some o → H b = none → b ∉ ex → H' b = none
  there : ∀ b o, h.get? b = some o → b ∉ ex → ∃ o', h'.get? b = some o'
  nO : ∀ b xs, H b = some (.tup xs) → H' b = some (.tup xs)
  mX : ∀ b o u, H b = some (.frz o u) → H' b = some (.frz o u)
  mQ : ∀ b ps, H b = some (.tbl ps) → ∃ more, H' b = some (.tbl (ps ++ more))
section
variable {fs fs' ex ex' : List Addr} {H H1 H2 : Hp} {h h1 h2 h' : Heap} {a x e : Addr} {o : HO}
theorem Un.any (u : Un fs ex H H1 h h1) {b : Addr} {ob : Obj} (q : h.get? b = some ob) (n : H b = none) (hx : b ∉ ex) : ∃ sl, h1.get? b = some { ob with slots := sl } := by
  by_cases hb : b ∈ fs
  · exact u.slot b ob q n hb hx
  · exact ⟨ob.slots, u.keep b ob q n hb hx⟩
theorem Un.trans (a : Un fs ex H H1 h h1) (b : Un fs ex H1 H2 h1 h2) : Un fs ex H H2 h h2 where
  keep := fun c ob q n hc hx => b.keep c ob (a.keep c ob q n hc hx) (a.free c ob q n hx) hc hx
  slot := fun c ob q n hc hx => by
    obtain ⟨sl, e1⟩ := a.slot c ob q n hc hx
    obtain ⟨sl', e2⟩ := b.slot c _ e1 (a.free c ob q n hx) hc hx
    exact ⟨sl', e2⟩
  free := fun c ob q n hx => by
    obtain ⟨o', e1⟩ := a.there c ob q hx
    exact b.free c o' e1 (a.free c ob q n hx) hx
  there := fun c ob q hx => by
    obtain ⟨o', e1⟩ := a.there c ob q hx
    exact b.there c o' e1 hx
  nO := fun c xs q => b.nO c xs (a.nO c xs q)
  mX := fun c ob xs q => b.mX c ob xs (a.mX c ob xs q)
  mQ := fun c ps q => by
    obtain ⟨m1, e1⟩ := a.mQ c ps q
    obtain ⟨m2, e2⟩ := b.mQ c _ e1
    exact ⟨m1 ++ m2, by rw [e2, Array.append_assoc]⟩
theorem Un.kept (k : ∀ b u, h.get? b = some u → h'.get? b = some u) : Un fs ex H H h h' :=
  ⟨fun b ob q _ _ _ => k b ob q, fun b ob q _ _ _ => ⟨ob.slots, k b ob q⟩, fun _ _ _ n _ => n, fun b ob q _ => ⟨ob, k b ob q⟩, fun _ _ q => q, fun _ _ _ q => q, fun _ ps q => ⟨#[], by rw [q]; simp⟩⟩
theorem Un.refl : Un fs ex H H h h := Un.kept fun _ _ q => q
theorem Un.laid (k : ∀ b u, h.get? b = some u → h'.get? b = some u) (hp : h.objs.size ≤ a) (hn : H a = none) : Un fs ex H (upd H a o) h h' where
  keep := fun b u q _ _ _ => k b u q
  slot := fun b u q _ _ _ => ⟨u.slots, k b u q⟩
  free := fun b u q n _ => by rw [bo (Nat.ne_of_lt (Nat.lt_of_lt_of_le (Heap.lt_size q) hp))]; exact n
  there := fun b u q _ => ⟨u, k b u q⟩
  nO := fun b xs q => by rw [bo (bQ q hn)]; exact q
  mX := fun b u xs q => by rw [bo (bQ q hn)]; exact q
  mQ := fun b ps q => ⟨#[], by rw [bo (bQ q hn), q]; simp⟩
theorem Un.write (mu : Mut (H x)) (he : e = x ∨ H e = some (.own x)) (k : ∀ b u, b ≠ e → h.get? b = some u → h'.get? b = some u) (heo : ∃ u, h'.get? e = some u) : Un fs ex H (upd H x o) h h' := by
  have hx : ∀ b, H b = none → b ≠ x := fun b n z => by subst z; rw [n] at mu; exact mu
  have hb : ∀ b, H b = none → b ≠ e := fun b n z => by
    subst z
    rcases he with r | r
    · exact hx b n r
    · rw [n] at r; cases r
  have hm : ∀ b u, H b = some u → ¬ Mut (some u) → b ≠ x := fun b u q nm z => by subst z; rw [q] at mu; exact nm mu
  refine ⟨fun b u q n _ _ => k b u (hb b n) q, fun b u q n _ _ => ⟨u.slots, k b u (hb b n) q⟩, fun b u q n _ => by rw [bo (hx b n)]; exact n, fun b u q _ => ?_,
    fun b xs q => by rw [bo (hm b _ q fun z => z)]; exact q, fun b u xs q => by rw [bo (hm b _ q fun z => z)]; exact q, fun b ps q => ⟨#[], by rw [bo (hm b _ q fun z => z), q]; simp⟩⟩
  by_cases hbe : b = e
  · subst hbe; exact heo
  · exact ⟨u, k b u hbe q⟩
end
def trk (h : Heap) (H : Hp) : List Addr := (List.range h.objs.size).filter fun a => (H a).isSome
def si (h : Heap) (H : Hp) : Heap := PySem.W.hideAll h (trk h H)
theorem xA (h : Heap) (H : Hp) : (si h H).objs.size = h.objs.size := PySem.W.hideAll_size _ _
theorem yV {h : Heap} {H : Hp} {b : Addr} {o : Obj} (e : h.get? b = some o) (n : H b = none) : (si h H).get? b = some o :=
  PySem.W.hideAll_get _ e fun hm => by
    have q : (H b).isSome = true := (List.mem_filter.mp hm).2
    rw [n] at q; simp at q
theorem Be {h : Heap} {H : Hp} {b : Addr} {o : Obj} (e : (si h H).get? b = some o) : h.get? b = some o ∧ H b = none := by
  have e' : h.get? b = some o := PySem.W.of_hideAll (trk h H) e
  refine ⟨e', ?_⟩
  cases q : H b with
  | none => rfl
  | some x =>
    have hm : b ∈ trk h H := List.mem_filter.mpr ⟨List.mem_range.mpr (Heap.lt_size e'), by simp [q]⟩
    have z : (si h H).get? b = none := PySem.W.hideAll_none (trk h H) hm
    rw [z] at e; cases e
def Bk (g h : Heap) (L : Addr) : List (Addr × Obj) := (List.range h.objs.size).filterMap fun a => if a = L ∨ (g.get? a).isSome = true then none else (h.get? a).map fun o => (a, o)
def rest (g h : Heap) (L d : Addr) : List (Addr × Obj) := (Bk g h L).filter fun p => decide (p.1 ≠ d)
end L2
namespace L2
open PySem PySem.Spec PyProof.Rows
structure Mod (K : PySem.W.Frag) (mg : Str → Option Value) (base : Heap) : Prop where
  kin : K.In base
  glob : base.Ns mainGlobals mg
  blt : ∃ mb, base.Ns builtinsNs mb ∧ ∀ x : Str, x ≠ "__name__" → mb x = bootBuiltins x
  nolimit : base.NoLimit
structure Cx where
  prog : Program
  w : World
  K : PySem.W.Frag
  mg : Str → Option Value
  base : Heap
  A : Around
  N : List Str
  s₀ : Shared
  H₀ : Hp
  env : Env
  outer : List Env
  stack : List Env
  ex : List Addr
  fn : Str → Bool
  calm : Bool
  pn : List (Addr × Obj)
  xe : Value → Shared → Prop
def frs (l : List Env) : List Addr := l.filterMap (·.frame)
abbrev Cx.fs (X : Cx) : List Addr := frs X.outer
def Vis (sc : Scope) (x : Str) : Prop := sc.names.lookup x = some .local ∨ sc.names.lookup x = some .cell ∨ sc.names.lookup x = some .free
def Loc (sc : Scope) (x : Str) : Prop := sc.names.lookup x = some .local ∨ sc.names.lookup x = some .cell
def Look (env : Env) (h : Heap) (m : Str → Option Value) (x : Str) (u : Value) : Prop :=
  (env.kindOf x = some .local ∧ m x = some u) ∨ ((env.kindOf x = some .cell ∨ env.kindOf x = some .free) ∧ ∃ c, env.cells.lookup x = some c ∧ h.IsCell c (some u))
structure Cx.Ok (X : Cx) : Prop where
  mod : Mod X.K X.mg X.base
  kind : X.env.scope.kind = .function
  glob : X.env.globals = mainGlobals
  blt : X.env.builtins = builtinsNs
  above : X.s₀.heap.objs.size ≤ X.env.locals
  inj : ∀ x y c, X.env.cells.lookup x = some c → X.env.cells.lookup y = some c → x = y
  has : ∀ x, (X.env.kindOf x = some .cell ∨ X.env.kindOf x = some .free) → ∃ c, X.env.cells.lookup x = some c
  cab : ∀ x c, X.fn x = true → X.env.cells.lookup x = some c → X.s₀.heap.objs.size ≤ c
  hd : X.calm = true → X.A.handled = none
  qt : X.A.handled = none ∨ ∃ (e : Addr) (oe : Obj) (vs : Array Value), X.A.handled = some (.ref e) ∧ (e, oe) ∈ X.pn ∧ oe.data = .fields vs ∧ vs[2]? = some .none
  frames : X.A.frames = some X.stack
  stk : X.stack = X.outer ∨ (X.stack = X.env :: X.outer ∧ X.env.frame = some X.env.locals)
  exf : ∀ b ∈ X.ex, b ≠ X.env.locals ∧ ∀ x c, X.env.cells.lookup x = some c → c ≠ b
  bs : ∀ b o, X.base.get? b = some o → X.s₀.heap.get? b = some o ∧ X.H₀ b = none
  bsz : X.base.objs.size ≤ X.s₀.heap.objs.size
  vj : ∀ b o, X.base.get? b = some o → b ∉ X.ex
  Br : ∀ b ∈ X.ex, b ∉ X.fs
  oY : X.s₀.heap.FunFrames X.base X.outer
  frf : ∀ b ∈ X.fs, X.H₀ b = none
structure Inv (X : Cx) (pins : List (Addr × Obj)) (σ : List (Option V)) (H : Hp) (s : Shared) : Prop where
  ok : X.Ok
  os : s.os = X.s₀.os
  bare : AllBare s.gens
  base : Un X.fs X.ex X.H₀ H X.s₀.heap s.heap
  loc : ∃ m, s.heap.Ns X.env.locals m ∧ ∀ (i : Nat) (x : Str) (v : V), X.N[i]? = some x → σ[i]? = some (some v) → Vis X.env.scope x → ∃ u, RelV v u ∧ Look X.env s.heap m x u
  cell : ∀ x c, X.env.cells.lookup x = some c → ∃ v, s.heap.IsCell c v
  free : H X.env.locals = none
  jg : ∀ x c, X.env.cells.lookup x = some c → H c = none
  pin : ∀ p ∈ X.pn ++ pins, s.heap.get? p.1 = some p.2 ∧ H p.1 = none ∧ p.1 ≠ X.env.locals ∧ p.1 ∉ X.fs ∧ ∀ v, p.2.data ≠ .cell v
  hok : HOk X.prog X.w H s.heap
  len : σ.length = X.N.length
section
variable {X : Cx} {pins : List (Addr × Obj)} {σ : List (Option V)} {H H' : Hp} {s : Shared} {h' : Heap}
theorem Inv.vK (I : Inv X pins σ H s) : fg X.A s.heap := by
  rcases I.ok.qt with q | ⟨e, oe, vs, q, hp, r⟩
  · exact .inl q
  · exact .inr ⟨e, oe, vs, q, (I.pin (e, oe) (List.mem_append_left _ hp)).1, r⟩
theorem Inv.hne (I : Inv X pins σ H s) {b : Addr} (hb : ∀ p ∈ X.pn ++ pins, p.1 ≠ b) : ∀ e, X.A.handled = some (.ref e) → e ≠ b := fun e he => by
  rcases I.ok.qt with q | ⟨e1, oe, vs, q, hp, r⟩
  · rw [q] at he; cases he
  · rw [q] at he; cases he; exact hb (e, oe) (List.mem_append_left _ hp)
theorem Cx.Ok.FW (ok : X.Ok) {b : Addr} {o : Obj} (e : X.base.get? b = some o) : b ∉ X.fs := fun hb => by
  have := (ok.oY.mem hb).1
  rw [e] at this; cases this
theorem Inv.bs (I : Inv X pins σ H s) : ∀ b o, X.base.get? b = some o → s.heap.get? b = some o ∧ H b = none := fun b o e =>
  ⟨I.base.keep b o (I.ok.bs b o e).1 (I.ok.bs b o e).2 (I.ok.FW e) (I.ok.vj b o e), I.base.free b o (I.ok.bs b o e).1 (I.ok.bs b o e).2 (I.ok.vj b o e)⟩
theorem Inv.bk (I : Inv X pins σ H s) : ∀ b o, X.base.get? b = some o → s.heap.get? b = some o := fun b o e => (I.bs b o e).1
theorem Inv.mod (I : Inv X pins σ H s) : Mod X.K X.mg X.base := I.ok.mod
theorem Inv.kIn (I : Inv X pins σ H s) : X.K.In s.heap := I.ok.mod.kin.keeps I.bk
theorem Inv.lt (I : Inv X pins σ H s) : X.env.locals < s.heap.objs.size := let ⟨_, hn, _⟩ := I.loc; hn.lt
theorem Inv.sz (I : Inv X pins σ H s) : X.s₀.heap.objs.size ≤ s.heap.objs.size := Nat.le_trans I.ok.above (Nat.le_of_lt I.lt)
theorem Inv.GA (I : Inv X pins σ H s) {a : Addr} (h : s.heap.objs.size ≤ a) : a ∉ X.fs := fun hb => by
  obtain ⟨_, o, ho, _⟩ := I.ok.oY.mem hb
  exact absurd (Nat.lt_of_lt_of_le (Heap.lt_size ho) (Nat.le_trans I.sz h)) (Nat.lt_irrefl _)
theorem Inv.cne (I : Inv X pins σ H s) : ∀ x c, X.env.cells.lookup x = some c → c ≠ X.env.locals := fun x c e z => by
  obtain ⟨v, o, ho, hd⟩ := I.cell x c e
  obtain ⟨m, ⟨o', es, ep, ho', hd', _⟩, _⟩ := I.loc
  rw [z, ho'] at ho; cases ho; rw [hd'] at hd; cases hd
theorem Inv.oY (I : Inv X pins σ H s) : s.heap.FunFrames X.base X.outer := by
  have all : ∀ (l : List Env), (∀ b ∈ frs l, b ∈ X.fs) → X.s₀.heap.FunFrames X.base l → s.heap.FunFrames X.base l := by
    intro l
    induction l with
    | nil => intro _ _; trivial
    | cons env r ih =>
      intro hs hl
      obtain ⟨hk, ⟨L, o, hf, hn, ho, hd⟩, hr⟩ := hl
      have hL : L ∈ X.fs := hs L (by unfold frs; rw [List.filterMap_cons, hf]; exact List.mem_cons_self)
      obtain ⟨sl, e⟩ := I.base.slot L o ho (I.ok.frf L hL) hL fun z => I.ok.Br L z hL
      exact ⟨hk, ⟨L, _, hf, hn, e, hd⟩, ih (fun b hb => hs b (by unfold frs; rw [List.filterMap_cons, hf]; exact List.mem_cons_of_mem _ hb)) hr⟩
  exact all X.outer (fun _ hb => hb) I.ok.oY
theorem Inv.stack (I : Inv X pins σ H s) : s.heap.FunFrames X.base X.stack := by
  rcases I.ok.stk with e | ⟨e, hf⟩
  · rw [e]; exact I.oY
  · rw [e]
    obtain ⟨m, hn, _⟩ := I.loc
    refine .cons (by rw [I.ok.kind]; decide) hf hn ?_ I.oY
    exact Heap.get?_none_of_le (Nat.le_trans I.ok.bsz I.ok.above)
theorem Inv.jy (I : Inv X pins σ H s) : ∀ b ∈ frs X.stack, b ∈ X.env.locals :: X.fs := fun b hb => by
  rcases I.ok.stk with e | ⟨e, hf⟩
  · rw [e] at hb; exact List.mem_cons_of_mem _ hb
  · rw [e] at hb
    unfold frs at hb
    rw [List.filterMap_cons, hf] at hb
    exact hb
theorem Inv.oj (I : Inv X pins σ H s) : ∀ b ∈ frs X.stack, H b = none := fun b hb => by
  rcases List.mem_cons.mp (I.jy b hb) with e | hb
  · rw [e]; exact I.free
  · obtain ⟨_, o, ho, _⟩ := I.ok.oY.mem hb
    exact I.base.free b o ho (I.ok.frf b hb) fun z => I.ok.Br b z hb
theorem Inv.step {g' : Array GenState} {t' : Nat} {d' : Drawn} {ch : List Addr} (I : Inv X pins σ H s)
    (hch : ∀ b ∈ ch, (b ∈ X.ex ∨ X.s₀.heap.objs.size ≤ b) ∧ b ≠ X.env.locals ∧ (∀ x c, X.env.cells.lookup x = some c → c ≠ b) ∧ ∀ p ∈ X.pn ++ pins, p.1 ≠ b)
    (keep : ∀ b o, b ≠ X.env.locals → b ∉ X.fs → b ∉ ch → s.heap.get? b = some o → H b = none → h'.get? b = some o)
    (slot : ∀ b o, b ≠ X.env.locals → b ∈ X.fs → b ∉ ch → s.heap.get? b = some o → H b = none → ∃ sl, h'.get? b = some { o with slots := sl }) (free : ∀ b o, b ∉ ch → s.heap.get? b = some o → H b = none → H' b = none)
    (there : ∀ b o, b ∉ ch → s.heap.get? b = some o → ∃ o', h'.get? b = some o')
    (nO : ∀ b xs, H b = some (.tup xs) → H' b = some (.tup xs)) (mX : ∀ b o u, H b = some (.frz o u) → H' b = some (.frz o u)) (mQ : ∀ b ps, H b = some (.tbl ps) → ∃ more, H' b = some (.tbl (ps ++ more)))
    (ns : ∀ m, s.heap.Ns X.env.locals m → h'.Ns X.env.locals m) (hok : HOk X.prog X.w H' h') (hg : AllBare g') :
    Inv X pins σ H' { s with heap := h', gens := g', drawn := d', toks := t' } := by
  have neL : ∀ b o, X.s₀.heap.get? b = some o → b ≠ X.env.locals := fun b o e => Nat.ne_of_lt (Nat.lt_of_lt_of_le (Heap.lt_size e) I.ok.above)
  have neC : ∀ b o, X.s₀.heap.get? b = some o → b ∉ X.ex → b ∉ ch := fun b o e hx hb => by
    rcases (hch b hb).1 with z | z
    · exact hx z
    · exact absurd (Nat.lt_of_lt_of_le (Heap.lt_size e) z) (Nat.lt_irrefl _)
  have cellK : ∀ x c, X.env.cells.lookup x = some c → ∀ v, s.heap.IsCell c v → h'.IsCell c v := fun x c e v ⟨o, ho, hd⟩ => by
    have nch : c ∉ ch := fun z => (hch c z).2.2.1 x c e rfl
    by_cases hc : c ∈ X.fs
    · obtain ⟨sl, q⟩ := slot c o (I.cne x c e) hc nch ho (I.jg x c e)
      exact ⟨_, q, hd⟩
    · exact ⟨o, keep c o (I.cne x c e) hc nch ho (I.jg x c e), hd⟩
  refine ⟨I.ok, I.os, hg, ⟨fun b o e n hb hx => ?_, fun b o e n hb hx => ?_, fun b o e n hx => ?_, fun b o e hx => ?_, fun b xs e => nO b xs (I.base.nO b xs e), fun b o xs e => mX b o xs (I.base.mX b o xs e), fun b ps e => ?_⟩, ?_, fun x c e => ?_, ?_, fun x c e => ?_, fun p hp => ?_, hok, I.len⟩
  · exact keep b o (neL b o e) hb (neC b o e hx) (I.base.keep b o e n hb hx) (I.base.free b o e n hx)
  · obtain ⟨sl, e1⟩ := I.base.slot b o e n hb hx
    obtain ⟨sl', e2⟩ := slot b _ (neL b o e) hb (neC b o e hx) e1 (I.base.free b o e n hx)
    exact ⟨sl', e2⟩
  · obtain ⟨o', e1⟩ := I.base.there b o e hx
    exact free b o' (neC b o e hx) e1 (I.base.free b o e n hx)
  · obtain ⟨o', e1⟩ := I.base.there b o e hx
    exact there b o' (neC b o e hx) e1
  · obtain ⟨m1, e1⟩ := I.base.mQ b ps e
    obtain ⟨m2, e2⟩ := mQ b _ e1
    exact ⟨m1 ++ m2, by rw [e2, Array.append_assoc]⟩
  · obtain ⟨m, hn, hl⟩ := I.loc
    refine ⟨m, ns m hn, fun i x v e1 e2 e3 => ?_⟩
    obtain ⟨u, r, l⟩ := hl i x v e1 e2 e3
    refine ⟨u, r, ?_⟩
    rcases l with l | ⟨k, c, e, z⟩
    · exact .inl l
    · exact .inr ⟨k, c, e, cellK x c e _ z⟩
  · obtain ⟨v, z⟩ := I.cell x c e
    exact ⟨v, cellK x c e v z⟩
  · obtain ⟨m, ⟨o, _, _, ho, _⟩, _⟩ := I.loc
    exact free _ o (fun z => (hch _ z).2.1 rfl) ho I.free
  · obtain ⟨v, o, ho, hd⟩ := I.cell x c e
    exact free c o (fun z => (hch c z).2.2.1 x c e rfl) ho (I.jg x c e)
  · obtain ⟨e, n, ne, nf, d⟩ := I.pin p hp
    have nch : p.1 ∉ ch := fun z => (hch p.1 z).2.2.2 p hp rfl
    exact ⟨keep p.1 p.2 ne nf nch e n, free p.1 p.2 nch e n, ne, nf, d⟩
theorem Inv.un {t' : Nat} (I : Inv X pins σ H s) (u : Un X.fs [] H H' s.heap h') (hok : HOk X.prog X.w H' h') : Inv X pins σ H' { s with heap := h', toks := t' } := by
  obtain ⟨m, ⟨o, es, ep, ho, r⟩, _⟩ := id I.loc
  obtain ⟨sl, hL⟩ := u.any ho I.free (by simp)
  exact I.step (g' := s.gens) (d' := s.drawn) (ch := []) (fun _ z => nomatch z) (fun b o _ hb _ e n => u.keep b o e n hb (by simp)) (fun b o _ hb _ e n => u.slot b o e n hb (by simp)) (fun b o _ e n => u.free b o e n (by simp)) (fun b o _ e => u.there b o e (by simp)) u.nO u.mX u.mQ (fun m' hm => by
    obtain ⟨o', es', ep', ho', r'⟩ := hm
    rw [ho] at ho'; cases ho'
    exact ⟨_, es', ep', hL, r'⟩) hok I.bare
theorem Inv.call {g' : Array GenState} {t' : Nat} {d' : Drawn} {ch : List Addr} (I : Inv X pins σ H s) (u : Un (frs X.stack) ch H H' s.heap h') (hok : HOk X.prog X.w H' h') (hg : AllBare g')
    (hch : ∀ b ∈ ch, (b ∈ X.ex ∨ X.s₀.heap.objs.size ≤ b) ∧ b ≠ X.env.locals ∧ (∀ x c, X.env.cells.lookup x = some c → c ≠ b) ∧ ∀ p ∈ X.pn ++ pins, p.1 ≠ b) :
    Inv X pins σ H' { s with heap := h', gens := g', drawn := d', toks := t' } := by
  obtain ⟨m, ⟨o, es, ep, ho, r⟩, _⟩ := id I.loc
  obtain ⟨sl, hL⟩ := u.any ho I.free fun z => (hch _ z).2.1 rfl
  exact I.step (ch := ch) hch (fun b o hL hb hc e n => u.keep b o e n (fun z => (List.mem_cons.mp (I.jy b z)).elim hL hb) hc) (fun b o _ _ hc e n => u.any e n hc) (fun b o hc e n => u.free b o e n hc) (fun b o hc e => u.there b o e hc) u.nO u.mX u.mQ (fun m' hm => by
    obtain ⟨o', es', ep', ho', r'⟩ := hm
    rw [ho] at ho'; cases ho'
    exact ⟨_, es', ep', hL, r'⟩) hok hg
theorem Inv.turned {t' : Nat} {it : Addr} (I : Inv X pins σ H s) (k : ∀ b o, b ≠ it → s.heap.get? b = some o → h'.get? b = some o) (hn : H it = none) (hL : it ≠ X.env.locals)
    (h1 : it ∈ X.ex ∨ X.s₀.heap.objs.size ≤ it) (h2 : ∀ x c, X.env.cells.lookup x = some c → c ≠ it) (h3 : ∀ p ∈ X.pn ++ pins, p.1 ≠ it) : Inv X pins σ H { s with heap := h', toks := t' } := by
  have nit : ∀ b u, H b = some u → b ≠ it := fun b u e z => by rw [z, hn] at e; cases e
  refine I.step (g' := s.gens) (d' := s.drawn) (ch := [it]) (fun b hb => ?_) (fun b o _ _ hc e _ => k b o (fun z => hc (by simp [z])) e) (fun b o _ _ hc e _ => ⟨o.slots, k b o (fun z => hc (by simp [z])) e⟩) (fun _ _ _ _ n => n)
    (fun b o hc e => ⟨o, k b o (fun z => hc (by simp [z])) e⟩) (fun _ _ e => e) (fun _ _ _ e => e) (fun b ps e => ⟨#[], by rw [e]; simp⟩) (fun m hm => ?_) (fun b u e => ?_) I.bare
  · have e : b = it := by simpa using hb
    subst e
    exact ⟨h1, hL, h2, h3⟩
  · obtain ⟨o, es, ep, ho, r⟩ := hm
    exact ⟨o, es, ep, k _ o (Ne.symm hL) ho, r⟩
  · refine (I.hok b u e).sS (fun c v hc q => k c v ?_ q) (fun _ q => q) fun _ _ q => q
    rcases hc with z | z
    · rw [z]; exact nit b u e
    · exact nit c _ z
theorem Inv.tok (I : Inv X pins σ H s) (t : Nat) : Inv X pins σ H { s with toks := t } := I.un (h' := s.heap) (t' := t) Un.refl I.hok
theorem Inv.kept {t' : Nat} (I : Inv X pins σ H s) (k : ∀ b u, s.heap.get? b = some u → h'.get? b = some u) : Inv X pins σ H { s with heap := h', toks := t' } := I.un (Un.kept k) (I.hok.kept k)
theorem Inv.laid {a : Addr} {o : HO} {t' : Nat} (I : Inv X pins σ H s) (k : ∀ b u, s.heap.get? b = some u → h'.get? b = some u) (hp : s.heap.objs.size ≤ a) (new : jd X.prog X.w (upd H a o) h' a o) :
    Inv X pins σ (upd H a o) { s with heap := h', toks := t' } := I.un (Un.laid k hp (I.hok.fresh hp)) (I.hok.laid k hp new)
theorem Inv.write {x e : Addr} {o : HO} {t' : Nat} (I : Inv X pins σ H s) (mu : Mut (H x)) (he : e = x ∨ H e = some (.own x)) (k : ∀ b u, b ≠ e → s.heap.get? b = some u → h'.get? b = some u) (heo : ∃ u, h'.get? e = some u)
    (new : jd X.prog X.w (upd H x o) h' x o) : Inv X pins σ (upd H x o) { s with heap := h', toks := t' } := I.un (Un.write mu he k heo) (I.hok.write mu he k heo new)
theorem Inv.wR {pins' : List (Addr × Obj)} (I : Inv X pins σ H s) (h : ∀ p ∈ pins', s.heap.get? p.1 = some p.2 ∧ H p.1 = none ∧ p.1 ≠ X.env.locals ∧ p.1 ∉ X.fs ∧ ∀ v, p.2.data ≠ .cell v) : Inv X pins' σ H s :=
  ⟨I.ok, I.os, I.bare, I.base, I.loc, I.cell, I.free, I.jg, fun p hp => (List.mem_append.mp hp).elim (fun z => I.pin p (List.mem_append_left _ z)) (h p), I.hok, I.len⟩
theorem u4 {N : List Str} (hN : N.Nodup) {i j : Nat} {x : Str} (a : N[i]? = some x) (b : N[j]? = some x) : i = j := by
  obtain ⟨h1, e1⟩ := List.getElem?_eq_some_iff.mp a
  obtain ⟨h2, e2⟩ := List.getElem?_eq_some_iff.mp b
  exact (List.getElem_inj hN).mp (e1.trans e2.symm)
theorem xI {M : Model} {A : Around} {E : Value → Shared → Prop} {i : Nat} {x : Str} {v : V} {u : Value} {Q : Unit → Shared → Prop} (I : Inv X pins σ H s) (hN : X.N.Nodup) (hi : X.N[i]? = some x) (hx : Loc X.env.scope x) (r : RelV v u)
    (h : ∀ s', Inv X pins (σ.set i (some v)) H s' → (∃ a, Heap.SameBut a s.heap s'.heap ∧ (a = X.env.locals ∨ X.env.cells.lookup x = some a)) → Q () s') (hf : X.fn x = true ∨ X.env.scope.names.lookup x = some .local := by first | exact .inl rfl | exact .inr rfl | assumption) : wpAny M A (storeName X.env x u) Q E s := by
  obtain ⟨m, hn, hl⟩ := id I.loc
  have hcls : (X.env.scope.kind == .class || (X.env.scope.kind == .module && X.env.locals != X.env.globals)) = false := by rw [I.ok.kind]; rfl
  have hiσ : i < σ.length := by rw [I.len]; exact (List.getElem?_eq_some_iff.mp hi).1
  have cne := I.cne
  have tracked : ∀ {a : Addr} {h' : Heap}, (∃ o, s.heap.get? a = some o ∧ H a = none) → Heap.SameBut a s.heap h' → HOk X.prog X.w H h' := fun {a h'} ha hs b ob e => by
    obtain ⟨_, _, hfree⟩ := ha
    refine (I.hok b ob e).sS (fun c w' hc q => (hs.2 c ?_).trans q) (fun _ q => q) fun _ _ q => q
    rintro rfl
    rcases hc with rfl | hc
    · rw [hfree] at e; cases e
    · rw [hfree] at hc; cases hc
  rcases hx with hk | hk
  · refine wpAny_storeName_local hk hn (fun h' hn' hs => ?_) hcls
    obtain ⟨oL, _, _, hoL, _⟩ := id hn
    refine h _ ⟨I.ok, I.os, I.bare, ⟨fun b o e n hb hx => ?_, fun b o e n hb hx => ?_, I.base.free, fun b o e hx => ?_, I.base.nO, I.base.mX, I.base.mQ⟩, ⟨_, hn', fun j y v' e1 e2 e3 => ?_⟩, fun y c e => ?_, I.free, I.jg, fun p hp => ?_, tracked ⟨oL, hoL, I.free⟩ hs, by simpa using I.len⟩ ⟨_, hs, .inl rfl⟩
    · exact (hs.2 b (Nat.ne_of_lt (Nat.lt_of_lt_of_le (Heap.lt_size e) I.ok.above))).trans (I.base.keep b o e n hb hx)
    · obtain ⟨sl, e1⟩ := I.base.slot b o e n hb hx
      exact ⟨sl, (hs.2 b (Nat.ne_of_lt (Nat.lt_of_lt_of_le (Heap.lt_size e) I.ok.above))).trans e1⟩
    · obtain ⟨o', e1⟩ := I.base.there b o e hx
      exact ⟨o', (hs.2 b (Nat.ne_of_lt (Nat.lt_of_lt_of_le (Heap.lt_size e) I.ok.above))).trans e1⟩
    · by_cases hj : j = i
      · subst hj
        rw [hi] at e1; cases e1
        rw [List.getElem?_set_self hiσ] at e2
        cases e2
        exact ⟨u, r, .inl ⟨hk, by simp⟩⟩
      · rw [List.getElem?_set_ne (Ne.symm hj)] at e2
        obtain ⟨u', r', q⟩ := hl j y v' e1 e2 e3
        refine ⟨u', r', ?_⟩
        rcases q with ⟨k, e⟩ | ⟨k, c, e, z⟩
        · refine .inl ⟨k, ?_⟩
          have : y ≠ x := fun e => hj (u4 hN e1 (e ▸ hi))
          simp [this, e]
        · exact .inr ⟨k, c, e, z.sameBut hs (cne y c e)⟩
    · obtain ⟨w', z⟩ := I.cell y c e
      exact ⟨w', z.sameBut hs (cne y c e)⟩
    · obtain ⟨e, n, ne, nf, d⟩ := I.pin p hp
      exact ⟨(hs.2 p.1 ne).trans e, n, ne, nf, d⟩
  · have hfn : X.fn x = true := by
      rcases hf with z | z
      · exact z
      · rw [z] at hk; cases hk
    obtain ⟨c, hc⟩ := I.ok.has x (.inl hk)
    obtain ⟨w', z⟩ := I.cell x c hc
    refine wpAny_storeName_cell I.ok.kind hk hc z (fun h' hc' hs => ?_)
    obtain ⟨oc, hoc, hocd⟩ := id z
    refine h { s with heap := h' } ⟨I.ok, I.os, I.bare, ⟨fun b o e n hb hx => ?_, fun b o e n hb hx => ?_, I.base.free, fun b o e hx => ?_, I.base.nO, I.base.mX, I.base.mQ⟩, ⟨m, hn.sameBut hs (Ne.symm (cne x c hc)), fun j y v' e1 e2 e3 => ?_⟩, fun y c' e => ?_, I.free, I.jg, fun p hp => ?_, tracked ⟨oc, hoc, I.jg x c hc⟩ hs, by simpa using I.len⟩ ⟨c, hs, .inr hc⟩
    · exact (hs.2 b (Nat.ne_of_lt (Nat.lt_of_lt_of_le (Heap.lt_size e) (I.ok.cab x c hfn hc)))).trans (I.base.keep b o e n hb hx)
    · obtain ⟨sl, e1⟩ := I.base.slot b o e n hb hx
      exact ⟨sl, (hs.2 b (Nat.ne_of_lt (Nat.lt_of_lt_of_le (Heap.lt_size e) (I.ok.cab x c hfn hc)))).trans e1⟩
    · obtain ⟨o', e1⟩ := I.base.there b o e hx
      exact ⟨o', (hs.2 b (Nat.ne_of_lt (Nat.lt_of_lt_of_le (Heap.lt_size e) (I.ok.cab x c hfn hc)))).trans e1⟩
    · by_cases hj : j = i
      · subst hj
        rw [hi] at e1; cases e1
        rw [List.getElem?_set_self hiσ] at e2
        cases e2
        exact ⟨u, r, .inr ⟨.inl hk, c, hc, hc'⟩⟩
      · rw [List.getElem?_set_ne (Ne.symm hj)] at e2
        obtain ⟨u', r', q⟩ := hl j y v' e1 e2 e3
        refine ⟨u', r', ?_⟩
        rcases q with q | ⟨k, c', e, z'⟩
        · exact .inl q
        · refine .inr ⟨k, c', e, z'.sameBut hs ?_⟩
          rintro rfl
          exact hj (u4 hN e1 (I.ok.inj _ _ _ e hc ▸ hi))
    · by_cases hcc : c' = c
      · subst hcc; exact ⟨_, hc'⟩
      · obtain ⟨w2, z2⟩ := I.cell y c' e
        exact ⟨w2, z2.sameBut hs hcc⟩
    · obtain ⟨e, n, ne, nf, d⟩ := I.pin p hp
      refine ⟨(hs.2 p.1 ?_).trans e, n, ne, nf, d⟩
      intro q
      rw [q, hoc] at e
      have q' : oc = p.2 := Option.some.inj e
      exact d w' (by rw [← q']; exact hocd)
theorem jt {M : Model} {A : Around} {E : Value → Shared → Prop} {i : Nat} {x : Str} {v : V} {u : Value} {Q : Unit → Shared → Prop} (I : Inv X pins σ H s) (hN : X.N.Nodup) (hi : X.N[i]? = some x) (hx : Loc X.env.scope x) (r : RelV v u)
    (h : ∀ s', Inv X pins (σ.set i (some v)) H s' → Q () s') (hf : X.fn x = true ∨ X.env.scope.names.lookup x = some .local := by first | exact .inl rfl | exact .inr rfl | assumption) : wpAny M A (storeName X.env x u) Q E s :=
  xI I hN hi hx r (fun s' I' _ => h s' I') hf
theorem Inv.xj {s' : Shared} {ch : List Addr} (I : Inv X pins σ H s) (ho : s'.os = s.os) (u : Un (frs X.stack) ch H H' s.heap s'.heap) (hok : HOk X.prog X.w H' s'.heap) (hg : AllBare s'.gens)
    (hch : ∀ b ∈ ch, (b ∈ X.ex ∨ X.s₀.heap.objs.size ≤ b) ∧ b ≠ X.env.locals ∧ (∀ x c, X.env.cells.lookup x = some c → c ≠ b) ∧ ∀ p ∈ X.pn ++ pins, p.1 ≠ b) : Inv X pins σ H' s' := by
  obtain ⟨h', g', d', t', o'⟩ := s'
  have e : o' = s.os := ho
  subst e
  exact I.call (g' := g') (t' := t') (d' := d') u hok hg hch
end
abbrev XK := Value → Option Addr → Hp → Prop
abbrev St := List (Option V)
abbrev VK := V → Hp → Prop
abbrev TE := St → Hp → VK → Prop
abbrev TT := St → Hp → (Bool → Hp → Prop) → Prop
abbrev TA := St → Hp → (List V → Hp → Prop) → Prop
structure Ends where
  nx : St → Hp → Prop
  rt : VK
  bk : St → Hp → Prop := fun _ _ => False
  ct : St → Hp → Prop := fun _ _ => False
abbrev TS := Ends → St → Hp → Prop
def EP (X : Cx) (pins : List (Addr × Obj)) (σ : St) (Q : VK) (u : Value) (s' : Shared) : Prop := ∃ v H', Inv X pins σ H' s' ∧ RelV v u ∧ Q v H'
def TP (X : Cx) (pins : List (Addr × Obj)) (σ : St) (Q : Bool → Hp → Prop) (b : Bool) (s' : Shared) : Prop := ∃ H', Inv X pins σ H' s' ∧ Q b H'
def AP (X : Cx) (pins : List (Addr × Obj)) (σ : St) (Q : List V → Hp → Prop) (us : List Value) (s' : Shared) : Prop := ∃ vs H', Inv X pins σ H' s' ∧ Vals vs us ∧ Q vs H'
def SP (X : Cx) (pins : List (Addr × Obj)) (D : Ends) (f : Flow) (s' : Shared) : Prop :=
  match f with
  | .next => ∃ σ' H', Inv X pins σ' H' s' ∧ D.nx σ' H'
  | .brk => ∃ σ' H', Inv X pins σ' H' s' ∧ D.bk σ' H'
  | .cont => ∃ σ' H', Inv X pins σ' H' s' ∧ D.ct σ' H'
  | .ret u => ∃ v σ' H', Inv X pins σ' H' s' ∧ RelV v u ∧ D.rt v H'
def PE (X : Cx) (e : Expr) (t : TE) : Prop :=
  ∀ (pins : List (Addr × Obj)) (s : Shared) (σ : St) (H : Hp) (Q : VK), Inv X pins σ H s → t σ H Q → wpAny (model X.prog X.w) X.A (eval e X.env) (EP X pins σ Q) X.xe s
def PT (X : Cx) (e : Expr) (t : TT) : Prop :=
  ∀ (pins : List (Addr × Obj)) (s : Shared) (σ : St) (H : Hp) (Q : Bool → Hp → Prop), Inv X pins σ H s → t σ H Q → wpAny (model X.prog X.w) X.A (isTrue e X.env (eval e X.env)) (TP X pins σ Q) X.xe s
def PW (X : Cx) (e : Expr) (t : TT) : Prop :=
  ∀ (whole : Sem Value) (pins : List (Addr × Obj)) (s : Shared) (σ : St) (H : Hp) (Q : Bool → Hp → Prop), Inv X pins σ H s → t σ H Q → wpAny (model X.prog X.w) X.A (isTrue e X.env whole) (TP X pins σ Q) X.xe s
theorem PW.pt {X : Cx} {e : Expr} {t : TT} (h : PW X e t) : PT X e t := h _
def PA (X : Cx) (es : List Expr) (t : TA) : Prop :=
  ∀ (pos : Pos) (pins : List (Addr × Obj)) (s : Shared) (σ : St) (H : Hp) (Q : List V → Hp → Prop), Inv X pins σ H s → t σ H Q → wpAny (model X.prog X.w) X.A (spliced (backTo pos (starEach es X.env))) (AP X pins σ Q) X.xe s
def PS (X : Cx) (st : Stmt) (t : TS) : Prop :=
  ∀ (pins : List (Addr × Obj)) (s : Shared) (σ : St) (H : Hp) (D : Ends), Inv X pins σ H s → t D σ H → wpAny (model X.prog X.w) X.A (exec st X.env) (SP X pins D) X.xe s
def PSs (X : Cx) (st : List Stmt) (t : TS) : Prop :=
  ∀ (pins : List (Addr × Obj)) (s : Shared) (σ : St) (H : Hp) (D : Ends), Inv X pins σ H s → t D σ H → wpAny (model X.prog X.w) X.A (execs st X.env) (SP X pins D) X.xe s
theorem thn {α : Type} {t : Sem α} {Q Q' : α → Shared → Prop} {M : Model} {A : Around} {E : Value → Shared → Prop} {s : Shared} (h : wpAny M A t Q E s) (hQ : ∀ a s, Q a s → Q' a s) : wpAny M A t Q' E s := wpAny_mono h hQ fun _ _ x => x
end L2
namespace L2
open PySem PySem.Spec PyProof.Rows
section
variable {X : Cx}
theorem bin {a b : Expr} {ta tb : TE} (ha : PE X a ta) (hb : PE X b tb) {pins : List (Addr × Obj)} {s : Shared} {σ : St} {H : Hp} {R : V → V → Hp → Prop} (I : Inv X pins σ H s) (h : ta σ H fun x H1 => tb σ H1 fun y H2 => R x y H2)
    {α : Type} {Q : α → Shared → Prop} {f : Value → Value → Sem α}
    (hf : ∀ v u s2 x y H2, Inv X pins σ H2 s2 → RelV x v → RelV y u → R x y H2 → wpAny (model X.prog X.w) X.A (f v u) Q X.xe s2) :
    wpAny (model X.prog X.w) X.A (eval a X.env) (fun v s₁ => wpAny (model X.prog X.w) X.A (eval b X.env) (fun u s₂ => wpAny (model X.prog X.w) X.A (f v u) Q X.xe s₂) X.xe s₁) X.xe s := by
  refine thn (ha pins s σ H _ I h) fun v s1 ⟨x, H1, I1, r1, q1⟩ => ?_
  refine thn (hb pins s1 σ H1 _ I1 q1) fun u s2 ⟨y, H2, I2, r2, q2⟩ => ?_
  exact hf v u s2 x y H2 I2 r1 r2 q2
def E2 (i : Nat) : TE := fun σ H Q => ∃ v, σ[i]? = some (some v) ∧ Q v H
def tC (v : V) : TE := fun _ H Q => Q v H
theorem Ea {i : Nat} {x : Str} {pos : Pos} (hN : X.N[i]? = some x) (hv : Vis X.env.scope x) (hd : (x == ("__debug__" : Str)) = false := by decide) (hcd : (x == ("__classdict__" : Str)) = false := by decide) : PE X (.Name x pos) (E2 i) := by
  intro pins s σ H Q I h
  obtain ⟨v, e, h⟩ := h
  obtain ⟨m, hn, hl⟩ := I.loc
  obtain ⟨u, r, l⟩ := hl i x v hN e hv
  have fin : EP X pins σ Q u s := ⟨v, H, I, r, h⟩
  rcases l with ⟨hk, hm⟩ | ⟨hk, c, hc, hcell⟩
  · exact wpAny_Name (wpAny_loadName_local I.ok.kind hk hn hm fin) hd
  · rcases hk with hk | hk
    · exact wpAny_Name (wpAny_loadName_cell I.ok.kind hk hc hcell fin) hd
    · exact wpAny_Name (wpAny_loadName_free I.ok.kind hk hc hcell fin hcd) hd
theorem Dn {i j pos} : PE X (.Constant (.int i) j pos) (tC (.int i)) := fun _ _ _ H _ I h => wpAny_Constant_int ⟨.int i, H, I.tok _, ⟨_, rfl⟩, h⟩
theorem Ex {b j pos} : PE X (.Constant (.bool b) j pos) (tC (.bl b)) := fun _ _ _ H _ I h => Constant_bool ⟨.bl b, H, I, rfl, h⟩
theorem DR {j pos} : PE X (.Constant .none j pos) (tC .non) := fun _ _ _ H _ I h => Constant_none ⟨.non, H, I, rfl, h⟩
theorem Eo {x j pos} : PE X (.Constant (.str x) j pos) (tC (.str x)) := fun _ _ _ H _ I h => Calls.Constant_str ⟨.str x, H, I.tok _, ⟨_, rfl⟩, h⟩
def Gl (X : Cx) (x : Str) : Prop := X.env.kindOf x = some .globalImplicit
theorem xp {E : Value → Shared → Prop} {pins : List (Addr × Obj)} {s : Shared} {σ : St} {H : Hp} {x : Str} {u : Value} {pos : Pos} {Q : Value → Shared → Prop} (I : Inv X pins σ H s) (hg : Gl X x) (hm : X.mg x = some u) (h : Q u s)
    (hd : (x == ("__debug__" : Str)) = false := by decide) : wpAny (model X.prog X.w) X.A (eval (.Name x pos) X.env) Q E s :=
  Calls.Name_function_global I.ok.kind hg (Calls.loadGlobal_global (by rw [I.ok.glob]; exact I.mod.glob.keeps I.bk) hm h) hd
theorem oW {E : Value → Shared → Prop} {pins : List (Addr × Obj)} {s : Shared} {σ : St} {H : Hp} {x : Str} {u : Value} {pos : Pos} {Q : Value → Shared → Prop} (I : Inv X pins σ H s) (hg : Gl X x) (hm : X.mg x = none) (hv : bootBuiltins x = some u) (h : Q u s)
    (hn : x ≠ "__name__" := by decide) (hd : (x == ("__debug__" : Str)) = false := by decide) : wpAny (model X.prog X.w) X.A (eval (.Name x pos) X.env) Q E s := by
  obtain ⟨mb, h1, h2⟩ := I.mod.blt
  exact Calls.Name_function_global I.ok.kind hg (Calls.loadGlobal_builtin (by rw [I.ok.glob]; exact I.mod.glob.keeps I.bk) hm (by rw [I.ok.blt]; exact h1.keeps I.bk) ((h2 x hn).trans hv) h) hd
theorem A2 {x : Str} {v : V} {u : Value} {pos : Pos} (hg : Gl X x) (hm : X.mg x = some u) (r : RelV v u) (hd : (x == ("__debug__" : Str)) = false := by decide) : PE X (.Name x pos) (tC v) :=
  fun _ _ _ H _ I h => xp I hg hm ⟨v, H, I, r, h⟩ hd
theorem wJ {x : Str} {v : V} {u : Value} {pos : Pos} (hg : Gl X x) (hm : X.mg x = none) (hv : bootBuiltins x = some u) (r : RelV v u) (hn : x ≠ "__name__" := by decide) (hd : (x == ("__debug__" : Str)) = false := by decide) : PE X (.Name x pos) (tC v) :=
  fun _ _ _ H _ I h => oW I hg hm hv ⟨v, H, I, r, h⟩ hn hd
variable {a b : Expr} {ta tb : TE} {pos : Pos}
def PC (X : Cx) (op : CmpOp) (a b : Expr) (t : TE) : Prop :=
  ∀ (pins : List (Addr × Obj)) (s : Shared) (σ : St) (H : Hp) (Q : VK), Inv X pins σ H s → t σ H Q →
    wpAny (model X.prog X.w) X.A (eval a X.env) (fun v s₁ => wpAny (model X.prog X.w) X.A (eval b X.env) (fun u s₂ => wpAny (model X.prog X.w) X.A (compareOp op v u) (EP X pins σ Q) X.xe s₂) X.xe s₁) X.xe s
theorem zF (b : Expr) {op : CmpOp} (h : op ≠ .In) (h2 : op ≠ .NotIn) : behindInMarks op b = false := by
  have e1 : (op == CmpOp.In) = false := by cases op <;> first | rfl | exact absurd rfl h
  have e2 : (op == CmpOp.NotIn) = false := by cases op <;> first | rfl | exact absurd rfl h2
  cases b <;> simp [behindInMarks, e1, e2]
def tB (t : TE) : TT := fun σ H Q => t σ H fun x H1 => ∃ c, x = .bl c ∧ Q c H1
theorem Gf {op : CmpOp} {t : TE} (h : PC X op a b t) (h1 : behindInMarks op b = false := by first | exact zF _ (by decide) (by decide) | rfl) : PT X (.Compare a [op] [b] pos) (tB t) := by
  intro pins s σ H Q I hw
  refine wpAny_isTrue_Compare1 (thn (h pins s σ H _ I hw) fun v s1 h1 => thn h1 fun u s2 h2 => thn h2 fun c s3 ⟨x, H1, I1, r1, q1⟩ => ?_) h1
  obtain ⟨d, rfl, q⟩ := q1
  cases r1
  exact wpAny_truthy_bool ⟨H1, I1, q⟩
theorem CY {e : Expr} {t : TE} (h : PE X e t) (he : ∀ whole, isTrue e X.env whole = (do let v ← whole; standAt e.pos; holding [v] (truthy v)) := by intro _; rfl) : PT X e (tB t) := by
  intro pins s σ H Q I hw
  refine isTrue_plain (thn (h pins s σ H _ I hw) fun v s1 ⟨x, H1, I1, r1, q1⟩ => ?_) (he _)
  obtain ⟨d, rfl, q⟩ := q1
  cases r1
  exact wpAny_truthy_bool ⟨H1, I1, q⟩
variable {tA tB' : TT} {rest : List Expr}
def Gg (t u : TT) : TT := fun σ H Q => t σ H fun c H1 => if c = true then u σ H1 Q else Q false H1
def tOr (t u : TT) : TT := fun σ H Q => t σ H fun c H1 => if c = true then Q true H1 else u σ H1 Q
def Gn (t : TT) : TT := fun σ H Q => t σ H fun c H1 => Q (!c) H1
theorem pw_and1 (ha : PT X a tA) : PW X (.BoolOp .And [a] pos) tA := by
  intro wh pins s σ H Q I h
  refine isTrue_and (thn (ha pins s σ H Q I h) fun c s1 e => ?_)
  cases c with
  | true => exact isTrue_and_nil e
  | false => exact e
theorem pw_or1 (ha : PT X a tA) : PW X (.BoolOp .Or [a] pos) tA := by
  intro wh pins s σ H Q I h
  refine isTrue_or (thn (ha pins s σ H Q I h) fun c s1 e => ?_)
  cases c with
  | false => exact isTrue_or_nil e
  | true => exact e
theorem pw_and (ha : PT X a tA) (hb : PW X (.BoolOp .And (b :: rest) pos) tB') : PW X (.BoolOp .And (a :: b :: rest) pos) (Gg tA tB') := by
  intro wh pins s σ H Q I h
  refine isTrue_and (thn (ha pins s σ H _ I h) fun c s1 ⟨H1, I1, q1⟩ => ?_)
  cases c with
  | true => exact hb wh pins s1 σ H1 Q I1 q1
  | false => exact ⟨H1, I1, q1⟩
theorem pw_or (ha : PT X a tA) (hb : PW X (.BoolOp .Or (b :: rest) pos) tB') : PW X (.BoolOp .Or (a :: b :: rest) pos) (tOr tA tB') := by
  intro wh pins s σ H Q I h
  refine isTrue_or (thn (ha pins s σ H _ I h) fun c s1 ⟨H1, I1, q1⟩ => ?_)
  cases c with
  | true => exact ⟨H1, I1, q1⟩
  | false => exact hb wh pins s1 σ H1 Q I1 q1
theorem C8 (ha : PT X a tA) : PT X (.UnaryOp .Not a pos) (Gn tA) := by
  intro pins s σ H Q I h
  exact isTrue_not (ha pins s σ H (fun c H1 => Q (!c) H1) I h)
def Fz (ta tb : TE) : TE := fun σ H Q => ta σ H fun x H1 => ∃ c, x = .bl c ∧ if c = true then tb σ H1 Q else Q (.bl false) H1
def E3 (ta : TE) : TE := fun σ H Q => ta σ H fun x H1 => ∃ c, x = .bl c ∧ Q (.bl (!c)) H1
theorem Dr {op} {t : TE} (h : PE X a t) : PE X (.BoolOp op [a] pos) t := fun pins s σ H Q I hw => BoolOp_one (h pins s σ H Q I hw)
theorem D9 (ha : PE X a ta) (hb : PE X (.BoolOp .And (b :: rest) pos) tb) : PE X (.BoolOp .And (a :: b :: rest) pos) (Fz ta tb) := by
  intro pins s σ H Q I h
  refine BoolOp_and (thn (ha pins s σ H _ I h) fun v s1 ⟨x, H1, I1, r1, q1⟩ => ?_)
  obtain ⟨c, rfl, q1⟩ := q1
  cases r1
  refine wpAny_truthy_bool ?_
  cases c with
  | true => exact hb pins s1 σ H1 Q I1 q1
  | false => exact ⟨.bl false, H1, I1, rfl, q1⟩
theorem C2 (ha : PE X a ta) : PE X (.UnaryOp .Not a pos) (E3 ta) := by
  intro pins s σ H Q I h
  refine UnaryOp_ (thn (ha pins s σ H _ I h) fun v s1 ⟨x, H1, I1, r1, q1⟩ => ?_)
  obtain ⟨c, rfl, q1⟩ := q1
  cases r1
  exact not_of (wpAny_truthy_bool ⟨.bl (!c), H1, I1, rfl, q1⟩)
def tIf (t : TT) (ta tb : TE) : TE := fun σ H Q => t σ H fun c H1 => if c = true then ta σ H1 Q else tb σ H1 Q
theorem zv {c : Expr} (hc : PT X c tA) (ha : PE X a ta) (hb : PE X b tb) : PE X (.IfExp c a b pos) (tIf tA ta tb) := by
  intro pins s σ H Q I h
  refine wpAny_IfExp (thn (hc pins s σ H _ I h) fun d s1 ⟨H1, I1, q1⟩ => ?_)
  cases d with
  | true => exact ha pins s1 σ H1 Q I1 q1
  | false => exact hb pins s1 σ H1 Q I1 q1
end
end L2
namespace L2
open PySem PySem.Spec PyProof.Rows
def SqL (K : PySem.W.Frag) (H : Hp) (a : Addr) (xs : List V) : Prop :=
  Rd H a (.lst xs) ∨
    ∃ (o : Obj) (its : Array Value) (n : Nat), K.lookup a = some o ∧ o.cls = .type "list" ∧ o.dict = none ∧ o.data = .seq its n ∧ its.size ≤ sizeLine ∧ Vals xs its.toList
def SqT (K : PySem.W.Frag) (H : Hp) (a : Addr) (xs : List V) : Prop :=
  Rd H a (.tup xs) ∨
    ∃ (o : Obj) (its : Array Value) (n : Nat), K.lookup a = some o ∧ o.cls = .type "tuple" ∧ o.data = .seq its n ∧ its.size ≤ sizeLine ∧ Vals xs its.toList
def FL : Value → Option V
  | .none => some .non
  | .bool b => some (.bl b)
  | .int i _ => some (.int i)
  | .str x _ => some (.str x)
  | .bytes b _ => some (.byt b)
  | .float b _ => some (.flt b)
  | .ref a => some (.ref a)
  | .type n => some (.ty n)
  | _ => none
theorem RelV.abs {x : V} {u : Value} (r : RelV x u) : FL u = some x := by
  cases x with
  | non => cases r; rfl
  | bl _ => cases r; rfl
  | int _ => obtain ⟨t, rfl⟩ := r; rfl
  | str _ => obtain ⟨t, rfl⟩ := r; rfl
  | byt _ => obtain ⟨t, rfl⟩ := r; rfl
  | flt _ => obtain ⟨t, rfl⟩ := r; rfl
  | ref _ => cases r; rfl
  | ty _ => cases r; rfl
theorem RelV.inj {x y : V} {u : Value} (r : RelV x u) (q : RelV y u) : x = y := Option.some.inj (r.abs.symm.trans q.abs)
theorem Vals.inj : ∀ {xs ys : List V} {us : List Value}, Vals xs us → Vals ys us → xs = ys
  | _, _, _, .nil, .nil => rfl
  | _, _, _, .cons r t, .cons r' t' => by rw [r.inj r', Vals.inj t t']
section
variable {X : Cx} {pins : List (Addr × Obj)} {σ : St} {H : Hp} {s : Shared} {a : Addr} {xs ys : List V}
theorem SqL.of {K : PySem.W.Frag} (h : H a = some (.lst xs)) : SqL K H a xs := .inl (.inl h)
theorem SqT.of {K : PySem.W.Frag} (h : H a = some (.tup xs)) : SqT K H a xs := .inl (.inl h)
theorem Inv.list (I : Inv X pins σ H s) (h : SqL X.K H a xs) : ∃ its : List Value, Vals xs its ∧ PlainL s.heap a its.toArray ∧ xs.length ≤ sizeLine := by
  rcases h with h | ⟨o, its, n, hk, hc, hd, hs, hz, r⟩
  · obtain ⟨z, its, n, r, e⟩ := h.ok I.hok
    exact ⟨its, r, ⟨_, n, e, rfl, rfl, rfl⟩, z⟩
  · refine ⟨its.toList, r, ⟨o, n, I.kIn a o hk, hc, hd, by simpa using hs⟩, ?_⟩
    have e := r.length
    simp only [Array.length_toList] at e
    omega
theorem Inv.tuple (I : Inv X pins σ H s) (h : SqT X.K H a xs) : ∃ its : List Value, Vals xs its ∧ IsTup s.heap a its.toArray ∧ xs.length ≤ sizeLine := by
  rcases h with h | ⟨o, its, n, hk, hc, hs, hz, r⟩
  · obtain ⟨z, its, r, p⟩ := h.ok I.hok
    exact ⟨its, r, p, z⟩
  · refine ⟨its.toList, r, ⟨o, I.kIn a o hk, hc, n, by simpa using hs⟩, ?_⟩
    have e := r.length
    simp only [Array.length_toList] at e
    omega
theorem Inv.yJ (I : Inv X pins σ H s) (h : SqL X.K H a xs) (h' : SqL X.K H a ys) : xs = ys := by
  obtain ⟨its, r, ⟨o, n, e, _, _, d⟩, _⟩ := I.list h
  obtain ⟨its', r', ⟨o', n', e', _, _, d'⟩, _⟩ := I.list h'
  rw [e] at e'; cases e'
  rw [d] at d'
  injection d' with d1 _
  have : its = its' := by simpa using congrArg Array.toList d1
  subst this
  exact r.inj r'
theorem Inv.xy (I : Inv X pins σ H s) (h : SqT X.K H a xs) (h' : SqT X.K H a ys) : xs = ys := by
  obtain ⟨its, r, ⟨o, e, _, n, d⟩, _⟩ := I.tuple h
  obtain ⟨its', r', ⟨o', e', _, n', d'⟩, _⟩ := I.tuple h'
  rw [e] at e'; cases e'
  rw [d] at d'
  injection d' with d1 _
  have : its = its' := by simpa using congrArg Array.toList d1
  subst this
  exact r.inj r'
end
abbrev Cx.qI (X : Cx) (E : Value → Shared → Prop) : Cx := { X with xe := E }
abbrev Cx.nox (X : Cx) : Cx := X.qI fun _ _ => False
theorem Cx.Ok.qI {X : Cx} (ok : X.Ok) (E : Value → Shared → Prop) : (X.qI E).Ok :=
  ⟨ok.mod, ok.kind, ok.glob, ok.blt, ok.above, ok.inj, ok.has, ok.cab, ok.hd, ok.qt, ok.frames, ok.stk, ok.exf, ok.bs, ok.bsz, ok.vj, ok.Br, ok.oY, ok.frf⟩
theorem Cx.Ok.jO {X : Cx} {E : Value → Shared → Prop} (ok : (X.qI E).Ok) : X.Ok :=
  ⟨ok.mod, ok.kind, ok.glob, ok.blt, ok.above, ok.inj, ok.has, ok.cab, ok.hd, ok.qt, ok.frames, ok.stk, ok.exf, ok.bs, ok.bsz, ok.vj, ok.Br, ok.oY, ok.frf⟩
section
variable {X : Cx} {pins : List (Addr × Obj)} {σ : St} {H : Hp} {s : Shared} {E : Value → Shared → Prop}
theorem Inv.qI (I : Inv X pins σ H s) (E : Value → Shared → Prop) : Inv (X.qI E) pins σ H s := ⟨I.ok.qI E, I.os, I.bare, I.base, I.loc, I.cell, I.free, I.jg, I.pin, I.hok, I.len⟩
theorem Inv.jO (I : Inv (X.qI E) pins σ H s) : Inv X pins σ H s := ⟨I.ok.jO, I.os, I.bare, I.base, I.loc, I.cell, I.free, I.jg, I.pin, I.hok, I.len⟩
theorem SP.jO {D : Ends} {f : Flow} {s' : Shared} (h : SP (X.qI E) pins D f s') : SP X pins D f s' := by
  cases f with
  | next => obtain ⟨σ', H', I, q⟩ := h; exact ⟨σ', H', I.jO, q⟩
  | brk => obtain ⟨σ', H', I, q⟩ := h; exact ⟨σ', H', I.jO, q⟩
  | cont => obtain ⟨σ', H', I, q⟩ := h; exact ⟨σ', H', I.jO, q⟩
  | ret u => obtain ⟨v, σ', H', I, r, q⟩ := h; exact ⟨v, σ', H', I.jO, r, q⟩
theorem PSs.nox {st : List Stmt} {t : TS} (h : PSs X.nox st t) : PSs X st t := fun pins s σ H D I hw =>
  wpAny_mono (h pins s σ H D (I.qI _) hw) (fun _ _ q => q.jO) fun _ _ z => False.elim z
end
section
variable {X : Cx} {st : Stmt} {rest : List Stmt} {t u : TS} {e : Expr} {te : TE} {pos : Pos}
def Fn : TS := fun D σ H => D.nx σ H
def Fv (t u : TS) : TS := fun D σ H => t { D with nx := u D } σ H
theorem AR : PSs X [] Fn := fun _ _ σ H _ I h => wpAny_execs_nil ⟨σ, H, I, h⟩
theorem ze (h1 : PS X st t) (h2 : PSs X rest u) : PSs X (st :: rest) (Fv t u) := by
  intro pins s σ H D I h
  refine wpAny_execs_cons (thn (h1 pins s σ H { D with nx := u D } I h) fun f s1 q => ?_)
  cases f with
  | next =>
    obtain ⟨σ', H', I', q⟩ := q
    exact h2 pins s1 σ' H' D I' q
  | ret v => exact q
  | brk => exact q
  | cont => exact q
theorem A9 (h1 : PS X st t) : PSs X [st] t := by
  intro pins s σ H D I h
  refine wpAny_execs_cons (thn (h1 pins s σ H D I h) fun f s1 q => ?_)
  cases f with
  | next => exact wpAny_execs_nil q
  | ret v => exact q
  | brk => exact q
  | cont => exact q
theorem Inv.quiet {pins : List (Addr × Obj)} {σ : St} {H : Hp} {s : Shared} (I : Inv X pins σ H s) : interactive X.env = false := by simp [interactive, I.ok.kind]
def EV (te : TE) : TS := fun D σ H => te σ H fun _ H1 => D.nx σ H1
theorem AX (he : PE X e te) (hs : swapsWith e none pos.line X.env = pure false := by rfl) : PS X (.Expr e pos) (EV te) := by
  intro pins s σ H D I h
  exact wpAny_Expr_any (thn (he pins s σ H _ I h) fun v s1 ⟨x, H1, I1, r1, q1⟩ => ⟨σ, H1, I1, q1⟩) I.quiet hs
def Gp (te : TE) : TS := fun D σ H => te σ H D.rt
theorem Dl (he : PE X e te) : PS X (.Return (some e) pos) (Gp te) := by
  intro pins s σ H D I h
  exact wpAny_Return_some (thn (he pins s σ H _ I h) fun v s1 ⟨x, H1, I1, r1, q1⟩ => ⟨x, σ, H1, I1, r1, q1⟩)
def FV (c : TT) (t u : TS) : TS := fun D σ H => c σ H fun b H1 => if b = true then t D σ H1 else u D σ H1
theorem Fy {c : Expr} {a b : List Stmt} {tc : TT} (hc : PT X c tc) (ha : PSs X a t) (hb : PSs X b u) : PS X (.If c a b pos) (FV tc t u) := by
  intro pins s σ H D I h
  refine wpAny_If (thn (hc pins s σ H _ I h) fun d s1 ⟨H1, I1, q1⟩ => ?_)
  cases d with
  | true => exact ha pins s1 σ H1 D I1 q1
  | false => exact hb pins s1 σ H1 D I1 q1
end
abbrev TG := V → St → Hp → (St → Hp → Prop) → Prop
abbrev TGs := List V → St → Hp → (St → Hp → Prop) → Prop
def PG (X : Cx) (target : Expr) (t : TG) : Prop :=
  ∀ (pins : List (Addr × Obj)) (s : Shared) (σ : St) (H : Hp) (v : V) (u : Value) (Q : St → Hp → Prop), Inv X pins σ H s → RelV v u → t v σ H Q →
    wpAny (model X.prog X.w) X.A (assign target X.env u) (fun _ s' => ∃ σ' H', Inv X pins σ' H' s' ∧ Q σ' H') X.xe s
def PGs (X : Cx) (ts : List Expr) (t : TGs) : Prop :=
  ∀ (pins : List (Addr × Obj)) (s : Shared) (σ : St) (H : Hp) (vs : List V) (us : List Value) (Q : St → Hp → Prop), Inv X pins σ H s → Vals vs us → t vs σ H Q →
    wpAny (model X.prog X.w) X.A (assignInOrder ((assignEach ts X.env).map (·.2)) us) (fun _ s' => ∃ σ' H', Inv X pins σ' H' s' ∧ Q σ' H') X.xe s
abbrev C6 := V → V → V → Hp → (Hp → Prop) → Prop
def Ew (X : Cx) (t : C6) : Prop :=
  ∀ (pins : List (Addr × Obj)) (s : Shared) (σ : St) (H : Hp) (o i v : V) (ov iv u : Value) (Q : Hp → Prop), Inv X pins σ H s → RelV o ov → RelV i iv → RelV v u → t o i v H Q →
    wpAny (model X.prog X.w) X.A (setItem ov iv u) (fun _ s' => ∃ H', Inv X pins σ H' s' ∧ Q H') X.xe s
section
variable {X : Cx} {pos : Pos}
def Ai (i : Nat) : TG := fun v σ H Q => Q (σ.set i (some v)) H
theorem AS {i : Nat} {x : Str} (hN : X.N.Nodup) (hi : X.N[i]? = some x) (hx : Loc X.env.scope x) (hf : X.fn x = true ∨ X.env.scope.names.lookup x = some .local := by first | exact .inl rfl | exact .inr rfl | assumption) : PG X (.Name x pos) (Ai i) := by
  intro pins s σ H v u Q I r h
  exact wpAny_assign_Name (jt I hN hi hx r (fun s' I' => ⟨_, H, I', h⟩) hf)
def FK : TGs := fun vs σ H Q => vs = [] ∧ Q σ H
def FG (t : TG) (u : TGs) : TGs := fun vs σ H Q => ∃ v r, vs = v :: r ∧ t v σ H fun σ' H' => u r σ' H' Q
theorem Aw : PGs X [] FK := by
  intro pins s σ H vs us Q I r h
  obtain ⟨e, h⟩ := h
  subst e
  cases r
  exact assignInOrder_nil ⟨σ, H, I, h⟩
theorem yS {e : Expr} {es : List Expr} {t : TG} {u : TGs} (h1 : PG X e t) (h2 : PGs X es u)
    (hs : (assignEach (e :: es) X.env).map (·.2) = assign e X.env :: (assignEach es X.env).map (·.2) := by rfl) : PGs X (e :: es) (FG t u) := by
  intro pins s σ H vs us Q I r h
  obtain ⟨v, vr, e1, h⟩ := h
  subst e1
  cases r with
  | cons r rr =>
    rw [hs]
    refine assignInOrder_cons (thn (h1 pins s σ H _ _ _ I r h) fun _ s1 ⟨σ1, H1, I1, q1⟩ => ?_)
    exact h2 pins s1 σ1 H1 _ _ Q I1 rr q1
def FT (K : PySem.W.Frag) (n : Nat) (t : TGs) : TG := fun v σ H Q => ∃ a xs, v = .ref a ∧ SqT K H a xs ∧ xs.length = n ∧ t xs σ H Q
theorem CL {es : List Expr} {k : Nat} {t : TGs} {n : Nat} (hc : X.calm = X.calm) (h : PGs X es t)
    (hn : (assignEach es X.env).length = n := by rfl) (hst : (assignEach es X.env).findIdx? (·.1) = none := by rfl) : PG X (.Tuple es k pos) (FT X.K n t) := by
  intro pins s σ H v u Q I r hw
  obtain ⟨a, xs, e1, hq, hl, hw⟩ := hw
  subst e1
  cases r
  obtain ⟨its, rv, ht, hz⟩ := I.tuple hq
  refine qG I.vK ht (by simp [hn, ← hl, rv.length]) hst fun h' hx => ?_
  have I1 : Inv X pins σ H { s with heap := h' } := I.kept (t' := s.toks) fun b o e => hx b o (Nat.ne_of_lt (Heap.lt_size e)) e
  exact h pins _ σ H xs _ Q I1 (by simpa using rv) hw
def FN (to ti : TE) (t : C6) : TG := fun v σ H Q => to σ H fun o H1 => ti σ H1 fun i H2 => t o i v H2 fun H3 => Q σ H3
theorem CI {o i : Expr} {to ti : TE} {t : C6} (ho : PE X o to) (hi : PE X i ti) (hs : Ew X t)
    (ha : ∀ v, assign (.Subscript o i pos) X.env v = (do
      let ov ← holding [v] (eval o X.env)
      let iv ← holding [v, ov] (eval i X.env)
      standAt pos
      holding [v, ov, iv] (setItem ov iv v)
      release [v, ov, iv] []) := by intro _; rfl) : PG X (.Subscript o i pos) (FN to ti t) := by
  intro pins s σ H v u Q I r h
  rw [ha]
  refine wpAny_bind (wpAny_holding (thn (ho pins s σ H _ I h) fun ov s1 ⟨x, H1, I1, r1, q1⟩ => ?_))
  refine wpAny_bind (wpAny_holding (thn (hi pins s1 σ H1 _ I1 q1) fun iv s2 ⟨y, H2, I2, r2, q2⟩ => ?_))
  refine wpAny_bind (wpAny_standAt (wpAny_bind (wpAny_holding (thn (hs pins s2 σ H2 x y v ov iv u _ I2 r1 r2 r q2) fun _ s3 ⟨H3, I3, q3⟩ => ?_))))
  exact wpAny_release ⟨σ, H3, I3, q3⟩
def Dz (te : TE) (g : TG) : TS := fun D σ H => te σ H fun x H1 => g x σ H1 D.nx
theorem CO {tg e : Expr} {te : TE} {g : TG} (he : PE X e te) (hg : PG X tg g) (hs : swapsWithSole [tg] e pos.line X.env = pure false := by rfl) (hw : swappedStores [tg] e X.env = pure none := by rfl)
    (h1 : (assignEach [tg] X.env).map (·.2) = [assign tg X.env] := by rfl) : PS X (.Assign [tg] e pos) (Dz te g) := by
  intro pins s σ H D I h
  refine wpAny_Assign_stores (thn (he pins s σ H _ I h) fun v s1 ⟨x, H1, I1, r1, q1⟩ => ?_) hs hw
  rw [h1]
  exact thn (hg pins s1 σ H1 x v _ I1 r1 q1) fun _ s2 q => q
theorem C0 {i : Nat} {x : Str} {e : Expr} {te : TE} {pos' : Pos} (hN : X.N.Nodup) (hi : X.N[i]? = some x) (hx : Loc X.env.scope x) (he : PE X e te) (hs : swapsWith e (some (.Name x pos')) pos.line X.env = pure false := by rfl) (hf : X.fn x = true ∨ X.env.scope.names.lookup x = some .local := by first | exact .inl rfl | exact .inr rfl | assumption) :
    PS X (.Assign [.Name x pos'] e pos) (Dz te (Ai i)) := by
  intro pins s σ H D I h
  refine wpAny_Assign_Name (thn (he pins s σ H _ I h) fun v s1 ⟨y, H1, I1, r1, q1⟩ => ?_) hs
  exact jt I1 hN hi hx r1 (fun s2 I2 => ⟨_, H1, I2, q1⟩) hf
def Gi (i j : Nat) (ta : TA) : TS := fun D σ H => ta σ H fun vs H1 => ∃ v w, vs = [v, w] ∧ D.nx ((σ.set i (some v)).set j (some w)) H1
theorem Dj {i j : Nat} {x y : Str} {a b : Expr} {ta : TA} {px py pt : Pos} {kt k2 pt2} (hc : X.calm = true) (hN : X.N.Nodup) (hi : X.N[i]? = some x) (hj : X.N[j]? = some y) (hij : i ≠ j)
    (hx : X.env.scope.names.lookup x = some .local) (hy : X.env.scope.names.lookup y = some .local) (ha : PA X [a, b] ta)
    (hw : swappedStores [.Tuple [.Name x px, .Name y py] kt pt] (.Tuple [a, b] k2 pt2) X.env = pure (some [x, y]))
    (hs : swapsWithSole [.Tuple [.Name x px, .Name y py] kt pt] (.Tuple [a, b] k2 pt2) pos.line X.env = pure false := by rfl) :
    PS X (.Assign [.Tuple [.Name x px, .Name y py] kt pt] (.Tuple [a, b] k2 pt2) pos) (Gi i j ta) := by
  intro pins s σ H D I h
  rw [exec_Assign_arm]
  refine wpAny_bind (wpAny_standAt ?_)
  rw [hs]
  refine wpAny_bind (wpAny_pure ?_)
  rw [if_neg (by decide)]
  refine wpAny_bind (Tuple_ (thn (ha _ pins s σ H _ I h) fun us s1 ⟨vs, H1, I1, r1, q1⟩ => ?_))
  obtain ⟨v, w, e1, q1⟩ := q1
  subst e1
  obtain ⟨u1, u2, rfl, rv, rw'⟩ : ∃ u1 u2, us = [u1, u2] ∧ RelV v u1 ∧ RelV w u2 := by
    cases r1 with
    | cons p q =>
      cases q with
      | cons p' q' =>
        cases q'
        exact ⟨_, _, rfl, p, p'⟩
  refine wpAny_newObj_type ?_ (by show 2 ≤ sizeLine; decide)
  have I2 : Inv X pins σ H1 { s1 with heap := s1.heap.push { cls := .type "tuple", data := .seq [u1, u2].toArray } } := I1.kept (t' := s1.toks) fun b o e => Heap.get?_push_of_some _ e
  rw [hw]
  refine wpAny_bind (wpAny_pure ?_)
  show wpAny (model X.prog X.w) X.A (do rule "assign.swapped-stores"; let items ← unpackItems (.ref s1.heap.objs.size) 2 none; assignInOrder [fun v => bindName X.env y v, fun v => bindName X.env x v] items.reverse; pure Flow.next) _ _ _
  refine wpAny_bind (wpAny_rule (wpAny_bind (unpackItems_tuple (items := #[u1, u2]) (I.ok.hd hc) (IsTup.new s1.heap _) fun h' hx' => ?_)))
  have I3 := I2.kept (h' := h') (t' := s1.toks) fun b o e => hx' b o (Nat.ne_of_lt (Heap.lt_size e)) e
  show wpAny _ _ (assignInOrder [fun v => bindName X.env y v, fun v => bindName X.env x v] [u2, u1] >>= fun _ => pure Flow.next) _ _ _
  refine wpAny_bind (assignInOrder_cons (wpAny_bindName (jt I3 hN hj (.inl hy) rw' (fun s2 I4 => ?_) (.inr hy))))
  refine assignInOrder_cons (wpAny_bindName (jt I4 hN hi (.inl hx) rv (fun s3 I5 => assignInOrder_nil (wpAny_pure ?_)) (.inr hx)))
  rw [List.set_comm _ _ (Ne.symm hij)] at I5
  exact ⟨_, H1, I5, q1⟩
end
section
variable {X : Cx} {pos : Pos}
def CJ (c : TT) (tb : TS) : TS := fun D σ H => ∃ W : Nat → St → Hp → Prop, (∃ m, W m σ H) ∧ ∀ m σ H, W m σ H →
  c σ H fun b H1 => if b = true then ∃ N : St → Hp → Prop, (∀ σ' H', N σ' H' → ∃ m', m' < m ∧ W m' σ' H') ∧ tb { D with nx := N, ct := N, bk := D.nx } σ H1 else D.nx σ H1
theorem zK {c : Expr} {body : List Stmt} {tc : TT} {tb : TS} (hp : PassesOwn (model X.prog X.w) X.A X.env X.xe) (hc : PT X c tc) (hb : PSs X body tb) : PS X (.While c body [] pos) (CJ tc tb) := by
  intro pins s σ H D I h
  obtain ⟨W, ⟨m0, w0⟩, turn⟩ := h
  refine wpAny_While (codeAny_whileLoop (fun n s' => ∃ σ' H', Inv X pins σ' H' s' ∧ W n σ' H') ?_ m0 ⟨σ, H, I, w0⟩)
  rintro n s1 ⟨σ1, H1, I1, w1⟩
  refine wpAny_passesOwn hp (thn (hc pins s1 σ1 H1 _ I1 (turn n σ1 H1 w1)) fun b s2 ⟨H2, I2, q2⟩ => ?_)
  cases b with
  | true =>
    obtain ⟨N, hN, q2⟩ := q2
    rw [if_pos rfl]
    refine wpAny_passesOwn hp (thn (hb pins s2 σ1 H2 _ I2 q2) fun f s3 q3 => ?_)
    cases f with
    | next =>
      obtain ⟨σ3, H3, I3, n3⟩ := q3
      obtain ⟨m', hm, w3⟩ := hN σ3 H3 n3
      exact ⟨m', hm, σ3, H3, I3, w3⟩
    | cont =>
      obtain ⟨σ3, H3, I3, n3⟩ := q3
      obtain ⟨m', hm, w3⟩ := hN σ3 H3 n3
      exact ⟨m', hm, σ3, H3, I3, w3⟩
    | brk => exact q3
    | ret v => exact q3
  | false =>
    rw [if_neg Bool.false_ne_true]
    exact wpAny_execs_nil ⟨σ1, H2, I2, q2⟩
end
structure It where
  go : Nat → Hp → Prop
  yld : Nat → Hp → V → Hp → Prop
  stop : Nat → Hp → Prop
def qk (X : Cx) (pins : List (Addr × Obj)) (H : Hp) (b : Addr) : Prop :=
  H b = none ∧ b ≠ X.env.locals ∧ b ∉ X.fs ∧ (b ∈ X.ex ∨ X.s₀.heap.objs.size ≤ b) ∧ (∀ x c, X.env.cells.lookup x = some c → c ≠ b) ∧ ∀ p ∈ X.pn ++ pins, p.1 ≠ b
theorem Inv.Bw {X : Cx} {pins : List (Addr × Obj)} {σ : St} {H H' : Hp} {s : Shared} {b : Addr} (I : Inv X pins σ H s) (hb : s.heap.objs.size ≤ b) (hn : H' b = none) : qk X pins H' b := by
  refine ⟨hn, Nat.ne_of_gt (Nat.lt_of_lt_of_le I.lt hb), I.GA hb, .inr (Nat.le_trans I.sz hb), fun x c e z => ?_, fun p hp z => ?_⟩
  · obtain ⟨v, q⟩ := I.cell x c e
    exact absurd (Nat.lt_of_lt_of_le q.lt (by rw [z]; exact hb)) (Nat.lt_irrefl _)
  · exact absurd (Nat.lt_of_lt_of_le (Heap.lt_size (I.pin p hp).1) (by rw [z]; exact hb)) (Nat.lt_irrefl _)
structure Turn (c : Bool) (P : Program) (w : World) (K : PySem.W.Frag) (tg : Expr) (J : It) (fp : List Addr) (it : Addr) (tn : Nat → Heap → Prop) : Prop where
  mem : it ∈ fp
  obj : ∀ i h, tn i h → ∀ b ∈ fp, ∃ o, h.get? b = some o ∧ ∀ v, o.data ≠ .cell v
  keep : ∀ i h h', tn i h → (∀ b ∈ fp, ∀ o, h.get? b = some o → h'.get? b = some o) → tn i h'
  item : ∀ (X : Cx), X.prog = P → X.w = w → X.K = K → (c = true → X.calm = true) → ∀ (i : Nat) (pins : List (Addr × Obj)) (s : Shared) (σ : St) (H : Hp) (E : Value → Shared → Prop), Inv X pins σ H s → (∀ b ∈ fp, qk X pins H b) → tn i s.heap → J.go i H →
    wpAny (model P w) X.A (pyNext (.ref it)) (fun r s1 => ∃ u, r = some u ∧
      wpAny (model P w) X.A (letOwnedTupleGo tg (.ref it) u) (fun _ s2 => ∃ x H', Inv X pins σ H' s2 ∧ RelV x u ∧ J.yld i H x H' ∧ tn (i + 1) s2.heap ∧ ∀ b ∈ fp, H' b = none) E s1) E s
  done : ∀ (X : Cx), X.prog = P → X.w = w → X.K = K → (c = true → X.calm = true) → ∀ (i : Nat) (pins : List (Addr × Obj)) (s : Shared) (σ : St) (H : Hp) (E : Value → Shared → Prop), Inv X pins σ H s → (∀ b ∈ fp, qk X pins H b) → tn i s.heap → J.stop i H →
    wpAny (model P w) X.A (pyNext (.ref it)) (fun r s1 => r = none ∧ Inv X pins σ H s1) E s
  self : ∀ (A : Around) (i : Nat) (s : Shared) (Q : Value → Shared → Prop) (E : Value → Shared → Prop), tn i s.heap → Q (.ref it) s → wpAny (model P w) A (pyIter (.ref it)) Q E s
theorem Turn.calm {c : Bool} {P : Program} {w : World} {K : PySem.W.Frag} {tg : Expr} {J : It} {fp : List Addr} {it : Addr} {tn : Nat → Heap → Prop} (T : Turn true P w K tg J fp it tn) (h : c = true) : Turn c P w K tg J fp it tn := by subst h; exact T
abbrev TI := St → Hp → (It → Hp → Prop) → Prop
def PIE (X : Cx) (pins : List (Addr × Obj)) (σ : St) (tg : Expr) (R : It → Hp → Prop) (itv : Value) (s2 : Shared) : Prop :=
  ∃ (it : Addr) (fp : List Addr) (tn : Nat → Heap → Prop) (J : It) (H' : Hp), itv = .ref it ∧ Inv X pins σ H' s2 ∧ Turn X.calm X.prog X.w X.K tg J fp it tn ∧ tn 0 s2.heap ∧ (∀ b ∈ fp, qk X pins H' b) ∧ R J H'
def PI (X : Cx) (tg iter : Expr) (wi : TI) : Prop :=
  ∀ (pins : List (Addr × Obj)) (s : Shared) (σ : St) (H : Hp) (R : It → Hp → Prop), Inv X pins σ H s → wi σ H R →
    wpAny (model X.prog X.w) X.A (eval iter X.env) (fun v s1 => wpAny (model X.prog X.w) X.A (pyIter v) (PIE X pins σ tg R) X.xe s1) X.xe s
theorem y7 {M : Model} {A : Around} {E : Value → Shared → Prop} {s : Shared} {tg : Expr} {it : Addr} {u : Value} {o : Obj} {n : String} {vs : Array Value} {Q : Unit → Shared → Prop} (ho : s.heap.get? it = some o) (hc : o.cls = .type n) (hd : o.data = .fields vs)
    (hn : ["enumerate", "zip", "dict_itemiterator", "dict_reverseitemiterator", "odict_iterator", "itertools.zip_longest", "itertools.pairwise"].contains n = false) (hQ : Q () s) : wpAny M A (letOwnedTupleGo tg (.ref it) u) Q E s := by
  unfold letOwnedTupleGo
  cases tg <;> first
    | exact wpAny_pure hQ
    | (cases u <;> first
        | exact wpAny_pure hQ
        | (refine wpAny_bind (wpAny_load ho ?_)
           rw [hc, hd]
           show wpAny M A (if (["enumerate", "zip", "dict_itemiterator", "dict_reverseitemiterator", "odict_iterator", "itertools.zip_longest", "itertools.pairwise"].contains n && vs[0]? == some (rawInt _)) = true then _ else _) Q E s
           rw [if_neg (by intro h; rw [hn, Bool.false_and] at h; cases h)]
           exact wpAny_pure hQ))
def Itl (K : PySem.W.Frag) (a : Addr) : It :=
  ⟨fun i H => ∃ xs x, SqL K H a xs ∧ xs[i]? = some x, fun i H x H' => H' = H ∧ ∀ xs, SqL K H a xs → xs[i]? = some x, fun i H => ∃ xs, SqL K H a xs ∧ xs.length ≤ i⟩
def Itt (K : PySem.W.Frag) (a : Addr) : It :=
  ⟨fun i H => ∃ xs x, SqT K H a xs ∧ xs[i]? = some x, fun i H x H' => H' = H ∧ ∀ xs, SqT K H a xs → xs[i]? = some x, fun i H => ∃ xs, SqT K H a xs ∧ xs.length ≤ i⟩
def Itr (lo : Int) (n : Nat) : It := ⟨fun i _ => i < n, fun i H x H' => H' = H ∧ x = .int (lo + i), fun i _ => n ≤ i⟩
theorem xS {c : Bool} {P : Program} {w : World} {K : PySem.W.Frag} {tg : Expr} (a it : Addr) : Turn c P w K tg (Itl K a) [it] it (fun i h => h.IsListIter it a i) where
  mem := by simp
  obj := fun i h st b hb => by
    have e : b = it := by simpa using hb
    subst e
    obtain ⟨o, e, c, d⟩ := st
    exact ⟨o, e, fun v z => by rw [d] at z; cases z⟩
  keep := fun i h h' st k => st.at fun o e => k it (by simp) o e
  item := by
    intro X hP hw hK hc i pins s σ H E I hf st hg
    subst hP hw hK
    obtain ⟨xs, x, hq, hx⟩ := hg
    obtain ⟨its, rv, p, hz⟩ := I.list hq
    obtain ⟨u, hu, ru⟩ := rv.get hx
    obtain ⟨f0, f1, f2, f3, f4, f5⟩ := hf it (by simp)
    refine wpAny_pyNext_list_item st p.isList (x := u) (by simpa using hu) fun h' st' sb => ?_
    have I1 : Inv X pins σ H { s with heap := h' } := I.turned (t' := s.toks) (fun b o hb e => (sb.2 b hb).trans e) f0 f1 f3 f4 f5
    obtain ⟨o, e, c, d⟩ := id st'
    exact ⟨u, rfl, y7 (s := { s with heap := h' }) e c d (by decide) ⟨x, H, I1, ru, ⟨rfl, fun ys hy => by rw [I.yJ hy hq]; exact hx⟩, st', fun b hb => (hf b hb).1⟩⟩
  done := by
    intro X hP hw hK hc i pins s σ H E I hf st hg
    subst hP hw hK
    obtain ⟨xs, hq, hx⟩ := hg
    obtain ⟨its, rv, p, hz⟩ := I.list hq
    obtain ⟨f0, f1, f2, f3, f4, f5⟩ := hf it (by simp)
    have hl := rv.length
    exact qJ I.vK (I.hne f5) st p.isList (by simp; omega) fun h' eb => ⟨rfl, I.turned (t' := s.toks) (fun b o hb e => eb b o hb e) f0 f1 f3 f4 f5⟩
  self := fun _ _ _ _ _ st h => wpAny_pyIter_listiter st h
theorem we {c : Bool} {P : Program} {w : World} {K : PySem.W.Frag} {tg : Expr} (a it : Addr) : Turn c P w K tg (Itt K a) [it] it (fun i h => h.IsTupleIter it a i) where
  mem := by simp
  obj := fun i h st b hb => by
    have e : b = it := by simpa using hb
    subst e
    obtain ⟨o, e, c, d⟩ := st
    exact ⟨o, e, fun v z => by rw [d] at z; cases z⟩
  keep := fun i h h' st k => st.at fun o e => k it (by simp) o e
  item := by
    intro X hP hw hK hc i pins s σ H E I hf st hg
    subst hP hw hK
    obtain ⟨xs, x, hq, hx⟩ := hg
    obtain ⟨its, rv, p, hz⟩ := I.tuple hq
    obtain ⟨u, hu, ru⟩ := rv.get hx
    obtain ⟨f0, f1, f2, f3, f4, f5⟩ := hf it (by simp)
    refine wpAny_pyNext_tuple_item st (show s.heap.IsTuple a its.toArray from p) (x := u) (by simpa using hu) fun h' st' sb => ?_
    have I1 : Inv X pins σ H { s with heap := h' } := I.turned (t' := s.toks) (fun b o hb e => (sb.2 b hb).trans e) f0 f1 f3 f4 f5
    obtain ⟨o, e, c, d⟩ := id st'
    exact ⟨u, rfl, y7 (s := { s with heap := h' }) e c d (by decide) ⟨x, H, I1, ru, ⟨rfl, fun ys hy => by rw [I.xy hy hq]; exact hx⟩, st', fun b hb => (hf b hb).1⟩⟩
  done := by
    intro X hP hw hK hc i pins s σ H E I hf st hg
    subst hP hw hK
    obtain ⟨xs, hq, hx⟩ := hg
    obtain ⟨its, rv, p, hz⟩ := I.tuple hq
    obtain ⟨f0, f1, f2, f3, f4, f5⟩ := hf it (by simp)
    have hl := rv.length
    exact k5 I.vK (I.hne f5) st (show s.heap.IsTuple a its.toArray from p) (by simp; omega) fun h' eb => ⟨rfl, I.turned (t' := s.toks) (fun b o hb e => eb b o hb e) f0 f1 f3 f4 f5⟩
  self := fun _ _ _ _ _ st h => wpAny_pyIter_tupleiter st h
theorem vJ {P : Program} {w : World} {K : PySem.W.Frag} {tg : Expr} (it : Addr) (lo : Int) (n : Nat) : Turn true P w K tg (Itr lo n) [it] it (fun i h => IsRangeIter h it (lo + (i : Nat) * 1) ((n : Int) - (i : Nat)) 1) where
  mem := by simp
  obj := fun i h st b hb => by
    have e : b = it := by simpa using hb
    subst e
    exact ⟨_, st, fun v z => by
      have z' : Data.fields _ = Data.cell v := z
      cases z'⟩
  keep := fun i h h' st k => k it (by simp) _ st
  item := by
    intro X hP hw hK hc i pins s σ H E I hf st hg
    subst hP hw hK
    obtain ⟨f0, f1, f2, f3, f4, f5⟩ := hf it (by simp)
    have W := Walks.range (prog := X.prog) (w := X.w) (I.ok.hd (hc rfl)) it lo 1 n
    refine W.item i s _ _ hg st fun v h' tk hv st' kk => ?_
    obtain ⟨t, rfl⟩ := hv
    have I1 : Inv X pins σ H { s with heap := h', toks := tk } := I.turned (fun b o hb e => kk b o (by simpa using hb) e) f0 f1 f3 f4 f5
    refine ⟨_, rfl, y7 (s := { s with heap := h', toks := tk }) (n := "range_iterator") st' rfl rfl (by decide) ⟨.int (lo + i), H, I1, ⟨t, ?_⟩, ⟨rfl, rfl⟩, st', fun b hb => (hf b hb).1⟩⟩
    rw [Int.mul_one]
  done := by
    intro X hP hw hK hc i pins s σ H E I hf st hg
    subst hP hw hK
    obtain ⟨f0, f1, f2, f3, f4, f5⟩ := hf it (by simp)
    exact wpAny_pyNext_range_end (I.ok.hd (hc rfl)) st (by have : n ≤ i := hg; omega) fun h' eb => ⟨rfl, I.turned (t' := s.toks) (fun b o hb e => eb b o hb e) f0 f1 f3 f4 f5⟩
  self := fun _ _ _ _ _ st h => wpAny_pyIter_rangeiter st h
end L2
namespace L2
open PySem PySem.Spec PyProof.Rows
section
variable {X : Cx} {tg : Expr}
def Fd (K : PySem.W.Frag) (tl : TE) : TI := fun σ H R => tl σ H fun x H1 => ∃ a, x = .ref a ∧ (∃ xs, SqL K H1 a xs) ∧ R (Itl K a) H1
def Gy (K : PySem.W.Frag) (tl : TE) : TI := fun σ H R => tl σ H fun x H1 => ∃ a, x = .ref a ∧ (∃ xs, SqT K H1 a xs) ∧ R (Itt K a) H1
theorem xa {l : Expr} {tl : TE} (hl : PE X l tl) : PI X tg l (Fd X.K tl) := by
  intro pins s σ H R I h
  refine thn (hl pins s σ H _ I h) fun v s1 ⟨x, H1, I1, r1, q1⟩ => ?_
  obtain ⟨a, e, ⟨xs, hq⟩, q⟩ := q1
  subst e
  cases r1
  obtain ⟨its, rv, p, hz⟩ := I1.list hq
  refine wpAny_pyIter_list p.isList ?_
  refine ⟨s1.heap.objs.size, [s1.heap.objs.size], _, _, H1, rfl, I1.kept (t' := s1.toks) fun b o e => Heap.get?_push_of_some _ e, xS a _, ⟨_, Heap.get?_push_size _ rfl, rfl, rfl⟩, fun b hb => ?_, q⟩
  have e : b = s1.heap.objs.size := by simpa using hb
  subst e
  exact I1.Bw (Nat.le_refl _) (I1.hok.fresh (Nat.le_refl _))
theorem CQ {l : Expr} {tl : TE} (hl : PE X l tl) : PI X tg l (Gy X.K tl) := by
  intro pins s σ H R I h
  refine thn (hl pins s σ H _ I h) fun v s1 ⟨x, H1, I1, r1, q1⟩ => ?_
  obtain ⟨a, e, ⟨xs, hq⟩, q⟩ := q1
  subst e
  cases r1
  obtain ⟨its, rv, p, hz⟩ := I1.tuple hq
  refine wpAny_pyIter_tuple (show s1.heap.IsTuple a its.toArray from p) ?_
  refine ⟨s1.heap.objs.size, [s1.heap.objs.size], _, _, H1, rfl, I1.kept (t' := s1.toks) fun b o e => Heap.get?_push_of_some _ e, we a _, ⟨_, Heap.get?_push_size _ rfl, rfl, rfl⟩, fun b hb => ?_, q⟩
  have e : b = s1.heap.objs.size := by simpa using hb
  subst e
  exact I1.Bw (Nat.le_refl _) (I1.hok.fresh (Nat.le_refl _))
theorem uZ (hc : X.calm = true) {pins : List (Addr × Obj)} {σ : St} {H : Hp} {s : Shared} {R : It → Hp → Prop} {E : Value → Shared → Prop} {lo hi : Int} {t u v : Tok} {tk : Nat} (I : Inv X pins σ H s) (h1 : -(2 ^ 62) ≤ lo) (h2 : lo < 2 ^ 62) (h3 : -(2 ^ 62) ≤ hi) (h4 : hi < 2 ^ 62)
    (q : R (Itr lo (hi - lo).toNat) H) : wpAny (model X.prog X.w) X.A (pyIter (.ref s.heap.objs.size)) (PIE X pins σ tg R) E { s with heap := s.heap.push { cls := .type "range", data := .fields #[.int lo t, .int hi u, .int 1 v] }, toks := tk } := by
  refine wpAny_pyIter_range (IsRange.new ..) (small_one h1 h2 h3 h4) ?_
  have I1 : Inv X pins σ H { s with heap := s.heap.push { cls := .type "range", data := .fields #[.int lo t, .int hi u, .int 1 v] }, toks := tk } := I.kept fun b o e => Heap.get?_push_of_some _ e
  refine ⟨(s.heap.push { cls := .type "range", data := .fields #[.int lo t, .int hi u, .int 1 v] }).objs.size, [(s.heap.push { cls := .type "range", data := .fields #[.int lo t, .int hi u, .int 1 v] }).objs.size], _, _, H, rfl,
    I1.kept (t' := tk) fun b o e => Heap.get?_push_of_some _ e, (vJ _ lo (hi - lo).toNat).calm hc, ?_, fun b hb => ?_, q⟩
  · have e1 : lo + ((0 : Nat) : Int) * 1 = lo := by simp
    have e2 : (((hi - lo).toNat : Nat) : Int) - ((0 : Nat) : Int) = Builtin.Range.rangeSize lo hi 1 := by rw [rangeSize_one]; split <;> omega
    show IsRangeIter _ _ (lo + ((0 : Nat) : Int) * 1) ((((hi - lo).toNat : Nat) : Int) - ((0 : Nat) : Int)) 1
    rw [e1, e2]
    exact Heap.get?_push_size _ rfl
  · have e : b = (s.heap.push { cls := .type "range", data := .fields #[.int lo t, .int hi u, .int 1 v] }).objs.size := by simpa using hb
    subst e
    exact I1.Bw (Nat.le_refl _) (I1.hok.fresh (Nat.le_refl _))
def E4 (ta : TA) : TI := fun σ H R => ta σ H fun vs H1 => ∃ j : Int, vs = [.int j] ∧ -(2 ^ 62) ≤ j ∧ j < 2 ^ 62 ∧ R (Itr 0 j.toNat) H1
def EJ (ta : TA) : TI := fun σ H R => ta σ H fun vs H1 => ∃ i j : Int, vs = [.int i, .int j] ∧ (-(2 ^ 62) ≤ i ∧ i < 2 ^ 62 ∧ -(2 ^ 62) ≤ j ∧ j < 2 ^ 62) ∧ R (Itr i (j - i).toNat) H1
theorem xX {a : Expr} {ta : TA} {p pos : Pos} (hc : X.calm = true) (hg : Gl X "range") (hm : X.mg "range" = none) (ha : PA X [a] ta) (hs : starEach [a] X.env = [(false, eval a X.env)] := by rfl) : PI X tg (.Call (.Name "range" p) [a] [] pos) (E4 ta) := by
  intro pins s σ H R I h
  refine Call_ (oW I hg hm boot_range (PyProof.Rows.callWith_type1 (thn (ha pos pins s σ H _ I h) fun us s1 ⟨vs, H1, I1, r1, q1⟩ => ?_) hs rfl))
  obtain ⟨j, e, q1, q2, q⟩ := q1
  subst e
  cases r1 with
  | cons r rr =>
    cases rr
    obtain ⟨t, rfl⟩ := r
    exact call_range_1 (uZ hc I1 (by omega) (by omega) q1 q2 (by simpa using q))
theorem xM {a b : Expr} {ta : TA} {p pos : Pos} (hc : X.calm = true) (hg : Gl X "range") (hm : X.mg "range" = none) (ha : PA X [a, b] ta) (hs : starEach [a, b] X.env = [(false, eval a X.env), (false, eval b X.env)] := by rfl) (hs2 : starEach [b] X.env = [(false, eval b X.env)] := by rfl) :
    PI X tg (.Call (.Name "range" p) [a, b] [] pos) (EJ ta) := by
  intro pins s σ H R I h
  refine Call_ (oW I hg hm boot_range (PyProof.Rows.callWith_type1 (thn (ha pos pins s σ H _ I h) fun us s1 ⟨vs, H1, I1, r1, q1⟩ => ?_) (by rw [hs, hs2]) (by rw [hs2]; rfl)))
  obtain ⟨i, j, e, ⟨q1, q2, q3, q4⟩, q⟩ := q1
  subst e
  cases r1 with
  | cons r rr =>
    cases rr with
    | cons r' rr =>
      cases rr
      obtain ⟨t, rfl⟩ := r
      obtain ⟨t', rfl⟩ := r'
      exact call_range_2 (uZ hc I1 q1 q2 q3 q4 q)
def Gx (wi : TI) (g : TG) (tb : TS) : TS := fun D σ H => wi σ H fun J H1 => ∃ W : Nat → Nat → St → Hp → Prop, (∃ m, W 0 m σ H1) ∧ ∀ i m σ H, W i m σ H →
  (J.stop i H ∧ D.nx σ H) ∨ (J.go i H ∧ ∃ N : St → Hp → Prop, (∀ σ' H', N σ' H' → ∃ m', m' < m ∧ W (i + 1) m' σ' H') ∧ ∀ x H', J.yld i H x H' → g x σ H' fun σ2 H2 => tb { D with nx := N, ct := N, bk := D.nx } σ2 H2)
def kr (fp : List Addr) (h : Heap) : List (Addr × Obj) := fp.filterMap fun b => (h.get? b).map fun o => (b, o)
theorem cA {fp : List Addr} {h : Heap} {b : Addr} {o : Obj} (hb : b ∈ fp) (e : h.get? b = some o) : (b, o) ∈ kr fp h := List.mem_filterMap.mpr ⟨b, hb, by rw [e]; rfl⟩
theorem x5 {fp : List Addr} {h : Heap} {p : Addr × Obj} (hp : p ∈ kr fp h) : p.1 ∈ fp ∧ h.get? p.1 = some p.2 := by
  obtain ⟨b, hb, e⟩ := List.mem_filterMap.mp hp
  cases q : h.get? b with
  | none => rw [q] at e; cases e
  | some o =>
    rw [q] at e
    have e' : (b, o) = p := Option.some.inj e
    subst e'
    exact ⟨hb, q⟩
theorem Inv.pinned {pins : List (Addr × Obj)} {σ : St} {H : Hp} {s : Shared} {fp : List Addr} (I : Inv X pins σ H s) (hf : ∀ b ∈ fp, qk X pins H b) (ho : ∀ b ∈ fp, ∃ o, s.heap.get? b = some o ∧ ∀ v, o.data ≠ .cell v) : Inv X (pins ++ kr fp s.heap) σ H s :=
  I.wR fun p hp => (List.mem_append.mp hp).elim (fun z => I.pin p (List.mem_append_right _ z)) fun z => by
    obtain ⟨hb, e⟩ := x5 z
    obtain ⟨f0, f1, f2, _⟩ := hf p.1 hb
    obtain ⟨o, e', d⟩ := ho p.1 hb
    rw [e] at e'; cases e'
    exact ⟨e, f0, f1, f2, d⟩
theorem Inv.gp {pins pl : List (Addr × Obj)} {σ : St} {H : Hp} {s : Shared} (I : Inv X (pins ++ pl) σ H s) : Inv X pins σ H s := I.wR fun p hp => I.pin p (List.mem_append_right _ (List.mem_append_left _ hp))
theorem CW {iter : Expr} {body : List Stmt} {wi : TI} {g : TG} {tb : TS} {pos : Pos} (hp : PassesOwn (model X.prog X.w) X.A X.env X.xe) (hc : X.calm = true) (hi : PI X tg iter wi) (hg : PG X tg g) (hb : PSs X body tb)
    (hs : ∀ x, foldedSetIterable iter X.env x = pure x := by intro _; rfl) : PS X (.For tg iter body [] pos) (Gx wi g tb) := by
  intro pins s σ H D I h
  refine wpAny_For (thn (hi pins s σ H _ I h) fun v s1 h1 => thn h1 fun itv s2 h2 => ?_) hs
  obtain ⟨it, fp, tn, J, H2, e, I2, T, st2, f2, W, ⟨m0, w0⟩, turn⟩ := h2
  subst e
  have stat : ∀ {H' : Hp}, (∀ b ∈ fp, H' b = none) → ∀ b ∈ fp, qk X pins H' b := fun hn b hb => ⟨hn b hb, (f2 b hb).2⟩
  refine codeAny_forLoop_any (fun n s' => ∃ i σ' H', Inv X pins σ' H' s' ∧ tn i s'.heap ∧ (∀ b ∈ fp, H' b = none) ∧ W i n σ' H') ?_ m0 ⟨0, σ, H2, I2, st2, fun b hb => (f2 b hb).1, w0⟩
  rintro n s3 ⟨i, σ3, H3, I3, st3, fr3, w3⟩
  rcases turn i n σ3 H3 w3 with ⟨stop, qn⟩ | ⟨go, N, hN, step⟩
  · refine wpAny_passesOwn hp (thn (T.done X rfl rfl rfl (fun z => z) i pins s3 σ3 H3 X.xe I3 (stat fr3) st3 stop) fun r s4 ⟨hr, I4⟩ => ?_)
    subst hr
    exact wpAny_execs_nil ⟨σ3, H3, I4, qn⟩
  · refine wpAny_passesOwn hp (thn (T.item X rfl rfl rfl (fun z => z) i pins s3 σ3 H3 X.xe I3 (stat fr3) st3 go) fun r s4 ⟨u, hr, h4⟩ => ?_)
    subst hr
    refine wpAny_passesOwn hp (thn h4 fun _ s5 ⟨x, H5, I5, r5, y5, st5, fr5⟩ => ?_)
    have I5' := I5.pinned (stat fr5) (T.obj _ _ st5)
    refine wpAny_passesOwn hp (thn (hg _ s5 σ3 H5 x u _ I5' r5 (step x H5 y5)) fun _ s6 ⟨σ6, H6, I6, q6⟩ => ?_)
    refine wpAny_passesOwn hp (thn (hb _ s6 σ6 H6 _ I6 q6) fun f s7 q7 => ?_)
    have again : ∀ {σ7 : St} {H7 : Hp}, Inv X (pins ++ kr fp s5.heap) σ7 H7 s7 → N σ7 H7 → ∃ m, m < n ∧ ∃ i σ' H', Inv X pins σ' H' s7 ∧ tn i s7.heap ∧ (∀ b ∈ fp, H' b = none) ∧ W i m σ' H' := fun {σ7 H7} I7 n7 => by
      obtain ⟨m', hm, w7⟩ := hN σ7 H7 n7
      refine ⟨m', hm, i + 1, σ7, H7, I7.gp, T.keep _ _ _ st5 fun b hb o e => (I7.pin (b, o) (List.mem_append_right _ (List.mem_append_right _ (cA hb e)))).1, fun b hb => ?_, w7⟩
      obtain ⟨o, e, d⟩ := T.obj _ _ st5 b hb
      exact (I7.pin (b, o) (List.mem_append_right _ (List.mem_append_right _ (cA hb e)))).2.1
    cases f with
    | next => obtain ⟨σ7, H7, I7, n7⟩ := q7; exact again I7 n7
    | cont => obtain ⟨σ7, H7, I7, n7⟩ := q7; exact again I7 n7
    | brk => obtain ⟨σ7, H7, I7, q7⟩ := q7; exact ⟨σ7, H7, I7.gp, q7⟩
    | ret v => obtain ⟨x7, σ7, H7, I7, r7, q7⟩ := q7; exact ⟨x7, σ7, H7, I7.gp, r7, q7⟩
end
end L2
namespace L2
open PySem PySem.Spec PyProof.Rows
abbrev R2 := V → V → Hp → VK → Prop
def OpR (X : Cx) (f : Value → Value → Sem Value) (r : R2) : Prop :=
  ∀ (pins : List (Addr × Obj)) (s : Shared) (σ : St) (H : Hp) (x y : V) (v u : Value) (Q : VK), Inv X pins σ H s → RelV x v → RelV y u → r x y H Q →
    wpAny (model X.prog X.w) X.A (f v u) (EP X pins σ Q) X.xe s
def UnR (X : Cx) (f : Value → Sem Value) (r : V → Hp → VK → Prop) : Prop :=
  ∀ (pins : List (Addr × Obj)) (s : Shared) (σ : St) (H : Hp) (x : V) (v : Value) (Q : VK), Inv X pins σ H s → RelV x v → r x H Q →
    wpAny (model X.prog X.w) X.A (f v) (EP X pins σ Q) X.xe s
def gn (X : Cx) (f : Value) (r : List V → Hp → VK → Prop) : Prop :=
  ∀ (pins : List (Addr × Obj)) (s : Shared) (σ : St) (H : Hp) (xs : List V) (us : List Value) (Q : VK), Inv X pins σ H s → Vals xs us → r xs H Q →
    wpAny (model X.prog X.w) X.A (call f us) (EP X pins σ Q) X.xe s
def tOp (r : R2) (ta tb : TE) : TE := fun σ H Q => ta σ H fun x H1 => tb σ H1 fun y H2 => r x y H2 Q
def tUn (r : V → Hp → VK → Prop) (ta : TE) : TE := fun σ H Q => ta σ H fun x H1 => r x H1 Q
def rI (C : Int → Int → Prop) (g : Int → Int → V) : R2 := fun x y H Q => ∃ i j, x = .int i ∧ y = .int j ∧ C i j ∧ Q (g i j) H
def rI0 (g : Int → Int → V) : R2 := fun x y H Q => ∃ i j, x = .int i ∧ y = .int j ∧ Q (g i j) H
def rU (g : Int → V) : V → Hp → VK → Prop := fun x H Q => ∃ i, x = .int i ∧ Q (g i) H
section
variable {X : Cx} {a b c : Expr} {ta tb tc : TE} {pos : Pos}
theorem Em (ha : PE X a ta) (hb : PE X b tb) {pins : List (Addr × Obj)} {s : Shared} {σ : St} {H : Hp} {R : V → V → Hp → Prop} (I : Inv X pins σ H s)
    (h : ta σ H fun x H1 => tb σ H1 fun y H2 => R x y H2) {Q : Value → Shared → Prop} {f : Value → Value → Sem Value}
    (hf : ∀ v u s2 x y H2, Inv X pins σ H2 s2 → RelV x v → RelV y u → R x y H2 → wpAny (model X.prog X.w) X.A (f v u) Q X.xe s2) :
    wpAny (model X.prog X.w) X.A (eval a X.env) (fun v s₁ => wpAny (model X.prog X.w) X.A (eval b X.env) (fun u s₂ => wpAny (model X.prog X.w) X.A (f v u) Q X.xe s₂) X.xe s₁) X.xe s := by
  refine thn (ha pins s σ H _ I h) fun v s1 ⟨x, H1, I1, r1, q1⟩ => ?_
  refine thn (hb pins s1 σ H1 _ I1 q1) fun u s2 ⟨y, H2, I2, r2, q2⟩ => ?_
  exact hf v u s2 x y H2 I2 r1 r2 q2
theorem EA {op : Operator} {r : R2} (ho : OpR X (binaryOp op) r) (ha : PE X a ta) (hb : PE X b tb) : PE X (.BinOp a op b pos) (tOp r ta tb) := by
  intro pins s σ H Q I h
  exact wpAny_BinOp (Em ha hb I h fun v u s2 x y H2 I2 rx ry q => ho pins s2 σ H2 x y v u Q I2 rx ry q)
theorem EE {op : UnaryOp} {r : V → Hp → VK → Prop} (ho : UnR X (unaryOp op) r) (ha : PE X a ta) : PE X (.UnaryOp op a pos) (tUn r ta) := by
  intro pins s σ H Q I h
  exact UnaryOp_ (thn (ha pins s σ H _ I h) fun v s1 ⟨x, H1, I1, r1, q1⟩ => ho pins s1 σ H1 x v Q I1 r1 q1)
theorem opI {f : Value → Value → Sem Value} {C : Int → Int → Prop} {g : Int → Int → Int}
    (rule : ∀ (i j : Int) (t u : Tok) (s : Shared) (Q : Value → Shared → Prop) (E : Value → Shared → Prop), C i j → Q (.int (g i j) s.toks) { s with toks := s.toks + 1 } → wpAny (model X.prog X.w) X.A (f (.int i t) (.int j u)) Q E s) :
    OpR X f (rI C fun i j => .int (g i j)) := by
  intro pins s σ H x y v u Q I rx ry h
  obtain ⟨i, j, rfl, rfl, hc, q⟩ := h
  obtain ⟨t, rfl⟩ := rx
  obtain ⟨t', rfl⟩ := ry
  exact rule i j t t' s _ _ hc ⟨.int (g i j), H, I.tok _, ⟨_, rfl⟩, q⟩
theorem EU {f : Value → Value → Sem Value} {g : Int → Int → Int}
    (rule : ∀ (i j : Int) (t u : Tok) (s : Shared) (Q : Value → Shared → Prop) (E : Value → Shared → Prop), Q (.int (g i j) s.toks) { s with toks := s.toks + 1 } → wpAny (model X.prog X.w) X.A (f (.int i t) (.int j u)) Q E s) :
    OpR X f (rI0 fun i j => .int (g i j)) := by
  intro pins s σ H x y v u Q I rx ry h
  obtain ⟨i, j, rfl, rfl, q⟩ := h
  obtain ⟨t, rfl⟩ := rx
  obtain ⟨t', rfl⟩ := ry
  exact rule i j t t' s _ _ ⟨.int (g i j), H, I.tok _, ⟨_, rfl⟩, q⟩
theorem AK {f : Value → Value → Sem Value} {g : Int → Int → Bool}
    (rule : ∀ (i j : Int) (t u : Tok) (s : Shared) (Q : Value → Shared → Prop) (E : Value → Shared → Prop), Q (.bool (g i j)) s → wpAny (model X.prog X.w) X.A (f (.int i t) (.int j u)) Q E s) :
    OpR X f (rI0 fun i j => .bl (g i j)) := by
  intro pins s σ H x y v u Q I rx ry h
  obtain ⟨i, j, rfl, rfl, q⟩ := h
  obtain ⟨t, rfl⟩ := rx
  obtain ⟨t', rfl⟩ := ry
  exact rule i j t t' s _ _ ⟨.bl (g i j), H, I, rfl, q⟩
def Dx (i j : Int) : Prop := 0 ≤ j ∧ j ≤ 1000000 ∧ i.natAbs < 2 ^ 64
def AD (i j : Int) : Prop := (-(2 ^ 64) < i ∧ i < 2 ^ 64) ∨ (-(2 ^ 64) < j ∧ j < 2 ^ 64)
theorem AD.ok {i j : Int} (h : AD i j) : IntMulOk i j := by
  rcases h with ⟨h1, h2⟩ | ⟨h1, h2⟩
  · exact .of_left (intBits_le_64 h1 h2)
  · exact .of_right (intBits_le_64 h1 h2)
theorem Au : OpR X (binaryOp .Add) (rI0 fun i j => .int (i + j)) := EU fun _ _ _ _ _ _ _ q => add_int q
theorem CA : OpR X (binaryOp .Sub) (rI0 fun i j => .int (i - j)) := EU fun _ _ _ _ _ _ _ q => sub_int q
theorem AV : OpR X (binaryOp .Mod) (rI (fun _ j => j ≠ 0) fun i j => .int (i.fmod j)) := opI fun _ _ _ _ _ _ _ hc q => mod_int' hc q
theorem D7 : OpR X (binaryOp .Pow) (rI Dx fun i j => .int (i ^ j.toNat)) := opI fun _ _ _ _ _ _ _ hc q => pow_int_small hc.1 hc.2.1 hc.2.2 q
theorem unI {f : Value → Sem Value} {g : Int → Int}
    (rule : ∀ (i : Int) (t : Tok) (s : Shared) (Q : Value → Shared → Prop) (E : Value → Shared → Prop), Q (.int (g i) s.toks) { s with toks := s.toks + 1 } → wpAny (model X.prog X.w) X.A (f (.int i t)) Q E s) :
    UnR X f (rU fun i => .int (g i)) := by
  intro pins s σ H x v Q I rx h
  obtain ⟨i, rfl, q⟩ := h
  obtain ⟨t, rfl⟩ := rx
  exact rule i t s _ _ ⟨.int (g i), H, I.tok _, ⟨_, rfl⟩, q⟩
theorem DY : UnR X (unaryOp .USub) (rU fun i => .int (-i)) := unI fun _ _ _ _ _ q => neg_int q
end
section
variable {X : Cx} {a b c : Expr} {ta tb tc : TE} {pos : Pos}
theorem nF : OpR X (compareOp .Lt) (rI0 fun i j => .bl (decide (i < j))) := AK fun _ _ _ _ _ _ _ q => lt_int q
theorem yE : OpR X (compareOp .LtE) (rI0 fun i j => .bl (decide (i ≤ j))) := AK fun _ _ _ _ _ _ _ q => le_int q
theorem jc : OpR X (compareOp .Gt) (rI0 fun i j => .bl (decide (j < i))) := AK fun _ _ _ _ _ _ _ q => gt_int q
theorem qZ : OpR X (compareOp .GtE) (rI0 fun i j => .bl (decide (j ≤ i))) := AK fun _ _ _ _ _ _ _ q => ge_int q
theorem OpR.or {f : Value → Value → Sem Value} {r r' : R2} (h : OpR X f r) (h' : OpR X f r') : OpR X f (fun x y H Q => r x y H Q ∨ r' x y H Q) := by
  intro pins s σ H x y v u Q I rx ry q
  rcases q with q | q
  · exact h pins s σ H x y v u Q I rx ry q
  · exact h' pins s σ H x y v u Q I rx ry q
theorem aA (b : Expr) {op : CmpOp} (h : op ≠ .In := by decide) (h2 : op ≠ .NotIn := by decide) : behindInMarks op b = false := by
  have e1 : (op == CmpOp.In) = false := by cases op <;> first | rfl | exact absurd rfl h
  have e2 : (op == CmpOp.NotIn) = false := by cases op <;> first | rfl | exact absurd rfl h2
  cases b <;> simp [behindInMarks, e1, e2]
theorem Bf {op : CmpOp} {r : R2} (ho : OpR X (compareOp op) r) (ha : PE X a ta) (hb : PE X b tb) (hm : behindInMarks op b = false) : PE X (.Compare a [op] [b] pos) (tOp r ta tb) := by
  intro pins s σ H Q I h
  exact wpAny_Compare1 (Em ha hb I h fun v u s2 x y H2 I2 rx ry q => ho pins s2 σ H2 x y v u Q I2 rx ry q) hm
def BL (t : TE) : TT := fun σ H Q => t σ H fun x H' => ∃ k, x = .bl k ∧ Q k H'
theorem By {op : CmpOp} {r : R2} (ho : OpR X (compareOp op) r) (ha : PE X a ta) (hb : PE X b tb) (hm : behindInMarks op b = false) : PT X (.Compare a [op] [b] pos) (BL (tOp r ta tb)) := by
  intro pins s σ H Q I h
  refine wpAny_isTrue_Compare1 (thn (ha pins s σ H _ I h) fun v s1 ⟨x, H1, I1, r1, q1⟩ => thn (hb pins s1 σ H1 _ I1 q1) fun u s2 ⟨y, H2, I2, r2, q2⟩ =>
    thn (ho pins s2 σ H2 x y v u _ I2 r1 r2 q2) fun c s3 ⟨z, H3, I3, r3, k, e, q3⟩ => ?_) hm
  subst e
  cases r3
  exact wpAny_truthy_bool ⟨H3, I3, q3⟩
theorem pI : (sizeLine : Nat) < 2 ^ 63 := by rw [sizeLine_eq]; decide
theorem vals1 {x : V} {us : List Value} (r : Vals [x] us) : ∃ u, us = [u] ∧ RelV x u := by
  cases r with
  | cons r1 r2 => cases r2; exact ⟨_, rfl, r1⟩
theorem vals2 {x y : V} {us : List Value} (r : Vals [x, y] us) : ∃ u w', us = [u, w'] ∧ RelV x u ∧ RelV y w' := by
  cases r with
  | cons r1 r2 =>
    cases r2 with
    | cons r3 r4 => cases r4; exact ⟨_, _, rfl, r1, r3⟩
theorem zr : gn X (.builtin "abs") (fun xs H Q => ∃ i, xs = [.int i] ∧ Q (.int (if i < 0 then -i else i)) H) := by
  intro pins s σ H xs us Q I r h
  obtain ⟨i, rfl, q⟩ := h
  obtain ⟨u, rfl, t, rfl⟩ := vals1 r
  exact call_abs_int fun u tk => ⟨.int (if i < 0 then -i else i), H, I.tok _, ⟨_, rfl⟩, q⟩
theorem xF (hc : X.calm = true) : gn X (.builtin "max") (fun xs H Q => ∃ i j, xs = [.int i, .int j] ∧ Q (.int (if j > i then j else i)) H) := by
  intro pins s σ H xs us Q I r h
  obtain ⟨i, j, rfl, q⟩ := h
  obtain ⟨u, w', rfl, ⟨t, rfl⟩, ⟨t', rfl⟩⟩ := vals2 r
  refine max_two_ints (I.ok.hd hc) fun h' tk k => ⟨_, H, I.kept k, ?_, q⟩
  by_cases hj : j > i
  · rw [if_pos hj, if_pos hj]; exact ⟨_, rfl⟩
  · rw [if_neg hj, if_neg hj]; exact ⟨_, rfl⟩
theorem xE (hc : X.calm = true) : gn X (.builtin "min") (fun xs H Q => ∃ i j, xs = [.int i, .int j] ∧ Q (.int (if j < i then j else i)) H) := by
  intro pins s σ H xs us Q I r h
  obtain ⟨i, j, rfl, q⟩ := h
  obtain ⟨u, w', rfl, ⟨t, rfl⟩, ⟨t', rfl⟩⟩ := vals2 r
  refine min_two_ints (I.ok.hd hc) fun h' tk k => ⟨_, H, I.kept k, ?_, q⟩
  by_cases hj : j < i
  · rw [if_pos hj, if_pos hj]; exact ⟨_, rfl⟩
  · rw [if_neg hj, if_neg hj]; exact ⟨_, rfl⟩
theorem xQ : gn X (.type "int") (fun xs H Q => (∃ i, xs = [.int i] ∧ Q (.int i) H) ∨ ∃ k, xs = [.bl k] ∧ Q (.int (if k then 1 else 0)) H) := by
  intro pins s σ H xs us Q I r h
  rcases h with ⟨i, rfl, q⟩ | ⟨k, rfl, q⟩
  · obtain ⟨u, rfl, t, rfl⟩ := vals1 r
    exact call_int_int ⟨.int i, H, I, ⟨_, rfl⟩, q⟩
  · obtain ⟨u, rfl, r1⟩ := vals1 r
    cases r1
    exact call_int_bool ⟨.int (if k then 1 else 0), H, I.tok _, ⟨_, rfl⟩, q⟩
end
end L2
namespace L2
open PySem PySem.Spec PyProof.Rows
section
variable {prog : Program} {w : World} {A : Around} {E : Value → Shared → Prop} {s : Shared} {K : PySem.W.Frag} {x dx C f : Addr} {mA : Str → Option Value} {name : Str} {v : Value}
end
section
variable {P : Program} {w : World} {H H' : Hp} {h h' : Heap} {a C dx : Addr} {fs fs' : List (Str × V)}
end
structure Cls (K : PySem.W.Frag) (C : Addr) : Prop where
  pg : PySem.W.plainGet K C Str.empty = true
  hd : PySem.W.hasDictIn K C = true
  po : PySem.W.plainOver K C = true
  sa : PySem.W.findIn K (.ref C) "__setattr__" = some (some (.builtin "object.__setattr__"))
theorem Cls.get {K : PySem.W.Frag} {C : Addr} (c : Cls K C) (f : Str) : PySem.W.plainGet K C f = true := c.pg
section
variable {X : Cx} {pins : List (Addr × Obj)} {σ : St} {H : Hp} {s : Shared} {a C dx : Addr} {fs : List (Str × V)} {f : Str} {v : V} {A : Around} {E : Value → Shared → Prop}
theorem Inv.made (I : Inv X pins σ H s) : Inv X pins σ (upd (upd H s.heap.objs.size (.own (s.heap.objs.size + 1))) (s.heap.objs.size + 1) (.ins C s.heap.objs.size []))
    { s with heap := (s.heap.push PySem.W.emptyDict).push (PySem.W.instObj C s.heap.objs.size) } := by
  have e1 : (s.heap.push PySem.W.emptyDict).get? s.heap.objs.size = some PySem.W.emptyDict := Heap.get?_push_size s.heap rfl
  have e2 : ((s.heap.push PySem.W.emptyDict).push (PySem.W.instObj C s.heap.objs.size)).get? (s.heap.objs.size + 1) = some (PySem.W.instObj C s.heap.objs.size) := by
    have := Heap.get?_push_size (s.heap.push PySem.W.emptyDict) (o := PySem.W.instObj C s.heap.objs.size) rfl
    rwa [Heap.size_push] at this
  have e3 : (s.heap.push PySem.W.emptyDict).Ns s.heap.objs.size (fun _ => none) := ⟨PySem.W.emptyDict, #[], _, e1, rfl, (fun e he => absurd he (by simp)), fun _ => rfl⟩
  have I1 := I.laid (a := s.heap.objs.size) (o := .own (s.heap.objs.size + 1)) (h' := s.heap.push PySem.W.emptyDict) (t' := s.toks) (fun b u q => Heap.get?_push_of_some _ q) (Nat.le_refl _) ⟨_, e1⟩
  refine I1.laid (a := s.heap.objs.size + 1) (o := .ins C s.heap.objs.size []) (t' := s.toks) (fun b u q => Heap.get?_push_of_some _ q) (Nat.le_of_eq (Heap.size_push _ _)) ?_
  have ne : s.heap.objs.size ≠ s.heap.objs.size + 1 := Nat.ne_of_lt (Nat.lt_succ_self _)
  refine ⟨by rw [bo ne, fz], Nat.zero_le _, ne, e2, fun _ => none, (Heap.Ns1.of_empty e3).at fun o q => Heap.get?_push_of_some _ q, fun _ => True.intro, fun y hy => absurd rfl hy⟩
end
section
variable {X : Cx} {o e value : Expr} {f : Str} {pos pos' tpos : Pos} {ta tv : TE}
end
section
variable {X : Cx} {pins : List (Addr × Obj)} {σ : St} {H : Hp} {s : Shared} {A : Around} {E : Value → Shared → Prop} {Q : Value → Shared → Prop} {c : Value} {b : Bool}
end
end L2
namespace L2
open PySem PySem.Spec PyProof.Rows
structure iG (k : Nat) (A : Around) : Prop where
  hd : A.handled = none
  dp : A.depth + 3 * k + 5 < recursionLimit
  un : A.units + 16 * k + 200 < cLine
theorem iG.mono {j k : Nat} {A : Around} (r : iG k A) (h : j ≤ k) : iG j A := ⟨r.hd, by have := r.dp; omega, by have := r.un; omega⟩
theorem iG.deeper {k : Nat} {A : Around} (r : iG (k + 1) A) (env : Env) : iG k (A.deeper env) :=
  ⟨r.hd, by have := r.dp; show A.depth + 1 + 3 * k + 5 < _; omega, by have := r.un; show A.units + 3 + 16 * k + 200 < _; omega⟩
theorem iG.depth {k : Nat} {A : Around} (r : iG k A) : A.depth < recursionLimit := by have := r.dp; omega
theorem iG.units {k : Nat} {A : Around} (r : iG k A) : A.units + 64 < cLine := by have := r.un; omega
def Gs : TA := fun _ H Q => Q [] H
def Fo (ta : TE) (tr : TA) : TA := fun σ H Q => ta σ H fun x H1 => tr σ H1 fun xs H2 => Q (x :: xs) H2
section
variable {X : Cx} {e : Expr} {es : List Expr} {te : TE} {t : TA} {pos : Pos}
theorem rz : PA X [] Gs := fun _ _ _ _ H Q I h => Calls.spliced_nil ⟨[], H, I, .nil, h⟩
theorem j9 (ha : PE X e te) (hr : PA X es t) (hs : starEach (e :: es) X.env = (false, eval e X.env) :: starEach es X.env := by rfl) : PA X (e :: es) (Fo te t) := by
  intro pos pins s σ H Q I h
  rw [hs]
  show wpAny _ _ (spliced ((false, eval e X.env) :: backTo pos (starEach es X.env))) _ _ s
  refine Calls.spliced_cons (thn (ha pins s σ H _ I h) fun u s1 ⟨x, H1, I1, r1, q1⟩ => ?_)
  exact thn (hr pos pins s1 σ H1 _ I1 q1) fun us s2 ⟨xs, H2, I2, r2, q2⟩ => ⟨x :: xs, H2, I2, .cons r1 r2, q2⟩
def Gk (t : TA) : TE := fun σ H Q => t σ H fun xs H1 => xs.length ≤ sizeLine ∧ ∀ p, H1 p = none → Q (.ref p) (upd H1 p (.tup xs))
def Gv (t : TA) : TE := fun σ H Q => t σ H fun xs H1 => xs.length ≤ sizeLine ∧ ∀ p, H1 p = none → Q (.ref p) (upd H1 p (.lst xs))
theorem zH {x1} (h : PA X es t) : PE X (.Tuple es x1 pos) (Gk t) := by
  intro pins s σ H Q I hq
  refine wpAny_Tuple_spliced (thn (h pos pins s σ H _ I hq) fun us s1 ⟨xs, H1, I1, r, z, q⟩ => ⟨by rw [← r.length]; exact z, ?_⟩)
  have hf : H1 s1.heap.objs.size = none := I1.hok.fresh (Nat.le_refl _)
  refine ⟨.ref s1.heap.objs.size, upd H1 s1.heap.objs.size (.tup xs), I1.laid (t' := s1.toks) (fun b u e => Heap.get?_push_of_some _ e) (Nat.le_refl _) ?_, rfl, q _ hf⟩
  exact ⟨z, us, r, ⟨_, Heap.get?_push_size _ rfl, rfl, _, rfl⟩⟩
theorem Dh (h : PA X es t) : PE X (.List es pos) (Gv t) := by
  intro pins s σ H Q I hq
  refine wpAny_List_spliced (thn (h pos pins s σ H _ I hq) fun us s1 ⟨xs, H1, I1, r, z, q⟩ => ⟨by rw [← r.length]; exact z, ?_⟩)
  have hf : H1 s1.heap.objs.size = none := I1.hok.fresh (Nat.le_refl _)
  refine ⟨.ref s1.heap.objs.size, upd H1 s1.heap.objs.size (.lst xs), I1.laid (t' := s1.toks) (fun b u e => Heap.get?_push_of_some _ e) (Nat.le_refl _) ?_, rfl, q _ hf⟩
  exact ⟨z, us, 0, r, Heap.get?_push_size _ rfl⟩
end
abbrev Sp := List V → Hp → VK → XK → Prop
abbrev CXT := List Env → Hp → Shared → XK → Value → Shared → Prop
structure Ax (P : Program) (w : World) (K : PySem.W.Frag) (mg : Str → Option Value) (base : Heap) (A : Around) (outer : List Env) (s : Shared) (H : Hp) : Prop where
  frames : A.frames = some outer
  mod : Mod K mg base
  bs : ∀ b o, base.get? b = some o → s.heap.get? b = some o ∧ H b = none
  bsz : base.objs.size ≤ s.heap.objs.size
  oY : s.heap.FunFrames base outer
  frf : ∀ b ∈ frs outer, H b = none
  hok : HOk P w H s.heap
  bare : AllBare s.gens
def CE (outer : List Env) (P : Program) (w : World) (H : Hp) (s : Shared) (Q : VK) (u : Value) (s' : Shared) : Prop :=
  ∃ v H', s'.os = s.os ∧ AllBare s'.gens ∧ Un (frs outer) [] H H' s.heap s'.heap ∧ HOk P w H' s'.heap ∧ RelV v u ∧ Q v H'
def CR (CX : CXT) (outer : List Env) (P : Program) (w : World) (H : Hp) (s : Shared) (Q : VK) (E : XK) (r : Result) (s' : Shared) : Prop :=
  match r with
  | .ok (.ret u) => CE outer P w H s Q u s'
  | .ok _ => False
  | .error e => CX outer H s E e s'
structure bq (P : Program) (w : World) (K : PySem.W.Frag) (mg : Str → Option Value) (base : Heap) (CX : CXT) (k : Nat) (f : Addr) (fd : FuncData) (ps : List Str) (sp : Sp) : Prop where
  len : ∀ vs H Q E, sp vs H Q E → vs.length = ps.length
  run : ∀ (A : Around) (outer : List Env) (s : Shared) (H : Hp) (args : Args) (us : List Value) (vs : List V) (Q : VK) (E : XK), iG k A → Ax P w K mg base A outer s H → BindsTo s fd args (ps.zip us) → Vals vs us → sp vs H Q E →
    codeAny (model P w) A (.call (.ref f) args) (CR CX outer P w H s Q E) s
theorem bq.imp {P : Program} {w : World} {K : PySem.W.Frag} {mg : Str → Option Value} {base : Heap} {CX : CXT} {k : Nat} {f : Addr} {fd : FuncData} {ps : List Str} {sp sp' : Sp} (F : bq P w K mg base CX k f fd ps sp)
    (h : ∀ vs H Q E, sp' vs H Q E → sp vs H Q E) : bq P w K mg base CX k f fd ps sp' :=
  ⟨fun vs H Q E q => F.len vs H Q E (h _ _ _ _ q), fun A outer s H args us vs Q E hr he hb hv hs => F.run A outer s H args us vs Q E hr he hb hv (h _ _ _ _ hs)⟩
section
variable {X : Cx} {pins : List (Addr × Obj)} {σ : St} {H : Hp} {s s' : Shared}
theorem Inv.Gm (I : Inv X pins σ H s) : Ax X.prog X.w X.K X.mg X.base X.A X.stack s H :=
  ⟨I.ok.frames, I.ok.mod, I.bs, Nat.le_trans I.ok.bsz I.sz, I.stack, I.oj, I.hok, I.bare⟩
theorem Inv.after {Q : VK} {u : Value} (I : Inv X pins σ H s) (h : CE X.stack X.prog X.w H s Q u s') : EP X pins σ Q u s' := by
  obtain ⟨v, H', os, bare, un, hok, r, q⟩ := h
  obtain ⟨hh, g, d, t, os'⟩ := s'
  obtain rfl : os' = s.os := os
  exact ⟨v, H', I.call (h' := hh) (g' := g) (d' := d) (t' := t) (ch := []) un hok bare (fun b z => absurd z (by simp)), r, q⟩
end
def Ez (sp : Sp) (dvs : List V) (E : XK) (t : TA) : TE := fun σ H Q => t σ H fun vs H1 => sp (vs ++ dvs) H1 Q E
def Binds (K : PySem.W.Frag) (fd : FuncData) (ps : List Str) (ds : List Value) : Prop :=
  ∀ (s : Shared) (us : List Value), K.In s.heap → (us ++ ds).length = ps.length → BindsTo s fd ⟨us, []⟩ (ps.zip (us ++ ds))
theorem Binds.all {K : PySem.W.Frag} {fd : FuncData} {ps : List Str} (h : ∀ us : List Value, us.length = ps.length → bindArgs fd ⟨us, []⟩ = pure (ps.zip us)) : Binds K fd ps [] := fun s us _ hl => by
  rw [List.append_nil] at hl ⊢
  exact .of_eq (h us hl)
def Passes (CX : CXT) (X : Cx) (E : XK) : Prop := ∀ (pins : List (Addr × Obj)) (σ : St) (H : Hp) (s : Shared) (e : Value) (s' : Shared), Inv X pins σ H s → CX X.stack H s E e s' → X.xe e s'
section
variable {X : Cx} {CX : CXT} {k : Nat} {f C : Addr} {fd : FuncData} {ps : List Str} {sp : Sp} {dvs : List V} {ds : List Value} {E : XK} {x m : Str} {p pos apos : Pos} {e o : Expr} {es : List Expr} {ta : TE} {t : TA}
theorem Dy {pins : List (Addr × Obj)} {σ : St} {H : Hp} {s : Shared} {Q : VK} {us : List Value} {vs : List V} (F : bq X.prog X.w X.K X.mg X.base CX k f fd ps sp) (hr : iG k X.A) (hb : Binds X.K fd ps ds) (hd : Vals dvs ds) (hx : Passes CX X E)
    (I : Inv X pins σ H s) (r : Vals vs us) (h : sp (vs ++ dvs) H Q E) : wpAny (model X.prog X.w) X.A (call (.ref f) us) (EP X pins σ Q) X.xe s := by
  have r2 : Vals (vs ++ dvs) (us ++ ds) := r.append hd
  have hl : (us ++ ds).length = ps.length := by rw [← r2.length]; exact F.len _ _ _ _ h
  refine wpAny_call (codeAny_mono (F.run X.A X.stack s H ⟨us, []⟩ (us ++ ds) (vs ++ dvs) Q E hr I.Gm (hb s us I.kIn hl) r2 h) fun r s' hq => ?_)
  cases r with
  | error e => exact hx pins σ H s e s' I hq
  | ok fl =>
    cases fl with
    | ret u => exact I.after hq
    | next => exact False.elim hq
    | brk => exact False.elim hq
    | cont => exact False.elim hq
theorem Bo (F : bq X.prog X.w X.K X.mg X.base CX k f fd ps sp) (hr : iG k X.A) (hg : Gl X x) (hm : X.mg x = some (.ref f)) (hk : PySem.W.keepIn X.K (.ref f) = true) (hb : Binds X.K fd ps ds) (hd : Vals dvs ds) (hx : Passes CX X E)
    (ha : PA X (e :: es) t) (hdb : (x == ("__debug__" : Str)) = false := by decide) (he : starEach (e :: es) X.env = (false, eval e X.env) :: starEach es X.env := by rfl) (hpl : (backTo pos (starEach es X.env)).any (·.1) = false := by rfl) :
    PE X (.Call (.Name x p) (e :: es) [] pos) (Ez sp dvs E t) := by
  intro pins s σ H Q I h
  refine wpAny_Call_Name_kw (xp I hg hm ?_ hdb)
  refine PySem.W.callWith_K (h₀ := X.base) I.ok.mod.kin hk (thn (ha pos pins s σ H _ I h) fun us s1 ⟨vs, H1, I1, r, q⟩ => ⟨I1.kIn, ?_⟩) he hpl
  exact Dy F hr hb hd hx I1 r q
end
section
variable {X : Cx} {CX : CXT} {k : Nat} {f C : Addr} {fd : FuncData} {ps ks : List Str} {sp : Sp} {E : XK} {x m : Str} {p pos apos kpos : Pos} {e o : Expr} {es : List Expr} {kws : List Keyword} {te ta : TE} {t tk : TA} {nm : Option Str}
variable {g : List Value → List Value → List Value} {gV : List V → List V → List V}
end
structure aC (N P : List Str) (sc : Scope) : Prop where
  kind : sc.kind = .function
  co : sc.isCoroutine = false
  gen : sc.isGenerator = false
  nd : N.Nodup
  pre : N.take P.length = P
  par : ∀ x ∈ P, sc.names.lookup x = some .local ∨ sc.names.lookup x = some .cell
  CU : ∀ y ∈ sc.names, y.2 ≠ .free
theorem qS {kindOf : Str → Option NameKind} {x : Str} : ∀ {binds : List (Str × Value)} {m : Str → Option Value}, (∀ v, (x, v) ∉ binds) → bindL kindOf binds m x = m x
  | [], _, _ => rfl
  | (n, v) :: r, m, h => by
    unfold bindL
    rw [qS fun w hw => h w (List.mem_cons_of_mem _ hw)]
    split
    · have : x ≠ n := by rintro rfl; exact h v List.mem_cons_self
      simp [this]
    · rfl
theorem qQ {kindOf : Str → Option NameKind} {x : Str} : ∀ {binds : List (Str × Value)} {m : Str → Option Value}, (∀ v, (x, v) ∉ binds) → bindC kindOf binds m x = m x
  | [], _, _ => rfl
  | (n, v) :: r, m, h => by
    unfold bindC
    rw [qQ fun w hw => h w (List.mem_cons_of_mem _ hw)]
    split
    · rfl
    · have : x ≠ n := by rintro rfl; exact h v List.mem_cons_self
      simp [this]
theorem qP {kindOf : Str → Option NameKind} {x : Str} {v : Value} : ∀ {P : List Str} {vs : List Value} {i : Nat} {m : Str → Option Value}, P.Nodup → P[i]? = some x → vs[i]? = some v → kindOf x = some .local →
    bindL kindOf (P.zip vs) m x = some v
  | [], _, _, _, _, h, _, _ => by simp at h
  | _ :: _, [], _, _, _, _, h, _ => by simp at h
  | p :: P, w :: vs, 0, m, nd, h1, h2, hk => by
    simp at h1 h2; subst h1; subst h2
    show bindL kindOf ((p, w) :: P.zip vs) m p = _
    unfold bindL
    rw [qS fun v hv => (List.nodup_cons.mp nd).1 (List.of_mem_zip hv).1, if_pos hk]
    simp
  | p :: P, w :: vs, i + 1, m, nd, h1, h2, hk => by
    show bindL kindOf ((p, w) :: P.zip vs) m x = _
    unfold bindL
    exact qP (i := i) (List.nodup_cons.mp nd).2 (by simpa using h1) (by simpa using h2) hk
theorem rg {kindOf : Str → Option NameKind} {x : Str} {v : Value} : ∀ {P : List Str} {vs : List Value} {i : Nat} {m : Str → Option Value}, P.Nodup → P[i]? = some x → vs[i]? = some v → kindOf x ≠ some .local →
    bindC kindOf (P.zip vs) m x = some v
  | [], _, _, _, _, h, _, _ => by simp at h
  | _ :: _, [], _, _, _, _, h, _ => by simp at h
  | p :: P, w :: vs, 0, m, nd, h1, h2, hk => by
    simp at h1 h2; subst h1; subst h2
    show bindC kindOf ((p, w) :: P.zip vs) m p = _
    unfold bindC
    rw [qQ fun v hv => (List.nodup_cons.mp nd).1 (List.of_mem_zip hv).1, if_neg hk]
    simp
  | p :: P, w :: vs, i + 1, m, nd, h1, h2, hk => by
    show bindC kindOf ((p, w) :: P.zip vs) m x = _
    unfold bindC
    exact rg (i := i) (List.nodup_cons.mp nd).2 (by simpa using h1) (by simpa using h2) hk
def start (N : List Str) (vs : List V) : St := vs.map some ++ List.replicate (N.length - vs.length) none
def wg (CX : CXT) (P : Program) (w : World) (K : PySem.W.Frag) (mg : Str → Option Value) (base : Heap) (N : List Str) (qual : Str) (scope : Scope) (f : Addr) (cd : Value) (A : Around) (outer : List Env) (s : Shared) (H : Hp) (E : XK) : Cx where
  prog := P
  w := w
  K := K
  mg := mg
  base := base
  A := A.deeper (envOfC qual scope s.heap.objs.size f cd)
  N := N
  s₀ := s
  H₀ := H
  env := envOfC qual scope s.heap.objs.size f cd
  outer := outer
  stack := envOfC qual scope s.heap.objs.size f cd :: outer
  ex := []
  calm := true
  fn := fun _ => true
  pn := []
  xe := fun e s' => wpAny (model P w) (A.deeper (envOfC qual scope s.heap.objs.size f cd)) (leaving (envOfC qual scope s.heap.objs.size f cd) e) (fun _ s'' => CX outer H s E e s'') (fun e' s'' => CX outer H s E e' s'') s'
theorem uQ {sc : Scope} {n : Nat} {x : Str} (h : sc.names.lookup x = some .cell) : ∃ c, (cellsFrom n sc.names []).lookup x = some c := by
  have q := PySem.W.cellsFrom_some sc.names n [] (.inl h)
  exact Option.isSome_iff_exists.mp q
theorem xC {CX : CXT} {P : Program} {w : World} {K : PySem.W.Frag} {mg : Str → Option Value} {base : Heap} {N ps : List Str} {qual : Str} {scope : Scope} {f : Addr} {cd : Value} {A : Around} {outer : List Env} {s s1 : Shared} {H : Hp} {E : XK} {us : List Value} {vs : List V}
    (S : aC N ps scope) (hd : A.handled = none) (e0 : Ax P w K mg base A outer s H) (hl : vs.length = ps.length) (r : Vals vs us)
    (x : InCallC s s.heap.objs.size (bindL (envOfC qual scope s.heap.objs.size f cd).kindOf (ps.zip us) fun _ => none) (cellsFrom (s.heap.objs.size + 1) scope.names []) (bindC (envOfC qual scope s.heap.objs.size f cd).kindOf (ps.zip us) fun _ => none) s1) :
    Inv (wg CX P w K mg base N qual scope f cd A outer s H E) [] (start N vs) H s1 := by
  have hpl : ps.length ≤ N.length := by have := congrArg List.length S.pre; rw [List.length_take] at this; omega
  obtain ⟨h1, tk, rfl, hk⟩ := x.done
  have noA : ∀ b : Addr, b ∉ (wg CX P w K mg base N qual scope f cd A outer s H E).ex := fun b z => absurd (show b ∈ ([] : List Addr) from z) (by simp)
  refine ⟨⟨e0.mod, S.kind, rfl, rfl, Nat.le_refl _, fun y z c h1 h2 => ?_, fun y hy => ?_, fun y c _ h => ?_, fun _ => hd, .inl hd, Around.frames_deeper e0.frames, .inr ⟨rfl, rfl⟩, fun b z => absurd z (noA b), e0.bs, e0.bsz, fun b _ _ => noA b, fun b z => absurd z (noA b), e0.oY, e0.frf⟩,
    rfl, e0.bare, Un.kept hk, ⟨_, x.toInCall.ns, fun i y v h1 h2 h3 => ?_⟩, fun y c h => ⟨_, x.cell y c h⟩, e0.hok.fresh (Nat.le_refl _), fun y c h => ?_, fun p hp => absurd (show p ∈ ([] : List (Addr × Obj)) from hp) (by simp), e0.hok.kept hk, ?_⟩
  · exact name_of_addr x.apart (PySem.mem_of_lookup h1) (PySem.mem_of_lookup h2)
  · have hy : scope.names.lookup y = some .cell ∨ scope.names.lookup y = some .free := hy
    rcases hy with hy | hy
    · exact uQ hy
    · exact absurd rfl (S.CU _ (PySem.mem_of_lookup hy))
  · exact Nat.le_of_lt (x.above y c (PySem.mem_of_lookup h))
  · have hi : i < vs.length := by
      unfold start at h2
      by_cases hi : i < vs.length
      · exact hi
      · rw [List.getElem?_append_right (by simpa using hi)] at h2
        rw [List.getElem?_replicate] at h2
        split at h2 <;> cases h2
    have ha : vs[i]? = some v := by
      unfold start at h2
      rw [List.getElem?_append_left (by simpa using hi), List.getElem?_map] at h2
      cases e : vs[i]? with
      | none => rw [e] at h2; cases h2
      | some a => rw [e] at h2; cases h2; rfl
    obtain ⟨u, hu, rv⟩ := r.get ha
    have hp : ps[i]? = some y := by
      rw [← S.pre, List.getElem?_take_of_lt (by omega)]; exact h1
    have ndP : ps.Nodup := by rw [← S.pre]; exact S.nd.sublist (List.take_sublist _ _)
    refine ⟨u, rv, ?_⟩
    rcases S.par y (List.mem_of_getElem? hp) with k | k
    · exact .inl ⟨k, qP ndP hp hu k⟩
    · obtain ⟨c, e⟩ := uQ (n := s.heap.objs.size + 1) k
      refine .inr ⟨.inl k, c, e, ?_⟩
      have q := x.cell y c e
      rw [rg ndP hp hu (by show scope.names.lookup y ≠ _; rw [k]; decide)] at q
      exact q
  · exact e0.hok.fresh (Nat.le_of_lt (x.above y c (PySem.mem_of_lookup h)))
  · unfold start
    show _ = N.length
    rw [List.length_append, List.length_map, List.length_replicate]
    omega
theorem E7 {CX : CXT} {P : Program} {w : World} {K : PySem.W.Frag} {mg : Str → Option Value} {base : Heap} {k : Nat} {f : Addr} {name qual : Str} {params : Arguments} {body : List Stmt} {scope : Scope} {dV kV doc pm cdv ct oc : Value} {an od : Option Addr}
    {osl : Array (Option Value)} {N ps : List Str} {sp : Sp} (lk : K.lookup f = some ⟨oc, od, .func (PySem.W.fnOf name qual params body scope dV kV doc pm an cdv ct), osl⟩) (hcd : PySem.W.codeIn K cdv qual = true) (S : aC N ps scope)
    (len : ∀ vs H Q E, sp vs H Q E → vs.length = ps.length)
    (hbody : ∀ (A : Around) (outer : List Env) (s : Shared) (H : Hp) (vs : List V) (Q : VK) (E : XK), iG k (A.deeper (envOfC qual scope s.heap.objs.size f cdv)) → sp vs H Q E →
      ∃ t, PSs (wg CX P w K mg base N qual scope f cdv A outer s H E) body t ∧ t { nx := fun _ H' => Q .non H', rt := Q } (start N vs) H) :
    bq P w K mg base CX (k + 1) f (PySem.W.fnOf name qual params body scope dV kV doc pm an cdv ct) ps sp := by
  refine ⟨len, fun A outer s H args us vs Q E hr e0 hb r hsp => ?_⟩
  have hl := len _ _ _ _ hsp
  have KX : K.In s.heap := e0.mod.kin.keeps fun b o e => (e0.bs b o e).1
  have lim : s.heap.NoLimit := e0.mod.nolimit.keeps fun b o e => (e0.bs b o e).1
  have hkind : ∀ y ∈ ps.zip us, scope.names.lookup y.1 = some .local ∨ (scope.names.lookup y.1 = some .cell ∧ ((cellsFrom (s.heap.objs.size + 1) scope.names []).lookup y.1).isSome = true) := fun ⟨n, v⟩ hy => by
    rcases S.par n (List.of_mem_zip hy).1 with q | q
    · exact .inl q
    · exact .inr ⟨q, PySem.W.cellsFrom_some _ _ _ (.inl q)⟩
  refine codeAny_call_function hr.depth (KX _ _ lk) rfl S.co S.gen rfl (PySem.W.codeRec_of KX hcd) (hb _ _ _ _ ?_)
  refine wpAny_newFunctionEnv_cells S.kind hkind fun env he s1 x => ?_
  subst he
  refine ⟨lim.keeps x.toInCall.keep, codeAny_func ?_⟩
  obtain ⟨t, ht, hq⟩ := hbody A outer s H vs Q E (hr.deeper _) hsp
  have I : Inv (wg CX P w K mg base N qual scope f cdv A outer s H E) [] (start N vs) H s1 := xC S hr.hd e0 hl r x
  refine wpAny_mono (ht [] s1 (start N vs) H _ I hq) (fun fl s' hs => ?_) fun e s' hs => hs
  have fin : ∀ {σ' : St} {H' : Hp} {v : V} {u : Value}, Inv (wg CX P w K mg base N qual scope f cdv A outer s H E) [] σ' H' s' → RelV v u → Q v H' → CE outer P w H s Q u s' :=
    fun {σ' H' v u} J rv q => ⟨v, H', J.os, J.bare, J.base, J.hok, rv, q⟩
  cases fl with
  | ret u =>
    obtain ⟨v, σ', H', J, rv, q⟩ := hs
    exact fin J rv q
  | next =>
    obtain ⟨σ', H', J, q⟩ := hs
    exact fin (v := V.non) (u := Value.none) J rfl q
  | brk =>
    obtain ⟨_, _, _, q⟩ := hs
    exact False.elim q
  | cont =>
    obtain ⟨_, _, _, q⟩ := hs
    exact False.elim q
end L2
namespace L2
open PySem PySem.Spec PyProof.Rows
section
variable {X : Cx} {x : Str} {p pos : Pos} {e : Expr} {es : List Expr} {t : TA} {id T : String} {r : List V → Hp → VK → Prop}
def tCB (r : List V → Hp → VK → Prop) (t : TA) : TE := fun σ H Q => t σ H fun vs H1 => r vs H1 Q
theorem pL (hc : gn X (.builtin id) r) (hg : Gl X x) (hm : X.mg x = none) (hv : bootBuiltins x = some (.builtin id)) (ha : PA X (e :: es) t) (hn : x ≠ "__name__" := by decide) (hdb : (x == ("__debug__" : Str)) = false := by decide)
    (he : starEach (e :: es) X.env = (false, eval e X.env) :: starEach es X.env := by rfl) (hpl : (backTo pos (starEach es X.env)).any (·.1) = false := by rfl) : PE X (.Call (.Name x p) (e :: es) [] pos) (tCB r t) := by
  intro pins s σ H Q I h
  refine wpAny_Call_Name_kw (oW I hg hm hv ?_ hn hdb)
  exact PyProof.Rows.callWith_builtin1 (thn (ha pos pins s σ H _ I h) fun us s1 ⟨vs, H1, I1, r1, q1⟩ => hc pins s1 σ H1 vs us Q I1 r1 q1) he hpl
theorem xw (hc : gn X (.type T) r) (hg : Gl X x) (hm : X.mg x = none) (hv : bootBuiltins x = some (.type T)) (ha : PA X (e :: es) t) (hn : x ≠ "__name__" := by decide) (hdb : (x == ("__debug__" : Str)) = false := by decide)
    (he : starEach (e :: es) X.env = (false, eval e X.env) :: starEach es X.env := by rfl) (hpl : (backTo pos (starEach es X.env)).any (·.1) = false := by rfl) : PE X (.Call (.Name x p) (e :: es) [] pos) (tCB r t) := by
  intro pins s σ H Q I h
  refine wpAny_Call_Name_kw (oW I hg hm hv ?_ hn hdb)
  exact PyProof.Rows.callWith_type1 (thn (ha pos pins s σ H _ I h) fun us s1 ⟨vs, H1, I1, r1, q1⟩ => hc pins s1 σ H1 vs us Q I1 r1 q1) he hpl
end
end L2
namespace HT
open PySem PyProof.Rows
section
open PySem.SeqAt
open PySem.AutoSeq1 (wpAny_loadPart')
open PySem.MeetsSeq PySem.MeetsSeq2 PySem.MeetsSeq3
end
section
variable {prog : Program} {w : World} {A : Around} {E : Value → Shared → Prop} {s : Shared}
theorem AZ {t b : Addr} {vs ws : List Value} {Q : Value → Shared → Prop} (ht : IsTup s.heap t vs.toArray) (hb : IsTup s.heap b ws.toArray) (hv : vs ≠ [])
    (h1 : ws = [] → Q (.ref t) s) (h2 : ws ≠ [] → Q (.ref s.heap.objs.size) { s with heap := s.heap.push { cls := .type "tuple", data := .seq (vs ++ ws).toArray } })
    (hsz : vs.length + ws.length ≤ sizeLine) : wpAny (model prog w) A (binaryOp .Add (.ref t) (.ref b)) Q E s := by
  obtain ⟨⟨cls, dd, data, sl⟩, ho, hc, n, hd⟩ := id ht
  obtain ⟨⟨cls2, dd2, data2, sl2⟩, ho2, hc2, n2, hd2⟩ := id hb
  simp only at hc hd hc2 hd2
  subst hc hd hc2 hd2
  have e : vs.toArray ++ ws.toArray = (vs ++ ws).toArray := by simp
  by_cases hw : ws = []
  · exact concat_meets ⟨_, ho, rfl⟩ ⟨_, ho2, rfl⟩ noFill_tuple_add seq_tuple_add PySem.F.slot_tuple_add PySem.F.entry_tuple_add (PySem.F.args_tuple_add_2 _ _)
      (tuple_addW1 t b vs.toArray ws.toArray n n2 dd dd2 sl sl2 (by simpa using hv) (by simp [hw])) ⟨ho, ho2, h1 hw⟩
  · refine concat_meets ⟨_, ho, rfl⟩ ⟨_, ho2, rfl⟩ noFill_tuple_add seq_tuple_add PySem.F.slot_tuple_add PySem.F.entry_tuple_add (PySem.F.args_tuple_add_2 _ _)
      (tuple_addW2 t b vs.toArray ws.toArray n n2 dd dd2 sl sl2 (by simpa using hv) (by simpa using hw) (by rw [List.size_toArray, List.size_toArray]; exact hsz)) ⟨ho, ho2, ?_⟩
    rw [e]
    exact h2 hw
def sIx (n d : Nat) : Option Int → Nat
  | none => d
  | some v => if v < 0 then (v + (n : Int)).toNat else min v.toNat n
theorem Ep (n d : Nat) (hd : d ≤ n) (o : Option Int) : sIx n d o ≤ n := by
  cases o with
  | none => exact hd
  | some v =>
    show (if v < 0 then (v + (n : Int)).toNat else min v.toNat n) ≤ n
    by_cases hv : v < 0
    · rw [if_pos hv]; omega
    · rw [if_neg hv]; exact Nat.min_le_right _ _
theorem wB (v : Int) (n d : Nat) : (if v < 0 then max (v + (n : Int)) 0 else min v (n : Int)) = ((sIx n d (some v) : Nat) : Int) := by
  show (if v < 0 then max (v + (n : Int)) 0 else min v (n : Int)) = (((if v < 0 then (v + (n : Int)).toNat else min v.toNat n) : Nat) : Int)
  by_cases hv : v < 0
  · simp only [if_pos hv]; omega
  · simp only [if_neg hv]; omega
theorem vn (lo hi : Option Int) (n : Nat) : Builtin.Slice.sliceAdjust lo hi 1 (n : Int) = (((sIx n 0 lo : Nat) : Int), ((sIx n n hi : Nat) : Int)) := by
  have h1 : ¬ ((1 : Int) < 0) := by omega
  unfold Builtin.Slice.sliceAdjust
  simp only [h1, if_false]
  refine Prod.ext ?_ ?_
  · cases lo with
    | none => rfl
    | some v => exact wB v n 0
  · cases hi with
    | none => rfl
    | some v => exact wB v n n
theorem vL (i j : Nat) : Builtin.Slice.slicePlaces (i : Int) (j : Int) 1 = j - i := by
  unfold Builtin.Slice.slicePlaces
  have h1 : (1 : Int) > 0 := by omega
  simp only [h1, if_true, Int.ediv_one]
  split <;> omega
theorem pd {v : Value} {o : Option Int} {Q : Option Int → Shared → Prop} (p : IsPart v o) (h : Q o s) : wpAny (model prog w) A (Builtin.Slice.slicePartIndex v) Q E s := by
  cases p with
  | none => exact slicePart_none h
  | int i t => exact slicePart_int h
theorem ik {sl : Addr} {vl vu : Value} {lo hi : Option Int} {n : Nat} {Q : Int × Int × Nat → Shared → Prop} (hs : s.heap.IsSliceOf sl vl vu .none) (pl : IsPart vl lo) (pu : IsPart vu hi)
    (h : Q (((sIx n 0 lo : Nat) : Int), 1, sIx n n hi - sIx n 0 lo) s) : wpAny (model prog w) A (Builtin.Slice.sliceApplied (.ref sl) (pure (n : Int))) Q E s := by
  obtain ⟨os, hos, hcs, hds⟩ := id hs
  unfold Builtin.Slice.sliceApplied Builtin.Slice.sliceFields
  refine wpAny_bind (wpAny_bind (wpAny_field hos hds (x := vl) rfl (wpAny_bind (wpAny_field hos hds (x := vu) rfl (wpAny_bind (wpAny_field hos hds (x := .none) rfl (wpAny_pure ?_)))))))
  refine wpAny_bind (slicePart_none ?_)
  show wpAny _ _ (if ((1 : Int) == 0) = true then _ else _) _ _ s
  rw [if_neg (by decide)]
  refine wpAny_bind (pd pl (wpAny_bind (pd pu (wpAny_bind (wpAny_pure ?_)))))
  show wpAny _ _ (match Builtin.Slice.sliceAdjust lo hi 1 (n : Int) with | (lo, hi) => pure (lo, (1 : Int), Builtin.Slice.slicePlaces lo hi 1)) _ _ s
  rw [vn lo hi n]
  show wpAny _ _ (pure (((sIx n 0 lo : Nat) : Int), (1 : Int), Builtin.Slice.slicePlaces ((sIx n 0 lo : Nat) : Int) ((sIx n n hi : Nat) : Int) 1)) _ _ s
  rw [vL]
  exact wpAny_pure h
theorem yO (xs : Array Value) (i k : Nat) : ((List.range k).filterMap fun (m : Nat) => xs[((i : Int) + (m : Int) * 1).toNat]?).toArray = ((xs.toList.drop i).take k).toArray := by
  have e : (fun (m : Nat) => xs[((i : Int) + (m : Int) * 1).toNat]?) = fun m => xs[i + m]? := by
    funext m
    have : ((i : Int) + (m : Int) * 1).toNat = i + m := by omega
    rw [this]
  rw [e]
  have := pick_run xs i k
  rw [List.filterMap_map] at this
  have e2 : ((fun x => xs[x]?) ∘ fun x => i + x) = fun m => xs[i + m]? := rfl
  rw [e2] at this
  rw [this]
theorem k9 {t sl : Addr} {items : Array Value} {vl vu : Value} {lo hi : Option Int} {Q : Value → Shared → Prop} (ht : IsTup s.heap t items) (hs : s.heap.IsSliceOf sl vl vu .none) (pl : IsPart vl lo) (pu : IsPart vu hi)
    (hw : ¬ (sIx items.size 0 lo = 0 ∧ sIx items.size items.size hi = items.size))
    (h : Q (.ref s.heap.objs.size) { s with heap := s.heap.push { cls := .type "tuple", data := .seq ((items.toList.drop (sIx items.size 0 lo)).take (sIx items.size items.size hi - sIx items.size 0 lo)).toArray } })
    (hsz : items.size ≤ sizeLine) : wpAny (model prog w) A (getItem (.ref t) (.ref sl)) Q E s := by
  have htake : sizeOk (.seq ((items.toList.drop (sIx items.size 0 lo)).take (sIx items.size items.size hi - sIx items.size 0 lo)).toArray) := by
    show ((items.toList.drop (sIx items.size 0 lo)).take (sIx items.size items.size hi - sIx items.size 0 lo)).toArray.size ≤ sizeLine
    rw [List.size_toArray, List.length_take, List.length_drop, Array.length_toList]
    omega
  have hj : sIx items.size items.size hi ≤ items.size := Ep _ _ (Nat.le_refl _) hi
  obtain ⟨os, hos, hcs, hds⟩ := id hs
  have hTs : s.TypeIs (.ref sl) "slice" := ⟨os, hos, hcs⟩
  unfold getItem
  try with_reducible refine wpAny_holding ?_
  first | refine wpAny_bind (wpAny_pure ?_) | skip
  refine wpAny_bind (wpAny_sequenceKey ht.typeIs (by decide) ?_)
  refine wpAny_bind (wpAny_callSpecial?_slot (name := Str.ofString "__getitem__") ht.typeIs PyProof.Rows.slot_tuple_getitem
    (wpAny_call_entry PyProof.Rows.slot_tuple_getitem ht.typeIs entry_tuple_getitem ?_ (args_tuple_getitem _ _)))
  show wpAny _ _ (Builtin.Tuple.tupleItemsOf (.ref t) >>= _) _ _ s
  refine wpAny_bind (tupleItemsOf_ ht ?_)
  refine wpAny_bind (wpAny_typeOf hTs ?_)
  rw [if_pos (by decide)]
  refine wpAny_bind (ik hs pl pu ?_)
  have hno : ¬ ((((sIx items.size 0 lo : Nat) : Int) == 0 && (1 : Int) == 1 && (sIx items.size items.size hi - sIx items.size 0 lo) == items.size) = true) := by
    intro q
    rw [Bool.and_eq_true, Bool.and_eq_true] at q
    have q1 : ((sIx items.size 0 lo : Nat) : Int) = 0 := eq_of_beq q.1.1
    have q2 : sIx items.size items.size hi - sIx items.size 0 lo = items.size := eq_of_beq q.2
    exact hw ⟨by omega, by omega⟩
  show wpAny _ _ (if (((sIx items.size 0 lo : Nat) : Int) == 0 && (1 : Int) == 1 && (sIx items.size items.size hi - sIx items.size 0 lo) == items.size) = true then _ else _) _ _ s
  rw [if_neg hno, yO]
  first
    | exact wpAny_bind (m := Builtin.Tuple.tupleExact _) (wpAny_newObj_type (wpAny_pure ⟨_, rfl, wpAny_pure h⟩) htake)
    | exact wpAny_bind (m := Builtin.Tuple.tupleExact _) (wpAny_newObj_type (wpAny_bind (wpAny_pure (wpAny_pure ⟨_, rfl, wpAny_pure h⟩))) htake)
    | exact wpAny_bind (wpAny_bind (m := Builtin.Tuple.tupleExact _) (wpAny_newObj_type (wpAny_pure (wpAny_pure ⟨_, rfl, wpAny_pure h⟩)) htake))
    | exact wpAny_bind (wpAny_bind (m := Builtin.Tuple.tupleExact _) (wpAny_newObj_type (wpAny_pure ⟨_, rfl, wpAny_pure h⟩) htake))
end
end HT
namespace L2
open PySem PySem.Spec PyProof.Rows
abbrev TO := St → Hp → (Option Int → Hp → Prop) → Prop
def PO (X : Cx) (e : Option Expr) (t : TO) : Prop :=
  ∀ (pins : List (Addr × Obj)) (s : Shared) (σ : St) (H : Hp) (Q : Option Int → Hp → Prop), Inv X pins σ H s → t σ H Q →
    wpAny (model X.prog X.w) X.A (evalPart e X.env) (fun u s' => ∃ o H', Inv X pins σ H' s' ∧ IsPart u o ∧ Q o H') X.xe s
def BE : TO := fun _ H Q => Q none H
def EL (t : TE) : TO := fun σ H Q => t σ H fun x H1 => ∃ i, x = .int i ∧ Q (some i) H1
section
variable {X : Cx} {e : Expr} {te : TE} {lo hi : Option Expr} {tl th : TO} {pos p2 : Pos}
theorem AE : PO X none BE := by
  intro pins s σ H Q I h
  rw [evalPart_none]
  exact wpAny_pure ⟨none, H, I, .none, h⟩
theorem AW (h : PE X e te) : PO X (some e) (EL te) := by
  intro pins s σ H Q I hw
  rw [evalPart_some]
  refine thn (h pins s σ H _ I hw) fun u s1 ⟨x, H1, I1, r1, q1⟩ => ?_
  obtain ⟨i, rfl, q⟩ := q1
  obtain ⟨t, rfl⟩ := r1
  exact ⟨some i, H1, I1, .int i t, q⟩
def SlR (X : Cx) (r : V → Option Int → Option Int → Hp → VK → Prop) : Prop :=
  ∀ (pins : List (Addr × Obj)) (s : Shared) (σ : St) (H : Hp) (x : V) (v vl vu : Value) (lo hi : Option Int) (sl : Addr) (Q : VK), Inv X pins σ H s → RelV x v → s.heap.IsSliceOf sl vl vu .none → IsPart vl lo → IsPart vu hi → r x lo hi H Q →
    ∃ T id, typeLookup (.type T) "__getitem__" = pure (some (.builtin id)) ∧ s.TypeIs v T ∧ wpAny (model X.prog X.w) X.A (getItem v (.ref sl)) (EP X pins σ Q) X.xe s
theorem SlR.or {r r' : V → Option Int → Option Int → Hp → VK → Prop} (h : SlR X r) (h' : SlR X r') : SlR X (fun x lo hi H Q => r x lo hi H Q ∨ r' x lo hi H Q) := by
  intro pins s σ H x v vl vu lo hi sl Q I rx hs pl pu q
  rcases q with q | q
  · exact h pins s σ H x v vl vu lo hi sl Q I rx hs pl pu q
  · exact h' pins s σ H x v vl vu lo hi sl Q I rx hs pl pu q
def tSl (r : V → Option Int → Option Int → Hp → VK → Prop) (te : TE) (tl th : TO) : TE := fun σ H Q => te σ H fun x H1 => tl σ H1 fun l H2 => th σ H2 fun u H3 => r x l u H3 Q
theorem yH {r : V → Option Int → Option Int → Hp → VK → Prop} (hr : SlR X r) (he : PE X e te) (hl : PO X lo tl) (hu : PO X hi th) : PE X (.Subscript e (.Slice lo hi none p2) pos) (tSl r te tl th) := by
  intro pins s σ H Q I h
  refine Subscript_ (thn (he pins s σ H _ I h) fun v s1 ⟨x, H1, I1, r1, q1⟩ => ?_)
  refine wpAny_Slice (thn (hl pins s1 σ H1 _ I1 q1) fun vl s2 ⟨l, H2, I2, pl, q2⟩ => thn (hu pins s2 σ H2 _ I2 q2) fun vu s3 ⟨u, H3, I3, pu, q3⟩ => ?_)
  rw [evalPart_none]
  refine wpAny_pure ?_
  have I4 : Inv X pins σ H3 { s3 with heap := s3.heap.push { cls := .type "slice", data := .fields #[vl, vu, .none] } } := I3.kept (t' := s3.toks) fun b ob q => Heap.get?_push_of_some _ q
  obtain ⟨T, id, hT, ht, hg⟩ := hr pins { s3 with heap := s3.heap.push { cls := .type "slice", data := .fields #[vl, vu, .none] } } σ H3 x v vl vu l u s3.heap.objs.size Q I4 r1 (Heap.IsSliceOf.new ..) pl pu q3
  show wpAny (model X.prog X.w) X.A (subscriptTail e (.Slice lo hi none p2) v (.ref s3.heap.objs.size)) (EP X pins σ Q) X.xe { s3 with heap := s3.heap.push { cls := .type "slice", data := .fields #[vl, vu, .none] } }
  exact tail_any (ops := [.ref s3.heap.objs.size, v]) ht hT hg (by with_unfolding_all rfl)
def rM (xs : List V) (lo hi : Option Int) : List V := (xs.drop (HT.sIx xs.length 0 lo)).take (HT.sIx xs.length xs.length hi - HT.sIx xs.length 0 lo)
theorem nD (xs : List V) (lo hi : Option Int) : (rM xs lo hi).length ≤ xs.length := by
  unfold rM
  rw [List.length_take, List.length_drop]
  omega
def FP (K : PySem.W.Frag) : V → Option Int → Option Int → Hp → VK → Prop := fun x lo hi H Q => ∃ a xs, x = .ref a ∧ SqT K H a xs ∧
  ¬ (HT.sIx xs.length 0 lo = 0 ∧ HT.sIx xs.length xs.length hi = xs.length) ∧ ∀ p, H p = none → Q (.ref p) (upd H p (.tup (rM xs lo hi)))
theorem Eg : SlR X (FP X.K) := by
  intro pins s σ H x v vl vu lo hi sl Q I rx hs pl pu h
  obtain ⟨a, xs, rfl, hx, hw, q⟩ := h
  cases rx
  obtain ⟨its, r, ht, hz⟩ := I.tuple hx
  have hlen : its.toArray.size = xs.length := by rw [List.size_toArray]; exact r.length.symm
  refine ⟨"tuple", _, PyProof.Rows.slot_tuple_getitem.lookup, ht.typeIs, ?_⟩
  refine HT.k9 ht hs pl pu (by rw [hlen]; exact hw) ?_ (by rw [hlen]; exact hz)
  rw [hlen]
  refine ⟨.ref s.heap.objs.size, _, I.laid (t' := s.toks) (o := .tup (rM xs lo hi)) (fun b ob q => Heap.get?_push_of_some _ q) (Nat.le_refl _) ?_, rfl, q _ (I.hok.fresh (Nat.le_refl _))⟩
  exact ⟨Nat.le_trans (nD xs lo hi) hz, _, (r.drop (HT.sIx xs.length 0 lo)).take (HT.sIx xs.length xs.length hi - HT.sIx xs.length 0 lo), IsTup.new _ _⟩
def Fj (K : PySem.W.Frag) : R2 := fun x y H Q => ∃ a b xs ys, x = .ref a ∧ y = .ref b ∧ SqT K H a xs ∧ SqT K H b ys ∧ xs ≠ [] ∧ xs.length + ys.length ≤ sizeLine ∧
  (ys = [] → Q (.ref a) H) ∧ (ys ≠ [] → ∀ p, H p = none → Q (.ref p) (upd H p (.tup (xs ++ ys))))
theorem Vals.sW {xs : List V} {us : List Value} (r : Vals xs us) : us = [] ↔ xs = [] := by
  cases r with
  | nil => simp
  | cons _ _ => simp
theorem AF : OpR X (binaryOp .Add) (Fj X.K) := by
  intro pins s σ H x y v u Q I rx ry h
  obtain ⟨a, b, xs, ys, rfl, rfl, ha, hb, hx, hz, q1, q2⟩ := h
  cases rx
  cases ry
  obtain ⟨its, r1, p1, _⟩ := I.tuple ha
  obtain ⟨its2, r2, p2, _⟩ := I.tuple hb
  refine HT.AZ p1 p2 (fun z => hx (r1.sW.mp z)) (fun z => ⟨.ref a, H, I, rfl, q1 (r2.sW.mp z)⟩) (fun z => ?_) (by rw [← r1.length, ← r2.length]; exact hz)
  refine ⟨.ref s.heap.objs.size, _, I.laid (t' := s.toks) (o := .tup (xs ++ ys)) (fun b ob q => Heap.get?_push_of_some _ q) (Nat.le_refl _) ?_, rfl, q2 (fun w => z (r2.sW.mpr w)) _ (I.hok.fresh (Nat.le_refl _))⟩
  exact ⟨by rw [List.length_append]; exact hz, _, r1.append r2, IsTup.new _ _⟩
end
end L2
namespace L2
open PySem PySem.Spec PyProof.Rows
def ixN (n : Nat) (i : Int) : Option Nat := if 0 ≤ i then (if i < n then some i.toNat else none) else if -(n : Int) ≤ i then some (i + n).toNat else none
def atI {α : Type} (xs : List α) (i : Int) : Option α := (ixN xs.length i).bind fun j => xs[j]?
theorem w5 {n : Nat} {i : Int} {j : Nat} (h : ixN n i = some j) : seqIndex? i n = some j ∧ j < n ∧ -(n : Int) ≤ i ∧ i < n := by
  unfold ixN at h
  by_cases h0 : 0 ≤ i
  · rw [if_pos h0] at h
    by_cases h1 : i < n
    · rw [if_pos h1] at h
      have e : i.toNat = j := Option.some.inj h
      exact ⟨by rw [seqIndex_of h0 h1, e], by omega, by omega, h1⟩
    · rw [if_neg h1] at h; cases h
  · rw [if_neg h0] at h
    by_cases h1 : -(n : Int) ≤ i
    · rw [if_pos h1] at h
      have e : (i + n).toNat = j := Option.some.inj h
      exact ⟨by rw [seqIndex_neg (by omega) h1, e], by omega, h1, by omega⟩
    · rw [if_neg h1] at h; cases h
theorem sQ {α : Type} {xs : List α} {i : Int} {v : α} (h : atI xs i = some v) : ∃ j, seqIndex? i xs.length = some j ∧ xs[j]? = some v ∧ j < xs.length ∧ -(xs.length : Int) ≤ i ∧ i < xs.length := by
  unfold atI at h
  cases e : ixN xs.length i with
  | none => rw [e] at h; cases h
  | some j =>
    rw [e] at h
    obtain ⟨h1, h2, h3, h4⟩ := w5 e
    exact ⟨j, h1, h, h2, h3, h4⟩
theorem nZ {α : Type} {xs : List α} {j : Nat} {v : α} (h : xs[j]? = some v) : atI xs (j : Int) = some v := by
  have hj : j < xs.length := (List.getElem?_eq_some_iff.mp h).1
  have e : ixN xs.length (j : Int) = some j := by
    unfold ixN
    rw [if_pos (by omega), if_pos (by omega)]; simp
  unfold atI; rw [e]; exact h
def rZ (b : Expr) : Prop := ∀ o i, subscripted b false o i = operate [o, i] (getItem o i)
def IxR (X : Cx) (r : R2) : Prop :=
  ∀ (value slice : Expr) (pins : List (Addr × Obj)) (s : Shared) (σ : St) (H : Hp) (x y : V) (v u : Value) (Q : VK), Inv X pins σ H s → RelV x v → RelV y u → r x y H Q →
    subscripted slice false v u = operate [v, u] (getItem v u) → wpAny (model X.prog X.w) X.A (subscriptTail value slice v u) (EP X pins σ Q) X.xe s
def MtR (X : Cx) (id : String) (r : V → List V → Hp → VK → Prop) : Prop :=
  ∀ (pins : List (Addr × Obj)) (s : Shared) (σ : St) (H : Hp) (x : V) (xs : List V) (v : Value) (us : List Value) (Q : VK), Inv X pins σ H s → RelV x v → Vals xs us → r x xs H Q →
    wpAny (model X.prog X.w) X.A (call (.builtin id) (v :: us)) (EP X pins σ Q) X.xe s
section
variable {X : Cx} {a b : Expr} {ta tb : TE} {pos : Pos}
theorem IxR.or {r r' : R2} (h : IxR X r) (h' : IxR X r') : IxR X (fun x y H Q => r x y H Q ∨ r' x y H Q) := by
  intro value slice pins s σ H x y v u Q I rx ry q hs
  rcases q with q | q
  · exact h value slice pins s σ H x y v u Q I rx ry q hs
  · exact h' value slice pins s σ H x y v u Q I rx ry q hs
theorem MtR.or {id : String} {r r' : V → List V → Hp → VK → Prop} (h : MtR X id r) (h' : MtR X id r') : MtR X id (fun x xs H Q => r x xs H Q ∨ r' x xs H Q) := by
  intro pins s σ H x xs v us Q I rx rs q
  rcases q with q | q
  · exact h pins s σ H x xs v us Q I rx rs q
  · exact h' pins s σ H x xs v us Q I rx rs q
theorem Cj {r : R2} (hr : IxR X r) (ha : PE X a ta) (hb : PE X b tb) (hs : rZ b) : PE X (.Subscript a b pos) (tOp r ta tb) := by
  intro pins s σ H Q I h
  exact Subscript_ (Em ha hb I h fun v u s2 x y H2 I2 rx ry q => hr a b pins s2 σ H2 x y v u Q I2 rx ry q (hs _ _))
def E5 (K : PySem.W.Frag) : R2 := fun x y H Q => ∃ p xs i v, x = .ref p ∧ y = .int i ∧ SqL K H p xs ∧ atI xs i = some v ∧ Q v H
def ET (K : PySem.W.Frag) : R2 := fun x y H Q => ∃ p xs i v, x = .ref p ∧ y = .int i ∧ SqT K H p xs ∧ atI xs i = some v ∧ Q v H
def FC : R2 := fun x y H Q => ∃ z i c, x = .str z ∧ y = .int i ∧ z.length ≤ sizeLine ∧ atI z.cps.toList i = some c ∧ Q (.str ⟨#[c]⟩) H
theorem Bj : IxR X (E5 X.K) := by
  intro value slice pins s σ H x y v u Q I rx ry h hs
  obtain ⟨p, xs, i, z, rfl, rfl, hq, he, q⟩ := h
  cases rx
  obtain ⟨t, rfl⟩ := ry
  obtain ⟨its, r, pl, hz⟩ := I.list hq
  obtain ⟨j, h1, h2, h3, h4, h5⟩ := sQ he
  obtain ⟨w, ew, rw'⟩ := r.get h2
  have hl := r.length
  have hn := pI
  have fin : EP X pins σ Q w s := ⟨z, H, I, rw', q⟩
  by_cases h0 : 0 ≤ i
  · have hj : i.toNat = j := by
      rw [seqIndex_of h0 h5] at h1
      exact Option.some.inj h1
    exact item_listR pl.isList h0 (by omega) (by rw [hj]; simpa using ew) fin hs
  · have hj : (i + (its.toArray.size : Int)).toNat = j := by
      rw [seqIndex_neg (by omega) h4] at h1
      rw [List.size_toArray, ← hl]
      exact Option.some.inj h1
    exact subscriptTail_builtinR (x := w) pl.isList.typeIs slot_list_getitem.lookup
      (wpAny_getItem_list_neg (Q := fun r s' => r = w ∧ EP X pins σ Q r s') pl.isList (by omega) (by rw [List.size_toArray] <;> omega) (by omega) (by rw [hj]; simpa using ew) ⟨rfl, fin⟩) hs
theorem DB : IxR X (ET X.K) := by
  intro value slice pins s σ H x y v u Q I rx ry h hs
  obtain ⟨p, xs, i, z, rfl, rfl, hq, he, q⟩ := h
  cases rx
  obtain ⟨t, rfl⟩ := ry
  obtain ⟨its, r, pl, hz⟩ := I.tuple hq
  obtain ⟨j, h1, h2, h3, h4, h5⟩ := sQ he
  obtain ⟨w, ew, rw'⟩ := r.get h2
  have hl := r.length
  have hn := pI
  have fin : EP X pins σ Q w s := ⟨z, H, I, rw', q⟩
  exact subscriptTail_builtinR (x := w) pl.typeIs slot_tuple_getitem.lookup
    (getItem_tuple (j := j) (Q := fun r s' => r = w ∧ EP X pins σ Q r s') pl (by omega) (by omega) (by rw [List.size_toArray, ← hl]; exact h1) (by simpa using ew) ⟨rfl, fin⟩) hs
theorem DV : IxR X FC := by
  intro value slice pins s σ H x y v u Q I rx ry h hs
  obtain ⟨z, i, c, rfl, rfl, hz, he, q⟩ := h
  obtain ⟨t, rfl⟩ := rx
  obtain ⟨t', rfl⟩ := ry
  obtain ⟨j, h1, h2, h3, h4, h5⟩ := sQ he
  have hl : z.cps.toList.length = z.length := by simp [Str.length]
  rw [hl] at h1 h4 h5
  have hn := pI
  exact tail_any (typeIs_str s z t) slot_str_getitem.lookup (getItem_str (c := c) (by
    have e1 : decide (i < -(2 ^ 63 : Int)) = false := decide_eq_false (by omega)
    have e2 : decide (i ≥ 2 ^ 63) = false := decide_eq_false (by omega)
    rw [e1, e2, Bool.or_false]) (by rw [h1]; simpa using h2) ⟨.str ⟨#[c]⟩, H, I.tok _, ⟨_, rfl⟩, q⟩) hs
def rIx (K : PySem.W.Frag) : R2 := fun x y H Q => E5 K x y H Q ∨ ET K x y H Q ∨ FC x y H Q
theorem Ap : IxR X (rIx X.K) := Bj.or (DB.or DV)
theorem wj (its : List Value) (n j : Nat) (u : Value) : Obj.mapSeq (·.setIfInBounds j u) { cls := .type "list", data := .seq its.toArray n } = { cls := .type "list", data := .seq (its.set j u).toArray n } := by
  simp [Obj.mapSeq]
theorem Inv.lst {pins : List (Addr × Obj)} {σ : St} {H : Hp} {s : Shared} {p : Addr} {xs : List V} (I : Inv X pins σ H s) (h : H p = some (.lst xs)) :
    ∃ (its : List Value) (n : Nat), Vals xs its ∧ s.heap.get? p = some { cls := .type "list", data := .seq its.toArray n } ∧ xs.length ≤ sizeLine := by
  obtain ⟨z, its, n, r, e⟩ := I.hok p _ h
  exact ⟨its, n, r, e, z⟩
theorem Inv.C3 {pins : List (Addr × Obj)} {σ : St} {H : Hp} {s : Shared} {p : Addr} {xs ys : List V} {its its' : List Value} {n n' : Nat} {f : Obj → Obj} (I : Inv X pins σ H s) (h : H p = some (.lst xs))
    (ho : s.heap.get? p = some { cls := .type "list", data := .seq its.toArray n }) (hf : f { cls := .type "list", data := .seq its.toArray n } = { cls := .type "list", data := .seq its'.toArray n' }) (r : Vals ys its') (hz : ys.length ≤ sizeLine) (t : Nat) :
    Inv X pins σ (upd H p (.lst ys)) { s with heap := s.heap.update p f, toks := t } := by
  have e : (s.heap.update p f).get? p = some { cls := .type "list", data := .seq its'.toArray n' } := by
    rw [Heap.get?_update_self f ho (by rw [hf] <;> rfl), hf]
  refine I.write (x := p) (e := p) (by rw [h]; trivial) (.inl rfl) (fun b u hb q => (Heap.get?_update_other _ _ (Ne.symm hb)).trans q) ⟨_, e⟩ ?_
  exact ⟨hz, its', n', r, e⟩
def FD : V → V → V → Hp → (Hp → Prop) → Prop := fun o i v H Q => ∃ p xs k j, o = .ref p ∧ i = .int k ∧ H p = some (.lst xs) ∧ ixN xs.length k = some j ∧ Q (upd H p (.lst (xs.set j v)))
theorem set_list : Ew X FD := by
  intro pins s σ H o i v ov iv u Q I ro ri rv h
  obtain ⟨p, xs, k, j, rfl, rfl, hp, hj, q⟩ := h
  cases ro
  obtain ⟨t, rfl⟩ := ri
  obtain ⟨its, n, r, ho, hz⟩ := I.lst hp
  obtain ⟨h1, h2, h3, h4⟩ := w5 hj
  have hl := r.length
  have hn := pI
  have I' : Inv X pins σ (upd H p (.lst (xs.set j v))) { s with heap := s.heap.update p (Obj.mapSeq (·.setIfInBounds j u)) } :=
    I.C3 hp ho (wj its n j u) (r.set rv j) (by rw [List.length_set]; exact hz) s.toks
  by_cases h0 : 0 ≤ k
  · have hk : k.toNat = j := by
      rw [seqIndex_of h0 h4] at h1
      exact Option.some.inj h1
    exact PySem.W.ki_setAt ho h0 (by omega) (by rw [List.size_toArray, ← hl]; exact h4) (by rw [hk]; exact ⟨_, I', q⟩)
  · have hk : (k + (its.toArray.size : Int)).toNat = j := by
      rw [seqIndex_neg (by omega) h3] at h1
      rw [List.size_toArray, ← hl]
      exact Option.some.inj h1
    exact PySem.W.ki_setBack ho (by omega) (by rw [List.size_toArray, ← hl]; exact h3) (by omega) (by rw [hk]; exact ⟨_, I', q⟩)
theorem rT (lo hi : Option Int) (n : Nat) : (sliceBounds lo hi none n).1 = ((HT.sIx n 0 lo : Nat) : Int) ∧ (sliceBounds lo hi none n).2.1 = ((HT.sIx n n hi : Nat) : Int) ∧ (sliceBounds lo hi none n).2.2 = 1 := by
  refine ⟨?_, ?_, rfl⟩
  · cases lo with
    | none => simp [sliceBounds, HT.sIx]
    | some i =>
      simp only [sliceBounds, HT.sIx, Option.getD_none, show (1 : Int) > 0 by decide, if_true]
      by_cases h : i < 0
      · simp only [h, if_true] <;> omega
      · simp only [h, if_false] <;> omega
  · cases hi with
    | none => simp [sliceBounds, HT.sIx]
    | some i =>
      simp only [sliceBounds, HT.sIx, Option.getD_none, show (1 : Int) > 0 by decide, if_true]
      by_cases h : i < 0
      · simp only [h, if_true] <;> omega
      · simp only [h, if_false] <;> omega
theorem pZ (its : List Value) (lo hi : Option Int) : slicePick its.toArray lo hi none = ((its.drop (HT.sIx its.length 0 lo)).take (HT.sIx its.length its.length hi - HT.sIx its.length 0 lo)).toArray := by
  obtain ⟨h1, h2, h3⟩ := rT lo hi its.toArray.size
  unfold slicePick
  rw [h1, h2, h3]
  simp only [sliceRange_one, pick_run, List.size_toArray] <;> rfl
def FX (K : PySem.W.Frag) : V → Option Int → Option Int → Hp → VK → Prop := fun x lo hi H Q => ∃ a xs, x = .ref a ∧ SqL K H a xs ∧ ∀ p, H p = none → Q (.ref p) (upd H p (.lst (rM xs lo hi)))
theorem BA : SlR X (FX X.K) := by
  intro pins s σ H x v vl vu lo hi sl Q I rx hs pl pu h
  obtain ⟨a, xs, rfl, hx, q⟩ := h
  cases rx
  obtain ⟨its, r, ht, hz⟩ := I.list hx
  have hlen := r.length
  refine ⟨"list", _, slot_list_getitem.lookup, ht.isList.typeIs, ?_⟩
  refine wpAny_getItem_list_slice ht.isList hs pl pu .none (by simp) ?_ (by rw [List.size_toArray] <;> omega)
  rw [pZ, ← hlen]
  refine ⟨.ref s.heap.objs.size, _, I.laid (t' := s.toks) (o := .lst (rM xs lo hi)) (fun b ob q => Heap.get?_push_of_some _ q) (Nat.le_refl _) ?_, rfl, q _ (I.hok.fresh (Nat.le_refl _))⟩
  exact ⟨Nat.le_trans (nD xs lo hi) hz, _, 0, (r.drop (HT.sIx xs.length 0 lo)).take (HT.sIx xs.length xs.length hi - HT.sIx xs.length 0 lo), Heap.get?_push_size _ rfl⟩
theorem l5 : gn X (.builtin "len") (fun xs H Q => ∃ p ys, xs = [.ref p] ∧ (SqL X.K H p ys ∨ SqT X.K H p ys) ∧ Q (.int ys.length) H) := by
  intro pins s σ H xs us Q I r h
  obtain ⟨p, ys, rfl, hq, q⟩ := h
  obtain ⟨u, rfl, rx⟩ := vals1 r
  cases rx
  have hn := pI
  rcases hq with hq | hq
  · obtain ⟨its, r', pl, hz⟩ := I.list hq
    have hlen := r'.length
    exact Calls.call_len_list pl.isList (by simp only [List.size_toArray] <;> omega) ⟨.int ys.length, H, I.tok _, ⟨s.toks + 1, by rw [List.size_toArray, hlen]⟩, q⟩
  · obtain ⟨its, r', pl, hz⟩ := I.tuple hq
    have hlen := r'.length
    exact len_tuple pl (by simp only [List.size_toArray] <;> omega) ⟨.int ys.length, H, I.tok _, ⟨s.toks + 1, by rw [List.size_toArray, hlen]⟩, q⟩
theorem gn.or {f : Value} {r r' : List V → Hp → VK → Prop} (h : gn X f r) (h' : gn X f r') : gn X f (fun xs H Q => r xs H Q ∨ r' xs H Q) := by
  intro pins s σ H xs us Q I rs q
  rcases q with q | q
  · exact h pins s σ H xs us Q I rs q
  · exact h' pins s σ H xs us Q I rs q
def tyV (K : PySem.W.Frag) (T : String) (x : V) (H : Hp) : Prop := match x with
  | .str _ => T = "str"
  | .int _ => T = "int"
  | .ref p => (T = "list" ∧ ∃ xs, SqL K H p xs) ∨ (T = "tuple" ∧ ∃ o, K.lookup p = some o ∧ o.cls = .type "tuple" ∧ o.dict = none) ∨
      (T = "dict" ∧ ((∃ kvs, H p = some (.dK kvs)) ∨ ∃ kvs, H p = some (.dT kvs))) ∨ (T = "set" ∧ ∃ S n, H p = some (.set S n))
  | _ => False
theorem Ak {pins : List (Addr × Obj)} {σ : St} {H : Hp} {s : Shared} {T : String} {x : V} {v : Value} (I : Inv X pins σ H s) (r : RelV x v) (ty : tyV X.K T x H) :
    s.TypeIs v T ∧ ∀ a, v = .ref a → ∃ ob, s.heap.get? a = some ob ∧ ob.dict = none := by
  cases x with
  | str z =>
    obtain ⟨t, rfl⟩ := r
    cases (show T = "str" from ty)
    exact ⟨typeIs_str s z t, fun _ e => nomatch e⟩
  | int i =>
    obtain ⟨t, rfl⟩ := r
    cases (show T = "int" from ty)
    exact ⟨typeIs_int s i t, fun _ e => nomatch e⟩
  | ref p =>
    cases r
    rcases ty with ⟨rfl, xs, hq⟩ | ⟨rfl, o, hk, hc, hd⟩ | ⟨rfl, hk⟩ | ⟨rfl, S, n, hk⟩
    · obtain ⟨its, _, pl, _⟩ := I.list hq
      refine ⟨pl.isList.typeIs, fun a e => ?_⟩
      cases e
      obtain ⟨o, n, e, c, hd, _⟩ := pl
      exact ⟨o, e, hd⟩
    · refine ⟨⟨o, I.kIn p o hk, hc⟩, fun a e => ?_⟩
      cases e
      exact ⟨o, I.kIn _ o hk, hd⟩
    · have z : ∃ o, s.heap.get? p = some o ∧ o.ExactDict := by
        rcases hk with ⟨kvs, hk⟩ | ⟨kvs, hk⟩
        · obtain ⟨_, _, _, _, o, _, _, e, ex, _⟩ := I.hok p _ hk
          exact ⟨o, e, ex⟩
        · obtain ⟨_, _, _, _, o, _, _, e, ex, _⟩ := I.hok p _ hk
          exact ⟨o, e, ex⟩
      obtain ⟨o, e, ex⟩ := z
      refine ⟨⟨o, e, ex.1⟩, fun a e2 => ?_⟩
      cases e2
      exact ⟨o, e, ex.2.1⟩
    · obtain ⟨o, _, _, _, e, ex, _⟩ := I.hok p _ hk
      refine ⟨⟨o, e, ex.1⟩, fun a e2 => ?_⟩
      cases e2
      exact ⟨o, e, ex.2.1⟩
  | _ => exact False.elim ty
def FU (K : PySem.W.Frag) (T : String) (r : V → List V → Hp → VK → Prop) (to : TE) : TE := fun σ H Q => to σ H fun x H1 => tyV K T x H1 ∧ r x [] H1 Q
def tBM (K : PySem.W.Frag) (T : String) (r : V → List V → Hp → VK → Prop) (to : TE) (t : TA) : TE := fun σ H Q => to σ H fun x H1 => tyV K T x H1 ∧ t σ H1 fun xs H2 => r x xs H2 Q
variable {o e : Expr} {es : List Expr} {to : TE} {t : TA} {name : Str} {apos cpos : Pos} {T id : String} {r : V → List V → Hp → VK → Prop}
theorem DP (pa : PlainAttrs T) (slot : Slot T name id) (hty : typeOf (.builtin id) = pure (.type "method_descriptor")) (hm : MtR X id r) (ho : PE X o to)
    (hbase : attributeBase o name X.env (eval o X.env) = eval o X.env := by rfl) (hline : (apos.endLine == cpos.line) = true := by rfl) : PE X (.Call (.Attribute o name apos) [] [] cpos) (FU X.K T r to) := by
  intro pins s σ H Q I h
  refine wpAny_Call_method0_late hbase hline (thn (ho pins s σ H _ I h) fun v s1 ⟨x, H1, I1, r1, ty, q1⟩ => ?_)
  obtain ⟨h1, h2⟩ := Ak I1 r1 ty
  exact ⟨T, id, pa, slot, hty, h1, h2, Calls.callWith_builtin rfl (PySem.evalArgs_none (hm pins s1 σ H1 x [] v [] Q I1 r1 .nil q1))⟩
theorem Fx (pa : PlainAttrs T) (slot : Slot T name id) (hty : typeOf (.builtin id) = pure (.type "method_descriptor")) (hm : MtR X id r) (ho : PE X o to) (ha : PA X (e :: es) t)
    (hbase : attributeBase o name X.env (eval o X.env) = eval o X.env := by rfl)
    (hfew : ((backTo cpos (starEach (e :: es) X.env)).all (fun x => !x.1) && (backToKw cpos (keywordEach [] X.env)).all (fun x => x.1.isSome)
      && decide ((e :: es).length + ([] : List Keyword).length + (if ([] : List Keyword).isEmpty then 0 else 1) < 30)) = true := by rfl)
    (hline : (apos.endLine == cpos.line) = true := by rfl) (hs : starEach (e :: es) X.env = (false, eval e X.env) :: starEach es X.env := by rfl) (hplain : (backTo cpos (starEach es X.env)).any (·.1) = false := by rfl) :
    PE X (.Call (.Attribute o name apos) (e :: es) [] cpos) (tBM X.K T r to t) := by
  intro pins s σ H Q I h
  refine wpAny_Call_method_late hbase hfew hline rfl (thn (ho pins s σ H _ I h) fun v s1 ⟨x, H1, I1, r1, ty, q1⟩ => ?_)
  obtain ⟨h1, h2⟩ := Ak I1 r1 ty
  refine ⟨T, id, pa, slot, hty, h1, h2, ?_⟩
  have hA := ha cpos pins s1 σ H1 _ I1 q1
  rw [hs] at hA ⊢
  refine Calls.callWith_builtin (by show (false || (backTo cpos (starEach es X.env)).any (·.1)) = false; rw [hplain] <;> rfl) (Calls.evalArgs_plain ?_)
  exact thn hA fun us s2 ⟨vs, H2, I2, r2, q2⟩ => hm pins s2 σ H2 x vs v us Q I2 r1 r2 q2
end
end L2
namespace L2
open PySem PySem.Spec PyProof.Rows
def MtM (X : Cx) (id : String) (r : V → List V → Hp → VK → Prop) : Prop :=
  ∀ (pins : List (Addr × Obj)) (s : Shared) (σ : St) (H : Hp) (x : V) (xs : List V) (v : Value) (us : List Value) (Q : VK), Inv X pins σ H s → RelV x v → Vals xs us → r x xs H Q →
    wpAny (model X.prog X.w) X.A (call (.builtin id) (v :: us)) (EP X pins σ Q) X.xe s
theorem Vals.one : ∀ {x : V} {us : List Value}, Vals [x] us → ∃ u, us = [u] ∧ RelV x u
  | _, _, .cons r .nil => ⟨_, rfl, r⟩
theorem Vals.two : ∀ {x y : V} {us : List Value}, Vals [x, y] us → ∃ u v, us = [u, v] ∧ RelV x u ∧ RelV y v
  | _, _, _, .cons r (.cons q .nil) => ⟨_, _, rfl, r, q⟩
theorem Vals.zero : ∀ {us : List Value}, Vals [] us → us = []
  | _, .nil => rfl
theorem Vals.dropLast {xs : List V} {us : List Value} (h : Vals xs us) : Vals xs.dropLast us.dropLast := by
  induction h with
  | nil => exact .nil
  | cons r t ih =>
    cases t with
    | nil => exact .nil
    | cons q t' => exact .cons r ih
theorem Vals.eraseIdx : ∀ {xs : List V} {us : List Value} (i : Nat), Vals xs us → Vals (xs.eraseIdx i) (us.eraseIdx i)
  | _, _, _, .nil => .nil
  | _, _, 0, .cons _ t => t
  | _, _, i + 1, .cons r t => .cons r (Vals.eraseIdx i t)
theorem Vals.reverse {xs : List V} {us : List Value} (h : Vals xs us) : Vals xs.reverse us.reverse := by
  induction h with
  | nil => exact .nil
  | cons r t ih => rw [List.reverse_cons, List.reverse_cons]; exact Vals.append ih (.cons r .nil)
theorem vB {α : Type} (l : List α) : l.eraseIdx (l.length - 1) = l.dropLast := by
  induction l with
  | nil => rfl
  | cons a r ih =>
    cases r with
    | nil => rfl
    | cons b r =>
      have e : (a :: b :: r).length - 1 = ((b :: r).length - 1) + 1 := by
        have h1 : (a :: b :: r).length = r.length + 2 := rfl
        have h2 : (b :: r).length = r.length + 1 := rfl
        omega
      rw [e, List.eraseIdx_cons_succ, ih]
      all_goals rfl
section
variable {X : Cx} {pins : List (Addr × Obj)} {σ : St} {H : Hp} {s : Shared} {l b : Addr} {xs ys zs : List V}
theorem Inv.Bt {its its' : List Value} {n : Nat} {f : Array Value → Array Value} {t' : Nat} (I : Inv X pins σ H s) (hH : H l = some (.lst xs))
    (e : s.heap.get? l = some { cls := .type "list", data := .seq its.toArray n }) (hf : f its.toArray = its'.toArray) (hv : Vals ys its') (hz : ys.length ≤ sizeLine) :
    Inv X pins σ (upd H l (.lst ys)) { s with heap := s.heap.update l (Obj.mapSeq f), toks := t' } := by
  have q := PySem.IsL.update e f
  rw [hf] at q
  refine I.write (x := l) (e := l) (by rw [hH]; exact trivial) (.inl rfl) (fun b' u hb hu => (Heap.get?_update_other s.heap (Obj.mapSeq f) (Ne.symm hb)).trans hu) ⟨_, q⟩ ?_
  exact ⟨hz, its', _, hv, q⟩
theorem Inv.Gh {its : List Value} {t' : Nat} (I : Inv X pins σ H s) (hv : Vals ys its) (hz : ys.length ≤ sizeLine) :
    Inv X pins σ (upd H s.heap.objs.size (.lst ys)) { s with heap := s.heap.push { cls := .type "list", data := .seq its.toArray }, toks := t' } :=
  I.laid (fun _ _ q => Heap.get?_push_of_some _ q) (Nat.le_refl _) ⟨hz, its, 0, hv, Heap.get?_push_size _ rfl⟩
theorem Inv.fresh (I : Inv X pins σ H s) : H s.heap.objs.size = none := I.hok.fresh (Nat.le_refl _)
theorem Inv.vv (I : Inv X pins σ H s) (hH : H l = some (.lst xs)) : xs.length ≤ sizeLine ∧ ∃ (its : List Value) (n : Nat), Vals xs its ∧ xs.length = its.length ∧ s.heap.get? l = some { cls := .type "list", data := .seq its.toArray n } := by
  obtain ⟨z, its, n, r, e⟩ := I.hok l _ hH
  exact ⟨z, its, n, r, r.length, e⟩
theorem Ae {n : Nat} (h : n ≤ sizeLine) : Builtin.List.listTooLong n = false := by
  unfold Builtin.List.listTooLong
  exact decide_eq_false (by omega)
end
section
variable {X : Cx}
def Bs : V → List V → Hp → VK → Prop := fun x vs H Q => ∃ l xs y, x = .ref l ∧ vs = [y] ∧ H l = some (.lst xs) ∧ xs.length < sizeLine ∧ Q .non (upd H l (.lst (xs ++ [y])))
theorem j2 : MtM X "list.append" Bs := by
  intro pins s σ H x vs v us Q I rx rv h
  obtain ⟨l, xs, y, rfl, rfl, hH, hz, q⟩ := h
  cases rx
  obtain ⟨u, rfl, ru⟩ := rv.one
  obtain ⟨z, its, n, r, hl, e⟩ := I.vv hH
  refine call_meets F.slot_list_append ⟨_, e, rfl⟩ F.entry_list_append (F.args_list_append_2 _ _) (PySem.list_append l its.toArray n u (by rw [List.size_toArray]; omega)) ⟨e, ?_⟩
  refine ⟨.non, _, I.Bt (its' := its ++ [u]) hH e (by simp) (r.append (.cons ru .nil)) ?_, rfl, q⟩
  rw [List.length_append, List.length_singleton]
  omega
def BH : V → List V → Hp → VK → Prop := fun x vs H Q => ∃ l b xs zs, x = .ref l ∧ vs = [.ref b] ∧ H l = some (.lst xs) ∧ H b = some (.lst zs) ∧ xs.length + zs.length ≤ sizeLine ∧ Q .non (upd H l (.lst (xs ++ zs)))
theorem Et : MtM X "list.extend" BH := by
  intro pins s σ H x vs v us Q I rx rv h
  obtain ⟨l, b, xs, zs, rfl, rfl, hH, hB, hz, q⟩ := h
  cases rx
  obtain ⟨u, rfl, ru⟩ := rv.one
  cases ru
  obtain ⟨z, its, n, r, hl, e⟩ := I.vv hH
  obtain ⟨z2, its2, n2, r2, hl2, e2⟩ := I.vv hB
  have hsz : its.toArray.size + its2.toArray.size ≤ sizeLine := by rw [List.size_toArray, List.size_toArray]; omega
  have hlong : ¬ (!its.toArray.isEmpty && Builtin.List.listTooLong (its.toArray.size + its2.toArray.size)) = true := by
    rw [Ae hsz, Bool.and_false]
    exact Bool.false_ne_true
  refine call_meets F.slot_list_extend ⟨_, e, rfl⟩ F.entry_list_extend (F.args_list_extend_2 _ _)
    (AutoSeq1.list_extend_list_list_0 l its.toArray n b its2.toArray n2 hlong (by rw [List.size_toArray]; omega) (by omega)) ⟨e, e2, ?_⟩
  refine ⟨.non, _, I.Bt (its' := its ++ its2) hH e (by simp) (r.append r2) ?_, rfl, q⟩
  rw [List.length_append]
  omega
def Gd : V → List V → Hp → VK → Prop := fun x vs H Q => ∃ l xs y, x = .ref l ∧ vs = [] ∧ H l = some (.lst xs) ∧ xs[xs.length - 1]? = some y ∧ Q y (upd H l (.lst xs.dropLast))
theorem Ga : MtM X "list.pop" Gd := by
  intro pins s σ H x vs v us Q I rx rv h
  obtain ⟨l, xs, y, rfl, rfl, hH, hy, q⟩ := h
  cases rx
  have hus := rv.zero
  subst hus
  obtain ⟨z, its, n, r, hl, e⟩ := I.vv hH
  obtain ⟨u, hu, ru⟩ := r.get hy
  have hy' : its.toArray[its.toArray.size - 1]? = some u := by
    show its.toArray[its.length - 1]? = some u
    rw [← Array.getElem?_toList, ← hl]
    exact hu
  refine call_meets F.slot_list_pop ⟨_, e, rfl⟩ F.entry_list_pop (F.args_list_pop_1 _) (MeetsSeq.list_pop_last l its.toArray n u hy' (by rw [List.size_toArray]; omega)) ⟨e, ?_⟩
  refine ⟨y, _, I.Bt (its' := its.dropLast) hH e ?_ r.dropLast ?_, ru, q⟩
  · show its.toArray.eraseIdxIfInBounds (its.toArray.size - 1) = its.dropLast.toArray
    rw [List.size_toArray, List.eraseIdxIfInBounds_toArray, vB]
  · rw [List.length_dropLast]
    omega
def yw : V → List V → Hp → VK → Prop := fun x vs H Q => ∃ l xs, x = .ref l ∧ vs = [] ∧ H l = some (.lst xs) ∧ Q .non (upd H l (.lst xs.reverse))
theorem vN : MtM X "list.reverse" yw := by
  intro pins s σ H x vs v us Q I rx rv h
  obtain ⟨l, xs, rfl, rfl, hH, q⟩ := h
  cases rx
  have hus := rv.zero
  subst hus
  obtain ⟨z, its, n, r, hl, e⟩ := I.vv hH
  refine call_meets F.slot_list_reverse ⟨_, e, rfl⟩ F.entry_list_reverse (F.args_list_reverse_1 _) (AutoSeq1.list_reverse_list_0 l its.toArray n (by rw [List.size_toArray]; omega)) ⟨e, ?_⟩
  refine ⟨.non, _, I.Bt (its' := its.reverse) hH e (by simp) r.reverse ?_, rfl, q⟩
  rw [List.length_reverse]
  omega
def C5 : R2 := fun x y H Q => ∃ l b xs zs, x = .ref l ∧ y = .ref b ∧ H l = some (.lst xs) ∧ H b = some (.lst zs) ∧ xs.length + zs.length ≤ sizeLine ∧ ∀ p, H p = none → Q (.ref p) (upd H p (.lst (xs ++ zs)))
theorem Ed : OpR X (binaryOp .Add) C5 := by
  intro pins s σ H x y v u Q I rx ry h
  obtain ⟨l, b, xs, zs, rfl, rfl, hH, hB, hz, q⟩ := h
  cases rx
  cases ry
  obtain ⟨z, its, n, r, hl, e⟩ := I.vv hH
  obtain ⟨z2, its2, n2, r2, hl2, e2⟩ := I.vv hB
  refine PySem.P.add_list e e2 ?_ (by rw [List.size_toArray, List.size_toArray]; omega)
  have ea : its.toArray ++ its2.toArray = (its ++ its2).toArray := by simp
  rw [ea]
  exact ⟨.ref _, _, I.Gh (t' := s.toks) (r.append r2) (by rw [List.length_append]; omega), rfl, q _ I.fresh⟩
end
section
variable {prog : Program} {w : World} {A : Around} {E : Value → Shared → Prop} {s : Shared}
end
section
variable {X : Cx}
end
end L2
namespace Att
open PySem PySem.W PySem.Calls PyProof.Rows
theorem nJ {P : Params} {h : Heap} : ∀ (ns : List Int) (vs : List Value), WellAll P h vs (ns.map WData.int) → IntsAre vs ns := by
  intro ns
  induction ns with
  | nil =>
    intro vs w
    rw [List.map_nil] at w
    cases w
    exact .nil
  | cons n ns ih =>
    intro vs w
    rw [List.map_cons] at w
    cases w with
    | cons a b =>
      cases a
      exact .cons _ _ (ih _ b)
theorem xu {l : OpenLaw} {n : Nat} (hn : l.most = some n) {P : Params} {h : Heap} {args : List WData} {vals : List Value}
    (hpre : l.row.toRowW.claim.pre args = true) (hwl : WellAll P h vals args) :
    ∃ a vs ns, vals = [Value.ref a] ∧ args = [WData.list (ns.map WData.int)] ∧ h.get? a = some { cls := .type "list", data := .seq vs.toArray } ∧ IntsAre vs ns ∧ ns.length ≤ n := by
  have hsh : WShape.hasAll [] args [.list .int] = true := (pre_splitW hpre).1
  have hc : l.pre.holds [] { args := args } = true := (pre_splitW hpre).2
  obtain ⟨d, r, rfl, h1, h2⟩ := hasAllW_cons hsh
  obtain rfl := hasAllW_nil h2
  obtain ⟨xs, rfl, h3⟩ := hasW_list h1
  obtain ⟨ns, rfl⟩ := items_int h3
  have hlen : ns.length ≤ n := by
    unfold OpenLaw.pre at hc
    have h4 : (WTm.not (.lt (.lit (.int (n : Int))) (.len (.arg 0)))).holds [] { args := [.list (ns.map .int)] } = true := by
      have h4 := (holds_andW hc).1
      rw [hn] at h4
      exact h4
    have h5 := condW_of h4 (w_not (w_lt w_lit (w_len_list (w_arg rfl))))
    rw [List.length_map] at h5
    refine Nat.le_of_not_lt fun q => ?_
    have q' : (n : Int) < ((ns.length : Nat) : Int) := by omega
    first
      | (rw [decide_eq_true q'] at h5; exact absurd h5 (by decide))
      | (simp at h5; omega)
  cases hwl with
  | cons w1 w2 =>
    cases w2
    cases w1 with
    | list ho hall => exact ⟨_, _, ns, rfl, rfl, ho, nJ ns _ hall, hlen⟩
theorem xW (l : OpenLaw) (args : List WData) : l.row.toRowW.claim.post args (.bool true) args = true :=
  postW_of (r := l.row.toRowW) (X := (true == true))
    (show WShape.has [] (.bool true) .bool = true by first | rfl | decide | simp [WShape.has, WShape.arms, WShape.armsAll])
    (show (WTm.eq .res (.lit (.bool true))).value [] { args := args, res := some (.bool true), after := args } = some (.bool (true == true)) from w_eq_bool (w_res rfl) w_lit) rfl
theorem uv {l : OpenLaw} {n : Nat} {q : Program} {loose : List Str} {XP : (Str → Option Value) → Heap → Prop} {YP : World → Heap → Prop} {d : DefRec}
    (hn : l.most = some n) (hdf : d.params.defaults = [])
    (call : ∀ (w : World) (s₀ s₁ : Shared) (mg mb : Str → Option Value) (fa : Addr) (o : Obj) (pm cd doc : Value) (a : Addr) (vs : List Value) (ns : List Int),
      Ground q loose [] XP w s₀ mg mb s₁.heap → YP w s₁.heap →
      s₁.heap.get? fa = some o → o.data = .func (docDef d.name d.params d.body d.scope pm cd doc) → s₁.heap.CodeRec cd d.name → mg d.name = some (.ref fa) →
      s₁.heap.get? a = some { cls := .type "list", data := .seq vs.toArray } → IntsAre vs ns → ns.length ≤ n → s₁.gens = #[] →
      codeAny (model l.prog w) callerA (.call (.ref fa) ⟨[.ref a], []⟩) (fun r s' => r = .ok (.ret (.bool true)) ∧ OldK s₁.heap s'.heap ∧ s'.os = s₁.os ∧ AllBare s'.gens) s₁) :
    WalkO q loose XP YP l.row.toRowW d [] (fun f vs => PySem.call f vs) := by
  intro w s₀ s₁ mg mb G Y fa o pm cd doc dV kV ho hd hcd hD hmg hg args vals as hpre hlay hrd hwl hlo
  obtain rfl : dV = .none := Dflts.none hD hdf
  obtain rfl : kV = .none := Dflts.noKw hD
  obtain ⟨a, vs, ns, rfl, rfl, hobj, hints, hlen⟩ := xu hn hpre hwl
  refine enter_call (codeAny_mono (call w s₀ s₁ mg mb fa o pm cd doc a vs ns G Y ho (fd_plain hd) hcd hmg hobj hints hlen hg) fun r s' hq => ?_)
  obtain ⟨rfl, h2, h3, h4⟩ := hq
  exact ⟨.inl ⟨.bool true, .bool true, [], rfl, fun _ => rfl, .bool true, xW l _, fun _ => ⟨List.Pairwise.nil, fun _ hm => (nomatch hm)⟩⟩, h2, h3, h4⟩
section
variable {prog : Program} {w : World} {A : Around} {E : Value → Shared → Prop} {s : Shared} {K : Frag}
def ledger (h : Heap) (L d : Addr) : List (Addr × Obj) := (List.range h.objs.size).filterMap fun a => if a = L ∨ a = d then none else (h.get? a).map fun o => (a, o)
end
end Att
namespace L2
open PySem PySem.Spec PyProof.Rows
theorem qV : ∀ {vs : List Value} {ns : List Int}, IntsAre vs ns → Vals (ns.map V.int) vs
  | _, _, .nil => .nil
  | _, _, .cons n t h => .cons ⟨t, rfl⟩ (qV h)
end L2
namespace L2
open PySem PySem.Spec PyProof.Rows
end L2
namespace L2
open PySem PySem.Spec PyProof.Rows
abbrev CX0 : CXT := fun _ _ _ _ _ _ => False
abbrev E0 : XK := fun _ _ _ => False
theorem Fs {X : Cx} : Passes CX0 X E0 := fun _ _ _ _ _ _ _ h => h.elim
structure Fun (K : PySem.W.Frag) (x qual : Str) (st : Stmt) (f : Addr) (fd : FuncData) : Prop where
  ex : ∃ (oc : Value) (od : Option Addr) (kV doc pm : Value) (an : Option Addr) (cdv ct : Value) (osl : Array (Option Value)),
    fd = PySem.W.fnOf x qual (j5 st) (gx st) (ar st) .none kV doc pm an cdv ct ∧ K.lookup f = some ⟨oc, od, .func fd, osl⟩ ∧ PySem.W.codeIn K cdv qual = true
  kp : PySem.W.keepIn K (.ref f) = true
section
variable {P : Program} {w : World} {K : PySem.W.Frag} {mg : Str → Option Value} {base : Heap}
theorem Fun.ok {x qual : Str} {st : Stmt} {f : Addr} {fd : FuncData} {N ps : List Str} {k : Nat} {sp : Sp} (F : Fun K x qual st f fd) (S : aC N ps (ar st)) (len : ∀ vs H Q E, sp vs H Q E → vs.length = ps.length)
    (hbody : ∀ (cdv : Value) (A : Around) (outer : List Env) (s : Shared) (H : Hp) (vs : List V) (Q : VK) (E : XK), iG k (A.deeper (envOfC qual (ar st) s.heap.objs.size f cdv)) → sp vs H Q E →
      ∃ t, PSs (wg CX0 P w K mg base N qual (ar st) f cdv A outer s H E).nox (gx st) t ∧ t { nx := fun _ H' => Q .non H', rt := Q } (start N vs) H) : bq P w K mg base CX0 (k + 1) f fd ps sp := by
  obtain ⟨oc, od, kV, doc, pm, an, cdv, ct, osl, rfl, lk, hcd⟩ := F.ex
  refine E7 lk hcd S len fun A outer s H vs Q E hr hsp => ?_
  obtain ⟨t, h, q⟩ := hbody cdv A outer s H vs Q E hr hsp
  exact ⟨t, h.nox, q⟩
theorem Fun.binds {x qual : Str} {st : Stmt} {f : Addr} {fd : FuncData} {ps : List Str} (F : Fun K x qual st f fd)
    (h : ∀ (kV doc pm : Value) (an : Option Addr) (cdv ct : Value) (us : List Value), us.length = ps.length → bindArgs (PySem.W.fnOf x qual (j5 st) (gx st) (ar st) .none kV doc pm an cdv ct) ⟨us, []⟩ = pure (ps.zip us)) : Binds K fd ps [] := by
  obtain ⟨oc, od, kV, doc, pm, an, cdv, ct, osl, rfl, lk, hcd⟩ := F.ex
  exact .all (h kV doc pm an cdv ct)
theorem aT {x qual : Str} {st : Stmt} {f : Addr} {oc : Value} {od an : Option Addr} {osl : Array (Option Value)} {kV doc pm cdv ct : Value} (l : K.lookup f = some ⟨oc, od, .func (PySem.W.fnOf x qual (j5 st) (gx st) (ar st) .none kV doc pm an cdv ct), osl⟩)
    (c : PySem.W.codeIn K cdv qual = true) (k : PySem.W.keepIn K (.ref f) = true) : Fun K x qual st f (PySem.W.fnOf x qual (j5 st) (gx st) (ar st) .none kV doc pm an cdv ct) := ⟨⟨oc, od, kV, doc, pm, an, cdv, ct, osl, rfl, l, c⟩, k⟩
end
theorem di {n : Nat} (h : n ≤ 1000) : n < sizeLine := Nat.lt_of_le_of_lt h (by decide)
section
variable {X : Cx}
end
theorem rD {A B : Prop} (h : B) : if false = true then A else B := by
  rw [if_neg Bool.false_ne_true]
  exact h
theorem sP {A B : Prop} (h : A) : if true = true then A else B := by
  rw [if_pos rfl]
  exact h
def jM (H H' : Hp) : Prop := ∀ b o, H b = some o → H' b = some o
theorem jM.refl (H : Hp) : jM H H := fun _ _ h => h
theorem jM.trans {H H1 H2 : Hp} (a : jM H H1) (b : jM H1 H2) : jM H H2 := fun c o h => b c o (a c o h)
theorem jM.free {H H' : Hp} (e : jM H H') {l : Addr} (h : H' l = Option.none) : H l = Option.none := by
  cases q : H l with
  | none => rfl
  | some o =>
    rw [e l o q] at h
    cases h
end L2
set_option linter.all false
set_option maxRecDepth 100000
set_option maxHeartbeats 4000000
namespace NM
@[irreducible] def Sz (n : Nat) (i : Int) : Prop := i.natAbs < 2 ^ n
theorem Sz.mono {n m : Nat} {i : Int} (h : Sz n i) (l : n ≤ m) : Sz m i := by unfold Sz at *; exact Nat.lt_of_lt_of_le h (Nat.pow_le_pow_right (by decide) l)
theorem Sz.mul {n m : Nat} {i j : Int} (h : Sz n i) (g : Sz m j) : Sz (n + m) (i * j) := by
  unfold Sz at *
  rw [Int.natAbs_mul, Nat.pow_add]
  exact Nat.mul_lt_mul'' h g
theorem Sz.add {n : Nat} {i j : Int} (h : Sz n i) (g : Sz n j) : Sz (n + 1) (i + j) := by
  unfold Sz at *
  have := Int.natAbs_add_le i j
  rw [Nat.pow_succ]
  omega
theorem Sz.neg {n : Nat} {i : Int} (h : Sz n i) : Sz n (-i) := by unfold Sz at *; rw [Int.natAbs_neg]; exact h
theorem Sz.sub {n : Nat} {i j : Int} (h : Sz n i) (g : Sz n j) : Sz (n + 1) (i - j) := by rw [Int.sub_eq_add_neg]; exact h.add g.neg
theorem Sz.le {n : Nat} {i j : Int} (h : Sz n i) (g : j.natAbs ≤ i.natAbs) : Sz n j := by unfold Sz at *; exact Nat.lt_of_le_of_lt g h
theorem Sz.of {n : Nat} {i : Int} (h : i.natAbs < 2 ^ n) : Sz n i := by unfold Sz; exact h
theorem Sz.lt {n : Nat} {i : Int} (h : Sz n i) : i.natAbs < 2 ^ n := by unfold Sz at h; exact h
def g3 (a b c : Int) : Nat := Int.gcd (Int.gcd a b : Nat) c
theorem Bi (a b c : Int) : Int.gcd (Int.gcd c a : Nat) b = g3 a b c := by
  unfold g3
  simp only [Int.gcd, Int.natAbs_natCast]
  rw [Nat.gcd_assoc, Nat.gcd_comm]
theorem Af (a b c : Int) : ((g3 a b c : Nat) : Int) ∣ a ∧ ((g3 a b c : Nat) : Int) ∣ b ∧ ((g3 a b c : Nat) : Int) ∣ c := by
  have h : ((g3 a b c : Nat) : Int) ∣ ((Int.gcd a b : Nat) : Int) := Int.gcd_dvd_left ..
  exact ⟨Int.dvd_trans h (Int.gcd_dvd_left ..), Int.dvd_trans h (Int.gcd_dvd_right ..), Int.gcd_dvd_right ..⟩
theorem Du {a b c : Int} {k : Nat} (h1 : (k : Int) ∣ a) (h2 : (k : Int) ∣ b) (h3 : (k : Int) ∣ c) : k ∣ g3 a b c := by
  unfold g3
  exact Int.dvd_gcd (Int.natCast_dvd_natCast.mpr (Int.dvd_gcd h1 h2)) h3
theorem sV {a b c : Int} (h : c ≠ 0) : 0 < g3 a b c := by
  unfold g3
  exact Int.gcd_pos_of_ne_zero_right _ h
theorem zE (a b c k : Int) : g3 (a * k) (b * k) (c * k) = g3 a b c * k.natAbs := by
  unfold g3
  simp only [Int.gcd, Int.natAbs_natCast, Int.natAbs_mul, Nat.gcd_mul_right]
theorem vc (a b c : Int) : g3 a (-b) c = g3 a b c := by
  unfold g3
  rw [Int.gcd_neg]
theorem zN (a b c : Int) : g3 (-a) b c = g3 a b c := by
  unfold g3
  rw [Int.neg_gcd]
structure N3 where
  a : Int
  b : Int
  c : Int
deriving DecidableEq
theorem N3.ext' {x y : N3} (h1 : x.a = y.a) (h2 : x.b = y.b) (h3 : x.c = y.c) : x = y := by cases x; cases y; simp_all
structure Ok (x : N3) : Prop where
  c : 0 < x.c
  g : g3 x.a x.b x.c = 1
def dv (a b c : Int) : Int := if c < 0 then -(g3 a b c : Nat) else (g3 a b c : Nat)
def low (a b c : Int) : N3 := ⟨a.fdiv (dv a b c), b.fdiv (dv a b c), c.fdiv (dv a b c)⟩
theorem tp {a k q : Int} (hk : k ≠ 0) (h : a = k * q) : a.fdiv k = q := by
  subst h
  exact Int.mul_fdiv_cancel_left q hk
theorem EG {a b c : Int} (h : c ≠ 0) : dv a b c ≠ 0 := by
  have := sV (a := a) (b := b) h
  unfold dv
  split <;> omega
theorem Dk (a b c : Int) : dv a b c ∣ a ∧ dv a b c ∣ b ∧ dv a b c ∣ c := by
  obtain ⟨h1, h2, h3⟩ := Af a b c
  unfold dv
  split
  · exact ⟨Int.neg_dvd.mpr h1, Int.neg_dvd.mpr h2, Int.neg_dvd.mpr h3⟩
  · exact ⟨h1, h2, h3⟩
theorem iw (a b : Int) {c : Int} (h : c ≠ 0) : ∃ k : Int, k ≠ 0 ∧ (0 < k ↔ 0 < c) ∧ a = k * (low a b c).a ∧ b = k * (low a b c).b ∧ c = k * (low a b c).c ∧ Ok (low a b c) := by
  have hk := EG (a := a) (b := b) h
  obtain ⟨⟨p, hp⟩, ⟨q, hq⟩, ⟨r, hr⟩⟩ := Dk a b c
  have ep : (low a b c).a = p := tp hk hp
  have eq : (low a b c).b = q := tp hk hq
  have er : (low a b c).c = r := tp hk hr
  have hg := sV (a := a) (b := b) h
  have hs : 0 < dv a b c ↔ 0 < c := by unfold dv; split <;> omega
  have hr0 : 0 < r := by
    have hr' : r ≠ 0 := fun z => h (by rw [hr, z, Int.mul_zero])
    rcases Int.lt_trichotomy 0 (dv a b c) with z | z | z
    · have := hs.mp z
      rw [hr] at this
      rw [Int.mul_comm] at this
      exact Int.pos_of_mul_pos_left this z |> fun t => t
    · exact absurd z.symm hk
    · have : c < 0 := by omega
      rcases Int.lt_trichotomy 0 r with w | w | w
      · exact w
      · exact absurd w.symm hr'
      · have := Int.mul_pos_of_neg_of_neg z w
        rw [← hr] at this
        omega
  refine ⟨dv a b c, hk, hs, by rw [ep]; exact hp, by rw [eq]; exact hq, by rw [er]; exact hr, by rw [er]; exact hr0, ?_⟩
  rw [ep, eq, er]
  have e := zE p q r (dv a b c)
  rw [Int.mul_comm p, Int.mul_comm q, Int.mul_comm r, ← hp, ← hq, ← hr] at e
  have e2 : (dv a b c).natAbs = g3 a b c := by unfold dv; split <;> simp
  rw [e2] at e
  have : g3 p q r * g3 a b c = 1 * g3 a b c := by omega
  exact Nat.eq_of_mul_eq_mul_right hg this
theorem mY (a b : Int) {c : Int} (h : c ≠ 0) : Ok (low a b c) := (iw a b h).choose_spec.2.2.2.2.2
theorem Ok.same {x y : N3} (hx : Ok x) (hy : Ok y) (h1 : x.a * y.c = y.a * x.c) (h2 : x.b * y.c = y.b * x.c) : x = y := by
  have key : ∀ {u v : N3}, Ok u → Ok v → u.a * v.c = v.a * u.c → u.b * v.c = v.b * u.c → u.c ∣ v.c := fun {u v} hu hv e1 e2 => by
    have hd : u.c.natAbs ∣ g3 (u.a * v.c) (u.b * v.c) (u.c * v.c) := Du
      (by rw [Int.natAbs_of_nonneg (Int.le_of_lt hu.c), e1]; exact Int.dvd_mul_left _ _) (by rw [Int.natAbs_of_nonneg (Int.le_of_lt hu.c), e2]; exact Int.dvd_mul_left _ _) (by rw [Int.natAbs_of_nonneg (Int.le_of_lt hu.c)]; exact Int.dvd_mul_right _ _)
    rw [zE, hu.g, Nat.one_mul] at hd
    exact Int.natAbs_dvd_natAbs.mp hd
  have hc : x.c = y.c := Int.dvd_antisymm (Int.le_of_lt hx.c) (Int.le_of_lt hy.c) (key hx hy h1 h2) (key hy hx h1.symm h2.symm)
  have hn : y.c ≠ 0 := by have := hy.c; omega
  rw [hc] at h1 h2
  exact N3.ext' (Int.eq_of_mul_eq_mul_right hn h1) (Int.eq_of_mul_eq_mul_right hn h2) hc
theorem Ok.low {x : N3} (h : Ok x) : low x.a x.b x.c = x := by
  have hc : x.c ≠ 0 := by have := h.c; omega
  obtain ⟨k, hk, _, p1, p2, p3, o⟩ := iw x.a x.b hc
  refine o.same h ?_ ?_
  · exact Int.eq_of_mul_eq_mul_left hk (by grind)
  · exact Int.eq_of_mul_eq_mul_left hk (by grind)
theorem Dt (a b : Int) {c : Int} (h : c ≠ 0) : (low a b c).a.natAbs ≤ a.natAbs ∧ (low a b c).b.natAbs ≤ b.natAbs ∧ (low a b c).c.natAbs ≤ c.natAbs := by
  obtain ⟨k, hk, _, p1, p2, p3, _⟩ := iw a b h
  have hk' : 1 ≤ k.natAbs := by omega
  have le : ∀ {u v : Int}, u = k * v → v.natAbs ≤ u.natAbs := fun {u v} e => by
    rw [e, Int.natAbs_mul]
    exact Nat.le_mul_of_pos_left _ hk'
  exact ⟨le p1, le p2, le p3⟩
structure Bd (n : Nat) (x : N3) : Prop where
  a : Sz n x.a
  b : Sz n x.b
  c : Sz n x.c
theorem Bd.mono {n m : Nat} {x : N3} (h : Bd n x) (l : n ≤ m) : Bd m x := ⟨h.a.mono l, h.b.mono l, h.c.mono l⟩
theorem o6 {a b c : Int} {n : Nat} (h : c ≠ 0) (ha : Sz n a) (hb : Sz n b) (hc : Sz n c) : Bd n (low a b c) := by
  obtain ⟨h1, h2, h3⟩ := Dt a b h
  exact ⟨ha.le h1, hb.le h2, hc.le h3⟩
def plus (x y : N3) : N3 := low (x.a * y.c + y.a * x.c) (x.b * y.c + y.b * x.c) (x.c * y.c)
def times (d : Int) (x y : N3) : N3 := low (x.a * y.a + d * x.b * y.b) (x.a * y.b + x.b * y.a) (x.c * y.c)
def norm (d : Int) (x : N3) : Int := x.a * x.a - d * x.b * x.b
def aU (d : Int) (x : N3) : N3 := low (x.c * x.a) (-x.c * x.b) (norm d x)
def gw (x : N3) : N3 := ⟨x.a, -x.b, x.c⟩
def minus (x : N3) : N3 := ⟨-x.a, -x.b, x.c⟩
def aB : N3 := ⟨0, 0, 1⟩
def one : N3 := ⟨1, 0, 1⟩
theorem Ok.cn {x : N3} (h : Ok x) : x.c ≠ 0 := by have := h.c; omega
theorem se {x y : N3} (h : Ok x) (g : Ok y) : x.c * y.c ≠ 0 := Int.mul_ne_zero h.cn g.cn
theorem Bl {x : N3} (h : Ok x) : Ok (gw x) := ⟨h.c, by show g3 x.a (-x.b) x.c = 1; rw [vc]; exact h.g⟩
theorem jF {x : N3} (h : Ok x) : Ok (minus x) := ⟨h.c, by show g3 (-x.a) (-x.b) x.c = 1; rw [zN, vc]; exact h.g⟩
theorem lR {x y : N3} (h : Ok x) (g : Ok y) : Ok (plus x y) := mY _ _ (se h g)
theorem bP {d : Int} {x y : N3} (h : Ok x) (g : Ok y) : Ok (times d x y) := mY _ _ (se h g)
theorem aX : Ok aB := ⟨by decide, by decide⟩
theorem cM : Ok one := ⟨by decide, by decide⟩
theorem A1 {n : Nat} {x : N3} (h : Bd n x) : Bd n (gw x) := ⟨h.a, h.b.neg, h.c⟩
theorem oP {n : Nat} {x : N3} (h : Bd n x) : Bd n (minus x) := ⟨h.a.neg, h.b.neg, h.c⟩
theorem og {n m : Nat} {x y : N3} (hx : Ok x) (hy : Ok y) (h : Bd n x) (g : Bd m y) : Bd (n + m + 1) (plus x y) :=
  o6 (se hx hy) ((h.a.mul g.c).add ((g.a.mul h.c).mono (by omega))) ((h.b.mul g.c).add ((g.b.mul h.c).mono (by omega))) ((h.c.mul g.c).mono (by omega))
theorem nP {d : Int} (h : 2 ≤ d) (h' : d ≤ 30) : Sz 5 d := by unfold Sz; omega
theorem fA {n m : Nat} {d : Int} {x y : N3} (hd : Sz 5 d) (hx : Ok x) (hy : Ok y) (h : Bd n x) (g : Bd m y) : Bd (n + m + 6) (times d x y) :=
  o6 (se hx hy) (((h.a.mul g.a).mono (by omega)).add (((hd.mul h.b).mul g.b).mono (by omega))) ((((h.a.mul g.b).mono (by omega : n + m ≤ n + m)).add ((h.b.mul g.a).mono (by omega))).mono (by omega)) ((h.c.mul g.c).mono (by omega))
theorem sZ {n : Nat} {d : Int} {x : N3} (hd : Sz 5 d) (h : Bd n x) : Sz (2 * n + 6) (norm d x) := by
  have e1 := h.a.mul h.a
  have e2 := (hd.mul h.b).mul h.b
  exact ((e1.mono (by omega : n + n ≤ 5 + n + n)).sub e2).mono (by omega)
theorem gL {n : Nat} {d : Int} {x : N3} (hd : Sz 5 d) (hn : norm d x ≠ 0) (h : Bd n x) : Bd (2 * n + 6) (aU d x) :=
  o6 hn ((h.c.mul h.a).mono (by omega)) ((h.c.neg.mul h.b).mono (by omega)) (sZ hd h)
def aK (d : Int) : Prop := 2 ≤ d ∧ d ≤ 30 ∧ d ≠ 4 ∧ d ≠ 9 ∧ d ≠ 16 ∧ d ≠ 25
theorem xU {d : Nat} (h : ∀ m : Nat, m * m ≠ d) : ∀ {a b : Nat}, a * a = d * (b * b) → b = 0 := fun {a b} e => by
  rcases Nat.eq_zero_or_pos b with hb | hb
  · exact hb
  exfalso
  obtain ⟨g, p, q, hg, hc, rfl, rfl⟩ := Nat.exists_coprime' (m := a) (n := b) (Nat.gcd_pos_of_pos_right _ hb)
  have e2 : (p * p) * (g * g) = (d * (q * q)) * (g * g) := by grind
  have e3 : p * p = d * (q * q) := Nat.eq_of_mul_eq_mul_right (Nat.mul_pos hg hg) e2
  have hq : q ∣ p * p := ⟨d * q, by rw [e3]; grind⟩
  have hq1 : q ∣ p := hc.symm.dvd_of_dvd_mul_left hq
  have hq2 : q = 1 := by
    have := Nat.dvd_gcd hq1 (Nat.dvd_refl q)
    rw [hc] at this
    exact Nat.dvd_one.mp this
  subst hq2
  exact h p (by rw [e3]; simp)
theorem aK.nat {d : Int} (h : aK d) : ∀ m : Nat, m * m ≠ d.toNat := fun m e => by
  obtain ⟨h1, h2, h3, h4, h5, h6⟩ := h
  have hm : m ≤ 5 := by
    rcases Nat.lt_or_ge 5 m with z | z
    · have := Nat.mul_le_mul z z; omega
    · exact z
  have : m = 0 ∨ m = 1 ∨ m = 2 ∨ m = 3 ∨ m = 4 ∨ m = 5 := by omega
  rcases this with rfl | rfl | rfl | rfl | rfl | rfl <;> omega
theorem aK.v7 {d a b : Int} (h : aK d) (e : a * a = d * b * b) : a = 0 ∧ b = 0 := by
  have hd : d = ((d.toNat : Nat) : Int) := by have := h.1; omega
  have e1 : a.natAbs * a.natAbs = d.toNat * (b.natAbs * b.natAbs) := by
    have e2 := congrArg Int.natAbs e
    rw [Int.natAbs_mul, Int.natAbs_mul, Int.natAbs_mul] at e2
    rw [e2, Nat.mul_assoc]
    congr 1
    omega
  have hb := xU h.nat e1
  have hb' : b = 0 := by omega
  subst hb'
  have : a * a = 0 := by rw [e]; simp
  exact ⟨by rcases Int.mul_eq_zero.mp this with z | z <;> exact z, rfl⟩
theorem aK.norm {d : Int} {x : N3} (h : aK d) (ok : Ok x) (hx : x ≠ aB) : norm d x ≠ 0 := fun e => by
  have e' : x.a * x.a = d * x.b * x.b := by unfold NM.norm at e; omega
  obtain ⟨h1, h2⟩ := h.v7 e'
  apply hx
  have hg := ok.g
  rw [h1, h2] at hg
  have hc := ok.c
  have : x.c = 1 := by
    unfold g3 at hg
    simp [Int.gcd] at hg
    omega
  exact N3.ext' h1 h2 this
theorem cf {d : Int} {x : N3} (h : NM.norm d x ≠ 0) : Ok (aU d x) := mY _ _ h
def sg (d a b : Int) : Int :=
  if a = 0 ∧ b = 0 then 0 else if 0 ≤ a ∧ 0 ≤ b then 1 else if a ≤ 0 ∧ b ≤ 0 then -1 else if (if d * b * b < a * a then a else b) > 0 then 1 else -1
theorem BM {u v : Int} (hu : 0 ≤ u) (h : u * u ≤ v * v) (hv : 0 ≤ v) : u ≤ v := by
  rcases Int.lt_or_le v u with z | z
  · have := Int.mul_lt_mul_of_pos_left z (show 0 < u by omega)
    have := Int.mul_le_mul_of_nonneg_right (Int.le_of_lt z) hv
    omega
  · exact z
theorem sq_nonneg (u : Int) : 0 ≤ u * u := by
  rcases Int.le_total 0 u with h | h
  · exact Int.mul_nonneg h h
  · exact Int.mul_nonneg_of_nonpos_of_nonpos h h
def P (d a b : Int) : Prop := (0 ≤ a ∧ 0 ≤ b ∧ ¬ (a = 0 ∧ b = 0)) ∨ (0 < a ∧ b < 0 ∧ d * b * b < a * a) ∨ (a < 0 ∧ 0 < b ∧ a * a < d * b * b)
theorem cm {d a b : Int} (h : aK d) : sg d a b = 1 ↔ P d a b := by
  unfold sg P
  have key : a * a = d * b * b → a = 0 ∧ b = 0 := h.v7
  by_cases c1 : d * b * b < a * a
  · simp only [c1, if_true]; split <;> (try split) <;> (try split) <;> (try split) <;> simp <;> omega
  · simp only [c1, if_false]; split <;> (try split) <;> (try split) <;> (try split) <;> simp <;> omega
theorem vP {d a b : Int} (h : aK d) : sg d (-a) (-b) = - sg d a b := by
  unfold sg
  have key : a * a = d * b * b → a = 0 ∧ b = 0 := h.v7
  have e1 : d * -b * -b = d * b * b := by grind
  have e2 : -a * -a = a * a := by grind
  rw [e1, e2]
  by_cases c1 : d * b * b < a * a
  · simp only [c1, if_true]; split <;> split <;> (try split) <;> (try split) <;> (try split) <;> (try split) <;> (try split) <;> (try split) <;> omega
  · simp only [c1, if_false]; split <;> split <;> (try split) <;> (try split) <;> (try split) <;> (try split) <;> (try split) <;> (try split) <;> omega
theorem cQ {d a b : Int} : sg d a b = 0 ↔ a = 0 ∧ b = 0 := by
  unfold sg; split <;> (try split) <;> (try split) <;> (try split) <;> omega
theorem nh (d a b : Int) : sg d a b = 0 ∨ sg d a b = 1 ∨ sg d a b = -1 := by
  unfold sg; split <;> (try split) <;> (try split) <;> (try split) <;> omega
theorem EI {d a b : Int} (h : aK d) : (a = 0 ∧ b = 0) ∨ P d a b ∨ P d (-a) (-b) := by
  rcases nh d a b with e | e | e
  · exact .inl (cQ.mp e)
  · exact .inr (.inl ((cm h).mp e))
  · exact .inr (.inr ((cm h).mp (by rw [vP h, e]; rfl)))
theorem j1 {d a b : Int} (h : aK d) (n : d * b * b < a * a) : P d a b ↔ 0 < a := by
  unfold P
  have := sq_nonneg b
  have h0 : 0 ≤ d * b * b := by rw [Int.mul_assoc]; exact Int.mul_nonneg (by have := h.1; omega) this
  have ha : a ≠ 0 := fun z => by subst z; simp at n; omega
  omega
theorem g8 {d a b : Int} (h : aK d) (n : a * a < d * b * b) : P d a b ↔ 0 < b := by
  unfold P
  have h0 := sq_nonneg a
  have hb : b ≠ 0 := fun z => by subst z; simp at n; omega
  omega
theorem lZ {u v : Int} (h : v * v < u * u) : 0 < u + v ↔ 0 < u := by
  have hu : u ≠ 0 := fun z => by subst z; have := sq_nonneg v; simp at h; omega
  have l : v.natAbs < u.natAbs := by
    rcases Nat.lt_or_ge v.natAbs u.natAbs with z | z
    · exact z
    · have := Nat.mul_le_mul z z
      have e1 : ((u.natAbs * u.natAbs : Nat) : Int) = u * u := Int.natAbs_mul_self
      have e2 : ((v.natAbs * v.natAbs : Nat) : Int) = v * v := Int.natAbs_mul_self
      omega
  omega
theorem mul_pos_iff {u v : Int} (hu : u ≠ 0) (hv : v ≠ 0) : 0 < u * v ↔ (0 < u ↔ 0 < v) := by
  rcases Int.lt_or_gt_of_ne hu with h | h <;> rcases Int.lt_or_gt_of_ne hv with g | g
  · have := Int.mul_pos_of_neg_of_neg h g; omega
  · have := Int.mul_neg_of_neg_of_pos h g; omega
  · have := Int.mul_neg_of_pos_of_neg h g; omega
  · have := Int.mul_pos h g; omega
theorem pM {u v s t : Int} (hu : 0 ≤ u) (h : u < v) (hs : 0 ≤ s) (g : s < t) : u * s < v * t := by
  have e1 : u * s ≤ v * s := Int.mul_le_mul_of_nonneg_right (Int.le_of_lt h) hs
  have e2 : v * s < v * t := Int.mul_lt_mul_of_pos_left g (by omega)
  omega
theorem dsq {d b : Int} (hd : 0 < d) : 0 ≤ d * b * b := by rw [Int.mul_assoc]; exact Int.mul_nonneg (Int.le_of_lt hd) (sq_nonneg b)
theorem EZ {d a b p q : Int} (h : aK d) (h1 : ¬ (a = 0 ∧ b = 0)) (h2 : ¬ (p = 0 ∧ q = 0)) : P d (a * p + d * b * q) (a * q + b * p) ↔ (P d a b ↔ P d p q) := by
  have hd : 0 < d := by have := h.1; omega
  have n1 : a * a ≠ d * b * b := fun e => h1 (h.v7 e)
  have n2 : p * p ≠ d * q * q := fun e => h2 (h.v7 e)
  have pz : ∀ {u v : Int}, d * v * v < u * u → u ≠ 0 := fun {u v} e z => by subst z; have := dsq (b := v) hd; simp at e; omega
  have qz : ∀ {u v : Int}, u * u < d * v * v → v ≠ 0 := fun {u v} e z => by subst z; have := sq_nonneg u; simp at e; omega
  have id1 : (a * p + d * b * q) * (a * p + d * b * q) - d * (a * q + b * p) * (a * q + b * p) = (a * a - d * b * b) * (p * p - d * q * q) := by grind
  rcases Int.lt_or_gt_of_ne n1 with c1 | c1 <;> rcases Int.lt_or_gt_of_ne n2 with c2 | c2
  · have pp := Int.mul_pos_of_neg_of_neg (show a * a - d * b * b < 0 by omega) (show p * p - d * q * q < 0 by omega)
    rw [j1 h (by omega), g8 h c1, g8 h c2]
    have sq : (a * p) * (a * p) < (d * b * q) * (d * b * q) := by
      have e2 := pM (sq_nonneg a) c1 (sq_nonneg p) c2
      grind
    rw [Int.add_comm, lZ sq, Int.mul_assoc, mul_pos_iff (by omega) (Int.mul_ne_zero (qz c1) (qz c2)), mul_pos_iff (qz c1) (qz c2)]
    omega
  · have pp := Int.mul_neg_of_neg_of_pos (show a * a - d * b * b < 0 by omega) (show 0 < p * p - d * q * q by omega)
    rw [g8 h (by omega), g8 h c1, j1 h c2]
    have sq : (a * q) * (a * q) < (b * p) * (b * p) := by
      have e2 := pM (sq_nonneg a) c1 (dsq (b := q) hd) c2
      have e3 : d * ((a * q) * (a * q)) < d * ((b * p) * (b * p)) := by grind
      exact Int.lt_of_mul_lt_mul_left e3 (Int.le_of_lt hd)
    rw [Int.add_comm, lZ sq, mul_pos_iff (qz c1) (pz c2)]
  · have pp := Int.mul_neg_of_pos_of_neg (show 0 < a * a - d * b * b by omega) (show p * p - d * q * q < 0 by omega)
    rw [g8 h (by omega), j1 h c1, g8 h c2]
    have sq : (b * p) * (b * p) < (a * q) * (a * q) := by
      have e2 := pM (dsq (b := b) hd) c1 (sq_nonneg p) c2
      have e3 : d * ((b * p) * (b * p)) < d * ((a * q) * (a * q)) := by grind
      exact Int.lt_of_mul_lt_mul_left e3 (Int.le_of_lt hd)
    rw [lZ sq, mul_pos_iff (pz c1) (qz c2)]
  · have pp := Int.mul_pos (show 0 < a * a - d * b * b by omega) (show 0 < p * p - d * q * q by omega)
    rw [j1 h (by omega), j1 h c1, j1 h c2]
    have sq : (d * b * q) * (d * b * q) < (a * p) * (a * p) := by
      have e2 := pM (dsq (b := b) hd) c1 (dsq (b := q) hd) c2
      grind
    rw [lZ sq, mul_pos_iff (pz c1) (pz c2)]
theorem Fc {d A x B y : Int} (hd : 0 < d) (hA : 0 ≤ A) (hx : 0 ≤ x) (hB : 0 ≤ B) (hy : 0 ≤ y) (h1 : A * A ≤ d * B * B) (h2 : x * x ≤ d * y * y) : A * x ≤ d * (B * y) := by
  refine BM (Int.mul_nonneg hA hx) ?_ (Int.mul_nonneg (Int.le_of_lt hd) (Int.mul_nonneg hB hy))
  have := Int.mul_le_mul h1 h2 (sq_nonneg x) (dsq hd)
  grind
theorem T1 {d A x B y : Int} (hd : 0 < d) (hA : 0 ≤ A) (hx : 0 ≤ x) (hB : 0 ≤ B) (hy : 0 ≤ y) (h1 : A * A < d * B * B) (h2 : x * x < d * y * y) : (A + x) * (A + x) < d * (B + y) * (B + y) := by
  have := Fc hd hA hx hB hy (Int.le_of_lt h1) (Int.le_of_lt h2)
  grind
theorem T2 {d A x B y : Int} (hd : 0 < d) (hA : 0 ≤ A) (hx : 0 ≤ x) (hB : 0 ≤ B) (hy : 0 ≤ y) (h1 : d * B * B < A * A) (h2 : d * y * y < x * x) : d * (B + y) * (B + y) < (A + x) * (A + x) := by
  have : d * (B * y) ≤ A * x := by
    refine BM (Int.mul_nonneg (Int.le_of_lt hd) (Int.mul_nonneg hB hy)) ?_ (Int.mul_nonneg hA hx)
    have := pM (dsq (b := B) hd) h1 (dsq (b := y) hd) h2
    grind
  grind
theorem Z1 {d x1 y1 x2 y2 : Int} (hd : 0 < d) (h1 : x1 * x1 < d * y1 * y1) (h2 : d * y2 * y2 < x2 * x2) (a1 : 0 ≤ x2) (a2 : x2 ≤ x1) (a3 : 0 ≤ y1) (a4 : y1 ≤ y2) : False := by
  have e1 := Int.mul_le_mul a2 a2 a1 (Int.le_trans a1 a2)
  have e2 := Int.mul_le_mul_of_nonneg_left (Int.mul_le_mul a4 a4 a3 (Int.le_trans a3 a4)) (Int.le_of_lt hd)
  grind
theorem Z2 {d x1 y1 x2 y2 x3 y3 : Int} (hd : 0 < d) (h1 : x1 * x1 < d * y1 * y1) (h2 : d * y2 * y2 < x2 * x2) (h3 : d * y3 * y3 < x3 * x3) (a1 : 0 ≤ x2) (a2 : 0 ≤ y2) (a3 : 0 ≤ x3) (a4 : 0 ≤ y3) (e1 : x1 = x2 + x3) (e2 : y1 = y2 + y3) : False := by
  subst e1 e2
  have := T2 hd a1 a3 a2 a4 h2 h3
  omega
theorem Z3 {d x1 y1 x2 y2 x3 y3 : Int} (hd : 0 < d) (h1 : d * y1 * y1 < x1 * x1) (h2 : x2 * x2 < d * y2 * y2) (h3 : x3 * x3 < d * y3 * y3) (a1 : 0 ≤ x2) (a2 : 0 ≤ y2) (a3 : 0 ≤ x3) (a4 : 0 ≤ y3) (e1 : x1 = x2 + x3) (e2 : y1 = y2 + y3) : False := by
  subst e1 e2
  have := T1 hd a1 a3 a2 a4 h2 h3
  omega
theorem E1 {d a b p q u v : Int} (h : aK d) (h1 : P d a b) (h2 : P d p q) (h3 : P d u v) (e1 : a + p + u = 0) (e2 : b + q + v = 0) : False := by
  have hd : 0 < d := by have := h.1; omega
  unfold P at h1 h2 h3
  have x1 : ∀ {u c : Int}, u * u < c → -u * -u < c := fun {u c} e => by grind
  have x2 : ∀ {u c : Int}, c < u * u → c < -u * -u := fun {u c} e => by grind
  have x3 : ∀ {u c : Int}, c < d * u * u → c < d * -u * -u := fun {u c} e => by grind
  have x4 : ∀ {u c : Int}, d * u * u < c → d * -u * -u < c := fun {u c} e => by grind
  rcases h1 with ⟨u1, u2, u3⟩ | ⟨u1, u2, u3⟩ | ⟨u1, u2, u3⟩ <;> rcases h2 with ⟨v1, v2, v3⟩ | ⟨v1, v2, v3⟩ | ⟨v1, v2, v3⟩ <;> rcases h3 with ⟨w1, w2, w3⟩ | ⟨w1, w2, w3⟩ | ⟨w1, w2, w3⟩ <;> (try omega)
  all_goals first
    | exact Z1 hd (x1 u3) (x4 v3) (by omega) (by omega) (by omega) (by omega)
    | exact Z1 hd (x1 v3) (x4 u3) (by omega) (by omega) (by omega) (by omega)
    | exact Z1 hd (x1 u3) (x4 w3) (by omega) (by omega) (by omega) (by omega)
    | exact Z1 hd (x1 w3) (x4 u3) (by omega) (by omega) (by omega) (by omega)
    | exact Z1 hd (x1 v3) (x4 w3) (by omega) (by omega) (by omega) (by omega)
    | exact Z1 hd (x1 w3) (x4 v3) (by omega) (by omega) (by omega) (by omega)
    | exact Z2 hd (x1 u3) (x4 v3) (x4 w3) (by omega) (by omega) (by omega) (by omega) (by omega) (by omega)
    | exact Z2 hd (x1 v3) (x4 u3) (x4 w3) (by omega) (by omega) (by omega) (by omega) (by omega) (by omega)
    | exact Z2 hd (x1 w3) (x4 u3) (x4 v3) (by omega) (by omega) (by omega) (by omega) (by omega) (by omega)
    | exact Z3 hd (x4 u3) (x1 v3) (x1 w3) (by omega) (by omega) (by omega) (by omega) (by omega) (by omega)
    | exact Z3 hd (x4 v3) (x1 u3) (x1 w3) (by omega) (by omega) (by omega) (by omega) (by omega) (by omega)
    | exact Z3 hd (x4 w3) (x1 u3) (x1 v3) (by omega) (by omega) (by omega) (by omega) (by omega) (by omega)
theorem BQ {d a b p q : Int} (h : aK d) (h1 : P d a b) (h2 : P d p q) : P d (a + p) (b + q) := by
  rcases EI (a := a + p) (b := b + q) h with ⟨e1, e2⟩ | e | e
  · have ea : p = -a := by omega
    have eb : q = -b := by omega
    subst ea eb
    have s1 := (cm h).mpr h1
    have s2 := (cm h).mpr h2
    rw [vP h, s1] at s2
    omega
  · exact e
  · exact (E1 h h1 h2 e (by omega) (by omega)).elim
theorem vG {d a b p q : Int} (h : aK d) : sg d (a * p + d * b * q) (a * q + b * p) = sg d a b * sg d p q := by
  by_cases h1 : a = 0 ∧ b = 0
  · obtain ⟨rfl, rfl⟩ := h1
    have e : sg d (0 : Int) 0 = 0 := cQ.mpr ⟨rfl, rfl⟩
    rw [e]; simp [cQ]
  by_cases h2 : p = 0 ∧ q = 0
  · obtain ⟨rfl, rfl⟩ := h2
    have e : sg d (0 : Int) 0 = 0 := cQ.mpr ⟨rfl, rfl⟩
    rw [e]; simp [cQ]
  have k := EZ h h1 h2
  have h3 : ¬ (a * p + d * b * q = 0 ∧ a * q + b * p = 0) := fun ⟨e1, e2⟩ => by
    have id1 : (a * p + d * b * q) * (a * p + d * b * q) - d * (a * q + b * p) * (a * q + b * p) = (a * a - d * b * b) * (p * p - d * q * q) := by grind
    rw [e1, e2] at id1
    simp only [Int.mul_zero, Int.sub_self] at id1
    rcases Int.mul_eq_zero.mp id1.symm with z | z
    · exact h1 (h.v7 (by omega))
    · exact h2 (h.v7 (by omega))
  rw [← cm h, ← cm h, ← cm h] at k
  have t1 := nh d a b
  have t2 := nh d p q
  have t3 := nh d (a * p + d * b * q) (a * q + b * p)
  have z1 : sg d a b ≠ 0 := fun z => h1 (cQ.mp z)
  have z2 : sg d p q ≠ 0 := fun z => h2 (cQ.mp z)
  have z3 : sg d (a * p + d * b * q) (a * q + b * p) ≠ 0 := fun z => h3 (cQ.mp z)
  rcases t1 with e | e | e <;> rcases t2 with f | f | f <;> rcases t3 with g | g | g <;> simp_all
theorem fw {d a b k : Int} (h : aK d) (hk : 0 < k) : sg d (k * a) (k * b) = sg d a b := by
  have e := vG (a := k) (b := 0) (p := a) (q := b) h
  have e1 : sg d k 0 = 1 := by unfold sg; rw [if_neg (by omega), if_pos (by omega)]
  rw [e1] at e
  simpa using e
end NM
set_option linter.all false
set_option maxRecDepth 100000
set_option maxHeartbeats 4000000
namespace NM
structure Rep (x : N3) (A B C : Int) : Prop where
  c : C ≠ 0
  a : x.a * C = A * x.c
  b : x.b * C = B * x.c
section
variable {x y : N3} {A B C A' B' C' d : Int}
theorem aF (h : Ok x) : Rep x x.a x.b x.c := ⟨h.cn, rfl, rfl⟩
theorem nX {a b c : Int} (h : c ≠ 0) : Rep (low a b c) a b c := by
  obtain ⟨k, hk, _, p1, p2, p3, _⟩ := iw a b h
  generalize low a b c = z at *
  exact ⟨h, by grind, by grind⟩
theorem Rep.eq (ox : Ok x) (oy : Ok y) (h : Rep x A B C) (g : Rep y A' B' C') (e1 : A * C' = A' * C) (e2 : B * C' = B' * C) : x = y := by
  have hc : C * C' ≠ 0 := Int.mul_ne_zero h.c g.c
  obtain ⟨_, h1, h2⟩ := h
  obtain ⟨_, g1, g2⟩ := g
  exact ox.same oy (Int.eq_of_mul_eq_mul_right hc (by grind)) (Int.eq_of_mul_eq_mul_right hc (by grind))
theorem Rep.gw (h : Rep x A B C) : Rep (gw x) A (-B) C := ⟨h.c, h.a, by show -x.b * C = -B * x.c; have := h.b; grind⟩
theorem Rep.minus (h : Rep x A B C) : Rep (minus x) (-A) (-B) C := ⟨h.c, by show -x.a * C = -A * x.c; have := h.a; grind, by show -x.b * C = -B * x.c; have := h.b; grind⟩
theorem Rep.plus (ox : Ok x) (oy : Ok y) (h : Rep x A B C) (g : Rep y A' B' C') : Rep (plus x y) (A * C' + A' * C) (B * C' + B' * C) (C * C') := by
  have hc := se ox oy
  obtain ⟨_, q1, q2⟩ := nX (a := x.a * y.c + y.a * x.c) (b := x.b * y.c + y.b * x.c) hc
  obtain ⟨hc1, h1, h2⟩ := h
  obtain ⟨hc2, g1, g2⟩ := g
  change (NM.plus x y).a * (x.c * y.c) = _ * (NM.plus x y).c at q1
  change (NM.plus x y).b * (x.c * y.c) = _ * (NM.plus x y).c at q2
  generalize NM.plus x y = z at *
  exact ⟨Int.mul_ne_zero hc1 hc2, Int.eq_of_mul_eq_mul_right hc (by grind), Int.eq_of_mul_eq_mul_right hc (by grind)⟩
theorem Rep.times (ox : Ok x) (oy : Ok y) (h : Rep x A B C) (g : Rep y A' B' C') : Rep (times d x y) (A * A' + d * B * B') (A * B' + B * A') (C * C') := by
  have hc := se ox oy
  obtain ⟨_, q1, q2⟩ := nX (a := x.a * y.a + d * x.b * y.b) (b := x.a * y.b + x.b * y.a) hc
  obtain ⟨hc1, h1, h2⟩ := h
  obtain ⟨hc2, g1, g2⟩ := g
  change (NM.times d x y).a * (x.c * y.c) = _ * (NM.times d x y).c at q1
  change (NM.times d x y).b * (x.c * y.c) = _ * (NM.times d x y).c at q2
  generalize NM.times d x y = z at *
  exact ⟨Int.mul_ne_zero hc1 hc2, Int.eq_of_mul_eq_mul_right hc (by grind), Int.eq_of_mul_eq_mul_right hc (by grind)⟩
theorem Rep.norm (h : Rep x A B C) : NM.norm d x * (C * C) = (A * A - d * B * B) * (x.c * x.c) := by
  obtain ⟨_, h1, h2⟩ := h
  unfold NM.norm
  have e1 : x.a * x.a * (C * C) = A * A * (x.c * x.c) := by
    have : (x.a * C) * (x.a * C) = (A * x.c) * (A * x.c) := by rw [h1]
    grind
  have e2 : x.b * x.b * (C * C) = B * B * (x.c * x.c) := by
    have : (x.b * C) * (x.b * C) = (B * x.c) * (B * x.c) := by rw [h2]
    grind
  grind
theorem Rep.aU (ox : Ok x) (hn : NM.norm d x ≠ 0) (h : Rep x A B C) : Rep (aU d x) (C * A) (-C * B) (A * A - d * B * B) := by
  have hN := h.norm (d := d)
  have hcc : x.c * x.c ≠ 0 := Int.mul_ne_zero ox.cn ox.cn
  have hN0 : A * A - d * B * B ≠ 0 := fun z => by
    rw [z, Int.zero_mul] at hN
    rcases Int.mul_eq_zero.mp hN with w | w
    · exact hn w
    · rcases Int.mul_eq_zero.mp w with w | w <;> exact h.c w
  obtain ⟨_, q1, q2⟩ := nX (a := x.c * x.a) (b := -x.c * x.b) hn
  change (NM.aU d x).a * NM.norm d x = _ * (NM.aU d x).c at q1
  change (NM.aU d x).b * NM.norm d x = _ * (NM.aU d x).c at q2
  obtain ⟨hc1, h1, h2⟩ := h
  generalize NM.aU d x = z at *
  generalize NM.norm d x = n at *
  generalize A * A - d * B * B = m at *
  refine ⟨hN0, ?_, ?_⟩
  · have e : z.a * m * (x.c * x.c) = C * A * z.c * (x.c * x.c) := by grind
    exact Int.eq_of_mul_eq_mul_right hcc e
  · have e : z.b * m * (x.c * x.c) = -C * B * z.c * (x.c * x.c) := by grind
    exact Int.eq_of_mul_eq_mul_right hcc e
theorem Rep.sg (hd : aK d) (ox : Ok x) (h : Rep x A B C) (hC : 0 < C) : sg d x.a x.b = NM.sg d A B := by
  have e1 := fw (a := x.a) (b := x.b) hd hC
  have e2 := fw (a := A) (b := B) hd ox.c
  rw [show C * x.a = x.c * A by have := h.a; grind, show C * x.b = x.c * B by have := h.b; grind] at e1
  rw [← e1, e2]
end
end NM
set_option linter.all false
set_option maxRecDepth 100000
set_option maxHeartbeats 4000000
namespace NM
def lean (d : Int) (x : N3) : N3 := times d (gw x) (aU d x)
def wZ (d : Int) (x : N3) : N3 := times d (times d (plus x (gw x)) (plus x (gw x))) (aU d (times d x (gw x)))
section
variable {d : Int} {x y z : N3}
theorem w8 {a b c : Int} (h : aK d) (hc : 0 < c) : sg d (low a b c).a (low a b c).b = sg d a b := (nX (show c ≠ 0 by omega)).sg h (mY _ _ (by omega)) hc
theorem yf (h : aK d) (ox : Ok x) (oy : Ok y) : sg d (times d x y).a (times d x y).b = sg d x.a x.b * sg d y.a y.b := by
  unfold times
  rw [w8 h (Int.mul_pos ox.c oy.c), vG h]
theorem sH : sg d one.a one.b = 1 := by
  unfold one sg
  rw [if_neg (by simp), if_pos (by simp)]
theorem lx (h : aK d) (ox : Ok x) (hx : sg d x.a x.b = 1) : norm d x ≠ 0 := h.norm ox (fun e => by subst e; have : sg d aB.a aB.b = 0 := cQ.mpr ⟨rfl, rfl⟩; omega)
theorem oR (ox : Ok x) (hn : norm d x ≠ 0) : times d x (aU d x) = one := by
  have oc := cf hn
  exact ((aF ox).times ox oc ((aF ox).aU ox hn)).eq (bP ox oc) cM (aF cM) (by simp only [one]; grind) (by simp only [one]; grind)
theorem uf (h : aK d) (ox : Ok x) (hx : sg d x.a x.b = 1) : sg d (aU d x).a (aU d x).b = 1 := by
  have hn := lx h ox hx
  have e := yf h ox (cf hn)
  rw [oR ox hn, sH, hx] at e
  omega
theorem AO {n : Int} : sg d 0 n = if n = 0 then 0 else if 0 < n then 1 else -1 := by
  unfold sg
  by_cases h : n = 0
  · simp [h]
  · rcases Int.lt_or_gt_of_ne h with z | z
    · rw [if_neg (by omega), if_neg (by omega), if_pos (by omega), if_neg h, if_neg (by omega)]
    · rw [if_neg (by omega), if_pos (by omega), if_neg h, if_pos (by omega)]
def W (x y : N3) : Int := x.b * y.a - x.a * y.b
theorem Rep.neg {A B C : Int} (h : Rep x A B C) : Rep x (-A) (-B) (-C) := ⟨by have := h.c; omega, by rw [Int.mul_neg, Int.neg_mul, h.a], by rw [Int.mul_neg, Int.neg_mul, h.b]⟩
structure Fb (z x y : N3) : Prop where
  ex : ∃ p q C : Int, 0 < p ∧ 0 < q ∧ 0 < C ∧ Rep z (p * x.a + q * y.a) (p * x.b + q * y.b) C
theorem Fb.pos (hd : aK d) (oz : Ok z) (h : Fb z x y) (hx : sg d x.a x.b = 1) (hy : sg d y.a y.b = 1) : sg d z.a z.b = 1 := by
  obtain ⟨p, q, C, hp, hq, hC, r⟩ := h.ex
  rw [r.sg hd oz hC, cm hd]
  refine BQ hd ?_ ?_
  · rw [← cm hd, fw hd hp]; exact hx
  · rw [← cm hd, fw hd hq]; exact hy
end
end NM
set_option Elab.async false
set_option linter.all false
set_option maxRecDepth 100000
set_option maxHeartbeats 4000000
namespace L2.DL
open PySem PySem.Spec PyProof.Rows
abbrev Mu := Addr → Option (List PyData)
abbrev PQ := PySem.W.Frag → V → Mu → Hp → Prop
inductive D where
  | v (x : PyData)
  | m (a : Addr)
  | s (ns : List Int)
  /-- an object that is handed on -/
  | o (a : Addr)
  /-- a thing of which something is known that stays -/
  | q (P : PQ)
abbrev Rho := List (Option D)
def aw (μ : Mu) (a : Addr) (ds : List PyData) : Mu := fun b => if b = a then some ds else μ b
theorem aD {μ : Mu} {a : Addr} {ds} : aw μ a ds a = some ds := by unfold aw; rw [if_pos rfl]
theorem cD {μ : Mu} {a b : Addr} {ds} (h : b ≠ a) : aw μ a ds b = μ b := by unfold aw; rw [if_neg h]
theorem mT {μ : Mu} {a : Addr} {ds es} : aw (aw μ a ds) a es = aw μ a es := by
  funext b; unfold aw; split <;> rfl
mutual
inductive Rp (K : PySem.W.Frag) (μ : Mu) (H : Hp) : PyData → V → Prop
  | none : Rp K μ H .none .non
  | bool (b : Bool) : Rp K μ H (.bool b) (.bl b)
  | int (i : Int) : Rp K μ H (.int i) (.int i)
  | str (x : Str) : Rp K μ H (.str x) (.str x)
  | list {a : Addr} {xs : List V} {ds : List PyData} : H a = some (.lst xs) → μ a = Option.none → RpL K μ H ds xs → Rp K μ H (.list ds) (.ref a)
  | tuple {a : Addr} {xs : List V} {ds : List PyData} : SqT K H a xs → RpL K μ H ds xs → Rp K μ H (.tuple ds) (.ref a)
inductive RpL (K : PySem.W.Frag) (μ : Mu) (H : Hp) : List PyData → List V → Prop
  | nil : RpL K μ H [] []
  | cons {d : PyData} {v : V} {ds : List PyData} {vs : List V} : Rp K μ H d v → RpL K μ H ds vs → RpL K μ H (d :: ds) (v :: vs)
end
def NT : HO → Prop
  | .tbl _ => False
  | _ => True
structure Ext (K : PySem.W.Frag) (μ : Mu) (H : Hp) (μ' : Mu) (H' : Hp) : Prop where
  keep : ∀ b o, H b = some o → μ b = none → NT o → H' b = some o
  tb : ∀ b ps, H b = some (.tbl ps) → μ b = none → ∃ ps', H' b = some (.tbl ps')
  dom : ∀ b ds, μ b = some ds → ∃ es, μ' b = some es
  fresh : ∀ b, μ b = none → (H b ≠ none ∨ K.lookup b ≠ none) → μ' b = none
def RpD (K : PySem.W.Frag) (μ : Mu) (H : Hp) : D → V → Prop
  | .v x, u => Rp K μ H x u
  | .m a, u => u = .ref a ∧ ∃ ds, μ a = some ds
  | .s ns, u => ∃ a, u = .ref a ∧ SqL K H a (ns.map V.int) ∧ μ a = none
  | .o a, u => u = .ref a
  | .q P, u => ∀ μ' H', Ext K μ H μ' H' → P K u μ' H'
def codeAt (c : Addr) (q : Str) (h : Heap) : Prop := ∃ o vs t, h.get? c = some o ∧ o.data = .fields vs ∧ vs[1]? = some (.str q t)
abbrev BF (q : Str) : Str := (q ++ ".<locals>.") ++ "<lambda>"
def FJ (H : Hp) (P : Addr) (q : Str) : Prop := ∃ ps : Array Value, H P = some (.tbl ps) ∧ TriplesOk ps.toList ∧ ∀ pos cv, codeAmong pos ps.toList = some cv → ∃ c, cv = .ref c ∧ H c = some (.ext (codeAt c (BF q)))
def u9 (K : PySem.W.Frag) (H : Hp) : Prop := ∀ c o P q, K.lookup c = some o → cq o = some (P, q) → FJ H P q
structure bC (K : PySem.W.Frag) (μ : Mu) (H : Hp) : Prop where
  lst : ∀ a ds, μ a = some ds → ∃ xs, H a = some (.lst xs) ∧ RpL K μ H ds xs
  tab : u9 K H
instance {K : PySem.W.Frag} {μ : Mu} {H : Hp} : CoeFun (bC K μ H) fun _ => ∀ a ds, μ a = some ds → ∃ xs, H a = some (.lst xs) ∧ RpL K μ H ds xs := ⟨bC.lst⟩
theorem u9.of {K : PySem.W.Frag} {H H1 : Hp} (t : u9 K H) (s : ∀ b o, H b = some o → (∀ xs, o ≠ .lst xs) → H1 b = some o) : u9 K H1 := fun c o P q h1 h2 => by
  obtain ⟨ps, a1, a2, a3⟩ := t c o P q h1 h2
  exact ⟨ps, s _ _ a1 (fun _ z => nomatch z), a2, fun pos cv e => let ⟨c, q1, q2⟩ := a3 pos cv e; ⟨c, q1, s _ _ q2 (fun _ z => nomatch z)⟩⟩
def fv (K : PySem.W.Frag) (μ : Mu) (H : Hp) (ρ : Rho) (σ : St) : Prop :=
  ρ.length = σ.length ∧ ∀ (i : Nat) (d : D), ρ[i]? = some (some d) → ∃ u, σ[i]? = some (some u) ∧ RpD K μ H d u
structure St0 (K : PySem.W.Frag) (H : Hp) (ρ : Rho) (μ : Mu) (σ : St) : Prop where
  mu : bC K μ H
  rho : fv K μ H ρ σ
section
variable {K : PySem.W.Frag} {μ μ1 μ2 : Mu} {H H1 H2 : Hp}
theorem Ext.refl : Ext K μ H μ H := ⟨fun _ _ h _ _ => h, fun _ ps h _ => ⟨ps, h⟩, fun _ ds h => ⟨ds, h⟩, fun _ h _ => h⟩
theorem Ext.trans (a : Ext K μ H μ1 H1) (b : Ext K μ1 H1 μ2 H2) : Ext K μ H μ2 H2 where
  keep := fun c o h n t => b.keep c o (a.keep c o h n t) (a.fresh c n (.inl (by rw [h]; exact fun z => nomatch z))) t
  tb := fun c ps h n => by
    obtain ⟨ps1, h1⟩ := a.tb c ps h n
    exact b.tb c ps1 h1 (a.fresh c n (.inl (by rw [h]; exact fun z => nomatch z)))
  dom := fun c ds h => let ⟨es, q⟩ := a.dom c ds h; b.dom c es q
  fresh := fun c n h => by
    refine b.fresh c (a.fresh c n h) ?_
    rcases h with h | h
    · cases q : H c with
      | none => exact absurd q h
      | some o =>
        by_cases t : NT o
        · exact .inl (by rw [a.keep c o q n t]; exact fun z => nomatch z)
        · cases o with
          | tbl ps =>
            obtain ⟨ps1, h1⟩ := a.tb c ps q n
            exact .inl (by rw [h1]; exact fun z => nomatch z)
          | _ => exact absurd trivial t
    · exact .inr h
theorem Ext.of_same (s : jM H H1) : Ext K μ H μ H1 := ⟨fun b o h _ _ => s b o h, fun b ps h _ => ⟨ps, s b _ h⟩, fun _ ds h => ⟨ds, h⟩, fun _ h _ => h⟩
theorem bC.not {a : Addr} {o : HO} (ok : bC K μ H) (h : H a = some o) (n : ∀ xs, o ≠ .lst xs) : μ a = none := by
  cases q : μ a with
  | none => rfl
  | some ds =>
    obtain ⟨ys, e, _⟩ := ok a ds q
    rw [h] at e
    exact absurd (Option.some.inj e) (n ys)
theorem bC.free {a : Addr} (ok : bC K μ H) (h : H a = none) : μ a = none := by
  cases q : μ a with
  | none => rfl
  | some ds =>
    obtain ⟨ys, e, _⟩ := ok a ds q
    rw [h] at e; cases e
theorem tf {a : Addr} {xs : List V} (ok : bC K μ H) (e : Ext K μ H μ1 H1) (h : SqT K H a xs) : SqT K H1 a xs := by
  rcases h with (h | ⟨o, h⟩) | h
  · exact .inl (.inl (e.keep _ _ h (ok.not h fun _ z => nomatch z) trivial))
  · exact .inl (.inr ⟨o, e.keep _ _ h (ok.not h fun _ z => nomatch z) trivial⟩)
  · exact .inr h
theorem xi {a : Addr} {xs : List V} (e : Ext K μ H μ1 H1) (h : SqL K H a xs) (n : μ a = none) : SqL K H1 a xs ∧ μ1 a = none := by
  rcases h with (h | ⟨o, h⟩) | h
  · exact ⟨.inl (.inl (e.keep _ _ h n trivial)), e.fresh _ n (.inl (by rw [h]; exact fun z => nomatch z))⟩
  · exact ⟨.inl (.inr ⟨o, e.keep _ _ h n trivial⟩), e.fresh _ n (.inl (by rw [h]; exact fun z => nomatch z))⟩
  · obtain ⟨o, its, k, hk, r⟩ := id h
    exact ⟨.inr h, e.fresh _ n (.inr (by rw [hk]; exact fun z => nomatch z))⟩
mutual
theorem Rp.ext {d : PyData} {u : V} (ok : bC K μ H) (e : Ext K μ H μ1 H1) : Rp K μ H d u → Rp K μ1 H1 d u
  | .none => .none
  | .bool b => .bool b
  | .int i => .int i
  | .str x => .str x
  | .list h n r => .list (e.keep _ _ h n trivial) (e.fresh _ n (.inl (by rw [h]; exact fun z => nomatch z))) (RpL.ext ok e r)
  | .tuple h r => .tuple (tf ok e h) (RpL.ext ok e r)
theorem RpL.ext {ds : List PyData} {us : List V} (ok : bC K μ H) (e : Ext K μ H μ1 H1) : RpL K μ H ds us → RpL K μ1 H1 ds us
  | .nil => .nil
  | .cons h r => .cons (Rp.ext ok e h) (RpL.ext ok e r)
end
theorem RpD.ext {d : D} {u : V} (ok : bC K μ H) (e : Ext K μ H μ1 H1) (r : RpD K μ H d u) : RpD K μ1 H1 d u := by
  cases d with
  | v x => exact Rp.ext ok e r
  | m a => obtain ⟨h, ds, q⟩ := r; exact ⟨h, e.dom a ds q⟩
  | s ns => obtain ⟨a, h, q, n⟩ := r; exact ⟨a, h, (xi e q n).1, (xi e q n).2⟩
  | o a => exact r
  | q P => exact fun μ' H' e' => r μ' H' (e.trans e')
theorem fv.ext {ρ : Rho} {σ : St} (ok : bC K μ H) (e : Ext K μ H μ1 H1) (r : fv K μ H ρ σ) : fv K μ1 H1 ρ σ :=
  ⟨r.1, fun i d h => let ⟨u, h1, h2⟩ := r.2 i d h; ⟨u, h1, h2.ext ok e⟩⟩
theorem RpL.length {ds : List PyData} {us : List V} : RpL K μ H ds us → ds.length = us.length
  | .nil => rfl
  | .cons _ r => congrArg (· + 1) (RpL.length r)
theorem RpL.get {ds : List PyData} {us : List V} : ∀ {i : Nat} {d : PyData}, RpL K μ H ds us → ds[i]? = some d → ∃ u, us[i]? = some u ∧ Rp K μ H d u
  | _, _, .nil, h => by simp at h
  | 0, _, .cons r _, h => by simp at h; subst h; exact ⟨_, rfl, r⟩
  | i + 1, d, .cons _ t, h => by
    obtain ⟨u, h1, h2⟩ := RpL.get (i := i) (d := d) t (by simpa using h)
    exact ⟨u, by simpa using h1, h2⟩
theorem RpL.append {ds es : List PyData} {us ws : List V} : RpL K μ H ds us → RpL K μ H es ws → RpL K μ H (ds ++ es) (us ++ ws)
  | .nil, s => s
  | .cons r t, s => .cons r (RpL.append t s)
theorem RpL.take {ds : List PyData} {us : List V} : ∀ (n : Nat), RpL K μ H ds us → RpL K μ H (ds.take n) (us.take n)
  | 0, _ => by simp; exact .nil
  | _ + 1, .nil => by simp; exact .nil
  | n + 1, .cons r t => .cons r (RpL.take n t)
theorem RpL.drop {ds : List PyData} {us : List V} : ∀ (n : Nat), RpL K μ H ds us → RpL K μ H (ds.drop n) (us.drop n)
  | 0, r => r
  | _ + 1, .nil => by simp; exact .nil
  | n + 1, .cons _ t => RpL.drop n t
theorem RpL.reverse {ds : List PyData} {us : List V} : RpL K μ H ds us → RpL K μ H ds.reverse us.reverse
  | .nil => .nil
  | .cons r t => by rw [List.reverse_cons, List.reverse_cons]; exact (RpL.reverse t).append (.cons r .nil)
theorem RpL.set {ds : List PyData} {us : List V} {d : PyData} {u : V} (q : Rp K μ H d u) : ∀ (i : Nat), RpL K μ H ds us → RpL K μ H (ds.set i d) (us.set i u)
  | _, .nil => .nil
  | 0, .cons _ t => .cons q t
  | i + 1, .cons r t => .cons r (RpL.set q i t)
theorem vU {ds : List PyData} {us : List V} {i : Int} {d : PyData} (r : RpL K μ H ds us) (h : atI ds i = some d) : ∃ u, atI us i = some u ∧ Rp K μ H d u := by
  unfold atI at h ⊢
  rw [← r.length]
  cases q : ixN ds.length i with
  | none => rw [q] at h; cases h
  | some j =>
    rw [q] at h
    exact r.get h
abbrev DK := D → Mu → Prop
abbrev DTE := Rho → Mu → DK → Prop
abbrev DTT := Rho → Mu → (Bool → Mu → Prop) → Prop
abbrev DTA := Rho → Mu → (List D → Mu → Prop) → Prop
structure zI where
  nx : Rho → Mu → Prop
  rt : DK
  bk : Rho → Mu → Prop := fun _ _ => False
  ct : Rho → Mu → Prop := fun _ _ => False
abbrev DTS := zI → Rho → Mu → Prop
inductive gv (K : PySem.W.Frag) (μ : Mu) (H : Hp) : List D → List V → Prop
  | nil : gv K μ H [] []
  | cons {d : D} {u : V} {ds : List D} {us : List V} : RpD K μ H d u → gv K μ H ds us → gv K μ H (d :: ds) (u :: us)
theorem gv.ext {ds : List D} {us : List V} (ok : bC K μ H) (e : Ext K μ H μ1 H1) : gv K μ H ds us → gv K μ1 H1 ds us
  | .nil => .nil
  | .cons h r => .cons (h.ext ok e) (gv.ext ok e r)
theorem gv.length {ds : List D} {us : List V} : gv K μ H ds us → ds.length = us.length
  | .nil => rfl
  | .cons _ r => congrArg (· + 1) (gv.length r)
end
def lr (K : PySem.W.Frag) (t : TE) (td : DTE) : Prop := ∀ (σ : St) (H : Hp) (ρ : Rho) (μ : Mu) (Qd : DK) (Q : VK), St0 K H ρ μ σ → td ρ μ Qd →
  (∀ d u μ' H', Ext K μ H μ' H' → St0 K H' ρ μ' σ → RpD K μ' H' d u → Qd d μ' → Q u H') → t σ H Q
def zg (K : PySem.W.Frag) (t : TT) (td : DTT) : Prop := ∀ (σ : St) (H : Hp) (ρ : Rho) (μ : Mu) (Qd : Bool → Mu → Prop) (Q : Bool → Hp → Prop), St0 K H ρ μ σ → td ρ μ Qd →
  (∀ b μ' H', Ext K μ H μ' H' → St0 K H' ρ μ' σ → Qd b μ' → Q b H') → t σ H Q
def Ce (K : PySem.W.Frag) (n : Nat) (t : TA) (td : DTA) : Prop := ∀ (σ : St) (H : Hp) (ρ : Rho) (μ : Mu) (Qd : List D → Mu → Prop) (Q : List V → Hp → Prop), St0 K H ρ μ σ → td ρ μ Qd →
  (∀ ds us μ' H', Ext K μ H μ' H' → St0 K H' ρ μ' σ → gv K μ' H' ds us → ds.length = n → Qd ds μ' → Q us H') → t σ H Q
def qR (K : PySem.W.Frag) (t : TS) (td : DTS) : Prop := ∀ (σ : St) (H : Hp) (ρ : Rho) (μ : Mu) (Dd : zI) (De : Ends), St0 K H ρ μ σ → td Dd ρ μ →
  (∀ σ' ρ' μ' H', Ext K μ H μ' H' → St0 K H' ρ' μ' σ' → Dd.nx ρ' μ' → De.nx σ' H') →
  (∀ d u μ' H', Ext K μ H μ' H' → bC K μ' H' → RpD K μ' H' d u → Dd.rt d μ' → De.rt u H') →
  (∀ σ' ρ' μ' H', Ext K μ H μ' H' → St0 K H' ρ' μ' σ' → Dd.bk ρ' μ' → De.bk σ' H') →
  (∀ σ' ρ' μ' H', Ext K μ H μ' H' → St0 K H' ρ' μ' σ' → Dd.ct ρ' μ' → De.ct σ' H') → t De σ H
def DE (X : Cx) (e : Expr) (td : DTE) : Prop := ∃ t, PE X e t ∧ lr X.K t td
def DT (X : Cx) (e : Expr) (td : DTT) : Prop := ∃ t, PT X e t ∧ zg X.K t td
def DA (X : Cx) (es : List Expr) (td : DTA) : Prop := ∃ t, PA X es t ∧ Ce X.K es.length t td
def DS (X : Cx) (st : Stmt) (td : DTS) : Prop := ∃ t, PS X st t ∧ qR X.K t td
def DSs (X : Cx) (st : List Stmt) (td : DTS) : Prop := ∃ t, PSs X st t ∧ qR X.K t td
section
variable {X : Cx} {a b c : Expr} {ta tb tc : DTE} {pos : Pos}
def af (i : Nat) : DTE := fun ρ μ Q => match ρ[i]? with
  | some (some d) => Q d μ
  | _ => False
def dC (x : PyData) : DTE := fun _ μ Q => Q (.v x) μ
theorem zV {K : PySem.W.Frag} (i : Nat) : lr K (E2 i) (af i) := by
  intro σ H ρ μ Qd Q S h k
  unfold af at h
  split at h
  · rename_i d e
    obtain ⟨u, h1, h2⟩ := S.rho.2 i d e
    exact ⟨u, h1, k d u μ H .refl S h2 h⟩
  · exact h.elim
theorem dv (i : Nat) {x : Str} {pos : Pos} (hN : X.N[i]? = some x := by rfl) (hv : Vis X.env.scope x := by first | exact Or.inl rfl | exact Or.inr (Or.inl rfl) | exact Or.inr (Or.inr rfl)) (hd : (x == ("__debug__" : Str)) = false := by decide)
    (hcd : (x == ("__classdict__" : Str)) = false := by decide) : DE X (.Name x pos) (af i) := ⟨_, Ea hN hv hd hcd, zV i⟩
theorem pf {K : PySem.W.Frag} {x : PyData} {u : V} (h : ∀ μ H, bC K μ H → Rp K μ H x u) : lr K (tC u) (dC x) := fun σ H ρ μ Qd Q S q k => k (.v x) u μ H .refl S (h μ H S.mu) q
theorem ae {i j pos} : DE X (.Constant (.int i) j pos) (dC (.int i)) := ⟨_, Dn, pf fun _ _ _ => .int i⟩
theorem jf {i j pos} : DE X (.Constant (.bool i) j pos) (dC (.bool i)) := ⟨_, Ex, pf fun _ _ _ => .bool i⟩
theorem yP {j pos} : DE X (.Constant .none j pos) (dC .none) := ⟨_, DR, pf fun _ _ _ => .none⟩
theorem mW {x j pos} : DE X (.Constant (.str x) j pos) (dC (.str x)) := ⟨_, Eo, pf fun _ _ _ => .str x⟩
theorem Bg {x : Str} {d : PyData} {u : V} {w : Value} {pos : Pos} (hg : Gl X x) (hm : X.mg x = some w) (r : RelV u w) (h : ∀ μ H, bC X.K μ H → Rp X.K μ H d u) (hd : (x == ("__debug__" : Str)) = false := by decide) : DE X (.Name x pos) (dC d) :=
  ⟨_, A2 hg hm r hd, pf h⟩
def fL (K : PySem.W.Frag) (rr : R2) (r : D → D → Mu → DK → Prop) : Prop := ∀ (x y : D) (ux uy : V) (H : Hp) (μ : Mu) (Qd : DK) (Q : VK), bC K μ H → RpD K μ H x ux → RpD K μ H y uy → r x y μ Qd →
  (∀ d u μ' H', Ext K μ H μ' H' → bC K μ' H' → RpD K μ' H' d u → Qd d μ' → Q u H') → rr ux uy H Q
def dOp (r : D → D → Mu → DK → Prop) (ta tb : DTE) : DTE := fun ρ μ Q => ta ρ μ fun x μ1 => tb ρ μ1 fun y μ2 => r x y μ2 Q
theorem l7 {K : PySem.W.Frag} {rr : R2} {r} {t1 t2 : TE} (lo : fL K rr r) (la : lr K t1 ta) (lb : lr K t2 tb) : lr K (tOp rr t1 t2) (dOp r ta tb) := by
  intro σ H ρ μ Qd Q S h k
  refine la σ H ρ μ _ _ S h fun x ux μ1 H1 e1 S1 rx h1 => ?_
  refine lb σ H1 ρ μ1 _ _ S1 h1 fun y uy μ2 H2 e2 S2 ry h2 => ?_
  exact lo x y ux uy H2 μ2 _ _ S2.mu (rx.ext S1.mu e2) ry h2 fun d u μ' H' e3 ok r q => k d u μ' H' (e1.trans (e2.trans e3)) ⟨ok, S2.rho.ext S2.mu e3⟩ r q
theorem oS {op : Operator} {rr : R2} {r} (ho : OpR X (binaryOp op) rr) (lo : fL X.K rr r) (ha : DE X a ta) (hb : DE X b tb) : DE X (.BinOp a op b pos) (dOp r ta tb) := by
  obtain ⟨t1, p1, l1⟩ := ha
  obtain ⟨t2, p2, l2⟩ := hb
  exact ⟨_, EA ho p1 p2, l7 lo l1 l2⟩
theorem dG {op : CmpOp} {rr : R2} {r} (ho : OpR X (compareOp op) rr) (lo : fL X.K rr r) (ha : DE X a ta) (hb : DE X b tb) (hm : behindInMarks op b = false) : DE X (.Compare a [op] [b] pos) (dOp r ta tb) := by
  obtain ⟨t1, p1, l1⟩ := ha
  obtain ⟨t2, p2, l2⟩ := hb
  exact ⟨_, Bf ho p1 p2 hm, l7 lo l1 l2⟩
def dB (t : DTE) : DTT := fun ρ μ Q => t ρ μ fun d μ1 => match d with
  | .v (.bool k) => Q k μ1
  | _ => False
theorem qM {K : PySem.W.Frag} {t : TE} {td : DTE} (l : lr K t td) : zg K (BL t) (dB td) := by
  intro σ H ρ μ Qd Q S h k
  refine l σ H ρ μ _ _ S h fun d u μ1 H1 e1 S1 r q => ?_
  split at q
  · rename_i b
    cases r
    exact ⟨b, rfl, k b μ1 H1 e1 S1 q⟩
  · exact q.elim
theorem aL {op : CmpOp} {rr : R2} {r} (ho : OpR X (compareOp op) rr) (lo : fL X.K rr r) (ha : DE X a ta) (hb : DE X b tb) (hm : behindInMarks op b = false) : DT X (.Compare a [op] [b] pos) (dB (dOp r ta tb)) := by
  obtain ⟨t1, p1, l1⟩ := ha
  obtain ⟨t2, p2, l2⟩ := hb
  exact ⟨_, By ho p1 p2 hm, qM (l7 lo l1 l2)⟩
theorem dr {e : Expr} {td : DTE} (h : DE X e td) (he : ∀ whole, isTrue e X.env whole = (do let v ← whole; standAt e.pos; holding [v] (truthy v)) := by intro _; rfl) : DT X e (dB td) := by
  obtain ⟨t, p, l⟩ := h
  exact ⟨_, CY p he, qM l⟩
def rII (C : Int → Int → Prop) (g : Int → Int → PyData) : D → D → Mu → DK → Prop := fun x y μ Q => match x, y with
  | .v (.int i), .v (.int j) => C i j ∧ Q (.v (g i j)) μ
  | _, _ => False
theorem Ba {K : PySem.W.Frag} {C : Int → Int → Prop} {g : Int → Int → V} {gd : Int → Int → PyData} (hg : ∀ μ H i j, Rp K μ H (gd i j) (g i j)) : fL K (rI C g) (rII C gd) := by
  intro x y ux uy H μ Qd Q ok rx ry h k
  unfold rII at h
  split at h
  · rename_i i j
    cases rx; cases ry
    exact ⟨i, j, rfl, rfl, h.1, k (.v _) _ μ H .refl ok (hg μ H i j) h.2⟩
  · exact h.elim
def qD (g : Int → Int → PyData) : D → D → Mu → DK → Prop := fun x y μ Q => match x, y with
  | .v (.int i), .v (.int j) => Q (.v (g i j)) μ
  | _, _ => False
theorem wX {K : PySem.W.Frag} {g : Int → Int → V} {gd : Int → Int → PyData} (hg : ∀ μ H i j, Rp K μ H (gd i j) (g i j)) : fL K (rI0 g) (qD gd) := by
  intro x y ux uy H μ Qd Q ok rx ry h k
  unfold qD at h
  split at h
  · rename_i i j
    cases rx; cases ry
    exact ⟨i, j, rfl, rfl, k (.v _) _ μ H .refl ok (hg μ H i j) h⟩
  · exact h.elim
abbrev gO (ta tb : DTE) : DTE := dOp (qD fun i j => .int (i + j)) ta tb
abbrev kX (ta tb : DTE) : DTE := dOp (qD fun i j => .int (i - j)) ta tb
abbrev MulOk (i j : Int) : Prop := IntMulOk i j
abbrev bH (ta tb : DTE) : DTE := dOp (rII MulOk fun i j => .int (i * j)) ta tb
abbrev oA (ta tb : DTE) : DTE := dOp (rII (fun _ j => j ≠ 0) fun i j => .int (i.fmod j)) ta tb
abbrev mj (i j : Int) : Prop := j ≠ 0 ∧ Builtin.divisionGoesByPylong i j = false
abbrev mN (ta tb : DTE) : DTE := dOp (rII mj fun i j => .int (i.fdiv j)) ta tb
abbrev DJ (ta tb : DTE) : DTE := dOp (rII Dx fun i j => .int (i ^ j.toNat)) ta tb
theorem BI : OpR X (binaryOp .Mult) (rI MulOk fun i j => .int (i * j)) := opI fun _ _ _ _ _ _ _ hc q => mul_int q hc
theorem Bu : OpR X (binaryOp .FloorDiv) (rI mj fun i j => .int (i.fdiv j)) := opI fun _ _ _ _ _ _ _ hc q => floordiv_int hc.1 q (.inl hc.2)
theorem cN (ha : DE X a ta) (hb : DE X b tb) : DE X (.BinOp a .Add b pos) (gO ta tb) := oS Au (wX fun _ _ _ _ => .int _) ha hb
theorem eY (ha : DE X a ta) (hb : DE X b tb) : DE X (.BinOp a .Sub b pos) (kX ta tb) := oS CA (wX fun _ _ _ _ => .int _) ha hb
theorem aN (ha : DE X a ta) (hb : DE X b tb) : DE X (.BinOp a .Mult b pos) (bH ta tb) := oS BI (Ba fun _ _ _ _ => .int _) ha hb
theorem g6 (ha : DE X a ta) (hb : DE X b tb) : DE X (.BinOp a .Mod b pos) (oA ta tb) := oS AV (Ba fun _ _ _ _ => .int _) ha hb
theorem fH (ha : DE X a ta) (hb : DE X b tb) : DE X (.BinOp a .FloorDiv b pos) (mN ta tb) := oS Bu (Ba fun _ _ _ _ => .int _) ha hb
theorem Ar (ha : DE X a ta) (hb : DE X b tb) : DE X (.BinOp a .Pow b pos) (DJ ta tb) := oS D7 (Ba fun _ _ _ _ => .int _) ha hb
abbrev rLt := qD fun i j => .bool (decide (i < j))
abbrev rLe := qD fun i j => .bool (decide (i ≤ j))
abbrev rGt := qD fun i j => .bool (decide (j < i))
abbrev rGe := qD fun i j => .bool (decide (j ≤ i))
theorem eD {K : PySem.W.Frag} {p : Int → Int → Bool} : fL K (rI0 fun i j => .bl (p i j)) (qD fun i j => .bool (p i j)) := wX fun _ _ _ _ => .bool _
def oU (ta : DTE) : DTE := fun ρ μ Q => ta ρ μ fun x μ1 => match x with
  | .v (.int i) => Q (.v (.int (-i))) μ1
  | _ => False
theorem iX (ha : DE X a ta) : DE X (.UnaryOp .USub a pos) (oU ta) := by
  obtain ⟨t1, p1, l1⟩ := ha
  refine ⟨_, EE DY p1, fun σ H ρ μ Qd Q S h k => ?_⟩
  refine l1 σ H ρ μ _ _ S h fun x ux μ1 H1 e1 S1 rx h1 => ?_
  split at h1
  · rename_i i
    cases rx
    exact ⟨i, rfl, k (.v _) _ μ1 H1 e1 S1 (Rp.int _) h1⟩
  · exact h1.elim
def uk (t u : DTT) : DTT := fun ρ μ Q => t ρ μ fun c μ1 => if c = true then u ρ μ1 Q else Q false μ1
def kD (t u : DTT) : DTT := fun ρ μ Q => t ρ μ fun c μ1 => if c = true then Q true μ1 else u ρ μ1 Q
def eM (t : DTT) : DTT := fun ρ μ Q => t ρ μ fun c μ1 => Q (!c) μ1
def DW (X : Cx) (e : Expr) (td : DTT) : Prop := ∃ t, PW X e t ∧ zg X.K t td
theorem DW.dt {e : Expr} {td : DTT} (h : DW X e td) : DT X e td := let ⟨t, p, l⟩ := h; ⟨t, p.pt, l⟩
variable {tA tB' : DTT} {rest : List Expr}
theorem sY (ha : DT X a tA) : DW X (.BoolOp .And [a] pos) tA := let ⟨t, p, l⟩ := ha; ⟨t, pw_and1 p, l⟩
theorem jL (ha : DT X a tA) : DW X (.BoolOp .Or [a] pos) tA := let ⟨t, p, l⟩ := ha; ⟨t, pw_or1 p, l⟩
theorem vW (ha : DT X a tA) (hb : DW X (.BoolOp .And (b :: rest) pos) tB') : DW X (.BoolOp .And (a :: b :: rest) pos) (uk tA tB') := by
  obtain ⟨t1, p1, l1⟩ := ha
  obtain ⟨t2, p2, l2⟩ := hb
  refine ⟨_, pw_and p1 p2, fun σ H ρ μ Qd Q S h k => ?_⟩
  refine l1 σ H ρ μ _ _ S h fun c μ1 H1 e1 S1 h1 => ?_
  cases c with
  | true =>
    refine sP (l2 σ H1 ρ μ1 _ _ S1 (by simpa using h1) fun c μ2 H2 e2 S2 h2 => k c μ2 H2 (e1.trans e2) S2 h2)
  | false => exact rD (k false μ1 H1 e1 S1 (by simpa using h1))
theorem ig (ha : DT X a tA) (hb : DW X (.BoolOp .Or (b :: rest) pos) tB') : DW X (.BoolOp .Or (a :: b :: rest) pos) (kD tA tB') := by
  obtain ⟨t1, p1, l1⟩ := ha
  obtain ⟨t2, p2, l2⟩ := hb
  refine ⟨_, pw_or p1 p2, fun σ H ρ μ Qd Q S h k => ?_⟩
  refine l1 σ H ρ μ _ _ S h fun c μ1 H1 e1 S1 h1 => ?_
  cases c with
  | true => exact sP (k true μ1 H1 e1 S1 (by simpa using h1))
  | false =>
    refine rD (l2 σ H1 ρ μ1 _ _ S1 (by simpa using h1) fun c μ2 H2 e2 S2 h2 => k c μ2 H2 (e1.trans e2) S2 h2)
theorem du (ha : DT X a tA) : DT X (.UnaryOp .Not a pos) (eM tA) := by
  obtain ⟨t1, p1, l1⟩ := ha
  refine ⟨_, C8 p1, fun σ H ρ μ Qd Q S h k => ?_⟩
  exact l1 σ H ρ μ _ _ S h fun c μ1 H1 e1 S1 h1 => k _ μ1 H1 e1 S1 h1
def oJ (ta tb : DTE) : DTE := fun ρ μ Q => ta ρ μ fun x μ1 => match x with
  | .v (.bool c) => if c = true then tb ρ μ1 Q else Q (.v (.bool false)) μ1
  | _ => False
def Gw (ta tb : DTE) : DTE := fun ρ μ Q => ta ρ μ fun x μ1 => match x with
  | .v (.bool c) => if c = true then Q (.v (.bool true)) μ1 else tb ρ μ1 Q
  | _ => False
def wD (ta : DTE) : DTE := fun ρ μ Q => ta ρ μ fun x μ1 => match x with
  | .v (.bool c) => Q (.v (.bool (!c))) μ1
  | _ => False
theorem nj {op} (h : DE X a ta) : DE X (.BoolOp op [a] pos) ta := let ⟨t, p, l⟩ := h; ⟨t, Dr p, l⟩
theorem mC (ha : DE X a ta) (hb : DE X (.BoolOp .And (b :: rest) pos) tb) : DE X (.BoolOp .And (a :: b :: rest) pos) (oJ ta tb) := by
  obtain ⟨t1, p1, l1⟩ := ha
  obtain ⟨t2, p2, l2⟩ := hb
  refine ⟨_, D9 p1 p2, fun σ H ρ μ Qd Q S h k => ?_⟩
  refine l1 σ H ρ μ _ _ S h fun x ux μ1 H1 e1 S1 rx h1 => ?_
  split at h1
  · rename_i c
    cases rx
    refine ⟨c, rfl, ?_⟩
    cases c with
    | true => exact sP (l2 σ H1 ρ μ1 _ _ S1 (by simpa using h1) fun d u μ2 H2 e2 S2 r2 h2 => k d u μ2 H2 (e1.trans e2) S2 r2 h2)
    | false => exact rD (k (.v _) _ μ1 H1 e1 S1 (Rp.bool false) (by simpa using h1))
  · exact h1.elim
theorem vF (ha : DE X a ta) : DE X (.UnaryOp .Not a pos) (wD ta) := by
  obtain ⟨t1, p1, l1⟩ := ha
  refine ⟨_, C2 p1, fun σ H ρ μ Qd Q S h k => ?_⟩
  refine l1 σ H ρ μ _ _ S h fun x ux μ1 H1 e1 S1 rx h1 => ?_
  split at h1
  · rename_i c
    cases rx
    exact ⟨c, rfl, k (.v _) _ μ1 H1 e1 S1 (Rp.bool _) h1⟩
  · exact h1.elim
def dIf (t : DTT) (ta tb : DTE) : DTE := fun ρ μ Q => t ρ μ fun c μ1 => if c = true then ta ρ μ1 Q else tb ρ μ1 Q
theorem qO {c : Expr} (hc : DT X c tA) (ha : DE X a ta) (hb : DE X b tb) : DE X (.IfExp c a b pos) (dIf tA ta tb) := by
  obtain ⟨t0, p0, l0⟩ := hc
  obtain ⟨t1, p1, l1⟩ := ha
  obtain ⟨t2, p2, l2⟩ := hb
  refine ⟨_, zv p0 p1 p2, fun σ H ρ μ Qd Q S h k => ?_⟩
  refine l0 σ H ρ μ _ _ S h fun c μ1 H1 e1 S1 h1 => ?_
  cases c with
  | true => exact sP (l1 σ H1 ρ μ1 _ _ S1 (by simpa using h1) fun d u μ2 H2 e2 S2 r2 h2 => k d u μ2 H2 (e1.trans e2) S2 r2 h2)
  | false => exact rD (l2 σ H1 ρ μ1 _ _ S1 (by simpa using h1) fun d u μ2 H2 e2 S2 r2 h2 => k d u μ2 H2 (e1.trans e2) S2 r2 h2)
end
open PySem PySem.Spec PyProof.Rows
section
variable {K : PySem.W.Frag} {μ μ1 : Mu} {H H1 : Hp} {p : Addr}
theorem dz {o : HO} (h : H p = none) : Ext K μ H μ (upd H p o) :=
  ⟨fun b u e _ _ => by rw [bo (bQ e h)]; exact e, fun b ps e _ => ⟨ps, by rw [bo (bQ e h)]; exact e⟩, fun _ ds q => ⟨ds, q⟩, fun _ q _ => q⟩
theorem bC.Av (ok : bC K μ H) (e : Ext K μ H μ H1) (s : jM H H1) : bC K μ H1 := ⟨fun a ds q => by
  obtain ⟨xs, h1, h2⟩ := ok a ds q
  exact ⟨xs, s _ _ h1, h2.ext ok e⟩, ok.tab.of fun b o h _ => s b o h⟩
theorem y9 {o : HO} (h : H p = none) : jM H (upd H p o) := fun b u q => by rw [bo (bQ q h)]; exact q
theorem bC.new {o : HO} (ok : bC K μ H) (h : H p = none) : bC K μ (upd H p o) := ok.Av (dz h) (y9 h)
theorem St0.new {o : HO} {ρ : Rho} {σ : St} (S : St0 K H ρ μ σ) (h : H p = none) : St0 K (upd H p o) ρ μ σ := ⟨S.mu.new h, S.rho.ext S.mu (dz h)⟩
theorem kL {us : List V} {ds : List PyData} (ok : bC K μ H) (r : RpL K μ H ds us) (h : H p = none) : Rp K μ (upd H p (.tup us)) (.tuple ds) (.ref p) :=
  .tuple (SqT.of fz) (r.ext ok (dz h))
theorem iN {us : List V} {ds : List PyData} (ok : bC K μ H) (r : RpL K μ H ds us) (h : H p = none) : Rp K μ (upd H p (.lst us)) (.list ds) (.ref p) :=
  .list fz (ok.free h) (r.ext ok (dz h))
theorem gB {o : HO} {ds : List PyData} (ok : bC K μ H) (h : H p = none) (hk : K.lookup p = none) : Ext K μ H (aw μ p ds) (upd H p o) where
  keep := fun b u e _ _ => by rw [bo (bQ e h)]; exact e
  tb := fun b ps e _ => ⟨ps, by rw [bo (bQ e h)]; exact e⟩
  dom := fun b es q => by
    have : b ≠ p := fun z => by rw [z, ok.free h] at q; cases q
    exact ⟨es, by rw [cD this]; exact q⟩
  fresh := fun b n q => by
    have : b ≠ p := fun z => by
      rcases q with q | q
      · exact q (by rw [z]; exact h)
      · exact q (by rw [z]; exact hk)
    rw [cD this]; exact n
theorem bC.mut {us : List V} {ds : List PyData} (ok : bC K μ H) (r : RpL K μ H ds us) (h : H p = none) (hk : K.lookup p = none) : bC K (aw μ p ds) (upd H p (.lst us)) := ⟨fun a es q => by
  have e := gB (o := .lst us) (ds := ds) ok h hk
  by_cases ha : a = p
  · subst ha
    rw [aD] at q
    cases q
    exact ⟨us, fz, r.ext ok e⟩
  · rw [cD ha] at q
    obtain ⟨xs, h1, h2⟩ := ok a es q
    exact ⟨xs, by rw [bo ha]; exact h1, h2.ext ok e⟩, ok.tab.of fun b o e _ => by rw [bo (bQ e h)]; exact e⟩
theorem iS {o : HO} {ds es : List PyData} (h : μ p = some ds) : Ext K μ H (aw μ p es) (upd H p o) where
  keep := fun b u e n _ => by
    have : b ≠ p := fun z => by rw [z, h] at n; cases n
    rw [bo this]; exact e
  tb := fun b ps e n => by
    have : b ≠ p := fun z => by rw [z, h] at n; cases n
    exact ⟨ps, by rw [bo this]; exact e⟩
  dom := fun b fs q => by
    by_cases hb : b = p
    · subst hb; exact ⟨es, aD⟩
    · exact ⟨fs, by rw [cD hb]; exact q⟩
  fresh := fun b n q => by
    have : b ≠ p := fun z => by rw [z, h] at n; cases n
    rw [cD this]; exact n
theorem bC.set {us : List V} {ds es : List PyData} (ok : bC K μ H) (h : μ p = some ds) (r : RpL K μ H es us) : bC K (aw μ p es) (upd H p (.lst us)) := ⟨fun a fs q => by
  have e : Ext K μ H (aw μ p es) (upd H p (.lst us)) := iS h
  by_cases ha : a = p
  · subst ha
    rw [aD] at q
    cases q
    exact ⟨us, fz, r.ext ok e⟩
  · rw [cD ha] at q
    obtain ⟨xs, h1, h2⟩ := ok a fs q
    exact ⟨xs, by rw [bo ha]; exact h1, h2.ext ok e⟩, by
  obtain ⟨ys, hy, _⟩ := ok p ds h
  exact ok.tab.of fun b o e n => by
    have : b ≠ p := fun z => by rw [z, hy] at e; exact n ys (Option.some.inj e).symm
    rw [bo this]; exact e⟩
end
def bR : List D → Option (List PyData)
  | [] => some []
  | .v x :: r => (bR r).map (x :: ·)
  | _ :: _ => none
theorem gv.data {K : PySem.W.Frag} {μ : Mu} {H : Hp} : ∀ {ds : List D} {us : List V} {xs : List PyData}, gv K μ H ds us → bR ds = some xs → RpL K μ H xs us
  | _, _, _, .nil, e => by cases e; exact .nil
  | .v x :: r, _, xs, .cons h t, e => by
    simp only [bR] at e
    cases q : bR r with
    | none => rw [q] at e; cases e
    | some ys => rw [q] at e; cases e; exact .cons h (gv.data t q)
  | .m _ :: _, _, _, .cons _ _, e => by simp [bR] at e
  | .s _ :: _, _, _, .cons _ _, e => by simp [bR] at e
  | .o _ :: _, _, _, .cons _ _, e => by simp [bR] at e
section
variable {X : Cx} {e : Expr} {es : List Expr} {te : DTE} {t : DTA} {pos : Pos}
def ak : DTA := fun _ μ Q => Q [] μ
def ab (ta : DTE) (tr : DTA) : DTA := fun ρ μ Q => ta ρ μ fun x μ1 => tr ρ μ1 fun xs μ2 => Q (x :: xs) μ2
theorem ag : DA X [] ak := ⟨_, rz, fun σ H ρ μ Qd Q S h k => k [] [] μ H .refl S .nil rfl h⟩
theorem aa (ha : DE X e te) (hr : DA X es t) (hs : starEach (e :: es) X.env = (false, eval e X.env) :: starEach es X.env := by rfl) : DA X (e :: es) (ab te t) := by
  obtain ⟨t1, p1, l1⟩ := ha
  obtain ⟨t2, p2, l2⟩ := hr
  refine ⟨_, j9 p1 p2 hs, fun σ H ρ μ Qd Q S h k => ?_⟩
  refine l1 σ H ρ μ _ _ S h fun x ux μ1 H1 e1 S1 rx h1 => ?_
  refine l2 σ H1 ρ μ1 _ _ S1 h1 fun xs us μ2 H2 e2 S2 rs len h2 => ?_
  exact k (x :: xs) (ux :: us) μ2 H2 (e1.trans e2) S2 (.cons (rx.ext S1.mu e2) rs) (by rw [List.length_cons, List.length_cons, len]) h2
def cK (t : DTA) : DTE := fun ρ μ Q => t ρ μ fun ds μ1 => match bR ds with
  | some xs => Q (.v (.tuple xs)) μ1
  | none => False
def kv (t : DTA) : DTE := fun ρ μ Q => t ρ μ fun ds μ1 => match bR ds with
  | some xs => Q (.v (.list xs)) μ1
  | none => False
def q9 (t : DTA) : DTE := fun ρ μ Q => t ρ μ fun ds μ1 => match bR ds with
  | some xs => ∀ p, μ1 p = none → Q (.m p) (aw μ1 p xs)
  | none => False
theorem aV {x1} (h : DA X es t) (hl : es.length ≤ 1000 := by decide) : DE X (.Tuple es x1 pos) (cK t) := by
  obtain ⟨t1, p1, l1⟩ := h
  refine ⟨_, zH p1, fun σ H ρ μ Qd Q S h k => ?_⟩
  refine l1 σ H ρ μ _ _ S h fun ds us μ1 H1 e1 S1 rs len h1 => ?_
  cases q : bR ds with
  | none => rw [q] at h1; exact h1.elim
  | some xs =>
    rw [q] at h1
    refine ⟨Nat.le_of_lt (di (by rw [← rs.length, len]; exact hl)), fun p hp => ?_⟩
    exact k (.v (.tuple xs)) _ μ1 _ (e1.trans (dz hp)) (S1.new hp) (kL S1.mu (rs.data q) hp) h1
theorem eO (h : DA X es t) (hl : es.length ≤ 1000 := by decide) : DE X (.List es pos) (kv t) := by
  obtain ⟨t1, p1, l1⟩ := h
  refine ⟨_, Dh p1, fun σ H ρ μ Qd Q S h k => ?_⟩
  refine l1 σ H ρ μ _ _ S h fun ds us μ1 H1 e1 S1 rs len h1 => ?_
  cases q : bR ds with
  | none => rw [q] at h1; exact h1.elim
  | some xs =>
    rw [q] at h1
    refine ⟨Nat.le_of_lt (di (by rw [← rs.length, len]; exact hl)), fun p hp => ?_⟩
    exact k (.v (.list xs)) _ μ1 _ (e1.trans (dz hp)) (S1.new hp) (iN S1.mu (rs.data q) hp) h1
def EW (K : PySem.W.Frag) (t : TA) : TE := fun σ H Q => t σ H fun xs H1 => xs.length ≤ sizeLine ∧ ∀ p, H1 p = none → K.lookup p = none → Q (.ref p) (upd H1 p (.lst xs))
theorem AH {t : TA} (h : PA X es t) : PE X (.List es pos) (EW X.K t) := by
  intro pins s σ H Q I hq
  refine wpAny_List_spliced (thn (h pos pins s σ H _ I hq) fun us s1 ⟨xs, H1, I1, r, z, q⟩ => ⟨by rw [← r.length]; exact z, ?_⟩)
  have hf : H1 s1.heap.objs.size = none := I1.hok.fresh (Nat.le_refl _)
  have hk : X.K.lookup s1.heap.objs.size = none := by
    cases c : X.K.lookup s1.heap.objs.size with
    | none => rfl
    | some o => exact absurd (Heap.lt_size (I1.kIn _ _ c)) (Nat.lt_irrefl _)
  refine ⟨.ref s1.heap.objs.size, upd H1 s1.heap.objs.size (.lst xs), I1.laid (t' := s1.toks) (fun b u e => Heap.get?_push_of_some _ e) (Nat.le_refl _) ?_, rfl, q _ hf hk⟩
  exact ⟨z, us, 0, r, Heap.get?_push_size _ rfl⟩
theorem n9 (h : DA X es t) (hl : es.length ≤ 1000 := by decide) : DE X (.List es pos) (q9 t) := by
  obtain ⟨t1, p1, l1⟩ := h
  refine ⟨_, AH p1, fun σ H ρ μ Qd Q S h k => ?_⟩
  refine l1 σ H ρ μ _ _ S h fun ds us μ1 H1 e1 S1 rs len h1 => ?_
  cases q : bR ds with
  | none => rw [q] at h1; exact h1.elim
  | some xs =>
    rw [q] at h1
    refine ⟨Nat.le_of_lt (di (by rw [← rs.length, len]; exact hl)), fun p hp hk => ?_⟩
    have ex := gB (o := .lst us) (ds := xs) S1.mu hp hk
    exact k (.m p) _ (aw μ1 p xs) _ (e1.trans ex) ⟨S1.mu.mut (rs.data q) hp hk, S1.rho.ext S1.mu ex⟩ ⟨rfl, xs, aD⟩ (h1 p (S1.mu.free hp))
end
section
variable {X : Cx} {pins : List (Addr × Obj)} {σ : St} {H : Hp} {s : Shared} {μ : Mu}
mutual
theorem en (I : Inv X pins σ H s) : ∀ {d : PyData} {x : V} {u : Value}, Rp X.K μ H d x → RelV x u → ∃ as, Reads s.heap u d as
  | _, _, _, .none, r => by cases r; exact ⟨_, .none⟩
  | _, _, _, .bool b, r => by cases r; exact ⟨_, .bool b⟩
  | _, _, _, .int i, r => by obtain ⟨t, rfl⟩ := r; exact ⟨_, .int i t⟩
  | _, _, _, .str y, r => by obtain ⟨t, rfl⟩ := r; exact ⟨_, .str y t⟩
  | _, _, _, .list h _ q, r => by
    cases r
    obtain ⟨its, rv, ⟨o, n, ho, hc, _, hd⟩, _⟩ := I.list (SqL.of h)
    obtain ⟨as, ra⟩ := jH I q rv
    exact ⟨_, .list ho hc hd (by simpa using ra)⟩
  | _, _, _, .tuple h q, r => by
    cases r
    obtain ⟨its, rv, ⟨o, ho, hc, n, hd⟩, _⟩ := I.tuple h
    obtain ⟨as, ra⟩ := jH I q rv
    exact ⟨_, .tuple ho hc hd (by simpa using ra)⟩
theorem jH (I : Inv X pins σ H s) : ∀ {ds : List PyData} {xs : List V} {us : List Value}, RpL X.K μ H ds xs → Vals xs us → ∃ as, ReadsAll s.heap us ds as
  | _, _, _, .nil, .nil => ⟨_, .nil⟩
  | _, _, _, .cons h t, .cons r q => by
    obtain ⟨as, ra⟩ := en I h r
    obtain ⟨bs, rb⟩ := jH I t q
    exact ⟨_, .cons ra rb⟩
end
end
section
variable {X : Cx}
def AJ (K : PySem.W.Frag) (neg : Bool) : R2 := fun x y H Q => ∃ μ a b, Rp K μ H a x ∧ Rp K μ H b y ∧ SeqAt.shaped a = true ∧ SeqAt.shaped b = true ∧ Q (.bl (neg ^^ PyData.eqv a b)) H
theorem cU (hu : X.A.units + 64 < cLine) : OpR X (compareOp .Eq) (AJ X.K false) := by
  intro pins s σ H x y v u Q I rx ry h
  obtain ⟨μ, a, b, ha, hb, sa, sb, q⟩ := h
  obtain ⟨as, ra⟩ := en I ha rx
  obtain ⟨bs, rb⟩ := en I hb ry
  exact eq_dataH ra rb sa sb hu ⟨.bl (PyData.eqv a b), H, I, rfl, by simpa using q⟩
theorem fD (hu : X.A.units + 64 < cLine) : OpR X (compareOp .NotEq) (AJ X.K true) := by
  intro pins s σ H x y v u Q I rx ry h
  obtain ⟨μ, a, b, ha, hb, sa, sb, q⟩ := h
  obtain ⟨as, ra⟩ := en I ha rx
  obtain ⟨bs, rb⟩ := en I hb ry
  exact ne_dataH ra rb sa sb hu ⟨.bl (!PyData.eqv a b), H, I, rfl, by simpa using q⟩
def cS (neg : Bool) : D → D → Mu → DK → Prop := fun x y μ Q => match x, y with
  | .v a, .v b => SeqAt.shaped a = true ∧ SeqAt.shaped b = true ∧ Q (.v (.bool (neg ^^ PyData.eqv a b))) μ
  | _, _ => False
theorem bG {K : PySem.W.Frag} {neg : Bool} : fL K (AJ K neg) (cS neg) := by
  intro x y ux uy H μ Qd Q ok rx ry h k
  unfold cS at h
  split at h
  · rename_i a b
    exact ⟨μ, a, b, rx, ry, h.1, h.2.1, k (.v _) _ μ H .refl ok (Rp.bool _) h.2.2⟩
  · exact h.elim
def DN (K : PySem.W.Frag) (neg : Bool) : R2 := fun x y H Q => ∃ μ a bs, Rp K μ H a x ∧ Rp K μ H (.list bs) y ∧ PyData.canLayAll0 bs = true ∧ a.canLay0 = true ∧ PyData.depth a ≤ 60 ∧ Q (.bl (neg ^^ bs.any fun b => PyData.eqv b a)) H
theorem FY (hu : X.A.units + 64 < cLine) : OpR X (compareOp .In) (DN X.K false) := by
  intro pins s σ H x y v u Q I rx ry h
  obtain ⟨μ, a, b, ha, hb, sb, sa, dp, q⟩ := h
  obtain ⟨as, ra⟩ := en I ha rx
  obtain ⟨bs, rb⟩ := en I hb ry
  refine SeqAt.in_list_reads rb ra sb sa (by omega) ⟨.bl (b.any fun z => PyData.eqv z a), H, I, rfl, by simpa using q⟩
theorem xV (hu : X.A.units + 64 < cLine) : OpR X (compareOp .NotIn) (DN X.K true) := by
  intro pins s σ H x y v u Q I rx ry h
  obtain ⟨μ, a, b, ha, hb, sb, sa, dp, q⟩ := h
  obtain ⟨as, ra⟩ := en I ha rx
  obtain ⟨bs, rb⟩ := en I hb ry
  refine SeqAt.notIn_list_reads rb ra sb sa (by omega) ⟨.bl (!b.any fun z => PyData.eqv z a), H, I, rfl, by simpa using q⟩
def AB (neg : Bool) : D → D → Mu → DK → Prop := fun x y μ Q => match x, y with
  | .v a, .v (.list bs) => PyData.canLayAll0 bs = true ∧ a.canLay0 = true ∧ PyData.depth a ≤ 60 ∧ Q (.v (.bool (neg ^^ bs.any fun b => PyData.eqv b a))) μ
  | _, _ => False
theorem Dv {K : PySem.W.Frag} {neg : Bool} : fL K (DN K neg) (AB neg) := by
  intro x y ux uy H μ Qd Q ok rx ry h k
  unfold AB at h
  split at h
  · rename_i a b
    exact ⟨μ, a, b, rx, ry, h.1, h.2.1, h.2.2.1, k (.v _) _ μ H .refl ok (Rp.bool _) h.2.2.2⟩
  · exact h.elim
end
open PySem PySem.Spec PyProof.Rows
section
variable {X : Cx} {a b e : Expr} {es : List Expr} {ta tb te : DTE} {t : DTA} {p pos : Pos}
def ax : D → D → Mu → DK → Prop := fun x y μ Q => match x, y with
  | .v (.list xs), .v (.int i) => (match atI xs i with | some d => Q (.v d) μ | none => False)
  | .v (.tuple xs), .v (.int i) => (match atI xs i with | some d => Q (.v d) μ | none => False)
  | .m l, .v (.int i) => (match μ l with
    | some xs => (match atI xs i with | some d => Q (.v d) μ | none => False)
    | none => False)
  | .s ns, .v (.int i) => (match atI ns i with | some d => Q (.v (.int d)) μ | none => False)
  | _, _ => False
theorem Ck {K : PySem.W.Frag} : fL K (rIx K) ax := by
  intro x y ux uy H μ Qd Q ok rx ry h k
  unfold ax at h
  split at h
  · rename_i xs i
    cases ry
    cases q : atI xs i with
    | none => rw [q] at h; exact h.elim
    | some d =>
      rw [q] at h
      cases rx with
      | list hs hn r =>
        obtain ⟨u, e1, e2⟩ := vU r q
        exact .inl ⟨_, _, i, u, rfl, rfl, SqL.of hs, e1, k (.v d) u μ H .refl ok e2 h⟩
  · rename_i xs i
    cases ry
    cases q : atI xs i with
    | none => rw [q] at h; exact h.elim
    | some d =>
      rw [q] at h
      cases rx with
      | tuple hs r =>
        obtain ⟨u, e1, e2⟩ := vU r q
        exact .inr (.inl ⟨_, _, i, u, rfl, rfl, hs, e1, k (.v d) u μ H .refl ok e2 h⟩)
  · rename_i l i
    cases ry
    obtain ⟨rfl, ds, hm⟩ := rx
    rw [hm] at h
    simp only at h
    cases q : atI ds i with
    | none => rw [q] at h; exact h.elim
    | some d =>
      rw [q] at h
      obtain ⟨us, hl, r⟩ := ok l ds hm
      obtain ⟨u, e1, e2⟩ := vU r q
      exact .inl ⟨_, _, i, u, rfl, rfl, SqL.of hl, e1, k (.v d) u μ H .refl ok e2 h⟩
  · rename_i ns i
    cases ry
    obtain ⟨a, rfl, hs, hn⟩ := rx
    cases q : atI ns i with
    | none => rw [q] at h; exact h.elim
    | some d =>
      rw [q] at h
      have e1 : atI (ns.map V.int) i = some (.int d) := by
        unfold atI at q ⊢
        rw [List.length_map]
        cases z : ixN ns.length i with
        | none => rw [z] at q; cases q
        | some j =>
          rw [z] at q
          simp only [Option.bind_some, List.getElem?_map] at q ⊢
          rw [q] <;> rfl
      exact .inl ⟨_, _, i, _, rfl, rfl, hs, e1, k (.v (.int d)) _ μ H .refl ok (Rp.int d) h⟩
  · exact h.elim
theorem aq (ha : DE X a ta) (hb : DE X b tb) (hs : rZ b) : DE X (.Subscript a b pos) (dOp ax ta tb) := by
  obtain ⟨t1, p1, l1⟩ := ha
  obtain ⟨t2, p2, l2⟩ := hb
  exact ⟨_, Cj Ap p1 p2 hs, l7 Ck l1 l2⟩
theorem Ao {prog : Program} {w : World} {A : Around} {E : Value → Shared → Prop} {s : Shared} {t b : Addr} {ws : List Value} {Q : Value → Shared → Prop} (ht : IsTup s.heap t #[]) (hb : IsTup s.heap b ws.toArray)
    (h1 : Q (.ref b) s) : wpAny (model prog w) A (binaryOp .Add (.ref t) (.ref b)) Q E s := by
  obtain ⟨⟨cls, dd, data, sl⟩, ho, hc, n, hd⟩ := id ht
  obtain ⟨⟨cls2, dd2, data2, sl2⟩, ho2, hc2, n2, hd2⟩ := id hb
  simp only at hc hd hc2 hd2
  subst hc hd hc2 hd2
  exact concat_meets ⟨_, ho, rfl⟩ ⟨_, ho2, rfl⟩ noFill_tuple_add seq_tuple_add PySem.F.slot_tuple_add PySem.F.entry_tuple_add (PySem.F.args_tuple_add_2 _ _)
    (tuple_addW0 t b #[] ws.toArray n n2 dd dd2 sl sl2 rfl) ⟨ho, ho2, h1⟩
def nu (μ : Mu) : D → Option (List PyData)
  | .v (.list xs) => some xs
  | .m l => μ l
  | _ => none
theorem tS {K : PySem.W.Frag} {μ : Mu} {H : Hp} {x : D} {u : V} {xs : List PyData} (ok : bC K μ H) (r : RpD K μ H x u) (h : nu μ x = some xs) : ∃ a us, u = .ref a ∧ H a = some (.lst us) ∧ RpL K μ H xs us := by
  cases x with
  | v d =>
    cases d <;> simp only [nu] at h <;> try cases h
    cases r with
    | list hs _ q => exact ⟨_, _, rfl, hs, q⟩
  | m l =>
    obtain ⟨rfl, ds, hm⟩ := r
    obtain ⟨us, hl, q⟩ := ok l xs h
    exact ⟨l, us, rfl, hl, q⟩
  | s ns => cases h
  | o a => cases h
  | q P => cases h
def uJ : D → D → Mu → DK → Prop := fun x y μ Q => match nu μ x, nu μ y with
  | some xs, some ys => xs.length + ys.length ≤ 1000 ∧ Q (.v (.list (xs ++ ys))) μ
  | _, _ => False
theorem wu {n : Nat} (h : n ≤ 1000) : n ≤ sizeLine := Nat.le_of_lt (di h)
theorem Ek {K : PySem.W.Frag} : fL K C5 uJ := by
  intro x y ux uy H μ Qd Q ok rx ry h k
  unfold uJ at h
  split at h
  · rename_i xs ys hx hy
    obtain ⟨a, us, rfl, ha, ra⟩ := tS ok rx hx
    obtain ⟨b, ws, rfl, hb, rb⟩ := tS ok ry hy
    refine ⟨a, b, us, ws, rfl, rfl, ha, hb, wu (by rw [← ra.length, ← rb.length]; exact h.1), fun p hp => ?_⟩
    exact k (.v _) _ μ _ (dz hp) (ok.new hp) (iN ok (ra.append rb) hp) h.2
  · exact h.elim
def vX (K : PySem.W.Frag) : R2 := fun x y H Q => ∃ a b xs ys, x = .ref a ∧ y = .ref b ∧ SqT K H a xs ∧ SqT K H b ys ∧ xs.length + ys.length ≤ sizeLine ∧
  (xs = [] → Q (.ref b) H) ∧ (ys = [] → Q (.ref a) H) ∧ (∀ p, H p = none → Q (.ref p) (upd H p (.tup (xs ++ ys))))
theorem Ah : OpR X (binaryOp .Add) (vX X.K) := by
  intro pins s σ H x y v u Q I rx ry h
  obtain ⟨a, b, xs, ys, rfl, rfl, ha, hb, hz, q0, q1, q2⟩ := h
  by_cases hx : xs = []
  · subst hx
    cases rx
    cases ry
    obtain ⟨its, r1, p1, _⟩ := I.tuple ha
    obtain ⟨its2, r2, p2, _⟩ := I.tuple hb
    cases r1
    exact Ao p1 p2 ⟨.ref b, H, I, rfl, q0 rfl⟩
  · exact AF pins s σ H _ _ v u Q I rx ry ⟨a, b, xs, ys, rfl, rfl, ha, hb, hx, hz, q1, fun _ => q2⟩
def wq : D → D → Mu → DK → Prop := fun x y μ Q => match x, y with
  | .v (.tuple xs), .v (.tuple ys) => xs.length + ys.length ≤ 1000 ∧ Q (.v (.tuple (xs ++ ys))) μ
  | _, _ => False
theorem Bn {K : PySem.W.Frag} : fL K (vX K) wq := by
  intro x y ux uy H μ Qd Q ok rx ry h k
  unfold wq at h
  split at h
  · rename_i xs ys
    cases id rx with
    | @tuple a us _ ha ra =>
      cases id ry with
      | @tuple b ws _ hb rb =>
        refine ⟨a, b, us, ws, rfl, rfl, ha, hb, wu (by rw [← ra.length, ← rb.length]; exact h.1), fun z => ?_, fun z => ?_, fun p hp => ?_⟩
        · subst z
          cases ra
          exact k (.v _) _ μ H .refl ok ry (by simpa using h.2)
        · subst z
          cases rb
          exact k (.v _) _ μ H .refl ok rx (by simpa using h.2)
        · exact k (.v _) _ μ _ (dz hp) (ok.new hp) (kL ok (ra.append rb) hp) h.2
  · exact h.elim
end
end L2.DL
set_option Elab.async false
set_option linter.all false
set_option maxRecDepth 100000
set_option maxHeartbeats 4000000
namespace HT
open PySem PyProof.Rows
section
variable {prog : Program} {w : World} {A : Around} {E : Value → Shared → Prop} {s : Shared}
theorem k8 {t sl : Addr} {items : Array Value} {vl vu : Value} {lo hi : Option Int} {Q : Value → Shared → Prop} (ht : IsTup s.heap t items) (hs : s.heap.IsSliceOf sl vl vu .none) (pl : IsPart vl lo) (pu : IsPart vu hi)
    (hw : sIx items.size 0 lo = 0 ∧ sIx items.size items.size hi = items.size) (h : Q (.ref t) s) : wpAny (model prog w) A (getItem (.ref t) (.ref sl)) Q E s := by
  obtain ⟨os, hos, hcs, hds⟩ := id hs
  have hTs : s.TypeIs (.ref sl) "slice" := ⟨os, hos, hcs⟩
  unfold getItem
  try with_reducible refine wpAny_holding ?_
  first | refine wpAny_bind (wpAny_pure ?_) | skip
  refine wpAny_bind (wpAny_sequenceKey ht.typeIs (by decide) ?_)
  refine wpAny_bind (wpAny_callSpecial?_slot (name := Str.ofString "__getitem__") ht.typeIs PyProof.Rows.slot_tuple_getitem
    (wpAny_call_entry PyProof.Rows.slot_tuple_getitem ht.typeIs entry_tuple_getitem ?_ (args_tuple_getitem _ _)))
  show wpAny _ _ (Builtin.Tuple.tupleItemsOf (.ref t) >>= _) _ _ s
  refine wpAny_bind (tupleItemsOf_ ht ?_)
  refine wpAny_bind (wpAny_typeOf hTs ?_)
  rw [if_pos (by decide)]
  refine wpAny_bind (ik hs pl pu ?_)
  have hno : ((((sIx items.size 0 lo : Nat) : Int) == 0 && (1 : Int) == 1 && (sIx items.size items.size hi - sIx items.size 0 lo) == items.size) = true) := by
    rw [hw.1, hw.2]
    simp
  show wpAny _ _ (if (((sIx items.size 0 lo : Nat) : Int) == 0 && (1 : Int) == 1 && (sIx items.size items.size hi - sIx items.size 0 lo) == items.size) = true then _ else _) _ _ s
  rw [if_pos hno]
  refine wpAny_bind ?_
  unfold Builtin.Tuple.tupleIsExact
  refine wpAny_bind (wpAny_typeOf ht.typeIs (wpAny_pure ?_))
  rw [if_pos (by decide)]
  refine wpAny_bind (wpAny_rule ?_)
  exact wpAny_pure ⟨_, rfl, wpAny_pure h⟩
end
end HT
namespace L2.DL
open PySem PySem.Spec PyProof.Rows
section
variable {X : Cx} {a b e : Expr} {lo hi : Option Expr} {ta tb te : DTE} {pos p2 : Pos}
def kK {α : Type} (xs : List α) (lo hi : Option Int) : List α := (xs.drop (HT.sIx xs.length 0 lo)).take (HT.sIx xs.length xs.length hi - HT.sIx xs.length 0 lo)
theorem RpL.cut {K : PySem.W.Frag} {μ : Mu} {H : Hp} {ds : List PyData} {us : List V} {lo hi : Option Int} (r : RpL K μ H ds us) : RpL K μ H (kK ds lo hi) (rM us lo hi) := by
  unfold kK rM
  rw [r.length]
  exact (r.drop _).take _
theorem AI {α : Type} {xs : List α} {lo hi : Option Int} (h : HT.sIx xs.length 0 lo = 0 ∧ HT.sIx xs.length xs.length hi = xs.length) : kK xs lo hi = xs := by
  unfold kK
  rw [h.1, h.2]
  simp
def E6 (K : PySem.W.Frag) : V → Option Int → Option Int → Hp → VK → Prop := fun x lo hi H Q => ∃ a xs, x = .ref a ∧ SqT K H a xs ∧
  (HT.sIx xs.length 0 lo = 0 ∧ HT.sIx xs.length xs.length hi = xs.length → Q (.ref a) H) ∧ ∀ p, H p = none → Q (.ref p) (upd H p (.tup (rM xs lo hi)))
theorem Bm : SlR X (E6 X.K) := by
  intro pins s σ H x v vl vu lo hi sl Q I rx hs pl pu h
  obtain ⟨a, xs, rfl, hx, q1, q⟩ := h
  by_cases hw : HT.sIx xs.length 0 lo = 0 ∧ HT.sIx xs.length xs.length hi = xs.length
  · cases rx
    obtain ⟨its, r, ht, hz⟩ := I.tuple hx
    have hlen : its.toArray.size = xs.length := by rw [List.size_toArray]; exact r.length.symm
    refine ⟨"tuple", _, PyProof.Rows.slot_tuple_getitem.lookup, ht.typeIs, ?_⟩
    exact HT.k8 ht hs pl pu (by rw [hlen]; exact hw) ⟨.ref a, H, I, rfl, q1 hw⟩
  · exact Eg pins s σ H _ v vl vu lo hi sl Q I rx hs pl pu ⟨a, xs, rfl, hx, hw, q⟩
abbrev DTO := Rho → Mu → (Option Int → Mu → Prop) → Prop
def EM (K : PySem.W.Frag) (t : TO) (td : DTO) : Prop := ∀ (σ : St) (H : Hp) (ρ : Rho) (μ : Mu) (Qd : Option Int → Mu → Prop) (Q : Option Int → Hp → Prop), St0 K H ρ μ σ → td ρ μ Qd →
  (∀ o μ' H', Ext K μ H μ' H' → St0 K H' ρ μ' σ → Qd o μ' → Q o H') → t σ H Q
def DO (X : Cx) (e : Option Expr) (td : DTO) : Prop := ∃ t, PO X e t ∧ EM X.K t td
def rp : DTO := fun _ μ Q => Q none μ
def Aa (t : DTE) : DTO := fun ρ μ Q => t ρ μ fun x μ1 => match x with
  | .v (.int i) => Q (some i) μ1
  | _ => False
theorem BG : DO X none rp := ⟨_, AE, fun σ H ρ μ Qd Q S h k => k none μ H .refl S h⟩
theorem BC (h : DE X e te) : DO X (some e) (Aa te) := by
  obtain ⟨t1, p1, l1⟩ := h
  refine ⟨_, AW p1, fun σ H ρ μ Qd Q S h k => ?_⟩
  refine l1 σ H ρ μ _ _ S h fun x ux μ1 H1 e1 S1 rx h1 => ?_
  split at h1
  · cases rx
    exact ⟨_, rfl, k _ μ1 H1 e1 S1 h1⟩
  · exact h1.elim
def x9 (x : D) (lo hi : Option Int) (μ : Mu) (Q : DK) : Prop := match x with
  | .v (.tuple xs) => Q (.v (.tuple (kK xs lo hi))) μ
  | .v (.list xs) => Q (.v (.list (kK xs lo hi))) μ
  | .m l => (match μ l with | some xs => Q (.v (.list (kK xs lo hi))) μ | none => False)
  | _ => False
def dSl (te : DTE) (tl th : DTO) : DTE := fun ρ μ Q => te ρ μ fun x μ1 => tl ρ μ1 fun l μ2 => th ρ μ2 fun u μ3 => x9 x l u μ3 Q
theorem zX {tl th : DTO} (he : DE X e te) (hl : DO X lo tl) (hu : DO X hi th) : DE X (.Subscript e (.Slice lo hi none p2) pos) (dSl te tl th) := by
  obtain ⟨t1, p1, l1⟩ := he
  obtain ⟨t2, p2, l2⟩ := hl
  obtain ⟨t3, p3, l3⟩ := hu
  refine ⟨_, yH (BA.or Bm) p1 p2 p3, fun σ H ρ μ Qd Q S h k => ?_⟩
  refine l1 σ H ρ μ _ _ S h fun x ux μ1 H1 e1 S1 rx h1 => ?_
  refine l2 σ H1 ρ μ1 _ _ S1 h1 fun l μ2 H2 e2 S2 h2 => ?_
  refine l3 σ H2 ρ μ2 _ _ S2 h2 fun u μ3 H3 e3 S3 h3 => ?_
  have rx3 := (rx.ext S1.mu e2).ext S2.mu e3
  have ee := e1.trans (e2.trans e3)
  unfold x9 at h3
  split at h3
  · rename_i xs
    cases id rx3 with
    | @tuple a us _ ha ra =>
      refine .inr ⟨a, us, rfl, ha, fun hw => ?_, fun p hp => ?_⟩
      · refine k (.v _) _ μ3 H3 ee S3 (show Rp _ _ _ (.tuple (kK xs l u)) _ from ?_) h3
        rw [AI (by rw [ra.length]; exact hw)]
        exact rx3
      · exact k (.v _) _ μ3 _ (ee.trans (dz hp)) (S3.new hp) (kL S3.mu ra.cut hp) h3
  · rename_i xs
    cases id rx3 with
    | @list a us _ ha hn ra => exact .inl ⟨a, us, rfl, SqL.of ha, fun p hp => k (.v _) _ μ3 _ (ee.trans (dz hp)) (S3.new hp) (iN S3.mu ra.cut hp) h3⟩
  · rename_i a
    obtain ⟨rfl, ds, hm⟩ := rx3
    rw [hm] at h3
    obtain ⟨us, ha, ra⟩ := S3.mu a ds hm
    exact .inl ⟨a, us, rfl, SqL.of ha, fun p hp => k (.v _) _ μ3 _ (ee.trans (dz hp)) (S3.new hp) (iN S3.mu ra.cut hp) h3⟩
  · exact h3.elim
theorem Vals.rev {xs : List V} {us : List Value} (h : Vals xs us) : Vals xs.reverse us.reverse := Vals.reverse h
def FR (te : DTE) : DTE := fun ρ μ Q => te ρ μ fun x μ1 => match x with
  | .v (.tuple xs) => Q (.v (.tuple xs.reverse)) μ1
  | .v (.list xs) => Q (.v (.list xs.reverse)) μ1
  | .m l => (match μ1 l with | some xs => Q (.v (.list xs.reverse)) μ1 | none => False)
  | _ => False
end
open PySem PySem.Spec PyProof.Rows
section
variable {X : Cx} {a b e : Expr} {es : List Expr} {ta tb te : DTE} {t : DTA} {p pos : Pos} {x : Str} {bid T : String}
def lL (K : PySem.W.Frag) (r : List V → Hp → VK → Prop) (rd : List D → Mu → DK → Prop) : Prop := ∀ (xs : List D) (us : List V) (H : Hp) (μ : Mu) (Qd : DK) (Q : VK), bC K μ H → gv K μ H xs us → rd xs μ Qd →
  (∀ d u μ' H', Ext K μ H μ' H' → bC K μ' H' → RpD K μ' H' d u → Qd d μ' → Q u H') → r us H Q
def dCB (rd : List D → Mu → DK → Prop) (t : DTA) : DTE := fun ρ μ Q => t ρ μ fun ds μ1 => rd ds μ1 Q
theorem wt {K : PySem.W.Frag} {n : Nat} {r : List V → Hp → VK → Prop} {rd : List D → Mu → DK → Prop} {t1 : TA} (lc : lL K r rd) (l1 : Ce K n t1 t) : lr K (tCB r t1) (dCB rd t) := by
  intro σ H ρ μ Qd Q S h k
  refine l1 σ H ρ μ _ _ S h fun xs us μ1 H1 e1 S1 rs len h1 => ?_
  exact lc xs us H1 μ1 _ _ S1.mu rs h1 fun d u μ' H' e2 ok r q => k d u μ' H' (e1.trans e2) ⟨ok, S1.rho.ext S1.mu e2⟩ r q
theorem g9 {r : List V → Hp → VK → Prop} {rd : List D → Mu → DK → Prop} (hc : gn X (.builtin bid) r) (lc : lL X.K r rd) (hg : Gl X x) (hm : X.mg x = none) (hv : bootBuiltins x = some (.builtin bid)) (ha : DA X (e :: es) t) (hn : x ≠ "__name__" := by decide) (hdb : (x == ("__debug__" : Str)) = false := by decide)
    (he : starEach (e :: es) X.env = (false, eval e X.env) :: starEach es X.env := by rfl) (hpl : (backTo pos (starEach es X.env)).any (·.1) = false := by rfl) : DE X (.Call (.Name x p) (e :: es) [] pos) (dCB rd t) := by
  obtain ⟨t1, p1, l1⟩ := ha
  exact ⟨_, pL hc hg hm hv p1 hn hdb he hpl, wt lc l1⟩
theorem x6 {r : List V → Hp → VK → Prop} {rd : List D → Mu → DK → Prop} (hc : gn X (.type T) r) (lc : lL X.K r rd) (hg : Gl X x) (hm : X.mg x = none) (hv : bootBuiltins x = some (.type T)) (ha : DA X (e :: es) t) (hn : x ≠ "__name__" := by decide) (hdb : (x == ("__debug__" : Str)) = false := by decide)
    (he : starEach (e :: es) X.env = (false, eval e X.env) :: starEach es X.env := by rfl) (hpl : (backTo pos (starEach es X.env)).any (·.1) = false := by rfl) : DE X (.Call (.Name x p) (e :: es) [] pos) (dCB rd t) := by
  obtain ⟨t1, p1, l1⟩ := ha
  exact ⟨_, xw hc hg hm hv p1 hn hdb he hpl, wt lc l1⟩
def gr : List D → Mu → DK → Prop := fun xs μ Q => match xs with
  | [.v (.list ys)] => Q (.v (.int (ys.length : Nat))) μ
  | [.v (.tuple ys)] => Q (.v (.int (ys.length : Nat))) μ
  | [.m l] => (match μ l with | some ys => Q (.v (.int (ys.length : Nat))) μ | none => False)
  | [.s ns] => Q (.v (.int (ns.length : Nat))) μ
  | _ => False
theorem zz {K : PySem.W.Frag} : lL K (fun xs H Q => ∃ p ys, xs = [.ref p] ∧ (SqL K H p ys ∨ SqT K H p ys) ∧ Q (.int ys.length) H) gr := by
  intro xs us H μ Qd Q ok rs h k
  unfold gr at h
  split at h
  · cases rs with
    | cons r1 r2 =>
      cases r2
      cases r1 with
      | list hs hn r => exact ⟨_, _, rfl, .inl (SqL.of hs), k (.v _) _ μ H .refl ok (by rw [← r.length]; exact Rp.int _) h⟩
  · cases rs with
    | cons r1 r2 =>
      cases r2
      cases r1 with
      | tuple hs r => exact ⟨_, _, rfl, .inr hs, k (.v _) _ μ H .refl ok (by rw [← r.length]; exact Rp.int _) h⟩
  · cases rs with
    | cons r1 r2 =>
      cases r2
      obtain ⟨rfl, ds, hm⟩ := r1
      rw [hm] at h
      obtain ⟨us, hl, r⟩ := ok _ ds hm
      exact ⟨_, _, rfl, .inl (SqL.of hl), k (.v _) _ μ H .refl ok (by rw [← r.length]; exact Rp.int _) h⟩
  · cases rs with
    | cons r1 r2 =>
      cases r2
      obtain ⟨a, rfl, hs, hn⟩ := r1
      exact ⟨_, _, rfl, .inl hs, k (.v _) _ μ H .refl ok (by rw [List.length_map]; exact Rp.int _) h⟩
  · exact h.elim
theorem mU (hg : Gl X "len") (hm : X.mg "len" = none) (ha : DA X (e :: es) t)
    (he : starEach (e :: es) X.env = (false, eval e X.env) :: starEach es X.env := by rfl) (hpl : (backTo pos (starEach es X.env)).any (·.1) = false := by rfl) : DE X (.Call (.Name "len" p) (e :: es) [] pos) (dCB gr t) :=
  g9 l5 zz hg hm PySem.boot_len ha (by decide) (by decide) he hpl
def lu : List D → Mu → DK → Prop := fun xs μ Q => match xs with
  | [.v (.int i)] => Q (.v (.int (i.natAbs : Nat))) μ
  | _ => False
theorem Ee {K : PySem.W.Frag} : lL K (fun xs H Q => ∃ i, xs = [.int i] ∧ Q (.int (if i < 0 then -i else i)) H) lu := by
  intro xs us H μ Qd Q ok rs h k
  unfold lu at h
  split at h
  · rename_i i
    cases rs with
    | cons r1 r2 =>
      cases r2
      cases r1
      refine ⟨i, rfl, k (.v (.int (i.natAbs : Nat))) _ μ H .refl ok ?_ h⟩
      have : (if i < 0 then -i else i) = ((i.natAbs : Nat) : Int) := by split <;> omega
      rw [this]
      exact Rp.int _
  · exact h.elim
theorem oI (hg : Gl X "abs") (hm : X.mg "abs" = none) (ha : DA X (e :: es) t)
    (he : starEach (e :: es) X.env = (false, eval e X.env) :: starEach es X.env := by rfl) (hpl : (backTo pos (starEach es X.env)).any (·.1) = false := by rfl) : DE X (.Call (.Name "abs" p) (e :: es) [] pos) (dCB lu t) :=
  g9 zr Ee hg hm PyProof.Rows.Boot.«abs» ha (by decide) (by decide) he hpl
def pD (g : Int → Int → Int) : List D → Mu → DK → Prop := fun xs μ Q => match xs with
  | [.v (.int i), .v (.int j)] => Q (.v (.int (g i j))) μ
  | _ => False
theorem Cw {K : PySem.W.Frag} {g g' : Int → Int → Int} (hg : ∀ i j, g i j = g' i j) : lL K (fun xs H Q => ∃ i j, xs = [.int i, .int j] ∧ Q (.int (g i j)) H) (pD g') := by
  intro xs us H μ Qd Q ok rs h k
  unfold pD at h
  split at h
  · rename_i i j
    cases rs with
    | cons r1 r2 =>
      cases r2 with
      | cons r2 r3 =>
        cases r3
        cases r1
        cases r2
        exact ⟨i, j, rfl, k (.v _) _ μ H .refl ok (by rw [hg]; exact Rp.int _) h⟩
  · exact h.elim
theorem vT (hc : X.calm = true) (hg : Gl X "max") (hm : X.mg "max" = none) (ha : DA X (e :: es) t)
    (he : starEach (e :: es) X.env = (false, eval e X.env) :: starEach es X.env := by rfl) (hpl : (backTo pos (starEach es X.env)).any (·.1) = false := by rfl) : DE X (.Call (.Name "max" p) (e :: es) [] pos) (dCB (pD max) t) :=
  g9 (xF hc) (Cw (fun i j => by show (if j > i then j else i) = max i j; simp only [Int.max_def]; split <;> split <;> omega)) hg hm PyProof.Rows.Boot.«max» ha (by decide) (by decide) he hpl
theorem vA (hc : X.calm = true) (hg : Gl X "min") (hm : X.mg "min" = none) (ha : DA X (e :: es) t)
    (he : starEach (e :: es) X.env = (false, eval e X.env) :: starEach es X.env := by rfl) (hpl : (backTo pos (starEach es X.env)).any (·.1) = false := by rfl) : DE X (.Call (.Name "min" p) (e :: es) [] pos) (dCB (pD min) t) :=
  g9 (xE hc) (Cw (fun i j => by show (if j < i then j else i) = min i j; simp only [Int.min_def]; split <;> split <;> omega)) hg hm PyProof.Rows.Boot.«min» ha (by decide) (by decide) he hpl
def km : List D → Mu → DK → Prop := fun xs μ Q => match xs with
  | [.v (.int i)] => Q (.v (.int i)) μ
  | [.v (.bool k)] => Q (.v (.int (if k then 1 else 0))) μ
  | _ => False
theorem CN {K : PySem.W.Frag} : lL K (fun xs H Q => (∃ i, xs = [.int i] ∧ Q (.int i) H) ∨ ∃ k, xs = [.bl k] ∧ Q (.int (if k then 1 else 0)) H) km := by
  intro xs us H μ Qd Q ok rs h k
  unfold km at h
  split at h
  · rename_i i
    cases rs with
    | cons r1 r2 => cases r2; cases r1; exact .inl ⟨i, rfl, k (.v _) _ μ H .refl ok (Rp.int _) h⟩
  · rename_i b
    cases rs with
    | cons r1 r2 => cases r2; cases r1; exact .inr ⟨b, rfl, k (.v _) _ μ H .refl ok (Rp.int _) h⟩
  · exact h.elim
theorem jZ (hg : Gl X "int") (hm : X.mg "int" = none) (ha : DA X (e :: es) t)
    (he : starEach (e :: es) X.env = (false, eval e X.env) :: starEach es X.env := by rfl) (hpl : (backTo pos (starEach es X.env)).any (·.1) = false := by rfl) : DE X (.Call (.Name "int" p) (e :: es) [] pos) (dCB km t) :=
  x6 xQ CN hg hm PyProof.Rows.Boot.«int» ha (by decide) (by decide) he hpl
def ym : List D → Mu → DK → Prop := fun xs μ Q => match xs with
  | [.v (.list ys)] => Q (.v (.list ys)) μ
  | [.v (.tuple ys)] => Q (.v (.list ys)) μ
  | _ => False
theorem uC : ∀ {bs : List Bool} {us : List Value}, Vals (bs.map V.bl) us → us = bs.map Value.bool
  | [], _, .nil => rfl
  | b :: r, _, .cons h t => by cases h; rw [uC t]; rfl
theorem xJ (hc : X.calm = true) : gn X (.builtin "all") (fun xs H Q => ∃ (p : Addr) (bs : List Bool), xs = [.ref p] ∧ H p = some (.lst (bs.map V.bl)) ∧ Q (.bl (bs.all id)) H) := by
  intro pins s σ H xs us Q I r h
  obtain ⟨l, bs, rfl, hl, q⟩ := h
  obtain ⟨u, rfl, rx⟩ := vals1 r
  cases rx
  obtain ⟨its, rv, pl, _⟩ := I.list (SqL.of hl)
  have eb := uC rv
  subst eb
  have hL := pl.isList
  have hlt := pl.lt
  refine call_all_walk (wpAny_pyIter_list hL ?_)
  refine ⟨s.heap.objs.size, [s.heap.objs.size, l], [s.heap.objs.size], (bs.map Value.bool).toArray.size, _, _, fun i => (bs[i]?).getD true, rfl, Walks.list (A := X.A.in1) (by exact I.ok.hd hc) _ l (Nat.ne_of_lt hlt) (bs.map Value.bool).toArray,
    ⟨⟨_, Heap.get?_push_size _ rfl, rfl, rfl⟩, hL.push _⟩, fun i v s' Q' E' hP hQ => ?_, fun h' tk hk => ?_⟩
  · have hP' : (bs.map Value.bool)[i]? = some v := by simpa using hP
    rw [List.getElem?_map] at hP'
    cases z : bs[i]? with
    | none => rw [z] at hP'; cases hP'
    | some b =>
      rw [z] at hP'
      cases hP'
      simp only [z, Option.getD_some] at hQ
      exact wpAny_truthy_bool hQ
  · have e : ((List.range (bs.map Value.bool).toArray.size).all fun i => (bs[i]?).getD true) = bs.all id := by
      rw [List.size_toArray, List.length_map]; exact PyProof.Rows.LSm.range_all bs
    rw [e]
    exact ⟨.bl (bs.all id), H, I.kept (PyProof.Rows.LSm.kept_iter hk), rfl, q⟩
def cu : List PyData → Option (List Bool)
  | [] => some []
  | .bool b :: r => (cu r).map (b :: ·)
  | _ :: _ => none
theorem oD {K : PySem.W.Frag} {μ : Mu} {H : Hp} : ∀ {xs : List PyData} {us : List V} {bs : List Bool}, RpL K μ H xs us → cu xs = some bs → us = bs.map V.bl
  | _, _, _, .nil, e => by cases e; rfl
  | .bool b :: r, _, bs, .cons h t, e => by
    simp only [cu] at e
    cases q : cu r with
    | none => rw [q] at e; cases e
    | some cs => rw [q] at e; cases e; cases h; rw [oD t q]; rfl
  | .none :: r, _, bs, .cons h t, e => by simp [cu] at e
  | .int _ :: r, _, bs, .cons h t, e => by simp [cu] at e
  | .str _ :: r, _, bs, .cons h t, e => by simp [cu] at e
  | .list _ :: r, _, bs, .cons h t, e => by simp [cu] at e
  | .tuple _ :: r, _, bs, .cons h t, e => by simp [cu] at e
  | .dict _ :: r, _, bs, .cons h t, e => by simp [cu] at e
def nr : List D → Mu → DK → Prop := fun xs μ Q => match xs with
  | [.v (.list ys)] => (match cu ys with | some bs => Q (.v (.bool (bs.all id))) μ | none => False)
  | _ => False
theorem DM {K : PySem.W.Frag} : lL K (fun xs H Q => ∃ (p : Addr) (bs : List Bool), xs = [.ref p] ∧ H p = some (.lst (bs.map V.bl)) ∧ Q (.bl (bs.all id)) H) nr := by
  intro xs us H μ Qd Q ok rs h k
  unfold nr at h
  split at h
  · rename_i ys
    cases q : cu ys with
    | none => rw [q] at h; exact h.elim
    | some bs =>
      rw [q] at h
      cases rs with
      | cons r1 r2 =>
        cases r2
        cases r1 with
        | list hs hn r => exact ⟨_, bs, rfl, by rw [hs, oD r q], k (.v _) _ μ H .refl ok (Rp.bool _) h⟩
  · exact h.elim
theorem sk (hc : X.calm = true) (hg : Gl X "all") (hm : X.mg "all" = none) (ha : DA X (e :: es) t)
    (he : starEach (e :: es) X.env = (false, eval e X.env) :: starEach es X.env := by rfl) (hpl : (backTo pos (starEach es X.env)).any (·.1) = false := by rfl) : DE X (.Call (.Name "all" p) (e :: es) [] pos) (dCB nr t) :=
  g9 (xJ hc) DM hg hm PyProof.Rows.Boot.«all» ha (by decide) (by decide) he hpl
def tyD : PyData → String
  | .none => "NoneType"
  | .bool _ => "bool"
  | .int _ => "int"
  | .str _ => "str"
  | .list _ => "list"
  | .tuple _ => "tuple"
  | .dict _ => "dict"
def isT (T : String) (d : PyData) : Bool := tyD d == T || (T == "int" && tyD d == "bool")
theorem yg {pins : List (Addr × Obj)} {σ : St} {H : Hp} {s : Shared} {μ : Mu} {d : PyData} {u : V} {v : Value} {k : Bool} {A : Around} {E : Value → Shared → Prop} {Q : Value → Shared → Prop} (I : Inv X pins σ H s) (r : Rp X.K μ H d u) (rx : RelV u v)
    (ek : PySem.W.kitOne X.K (.type (tyD d)) (.type T) = some k) (h : ∀ tk, Q (.bool k) { s with toks := tk }) : wpAny (model X.prog X.w) A (call (.builtin "isinstance") [v, .type T]) Q E s := by
  cases r with
  | none => cases rx; exact PySem.W.kia_one PySem.W.kitx_none I.kIn True.intro ek (fun z => nomatch z) h
  | bool b => cases rx; exact PySem.W.kia_one PySem.W.kitx_bool I.kIn True.intro ek (fun z => nomatch z) h
  | int i => obtain ⟨t, rfl⟩ := rx; exact PySem.W.kia_one PySem.W.kitx_int I.kIn True.intro ek (fun z => nomatch z) h
  | str y => obtain ⟨t, rfl⟩ := rx; exact PySem.W.kia_one PySem.W.kitx_str I.kIn True.intro ek (fun z => nomatch z) h
  | list hs hn q =>
    cases rx
    obtain ⟨its, rv, ⟨o, n, h1, h2, _⟩, _⟩ := I.list (SqL.of hs)
    exact PySem.W.kia_one PySem.W.kitx_list I.kIn ⟨o, h1, h2⟩ ek (fun z => nomatch z) h
  | tuple hs q =>
    cases rx
    obtain ⟨its, rv, ⟨o, h1, h2, _⟩, _⟩ := I.tuple hs
    exact PySem.W.kia_one PySem.W.kitx_tuple I.kIn ⟨o, h1, h2⟩ ek (fun z => nomatch z) h
theorem xn (K : PySem.W.Frag) (d : PyData) : PySem.W.kitOne K (.type (tyD d)) (.type "int") = some (isT "int" d) := by cases d <;> rfl
theorem uS (K : PySem.W.Frag) (d : PyData) : PySem.W.kitOne K (.type (tyD d)) (.type "bool") = some (isT "bool" d) := by cases d <;> rfl
theorem kit_tuple (K : PySem.W.Frag) (d : PyData) : PySem.W.kitOne K (.type (tyD d)) (.type "tuple") = some (isT "tuple" d) := by cases d <;> rfl
theorem yo (K : PySem.W.Frag) (d : PyData) : PySem.W.kitOne K (.type (tyD d)) (.type "list") = some (isT "list" d) := by cases d <;> rfl
theorem nt (kt : ∀ d, PySem.W.kitOne X.K (.type (tyD d)) (.type T) = some (isT T d)) : gn X (.builtin "isinstance") (fun xs H Q => ∃ μ d u, xs = [u, .ty T] ∧ Rp X.K μ H d u ∧ Q (.bl (isT T d)) H) := by
  intro pins s σ H xs us Q I r h
  obtain ⟨μ, d, u, rfl, rd, q⟩ := h
  obtain ⟨v, w', rfl, r1, r2⟩ := vals2 r
  cases r2
  exact yg I rd r1 (kt d) fun tk => ⟨.bl (isT T d), H, I.tok _, rfl, q⟩
def uI (T : String) (te : DTE) : DTE := fun ρ μ Q => te ρ μ fun x μ1 => match x with
  | .v d => Q (.v (.bool (isT T d))) μ1
  | _ => False
theorem jD {y : Str} {py : Pos} (kt : ∀ d, PySem.W.kitOne X.K (.type (tyD d)) (.type T) = some (isT T d)) (hg : Gl X "isinstance") (hm : X.mg "isinstance" = none) (hgy : Gl X y) (hmy : X.mg y = none) (hvy : bootBuiltins y = some (.type T)) (ha : DE X e te)
    (hny : y ≠ "__name__" := by decide) (hdy : (y == ("__debug__" : Str)) = false := by decide)
    (he : starEach [e, .Name y py] X.env = (false, eval e X.env) :: starEach [.Name y py] X.env := by rfl) (he2 : starEach [.Name y py] X.env = [(false, eval (.Name y py) X.env)] := by rfl) (hpl : (backTo pos (starEach [.Name y py] X.env)).any (·.1) = false := by rfl) : DE X (.Call (.Name "isinstance" p) [e, .Name y py] [] pos) (uI T te) := by
  obtain ⟨t1, p1, l1⟩ := ha
  refine ⟨_, pL (nt kt) hg hm PyProof.Rows.Boot.«isinstance» (j9 p1 (j9 (wJ (v := .ty T) hgy hmy hvy rfl hny hdy) rz he2) he) (by decide) (by decide) he hpl, fun σ H ρ μ Qd Q S h k => ?_⟩
  refine l1 σ H ρ μ _ _ S h fun x ux μ1 H1 e1 S1 rx h1 => ?_
  split at h1
  · exact ⟨μ1, _, ux, rfl, rx, k (.v _) _ μ1 H1 e1 S1 (Rp.bool _) h1⟩
  · exact h1.elim
def FE : D → D → Mu → DK → Prop := fun x y μ Q => match x, y with
  | .v (.bool i), .v (.bool j) => Q (.v (.bool (i == j))) μ
  | .v .none, .v .none => Q (.v (.bool true)) μ
  | _, _ => False
end
open PySem PySem.Spec PyProof.Rows
section
variable {X : Cx} {a b e : Expr} {es : List Expr} {ta tb te : DTE} {t : DTA} {p pos : Pos} {st : Stmt} {rest sts : List Stmt} {td ud : DTS} {tc : DTT}
def bB : DTS := fun Dd ρ μ => Dd.nx ρ μ
def aE (t u : DTS) : DTS := fun Dd ρ μ => t { Dd with nx := u Dd } ρ μ
def bg (te : DTE) : DTS := fun Dd ρ μ => te ρ μ Dd.rt
def lV (te : DTE) : DTS := fun Dd ρ μ => te ρ μ fun _ μ1 => Dd.nx ρ μ1
def cR (c : DTT) (t u : DTS) : DTS := fun Dd ρ μ => c ρ μ fun b μ1 => if b = true then t Dd ρ μ1 else u Dd ρ μ1
theorem aR : DSs X [] bB := ⟨_, AR, fun σ H ρ μ Dd De S h k1 k2 k3 k4 => k1 σ ρ μ H .refl S h⟩
theorem aj (h : DS X st td) : DSs X [st] td := let ⟨t, p, l⟩ := h; ⟨t, A9 p, l⟩
theorem lift_seq {K : PySem.W.Frag} {t u : TS} (l1 : qR K t td) (l2 : qR K u ud) : qR K (Fv t u) (aE td ud) := by
  intro σ H ρ μ Dd De S h k1 k2 k3 k4
  refine l1 σ H ρ μ _ _ S h (fun σ' ρ' μ' H' e' S' h' => ?_) k2 k3 k4
  exact l2 σ' H' ρ' μ' Dd De S' h' (fun a b c d e2 => k1 a b c d (e'.trans e2)) (fun a b c d e2 => k2 a b c d (e'.trans e2)) (fun a b c d e2 => k3 a b c d (e'.trans e2)) (fun a b c d e2 => k4 a b c d (e'.trans e2))
theorem ah (h1 : DS X st td) (h2 : DSs X rest ud) : DSs X (st :: rest) (aE td ud) := by
  obtain ⟨t1, p1, l1⟩ := h1
  obtain ⟨t2, p2, l2⟩ := h2
  exact ⟨_, ze p1 p2, lift_seq l1 l2⟩
theorem az (he : DE X e te) : DS X (.Return (some e) pos) (bg te) := by
  obtain ⟨t1, p1, l1⟩ := he
  exact ⟨_, Dl p1, fun σ H ρ μ Dd De S h k1 k2 k3 k4 => l1 σ H ρ μ _ _ S h fun d u μ' H' e' S' r q => k2 d u μ' H' e' S'.mu r q⟩
theorem iB (he : DE X e te) (hs : swapsWith e none pos.line X.env = pure false := by rfl) : DS X (.Expr e pos) (lV te) := by
  obtain ⟨t1, p1, l1⟩ := he
  exact ⟨_, AX p1 hs, fun σ H ρ μ Dd De S h k1 k2 k3 k4 => l1 σ H ρ μ _ _ S h fun d u μ' H' e' S' r q => k1 σ ρ μ' H' e' S' q⟩
theorem bE {c : Expr} {x y : List Stmt} (hc : DT X c tc) (ha : DSs X x td) (hb : DSs X y ud) : DS X (.If c x y pos) (cR tc td ud) := by
  obtain ⟨t0, p0, l0⟩ := hc
  obtain ⟨t1, p1, l1⟩ := ha
  obtain ⟨t2, p2, l2⟩ := hb
  refine ⟨_, Fy p0 p1 p2, fun σ H ρ μ Dd De S h k1 k2 k3 k4 => ?_⟩
  refine l0 σ H ρ μ _ _ S h fun c μ1 H1 e1 S1 h1 => ?_
  cases c with
  | true => exact sP (l1 σ H1 ρ μ1 Dd De S1 (by simpa using h1) (fun a b c d e2 => k1 a b c d (e1.trans e2)) (fun a b c d e2 => k2 a b c d (e1.trans e2)) (fun a b c d e2 => k3 a b c d (e1.trans e2)) (fun a b c d e2 => k4 a b c d (e1.trans e2)))
  | false => exact rD (l2 σ H1 ρ μ1 Dd De S1 (by simpa using h1) (fun a b c d e2 => k1 a b c d (e1.trans e2)) (fun a b c d e2 => k2 a b c d (e1.trans e2)) (fun a b c d e2 => k3 a b c d (e1.trans e2)) (fun a b c d e2 => k4 a b c d (e1.trans e2)))
abbrev DTG := D → Rho → Mu → (Rho → Mu → Prop) → Prop
abbrev qw := List PyData → Rho → Mu → (Rho → Mu → Prop) → Prop
def Ab (K : PySem.W.Frag) (g : TG) (gd : DTG) : Prop := ∀ (σ : St) (H : Hp) (ρ : Rho) (μ : Mu) (d : D) (u : V) (Qd : Rho → Mu → Prop) (Q : St → Hp → Prop), St0 K H ρ μ σ → RpD K μ H d u → gd d ρ μ Qd →
  (∀ σ' ρ' μ' H', Ext K μ H μ' H' → St0 K H' ρ' μ' σ' → Qd ρ' μ' → Q σ' H') → g u σ H Q
def CV (K : PySem.W.Frag) (g : TGs) (gd : qw) : Prop := ∀ (σ : St) (H : Hp) (ρ : Rho) (μ : Mu) (ds : List PyData) (us : List V) (Qd : Rho → Mu → Prop) (Q : St → Hp → Prop), St0 K H ρ μ σ → RpL K μ H ds us → gd ds ρ μ Qd →
  (∀ σ' ρ' μ' H', Ext K μ H μ' H' → St0 K H' ρ' μ' σ' → Qd ρ' μ' → Q σ' H') → g us σ H Q
def DG (X : Cx) (tg : Expr) (gd : DTG) : Prop := ∃ g, PG X tg g ∧ Ab X.K g gd
def DGs (X : Cx) (tg : List Expr) (gd : qw) : Prop := ∃ g, PGs X tg g ∧ CV X.K g gd
theorem fv.set {K : PySem.W.Frag} {μ : Mu} {H : Hp} {ρ : Rho} {σ : St} {i : Nat} {d : D} {u : V} (r : fv K μ H ρ σ) (h : RpD K μ H d u) : fv K μ H (ρ.set i (some d)) (σ.set i (some u)) := by
  refine ⟨by rw [List.length_set, List.length_set]; exact r.1, fun j d' e => ?_⟩
  by_cases hj : i = j
  · subst hj
    have hl : i < ρ.length := by
      have := (List.getElem?_eq_some_iff.mp e).1
      rw [List.length_set] at this
      exact this
    rw [List.getElem?_set_self hl] at e
    cases e
    exact ⟨u, List.getElem?_set_self (by rw [← r.1]; exact hl), h⟩
  · rw [List.getElem?_set_ne hj] at e
    obtain ⟨w, e1, e2⟩ := r.2 j d' e
    exact ⟨w, by rw [List.getElem?_set_ne hj]; exact e1, e2⟩
def av (i : Nat) : DTG := fun d ρ μ Q => Q (ρ.set i (some d)) μ
theorem oo {K : PySem.W.Frag} {i : Nat} : Ab K (Ai i) (av i) := fun σ H ρ μ d u Qd Q S r h k => k _ _ μ H .refl ⟨S.mu, S.rho.set r⟩ h
theorem aW {i : Nat} {x : Str} (hN : X.N.Nodup) (hi : X.N[i]? = some x) (hx : Loc X.env.scope x) (hf : X.fn x = true ∨ X.env.scope.names.lookup x = some .local := by first | exact .inl rfl | exact .inr rfl | assumption) : DG X (.Name x pos) (av i) := ⟨_, AS hN hi hx hf, oo⟩
def ml : qw := fun ds ρ μ Q => match ds with
  | [] => Q ρ μ
  | _ => False
def ck (g : DTG) (gs : qw) : qw := fun ds ρ μ Q => match ds with
  | d :: r => g (.v d) ρ μ fun ρ1 μ1 => gs r ρ1 μ1 Q
  | _ => False
theorem iy : DGs X [] ml := ⟨_, Aw, fun σ H ρ μ ds us Qd Q S r h k => by
  cases r with
  | nil => exact ⟨rfl, k σ ρ μ H .refl S h⟩
  | cons _ _ => exact h.elim⟩
theorem bp {g : DTG} {gs : qw} (h1 : DG X e g) (h2 : DGs X es gs) (hs : (assignEach (e :: es) X.env).map (·.2) = assign e X.env :: (assignEach es X.env).map (·.2) := by rfl) : DGs X (e :: es) (ck g gs) := by
  obtain ⟨t1, p1, l1⟩ := h1
  obtain ⟨t2, p2, l2⟩ := h2
  refine ⟨_, yS p1 p2 hs, fun σ H ρ μ ds us Qd Q S r h k => ?_⟩
  cases r with
  | nil => exact h.elim
  | @cons d u ds us r1 r2 =>
    refine ⟨u, us, rfl, l1 σ H ρ μ (.v d) u _ _ S r1 h fun σ' ρ' μ' H' e1 S' h1 => ?_⟩
    exact l2 σ' H' ρ' μ' ds us _ _ S' (r2.ext S.mu e1) h1 fun a b c d e2 => k a b c d (e1.trans e2)
def kn (n : Nat) (gs : qw) : DTG := fun d ρ μ Q => match d with
  | .v (.tuple xs) => xs.length = n ∧ gs xs ρ μ Q
  | _ => False
theorem ky {k n : Nat} {gs : qw} (hc : X.calm = X.calm) (h : DGs X es gs)
    (hn : (assignEach es X.env).length = n := by rfl) (hst : (assignEach es X.env).findIdx? (·.1) = none := by rfl) : DG X (.Tuple es k pos) (kn n gs) := by
  obtain ⟨t1, p1, l1⟩ := h
  refine ⟨_, CL hc p1 hn hst, fun σ H ρ μ d u Qd Q S r h k => ?_⟩
  unfold kn at h
  split at h
  · cases r with
    | @tuple a us _ ha ra => exact ⟨a, us, rfl, ha, by rw [← ra.length]; exact h.1, l1 σ H ρ μ _ us _ _ S ra h.2 k⟩
  · exact h.elim
def xg (to ti : DTE) : DTG := fun d ρ μ Q => to ρ μ fun o μ1 => ti ρ μ1 fun i μ2 => match o, i, d with
  | .m l, .v (.int k), .v x => (match μ2 l with
    | some xs => (match ixN xs.length k with
      | some j => Q ρ (aw μ2 l (xs.set j x))
      | none => False)
    | none => False)
  | _, _, _ => False
theorem zU {o i : Expr} {to ti : DTE} (ho : DE X o to) (hi : DE X i ti)
    (ha : ∀ v, assign (.Subscript o i pos) X.env v = (do
      let ov ← holding [v] (eval o X.env)
      let iv ← holding [v, ov] (eval i X.env)
      standAt pos
      holding [v, ov, iv] (setItem ov iv v)
      release [v, ov, iv] []) := by intro _; rfl) : DG X (.Subscript o i pos) (xg to ti) := by
  obtain ⟨t1, p1, l1⟩ := ho
  obtain ⟨t2, p2, l2⟩ := hi
  refine ⟨_, CI p1 p2 set_list ha, fun σ H ρ μ d u Qd Q S r h k => ?_⟩
  refine l1 σ H ρ μ _ _ S h fun x ux μ1 H1 e1 S1 rx h1 => ?_
  refine l2 σ H1 ρ μ1 _ _ S1 h1 fun y uy μ2 H2 e2 S2 ry h2 => ?_
  have r2 := (r.ext S.mu e1).ext S1.mu e2
  have rx2 := rx.ext S1.mu e2
  split at h2
  · rename_i l kk xv
    obtain ⟨rfl, ds, hm⟩ := rx2
    cases ry
    rw [hm] at h2
    obtain ⟨us, hl, rl⟩ := S2.mu l ds hm
    simp only at h2
    cases q : ixN ds.length kk with
    | none => rw [q] at h2; exact h2.elim
    | some j =>
      rw [q] at h2
      refine ⟨l, us, kk, j, rfl, rfl, hl, by rw [← rl.length]; exact q, ?_⟩
      have ex : Ext X.K μ2 H2 (aw μ2 l (ds.set j xv)) (upd H2 l (.lst (us.set j u))) := iS hm
      exact k σ ρ _ _ (e1.trans (e2.trans ex)) ⟨S2.mu.set hm (rl.set r2 j), S2.rho.ext S2.mu ex⟩ h2
  · exact h2.elim
def bA (te : DTE) (g : DTG) : DTS := fun Dd ρ μ => te ρ μ fun d μ1 => g d ρ μ1 Dd.nx
theorem vf {K : PySem.W.Frag} {t : TE} {g : TG} {gd : DTG} (l1 : lr K t te) (l2 : Ab K g gd) : qR K (Dz t g) (bA te gd) := by
  intro σ H ρ μ Dd De S h k1 k2 k3 k4
  refine l1 σ H ρ μ _ _ S h fun d u μ1 H1 e1 S1 r h1 => ?_
  exact l2 σ H1 ρ μ1 d u _ _ S1 r h1 fun a b c d e2 => k1 a b c d (e1.trans e2)
theorem jB {tg : Expr} {g : DTG} (he : DE X e te) (hg : DG X tg g) (hs : swapsWithSole [tg] e pos.line X.env = pure false := by rfl) (hw : swappedStores [tg] e X.env = pure none := by rfl)
    (h1 : (assignEach [tg] X.env).map (·.2) = [assign tg X.env] := by rfl) : DS X (.Assign [tg] e pos) (bA te g) := by
  obtain ⟨t1, p1, l1⟩ := he
  obtain ⟨t2, p2, l2⟩ := hg
  exact ⟨_, CO p1 p2 hs hw h1, vf l1 l2⟩
theorem aS {i : Nat} {x : Str} {pos' : Pos} (hN : X.N.Nodup) (hi : X.N[i]? = some x) (hx : Loc X.env.scope x) (he : DE X e te) (hs : swapsWith e (some (.Name x pos')) pos.line X.env = pure false := by rfl) (hf : X.fn x = true ∨ X.env.scope.names.lookup x = some .local := by first | exact .inl rfl | exact .inr rfl | assumption) :
    DS X (.Assign [.Name x pos'] e pos) (bA te (av i)) := by
  obtain ⟨t1, p1, l1⟩ := he
  exact ⟨_, C0 hN hi hx p1 hs hf, vf l1 oo⟩
def lX (i j : Nat) (t : DTA) : DTS := fun Dd ρ μ => t ρ μ fun ds μ1 => match ds with
  | [v, w] => Dd.nx ((ρ.set i (some v)).set j (some w)) μ1
  | _ => False
theorem fG {i j : Nat} {x y : Str} {a b : Expr} {t : DTA} {px py pt : Pos} {kt k2 pt2} (hc : X.calm = true) (hN : X.N.Nodup) (hi : X.N[i]? = some x) (hj : X.N[j]? = some y) (hij : i ≠ j)
    (hx : X.env.scope.names.lookup x = some .local) (hy : X.env.scope.names.lookup y = some .local) (ha : DA X [a, b] t)
    (hw : swappedStores [.Tuple [.Name x px, .Name y py] kt pt] (.Tuple [a, b] k2 pt2) X.env = pure (some [x, y]))
    (hs : swapsWithSole [.Tuple [.Name x px, .Name y py] kt pt] (.Tuple [a, b] k2 pt2) pos.line X.env = pure false := by rfl) :
    DS X (.Assign [.Tuple [.Name x px, .Name y py] kt pt] (.Tuple [a, b] k2 pt2) pos) (lX i j t) := by
  obtain ⟨t1, p1, l1⟩ := ha
  refine ⟨_, Dj hc hN hi hj hij hx hy p1 hw hs, fun σ H ρ μ Dd De S h k1 k2 k3 k4 => ?_⟩
  refine l1 σ H ρ μ _ _ S h fun ds us μ1 H1 e1 S1 rs len h1 => ?_
  split at h1
  · cases rs with
    | cons r1 r2 =>
      cases r2 with
      | cons r2 r3 =>
        cases r3
        exact ⟨_, _, rfl, k1 _ _ μ1 H1 e1 ⟨S1.mu, (S1.rho.set r1).set r2⟩ h1⟩
  · exact h1.elim
def ng (c : DTT) (tb : DTS) : DTS := fun Dd ρ μ => ∃ W : Nat → Rho → Mu → Prop, (∃ m, W m ρ μ) ∧ ∀ m ρ μ, W m ρ μ →
  c ρ μ fun b μ1 => if b = true then tb { Dd with nx := fun ρ' μ' => ∃ m', m' < m ∧ W m' ρ' μ', ct := fun ρ' μ' => ∃ m', m' < m ∧ W m' ρ' μ', bk := Dd.nx } ρ μ1 else Dd.nx ρ μ1
theorem lN {c : Expr} {body : List Stmt} (hp : PassesOwn (model X.prog X.w) X.A X.env X.xe) (hc : DT X c tc) (hb : DSs X body td) : DS X (.While c body [] pos) (ng tc td) := by
  obtain ⟨t0, p0, l0⟩ := hc
  obtain ⟨t1, p1, l1⟩ := hb
  refine ⟨_, zK hp p0 p1, fun σ H ρ μ Dd De S h k1 k2 k3 k4 => ?_⟩
  obtain ⟨W, ⟨m, w0⟩, turn⟩ := h
  refine ⟨fun m σ' H' => ∃ ρ' μ', Ext X.K μ H μ' H' ∧ St0 X.K H' ρ' μ' σ' ∧ W m ρ' μ', ⟨m, ρ, μ, .refl, S, w0⟩, ?_⟩
  rintro m σ1 H1 ⟨ρ1, μ1, e1, S1, w1⟩
  refine l0 σ1 H1 ρ1 μ1 _ _ S1 (turn m ρ1 μ1 w1) fun b μ2 H2 e2 S2 h2 => ?_
  cases b with
  | true =>
    refine sP ⟨fun σ' H' => ∃ m', m' < m ∧ ∃ ρ' μ', Ext X.K μ H μ' H' ∧ St0 X.K H' ρ' μ' σ' ∧ W m' ρ' μ', fun σ' H' ⟨m', hm, q⟩ => ⟨m', hm, q⟩, ?_⟩
    have nxt : ∀ σ' ρ' μ' H', Ext X.K μ2 H2 μ' H' → St0 X.K H' ρ' μ' σ' → (∃ m', m' < m ∧ W m' ρ' μ') → ∃ m', m' < m ∧ ∃ ρ' μ', Ext X.K μ H μ' H' ∧ St0 X.K H' ρ' μ' σ' ∧ W m' ρ' μ' :=
      fun σ' ρ' μ' H' e3 S3 ⟨m', hm, q⟩ => ⟨m', hm, ρ', μ', e1.trans (e2.trans e3), S3, q⟩
    rw [if_pos rfl] at h2
    exact l1 σ1 H2 ρ1 μ2 _ _ S2 h2 nxt (fun a b c d e3 => k2 a b c d (e1.trans (e2.trans e3))) (fun a b c d e3 => k1 a b c d (e1.trans (e2.trans e3))) nxt
  | false => exact rD (k1 σ1 ρ1 μ2 H2 (e1.trans e2) S2 (by simpa using h2))
abbrev DTI := Rho → Mu → (List PyData → Mu → Prop) → Prop
def AG (K : PySem.W.Frag) (J : It) (xs : List PyData) (μ1 : Mu) (H1 : Hp) : Prop := ∀ μ2 H2, Ext K μ1 H1 μ2 H2 → bC K μ2 H2 → ∀ i, (i < xs.length → J.go i H2 ∧ ∀ x H', J.yld i H2 x H' → ∃ d, xs[i]? = some d ∧ jM H2 H' ∧ Rp K μ2 H' d x) ∧ (i = xs.length → J.stop i H2)
def Ey (K : PySem.W.Frag) (wi : TI) (src : DTI) : Prop := ∀ (σ : St) (H : Hp) (ρ : Rho) (μ : Mu) (Qd : List PyData → Mu → Prop) (R : It → Hp → Prop), St0 K H ρ μ σ → src ρ μ Qd →
  (∀ xs μ1 H1 J, Ext K μ H μ1 H1 → St0 K H1 ρ μ1 σ → AG K J xs μ1 H1 → Qd xs μ1 → R J H1) → wi σ H R
def DI (X : Cx) (tg iter : Expr) (src : DTI) : Prop := ∃ wi, PI X tg iter wi ∧ Ey X.K wi src
variable {tg : Expr}
def sG (te : DTE) : DTI := fun ρ μ Q => te ρ μ fun d μ1 => match d with
  | .v (.list xs) => Q xs μ1
  | _ => False
def tY (te : DTE) : DTI := fun ρ μ Q => te ρ μ fun d μ1 => match d with
  | .v (.tuple xs) => Q xs μ1
  | _ => False
theorem wI (h : DE X e te) : DI X tg e (sG te) := by
  obtain ⟨t1, p1, l1⟩ := h
  refine ⟨_, xa p1, fun σ H ρ μ Qd R S h k => ?_⟩
  refine l1 σ H ρ μ _ _ S h fun d u μ1 H1 e1 S1 r h1 => ?_
  split at h1
  · rename_i xs
    cases r with
    | @list a us _ ha hn ra =>
      refine ⟨a, rfl, ⟨us, SqL.of ha⟩, k xs μ1 H1 _ e1 S1 (fun μ2 H2 e2 ok2 i => ⟨fun hi => ?_, fun hi => ?_⟩) h1⟩
      · have ha2 := e2.keep _ _ ha hn trivial
        have hiu : i < us.length := by rw [← ra.length]; exact hi
        refine ⟨⟨us, us[i], SqL.of ha2, by simp [hiu]⟩, fun x H' ⟨eH, hx⟩ => ?_⟩
        subst eH
        obtain ⟨u', h1', h2'⟩ := ra.get (i := i) (d := xs[i]) (by simp [hi])
        have := hx us (SqL.of ha2)
        rw [h1'] at this
        cases this
        exact ⟨xs[i], by simp [hi], jM.refl _, h2'.ext S1.mu e2⟩
      · exact ⟨us, SqL.of (e2.keep _ _ ha hn trivial), by rw [← ra.length]; omega⟩
  · exact h1.elim
theorem vz (h : DE X e te) : DI X tg e (tY te) := by
  obtain ⟨t1, p1, l1⟩ := h
  refine ⟨_, CQ p1, fun σ H ρ μ Qd R S h k => ?_⟩
  refine l1 σ H ρ μ _ _ S h fun d u μ1 H1 e1 S1 r h1 => ?_
  split at h1
  · rename_i xs
    cases r with
    | @tuple a us _ ha ra =>
      refine ⟨a, rfl, ⟨us, ha⟩, k xs μ1 H1 _ e1 S1 (fun μ2 H2 e2 ok2 i => ⟨fun hi => ?_, fun hi => ?_⟩) h1⟩
      · have ha2 := tf S1.mu e2 ha
        have hiu : i < us.length := by rw [← ra.length]; exact hi
        refine ⟨⟨us, us[i], ha2, by simp [hiu]⟩, fun x H' ⟨eH, hx⟩ => ?_⟩
        subst eH
        obtain ⟨u', h1', h2'⟩ := ra.get (i := i) (d := xs[i]) (by simp [hi])
        have := hx us ha2
        rw [h1'] at this
        cases this
        exact ⟨xs[i], by simp [hi], jM.refl _, h2'.ext S1.mu e2⟩
      · exact ⟨us, tf S1.mu e2 ha, by rw [← ra.length]; omega⟩
  · exact h1.elim
def jI (lo : Int) (n : Nat) : List PyData := (List.range n).map fun (i : Nat) => PyData.int (lo + (i : Int))
theorem zD {K : PySem.W.Frag} {lo : Int} {n : Nat} {μ : Mu} {H : Hp} : AG K (Itr lo n) (jI lo n) μ H := fun μ2 H2 e2 ok2 i => by
  have hl : (jI lo n).length = n := by unfold jI; simp
  refine ⟨fun hi => ?_, fun hi => ?_⟩
  · rw [hl] at hi
    refine ⟨hi, fun x H' ⟨eH, hx⟩ => ?_⟩
    subst eH hx
    exact ⟨.int (lo + i), by unfold jI; simp [hi], jM.refl _, .int _⟩
  · show n ≤ i
    omega
def rV (t : DTA) : DTI := fun ρ μ Q => t ρ μ fun ds μ1 => match ds with
  | [.v (.int j)] => (-(2 ^ 62) ≤ j ∧ j < 2 ^ 62) ∧ Q (jI 0 j.toNat) μ1
  | _ => False
def vw (t : DTA) : DTI := fun ρ μ Q => t ρ μ fun ds μ1 => match ds with
  | [.v (.int i), .v (.int j)] => (-(2 ^ 62) ≤ i ∧ i < 2 ^ 62 ∧ -(2 ^ 62) ≤ j ∧ j < 2 ^ 62) ∧ Q (jI i (j - i).toNat) μ1
  | _ => False
theorem wW {a : Expr} {t : DTA} {p pos : Pos} (hg : Gl X "range") (hm : X.mg "range" = none) (ha : DA X [a] t) (hs : starEach [a] X.env = [(false, eval a X.env)] := by rfl) (hc : X.calm = true := by rfl) : DI X tg (.Call (.Name "range" p) [a] [] pos) (rV t) := by
  obtain ⟨t1, p1, l1⟩ := ha
  refine ⟨_, xX hc hg hm p1 hs, fun σ H ρ μ Qd R S h k => ?_⟩
  refine l1 σ H ρ μ _ _ S h fun ds us μ1 H1 e1 S1 rs len h1 => ?_
  split at h1
  · rename_i j
    cases rs with
    | cons r1 r2 => cases r2; cases r1; exact ⟨j, rfl, h1.1.1, h1.1.2, k _ μ1 H1 _ e1 S1 zD h1.2⟩
  · exact h1.elim
theorem AU {a b : Expr} {t : DTA} {p pos : Pos} (hg : Gl X "range") (hm : X.mg "range" = none) (ha : DA X [a, b] t) (hs : starEach [a, b] X.env = [(false, eval a X.env), (false, eval b X.env)] := by rfl) (hs2 : starEach [b] X.env = [(false, eval b X.env)] := by rfl) (hc : X.calm = true := by rfl) : DI X tg (.Call (.Name "range" p) [a, b] [] pos) (vw t) := by
  obtain ⟨t1, p1, l1⟩ := ha
  refine ⟨_, xM hc hg hm p1 hs hs2, fun σ H ρ μ Qd R S h k => ?_⟩
  refine l1 σ H ρ μ _ _ S h fun ds us μ1 H1 e1 S1 rs len h1 => ?_
  split at h1
  · rename_i i j
    cases rs with
    | cons r1 r2 =>
      cases r2 with
      | cons r2 r3 => cases r3; cases r1; cases r2; exact ⟨i, j, rfl, h1.1, k _ μ1 H1 _ e1 S1 zD h1.2⟩
  · exact h1.elim
def ya (src : DTI) (g : DTG) (tb : DTS) : DTS := fun Dd ρ μ => src ρ μ fun xs μ1 => ∃ Pv : Nat → Rho → Mu → Prop, Pv 0 ρ μ1 ∧
  (∀ i x ρ' μ', xs[i]? = some x → Pv i ρ' μ' → g (.v x) ρ' μ' fun ρ2 μ2 => tb { Dd with nx := Pv (i + 1), ct := Pv (i + 1), bk := Dd.nx } ρ2 μ2) ∧ (∀ ρ' μ', Pv xs.length ρ' μ' → Dd.nx ρ' μ')
theorem tK {iter : Expr} {body : List Stmt} {src : DTI} {g : DTG} (hp : PassesOwn (model X.prog X.w) X.A X.env X.xe) (hc : X.calm = true) (hi : DI X tg iter src) (hg : DG X tg g) (hb : DSs X body td)
    (hs : ∀ x, foldedSetIterable iter X.env x = pure x := by intro _; rfl) : DS X (.For tg iter body [] pos) (ya src g td) := by
  obtain ⟨t0, p0, l0⟩ := hi
  obtain ⟨t1, p1, l1⟩ := hg
  obtain ⟨t2, p2, l2⟩ := hb
  refine ⟨_, CW hp hc p0 p1 p2 hs, fun σ H ρ μ Dd De S h k1 k2 k3 k4 => ?_⟩
  refine l0 σ H ρ μ _ _ S h fun xs μ1 H1 J e1 S1 it h1 => ?_
  obtain ⟨Pv, pv0, turn, fin⟩ := h1
  refine ⟨fun i m σ' H' => m = xs.length - i ∧ i ≤ xs.length ∧ ∃ ρ' μ', Ext X.K μ1 H1 μ' H' ∧ St0 X.K H' ρ' μ' σ' ∧ Pv i ρ' μ', ⟨xs.length, by simp, Nat.zero_le _, ρ, μ1, .refl, S1, pv0⟩, ?_⟩
  rintro i m σ' H' ⟨rfl, hi, ρ', μ', e2, S2, pv⟩
  obtain ⟨go, stop⟩ := it μ' H' e2 S2.mu i
  by_cases hlt : i < xs.length
  · obtain ⟨g1, y1⟩ := go hlt
    refine .inr ⟨g1, fun σ2 H2 => ∃ ρ2 μ2, Ext X.K μ1 H1 μ2 H2 ∧ St0 X.K H2 ρ2 μ2 σ2 ∧ Pv (i + 1) ρ2 μ2, fun σ2 H2 q => ⟨xs.length - (i + 1), by omega, rfl, hlt, q⟩, fun x H2 yl => ?_⟩
    obtain ⟨d, hd, sm, rd⟩ := y1 x H2 yl
    have e3 : Ext X.K μ' H' μ' H2 := .of_same sm
    have S3 : St0 X.K H2 ρ' μ' σ' := ⟨S2.mu.Av e3 sm, S2.rho.ext S2.mu e3⟩
    refine l1 σ' H2 ρ' μ' (.v d) x _ _ S3 rd (turn i d ρ' μ' hd pv) fun σ4 ρ4 μ4 H4 e4 S4 h4 => ?_
    have nxt : ∀ a b c dd, Ext X.K μ4 H4 c dd → St0 X.K dd b c a → Pv (i + 1) b c → ∃ ρ2 μ2, Ext X.K μ1 H1 μ2 dd ∧ St0 X.K dd ρ2 μ2 a ∧ Pv (i + 1) ρ2 μ2 := fun a b c dd e5 S5 q => ⟨b, c, e2.trans (e3.trans (e4.trans e5)), S5, q⟩
    have ee := e1.trans (e2.trans (e3.trans e4))
    exact l2 σ4 H4 ρ4 μ4 _ _ S4 h4 nxt (fun a b c d e5 => k2 a b c d (ee.trans e5)) (fun a b c d e5 => k1 a b c d (ee.trans e5)) nxt
  · have ei : i = xs.length := by omega
    subst ei
    exact .inl ⟨stop rfl, k1 σ' ρ' μ' H' (e1.trans e2) S2 (fin ρ' μ' pv)⟩
end
abbrev DSp := List D → Mu → DK → Prop
def spD (K : PySem.W.Frag) (dsp : DSp) : Sp := fun vs H Q _ => ∃ (ds : List D) (μ : Mu) (Qd : DK), bC K μ H ∧ gv K μ H ds vs ∧ dsp ds μ Qd ∧
  (∀ d u μ' H', Ext K μ H μ' H' → bC K μ' H' → RpD K μ' H' d u → Qd d μ' → Q u H')
def aG (N : List Str) (ds : List D) : Rho := ds.map some ++ List.replicate (N.length - ds.length) none
theorem gv.get {K : PySem.W.Frag} {μ : Mu} {H : Hp} {ds : List D} {us : List V} : ∀ {i : Nat} {d : D}, gv K μ H ds us → ds[i]? = some d → ∃ u, us[i]? = some u ∧ RpD K μ H d u
  | _, _, .nil, h => by simp at h
  | 0, _, .cons r _, h => by simp at h; subst h; exact ⟨_, rfl, r⟩
  | i + 1, d, .cons _ t, h => by
    obtain ⟨u, h1, h2⟩ := gv.get (i := i) (d := d) t (by simpa using h)
    exact ⟨u, by simpa using h1, h2⟩
theorem xN {K : PySem.W.Frag} {μ : Mu} {H : Hp} {N : List Str} {ds : List D} {vs : List V} (r : gv K μ H ds vs) : fv K μ H (aG N ds) (start N vs) := by
  have hl := r.length
  refine ⟨by unfold aG start; simp [hl], fun i d e => ?_⟩
  unfold aG at e
  by_cases hi : i < ds.length
  · rw [List.getElem?_append_left (by simpa using hi), List.getElem?_map] at e
    unfold start
    rw [List.getElem?_append_left (by simpa [hl] using hi), List.getElem?_map]
    cases q : ds[i]? with
    | none => rw [q] at e; cases e
    | some d' =>
      rw [q] at e
      cases e
      obtain ⟨u, h1, h2⟩ := r.get q
      exact ⟨u, by rw [h1]; rfl, h2⟩
  · rw [List.getElem?_append_right (by simpa using hi), List.getElem?_replicate] at e
    split at e <;> cases e
section
variable {P : Program} {w : World} {K : PySem.W.Frag} {mg : Str → Option Value} {base : Heap}
theorem _root_.L2.Fun.okD {x qual : Str} {st : Stmt} {f : Addr} {fd : FuncData} {N ps : List Str} {k : Nat} {dsp : DSp} (F : Fun K x qual st f fd) (S : aC N ps (ar st)) (len : ∀ ds μ Q, dsp ds μ Q → ds.length = ps.length)
    (hbody : ∀ (cdv : Value) (A : Around) (outer : List Env) (s : Shared) (H : Hp) (E : XK), iG k (A.deeper (envOfC qual (ar st) s.heap.objs.size f cdv)) →
      ∃ td, DSs (wg CX0 P w K mg base N qual (ar st) f cdv A outer s H E).nox (gx st) td ∧ ∀ ds μ Qd, dsp ds μ Qd → td { nx := fun _ μ' => Qd (.v .none) μ', rt := Qd } (aG N ds) μ) : bq P w K mg base CX0 (k + 1) f fd ps (spD K dsp) := by
  refine F.ok S (fun vs H Q E h => ?_) (fun cdv A outer s H vs Q E hr h => ?_)
  · obtain ⟨ds, μ, Qd, _, r, h, _⟩ := h
    rw [← r.length]
    exact len ds μ Qd h
  · obtain ⟨ds, μ, Qd, ok, r, h, fin⟩ := h
    obtain ⟨td, ⟨t, p, l⟩, rd⟩ := hbody cdv A outer s H E hr
    refine ⟨t, p, ?_⟩
    exact l (start N vs) H (aG N ds) μ _ _ ⟨ok, xN r⟩ (rd ds μ Qd h) (fun σ' ρ' μ' H' e' S' q => fin (.v .none) .non μ' H' e' S'.mu Rp.none q) (fun d u μ' H' e' ok' r' q => fin d u μ' H' e' ok' r' q) (fun _ _ _ _ _ _ q => q) (fun _ _ _ _ _ _ q => q)
end
section
variable {X : Cx} {e : Expr} {es : List Expr} {t : DTA} {p pos : Pos} {x : Str} {k : Nat} {f : Addr} {fd : FuncData} {ps : List Str} {dsp : DSp}
def ao (dsp : DSp) (t : DTA) : DTE := fun ρ μ Q => t ρ μ fun ds μ1 => dsp ds μ1 Q
theorem ai (F : bq X.prog X.w X.K X.mg X.base CX0 k f fd ps (spD X.K dsp)) (hr : iG k X.A) (hg : Gl X x) (hm : X.mg x = some (.ref f)) (hk : PySem.W.keepIn X.K (.ref f) = true) (hb : Binds X.K fd ps [])
    (ha : DA X (e :: es) t) (hdb : (x == ("__debug__" : Str)) = false := by decide) (he : starEach (e :: es) X.env = (false, eval e X.env) :: starEach es X.env := by rfl) (hpl : (backTo pos (starEach es X.env)).any (·.1) = false := by rfl) :
    DE X (.Call (.Name x p) (e :: es) [] pos) (ao dsp t) := by
  obtain ⟨t1, p1, l1⟩ := ha
  refine ⟨_, Bo F hr hg hm hk hb .nil Fs p1 hdb he hpl, fun σ H ρ μ Qd Q S h kk => ?_⟩
  refine l1 σ H ρ μ _ _ S h fun ds us μ1 H1 e1 S1 rs len h1 => ?_
  refine ⟨ds, μ1, Qd, S1.mu, by rw [List.append_nil]; exact rs, h1, fun d u μ' H' e2 ok r q => ?_⟩
  exact kk d u μ' H' (e1.trans e2) ⟨ok, S1.rho.ext S1.mu e2⟩ r q
end
section
variable {X : Cx} {o e : Expr} {to te : DTE} {apos cpos : Pos}
def yh (to te : DTE) : DTE := fun ρ μ Q => to ρ μ fun x μ1 => match x with
  | .m l => te ρ μ1 fun y μ2 => (match y, μ2 l with
    | .v d, some xs => xs.length < 1000 ∧ Q (.v .none) (aw μ2 l (xs ++ [d]))
    | _, _ => False)
  | _ => False
theorem j8 (ho : DE X o to) (ha : DE X e te) (hbase : attributeBase o "append" X.env (eval o X.env) = eval o X.env := by rfl)
    (hfew : ((backTo cpos (starEach [e] X.env)).all (fun x => !x.1) && (backToKw cpos (keywordEach [] X.env)).all (fun x => x.1.isSome)
      && decide ([e].length + ([] : List Keyword).length + (if ([] : List Keyword).isEmpty then 0 else 1) < 30)) = true := by rfl)
    (hline : (apos.endLine == cpos.line) = true := by rfl) (hs : starEach [e] X.env = (false, eval e X.env) :: starEach [] X.env := by rfl) (hplain : (backTo cpos (starEach [] X.env)).any (·.1) = false := by rfl) :
    DE X (.Call (.Attribute o "append" apos) [e] [] cpos) (yh to te) := by
  obtain ⟨t1, p1, l1⟩ := ho
  obtain ⟨t2, p2, l2⟩ := ha
  refine ⟨_, Fx PySem.F.plainAttrs_list PySem.F.slot_list_append PySem.F.type_list_append j2 p1 (j9 p2 rz hs) hbase hfew hline hs hplain, fun σ H ρ μ Qd Q S h k => ?_⟩
  refine l1 σ H ρ μ _ _ S h fun x ux μ1 H1 e1 S1 rx h1 => ?_
  cases x with
  | m l =>
    obtain ⟨rfl, ds, hm⟩ := id rx
    obtain ⟨us, hl, rl⟩ := S1.mu l ds hm
    refine ⟨.inl ⟨rfl, us, SqL.of hl⟩, ?_⟩
    refine l2 σ H1 ρ μ1 _ _ S1 h1 fun y uy μ2 H2 e2 S2 ry h2 => ?_
    obtain ⟨_, ds2, hm2⟩ := rx.ext S1.mu e2
    obtain ⟨us2, hl2, rl2⟩ := S2.mu l ds2 hm2
    rw [hm2] at h2
    cases y with
    | v d =>
      have h3 : ds2.length < 1000 ∧ Qd (.v .none) (aw μ2 l (ds2 ++ [d])) := h2
      refine ⟨l, us2, uy, rfl, rfl, hl2, by rw [← rl2.length]; exact di (Nat.le_of_lt h3.1), ?_⟩
      have ex : Ext X.K μ2 H2 (aw μ2 l (ds2 ++ [d])) (upd H2 l (.lst (us2 ++ [uy]))) := iS hm2
      exact k (.v .none) .non _ _ (e1.trans (e2.trans ex)) ⟨S2.mu.set hm2 (rl2.append (.cons ry .nil)), S2.rho.ext S2.mu ex⟩ Rp.none h3.2
    | m _ => exact h2.elim
    | s _ => exact h2.elim
    | o _ => exact h2.elim
    | q _ => exact h2.elim
  | v d => exact h1.elim
  | s ns => exact h1.elim
  | o _ => exact h1.elim
  | q _ => exact h1.elim
def Gb (to te : DTE) : DTE := fun ρ μ Q => to ρ μ fun x μ1 => match x with
  | .m l => te ρ μ1 fun y μ2 => (match y, μ2 l with
    | .v (.list ys), some xs => xs.length + ys.length ≤ 1000 ∧ Q (.v .none) (aw μ2 l (xs ++ ys))
    | _, _ => False)
  | _ => False
def Fm (to : DTE) : DTE := fun ρ μ Q => to ρ μ fun x μ1 => match x with
  | .v (.int i) => Q (.v (.int (Builtin.Int.intBits i : Nat))) μ1
  | _ => False
end
open PySem PySem.Spec PyProof.Rows
theorem eh {prog : Program} {w : World} {A : Around} {R : Result → Shared → Prop} {s : Shared} {elt target iter : Expr} {ifs : List Expr} {scope : Scope} {pos : Pos} {it acc : Value} {env : Env} (I : Nat → Shared → Prop)
    (turn : ∀ n s, I n s → wpAny (model prog w) A (pyNext it) (fun r s₁ => match r with
      | none => R (.ok .next) s₁
      | some v => wpAny (model prog w) A (letOwnedTupleGo target it v) (fun _ s' => wpAny (model prog w) A (assign target env v) (fun _ s₂ =>
          wpAny (model prog w) A (forIn ifs true fun c r => if r = true then do let ok ← isTrue c env (eval c env); pure (ForInStep.yield ok) else pure (ForInStep.yield r)) (fun ok s₃ =>
            if ok = true then wpAny (model prog w) A (eval elt env) (fun x s₄ =>
              wpAny (model prog w) A (call (.builtin "list.append") [acc, x]) (fun _ s₅ => ∃ m, m < n ∧ I m s₅) (fun _ _ => False) s₄) (fun _ _ => False) s₃
            else ∃ m, m < n ∧ I m s₃) (fun _ _ => False) s₂) (fun _ _ => False) s') (fun _ _ => False) s₁) (fun _ _ => False) s)
    (n : Nat) (h : I n s) :
    codeAny (model prog w) A (.compLoop (.ListComp elt [⟨target, iter, ifs, 0⟩] scope pos) 0 it acc env) R s := by
  refine codeAny_loop rfl I (fun n s hI => ?_) n h
  show wpAny _ A ((compTurn (.ListComp elt [⟨target, iter, ifs, 0⟩] scope pos) 0 it acc env).onRaise (fun x => do noteFrame x env; theTreesLotGoes x)) _ _ s
  refine wpAny_noted ?_
  rw [compTurn_list]
  refine wpAny_bind (wpAny_standAt (wpAny_bind (wpAny_mono (turn n s hI) (fun r s₁ h₁ => ?_) fun _ _ h' => h'.elim)))
  cases r with
  | none => exact wpAny_pure h₁
  | some v =>
    refine wpAny_bind (wpAny_mono h₁ (fun _ s' h' => ?_) fun _ _ h' => h'.elim)
    refine wpAny_bind (wpAny_mono h' (fun _ s₂ h₂ => wpAny_bind (wpAny_mono h₂ (fun ok s₃ h₃ => ?_) fun _ _ h' => h'.elim)) fun _ _ h' => h'.elim)
    cases ok with
    | false => exact wpAny_pure ⟨rfl, h₃⟩
    | true =>
      exact wpAny_bind (wpAny_bind (wpAny_mono h₃ (fun x s₄ h₄ => wpAny_bind (wpAny_mono h₄ (fun _ s₅ h₅ => wpAny_pure (wpAny_pure ⟨rfl, h₅⟩)) fun _ _ h' => h'.elim)) fun _ _ h' => h'.elim))
section
variable {K : PySem.W.Frag} {μ μ' : Mu} {H : Hp}
mutual
theorem Rp.shrink {d : PyData} {u : V} (sub : ∀ a, μ' a = none → μ a = none) : Rp K μ' H d u → Rp K μ H d u
  | .none => .none
  | .bool b => .bool b
  | .int i => .int i
  | .str x => .str x
  | .list h n r => .list h (sub _ n) (RpL.shrink sub r)
  | .tuple h r => .tuple h (RpL.shrink sub r)
theorem RpL.shrink {ds : List PyData} {us : List V} (sub : ∀ a, μ' a = none → μ a = none) : RpL K μ' H ds us → RpL K μ H ds us
  | .nil => .nil
  | .cons h r => .cons (Rp.shrink sub h) (RpL.shrink sub r)
end
end
theorem Cm {X : Cx} {e : Expr} {td : DTE} (h : ∀ (pins : List (Addr × Obj)) (s : Shared) (σ : St) (H : Hp) (ρ : Rho) (μ : Mu) (Qd : DK) (Q : VK), Inv X pins σ H s → St0 X.K H ρ μ σ → td ρ μ Qd →
    (∀ d u μ' H', Ext X.K μ H μ' H' → St0 X.K H' ρ μ' σ → RpD X.K μ' H' d u → Qd d μ' → Q u H') → wpAny (model X.prog X.w) X.A (eval e X.env) (EP X pins σ Q) X.xe s) : DE X e td :=
  ⟨fun σ H Q => ∃ ρ μ Qd, St0 X.K H ρ μ σ ∧ td ρ μ Qd ∧ (∀ d u μ' H', Ext X.K μ H μ' H' → St0 X.K H' ρ μ' σ → RpD X.K μ' H' d u → Qd d μ' → Q u H'),
    fun pins s σ H Q I ⟨ρ, μ, Qd, S, q, k⟩ => h pins s σ H ρ μ Qd Q I S q k, fun σ H ρ μ Qd Q S q k => ⟨ρ, μ, Qd, S, q, k⟩⟩
def aM (X : Cx) (N' : List Str) (scope : Scope) (cl : List (Str × Addr)) (fp : List Addr) (s₃ : Shared) (H₃ : Hp) : Cx :=
  { X with N := N', s₀ := s₃, H₀ := H₃, env := compEnvC scope cl s₃.heap.objs.size X.env, outer := X.stack, stack := X.stack, ex := fp, fn := fun _ => false, pn := X.pn, xe := fun _ _ => False }
def Le : Rho → Rho → Prop
  | [], [] => True
  | none :: r, _ :: r' => Le r r'
  | some d :: r, some d' :: r' => d = d' ∧ Le r r'
  | _, _ => False
theorem Le.get : ∀ {ρ ρ' : Rho}, Le ρ ρ' → ρ.length = ρ'.length ∧ ∀ (i : Nat) d, ρ[i]? = some (some d) → ρ'[i]? = some (some d)
  | [], [], _ => ⟨rfl, fun _ _ h => h⟩
  | none :: r, x :: r', h => by
    obtain ⟨h1, h2⟩ := Le.get (ρ := r) (ρ' := r') h
    refine ⟨congrArg (· + 1) h1, fun i d e => ?_⟩
    cases i with
    | zero => simp at e
    | succ j => exact h2 j d (by simpa using e)
  | some d :: r, some d' :: r', h => by
    obtain ⟨rfl, h⟩ := h
    obtain ⟨h1, h2⟩ := Le.get (ρ := r) (ρ' := r') h
    refine ⟨congrArg (· + 1) h1, fun i d e => ?_⟩
    cases i with
    | zero => simpa using e
    | succ j => exact h2 j d (by simpa using e)
  | some d :: r, none :: r', h => h.elim
  | [], _ :: _, h => h.elim
  | none :: _, [], h => h.elim
  | some _ :: _, [], h => h.elim
def bz {α : Type} (cap : List (Option Nat)) (ρ : List (Option α)) : List (Option α) := cap.map fun o => o.bind fun j => (ρ[j]?).join
def oO (cap : List (Option Nat)) (src : DTI) (g : DTG) (c : DTT) (elt : DTE) : DTE := fun ρ μ Q => src ρ μ fun xs μ1 => xs.length ≤ 1000 ∧ ∃ f : PyData → Option PyData,
  (∀ x ∈ xs, ∀ μ' : Mu, (∀ a ds, μ1 a = some ds → μ' a = some ds) → g (.v x) (bz cap ρ) μ' fun ρ2 μ2 => Le (bz cap ρ) ρ2 ∧ c ρ2 μ2 fun b μ3 =>
    if b = true then elt ρ2 μ3 fun d μ4 => μ4 = μ' ∧ (match d with | .v y => f x = some y | _ => False) else μ3 = μ' ∧ f x = none) ∧ Q (.v (.list (xs.filterMap f))) μ1
def xx (X : Cx) (ifs : List Expr) (c : DTT) : Prop := ∀ (pins : List (Addr × Obj)) (s : Shared) (σ : St) (H : Hp) (ρ : Rho) (μ : Mu) (Qd : Bool → Mu → Prop) (Q : Bool → Hp → Prop), Inv X pins σ H s → St0 X.K H ρ μ σ → c ρ μ Qd →
  (∀ b μ' H', Ext X.K μ H μ' H' → St0 X.K H' ρ μ' σ → Qd b μ' → Q b H') →
  wpAny (model X.prog X.w) X.A (forIn ifs true fun c r => if r = true then do let ok ← isTrue c X.env (eval c X.env); pure (ForInStep.yield ok) else pure (ForInStep.yield r)) (TP X pins σ Q) X.xe s
def qX : DTT := fun _ μ Q => Q true μ
theorem lQ {X : Cx} : xx X [] qX := fun pins s σ H ρ μ Qd Q I S h k => wpAny_tests_nil ⟨H, I, k true μ H .refl S h⟩
theorem zj {X : Cx} {c : Expr} {tc : DTT} (h : DT X c tc) : xx X [c] tc := by
  obtain ⟨t, p, l⟩ := h
  exact fun pins s σ H ρ μ Qd Q I S h k => wpAny_tests_one (p pins s σ H _ I (l σ H ρ μ _ _ S h k))
theorem Un.after {fs ex : List Addr} {H H1 : Hp} {h h1 h' : Heap} (u : Un fs ex H H1 h h1) (k : ∀ b o, b < h.objs.size → h1.get? b = some o → h'.get? b = some o) : Un fs ex H H1 h h' :=
  ⟨fun b o e n hb hx => k b o (Heap.lt_size e) (u.keep b o e n hb hx), fun b o e n hb hx => let ⟨sl, q⟩ := u.slot b o e n hb hx; ⟨sl, k b _ (Heap.lt_size e) q⟩, u.free, fun b o e hx => let ⟨o', q⟩ := u.there b o e hx; ⟨o', k b _ (Heap.lt_size e) q⟩, u.nO, u.mX, u.mQ⟩
theorem mi {α : Type} {cap : List (Option Nat)} {ρ : List (Option α)} {i : Nat} {d : α} (h : (bz cap ρ)[i]? = some (some d)) : ∃ j, cap[i]? = some (some j) ∧ ρ[j]? = some (some d) := by
  unfold bz at h
  rw [List.getElem?_map] at h
  cases q : cap[i]? with
  | none => rw [q] at h; cases h
  | some o =>
    rw [q] at h
    cases o with
    | none => cases h
    | some j =>
      refine ⟨j, rfl, ?_⟩
      simp only [Option.map_some, Option.bind_some, Option.some.injEq] at h
      cases z : ρ[j]? with
      | none => rw [z] at h; cases h
      | some y => rw [z] at h; simp only [Option.join_some] at h; rw [h]
theorem zY {α : Type} {cap : List (Option Nat)} {ρ : List (Option α)} {i j : Nat} {d : α} (h : cap[i]? = some (some j)) (e : ρ[j]? = some (some d)) : (bz cap ρ)[i]? = some (some d) := by
  unfold bz
  rw [List.getElem?_map, h]
  simp [e]
theorem fv.cap {K : PySem.W.Frag} {μ : Mu} {H : Hp} {ρ : Rho} {σ : St} {cap : List (Option Nat)} (r : fv K μ H ρ σ) : fv K μ H (bz cap ρ) (bz cap σ) := by
  refine ⟨by unfold bz; simp, fun i d e => ?_⟩
  obtain ⟨j, h1, h2⟩ := mi e
  obtain ⟨u, h3, h4⟩ := r.2 j d h2
  exact ⟨u, zY h1 h3, h4⟩
theorem fv.le {K : PySem.W.Frag} {μ : Mu} {H : Hp} {ρ ρ' : Rho} {σ : St} (r : fv K μ H ρ' σ) (l : Le ρ ρ') : fv K μ H ρ σ :=
  ⟨l.get.1.trans r.1, fun i d e => r.2 i d (l.get.2 i d e)⟩
theorem mr {xs : List PyData} {f : PyData → Option PyData} {i : Nat} {d : PyData} (h : xs[i]? = some d) : (xs.take (i + 1)).filterMap f = (xs.take i).filterMap f ++ (f d).toList := by
  obtain ⟨hi, e⟩ := List.getElem?_eq_some_iff.mp h
  rw [List.take_succ_eq_append_getElem hi, List.filterMap_append, e]
  cases q : f d <;> simp [q]
theorem sj {X : Cx} {N' : List Str} {scope : Scope} {cl : List (Str × Addr)} {elt iter tg : Expr} {ifs : List Expr} {pos : Pos} {cap : List (Option Nat)} {src : DTI} {g : DTG} {c : DTT} {te : DTE} (hc : X.calm = X.calm)
    (hi : DI X tg iter src) (hg : ∀ fp s₃ H₃, DG (aM X N' scope cl fp s₃ H₃) tg g) (hif : ∀ fp s₃ H₃, xx (aM X N' scope cl fp s₃ H₃) ifs c) (he : ∀ fp s₃ H₃, DE (aM X N' scope cl fp s₃ H₃) elt te)
    (hclos : closureFor scope X.env = pure cl) (hcell : ∀ y ∈ scope.names, y.2 ≠ .cell) (hkind : scope.kind = .function) (hnames : ∀ y ∈ scope.names, y.2 = .local → scope.names.lookup y.1 = some .local)
    (hcl : ∀ x a, cl.lookup x = some a → X.env.cells.lookup x = some a) (hhas : ∀ x, (relabel scope X.env).names.lookup x = some .cell ∨ (relabel scope X.env).names.lookup x = some .free → ∃ a, cl.lookup x = some a)
    (hlen : cap.length = N'.length) (hcap : ∀ (i j : Nat) (x : Str), cap[i]? = some (some j) → N'[i]? = some x → X.N[j]? = some x ∧ Vis X.env.scope x ∧ X.env.kindOf x ≠ some .local ∧ ((relabel scope X.env).names.lookup x = some .cell ∨ (relabel scope X.env).names.lookup x = some .free))
    (hs : ∀ x, foldedSetIterable iter X.env x = pure x := by intro _; rfl) : DE X (.ListComp elt [⟨tg, iter, ifs, 0⟩] scope pos) (oO cap src g c te) := by
  refine Cm fun pins s σ H ρ μ Qd Q I S h k => ?_
  obtain ⟨wi, pw, li⟩ := hi
  rw [eval_ListComp]
  refine wpAny_comprehension_free (use := none) rfl hs hclos hkind hnames (thn (pw pins s σ H _ I (li σ H ρ μ _ (fun J H1 => ∃ xs μ1, Ext X.K μ H μ1 H1 ∧ St0 X.K H1 ρ μ1 σ ∧ AG X.K J xs μ1 H1 ∧ xs.length ≤ 1000 ∧ ∃ f : PyData → Option PyData,
      (∀ x ∈ xs, ∀ μ' : Mu, (∀ a ds, μ1 a = some ds → μ' a = some ds) → g (.v x) (bz cap ρ) μ' fun ρ2 μ2 => Le (bz cap ρ) ρ2 ∧ c ρ2 μ2 fun b μ3 =>
        if b = true then te ρ2 μ3 fun d μ4 => μ4 = μ' ∧ (match d with | .v y => f x = some y | _ => False) else μ3 = μ' ∧ f x = none) ∧ Qd (.v (.list (xs.filterMap f))) μ1) S h (fun xs μ1 H1 J e1 S1 it q => ⟨xs, μ1, e1, S1, it, q⟩)))
    fun v s1 h1 => thn h1 fun itv s2 h2 => ?_)
  obtain ⟨it, fp, tn, J, H2, rfl, I2, T, st2, f2, xs, μ1, e1, S1, itok, hxs, f, body, fin⟩ := h2
  refine wpAny_newObj_type (wpAny_newFunctionEnv hcell (by intro y hy; simp at hy) (fun h₁ hns₁ hsb₁ => ?_) hkind)
  dsimp only at hns₁ hsb₁ ⊢
  have hfree2 : H2 s2.heap.objs.size = none := I2.hok.fresh (Nat.le_refl _)
  have hK2 : X.K.lookup s2.heap.objs.size = none := by
    cases z : X.K.lookup s2.heap.objs.size with
    | none => rfl
    | some o => exact absurd (Heap.lt_size (I2.kIn _ _ z)) (Nat.lt_irrefl _)
  have I3 : Inv X pins σ (upd H2 s2.heap.objs.size (.lst [])) { s2 with heap := s2.heap.push { cls := .type "list", dict := none, data := .seq ([] : List Value).toArray } } :=
    I2.laid (t' := s2.toks) (fun b u e => Heap.get?_push_of_some _ e) (Nat.le_refl _) ⟨Nat.zero_le _, [], 0, .nil, Heap.get?_push_size _ rfl⟩
  generalize hH : s2.heap.push { cls := .type "list", dict := none, data := .seq ([] : List Value).toArray } = hp3 at hns₁ hsb₁ I3 ⊢
  have hsz3 : hp3.objs.size = s2.heap.objs.size + 1 := by rw [← hH, Heap.size_push]
  have kept3 : ∀ b o, hp3.get? b = some o → h₁.get? b = some o := fun b o e => hsb₁.extBut b o (Nat.ne_of_lt (Heap.lt_size e)) (Heap.get?_push_of_some _ e)
  have old3 : ∀ b o, s2.heap.get? b = some o → hp3.get? b = some o := fun b o e => by rw [← hH]; exact Heap.get?_push_of_some _ e
  have fplt : ∀ b ∈ fp, b < s2.heap.objs.size := fun b hb => by obtain ⟨o, e, _⟩ := T.obj 0 _ st2 b hb; exact Heap.lt_size e
  have fpst : ∀ b ∈ fp, b ∉ frs X.stack := fun b hb hz => by
    rcases List.mem_cons.mp (I2.jy b hz) with e | e
    · exact (f2 b hb).2.1 e
    · exact (f2 b hb).2.2.1 e
  obtain ⟨s3, hs3⟩ : ∃ s3 : Shared, s3 = { s2 with heap := hp3 } := ⟨_, rfl⟩
  obtain ⟨H3, hH3⟩ : ∃ H3 : Hp, H3 = upd H2 s2.heap.objs.size (.lst []) := ⟨_, rfl⟩
  have heap3 : s3.heap = hp3 := by rw [hs3]
  rw [← hH3] at I3
  have I3' : Inv X pins σ H3 s3 := by rw [hs3]; exact I3
  have hloc : H3 hp3.objs.size = none := by have := I3'.hok.fresh (a := hp3.objs.size) (by rw [heap3]; exact Nat.le_refl _); exact this
  have okc : (aM X N' scope cl fp s3 H3).Ok := by
    refine ⟨I3.ok.mod, ?_, I3.ok.glob, I3.ok.blt, Nat.le_refl _, fun x y a h1 h2 => I3.ok.inj x y a (hcl x a h1) (hcl y a h2), fun x hx => hhas x hx, fun x a h => (nomatch h), I3.ok.hd, I3.ok.qt, I3.ok.frames, .inl rfl, fun b hb => ⟨?_, fun x a h => (f2 b hb).2.2.2.2.1 x a (hcl x a h)⟩,
      I3'.bs, Nat.le_trans I3.ok.bsz I3'.sz, fun b o e hb => ?_, fun b hb => fpst b hb, I3'.stack, I3'.oj⟩
    · exact hkind
    · show b ≠ s3.heap.objs.size
      rw [heap3, hsz3]
      exact Nat.ne_of_lt (Nat.lt_succ_of_lt (fplt b hb))
    · rcases (f2 b hb).2.2.2.1 with z | z
      · exact I3.ok.vj b o e z
      · exact absurd (Nat.lt_of_lt_of_le (Heap.lt_size (I3.ok.bs b o e).1) z) (Nat.lt_irrefl _)
  have I4 : Inv (aM X N' scope cl fp s3 H3) [] (bz cap σ) H3 { s2 with heap := h₁, toks := s2.toks + ([] : List (Str × Value)).length } := by
    refine ⟨okc, by show s2.os = s3.os; rw [hs3], I3.bare, Un.kept (by show ∀ b o, s3.heap.get? b = some o → _; rw [heap3]; exact kept3), ⟨_, (by show h₁.Ns s3.heap.objs.size _; rw [heap3]; exact hns₁), fun i x v e1 e2 e3 => ?_⟩, fun x a h => ?_, (by show H3 s3.heap.objs.size = none; rw [heap3]; exact hloc), fun x a h => I3.jg x a (hcl x a h), fun p hp => ?_, I3.hok.kept kept3, ?_⟩
    · obtain ⟨j, h1, h2⟩ := mi e2
      obtain ⟨hN, hv, hnl, hk⟩ := hcap i j x h1 e1
      obtain ⟨m, _, hl⟩ := I3.loc
      obtain ⟨u, r, lk⟩ := hl j x v hN h2 hv
      refine ⟨u, r, .inr ⟨hk, ?_⟩⟩
      obtain ⟨a, ha⟩ := hhas x hk
      rcases lk with ⟨z, _⟩ | ⟨_, a', z1, z2⟩
      · exact absurd z hnl
      · have : a' = a := by have q := hcl x a ha; rw [z1] at q; exact Option.some.inj q
        subst this
        obtain ⟨o, ho, hd⟩ := z2
        exact ⟨a', ha, o, kept3 _ _ ho, hd⟩
    · obtain ⟨v, o, ho, hd⟩ := I3.cell x a (hcl x a h)
      exact ⟨v, o, kept3 _ _ ho, hd⟩
    · have hp' : p ∈ X.pn ++ pins := List.mem_append_left _ (by simpa using (show p ∈ X.pn ++ [] from hp))
      obtain ⟨z1, z2, z3, z4, z5⟩ := I3'.pin p hp'
      refine ⟨kept3 _ _ (by rw [← heap3]; exact z1), z2, (show p.1 ≠ s3.heap.objs.size from Nat.ne_of_lt (Heap.lt_size z1)), fun z => ?_, z5⟩
      rcases List.mem_cons.mp (I3'.jy p.1 z) with e | e
      · exact z3 e
      · exact z4 e
    · show (bz cap σ).length = N'.length
      unfold bz
      rw [List.length_map]
      exact hlen
  have hμ1 : μ1 s2.heap.objs.size = none := S1.mu.free hfree2
  have sub1 : ∀ ys a ds, μ1 a = some ds → aw μ1 s2.heap.objs.size ys a = some ds := fun ys a ds e => by
    have : a ≠ s2.heap.objs.size := fun z => by rw [z, hμ1] at e; cases e
    rw [cD this]; exact e
  have loop : codeAny (model X.prog X.w) X.A (.compLoop (.ListComp elt [⟨tg, iter, ifs, 0⟩] scope pos) 0 (.ref it) (.ref s2.heap.objs.size) (aM X N' scope cl fp s3 H3).env)
      (compPost (model X.prog X.w) X.A X.xe none (EP X pins σ Q) (.ref s2.heap.objs.size) hp3.objs.size) { s2 with heap := h₁, toks := s2.toks + ([] : List (Str × Value)).length } := by
    refine eh (fun n s' => ∃ (i : Nat) (σc : St) (Hc : Hp), n = xs.length - i ∧ i ≤ xs.length ∧ Inv (aM X N' scope cl fp s3 H3) [] σc Hc s' ∧ tn i s'.heap ∧ (∀ b ∈ fp, Hc b = none) ∧
      St0 X.K Hc (bz cap ρ) (aw μ1 s2.heap.objs.size ((xs.take i).filterMap f)) σc ∧ Ext X.K μ1 H2 (aw μ1 s2.heap.objs.size ((xs.take i).filterMap f)) Hc) ?_ xs.length
      ⟨0, bz cap σ, H3, by simp, Nat.zero_le _, I4, T.keep 0 _ _ st2 (fun b hb o e => kept3 b o (old3 b o e)), fun b hb => ?_, ?_, ?_⟩
    · rintro n s' ⟨i, σc, Hc, rfl, hi, Ic, tc, frc, Sc, Ec⟩
      have stat : ∀ {Hd : Hp}, (∀ b ∈ fp, Hd b = none) → ∀ b ∈ fp, qk (aM X N' scope cl fp s3 H3) [] Hd b := fun hn b hb =>
        ⟨hn b hb, (okc.exf b hb).1, fpst b hb, .inl hb, fun x a h => (okc.exf b hb).2 x a h, fun p hp => (f2 b hb).2.2.2.2.2 p (List.mem_append_left _ (by simpa using (show p ∈ X.pn ++ [] from hp)))⟩
      obtain ⟨go, stop⟩ := itok _ Hc Ec Sc.mu i
      by_cases hlt : i < xs.length
      · obtain ⟨g1, y1⟩ := go hlt
        refine thn (T.item (aM X N' scope cl fp s3 H3) rfl rfl rfl (fun z => z) i [] s' σc Hc (fun _ _ => False) Ic (stat frc) tc g1) fun r s4 ⟨u, hr, h4⟩ => ?_
        subst hr
        refine thn h4 fun _ s5 ⟨x, H5, I5, r5, y5, st5, fr5⟩ => ?_
        obtain ⟨d, hd, sm, rd⟩ := y1 x H5 y5
        have I5' := I5.pinned (stat fr5) (T.obj _ _ st5)
        have e5 : Ext X.K _ Hc _ H5 := .of_same (μ := aw μ1 s2.heap.objs.size ((xs.take i).filterMap f)) sm
        have S5 : St0 X.K H5 (bz cap ρ) (aw μ1 s2.heap.objs.size ((xs.take i).filterMap f)) σc := ⟨Sc.mu.Av e5 sm, Sc.rho.ext Sc.mu e5⟩
        obtain ⟨gt, pg, lg⟩ := hg fp s3 H3
        have hmem : d ∈ xs := List.mem_of_getElem? hd
        refine thn (pg _ s5 σc H5 x u (fun σ' H' => ∃ ρ' μ', Ext X.K (aw μ1 s2.heap.objs.size ((xs.take i).filterMap f)) H5 μ' H' ∧ St0 X.K H' ρ' μ' σ' ∧ Le (bz cap ρ) ρ' ∧ c ρ' μ' fun b μ3 =>
            if b = true then te ρ' μ3 fun d' μ4 => μ4 = aw μ1 s2.heap.objs.size ((xs.take i).filterMap f) ∧ (match d' with | .v y => f d = some y | _ => False) else μ3 = aw μ1 s2.heap.objs.size ((xs.take i).filterMap f) ∧ f d = none) I5' r5
          (lg σc H5 (bz cap ρ) _ (.v d) x _ _ S5 rd (body d hmem _ (sub1 _)) fun σ' ρ' μ' H' e' S' q => ⟨ρ', μ', e', S', q⟩)) fun _ s6 ⟨σ6, H6, I6, ρ6, μ6, e6, S6, le6, q6⟩ => ?_
        refine thn (hif fp s3 H3 _ s6 σ6 H6 ρ6 μ6 _ (fun b H' => ∃ μ', Ext X.K μ6 H6 μ' H' ∧ St0 X.K H' ρ6 μ' σ6 ∧ if b = true then te ρ6 μ' fun d' μ4 => μ4 = aw μ1 s2.heap.objs.size ((xs.take i).filterMap f) ∧ (match d' with | .v y => f d = some y | _ => False) else μ' = aw μ1 s2.heap.objs.size ((xs.take i).filterMap f) ∧ f d = none)
          I6 S6 q6 fun b μ' H' e' S' q => ⟨μ', e', S', q⟩) fun b s7 ⟨H7, I7, μ7, e7, S7, q7⟩ => ?_
        have again : ∀ {H9 : Hp} {s9 : Shared}, Inv (aM X N' scope cl fp s3 H3) ([] ++ kr fp s5.heap) σ6 H9 s9 → bC X.K (aw μ1 s2.heap.objs.size ((xs.take (i + 1)).filterMap f)) H9 → fv X.K (aw μ1 s2.heap.objs.size ((xs.take (i + 1)).filterMap f)) H9 (bz cap ρ) σ6 →
            Ext X.K μ1 H2 (aw μ1 s2.heap.objs.size ((xs.take (i + 1)).filterMap f)) H9 → ∃ m, m < xs.length - i ∧ ∃ (i : Nat) (σc : St) (Hc : Hp), m = xs.length - i ∧ i ≤ xs.length ∧ Inv (aM X N' scope cl fp s3 H3) [] σc Hc s9 ∧ tn i s9.heap ∧ (∀ b ∈ fp, Hc b = none) ∧
              St0 X.K Hc (bz cap ρ) (aw μ1 s2.heap.objs.size ((xs.take i).filterMap f)) σc ∧ Ext X.K μ1 H2 (aw μ1 s2.heap.objs.size ((xs.take i).filterMap f)) Hc := fun {H9 s9} I9 m9 r9 e9 => by
          refine ⟨xs.length - (i + 1), by omega, i + 1, σ6, H9, rfl, hlt, I9.gp, T.keep _ _ _ st5 fun b hb o e => (I9.pin (b, o) (List.mem_append_right _ (List.mem_append_right _ (cA hb e)))).1, fun b hb => ?_, ⟨m9, r9⟩, e9⟩
          obtain ⟨o, e, _⟩ := T.obj _ _ st5 b hb
          exact (I9.pin (b, o) (List.mem_append_right _ (List.mem_append_right _ (cA hb e)))).2.1
        cases b with
        | false =>
          have q8 : μ7 = aw μ1 s2.heap.objs.size ((xs.take i).filterMap f) ∧ f d = none := by simpa using q7
          refine rD ?_
          have et : (xs.take (i + 1)).filterMap f = (xs.take i).filterMap f := by rw [mr hd, q8.2]; simp
          have eμ : aw μ1 s2.heap.objs.size ((xs.take (i + 1)).filterMap f) = μ7 := by rw [et, q8.1]
          refine again I7 (by rw [eμ]; exact S7.mu) (by rw [eμ]; exact S7.rho.le le6) ?_
          rw [eμ]
          exact Ec.trans (e5.trans (e6.trans e7))
        | true =>
          refine sP ?_
          obtain ⟨t8, p8, l8⟩ := he fp s3 H3
          refine thn (p8 _ s7 σ6 H7 (fun v H' => ∃ y, Ext X.K μ7 H7 (aw μ1 s2.heap.objs.size ((xs.take i).filterMap f)) H' ∧ St0 X.K H' ρ6 (aw μ1 s2.heap.objs.size ((xs.take i).filterMap f)) σ6 ∧ Rp X.K (aw μ1 s2.heap.objs.size ((xs.take i).filterMap f)) H' y v ∧ f d = some y) I7
            (l8 σ6 H7 ρ6 μ7 _ _ S7 (by simpa using q7) fun d' v μ8 H8 e8 S8 r8 q8 => ?_)) fun v s8 ⟨v8, H8, I8, r8, y, e8, S8, ry, fy⟩ => ?_
          · obtain ⟨rfl, q8⟩ := q8
            cases d' with
            | v y => exact ⟨y, e8, S8, r8, q8⟩
            | m _ => exact q8.elim
            | s _ => exact q8.elim
            | o _ => exact q8.elim
            | q _ => exact q8.elim
          · obtain ⟨us, hacc, rus⟩ := S8.mu s2.heap.objs.size _ aD
            have hle : ((xs.take i).filterMap f).length ≤ 1000 := Nat.le_trans (List.length_filterMap_le _ _) (Nat.le_trans (by rw [List.length_take]; exact Nat.min_le_right _ _) hxs)
            refine thn (j2 (X := aM X N' scope cl fp s3 H3) _ s8 σ6 H8 (.ref s2.heap.objs.size) [v8] (.ref s2.heap.objs.size) [v] (fun _ H' => H' = upd H8 s2.heap.objs.size (.lst (us ++ [v8]))) I8 rfl (.cons r8 .nil) ⟨_, us, v8, rfl, rfl, hacc, by rw [← rus.length]; exact di hle, rfl⟩) fun _ s9 ⟨_, H9, I9, _, e9⟩ => ?_
            subst e9
            have et : (xs.take (i + 1)).filterMap f = (xs.take i).filterMap f ++ [y] := by rw [mr hd, fy]; rfl
            have mset : aw (aw μ1 s2.heap.objs.size ((xs.take i).filterMap f)) s2.heap.objs.size ((xs.take (i + 1)).filterMap f) = aw μ1 s2.heap.objs.size ((xs.take (i + 1)).filterMap f) := mT
            have ex : Ext X.K (aw μ1 s2.heap.objs.size ((xs.take i).filterMap f)) H8 (aw μ1 s2.heap.objs.size ((xs.take (i + 1)).filterMap f)) (upd H8 s2.heap.objs.size (.lst (us ++ [v8]))) := by
              rw [← mset]
              exact iS aD
            refine again I9 ?_ ((S8.rho.le le6).ext S8.mu ex) (Ec.trans (e5.trans (e6.trans (e7.trans (e8.trans ex)))))
            rw [← mset]
            refine S8.mu.set aD ?_
            rw [et]
            exact rus.append (.cons ry .nil)
      · have ei : i = xs.length := by omega
        subst ei
        refine thn (T.done (aM X N' scope cl fp s3 H3) rfl rfl rfl (fun z => z) _ [] s' σc Hc (fun _ _ => False) Ic (stat frc) tc (stop rfl)) fun r s4 ⟨hr, I5⟩ => ?_
        subst hr
        rw [List.take_length] at Sc Ec
        obtain ⟨m, hn, _⟩ := I5.loc
        refine ⟨m, (by have z : s4.heap.Ns s3.heap.objs.size m := hn; rw [heap3] at z; exact z), fun h' hs' => ?_⟩
        have kp : ∀ b o, b < s2.heap.objs.size → s4.heap.get? b = some o → h'.get? b = some o := fun b o hb e => hs'.extBut b o (by rw [hsz3]; exact Nat.ne_of_lt (Nat.lt_succ_of_lt hb)) e
        have hcC : Hc hp3.objs.size = none := by have z : Hc s3.heap.objs.size = none := I5.free; rw [heap3] at z; exact z
        have hok' : HOk X.prog X.w Hc h' := fun b ob e => by
          refine (I5.hok b ob e).sS (fun cc v hcc q => hs'.extBut cc v ?_ q) (fun _ q => q) fun _ _ q => q
          rintro rfl
          rcases hcc with z | z
          · rw [← z, hcC] at e; cases e
          · rw [hcC] at z; cases z
        have u1 : Un (frs X.stack) fp H2 H3 s2.heap s3.heap := by rw [heap3, hH3]; exact Un.laid old3 (Nat.le_refl _) hfree2
        have u2 : Un (frs X.stack) fp H3 Hc s3.heap s4.heap := I5.base
        have If : Inv X pins σ Hc { s4 with heap := h' } := I2.xj (ch := fp) (by show s4.os = s2.os; have z : s4.os = s3.os := I5.os; rw [z, hs3]) (Un.after (u1.trans u2) kp) hok' I5.bare fun b hb => ⟨(f2 b hb).2.2.2.1, (f2 b hb).2.1, (f2 b hb).2.2.2.2.1, (f2 b hb).2.2.2.2.2⟩
        obtain ⟨us, hacc, rus⟩ := Sc.mu s2.heap.objs.size _ aD
        have shr : ∀ a, aw μ1 s2.heap.objs.size (xs.filterMap f) a = none → μ1 a = none := fun a e => by
          by_cases ha : a = s2.heap.objs.size
          · rw [ha]; exact hμ1
          · rw [cD ha] at e; exact e
        have eF : Ext X.K μ1 H2 μ1 Hc := ⟨Ec.keep, Ec.tb, fun _ ds q => ⟨ds, q⟩, fun _ q _ => q⟩
        have mF : bC X.K μ1 Hc := ⟨fun a ds q => by
          obtain ⟨ys, z1, z2⟩ := Sc.mu a ds (sub1 _ a ds q)
          exact ⟨ys, z1, z2.shrink shr⟩, Sc.mu.tab⟩
        exact ⟨.ref s2.heap.objs.size, Hc, If, rfl, k (.v (.list (xs.filterMap f))) _ μ1 Hc (e1.trans eF) ⟨mF, S1.rho.ext S1.mu eF⟩ (Rp.list hacc hμ1 (rus.shrink shr)) fin⟩
    · have z : b ≠ s2.heap.objs.size := Nat.ne_of_lt (fplt b hb)
      rw [hH3, bo z]
      exact (f2 b hb).1
    · have ex := gB (o := .lst []) (ds := []) S1.mu hfree2 hK2
      rw [hH3]
      exact ⟨S1.mu.mut .nil hfree2 hK2, (S1.rho.ext S1.mu ex).cap⟩
    · rw [hH3]
      exact gB (o := .lst []) (ds := []) S1.mu hfree2 hK2
  have envE : (aM X N' scope cl fp s3 H3).env = compEnvC scope cl hp3.objs.size X.env := by show compEnvC scope cl s3.heap.objs.size X.env = _; rw [heap3]
  rw [envE] at loop
  exact codeAny_compStart_list loop (T.self X.A 0 _ _ _ (T.keep 0 _ _ st2 (fun b hb o e => kept3 b o (old3 b o e))) loop)
open PySem PySem.Spec PyProof.Rows
section
variable {X : Cx} {a b c : Expr} {ta tb tc : DTE} {pos : Pos}
def Eb (r r' : D → D → Mu → DK → Prop) (ta tb tc : DTE) : DTE := fun ρ μ Q => ta ρ μ fun x μ1 => tb ρ μ1 fun y μ2 => r x y μ2 fun z μ3 => match z with
  | .v (.bool k) => if k = true then tc ρ μ3 fun w μ4 => r' y w μ4 Q else Q (.v (.bool false)) μ3
  | _ => False
end
open PySem PySem.Spec PyProof.Rows
theorem tV {α : Type} {x : α} {xs : List α} : atI (x :: xs) 0 = some x := by unfold atI ixN; simp
theorem uA {α : Type} {x y : α} {xs : List α} : atI (x :: y :: xs) 1 = some y := by
  have h := nZ (xs := x :: y :: xs) (j := 1) (v := y) rfl
  exact h
theorem xq {α : Type} {x y z : α} {xs : List α} : atI (x :: y :: z :: xs) 2 = some z := by
  have h := nZ (xs := x :: y :: z :: xs) (j := 2) (v := z) rfl
  exact h
theorem zP {α : Type} {x y z u : α} {xs : List α} : atI (x :: y :: z :: u :: xs) 3 = some u := by
  have h := nZ (xs := x :: y :: z :: u :: xs) (j := 3) (v := u) rfl
  exact h
def nC : D → D → Mu → DK → Prop := fun x y μ Q => match x, y with
  | .v (.int i), .v (.int j) => Q (.v (.int (i + j))) μ
  | .v (.tuple xs), .v (.tuple ys) => xs.length + ys.length ≤ 1000 ∧ Q (.v (.tuple (xs ++ ys))) μ
  | _, _ => uJ x y μ Q
theorem OpR.or {X : Cx} {f} {r1 r2 : R2} (h1 : OpR X f r1) (h2 : OpR X f r2) : OpR X f (fun x y H Q => r1 x y H Q ∨ r2 x y H Q) := by
  intro pins s σ H x y v u Q I rx ry h
  rcases h with h | h
  · exact h1 pins s σ H x y v u Q I rx ry h
  · exact h2 pins s σ H x y v u Q I rx ry h
theorem D6 {K : PySem.W.Frag} : fL K (fun x y H Q => (rI0 fun i j => .int (i + j)) x y H Q ∨ ((vX K) x y H Q ∨ C5 x y H Q)) nC := by
  intro x y ux uy H μ Qd Q ok rx ry h k
  unfold nC at h
  split at h
  · exact .inl (wX (K := K) (gd := fun i j => .int (i + j)) (fun _ _ _ _ => .int _) _ _ ux uy H μ Qd Q ok rx ry h k)
  · exact .inr (.inl (Bn _ _ ux uy H μ Qd Q ok rx ry h k))
  · exact .inr (.inr (Ek _ _ ux uy H μ Qd Q ok rx ry h k))
theorem Az {X : Cx} {a b : Expr} {ta tb : DTE} {pos : Pos} (ha : DE X a ta) (hb : DE X b tb) : DE X (.BinOp a .Add b pos) (dOp nC ta tb) := oS (Au.or (Ah.or Ed)) D6 ha hb
section
variable {ρ : Rho} {μ : Mu} {Q : DK} {QT : Bool → Mu → Prop} {QA : List D → Mu → Prop} {QG : Rho → Mu → Prop} {QI : List PyData → Mu → Prop} {QO : Option Int → Mu → Prop} {Dd : zI} {ta tb tc : DTE} {t u : DTT} {tA : DTA} {s1 s2 : DTS} {i j : Int} {x y : PyData} {xs ys : List PyData} {d e : D}
def oB : DTS := fun _ _ _ => False
theorem oZ {X : Cx} {st : Stmt} : DS X st oB := ⟨fun _ _ _ => False, fun _ _ _ _ _ _ h => h.elim, fun _ _ _ _ _ _ _ h => h.elim⟩
theorem Ac {o : Rho} : af 0 (some d :: o) μ Q = Q d μ := propext Iff.rfl
theorem zQ {a} {o : Rho} : af 1 (a :: some d :: o) μ Q = Q d μ := propext Iff.rfl
theorem zu {a b} {o : Rho} : af 2 (a :: b :: some d :: o) μ Q = Q d μ := propext Iff.rfl
theorem wa {a b c} {o : Rho} : af 3 (a :: b :: c :: some d :: o) μ Q = Q d μ := propext Iff.rfl
theorem sA {a b c f} {o : Rho} : af 4 (a :: b :: c :: f :: some d :: o) μ Q = Q d μ := propext Iff.rfl
theorem As {a b c f g} {o : Rho} : af 5 (a :: b :: c :: f :: g :: some d :: o) μ Q = Q d μ := propext Iff.rfl
theorem zh {a b c f g h} {o : Rho} : af 6 (a :: b :: c :: f :: g :: h :: some d :: o) μ Q = Q d μ := propext Iff.rfl
theorem zO {a b c f g h k} {o : Rho} : af 7 (a :: b :: c :: f :: g :: h :: k :: some d :: o) μ Q = Q d μ := propext Iff.rfl
theorem zf {a b c f g h k l} {o : Rho} : af 8 (a :: b :: c :: f :: g :: h :: k :: l :: some d :: o) μ Q = Q d μ := propext Iff.rfl
theorem yy {a b c f g h k l m} {o : Rho} : af 9 (a :: b :: c :: f :: g :: h :: k :: l :: m :: some d :: o) μ Q = Q d μ := propext Iff.rfl
theorem wK {a b c f g h k l m n} {o : Rho} : af 10 (a :: b :: c :: f :: g :: h :: k :: l :: m :: n :: some d :: o) μ Q = Q d μ := propext Iff.rfl
theorem q_c : dC x ρ μ Q = Q (.v x) μ := propext Iff.rfl
theorem Fe {r} : dOp r ta tb ρ μ Q = ta ρ μ fun x μ1 => tb ρ μ1 fun y μ2 => r x y μ2 Q := propext Iff.rfl
theorem q_B : dB ta ρ μ QT = ta ρ μ fun d μ1 => match d with | .v (.bool k) => QT k μ1 | _ => False := propext Iff.rfl
theorem Eu {C : Int → Int → Prop} {g : Int → Int → PyData} : rII C g (.v (.int i)) (.v (.int j)) μ Q = (C i j ∧ Q (.v (g i j)) μ) := propext Iff.rfl
theorem Cr {g : Int → Int → PyData} : qD g (.v (.int i)) (.v (.int j)) μ Q = Q (.v (g i j)) μ := propext Iff.rfl
theorem Cd : oU ta ρ μ Q = ta ρ μ fun x μ1 => match x with | .v (.int i) => Q (.v (.int (-i))) μ1 | _ => False := propext Iff.rfl
theorem yU : uk t u ρ μ QT = t ρ μ fun c μ1 => if c = true then u ρ μ1 QT else QT false μ1 := propext Iff.rfl
theorem BZ : kD t u ρ μ QT = t ρ μ fun c μ1 => if c = true then QT true μ1 else u ρ μ1 QT := propext Iff.rfl
theorem yq : eM t ρ μ QT = t ρ μ fun c μ1 => QT (!c) μ1 := propext Iff.rfl
theorem Aq : oJ ta tb ρ μ Q = ta ρ μ fun x μ1 => match x with | .v (.bool c) => if c = true then tb ρ μ1 Q else Q (.v (.bool false)) μ1 | _ => False := propext Iff.rfl
theorem Cg : Gw ta tb ρ μ Q = ta ρ μ fun x μ1 => match x with | .v (.bool c) => if c = true then Q (.v (.bool true)) μ1 else tb ρ μ1 Q | _ => False := propext Iff.rfl
theorem zC : wD ta ρ μ Q = ta ρ μ fun x μ1 => match x with | .v (.bool c) => Q (.v (.bool (!c))) μ1 | _ => False := propext Iff.rfl
theorem E8 : dIf t ta tb ρ μ Q = t ρ μ fun c μ1 => if c = true then ta ρ μ1 Q else tb ρ μ1 Q := propext Iff.rfl
theorem yK : ak ρ μ QA = QA [] μ := propext Iff.rfl
theorem wk : ab ta tA ρ μ QA = ta ρ μ fun x μ1 => tA ρ μ1 fun xs μ2 => QA (x :: xs) μ2 := propext Iff.rfl
theorem Ca : cK tA ρ μ Q = tA ρ μ fun ds μ1 => match bR ds with | some xs => Q (.v (.tuple xs)) μ1 | none => False := propext Iff.rfl
theorem B3 : kv tA ρ μ Q = tA ρ μ fun ds μ1 => match bR ds with | some xs => Q (.v (.list xs)) μ1 | none => False := propext Iff.rfl
theorem Ag : q9 tA ρ μ Q = tA ρ μ fun ds μ1 => match bR ds with | some xs => ∀ p, μ1 p = none → Q (.m p) (aw μ1 p xs) | none => False := propext Iff.rfl
theorem Ci : bR [] = some [] := by rw [bR]
theorem Cz {r : List D} : bR (.v x :: r) = (bR r).map (x :: ·) := by rw [bR]
theorem yM {neg : Bool} : cS neg (.v x) (.v y) μ Q = (SeqAt.shaped x = true ∧ SeqAt.shaped y = true ∧ Q (.v (.bool (neg ^^ PyData.eqv x y))) μ) := propext Iff.rfl
theorem BU {neg : Bool} : cS neg (.v (.int i)) (.v (.int j)) μ Q = Q (.v (.bool (neg ^^ decide (i = j)))) μ := by
  have e : PyData.eqv (.int i) (.int j) = decide (i = j) := by simp [PyData.eqv]; rfl
  rw [yM, e]
  exact propext ⟨fun h => h.2.2, fun h => ⟨rfl, rfl, h⟩⟩
theorem BP {neg : Bool} : cS neg (.v (.tuple xs)) (.v (.tuple ys)) μ Q = (SeqAt.shaped (.tuple xs) = true ∧ SeqAt.shaped (.tuple ys) = true ∧ Q (.v (.bool (neg ^^ PyData.eqv (.tuple xs) (.tuple ys)))) μ) := propext Iff.rfl
theorem B9 {neg : Bool} : cS neg (.v (.list xs)) (.v (.list ys)) μ Q = (SeqAt.shaped (.list xs) = true ∧ SeqAt.shaped (.list ys) = true ∧ Q (.v (.bool (neg ^^ PyData.eqv (.list xs) (.list ys)))) μ) := propext Iff.rfl
theorem B6 {neg a b : Bool} : cS neg (.v (.bool a)) (.v (.bool b)) μ Q = Q (.v (.bool (neg ^^ (a == b)))) μ := by
  have e : PyData.eqv (.bool a) (.bool b) = (a == b) := by cases a <;> cases b <;> simp [PyData.eqv] <;> rfl
  rw [yM, e]
  exact propext ⟨fun h => h.2.2, fun h => ⟨rfl, rfl, h⟩⟩
theorem Cp {neg : Bool} : AB neg (.v x) (.v (.list ys)) μ Q = (PyData.canLayAll0 ys = true ∧ x.canLay0 = true ∧ PyData.depth x ≤ 60 ∧ Q (.v (.bool (neg ^^ ys.any fun b => PyData.eqv b x))) μ) := propext Iff.rfl
theorem uN : ax (.v (.list xs)) (.v (.int i)) μ Q = (match atI xs i with | some d => Q (.v d) μ | none => False) := propext Iff.rfl
theorem qW : ax (.v (.tuple xs)) (.v (.int i)) μ Q = (match atI xs i with | some d => Q (.v d) μ | none => False) := propext Iff.rfl
theorem BX {l : Addr} : ax (.m l) (.v (.int i)) μ Q = (match μ l with | some xs => (match atI xs i with | some d => Q (.v d) μ | none => False) | none => False) := propext Iff.rfl
theorem Cu {ns : List Int} : ax (.s ns) (.v (.int i)) μ Q = (match atI ns i with | some d => Q (.v (.int d)) μ | none => False) := propext Iff.rfl
theorem zT : ax (.v (.list (x :: xs))) (.v (.int 0)) μ Q = Q (.v x) μ := by rw [uN, tV]
theorem vi : ax (.v (.tuple (x :: xs))) (.v (.int 0)) μ Q = Q (.v x) μ := by rw [qW, tV]
theorem yD {z} : ax (.v (.list (z :: x :: xs))) (.v (.int 1)) μ Q = Q (.v x) μ := by rw [uN, uA]
theorem vM {z} : ax (.v (.tuple (z :: x :: xs))) (.v (.int 1)) μ Q = Q (.v x) μ := by rw [qW, uA]
theorem yG {z w} : ax (.v (.list (z :: w :: x :: xs))) (.v (.int 2)) μ Q = Q (.v x) μ := by rw [uN, xq]
theorem wb {z w} : ax (.v (.tuple (z :: w :: x :: xs))) (.v (.int 2)) μ Q = Q (.v x) μ := by rw [qW, xq]
theorem yQ {z w v} : ax (.v (.tuple (z :: w :: v :: x :: xs))) (.v (.int 3)) μ Q = Q (.v x) μ := by rw [qW, zP]
theorem Cc : uJ d e μ Q = (match nu μ d, nu μ e with | some xs, some ys => xs.length + ys.length ≤ 1000 ∧ Q (.v (.list (xs ++ ys))) μ | _, _ => False) := propext Iff.rfl
theorem zL : wq (.v (.tuple xs)) (.v (.tuple ys)) μ Q = (xs.length + ys.length ≤ 1000 ∧ Q (.v (.tuple (xs ++ ys))) μ) := propext Iff.rfl
theorem yF : nC (.v (.int i)) (.v (.int j)) μ Q = Q (.v (.int (i + j))) μ := propext Iff.rfl
theorem zM : nC (.v (.tuple xs)) (.v (.tuple ys)) μ Q = (xs.length + ys.length ≤ 1000 ∧ Q (.v (.tuple (xs ++ ys))) μ) := propext Iff.rfl
theorem yj : nC (.v (.list xs)) (.v (.list ys)) μ Q = (xs.length + ys.length ≤ 1000 ∧ Q (.v (.list (xs ++ ys))) μ) := propext Iff.rfl
theorem yB {a : Addr} : nC (.m a) e μ Q = uJ (.m a) e μ Q := propext Iff.rfl
theorem EK {tl th : DTO} : dSl ta tl th ρ μ Q = ta ρ μ fun x μ1 => tl ρ μ1 fun l μ2 => th ρ μ2 fun u μ3 => x9 x l u μ3 Q := propext Iff.rfl
theorem uh : rp ρ μ QO = QO none μ := propext Iff.rfl
theorem zm : Aa ta ρ μ QO = ta ρ μ fun x μ1 => match x with | .v (.int i) => QO (some i) μ1 | _ => False := propext Iff.rfl
theorem Cv {lo hi : Option Int} : x9 (.v (.tuple xs)) lo hi μ Q = Q (.v (.tuple (kK xs lo hi))) μ := propext Iff.rfl
theorem Cb {lo hi : Option Int} : x9 (.v (.list xs)) lo hi μ Q = Q (.v (.list (kK xs lo hi))) μ := propext Iff.rfl
theorem Ct : FR ta ρ μ Q = ta ρ μ fun x μ1 => match x with | .v (.tuple xs) => Q (.v (.tuple xs.reverse)) μ1 | .v (.list xs) => Q (.v (.list xs.reverse)) μ1 | .m l => (match μ1 l with | some xs => Q (.v (.list xs.reverse)) μ1 | none => False) | _ => False := propext Iff.rfl
theorem Fu {rd} : dCB rd tA ρ μ Q = tA ρ μ fun ds μ1 => rd ds μ1 Q := propext Iff.rfl
theorem yX : gr [.v (.list ys)] μ Q = Q (.v (.int (ys.length : Nat))) μ := propext Iff.rfl
theorem yu : gr [.v (.tuple ys)] μ Q = Q (.v (.int (ys.length : Nat))) μ := propext Iff.rfl
theorem zy {ns : List Int} : gr [.s ns] μ Q = Q (.v (.int (ns.length : Nat))) μ := propext Iff.rfl
theorem zS {l : Addr} : gr [.m l] μ Q = (match μ l with | some ys => Q (.v (.int (ys.length : Nat))) μ | none => False) := propext Iff.rfl
theorem Cs : lu [.v (.int i)] μ Q = Q (.v (.int (i.natAbs : Nat))) μ := propext Iff.rfl
theorem EN {g : Int → Int → Int} : pD g [.v (.int i), .v (.int j)] μ Q = Q (.v (.int (g i j))) μ := propext Iff.rfl
theorem yz {k : Bool} : km [.v (.bool k)] μ Q = Q (.v (.int (if k then 1 else 0))) μ := propext Iff.rfl
theorem yR : km [.v (.int i)] μ Q = Q (.v (.int i)) μ := propext Iff.rfl
theorem xm : ym [.v (.list ys)] μ Q = Q (.v (.list ys)) μ := propext Iff.rfl
theorem wx : ym [.v (.tuple ys)] μ Q = Q (.v (.list ys)) μ := propext Iff.rfl
theorem BR : nr [.v (.list ys)] μ Q = (match cu ys with | some bs => Q (.v (.bool (bs.all id))) μ | none => False) := propext Iff.rfl
theorem BW {T : String} : uI T ta ρ μ Q = ta ρ μ fun x μ1 => match x with | .v d => Q (.v (.bool (isT T d))) μ1 | _ => False := propext Iff.rfl
theorem B8 {a b : Bool} : FE (.v (.bool a)) (.v (.bool b)) μ Q = Q (.v (.bool (a == b))) μ := propext Iff.rfl
theorem Co : FE (.v .none) (.v .none) μ Q = Q (.v (.bool true)) μ := propext Iff.rfl
theorem wV {n : Nat} : av n d ρ μ QG = QG (ρ.set n (some d)) μ := propext Iff.rfl
theorem yI : ml [] ρ μ QG = QG ρ μ := propext Iff.rfl
theorem w6 {g : DTG} {gs : qw} : ck g gs (x :: xs) ρ μ QG = g (.v x) ρ μ fun ρ1 μ1 => gs xs ρ1 μ1 QG := propext Iff.rfl
theorem zd {n : Nat} {gs : qw} : kn n gs (.v (.tuple xs)) ρ μ QG = (xs.length = n ∧ gs xs ρ μ QG) := propext Iff.rfl
theorem zR : xg ta tb d ρ μ QG = ta ρ μ fun o μ1 => tb ρ μ1 fun i μ2 => match o, i, d with
  | .m l, .v (.int k), .v x => (match μ2 l with
    | some xs => (match ixN xs.length k with
      | some j => QG ρ (aw μ2 l (xs.set j x))
      | none => False)
    | none => False)
  | _, _, _ => False := propext Iff.rfl
theorem B5 {g : DTG} : bA ta g Dd ρ μ = ta ρ μ fun d μ1 => g d ρ μ1 Dd.nx := propext Iff.rfl
theorem BN {i j : Nat} : lX i j tA Dd ρ μ = tA ρ μ fun ds μ1 => match ds with | [v, w] => Dd.nx ((ρ.set i (some v)).set j (some w)) μ1 | _ => False := propext Iff.rfl
theorem zW : bB Dd ρ μ = Dd.nx ρ μ := propext Iff.rfl
theorem yY : aE s1 s2 Dd ρ μ = s1 { Dd with nx := s2 Dd } ρ μ := propext Iff.rfl
theorem Cy : bg ta Dd ρ μ = ta ρ μ Dd.rt := propext Iff.rfl
theorem zw : lV ta Dd ρ μ = ta ρ μ fun _ μ1 => Dd.nx ρ μ1 := propext Iff.rfl
theorem B7 : cR t s1 s2 Dd ρ μ = t ρ μ fun b μ1 => if b = true then s1 Dd ρ μ1 else s2 Dd ρ μ1 := propext Iff.rfl
theorem xk : oB Dd ρ μ = False := propext Iff.rfl
theorem vy {dsp : DSp} : ao dsp tA ρ μ Q = tA ρ μ fun ds μ1 => dsp ds μ1 Q := propext Iff.rfl
theorem BS : yh ta tb ρ μ Q = ta ρ μ fun x μ1 => match x with
  | .m l => tb ρ μ1 fun y μ2 => (match y, μ2 l with
    | .v d, some xs => xs.length < 1000 ∧ Q (.v .none) (aw μ2 l (xs ++ [d]))
    | _, _ => False)
  | _ => False := propext Iff.rfl
theorem Cn : Gb ta tb ρ μ Q = ta ρ μ fun x μ1 => match x with
  | .m l => tb ρ μ1 fun y μ2 => (match y, μ2 l with
    | .v (.list ys), some xs => xs.length + ys.length ≤ 1000 ∧ Q (.v .none) (aw μ2 l (xs ++ ys))
    | _, _ => False)
  | _ => False := propext Iff.rfl
theorem zq : Fm ta ρ μ Q = ta ρ μ fun x μ1 => match x with | .v (.int i) => Q (.v (.int (Builtin.Int.intBits i : Nat))) μ1 | _ => False := propext Iff.rfl
theorem wQ {r r'} : Eb r r' ta tb tc ρ μ Q = ta ρ μ fun x μ1 => tb ρ μ1 fun y μ2 => r x y μ2 fun z μ3 => match z with
  | .v (.bool k) => if k = true then tc ρ μ3 fun w μ4 => r' y w μ4 Q else Q (.v (.bool false)) μ3
  | _ => False := propext Iff.rfl
theorem yx : qX ρ μ QT = QT true μ := propext Iff.rfl
theorem uP : sG ta ρ μ QI = ta ρ μ fun d μ1 => match d with | .v (.list xs) => QI xs μ1 | _ => False := propext Iff.rfl
theorem wG : tY ta ρ μ QI = ta ρ μ fun d μ1 => match d with | .v (.tuple xs) => QI xs μ1 | _ => False := propext Iff.rfl
theorem tQ : rV tA ρ μ QI = tA ρ μ fun ds μ1 => match ds with | [.v (.int j)] => (-(2 ^ 62) ≤ j ∧ j < 2 ^ 62) ∧ QI (jI 0 j.toNat) μ1 | _ => False := propext Iff.rfl
theorem uu : vw tA ρ μ QI = tA ρ μ fun ds μ1 => match ds with | [.v (.int i), .v (.int j)] => (-(2 ^ 62) ≤ i ∧ i < 2 ^ 62 ∧ -(2 ^ 62) ≤ j ∧ j < 2 ^ 62) ∧ QI (jI i (j - i).toNat) μ1 | _ => False := propext Iff.rfl
theorem wO {src : DTI} {g : DTG} : ya src g s1 Dd ρ μ = src ρ μ fun xs μ1 => ∃ Pv : Nat → Rho → Mu → Prop, Pv 0 ρ μ1 ∧
  (∀ i x ρ' μ', xs[i]? = some x → Pv i ρ' μ' → g (.v x) ρ' μ' fun ρ2 μ2 => s1 { Dd with nx := Pv (i + 1), ct := Pv (i + 1), bk := Dd.nx } ρ2 μ2) ∧ (∀ ρ' μ', Pv xs.length ρ' μ' → Dd.nx ρ' μ') := propext Iff.rfl
theorem yv {cap : List (Option Nat)} {src : DTI} {g : DTG} : oO cap src g t ta ρ μ Q = src ρ μ fun xs μ1 => xs.length ≤ 1000 ∧ ∃ f : PyData → Option PyData,
  (∀ x ∈ xs, ∀ μ' : Mu, (∀ a ds, μ1 a = some ds → μ' a = some ds) → g (.v x) (bz cap ρ) μ' fun ρ2 μ2 => Le (bz cap ρ) ρ2 ∧ t ρ2 μ2 fun b μ3 =>
    if b = true then ta ρ2 μ3 fun d μ4 => μ4 = μ' ∧ (match d with | .v y => f x = some y | _ => False) else μ3 = μ' ∧ f x = none) ∧ Q (.v (.list (xs.filterMap f))) μ1 := propext Iff.rfl
theorem y4 {α : Type} {r : List (Option α)} : bz [] r = [] := rfl
theorem yA {α : Type} {o : Option Nat} {c : List (Option Nat)} {r : List (Option α)} : bz (o :: c) r = (o.bind fun j => (r[j]?).join) :: bz c r := rfl
theorem B0 : Le [] [] = True := propext ⟨fun _ => trivial, fun h => h⟩
theorem B4 {r r' : Rho} {o : Option D} : Le (none :: r) (o :: r') = Le r r' := propext Iff.rfl
theorem Cf {r r' : Rho} {d d' : D} : Le (some d :: r) (some d' :: r') = (d = d' ∧ Le r r') := propext Iff.rfl
theorem gC {α : Type} (p : α → Bool) : ∀ xs : List α, cu (xs.map fun x => PyData.bool (p x)) = some (xs.map p)
  | [] => rfl
  | x :: r => by rw [List.map_cons, cu, gC p r]; rfl
theorem nY {α β : Type} (p : α → β) : ∀ xs : List α, xs.filterMap (fun x => some (p x)) = xs.map p
  | [] => rfl
  | x :: r => by rw [List.filterMap_cons, nY p r]; rfl
theorem xc : ng t s1 Dd ρ μ = (∃ W : Nat → Rho → Mu → Prop, (∃ m, W m ρ μ) ∧ ∀ m ρ μ, W m ρ μ →
  t ρ μ fun b μ1 => if b = true then s1 { Dd with nx := fun ρ' μ' => ∃ m', m' < m ∧ W m' ρ' μ', ct := fun ρ' μ' => ∃ m', m' < m ∧ W m' ρ' μ', bk := Dd.nx } ρ μ1 else Dd.nx ρ μ1) := propext Iff.rfl
end
theorem yp {α β : Type} [BEq α] [LawfulBEq α] {x : α} {k : β} : ∀ {l : List (α × β)}, l.lookup x = some k → (x, k) ∈ l
  | [], h => by cases h
  | (y, j) :: r, h => by
    rw [List.lookup_cons] at h
    cases e : x == y with
    | true =>
      rw [e] at h
      simp only [Option.some.injEq] at h
      have : x = y := eq_of_beq e
      subst this h
      exact List.mem_cons_self
    | false =>
      rw [e] at h
      exact List.mem_cons_of_mem _ (yp h)
def cfK : NameKind → Bool
  | .cell => true
  | .free => true
  | _ => false
theorem oF {names : List (Str × NameKind)} {cl : List (Str × Addr)} (h : (names.all fun y => !(cfK y.2) || (cl.lookup y.1).isSome) = true) (x : Str) (hx : names.lookup x = some .cell ∨ names.lookup x = some .free) : ∃ a, cl.lookup x = some a := by
  rw [List.all_eq_true] at h
  have key : ∀ k, cfK k = true → names.lookup x = some k → ∃ a, cl.lookup x = some a := fun k hk e => by
    have q := h _ (yp e)
    simp only [hk, Bool.not_true, Bool.false_or] at q
    exact Option.isSome_iff_exists.mp q
  rcases hx with e | e
  · exact key _ rfl e
  · exact key _ rfl e
def zB (X : Cx) (sc : Scope) : List (Option Nat) → List Str → Prop
  | none :: c, _ :: n => zB X sc c n
  | some j :: c, x :: n => (X.N[j]? = some x ∧ Vis X.env.scope x ∧ X.env.kindOf x ≠ some .local ∧ ((relabel sc X.env).names.lookup x = some .cell ∨ (relabel sc X.env).names.lookup x = some .free)) ∧ zB X sc c n
  | _, _ => True
theorem kU {X : Cx} {sc : Scope} : ∀ {c : List (Option Nat)} {n : List Str}, zB X sc c n → ∀ (i j : Nat) (x : Str), c[i]? = some (some j) → n[i]? = some x →
    X.N[j]? = some x ∧ Vis X.env.scope x ∧ X.env.kindOf x ≠ some .local ∧ ((relabel sc X.env).names.lookup x = some .cell ∨ (relabel sc X.env).names.lookup x = some .free)
  | [], _, _, i, j, x, h, _ => by simp at h
  | _ :: _, [], _, i, j, x, _, h => by simp at h
  | none :: c, y :: n, k, 0, j, x, h, _ => by simp at h
  | none :: c, y :: n, k, i + 1, j, x, h, g => kU (c := c) (n := n) k i j x (by simpa using h) (by simpa using g)
  | some l :: c, y :: n, k, 0, j, x, h, g => by
    simp only [List.getElem?_cons_zero, Option.some.injEq] at h g
    subst h g
    exact k.1
  | some l :: c, y :: n, k, i + 1, j, x, h, g => kU (c := c) (n := n) k.2 i j x (by simpa using h) (by simpa using g)
theorem Gq {X : Cx} {sc : Scope} {j : Nat} {x : Str} (h1 : X.N[j]? = some x := by rfl) (h2 : Vis X.env.scope x := by first | exact Or.inl rfl | exact Or.inr (Or.inl rfl) | exact Or.inr (Or.inr rfl)) (h3 : X.env.kindOf x ≠ some .local := by first | (intro z; cases z) | exact (fun z => nomatch z))
    (h4 : (relabel sc X.env).names.lookup x = some .cell ∨ (relabel sc X.env).names.lookup x = some .free := by first | exact Or.inl rfl | exact Or.inr rfl) : X.N[j]? = some x ∧ Vis X.env.scope x ∧ X.env.kindOf x ≠ some .local ∧ ((relabel sc X.env).names.lookup x = some .cell ∨ (relabel sc X.env).names.lookup x = some .free) := ⟨h1, h2, h3, h4⟩
open PySem PySem.Spec PyProof.Rows
def fW (μ : Mu) (p : Addr) : Mu := fun b => if b = p then none else μ b
def pG (cap : List (Option Nat)) (src : DTI) (g : DTG) (c : DTT) (elt : DTE) : DTE := fun ρ μ Q => src ρ μ fun xs μ1 => xs.length ≤ 1000 ∧ ∀ p, μ1 p = none → ∃ Pv : Nat → List PyData → Mu → Prop, Pv 0 [] (aw μ1 p []) ∧
  (∀ i x acc μ', xs[i]? = some x → μ' p = some acc → Pv i acc μ' → g (.v x) (bz cap ρ) μ' fun ρ2 μ2 => Le (bz cap ρ) ρ2 ∧ c ρ2 μ2 fun b μ3 =>
    if b = true then elt ρ2 μ3 fun d μ4 => μ4 p = some acc ∧ (match d with | .v y => Pv (i + 1) (acc ++ [y]) (aw μ4 p (acc ++ [y])) | _ => False) else μ3 p = some acc ∧ Pv (i + 1) acc μ3) ∧
  (∀ acc μ', Pv xs.length acc μ' → μ' p = some acc → Q (.v (.list acc)) (fW μ' p))
theorem xR {X : Cx} {pos2 : Pos} {use : Option (Value → Sem Unit)} {QQ : Value → Shared → Prop} {pins : List (Addr × Obj)} {s : Shared} {σ : St} {H : Hp} {ρ : Rho} {μ : Mu} {Qd : DK} {N' : List Str} {scope : Scope} {cl : List (Str × Addr)} {elt iter tg : Expr} {ifs : List Expr} {pos : Pos} {cap : List (Option Nat)} {src : DTI} {g : DTG} {c : DTT} {te : DTE} (hc : X.calm = X.calm)
    (hi : DI X tg iter src) (hg : ∀ fp s₃ H₃, DG (aM X N' scope cl fp s₃ H₃) tg g) (hif : ∀ fp s₃ H₃, xx (aM X N' scope cl fp s₃ H₃) ifs c) (he : ∀ fp s₃ H₃, DE (aM X N' scope cl fp s₃ H₃) elt te)
    (hclos : closureFor scope X.env = pure cl) (hcell : ∀ y ∈ scope.names, y.2 ≠ .cell) (hkind : scope.kind = .function) (hnames : ∀ y ∈ scope.names, y.2 = .local → scope.names.lookup y.1 = some .local)
    (hcl : ∀ x a, cl.lookup x = some a → X.env.cells.lookup x = some a) (hhas : ∀ x, (relabel scope X.env).names.lookup x = some .cell ∨ (relabel scope X.env).names.lookup x = some .free → ∃ a, cl.lookup x = some a)
    (hlen : cap.length = N'.length) (hcap : ∀ (i j : Nat) (x : Str), cap[i]? = some (some j) → N'[i]? = some x → X.N[j]? = some x ∧ Vis X.env.scope x ∧ X.env.kindOf x ≠ some .local ∧ ((relabel scope X.env).names.lookup x = some .cell ∨ (relabel scope X.env).names.lookup x = some .free))
    (hs : ∀ x, foldedSetIterable iter X.env x = pure x )
    (I : Inv X pins σ H s) (S : St0 X.K H ρ μ σ) (h : pG cap src g c te ρ μ Qd)
    (hend : ∀ (s4 : Shared) (Hc : Hp) (C pa : Addr) (m : Str → Option Value) (acc : List PyData) (μF : Mu), s4.heap.Ns C m → qk X pins Hc C → (∀ h', Heap.SameBut C s4.heap h' → Inv X pins σ Hc { s4 with heap := h' }) →
      Ext X.K μ H μF Hc → St0 X.K Hc ρ μF σ → Rp X.K μF Hc (.list acc) (.ref pa) → Qd (.v (.list acc)) μF → compPost (model X.prog X.w) X.A X.xe use QQ (.ref pa) C (.ok .next) s4) :
    wpAny (model X.prog X.w) X.A (comprehension (.ListComp elt [⟨tg, iter, ifs, 0⟩] scope pos) scope X.env pos2 (newList []) false (eval iter X.env) use) QQ X.xe s := by
  obtain ⟨wi, pw, li⟩ := hi
  refine wpAny_comprehension_free rfl hs hclos hkind hnames (thn (pw pins s σ H _ I (li σ H ρ μ _ (fun J H1 => ∃ xs μ1, Ext X.K μ H μ1 H1 ∧ St0 X.K H1 ρ μ1 σ ∧ AG X.K J xs μ1 H1 ∧ xs.length ≤ 1000 ∧ ∀ p, μ1 p = none → ∃ Pv : Nat → List PyData → Mu → Prop, Pv 0 [] (aw μ1 p []) ∧
      (∀ i x acc μ', xs[i]? = some x → μ' p = some acc → Pv i acc μ' → g (.v x) (bz cap ρ) μ' fun ρ2 μ2 => Le (bz cap ρ) ρ2 ∧ c ρ2 μ2 fun b μ3 =>
        if b = true then te ρ2 μ3 fun d μ4 => μ4 p = some acc ∧ (match d with | .v y => Pv (i + 1) (acc ++ [y]) (aw μ4 p (acc ++ [y])) | _ => False) else μ3 p = some acc ∧ Pv (i + 1) acc μ3) ∧
      (∀ acc μ', Pv xs.length acc μ' → μ' p = some acc → Qd (.v (.list acc)) (fW μ' p))) S h (fun xs μ1 H1 J e1 S1 it q => ⟨xs, μ1, e1, S1, it, q⟩)))
    fun v s1 h1 => thn h1 fun itv s2 h2 => ?_)
  obtain ⟨it, fp, tn, J, H2, rfl, I2, T, st2, f2, xs, μ1, e1, S1, itok, hxs, allp⟩ := h2
  refine wpAny_newObj_type (wpAny_newFunctionEnv hcell (by intro y hy; simp at hy) (fun h₁ hns₁ hsb₁ => ?_) hkind)
  dsimp only at hns₁ hsb₁ ⊢
  have hfree2 : H2 s2.heap.objs.size = none := I2.hok.fresh (Nat.le_refl _)
  have hK2 : X.K.lookup s2.heap.objs.size = none := by
    cases z : X.K.lookup s2.heap.objs.size with
    | none => rfl
    | some o => exact absurd (Heap.lt_size (I2.kIn _ _ z)) (Nat.lt_irrefl _)
  have I3 : Inv X pins σ (upd H2 s2.heap.objs.size (.lst [])) { s2 with heap := s2.heap.push { cls := .type "list", dict := none, data := .seq ([] : List Value).toArray } } :=
    I2.laid (t' := s2.toks) (fun b u e => Heap.get?_push_of_some _ e) (Nat.le_refl _) ⟨Nat.zero_le _, [], 0, .nil, Heap.get?_push_size _ rfl⟩
  generalize hH : s2.heap.push { cls := .type "list", dict := none, data := .seq ([] : List Value).toArray } = hp3 at hns₁ hsb₁ I3 ⊢
  have hsz3 : hp3.objs.size = s2.heap.objs.size + 1 := by rw [← hH, Heap.size_push]
  have kept3 : ∀ b o, hp3.get? b = some o → h₁.get? b = some o := fun b o e => hsb₁.extBut b o (Nat.ne_of_lt (Heap.lt_size e)) (Heap.get?_push_of_some _ e)
  have old3 : ∀ b o, s2.heap.get? b = some o → hp3.get? b = some o := fun b o e => by rw [← hH]; exact Heap.get?_push_of_some _ e
  have fplt : ∀ b ∈ fp, b < s2.heap.objs.size := fun b hb => by obtain ⟨o, e, _⟩ := T.obj 0 _ st2 b hb; exact Heap.lt_size e
  have fpst : ∀ b ∈ fp, b ∉ frs X.stack := fun b hb hz => by
    rcases List.mem_cons.mp (I2.jy b hz) with e | e
    · exact (f2 b hb).2.1 e
    · exact (f2 b hb).2.2.1 e
  obtain ⟨s3, hs3⟩ : ∃ s3 : Shared, s3 = { s2 with heap := hp3 } := ⟨_, rfl⟩
  obtain ⟨H3, hH3⟩ : ∃ H3 : Hp, H3 = upd H2 s2.heap.objs.size (.lst []) := ⟨_, rfl⟩
  have heap3 : s3.heap = hp3 := by rw [hs3]
  rw [← hH3] at I3
  have I3' : Inv X pins σ H3 s3 := by rw [hs3]; exact I3
  have hloc : H3 hp3.objs.size = none := by have := I3'.hok.fresh (a := hp3.objs.size) (by rw [heap3]; exact Nat.le_refl _); exact this
  have okc : (aM X N' scope cl fp s3 H3).Ok := by
    refine ⟨I3.ok.mod, ?_, I3.ok.glob, I3.ok.blt, Nat.le_refl _, fun x y a h1 h2 => I3.ok.inj x y a (hcl x a h1) (hcl y a h2), fun x hx => hhas x hx, fun x a h => (nomatch h), I3.ok.hd, I3.ok.qt, I3.ok.frames, .inl rfl, fun b hb => ⟨?_, fun x a h => (f2 b hb).2.2.2.2.1 x a (hcl x a h)⟩,
      I3'.bs, Nat.le_trans I3.ok.bsz I3'.sz, fun b o e hb => ?_, fun b hb => fpst b hb, I3'.stack, I3'.oj⟩
    · exact hkind
    · show b ≠ s3.heap.objs.size
      rw [heap3, hsz3]
      exact Nat.ne_of_lt (Nat.lt_succ_of_lt (fplt b hb))
    · rcases (f2 b hb).2.2.2.1 with z | z
      · exact I3.ok.vj b o e z
      · exact absurd (Nat.lt_of_lt_of_le (Heap.lt_size (I3.ok.bs b o e).1) z) (Nat.lt_irrefl _)
  have I4 : Inv (aM X N' scope cl fp s3 H3) [] (bz cap σ) H3 { s2 with heap := h₁, toks := s2.toks + ([] : List (Str × Value)).length } := by
    refine ⟨okc, by show s2.os = s3.os; rw [hs3], I3.bare, Un.kept (by show ∀ b o, s3.heap.get? b = some o → _; rw [heap3]; exact kept3), ⟨_, (by show h₁.Ns s3.heap.objs.size _; rw [heap3]; exact hns₁), fun i x v e1 e2 e3 => ?_⟩, fun x a h => ?_, (by show H3 s3.heap.objs.size = none; rw [heap3]; exact hloc), fun x a h => I3.jg x a (hcl x a h), fun p hp => ?_, I3.hok.kept kept3, ?_⟩
    · obtain ⟨j, h1, h2⟩ := mi e2
      obtain ⟨hN, hv, hnl, hk⟩ := hcap i j x h1 e1
      obtain ⟨m, _, hl⟩ := I3.loc
      obtain ⟨u, r, lk⟩ := hl j x v hN h2 hv
      refine ⟨u, r, .inr ⟨hk, ?_⟩⟩
      obtain ⟨a, ha⟩ := hhas x hk
      rcases lk with ⟨z, _⟩ | ⟨_, a', z1, z2⟩
      · exact absurd z hnl
      · have : a' = a := by have q := hcl x a ha; rw [z1] at q; exact Option.some.inj q
        subst this
        obtain ⟨o, ho, hd⟩ := z2
        exact ⟨a', ha, o, kept3 _ _ ho, hd⟩
    · obtain ⟨v, o, ho, hd⟩ := I3.cell x a (hcl x a h)
      exact ⟨v, o, kept3 _ _ ho, hd⟩
    · have hp' : p ∈ X.pn ++ pins := List.mem_append_left _ (by simpa using (show p ∈ X.pn ++ [] from hp))
      obtain ⟨z1, z2, z3, z4, z5⟩ := I3'.pin p hp'
      refine ⟨kept3 _ _ (by rw [← heap3]; exact z1), z2, (show p.1 ≠ s3.heap.objs.size from Nat.ne_of_lt (Heap.lt_size z1)), fun z => ?_, z5⟩
      rcases List.mem_cons.mp (I3'.jy p.1 z) with e | e
      · exact z3 e
      · exact z4 e
    · show (bz cap σ).length = N'.length
      unfold bz
      rw [List.length_map]
      exact hlen
  have hμ1 : μ1 s2.heap.objs.size = none := S1.mu.free hfree2
  obtain ⟨Pv, pv0, body, fin⟩ := allp s2.heap.objs.size hμ1
  have loop : codeAny (model X.prog X.w) X.A (.compLoop (.ListComp elt [⟨tg, iter, ifs, 0⟩] scope pos) 0 (.ref it) (.ref s2.heap.objs.size) (aM X N' scope cl fp s3 H3).env)
      (compPost (model X.prog X.w) X.A X.xe use QQ (.ref s2.heap.objs.size) hp3.objs.size) { s2 with heap := h₁, toks := s2.toks + ([] : List (Str × Value)).length } := by
    refine eh (fun n s' => ∃ (i : Nat) (σc : St) (Hc : Hp) (acc : List PyData) (μc : Mu), n = xs.length - i ∧ i ≤ xs.length ∧ Inv (aM X N' scope cl fp s3 H3) [] σc Hc s' ∧ tn i s'.heap ∧ (∀ b ∈ fp, Hc b = none) ∧
      acc.length ≤ i ∧ μc s2.heap.objs.size = some acc ∧ Pv i acc μc ∧ St0 X.K Hc (bz cap ρ) μc σc ∧ Ext X.K μ1 H2 μc Hc) ?_ xs.length
      ⟨0, bz cap σ, H3, [], aw μ1 s2.heap.objs.size [], by simp, Nat.zero_le _, I4, T.keep 0 _ _ st2 (fun b hb o e => kept3 b o (old3 b o e)), fun b hb => ?_, Nat.le_refl _, aD, pv0, ?_, ?_⟩
    · rintro n s' ⟨i, σc, Hc, acc, μc, rfl, hi, Ic, tc, frc, hal, hpa, pvi, Sc, Ec⟩
      have stat : ∀ {Hd : Hp}, (∀ b ∈ fp, Hd b = none) → ∀ b ∈ fp, qk (aM X N' scope cl fp s3 H3) [] Hd b := fun hn b hb =>
        ⟨hn b hb, (okc.exf b hb).1, fpst b hb, .inl hb, fun x a h => (okc.exf b hb).2 x a h, fun p hp => (f2 b hb).2.2.2.2.2 p (List.mem_append_left _ (by simpa using (show p ∈ X.pn ++ [] from hp)))⟩
      obtain ⟨go, stop⟩ := itok _ Hc Ec Sc.mu i
      by_cases hlt : i < xs.length
      · obtain ⟨g1, y1⟩ := go hlt
        refine thn (T.item (aM X N' scope cl fp s3 H3) rfl rfl rfl (fun z => z) i [] s' σc Hc (fun _ _ => False) Ic (stat frc) tc g1) fun r s4 ⟨u, hr, h4⟩ => ?_
        subst hr
        refine thn h4 fun _ s5 ⟨x, H5, I5, r5, y5, st5, fr5⟩ => ?_
        obtain ⟨d, hd, sm, rd⟩ := y1 x H5 y5
        have I5' := I5.pinned (stat fr5) (T.obj _ _ st5)
        have e5 : Ext X.K _ Hc _ H5 := .of_same (μ := μc) sm
        have S5 : St0 X.K H5 (bz cap ρ) μc σc := ⟨Sc.mu.Av e5 sm, Sc.rho.ext Sc.mu e5⟩
        obtain ⟨gt, pg, lg⟩ := hg fp s3 H3
        refine thn (pg _ s5 σc H5 x u (fun σ' H' => ∃ ρ' μ', Ext X.K μc H5 μ' H' ∧ St0 X.K H' ρ' μ' σ' ∧ Le (bz cap ρ) ρ' ∧ c ρ' μ' fun b μ3 =>
            if b = true then te ρ' μ3 fun d' μ4 => μ4 s2.heap.objs.size = some acc ∧ (match d' with | .v y => Pv (i + 1) (acc ++ [y]) (aw μ4 s2.heap.objs.size (acc ++ [y])) | _ => False) else μ3 s2.heap.objs.size = some acc ∧ Pv (i + 1) acc μ3) I5' r5
          (lg σc H5 (bz cap ρ) _ (.v d) x _ _ S5 rd (body i d acc μc hd hpa pvi) fun σ' ρ' μ' H' e' S' q => ⟨ρ', μ', e', S', q⟩)) fun _ s6 ⟨σ6, H6, I6, ρ6, μ6, e6, S6, le6, q6⟩ => ?_
        refine thn (hif fp s3 H3 _ s6 σ6 H6 ρ6 μ6 _ (fun b H' => ∃ μ', Ext X.K μ6 H6 μ' H' ∧ St0 X.K H' ρ6 μ' σ6 ∧ if b = true then te ρ6 μ' fun d' μ4 => μ4 s2.heap.objs.size = some acc ∧ (match d' with | .v y => Pv (i + 1) (acc ++ [y]) (aw μ4 s2.heap.objs.size (acc ++ [y])) | _ => False) else μ' s2.heap.objs.size = some acc ∧ Pv (i + 1) acc μ')
          I6 S6 q6 fun b μ' H' e' S' q => ⟨μ', e', S', q⟩) fun b s7 ⟨H7, I7, μ7, e7, S7, q7⟩ => ?_
        have again : ∀ {H9 : Hp} {s9 : Shared} {acc' : List PyData} {μ9 : Mu}, Inv (aM X N' scope cl fp s3 H3) ([] ++ kr fp s5.heap) σ6 H9 s9 → acc'.length ≤ i + 1 → μ9 s2.heap.objs.size = some acc' → Pv (i + 1) acc' μ9 → bC X.K μ9 H9 → fv X.K μ9 H9 (bz cap ρ) σ6 →
            Ext X.K μ1 H2 μ9 H9 → ∃ m, m < xs.length - i ∧ ∃ (i : Nat) (σc : St) (Hc : Hp) (acc : List PyData) (μc : Mu), m = xs.length - i ∧ i ≤ xs.length ∧ Inv (aM X N' scope cl fp s3 H3) [] σc Hc s9 ∧ tn i s9.heap ∧ (∀ b ∈ fp, Hc b = none) ∧
              acc.length ≤ i ∧ μc s2.heap.objs.size = some acc ∧ Pv i acc μc ∧ St0 X.K Hc (bz cap ρ) μc σc ∧ Ext X.K μ1 H2 μc Hc := fun {H9 s9 acc' μ9} I9 l9 p9 v9 m9 r9 e9 => by
          refine ⟨xs.length - (i + 1), by omega, i + 1, σ6, H9, acc', μ9, rfl, hlt, I9.gp, T.keep _ _ _ st5 fun b hb o e => (I9.pin (b, o) (List.mem_append_right _ (List.mem_append_right _ (cA hb e)))).1, fun b hb => ?_, l9, p9, v9, ⟨m9, r9⟩, e9⟩
          obtain ⟨o, e, _⟩ := T.obj _ _ st5 b hb
          exact (I9.pin (b, o) (List.mem_append_right _ (List.mem_append_right _ (cA hb e)))).2.1
        cases b with
        | false =>
          have q8 : μ7 s2.heap.objs.size = some acc ∧ Pv (i + 1) acc μ7 := by simpa using q7
          refine rD ?_
          exact again I7 (by omega) q8.1 q8.2 S7.mu (S7.rho.le le6) (Ec.trans (e5.trans (e6.trans e7)))
        | true =>
          refine sP ?_
          obtain ⟨t8, p8, l8⟩ := he fp s3 H3
          refine thn (p8 _ s7 σ6 H7 (fun v H' => ∃ y μ8, Ext X.K μ7 H7 μ8 H' ∧ St0 X.K H' ρ6 μ8 σ6 ∧ Rp X.K μ8 H' y v ∧ μ8 s2.heap.objs.size = some acc ∧ Pv (i + 1) (acc ++ [y]) (aw μ8 s2.heap.objs.size (acc ++ [y]))) I7
            (l8 σ6 H7 ρ6 μ7 _ _ S7 (by simpa using q7) fun d' v μ8 H8 e8 S8 r8 q8 => ?_)) fun v s8 ⟨v8, H8, I8, r8, y, μ8, e8, S8, ry, pa8, fy⟩ => ?_
          · obtain ⟨q80, q8⟩ := q8
            cases d' with
            | v y => exact ⟨y, μ8, e8, S8, r8, q80, q8⟩
            | m _ => exact q8.elim
            | s _ => exact q8.elim
            | o _ => exact q8.elim
            | q _ => exact q8.elim
          · obtain ⟨us, hacc, rus⟩ := S8.mu s2.heap.objs.size _ pa8
            have hle : acc.length ≤ 1000 := by omega
            refine thn (j2 (X := aM X N' scope cl fp s3 H3) _ s8 σ6 H8 (.ref s2.heap.objs.size) [v8] (.ref s2.heap.objs.size) [v] (fun _ H' => H' = upd H8 s2.heap.objs.size (.lst (us ++ [v8]))) I8 rfl (.cons r8 .nil) ⟨_, us, v8, rfl, rfl, hacc, by rw [← rus.length]; exact di hle, rfl⟩) fun _ s9 ⟨_, H9, I9, _, e9⟩ => ?_
            subst e9
            have ex : Ext X.K μ8 H8 (aw μ8 s2.heap.objs.size (acc ++ [y])) (upd H8 s2.heap.objs.size (.lst (us ++ [v8]))) := iS pa8
            exact again I9 (by rw [List.length_append, List.length_singleton]; omega) aD fy (S8.mu.set pa8 (rus.append (.cons ry .nil))) ((S8.rho.le le6).ext S8.mu ex) (Ec.trans (e5.trans (e6.trans (e7.trans (e8.trans ex)))))
      · have ei : i = xs.length := by omega
        subst ei
        refine thn (T.done (aM X N' scope cl fp s3 H3) rfl rfl rfl (fun z => z) _ [] s' σc Hc (fun _ _ => False) Ic (stat frc) tc (stop rfl)) fun r s4 ⟨hr, I5⟩ => ?_
        subst hr
        obtain ⟨m, hn, _⟩ := I5.loc
        have hcC : Hc hp3.objs.size = none := by have z : Hc s3.heap.objs.size = none := I5.free; rw [heap3] at z; exact z
        obtain ⟨us, hacc, rus⟩ := Sc.mu s2.heap.objs.size _ hpa
        have shr : ∀ a, μc a = none → fW μc s2.heap.objs.size a = none := fun a e => by
          unfold fW
          split
          · rfl
          · exact e
        have dne : ∀ a ds, fW μc s2.heap.objs.size a = some ds → μc a = some ds := fun a ds e => by
          unfold fW at e
          split at e
          · cases e
          · exact e
        have eF : Ext X.K μ1 H2 (fW μc s2.heap.objs.size) Hc := by
          refine ⟨Ec.keep, Ec.tb, fun b ds q => ?_, fun b q z => shr b (Ec.fresh b q z)⟩
          obtain ⟨es, q2⟩ := Ec.dom b ds q
          have : b ≠ s2.heap.objs.size := fun z => by rw [z, hμ1] at q; cases q
          exact ⟨es, by unfold fW; rw [if_neg this]; exact q2⟩
        have mF : bC X.K (fW μc s2.heap.objs.size) Hc := ⟨fun a ds q => by
          obtain ⟨ys, z1, z2⟩ := Sc.mu a ds (dne a ds q)
          exact ⟨ys, z1, z2.shrink shr⟩, Sc.mu.tab⟩
        refine hend s4 Hc hp3.objs.size s2.heap.objs.size m acc (fW μc s2.heap.objs.size) (by have z : s4.heap.Ns s3.heap.objs.size m := hn; rw [heap3] at z; exact z) (I2.Bw (by rw [hsz3]; exact Nat.le_succ _) hcC) (fun h' hs' => ?_) (e1.trans eF) ⟨mF, S1.rho.ext S1.mu eF⟩ (Rp.list hacc (by unfold fW; rw [if_pos rfl]) (rus.shrink shr)) (fin acc μc pvi hpa)
        have kp : ∀ b o, b < s2.heap.objs.size → s4.heap.get? b = some o → h'.get? b = some o := fun b o hb e => hs'.extBut b o (by rw [hsz3]; exact Nat.ne_of_lt (Nat.lt_succ_of_lt hb)) e
        have hok' : HOk X.prog X.w Hc h' := fun b ob e => by
          refine (I5.hok b ob e).sS (fun cc v hcc q => hs'.extBut cc v ?_ q) (fun _ q => q) fun _ _ q => q
          rintro rfl
          rcases hcc with z | z
          · rw [← z, hcC] at e; cases e
          · rw [hcC] at z; cases z
        have u1 : Un (frs X.stack) fp H2 H3 s2.heap s3.heap := by rw [heap3, hH3]; exact Un.laid old3 (Nat.le_refl _) hfree2
        have u2 : Un (frs X.stack) fp H3 Hc s3.heap s4.heap := I5.base
        exact I2.xj (ch := fp) (by show s4.os = s2.os; have z : s4.os = s3.os := I5.os; rw [z, hs3]) (Un.after (u1.trans u2) kp) hok' I5.bare fun b hb => ⟨(f2 b hb).2.2.2.1, (f2 b hb).2.1, (f2 b hb).2.2.2.2.1, (f2 b hb).2.2.2.2.2⟩
    · have z : b ≠ s2.heap.objs.size := Nat.ne_of_lt (fplt b hb)
      rw [hH3, bo z]
      exact (f2 b hb).1
    · have ex := gB (o := .lst []) (ds := []) S1.mu hfree2 hK2
      rw [hH3]
      exact ⟨S1.mu.mut .nil hfree2 hK2, (S1.rho.ext S1.mu ex).cap⟩
    · rw [hH3]
      exact gB (o := .lst []) (ds := []) S1.mu hfree2 hK2
  have envE : (aM X N' scope cl fp s3 H3).env = compEnvC scope cl hp3.objs.size X.env := by show compEnvC scope cl s3.heap.objs.size X.env = _; rw [heap3]
  rw [envE] at loop
  exact codeAny_compStart_list loop (T.self X.A 0 _ _ _ (T.keep 0 _ _ st2 (fun b hb o e => kept3 b o (old3 b o e))) loop)
theorem ns_obj {h : Heap} {C : Addr} {m : Str → Option Value} (hn : h.Ns C m) : ∃ o, h.get? C = some o ∧ ∀ v, o.data ≠ .cell v := let ⟨o, es, ep, ho, hd, _⟩ := hn; ⟨o, ho, fun v z => by rw [hd] at z; cases z⟩
theorem AM {h h' : Heap} {C : Addr} {m : Str → Option Value} (hn : h.Ns C m) (e : h'.get? C = h.get? C) : h'.Ns C m := let ⟨o, es, ep, ho, r⟩ := hn; ⟨o, es, ep, e.trans ho, r⟩
theorem Bc {X : Cx} {i : Nat} {x : Str} {pos' spos : Pos} {N' : List Str} {scope : Scope} {cl : List (Str × Addr)} {elt iter tg : Expr} {ifs : List Expr} {pos : Pos} {cap : List (Option Nat)} {src : DTI} {g : DTG} {c : DTT} {te : DTE} (hN : X.N.Nodup) (hix : X.N[i]? = some x) (hx : X.env.scope.names.lookup x = some .local) (hc : X.calm = X.calm)
    (hi : DI X tg iter src) (hg : ∀ fp s₃ H₃, DG (aM X N' scope cl fp s₃ H₃) tg g) (hif : ∀ fp s₃ H₃, xx (aM X N' scope cl fp s₃ H₃) ifs c) (he : ∀ fp s₃ H₃, DE (aM X N' scope cl fp s₃ H₃) elt te)
    (hclos : closureFor scope X.env = pure cl) (hcell : ∀ y ∈ scope.names, y.2 ≠ .cell) (hkind : scope.kind = .function) (hnames : ∀ y ∈ scope.names, y.2 = .local → scope.names.lookup y.1 = some .local)
    (hcl : ∀ x a, cl.lookup x = some a → X.env.cells.lookup x = some a) (hhas : ∀ x, (relabel scope X.env).names.lookup x = some .cell ∨ (relabel scope X.env).names.lookup x = some .free → ∃ a, cl.lookup x = some a)
    (hlen : cap.length = N'.length) (hcap : ∀ (i j : Nat) (x : Str), cap[i]? = some (some j) → N'[i]? = some x → X.N[j]? = some x ∧ Vis X.env.scope x ∧ X.env.kindOf x ≠ some .local ∧ ((relabel scope X.env).names.lookup x = some .cell ∨ (relabel scope X.env).names.lookup x = some .free))
    (hs : ∀ x, foldedSetIterable iter X.env x = pure x := by intro _; rfl)
    (hsw : swapsWith (.ListComp elt [⟨tg, iter, ifs, 0⟩] scope pos) (some (.Name x pos')) spos.line X.env = pure true := by rfl) : DS X (.Assign [.Name x pos'] (.ListComp elt [⟨tg, iter, ifs, 0⟩] scope pos) spos) (bA (pG cap src g c te) (av i)) := by
  refine ⟨fun D σ H => ∃ ρ μ Dd, St0 X.K H ρ μ σ ∧ bA (pG cap src g c te) (av i) Dd ρ μ ∧ (∀ σ' ρ' μ' H', Ext X.K μ H μ' H' → St0 X.K H' ρ' μ' σ' → Dd.nx ρ' μ' → D.nx σ' H'), ?_, fun σ H ρ μ Dd De S h k1 k2 k3 k4 => ⟨ρ, μ, Dd, S, h, k1⟩⟩
  rintro pins s σ H D I ⟨ρ, μ, Dd, S, h, k1⟩
  rw [exec_Assign_Name_used _ _ _ _ hsw]
  refine wpAny_bind (wpAny_standAt ?_)
  show wpAny _ _ ((comprehension (.ListComp elt [⟨tg, iter, ifs, 0⟩] scope pos) scope X.env (firstIterPos [⟨tg, iter, ifs, 0⟩] pos) (newList []) false (eval iter X.env) (some (assign (.Name x pos') X.env)) >>= fun _ => pure ()) >>= _) _ _ s
  refine wpAny_bind (wpAny_bind (xR (Qd := fun d μ1 => av i d ρ μ1 Dd.nx) hc hi hg hif he hclos hcell hkind hnames hcl hhas hlen hcap hs I S h fun s4 Hc C pa m acc μF hn fC hI e1 S1 r q => ?_))
  have I4 : Inv X pins σ Hc s4 := hI s4.heap (Heap.SameBut.refl _ _)
  obtain ⟨oC, hoC, hdC⟩ : ∃ o, s4.heap.get? C = some o ∧ ∀ v, o.data ≠ .cell v := by
    obtain ⟨o, h1, h2⟩ := ns_obj hn
    exact ⟨o, h1, h2⟩
  have I5 := I4.pinned (fp := [C]) (fun b hb => by rw [List.mem_singleton.mp hb]; exact fC) (fun b hb => by rw [List.mem_singleton.mp hb]; exact ⟨oC, hoC, hdC⟩)
  show wpAny _ _ (assign (.Name x pos') X.env (.ref pa)) _ _ s4
  refine wpAny_assign_Name (jt I5 hN hix (Or.inl hx) (show RelV (.ref pa) (.ref pa) from rfl) (fun s' I' => ?_) (.inr hx))
  have keepC : s'.heap.get? C = some oC := (I'.pin (C, oC) (List.mem_append_right _ (List.mem_append_right _ (cA (List.mem_singleton.mpr rfl) hoC)))).1
  have hn' : s'.heap.Ns C m := AM hn (by rw [keepC, hoC])
  refine ⟨m, hn', fun h' hs' => wpAny_pure (wpAny_pure ?_)⟩
  refine ⟨σ.set i (some (.ref pa)), Hc, ?_, k1 _ _ _ _ e1 ⟨S1.mu, S1.rho.set (d := .v (.list acc)) r⟩ q⟩
  refine I'.gp.xj (ch := [C]) rfl ⟨fun b o e n hb hx => ?_, fun b o e n hb hx => ?_, fun b o e n hx => n, fun b o e hx => ?_, fun b xs e => e, fun b o u e => e, fun b ps e => ⟨#[], by rw [Array.append_empty]; exact e⟩⟩ ?_ I'.bare fun b hb => ?_
  · exact hs'.extBut b o (fun z => hx (List.mem_singleton.mpr z)) e
  · exact ⟨o.slots, hs'.extBut b o (fun z => hx (List.mem_singleton.mpr z)) e⟩
  · exact ⟨o, hs'.extBut b o (fun z => hx (List.mem_singleton.mpr z)) e⟩
  · exact fun b ob e => by
      refine (I'.hok b ob e).sS (fun cc v hcc q => hs'.extBut cc v ?_ q) (fun _ q => q) fun _ _ q => q
      rintro rfl
      rcases hcc with z | z
      · rw [← z, fC.1] at e; cases e
      · rw [fC.1] at z; cases z
  · rw [List.mem_singleton.mp hb]
    exact ⟨fC.2.2.2.1, fC.2.1, fC.2.2.2.2.1, fC.2.2.2.2.2⟩
theorem wH {cap : List (Option Nat)} {src : DTI} {g : DTG} {t : DTT} {ta : DTE} {ρ : Rho} {μ : Mu} {Q : DK} : pG cap src g t ta ρ μ Q = src ρ μ fun xs μ1 => xs.length ≤ 1000 ∧ ∀ p, μ1 p = none → ∃ Pv : Nat → List PyData → Mu → Prop, Pv 0 [] (aw μ1 p []) ∧
  (∀ i x acc μ', xs[i]? = some x → μ' p = some acc → Pv i acc μ' → g (.v x) (bz cap ρ) μ' fun ρ2 μ2 => Le (bz cap ρ) ρ2 ∧ t ρ2 μ2 fun b μ3 =>
    if b = true then ta ρ2 μ3 fun d μ4 => μ4 p = some acc ∧ (match d with | .v y => Pv (i + 1) (acc ++ [y]) (aw μ4 p (acc ++ [y])) | _ => False) else μ3 p = some acc ∧ Pv (i + 1) acc μ3) ∧
  (∀ acc μ', Pv xs.length acc μ' → μ' p = some acc → Q (.v (.list acc)) (fW μ' p)) := propext Iff.rfl
theorem xK {μ : Mu} {p : Addr} {ds : List PyData} (h : μ p = none) : fW (aw μ p ds) p = μ := by
  funext b
  unfold fW aw
  by_cases e : b = p
  · rw [if_pos e, e, h]
  · rw [if_neg e, if_neg e]
theorem DH {xs : List PyData} {f : PyData → Option PyData} {i : Nat} {d : PyData} (h : xs[i]? = some d) : (xs.take (i + 1)).filterMap f = (xs.take i).filterMap f ++ (f d).toList := mr h
open PySem PySem.Spec PyProof.Rows
section
variable {X : Cx} {es : List Expr} {x1 : Nat} {tpos : Pos}
def zZ : List PyData → List PyData → List PyData
  | x :: xs, y :: ys => .tuple [x, y] :: zZ xs ys
  | _, _ => []
def ED (t : DTA) : DTI := fun ρ μ Q => t ρ μ fun ds μ1 => match ds with
  | [.v (.list xs), .v (.list ys)] => Q (zZ xs ys) μ1
  | _ => False
theorem wL {t : DTA} {ρ : Rho} {μ : Mu} {Q : List PyData → Mu → Prop} : ED t ρ μ Q = t ρ μ fun ds μ1 => match ds with | [.v (.list xs), .v (.list ys)] => Q (zZ xs ys) μ1 | _ => False := propext Iff.rfl
end
open PySem PySem.Spec PyProof.Rows
section
variable {X : Cx} {a b e : Expr} {es : List Expr} {ta tb te : DTE} {t : DTA} {p pos : Pos}
def rk : List D → Mu → DK → Prop := fun xs μ Q => match xs with
  | [.v (.list ys)] => Q (.v (.tuple ys)) μ
  | [.v (.tuple ys)] => Q (.v (.tuple ys)) μ
  | [.m l] => (match μ l with | some ys => Q (.v (.tuple ys)) μ | none => False)
  | _ => False
theorem u7 {ys : List PyData} {μ : Mu} {Q : DK} : rk [.v (.list ys)] μ Q = Q (.v (.tuple ys)) μ := propext Iff.rfl
theorem u5 {ys : List PyData} {μ : Mu} {Q : DK} : rk [.v (.tuple ys)] μ Q = Q (.v (.tuple ys)) μ := propext Iff.rfl
theorem tU {l : Addr} {μ : Mu} {Q : DK} : rk [.m l] μ Q = (match μ l with | some ys => Q (.v (.tuple ys)) μ | none => False) := propext Iff.rfl
def FF : D → D → Mu → DK → Prop := fun x y μ Q => match x, y with
  | .v (.list xs), .v (.int k) => (0 ≤ k ∧ k ≤ 1000 ∧ xs.length * k.toNat ≤ 1000) ∧ Q (.v (.list (List.replicate k.toNat xs).flatten)) μ
  | _, _ => False
theorem BV {xs : List PyData} {k : Int} {μ : Mu} {Q : DK} : FF (.v (.list xs)) (.v (.int k)) μ Q = ((0 ≤ k ∧ k ≤ 1000 ∧ xs.length * k.toNat ≤ 1000) ∧ Q (.v (.list (List.replicate k.toNat xs).flatten)) μ) := propext Iff.rfl
end
open PySem PySem.Spec PyProof.Rows
section
variable {prog : Program} {w : World} {A : Around} {E : Value → Shared → Prop} {s : Shared}
end
open PySem PySem.Spec PyProof.Rows
section
variable {X : Cx} {es : List Expr} {x1 : Nat} {tpos : Pos}
end
section
variable {X : Cx} {es : List Expr} {pos : Pos}
end
open PySem PySem.Spec PyProof.Rows
section
variable {X : Cx} {e : Expr} {es : List Expr} {t : DTA} {p pos : Pos}
end
section
variable {X : Cx} {e tg : Expr} {te : DTE} {td : DTS} {pos : Pos}
end
section
variable {X : Cx} {a b c : Expr} {ta tb tc : DTE} {pos : Pos}
end
open PySem PySem.Spec PyProof.Rows
section
variable {X : Cx} {o e : Expr} {to te : DTE} {apos cpos pos : Pos}
theorem RpL.dropLast {K : PySem.W.Frag} {μ : Mu} {H : Hp} : ∀ {ds : List PyData} {us : List V}, RpL K μ H ds us → RpL K μ H ds.dropLast us.dropLast
  | _, _, .nil => .nil
  | _, _, .cons h .nil => .nil
  | _, _, .cons h (.cons h2 t) => .cons h (RpL.dropLast (.cons h2 t))
theorem RpL.eraseIdx {K : PySem.W.Frag} {μ : Mu} {H : Hp} : ∀ {ds : List PyData} {us : List V} (i : Nat), RpL K μ H ds us → RpL K μ H (ds.eraseIdx i) (us.eraseIdx i)
  | _, _, _, .nil => .nil
  | _, _, 0, .cons _ t => t
  | _, _, i + 1, .cons h t => .cons h (RpL.eraseIdx i t)
end
section
variable {X : Cx} {e : Expr} {es : List Expr} {t : DTA} {p pos : Pos}
end
section
variable {X : Cx} {a b : Expr} {ta tb : DTE} {pos : Pos}
end
open PySem PySem.Spec PyProof.Rows
open PySem PySem.Spec PyProof.Rows
structure Kp (O : Addr → Prop) (fs : List Addr) (h h' : Heap) : Prop where
  keep : ∀ b o, h.get? b = some o → O b → b ∉ fs → h'.get? b = some o
  slot : ∀ b o, h.get? b = some o → (∀ vs, o.data ≠ .fields vs) → ∃ sl, h'.get? b = some { o with slots := sl }
section
variable {O : Addr → Prop} {fs : List Addr} {h h1 h2 : Heap}
theorem Kp.refl : Kp O fs h h := ⟨fun _ _ e _ _ => e, fun _ o e _ => ⟨o.slots, e⟩⟩
theorem Kp.trans (a : Kp O fs h h1) (b : Kp O fs h1 h2) : Kp O fs h h2 := ⟨fun c o e l f => b.keep c o (a.keep c o e l f) l f, fun c o e d => let ⟨_, e1⟩ := a.slot c o e d; let ⟨sl, e2⟩ := b.slot c _ e1 d; ⟨sl, e2⟩⟩
theorem Kp.of (k : ∀ b o, h.get? b = some o → h1.get? b = some o) : Kp O fs h h1 := ⟨fun b o e _ _ => k b o e, fun b o e _ => ⟨o.slots, k b o e⟩⟩
theorem Kp.frames {base : Heap} {l : List Env} (a : Kp O fs h h1) (k : h.FunFrames base l) : h1.FunFrames base l := k.of_keeps fun b o e d => let ⟨_, e1⟩ := a.slot b o e d; ⟨_, e1, rfl⟩
end
section
variable {M : Model} {A : Around} {E : Value → Shared → Prop} {s : Shared} {O : Addr → Prop} {e L : Addr} {cls fl : Value} {env : Env} {outer : List Env} {base : Heap} {Q : Unit → Shared → Prop}
end
open PySem PySem.Spec PyProof.Rows
section
variable {X : Cx} {pins : List (Addr × Obj)} {σ : St} {H : Hp} {s : Shared} {O : Addr → Prop} {ea : Addr} {cls : Value} {E : XK} {base : Heap}
end
abbrev DTX := Rho → Mu → (Mu → Prop) → Prop
abbrev XSp := List D → Mu → (Mu → Prop) → Prop
def DD (K : PySem.W.Frag) (E : XK) (C : Value) (μ : Mu) (H : Hp) (Xk : Mu → Prop) : Prop := ∀ μ' H', Ext K μ H μ' H' → bC K μ' H' → Xk μ' → E C none H'
theorem DD.on {K : PySem.W.Frag} {E : XK} {C : Value} {μ μ1 : Mu} {H H1 : Hp} {Xk : Mu → Prop} (w : DD K E C μ H Xk) (e : Ext K μ H μ1 H1) : DD K E C μ1 H1 Xk := fun μ' H' e' => w μ' H' (e.trans e')
section
variable {X : Cx} {E : XK} {C : Value} {e : Expr} {es : List Expr} {t : DTA} {te : DTE} {tx ty : DTX} {p pos : Pos} {x : Str} {k : Nat} {f : Addr} {fd : FuncData} {ps : List Str} {dsp : XSp} {st : Stmt} {sts : List Stmt}
end
open PySem PySem.Spec PyProof.Rows
section
variable {X : Cx} {E : XK} {x : Str} {C : Addr}
end
open PySem PySem.Spec PyProof.Rows
section
variable {prog : Program} {w : World} {A : Around} {E : Value → Shared → Prop} {h : Heap} {g : Array GenState} {d : Drawn} {t : Nat} {os : OsState} {a C : Addr} {o : Obj} {K : PySem.W.Frag}
end
open PySem PySem.Spec PyProof.Rows
section
variable {X : Cx} {pins : List (Addr × Obj)} {σ : St} {H : Hp} {s : Shared}
end
open PySem PySem.Spec PyProof.Rows
section
variable {P : Program} {w : World} {K : PySem.W.Frag} {mg : Str → Option Value} {base : Heap} {N : List Str} {lsc : Scope} {cl : List (Str × Addr)} {q : Str} {fa c1 : Addr} {A : Around} {outer : List Env} {s : Shared} {H : Hp} {E : XK} {σ : St} {k : Nat} {params : Arguments} {body : Expr} {pm ctv : Value} {t : TE}
end
open PySem PySem.Spec PyProof.Rows
section
variable {X : Cx} {pins : List (Addr × Obj)} {σ : St} {H : Hp} {s : Shared} {O : Addr → Prop} {ea : Addr} {oe : Obj} {vs : Array Value}
end
open PySem PySem.Spec PyProof.Rows
open PySem PySem.Spec PyProof.Rows
section
variable {X : Cx} {e : Expr} {te : DTE} {p py pos : Pos} {y : Str} {C : Addr} {b : Bool} {ea : Addr} {oe : Obj}
end
end L2.DL
set_option Elab.async false
set_option linter.all false
set_option maxRecDepth 100000
set_option maxHeartbeats 4000000
namespace L2
open PySem PySem.Spec PyProof.Rows DL
def ER (tabs : List Addr) (H : Hp) : Prop := ∀ b, H b = none ∨ (∃ o xs, H b = some (.frz o (.lst xs))) ∨ (b ∈ tabs ∧ H b = some (.tbl #[]))
theorem xT {P : Program} {w : World} {K : PySem.W.Frag} {mg mb : Str → Option Value} {CX : CXT} {k : Nat} {fa a : Addr} {fd : FuncData} {x : Str} {sp : Sp} {s₁ : Shared} {vs : List Value} {ns : List Int} (tabs : List Addr)
    (hT : ∀ p ∈ tabs, s₁.heap.get? p = some (PySem.W.tabObj #[]) ∧ K.lookup p = none) (hA2 : ∀ c o p q, K.lookup c = some o → cq o = some (p, q) → p ∈ tabs) (hC : ∀ p ∈ tabs, isCodeTable s₁.heap p)
    (KX : K.In s₁.heap) (hns : s₁.heap.Ns mainGlobals mg) (hb : s₁.heap.Ns builtinsNs mb) (hbb : ∀ x : Str, x ≠ "__name__" → mb x = bootBuiltins x) (hlim : s₁.heap.NoLimit) (hg : s₁.gens = #[])
    (ha : s₁.heap.get? a = some { cls := .type "list", data := .seq vs.toArray }) (hi : IntsAre vs ns) (hl : ns.length ≤ sizeLine) (hr : iG k callerA)
    (F : ∀ base : Heap, K.In base → base.Ns mainGlobals mg → bq P w K mg base CX k fa fd [x] sp) (hbind : ∀ (s : Shared) (u : Value), BindsTo s fd ⟨[u], []⟩ [(x, u)])
    (hsp : ∀ H : Hp, u9 K H → SqL K H a (ns.map V.int) → sp [.ref a] H (fun v _ => v = .bl true) fun _ _ _ => False)
    (hCX : ∀ H e s', CX [] H s₁ (fun _ _ _ => False) e s' → False) :
    codeAny (model P w) callerA (.call (.ref fa) ⟨[.ref a], []⟩) (fun r s' => r = .ok (.ret (.bool true)) ∧ OldK s₁.heap s'.heap ∧ s'.os = s₁.os ∧ AllBare s'.gens) s₁ := by
  have rv := qV hi
  have lenV := hi.length
  have ant : a ∉ tabs := fun z => by have := (hT a z).1; rw [ha] at this; cases this
  have core : ∀ H : Hp, ER tabs H → SqL K H a (ns.map V.int) → HOk P w H s₁.heap → (∀ b, H b ≠ none → b = a ∨ b ∈ tabs) → (H a ≠ none → K.lookup a = none) → (∀ p ∈ tabs, H p = some (.tbl #[])) →
      codeAny (model P w) callerA (.call (.ref fa) ⟨[.ref a], []⟩) (fun r s' => r = .ok (.ret (.bool true)) ∧ OldK s₁.heap s'.heap ∧ s'.os = s₁.os ∧ AllBare s'.gens) s₁ := by
    intro H hO hS hok hA hK hP
    have base_of : ∀ {b : Addr} {o : Obj}, s₁.heap.get? b = some o → H b = none → (si s₁.heap H).get? b = some o := fun e n => yV e n
    have noA : ∀ {b : Addr} {o : Obj} {es : Array DictEntry} {ep : Nat}, s₁.heap.get? b = some o → o.data = .dict es ep → H b = none := fun {b o es ep} e d => by
      cases q : H b with
      | none => rfl
      | some u =>
        rcases hA b (by rw [q]; simp) with e' | e'
        · subst e'
          rw [ha] at e; cases e
          have d' : Data.seq vs.toArray _ = Data.dict es ep := d
          cases d'
        · rw [(hT b e').1] at e; cases e
          have d' : Data.fields #[] = Data.dict es ep := d
          cases d'
    have nsK : ∀ {b : Addr} {m : Str → Option Value}, s₁.heap.Ns b m → (si s₁.heap H).Ns b m := fun {b m} ⟨o, es, ep, e, d, r⟩ => ⟨o, es, ep, base_of e (noA e d), d, r⟩
    have hKb : K.In (si s₁.heap H) := fun b o e => base_of (KX b o e) (by
      cases q : H b with
      | none => rfl
      | some u =>
        rcases hA b (by rw [q]; simp) with e' | e'
        · subst e'
          rw [hK (by rw [q]; simp)] at e; cases e
        · have e2 := e; rw [show K.lookup b = none from (hT b e').2] at e2; cases e2)
    have hM : Mod K mg (si s₁.heap H) := ⟨hKb, nsK hns, ⟨mb, nsK hb, hbb⟩, let ⟨mc, h1, h2⟩ := hlim; ⟨mc, nsK h1, h2⟩⟩
    have e0 : Ax P w K mg (si s₁.heap H) callerA [] s₁ H := ⟨rfl, hM, fun b o e => Be e, Nat.le_of_eq (xA _ _), trivial, fun b hb => absurd (show b ∈ ([] : List Addr) from hb) (by simp), hok, .of_eq hg⟩
    have tb : u9 K H := fun c o p q h1 h2 => ⟨#[], hP p (hA2 c o p q h1 h2), trivial, fun pos cv e => by simp [codeAmong] at e⟩
    refine codeAny_mono ((F _ hKb (nsK hns)).run callerA [] s₁ H ⟨[.ref a], []⟩ [.ref a] [.ref a] _ _ hr e0 (hbind s₁ (.ref a)) (.cons rfl .nil) (hsp H tb hS)) fun r s' h => ?_
    cases r with
    | error e => exact (hCX H e s' h).elim
    | ok fl =>
      cases fl with
      | next => exact False.elim h
      | brk => exact False.elim h
      | cont => exact False.elim h
      | ret u =>
        obtain ⟨v, H', os, bare, un, hok', r', q⟩ := h
        have q' : v = .bl true := q
        subst q'
        obtain rfl : u = Value.bool true := r'
        refine ⟨rfl, ⟨fun b o e => ?_, fun b o e => un.there b o e (by simp)⟩, os, bare⟩
        cases q : H b with
        | none => exact .inl (un.keep b o e q (by intro z; exact absurd (show b ∈ ([] : List Addr) from z) (by simp)) (by simp))
        | some u =>
          rcases hO b with z | ⟨ob, xs, z⟩ | ⟨zt, z⟩
          · rw [q] at z; cases z
          · have z2 := un.mX b ob _ z
            obtain ⟨e1, _⟩ := hok b _ z
            obtain ⟨e2, _⟩ := hok' b _ z2
            rw [e] at e1; cases e1
            exact .inl e2
          · obtain ⟨more, z2⟩ := un.mQ b _ z
            have e2 : s'.heap.get? b = some { cls := .none, data := .fields (#[] ++ more) } := hok' b _ z2
            have e1 := (hT b zt).1
            rw [e] at e1; cases e1
            exact .inr (.inl ⟨hC b zt, rfl, #[], more, rfl, e2⟩)
  have okT : ∀ p ∈ tabs, s₁.heap.get? p = some { cls := .none, data := .fields #[] } := fun p hp => (hT p hp).1
  cases hk : K.lookup a with
  | some o =>
    have e := KX a o hk
    rw [ha] at e
    cases e
    refine core (fun b => if b ∈ tabs then some (.tbl #[]) else none) (fun b => ?_) (.inr ⟨_, vs.toArray, _, hk, rfl, rfl, rfl, by rw [List.size_toArray, lenV]; exact hl, by simpa using rv⟩) (fun b u z => ?_) (fun b z => ?_) (fun z => absurd (if_neg ant) z) (fun p hp => if_pos hp)
    · by_cases hb : b ∈ tabs
      · exact .inr (.inr ⟨hb, if_pos hb⟩)
      · exact .inl (if_neg hb)
    · by_cases hb : b ∈ tabs
      · have z' := (if_pos hb).symm.trans z; cases z'; exact okT b hb
      · have z' := (if_neg hb).symm.trans z; cases z'
    · by_cases hb : b ∈ tabs
      · exact .inr hb
      · exact absurd (if_neg hb) z
  | none =>
    refine core (fun b => if b = a then some (.frz { cls := .type "list", data := .seq vs.toArray } (.lst (ns.map V.int))) else if b ∈ tabs then some (.tbl #[]) else none) (fun b => ?_) (.inl (.inr ⟨{ cls := .type "list", data := .seq vs.toArray }, if_pos rfl⟩)) (fun b u z => ?_) (fun b z => ?_) (fun _ => hk) (fun p hp => by
      have : p ≠ a := fun y => ant (by rw [← y]; exact hp)
      exact (if_neg this).trans (if_pos hp))
    · by_cases hb : b = a
      · exact .inr (.inl ⟨_, _, if_pos hb⟩)
      · by_cases hb2 : b ∈ tabs
        · exact .inr (.inr ⟨hb2, (if_neg hb).trans (if_pos hb2)⟩)
        · exact .inl ((if_neg hb).trans (if_neg hb2))
    · by_cases hb : b = a
      · have z' := (if_pos hb).symm.trans z
        cases z'
        subst hb
        exact ⟨ha, by rw [List.length_map]; exact hl, vs, _, rv, ha⟩
      · by_cases hb2 : b ∈ tabs
        · have z' := ((if_neg hb).trans (if_pos hb2)).symm.trans z; cases z'; exact okT b hb2
        · have z' := ((if_neg hb).trans (if_neg hb2)).symm.trans z; cases z'
    · by_cases hb : b = a
      · exact .inl hb
      · by_cases hb2 : b ∈ tabs
        · exact .inr hb2
        · exact absurd ((if_neg hb).trans (if_neg hb2)) z
theorem zl {l : PySem.W.OpenLaw} {n k : Nat} {q : Program} {loose : List Str} {XP : (Str → Option Value) → Heap → Prop} {YP : World → Heap → Prop} {d : DefRec} {K : Params → PySem.W.Frag} {CX : World → CXT} {sp : World → Sp} {x : Str} (tabs : List Addr)
    (hn : l.most = some n) (hn2 : n ≤ sizeLine) (hdf : d.params.defaults = []) (hr : iG k callerA)
    (hY : ∀ (w : World) (h : Heap), YP w h → (K w.params).In h ∧ (∀ p ∈ tabs, h.get? p = some (PySem.W.tabObj #[]) ∧ (K w.params).lookup p = none) ∧ (∀ p ∈ tabs, isCodeTable h p))
    (hA2 : ∀ (w : World) c o p q, (K w.params).lookup c = some o → cq o = some (p, q) → p ∈ tabs)
    (F : ∀ (w : World) (mg : Str → Option Value) (fa : Addr) (h : Heap), (K w.params).In h → h.Ns mainGlobals mg → mg d.name = some (.ref fa) →
      ∃ fd : FuncData, (∀ (s : Shared) (u : Value), BindsTo s fd ⟨[u], []⟩ [(x, u)]) ∧
        ∀ base : Heap, (K w.params).In base → base.Ns mainGlobals mg → bq l.prog w (K w.params) mg base (CX w) k fa fd [x] (sp w))
    (hsp : ∀ (w : World) (H : Hp) (a : Addr) (ns : List Int), ns.length ≤ n → u9 (K w.params) H → SqL (K w.params) H a (ns.map V.int) → sp w [.ref a] H (fun v _ => v = .bl true) fun _ _ _ => False)
    (hCX : ∀ (w : World) (H : Hp) (s : Shared) (e : Value) (s' : Shared), CX w [] H s (fun _ _ _ => False) e s' → False) :
    PySem.W.WalkO q loose XP YP l.row.toRowW d [] (fun f vs => PySem.call f vs) := by
  refine Att.uv hn hdf fun w s₀ s₁ mg mb fa o pm cd doc a vs ns G Y ho hd hcd hmg hobj hints hlen hg => ?_
  obtain ⟨KX, hT, hC⟩ := hY w _ Y
  obtain ⟨fd, hb, hF⟩ := F w mg fa _ KX G.T.g hmg
  exact xT tabs hT (hA2 w) hC KX G.T.g G.T.b G.T.builtins G.T.nolimit hg hobj hints (Nat.le_trans hlen hn2) hr hF hb (fun H hO hS => hsp w H a ns hlen hO hS) fun H e s' => hCX w H s₁ e s'
end L2
namespace L2.DL
open PySem PySem.Spec PyProof.Rows
theorem Bx {K : PySem.W.Frag} {l : List (Addr × Str)} (h : (K.filterMap fun p => cq p.2) = l) {c : Addr} {o : Obj} {P : Addr} {q : Str} (e : K.lookup c = some o) (e2 : cq o = some (P, q)) : (P, q) ∈ l := by
  rw [← h]
  have mem : ∀ (L : List (Addr × Obj)), List.lookup c L = some o → (c, o) ∈ L := fun L => by
    induction L with
    | nil => intro z; cases z
    | cons a r ih =>
      intro z
      rw [List.lookup_cons] at z
      by_cases y : c = a.1
      · rw [y] at z ⊢; simp at z; rw [← z]; exact List.mem_cons_self
      · rw [show (c == a.1) = false from by simpa using y] at z
        exact List.mem_cons_of_mem _ (ih z)
  exact List.mem_filterMap.mpr ⟨(c, o), mem K e, e2⟩
theorem qU {K : PySem.W.Frag} {h : Heap} {c P : Addr} {o : Obj} {q : Str} (X : K.In h) (l : K.lookup c = some o) (e : cq o = some (P, q)) : isCodeTable h P := by
  have ho := X _ _ l
  unfold cq at e
  split at e
  · rename_i cn vs hcls hd
    split at e
    · rename_i hcn
      subst hcn
      split at e
      · rename_i e11 e18
        split at e
        · cases e
          exact ⟨c, o, vs, ho, hcls, hd, by assumption⟩
        · cases e
      · cases e
    · cases e
  · cases e
theorem wM {K : PySem.W.Frag} {c P : Addr} {q : Str} (h : (K.lookup c).bind cq = some (P, q)) : ∃ o, K.lookup c = some o ∧ cq o = some (P, q) := Option.bind_eq_some_iff.mp h
theorem rA {K T : PySem.W.Frag} {h : Heap} (X : PySem.W.Frag.In (K ++ T) h) : K.In h := fun b o e => X b o (by
  show List.lookup b (K ++ T) = some o
  rw [List.lookup_append, show List.lookup b K = some o from e]; rfl)
open PySem PySem.Spec PyProof.Rows
section
def Cq (K : PySem.W.Frag) (J : It) (xs : List PyData) (μ1 : Mu) (H1 : Hp) : Prop := ∀ μ2 H2, Ext K μ1 H1 μ2 H2 → bC K μ2 H2 → (∀ a ds, μ1 a = some ds → μ2 a = some ds) → ∀ i, (i < xs.length → J.go i H2 ∧ ∀ x H', J.yld i H2 x H' → ∃ d, xs[i]? = some d ∧ jM H2 H' ∧ Rp K μ2 H' d x) ∧ (i = xs.length → J.stop i H2)
def Dp (K : PySem.W.Frag) (wi : TI) (src : DTI) : Prop := ∀ (σ : St) (H : Hp) (ρ : Rho) (μ : Mu) (Qd : List PyData → Mu → Prop) (R : It → Hp → Prop), St0 K H ρ μ σ → src ρ μ Qd →
  (∀ xs μ1 H1 J, Ext K μ H μ1 H1 → St0 K H1 ρ μ1 σ → Cq K J xs μ1 H1 → Qd xs μ1 → R J H1) → wi σ H R
def DIW (X : Cx) (tg iter : Expr) (src : DTI) : Prop := ∃ wi, PI X tg iter wi ∧ Dp X.K wi src
def diM (te : DTE) : DTI := fun ρ μ Q => te ρ μ fun d μ1 => match d with
  | .m l => ∃ xs, μ1 l = some xs ∧ Q xs μ1
  | _ => False
theorem Gr {te : DTE} {ρ : Rho} {μ : Mu} {Q : List PyData → Mu → Prop} : diM te ρ μ Q = te ρ μ fun d μ1 => match d with
  | .m l => ∃ xs, μ1 l = some xs ∧ Q xs μ1
  | _ => False := propext Iff.rfl
theorem Gu {X : Cx} {e tg : Expr} {te : DTE} (h : DE X e te) : DIW X tg e (diM te) := by
  obtain ⟨t1, p1, l1⟩ := h
  refine ⟨_, xa p1, fun σ H ρ μ Qd R S h k => ?_⟩
  refine l1 σ H ρ μ _ _ S h fun d u μ1 H1 e1 S1 r h1 => ?_
  split at h1
  · rename_i l
    obtain ⟨xs, hl, h1⟩ := h1
    obtain ⟨rfl, _⟩ := r
    obtain ⟨us0, hus0, _⟩ := S1.mu l xs hl
    refine ⟨l, rfl, ⟨us0, SqL.of hus0⟩, k xs μ1 H1 _ e1 S1 (fun μ2 H2 e2 ok2 st i => ?_) h1⟩
    obtain ⟨us, hus, ra⟩ := ok2 l xs (st l xs hl)
    refine ⟨fun hi => ?_, fun hi => ⟨us, SqL.of hus, by rw [← ra.length]; omega⟩⟩
    have hiu : i < us.length := by rw [← ra.length]; exact hi
    refine ⟨⟨us, us[i], SqL.of hus, by simp [hiu]⟩, fun x H' ⟨eH, hx⟩ => ?_⟩
    subst eH
    obtain ⟨u', h1', h2'⟩ := ra.get (i := i) (d := xs[i]) (by simp [hi])
    have := hx us (SqL.of hus)
    rw [h1'] at this
    cases this
    exact ⟨xs[i], by simp [hi], jM.refl _, h2'⟩
  · exact h1.elim
theorem yT {X : Cx} {N' : List Str} {scope : Scope} {cl : List (Str × Addr)} {elt iter tg : Expr} {ifs : List Expr} {pos : Pos} {cap : List (Option Nat)} {src : DTI} {g : DTG} {c : DTT} {te : DTE} (hc : X.calm = X.calm)
    (hi : DIW X tg iter src) (hg : ∀ fp s₃ H₃, DG (aM X N' scope cl fp s₃ H₃) tg g) (hif : ∀ fp s₃ H₃, xx (aM X N' scope cl fp s₃ H₃) ifs c) (he : ∀ fp s₃ H₃, DE (aM X N' scope cl fp s₃ H₃) elt te)
    (hclos : closureFor scope X.env = pure cl) (hcell : ∀ y ∈ scope.names, y.2 ≠ .cell) (hkind : scope.kind = .function) (hnames : ∀ y ∈ scope.names, y.2 = .local → scope.names.lookup y.1 = some .local)
    (hcl : ∀ x a, cl.lookup x = some a → X.env.cells.lookup x = some a) (hhas : ∀ x, (relabel scope X.env).names.lookup x = some .cell ∨ (relabel scope X.env).names.lookup x = some .free → ∃ a, cl.lookup x = some a)
    (hlen : cap.length = N'.length) (hcap : ∀ (i j : Nat) (x : Str), cap[i]? = some (some j) → N'[i]? = some x → X.N[j]? = some x ∧ Vis X.env.scope x ∧ X.env.kindOf x ≠ some .local ∧ ((relabel scope X.env).names.lookup x = some .cell ∨ (relabel scope X.env).names.lookup x = some .free))
    (hs : ∀ x, foldedSetIterable iter X.env x = pure x := by intro _; rfl) : DE X (.ListComp elt [⟨tg, iter, ifs, 0⟩] scope pos) (oO cap src g c te) := by
  refine Cm fun pins s σ H ρ μ Qd Q I S h k => ?_
  obtain ⟨wi, pw, li⟩ := hi
  rw [eval_ListComp]
  refine wpAny_comprehension_free (use := none) rfl hs hclos hkind hnames (thn (pw pins s σ H _ I (li σ H ρ μ _ (fun J H1 => ∃ xs μ1, Ext X.K μ H μ1 H1 ∧ St0 X.K H1 ρ μ1 σ ∧ Cq X.K J xs μ1 H1 ∧ xs.length ≤ 1000 ∧ ∃ f : PyData → Option PyData,
      (∀ x ∈ xs, ∀ μ' : Mu, (∀ a ds, μ1 a = some ds → μ' a = some ds) → g (.v x) (bz cap ρ) μ' fun ρ2 μ2 => Le (bz cap ρ) ρ2 ∧ c ρ2 μ2 fun b μ3 =>
        if b = true then te ρ2 μ3 fun d μ4 => μ4 = μ' ∧ (match d with | .v y => f x = some y | _ => False) else μ3 = μ' ∧ f x = none) ∧ Qd (.v (.list (xs.filterMap f))) μ1) S h (fun xs μ1 H1 J e1 S1 it q => ⟨xs, μ1, e1, S1, it, q⟩)))
    fun v s1 h1 => thn h1 fun itv s2 h2 => ?_)
  obtain ⟨it, fp, tn, J, H2, rfl, I2, T, st2, f2, xs, μ1, e1, S1, itok, hxs, f, body, fin⟩ := h2
  refine wpAny_newObj_type (wpAny_newFunctionEnv hcell (by intro y hy; simp at hy) (fun h₁ hns₁ hsb₁ => ?_) hkind)
  dsimp only at hns₁ hsb₁ ⊢
  have hfree2 : H2 s2.heap.objs.size = none := I2.hok.fresh (Nat.le_refl _)
  have hK2 : X.K.lookup s2.heap.objs.size = none := by
    cases z : X.K.lookup s2.heap.objs.size with
    | none => rfl
    | some o => exact absurd (Heap.lt_size (I2.kIn _ _ z)) (Nat.lt_irrefl _)
  have I3 : Inv X pins σ (upd H2 s2.heap.objs.size (.lst [])) { s2 with heap := s2.heap.push { cls := .type "list", dict := none, data := .seq ([] : List Value).toArray } } :=
    I2.laid (t' := s2.toks) (fun b u e => Heap.get?_push_of_some _ e) (Nat.le_refl _) ⟨Nat.zero_le _, [], 0, .nil, Heap.get?_push_size _ rfl⟩
  generalize hH : s2.heap.push { cls := .type "list", dict := none, data := .seq ([] : List Value).toArray } = hp3 at hns₁ hsb₁ I3 ⊢
  have hsz3 : hp3.objs.size = s2.heap.objs.size + 1 := by rw [← hH, Heap.size_push]
  have kept3 : ∀ b o, hp3.get? b = some o → h₁.get? b = some o := fun b o e => hsb₁.extBut b o (Nat.ne_of_lt (Heap.lt_size e)) (Heap.get?_push_of_some _ e)
  have old3 : ∀ b o, s2.heap.get? b = some o → hp3.get? b = some o := fun b o e => by rw [← hH]; exact Heap.get?_push_of_some _ e
  have fplt : ∀ b ∈ fp, b < s2.heap.objs.size := fun b hb => by obtain ⟨o, e, _⟩ := T.obj 0 _ st2 b hb; exact Heap.lt_size e
  have fpst : ∀ b ∈ fp, b ∉ frs X.stack := fun b hb hz => by
    rcases List.mem_cons.mp (I2.jy b hz) with e | e
    · exact (f2 b hb).2.1 e
    · exact (f2 b hb).2.2.1 e
  obtain ⟨s3, hs3⟩ : ∃ s3 : Shared, s3 = { s2 with heap := hp3 } := ⟨_, rfl⟩
  obtain ⟨H3, hH3⟩ : ∃ H3 : Hp, H3 = upd H2 s2.heap.objs.size (.lst []) := ⟨_, rfl⟩
  have heap3 : s3.heap = hp3 := by rw [hs3]
  rw [← hH3] at I3
  have I3' : Inv X pins σ H3 s3 := by rw [hs3]; exact I3
  have hloc : H3 hp3.objs.size = none := by have := I3'.hok.fresh (a := hp3.objs.size) (by rw [heap3]; exact Nat.le_refl _); exact this
  have okc : (aM X N' scope cl fp s3 H3).Ok := by
    refine ⟨I3.ok.mod, ?_, I3.ok.glob, I3.ok.blt, Nat.le_refl _, fun x y a h1 h2 => I3.ok.inj x y a (hcl x a h1) (hcl y a h2), fun x hx => hhas x hx, fun x a h => (nomatch h), I3.ok.hd, I3.ok.qt, I3.ok.frames, .inl rfl, fun b hb => ⟨?_, fun x a h => (f2 b hb).2.2.2.2.1 x a (hcl x a h)⟩,
      I3'.bs, Nat.le_trans I3.ok.bsz I3'.sz, fun b o e hb => ?_, fun b hb => fpst b hb, I3'.stack, I3'.oj⟩
    · exact hkind
    · show b ≠ s3.heap.objs.size
      rw [heap3, hsz3]
      exact Nat.ne_of_lt (Nat.lt_succ_of_lt (fplt b hb))
    · rcases (f2 b hb).2.2.2.1 with z | z
      · exact I3.ok.vj b o e z
      · exact absurd (Nat.lt_of_lt_of_le (Heap.lt_size (I3.ok.bs b o e).1) z) (Nat.lt_irrefl _)
  have I4 : Inv (aM X N' scope cl fp s3 H3) [] (bz cap σ) H3 { s2 with heap := h₁, toks := s2.toks + ([] : List (Str × Value)).length } := by
    refine ⟨okc, by show s2.os = s3.os; rw [hs3], I3.bare, Un.kept (by show ∀ b o, s3.heap.get? b = some o → _; rw [heap3]; exact kept3), ⟨_, (by show h₁.Ns s3.heap.objs.size _; rw [heap3]; exact hns₁), fun i x v e1 e2 e3 => ?_⟩, fun x a h => ?_, (by show H3 s3.heap.objs.size = none; rw [heap3]; exact hloc), fun x a h => I3.jg x a (hcl x a h), fun p hp => ?_, I3.hok.kept kept3, ?_⟩
    · obtain ⟨j, h1, h2⟩ := mi e2
      obtain ⟨hN, hv, hnl, hk⟩ := hcap i j x h1 e1
      obtain ⟨m, _, hl⟩ := I3.loc
      obtain ⟨u, r, lk⟩ := hl j x v hN h2 hv
      refine ⟨u, r, .inr ⟨hk, ?_⟩⟩
      obtain ⟨a, ha⟩ := hhas x hk
      rcases lk with ⟨z, _⟩ | ⟨_, a', z1, z2⟩
      · exact absurd z hnl
      · have : a' = a := by have q := hcl x a ha; rw [z1] at q; exact Option.some.inj q
        subst this
        obtain ⟨o, ho, hd⟩ := z2
        exact ⟨a', ha, o, kept3 _ _ ho, hd⟩
    · obtain ⟨v, o, ho, hd⟩ := I3.cell x a (hcl x a h)
      exact ⟨v, o, kept3 _ _ ho, hd⟩
    · have hp' : p ∈ X.pn ++ pins := List.mem_append_left _ (by simpa using (show p ∈ X.pn ++ [] from hp))
      obtain ⟨z1, z2, z3, z4, z5⟩ := I3'.pin p hp'
      refine ⟨kept3 _ _ (by rw [← heap3]; exact z1), z2, (show p.1 ≠ s3.heap.objs.size from Nat.ne_of_lt (Heap.lt_size z1)), fun z => ?_, z5⟩
      rcases List.mem_cons.mp (I3'.jy p.1 z) with e | e
      · exact z3 e
      · exact z4 e
    · show (bz cap σ).length = N'.length
      unfold bz
      rw [List.length_map]
      exact hlen
  have hμ1 : μ1 s2.heap.objs.size = none := S1.mu.free hfree2
  have sub1 : ∀ ys a ds, μ1 a = some ds → aw μ1 s2.heap.objs.size ys a = some ds := fun ys a ds e => by
    have : a ≠ s2.heap.objs.size := fun z => by rw [z, hμ1] at e; cases e
    rw [cD this]; exact e
  have loop : codeAny (model X.prog X.w) X.A (.compLoop (.ListComp elt [⟨tg, iter, ifs, 0⟩] scope pos) 0 (.ref it) (.ref s2.heap.objs.size) (aM X N' scope cl fp s3 H3).env)
      (compPost (model X.prog X.w) X.A X.xe none (EP X pins σ Q) (.ref s2.heap.objs.size) hp3.objs.size) { s2 with heap := h₁, toks := s2.toks + ([] : List (Str × Value)).length } := by
    refine eh (fun n s' => ∃ (i : Nat) (σc : St) (Hc : Hp), n = xs.length - i ∧ i ≤ xs.length ∧ Inv (aM X N' scope cl fp s3 H3) [] σc Hc s' ∧ tn i s'.heap ∧ (∀ b ∈ fp, Hc b = none) ∧
      St0 X.K Hc (bz cap ρ) (aw μ1 s2.heap.objs.size ((xs.take i).filterMap f)) σc ∧ Ext X.K μ1 H2 (aw μ1 s2.heap.objs.size ((xs.take i).filterMap f)) Hc) ?_ xs.length
      ⟨0, bz cap σ, H3, by simp, Nat.zero_le _, I4, T.keep 0 _ _ st2 (fun b hb o e => kept3 b o (old3 b o e)), fun b hb => ?_, ?_, ?_⟩
    · rintro n s' ⟨i, σc, Hc, rfl, hi, Ic, tc, frc, Sc, Ec⟩
      have stat : ∀ {Hd : Hp}, (∀ b ∈ fp, Hd b = none) → ∀ b ∈ fp, qk (aM X N' scope cl fp s3 H3) [] Hd b := fun hn b hb =>
        ⟨hn b hb, (okc.exf b hb).1, fpst b hb, .inl hb, fun x a h => (okc.exf b hb).2 x a h, fun p hp => (f2 b hb).2.2.2.2.2 p (List.mem_append_left _ (by simpa using (show p ∈ X.pn ++ [] from hp)))⟩
      obtain ⟨go, stop⟩ := itok _ Hc Ec Sc.mu (sub1 _) i
      by_cases hlt : i < xs.length
      · obtain ⟨g1, y1⟩ := go hlt
        refine thn (T.item (aM X N' scope cl fp s3 H3) rfl rfl rfl (fun z => z) i [] s' σc Hc (fun _ _ => False) Ic (stat frc) tc g1) fun r s4 ⟨u, hr, h4⟩ => ?_
        subst hr
        refine thn h4 fun _ s5 ⟨x, H5, I5, r5, y5, st5, fr5⟩ => ?_
        obtain ⟨d, hd, sm, rd⟩ := y1 x H5 y5
        have I5' := I5.pinned (stat fr5) (T.obj _ _ st5)
        have e5 : Ext X.K _ Hc _ H5 := .of_same (μ := aw μ1 s2.heap.objs.size ((xs.take i).filterMap f)) sm
        have S5 : St0 X.K H5 (bz cap ρ) (aw μ1 s2.heap.objs.size ((xs.take i).filterMap f)) σc := ⟨Sc.mu.Av e5 sm, Sc.rho.ext Sc.mu e5⟩
        obtain ⟨gt, pg, lg⟩ := hg fp s3 H3
        have hmem : d ∈ xs := List.mem_of_getElem? hd
        refine thn (pg _ s5 σc H5 x u (fun σ' H' => ∃ ρ' μ', Ext X.K (aw μ1 s2.heap.objs.size ((xs.take i).filterMap f)) H5 μ' H' ∧ St0 X.K H' ρ' μ' σ' ∧ Le (bz cap ρ) ρ' ∧ c ρ' μ' fun b μ3 =>
            if b = true then te ρ' μ3 fun d' μ4 => μ4 = aw μ1 s2.heap.objs.size ((xs.take i).filterMap f) ∧ (match d' with | .v y => f d = some y | _ => False) else μ3 = aw μ1 s2.heap.objs.size ((xs.take i).filterMap f) ∧ f d = none) I5' r5
          (lg σc H5 (bz cap ρ) _ (.v d) x _ _ S5 rd (body d hmem _ (sub1 _)) fun σ' ρ' μ' H' e' S' q => ⟨ρ', μ', e', S', q⟩)) fun _ s6 ⟨σ6, H6, I6, ρ6, μ6, e6, S6, le6, q6⟩ => ?_
        refine thn (hif fp s3 H3 _ s6 σ6 H6 ρ6 μ6 _ (fun b H' => ∃ μ', Ext X.K μ6 H6 μ' H' ∧ St0 X.K H' ρ6 μ' σ6 ∧ if b = true then te ρ6 μ' fun d' μ4 => μ4 = aw μ1 s2.heap.objs.size ((xs.take i).filterMap f) ∧ (match d' with | .v y => f d = some y | _ => False) else μ' = aw μ1 s2.heap.objs.size ((xs.take i).filterMap f) ∧ f d = none)
          I6 S6 q6 fun b μ' H' e' S' q => ⟨μ', e', S', q⟩) fun b s7 ⟨H7, I7, μ7, e7, S7, q7⟩ => ?_
        have again : ∀ {H9 : Hp} {s9 : Shared}, Inv (aM X N' scope cl fp s3 H3) ([] ++ kr fp s5.heap) σ6 H9 s9 → bC X.K (aw μ1 s2.heap.objs.size ((xs.take (i + 1)).filterMap f)) H9 → fv X.K (aw μ1 s2.heap.objs.size ((xs.take (i + 1)).filterMap f)) H9 (bz cap ρ) σ6 →
            Ext X.K μ1 H2 (aw μ1 s2.heap.objs.size ((xs.take (i + 1)).filterMap f)) H9 → ∃ m, m < xs.length - i ∧ ∃ (i : Nat) (σc : St) (Hc : Hp), m = xs.length - i ∧ i ≤ xs.length ∧ Inv (aM X N' scope cl fp s3 H3) [] σc Hc s9 ∧ tn i s9.heap ∧ (∀ b ∈ fp, Hc b = none) ∧
              St0 X.K Hc (bz cap ρ) (aw μ1 s2.heap.objs.size ((xs.take i).filterMap f)) σc ∧ Ext X.K μ1 H2 (aw μ1 s2.heap.objs.size ((xs.take i).filterMap f)) Hc := fun {H9 s9} I9 m9 r9 e9 => by
          refine ⟨xs.length - (i + 1), by omega, i + 1, σ6, H9, rfl, hlt, I9.gp, T.keep _ _ _ st5 fun b hb o e => (I9.pin (b, o) (List.mem_append_right _ (List.mem_append_right _ (cA hb e)))).1, fun b hb => ?_, ⟨m9, r9⟩, e9⟩
          obtain ⟨o, e, _⟩ := T.obj _ _ st5 b hb
          exact (I9.pin (b, o) (List.mem_append_right _ (List.mem_append_right _ (cA hb e)))).2.1
        cases b with
        | false =>
          have q8 : μ7 = aw μ1 s2.heap.objs.size ((xs.take i).filterMap f) ∧ f d = none := by simpa using q7
          refine rD ?_
          have et : (xs.take (i + 1)).filterMap f = (xs.take i).filterMap f := by rw [mr hd, q8.2]; simp
          have eμ : aw μ1 s2.heap.objs.size ((xs.take (i + 1)).filterMap f) = μ7 := by rw [et, q8.1]
          refine again I7 (by rw [eμ]; exact S7.mu) (by rw [eμ]; exact S7.rho.le le6) ?_
          rw [eμ]
          exact Ec.trans (e5.trans (e6.trans e7))
        | true =>
          refine sP ?_
          obtain ⟨t8, p8, l8⟩ := he fp s3 H3
          refine thn (p8 _ s7 σ6 H7 (fun v H' => ∃ y, Ext X.K μ7 H7 (aw μ1 s2.heap.objs.size ((xs.take i).filterMap f)) H' ∧ St0 X.K H' ρ6 (aw μ1 s2.heap.objs.size ((xs.take i).filterMap f)) σ6 ∧ Rp X.K (aw μ1 s2.heap.objs.size ((xs.take i).filterMap f)) H' y v ∧ f d = some y) I7
            (l8 σ6 H7 ρ6 μ7 _ _ S7 (by simpa using q7) fun d' v μ8 H8 e8 S8 r8 q8 => ?_)) fun v s8 ⟨v8, H8, I8, r8, y, e8, S8, ry, fy⟩ => ?_
          · obtain ⟨rfl, q8⟩ := q8
            cases d' with
            | v y => exact ⟨y, e8, S8, r8, q8⟩
            | m _ => exact q8.elim
            | s _ => exact q8.elim
            | o _ => exact q8.elim
            | q _ => exact q8.elim
          · obtain ⟨us, hacc, rus⟩ := S8.mu s2.heap.objs.size _ aD
            have hle : ((xs.take i).filterMap f).length ≤ 1000 := Nat.le_trans (List.length_filterMap_le _ _) (Nat.le_trans (by rw [List.length_take]; exact Nat.min_le_right _ _) hxs)
            refine thn (j2 (X := aM X N' scope cl fp s3 H3) _ s8 σ6 H8 (.ref s2.heap.objs.size) [v8] (.ref s2.heap.objs.size) [v] (fun _ H' => H' = upd H8 s2.heap.objs.size (.lst (us ++ [v8]))) I8 rfl (.cons r8 .nil) ⟨_, us, v8, rfl, rfl, hacc, by rw [← rus.length]; exact di hle, rfl⟩) fun _ s9 ⟨_, H9, I9, _, e9⟩ => ?_
            subst e9
            have et : (xs.take (i + 1)).filterMap f = (xs.take i).filterMap f ++ [y] := by rw [mr hd, fy]; rfl
            have mset : aw (aw μ1 s2.heap.objs.size ((xs.take i).filterMap f)) s2.heap.objs.size ((xs.take (i + 1)).filterMap f) = aw μ1 s2.heap.objs.size ((xs.take (i + 1)).filterMap f) := mT
            have ex : Ext X.K (aw μ1 s2.heap.objs.size ((xs.take i).filterMap f)) H8 (aw μ1 s2.heap.objs.size ((xs.take (i + 1)).filterMap f)) (upd H8 s2.heap.objs.size (.lst (us ++ [v8]))) := by
              rw [← mset]
              exact iS aD
            refine again I9 ?_ ((S8.rho.le le6).ext S8.mu ex) (Ec.trans (e5.trans (e6.trans (e7.trans (e8.trans ex)))))
            rw [← mset]
            refine S8.mu.set aD ?_
            rw [et]
            exact rus.append (.cons ry .nil)
      · have ei : i = xs.length := by omega
        subst ei
        refine thn (T.done (aM X N' scope cl fp s3 H3) rfl rfl rfl (fun z => z) _ [] s' σc Hc (fun _ _ => False) Ic (stat frc) tc (stop rfl)) fun r s4 ⟨hr, I5⟩ => ?_
        subst hr
        rw [List.take_length] at Sc Ec
        obtain ⟨m, hn, _⟩ := I5.loc
        refine ⟨m, (by have z : s4.heap.Ns s3.heap.objs.size m := hn; rw [heap3] at z; exact z), fun h' hs' => ?_⟩
        have kp : ∀ b o, b < s2.heap.objs.size → s4.heap.get? b = some o → h'.get? b = some o := fun b o hb e => hs'.extBut b o (by rw [hsz3]; exact Nat.ne_of_lt (Nat.lt_succ_of_lt hb)) e
        have hcC : Hc hp3.objs.size = none := by have z : Hc s3.heap.objs.size = none := I5.free; rw [heap3] at z; exact z
        have hok' : HOk X.prog X.w Hc h' := fun b ob e => by
          refine (I5.hok b ob e).sS (fun cc v hcc q => hs'.extBut cc v ?_ q) (fun _ q => q) fun _ _ q => q
          rintro rfl
          rcases hcc with z | z
          · rw [← z, hcC] at e; cases e
          · rw [hcC] at z; cases z
        have u1 : Un (frs X.stack) fp H2 H3 s2.heap s3.heap := by rw [heap3, hH3]; exact Un.laid old3 (Nat.le_refl _) hfree2
        have u2 : Un (frs X.stack) fp H3 Hc s3.heap s4.heap := I5.base
        have If : Inv X pins σ Hc { s4 with heap := h' } := I2.xj (ch := fp) (by show s4.os = s2.os; have z : s4.os = s3.os := I5.os; rw [z, hs3]) (Un.after (u1.trans u2) kp) hok' I5.bare fun b hb => ⟨(f2 b hb).2.2.2.1, (f2 b hb).2.1, (f2 b hb).2.2.2.2.1, (f2 b hb).2.2.2.2.2⟩
        obtain ⟨us, hacc, rus⟩ := Sc.mu s2.heap.objs.size _ aD
        have shr : ∀ a, aw μ1 s2.heap.objs.size (xs.filterMap f) a = none → μ1 a = none := fun a e => by
          by_cases ha : a = s2.heap.objs.size
          · rw [ha]; exact hμ1
          · rw [cD ha] at e; exact e
        have eF : Ext X.K μ1 H2 μ1 Hc := ⟨Ec.keep, Ec.tb, fun _ ds q => ⟨ds, q⟩, fun _ q _ => q⟩
        have mF : bC X.K μ1 Hc := ⟨fun a ds q => by
          obtain ⟨ys, z1, z2⟩ := Sc.mu a ds (sub1 _ a ds q)
          exact ⟨ys, z1, z2.shrink shr⟩, Sc.mu.tab⟩
        exact ⟨.ref s2.heap.objs.size, Hc, If, rfl, k (.v (.list (xs.filterMap f))) _ μ1 Hc (e1.trans eF) ⟨mF, S1.rho.ext S1.mu eF⟩ (Rp.list hacc hμ1 (rus.shrink shr)) fin⟩
    · have z : b ≠ s2.heap.objs.size := Nat.ne_of_lt (fplt b hb)
      rw [hH3, bo z]
      exact (f2 b hb).1
    · have ex := gB (o := .lst []) (ds := []) S1.mu hfree2 hK2
      rw [hH3]
      exact ⟨S1.mu.mut .nil hfree2 hK2, (S1.rho.ext S1.mu ex).cap⟩
    · rw [hH3]
      exact gB (o := .lst []) (ds := []) S1.mu hfree2 hK2
  have envE : (aM X N' scope cl fp s3 H3).env = compEnvC scope cl hp3.objs.size X.env := by show compEnvC scope cl s3.heap.objs.size X.env = _; rw [heap3]
  rw [envE] at loop
  exact codeAny_compStart_list loop (T.self X.A 0 _ _ _ (T.keep 0 _ _ st2 (fun b hb o e => kept3 b o (old3 b o e))) loop)
end
open PySem PySem.Spec PyProof.Rows
section
variable {X : Cx} {a b e : Expr} {es : List Expr} {ta tb te : DTE} {t : DTA} {p pos : Pos} {x : Str} {bid T : String}
end
open PySem PySem.Spec PyProof.Rows
section
variable {X : Cx} {es : List Expr} {x1 : Nat} {tpos : Pos}
end
open PySem PySem.Spec PyProof.Rows
section
variable {X : Cx} {e : Expr} {te : DTE} {p p2 pos pos2 : Pos}
end
open PySem PySem.Spec PyProof.Rows
def QT (ds : List D) : PQ := fun K u μ H => ∃ a us, u = .ref a ∧ H a = some (.tup us) ∧ gv K μ H ds us
section
variable {X : Cx} {pins : List (Addr × Obj)} {σ : St} {H : Hp} {s : Shared}
end
section
variable {K : PySem.W.Frag} {μ : Mu} {H : Hp} {a : Addr} {us : List V} {ds : List D}
theorem Fq (ok : bC K μ H) (ha : H a = some (.tup us)) (r : gv K μ H ds us) : RpD K μ H (.q (QT ds)) (.ref a) := fun μ' H' e => ⟨a, us, rfl, e.keep _ _ ha (ok.not ha fun _ z => nomatch z) trivial, r.ext ok e⟩
end
section
variable {X : Cx} {es : List Expr} {t : DTA} {pos : Pos}
def zA (t : DTA) : DTE := fun ρ μ Q => t ρ μ fun ds μ1 => Q (.q (QT ds)) μ1
theorem A5 {x1} (h : DA X es t) (hl : es.length ≤ 1000 := by decide) : DE X (.Tuple es x1 pos) (zA t) := by
  obtain ⟨t1, p1, l1⟩ := h
  refine ⟨_, zH p1, fun σ H ρ μ Qd Q S h k => ?_⟩
  refine l1 σ H ρ μ _ _ S h fun ds us μ1 H1 e1 S1 rs len h1 => ?_
  refine ⟨Nat.le_of_lt (di (by rw [← rs.length, len]; exact hl)), fun p hp => ?_⟩
  have e2 := dz (K := X.K) (μ := μ1) (o := .tup us) hp
  have S2 := S1.new (o := .tup us) hp
  exact k (.q (QT ds)) _ μ1 _ (e1.trans e2) S2 (Fq S2.mu fz (rs.ext S1.mu e2)) h1
end
open PySem PySem.Spec PyProof.Rows
open PySem PySem.Spec PyProof.Rows
theorem DF {t : DTA} {ρ : Rho} {μ : Mu} {Q : DK} : zA t ρ μ Q = t ρ μ fun ds μ1 => Q (.q (QT ds)) μ1 := propext Iff.rfl
open PySem PySem.Spec PyProof.Rows
section
variable {X : Cx} {o e : Expr} {to te : DTE} {apos cpos : Pos}
end
section
variable {X : Cx} {E : XK} {C : Value} {a b : Expr} {tx : DTX} {pos : Pos}
end
section
variable {X : Cx}
end
open PySem PySem.Spec PyProof.Rows
section
variable {X : Cx}
end
open PySem PySem.Spec PyProof.Rows
mutual
theorem Rp.sub {K : PySem.W.Frag} {μ μ1 : Mu} {H : Hp} (h : ∀ a, μ1 a = none → μ a = none) : ∀ {d : PyData} {u : V}, Rp K μ1 H d u → Rp K μ H d u
  | _, _, .none => .none
  | _, _, .bool b => .bool b
  | _, _, .int i => .int i
  | _, _, .str x => .str x
  | _, _, .list a b c => .list a (h _ b) (RpL.sub h c)
  | _, _, .tuple a c => .tuple a (RpL.sub h c)
theorem RpL.sub {K : PySem.W.Frag} {μ μ1 : Mu} {H : Hp} (h : ∀ a, μ1 a = none → μ a = none) : ∀ {ds : List PyData} {us : List V}, RpL K μ1 H ds us → RpL K μ H ds us
  | _, _, .nil => .nil
  | _, _, .cons a b => .cons (Rp.sub h a) (RpL.sub h b)
end
open PySem PySem.Spec PyProof.Rows
def eW (μ μ' : Mu) : Prop := ∀ b ds, μ b = some ds → μ' b = some ds
theorem eW.refl {μ : Mu} : eW μ μ := fun _ _ e => e
theorem eW.trans {μ μ1 μ2 : Mu} (h : eW μ μ1) (g : eW μ1 μ2) : eW μ μ2 := fun b ds e => g b ds (h b ds e)
theorem eW.set {μ μ' : Mu} {p : Addr} {ds : List PyData} (h : eW μ μ') (n : μ p = none) : eW μ (aw μ' p ds) := fun b es e => by
  have : b ≠ p := fun z => by rw [z, n] at e; cases e
  rw [cD this]; exact h b es e
theorem eW.none {μ μ' : Mu} (h : eW μ μ') {b : Addr} (e : μ' b = none) : μ b = none := by
  cases z : μ b with
  | none => rfl
  | some ds => rw [h b ds z] at e; cases e
def frz (μ : Mu) (Qd : DK) : DK := fun d μ' => match d with
  | .v x => eW μ μ' ∧ Qd (.v x) μ
  | .m a => (μ a = none ∧ eW μ μ') ∧ ∃ es, μ' a = some es ∧ Qd (.v (.list es)) μ
  | _ => False
theorem lD {K : PySem.W.Frag} {μ μ' : Mu} {H : Hp} (ok : bC K μ' H) (s : eW μ μ') : bC K μ H := ⟨fun a ds z => by
  obtain ⟨xs, h1, h2⟩ := ok.lst a ds (s a ds z)
  exact ⟨xs, h1, h2.sub fun b hb => s.none hb⟩, ok.tab⟩
theorem y6 {P : Program} {w : World} {K : PySem.W.Frag} {mg : Str → Option Value} {base : Heap} {CX : CXT} {k : Nat} {f : Addr} {fd : FuncData} {ps : List Str} {sp sp' : DSp} (F : bq P w K mg base CX k f fd ps (spD K sp))
    (h : ∀ ds μ Qd, sp' ds μ Qd → sp ds μ (frz μ Qd)) : bq P w K mg base CX k f fd ps (spD K sp') := by
  refine F.imp fun vs H Q E h' => ?_
  obtain ⟨ds, μ, Qd, ok, r, s, kk⟩ := h'
  refine ⟨ds, μ, _, ok, r, h _ _ _ s, fun d u μ' H' e ok' rd q => ?_⟩
  cases d with
  | v x =>
    obtain ⟨sb, q⟩ := q
    exact kk (.v x) u μ H' ⟨e.keep, e.tb, fun b ds z => ⟨ds, z⟩, fun _ z _ => z⟩ (lD ok' sb) (show Rp K μ H' x u from (show Rp K μ' H' x u from rd).sub fun b hb => sb.none hb) q
  | m a =>
    obtain ⟨⟨n, sb⟩, es, he, q⟩ := q
    obtain ⟨rfl, _⟩ := rd
    obtain ⟨xs, h1, h2⟩ := ok'.lst a es he
    exact kk (.v (.list es)) (.ref a) μ H' ⟨e.keep, e.tb, fun b ds z => ⟨ds, z⟩, fun _ z _ => z⟩ (lD ok' sb) (show Rp K μ H' (.list es) (.ref a) from .list h1 n (h2.sub fun b hb => sb.none hb)) q
  | s ns => exact q.elim
  | o a => exact q.elim
  | q p => exact q.elim
def Fh : R2 := fun x y H Q => y = .non ∧ ((x = .non ∧ Q (.bl true) H) ∨ (∃ a, x = .ref a ∧ Q (.bl false) H))
theorem Bz {X : Cx} : OpR X (compareOp .Is) Fh := by
  intro pins s σ H x y v u Q I rx ry h
  obtain ⟨rfl, ⟨rfl, q⟩ | ⟨i, rfl, q⟩⟩ := h
  · cases rx; cases ry
    exact wpAny_is_plain rfl ⟨.bl true, H, I, rfl, q⟩
  · cases rx
    cases ry
    exact wpAny_is_plain rfl ⟨.bl false, H, I, rfl, q⟩
def uH : D → D → Mu → DK → Prop := fun x y μ Q => match x, y with
  | .v .none, .v .none => Q (.v (.bool true)) μ
  | .v (.list _), .v .none => Q (.v (.bool false)) μ
  | _, _ => False
theorem Er {K : PySem.W.Frag} : fL K Fh uH := by
  intro x y ux uy H μ Qd Q ok rx ry h k
  unfold uH at h
  split at h
  · cases rx; cases ry; exact ⟨rfl, .inl ⟨rfl, k (.v _) _ μ H .refl ok (Rp.bool _) h⟩⟩
  · cases rx; cases ry; exact ⟨rfl, .inr ⟨_, rfl, k (.v _) _ μ H .refl ok (Rp.bool _) h⟩⟩
  · exact h.elim
theorem D4 {μ : Mu} {Q : DK} : uH (.v .none) (.v .none) μ Q = Q (.v (.bool true)) μ := propext Iff.rfl
theorem CF {μ : Mu} {Q : DK} {xs : List PyData} : uH (.v (.list xs)) (.v .none) μ Q = Q (.v (.bool false)) μ := propext Iff.rfl
open PySem PySem.Spec PyProof.Rows
def QP (x : PyData) (a : Addr) : PQ := QT [.v x, .m a]
section
variable {K : PySem.W.Frag} {μ : Mu} {H : Hp}
theorem yC {x : PyData} {u : V} (r : Rp K μ H x u) : Rp K (fun _ => none) H x u := r.sub fun _ _ => rfl
theorem C9 {a : Addr} {es : List PyData} (ok : bC K μ H) (h : μ a = some es) : Rp K (fun _ => none) H (.list es) (.ref a) := by
  obtain ⟨xs, h1, h2⟩ := ok.lst a es h
  exact .list h1 rfl (h2.sub fun _ _ => rfl)
theorem vd {x : PyData} {a : Addr} {u : V} (r : RpD K μ H (.q (QP x a)) u) : ∃ p ux, u = .ref p ∧ SqT K H p [ux, .ref a] ∧ Rp K μ H x ux ∧ ∃ ds, μ a = some ds := by
  obtain ⟨p, us, rfl, hp, rs⟩ := r μ H .refl
  cases rs with
  | cons r1 r2 =>
    cases r2 with
    | cons r2 r3 =>
      cases r3
      obtain ⟨rfl, ds, hd⟩ := r2
      exact ⟨p, _, rfl, .inl (.inl hp), r1, ds, hd⟩
theorem EO {x : PyData} {a : Addr} {u : V} {es : List PyData} (ok : bC K μ H) (h : μ a = some es) (r : RpD K μ H (.q (QP x a)) u) : Rp K (fun _ => none) H (.tuple [x, .list es]) u := by
  obtain ⟨p, ux, rfl, hp, r1, _⟩ := vd r
  exact .tuple hp (.cons (yC r1) (.cons (C9 ok h) .nil))
def kz : D → D → Mu → DK → Prop := fun x y μ Q => match x, y with
  | .q P, .v (.int i) => ∃ z a, P = QP z a ∧ ((i = 0 ∧ Q (.v z) μ) ∨ (i = 1 ∧ Q (.m a) μ))
  | x, y => ax x y μ Q
theorem DC : fL K (rIx K) kz := by
  intro x y ux uy H μ Qd Q ok rx ry h k
  unfold kz at h
  split at h
  · obtain ⟨z, a, rfl, h⟩ := h
    cases ry
    obtain ⟨p, u, rfl, hp, r1, ds, hd⟩ := vd rx
    rcases h with ⟨rfl, h⟩ | ⟨rfl, h⟩
    · exact .inr (.inl ⟨p, _, 0, u, rfl, rfl, hp, rfl, k (.v z) u μ H .refl ok r1 h⟩)
    · exact .inr (.inl ⟨p, _, 1, .ref a, rfl, rfl, hp, rfl, k (.m a) _ μ H .refl ok ⟨rfl, ds, hd⟩ h⟩)
  · exact Ck x y ux uy H μ Qd Q ok rx ry h k
def pk : List D → Mu → DK → Prop := fun xs μ Q => match xs with
  | [.q P] => ∃ z a, P = QP z a ∧ Q (.v (.int 2)) μ
  | xs => gr xs μ Q
theorem A7 : lL K (fun xs H Q => ∃ p ys, xs = [.ref p] ∧ (SqL K H p ys ∨ SqT K H p ys) ∧ Q (.int ys.length) H) pk := by
  intro xs us H μ Qd Q ok rs h k
  unfold pk at h
  split at h
  · obtain ⟨z, a, rfl, h⟩ := h
    cases rs with
    | cons r1 r2 =>
      cases r2
      obtain ⟨p, u, rfl, hp, _⟩ := vd r1
      exact ⟨p, _, rfl, .inr hp, k (.v (.int 2)) _ μ H .refl ok (Rp.int _) h⟩
  · exact zz xs us H μ Qd Q ok rs h k
def sN (neg : Bool) : D → D → Mu → DK → Prop := fun x y μ Q => match x, y with
  | .m a, .v b => ∃ es, μ a = some es ∧ SeqAt.shaped (.list es) = true ∧ SeqAt.shaped b = true ∧ Q (.v (.bool (neg ^^ PyData.eqv (.list es) b))) μ
  | x, y => cS neg x y μ Q
theorem oM {neg : Bool} : fL K (AJ K neg) (sN neg) := by
  intro x y ux uy H μ Qd Q ok rx ry h k
  unfold sN at h
  split at h
  · rename_i a b
    obtain ⟨es, hm, s1, s2, h⟩ := h
    obtain ⟨rfl, _⟩ := rx
    exact ⟨_, _, _, C9 ok hm, yC ry, s1, s2, k (.v _) _ μ H .refl ok (Rp.bool _) h⟩
  · exact bG x y ux uy H μ Qd Q ok rx ry h k
end
section
variable {X : Cx} {a b e : Expr} {ta tb te : DTE} {pos p : Pos} {T : String}
theorem jJ (ha : DE X a ta) (hb : DE X b tb) (hs : rZ b) : DE X (.Subscript a b pos) (dOp kz ta tb) := by
  obtain ⟨t1, p1, l1⟩ := ha
  obtain ⟨t2, p2, l2⟩ := hb
  exact ⟨_, Cj Ap p1 p2 hs, l7 DC l1 l2⟩
theorem A6 {es : List Expr} {t : DTA} (hg : Gl X "len") (hm : X.mg "len" = none) (ha : DA X (e :: es) t)
    (he : starEach (e :: es) X.env = (false, eval e X.env) :: starEach es X.env := by rfl) (hpl : (backTo pos (starEach es X.env)).any (·.1) = false := by rfl) : DE X (.Call (.Name "len" p) (e :: es) [] pos) (dCB pk t) :=
  g9 l5 A7 hg hm PySem.boot_len ha (by decide) (by decide) he hpl
def w9 (T : String) (te : DTE) : DTE := fun ρ μ Q => te ρ μ fun x μ1 => match x with
  | .v d => Q (.v (.bool (isT T d))) μ1
  | .q P => ∃ z a, P = QP z a ∧ Q (.v (.bool (isT T (.tuple [])))) μ1
  | .m _ => Q (.v (.bool (isT T (.list [])))) μ1
  | _ => False
theorem wU {y : Str} {py : Pos} (kt : ∀ d, PySem.W.kitOne X.K (.type (tyD d)) (.type T) = some (isT T d)) (hg : Gl X "isinstance") (hm : X.mg "isinstance" = none) (hgy : Gl X y) (hmy : X.mg y = none) (hvy : bootBuiltins y = some (.type T)) (ha : DE X e te)
    (hny : y ≠ "__name__" := by decide) (hdy : (y == ("__debug__" : Str)) = false := by decide)
    (he : starEach [e, .Name y py] X.env = (false, eval e X.env) :: starEach [.Name y py] X.env := by rfl) (he2 : starEach [.Name y py] X.env = [(false, eval (.Name y py) X.env)] := by rfl) (hpl : (backTo pos (starEach [.Name y py] X.env)).any (·.1) = false := by rfl) : DE X (.Call (.Name "isinstance" p) [e, .Name y py] [] pos) (w9 T te) := by
  obtain ⟨t1, p1, l1⟩ := ha
  refine ⟨_, pL (nt kt) hg hm PyProof.Rows.Boot.«isinstance» (j9 p1 (j9 (wJ (v := .ty T) hgy hmy hvy rfl hny hdy) rz he2) he) (by decide) (by decide) he hpl, fun σ H ρ μ Qd Q S h k => ?_⟩
  refine l1 σ H ρ μ _ _ S h fun x ux μ1 H1 e1 S1 rx h1 => ?_
  split at h1
  · exact ⟨μ1, _, ux, rfl, rx, k (.v _) _ μ1 H1 e1 S1 (Rp.bool _) h1⟩
  · obtain ⟨z, a, rfl, h1⟩ := h1
    obtain ⟨_, _, _, _, _, ds, hd⟩ := vd rx
    exact ⟨_, _, ux, rfl, EO S1.mu hd rx, k (.v _) _ μ1 H1 e1 S1 (Rp.bool _) h1⟩
  · obtain ⟨rfl, ds, hd⟩ := rx
    exact ⟨_, _, _, rfl, C9 S1.mu hd, k (.v _) _ μ1 H1 e1 S1 (Rp.bool _) h1⟩
  · exact h1.elim
def zx (to : DTE) : DTE := fun ρ μ Q => to ρ μ fun x μ1 => match x with
  | .m l => (match μ1 l with
    | some xs => Q (.v .none) (aw μ1 l xs.reverse)
    | none => False)
  | _ => False
theorem RpL.snoc {K : PySem.W.Frag} {μ : Mu} {H : Hp} : ∀ {ds : List PyData} {us : List V} {d : PyData} {u : V}, RpL K μ H ds us → Rp K μ H d u → RpL K μ H (ds ++ [d]) (us ++ [u])
  | _, _, _, _, .nil, r => .cons r .nil
  | _, _, _, _, .cons a b, r => .cons a (RpL.snoc b r)
theorem RpL.rev {K : PySem.W.Frag} {μ : Mu} {H : Hp} : ∀ {ds : List PyData} {us : List V}, RpL K μ H ds us → RpL K μ H ds.reverse us.reverse
  | _, _, .nil => .nil
  | _, _, .cons a b => by rw [List.reverse_cons, List.reverse_cons]; exact RpL.snoc (RpL.rev b) a
theorem A4 {o : Expr} {to : DTE} {apos cpos : Pos} (ho : DE X o to) (hbase : attributeBase o "reverse" X.env (eval o X.env) = eval o X.env := by rfl) (hline : (apos.endLine == cpos.line) = true := by rfl) :
    DE X (.Call (.Attribute o "reverse" apos) [] [] cpos) (zx to) := by
  obtain ⟨t1, p1, l1⟩ := ho
  refine ⟨_, DP PySem.F.plainAttrs_list PySem.F.slot_list_reverse PySem.F.type_list_reverse vN p1 hbase hline, fun σ H ρ μ Qd Q S h k => ?_⟩
  refine l1 σ H ρ μ _ _ S h fun x ux μ1 H1 e1 S1 rx h1 => ?_
  cases x with
  | m l =>
    obtain ⟨rfl, ds, hm⟩ := id rx
    obtain ⟨us, hl, rl⟩ := S1.mu l ds hm
    refine ⟨.inl ⟨rfl, us, SqL.of hl⟩, ?_⟩
    dsimp only at h1
    rw [hm] at h1
    have ex : Ext X.K μ1 H1 (aw μ1 l ds.reverse) (upd H1 l (.lst us.reverse)) := iS hm
    exact ⟨l, us, rfl, rfl, hl, k (.v .none) .non _ _ (e1.trans ex) ⟨S1.mu.set hm rl.rev, S1.rho.ext S1.mu ex⟩ Rp.none h1⟩
  | v d => exact h1.elim
  | s ns => exact h1.elim
  | o _ => exact h1.elim
  | q _ => exact h1.elim
end
def Fg (μ : Mu) (Qd : DK) : DK := fun d μ' => match d with
  | .v x => eW μ μ' ∧ Qd (.v x) μ
  | .q P => ∃ z a es, P = QP z a ∧ (μ a = none ∧ eW μ μ') ∧ μ' a = some es ∧ Qd (.v (.tuple [z, .list es])) μ
  | _ => False
theorem AQ {P : Program} {w : World} {K : PySem.W.Frag} {mg : Str → Option Value} {base : Heap} {CX : CXT} {k : Nat} {f : Addr} {fd : FuncData} {ps : List Str} {sp sp' : DSp} (F : bq P w K mg base CX k f fd ps (spD K sp))
    (h : ∀ ds μ Qd, sp' ds μ Qd → sp ds μ Qd ∨ sp ds μ (Fg μ Qd)) : bq P w K mg base CX k f fd ps (spD K sp') := by
  refine F.imp fun vs H Q E h' => ?_
  obtain ⟨ds, μ, Qd, ok, r, s, kk⟩ := h'
  rcases h _ _ _ s with s | s
  · exact ⟨ds, μ, _, ok, r, s, kk⟩
  refine ⟨ds, μ, _, ok, r, s, fun d u μ' H' e ok' rd q => ?_⟩
  cases d with
  | v x =>
    obtain ⟨sb, q⟩ := q
    exact kk (.v x) u μ H' ⟨e.keep, e.tb, fun b ds z => ⟨ds, z⟩, fun _ z _ => z⟩ (lD ok' sb) (show Rp K μ H' x u from (show Rp K μ' H' x u from rd).sub fun b hb => sb.none hb) q
  | q P =>
    obtain ⟨z, a, es, rfl, ⟨n, sb⟩, he, q⟩ := q
    obtain ⟨p, ux, rfl, hp, r1, _⟩ := vd rd
    obtain ⟨xs, h1, h2⟩ := ok'.lst a es he
    exact kk (.v (.tuple [z, .list es])) (.ref p) μ H' ⟨e.keep, e.tb, fun b ds z => ⟨ds, z⟩, fun _ z _ => z⟩ (lD ok' sb)
      (show Rp K μ H' (.tuple [z, .list es]) (.ref p) from .tuple hp (.cons (r1.sub fun b hb => sb.none hb) (.cons (.list h1 n (h2.sub fun b hb => sb.none hb)) .nil))) q
  | m a => exact q.elim
  | s ns => exact q.elim
  | o a => exact q.elim
theorem yL {T : String} {te : DTE} {ρ : Rho} {μ : Mu} {Q : DK} : w9 T te ρ μ Q = te ρ μ (fun x μ1 => match x with
  | .v d => Q (.v (.bool (isT T d))) μ1
  | .q P => ∃ z a, P = QP z a ∧ Q (.v (.bool (isT T (.tuple [])))) μ1
  | .m _ => Q (.v (.bool (isT T (.list [])))) μ1
  | _ => False) := propext Iff.rfl
theorem Es {to : DTE} {ρ : Rho} {μ : Mu} {Q : DK} : zx to ρ μ Q = to ρ μ (fun x μ1 => match x with
  | .m l => (match μ1 l with
    | some xs => Q (.v .none) (aw μ1 l xs.reverse)
    | none => False)
  | _ => False) := propext Iff.rfl
theorem AL {z : PyData} {a : Addr} {μ : Mu} {Q : DK} : pk [.q (QP z a)] μ Q = Q (.v (.int 2)) μ := propext ⟨fun ⟨_, _, _, h⟩ => h, fun h => ⟨z, a, rfl, h⟩⟩
theorem Ef {z : PyData} {a : Addr} {μ : Mu} {Q : DK} (h : Q (.v z) μ) : kz (.q (QP z a)) (.v (.int 0)) μ Q := ⟨z, a, rfl, .inl ⟨rfl, h⟩⟩
theorem pF {z : PyData} {a : Addr} {μ : Mu} {Q : DK} (h : Q (.m a) μ) : kz (.q (QP z a)) (.v (.int 1)) μ Q := ⟨z, a, rfl, .inr ⟨rfl, h⟩⟩
theorem yt {x : PyData} {d : D} {μ : Mu} {Q : DK} : kz (.v x) d μ Q = ax (.v x) d μ Q := by unfold kz; rfl
theorem oT {neg : Bool} {x : PyData} {d : D} {μ : Mu} {Q : DK} : sN neg (.v x) d μ Q = cS neg (.v x) d μ Q := by unfold sN; rfl
theorem BB {x : PyData} {μ : Mu} {Q : DK} : pk [.v x] μ Q = gr [.v x] μ Q := by unfold pk; rfl
end L2.DL
set_option linter.all false
set_option maxRecDepth 100000
set_option maxHeartbeats 1000000
namespace NM
section
variable {d : Int} {x y z k s o : N3} {A B C A' B' C' P Q R E F G : Int}
end
end NM
set_option linter.all false
set_option maxRecDepth 100000
set_option maxHeartbeats 4000000
namespace NM
section
variable {d : Int} {x y z : N3}
section
variable {f : N3}
end
end
end NM
set_option linter.all false
set_option maxRecDepth 100000
set_option maxHeartbeats 4000000
namespace NM
section
variable {d : Int} {n m : Nat} {x y : N3}
theorem sz0 : Sz n 0 := Sz.of (by simp; exact Nat.pos_of_ne_zero (by simp))
theorem yr (h : aK d) (ox : Ok x) (oy : Ok y) (hx : x = aB ∨ sg d x.a x.b = 1) (hy : sg d y.a y.b = 1) : sg d (plus x y).a (plus x y).b = 1 := by
  have e : sg d (plus x y).a (plus x y).b = sg d (x.a * y.c + y.a * x.c) (x.b * y.c + y.b * x.c) := w8 h (Int.mul_pos ox.c oy.c)
  rw [e]
  rcases hx with rfl | hx
  · have e1 : aB.a * y.c + y.a * aB.c = y.a := by show 0 * y.c + y.a * 1 = y.a; omega
    have e2 : aB.b * y.c + y.b * aB.c = y.b := by show 0 * y.c + y.b * 1 = y.b; omega
    rw [e1, e2]; exact hy
  · have p1 : P d (y.c * x.a) (y.c * x.b) := (cm h).mp (by rw [fw h oy.c]; exact hx)
    have p2 : P d (x.c * y.a) (x.c * y.b) := (cm h).mp (by rw [fw h ox.c]; exact hy)
    have := (cm h).mpr (BQ h p1 p2)
    have e1 : x.a * y.c + y.a * x.c = y.c * x.a + x.c * y.a := by grind
    have e2 : x.b * y.c + y.b * x.c = y.c * x.b + x.c * y.b := by grind
    rw [e1, e2]; exact this
end
end NM
set_option linter.all false
set_option maxRecDepth 100000
set_option maxHeartbeats 4000000
namespace NM
section
variable {d : Int} {x y z : N3}
def gtL (d : Int) (k o : N3) : Prop := ((wZ d o).a.natAbs : Int) * (wZ d k).c < ((wZ d k).a.natAbs : Int) * (wZ d o).c
instance : Decidable (gtL d x y) := by unfold gtL; infer_instance
end
end NM
set_option linter.all false
set_option maxRecDepth 100000
set_option maxHeartbeats 400000
namespace NM
section
variable {d : Int} {x y z k s o f : N3}
end
end NM
set_option linter.all false
set_option maxRecDepth 100000
set_option maxHeartbeats 400000
namespace NM
section
variable {d : Int} {x y z k s o f : N3}
end
end NM
set_option Elab.async false
set_option linter.all false
set_option maxHeartbeats 4000000
namespace NM
section
variable {d : Int} {x y z u p q s t w h p' q' s' t' w' h' : N3}
theorem fN : Ok aB := ⟨by decide, by decide⟩
theorem Ad : Ok one := ⟨by decide, by decide⟩
theorem Ge (ox : Ok x) : plus x aB = x :=
  ((aF ox).plus ox fN (aF fN)).eq (lR ox fN) ox (aF ox) (by simp only [aB]; grind) (by simp only [aB]; grind)
theorem FZ (ox : Ok x) : plus aB x = x :=
  ((aF fN).plus fN ox (aF ox)).eq (lR fN ox) ox (aF ox) (by simp only [aB]; grind) (by simp only [aB]; grind)
theorem Df (ox : Ok x) : times d one x = x :=
  ((aF Ad).times Ad ox (aF ox)).eq (bP Ad ox) ox (aF ox) (by simp only [one]; grind) (by simp only [one]; grind)
theorem x8 (ox : Ok x) : times d aB x = aB :=
  ((aF fN).times fN ox (aF ox)).eq (bP fN ox) fN (aF fN) (by simp only [aB]; grind) (by simp only [aB]; grind)
theorem Gj (ox : Ok x) : times d x aB = aB :=
  ((aF ox).times ox fN (aF fN)).eq (bP ox fN) fN (aF fN) (by simp only [aB]; grind) (by simp only [aB]; grind)
def hf (d : Int) (p q h : N3) : N3 := plus (times d p h) (times d q (gw h))
end
end NM
set_option linter.all false
set_option maxRecDepth 100000
set_option maxHeartbeats 400000
namespace NM
section
variable {d : Int} {x y z k s o f u v : N3}
theorem CG (ox : Ok x) (oy : Ok y) : times d x y = times d y x :=
  Rep.eq (bP ox oy) (bP oy ox) (Rep.times ox oy (aF ox) (aF oy)) (Rep.times oy ox (aF oy) (aF ox)) (by grind) (by grind)
theorem yN (ox : Ok x) : times d x one = x := by rw [CG ox cM, Df ox]
end
end NM
set_option Elab.async false
set_option linter.all false
set_option maxRecDepth 100000
set_option maxHeartbeats 4000000
namespace L2.DL
open PySem PySem.Spec PyProof.Rows NM
theorem eE {n m : Nat} {i j : Int} (h : Sz n i) (g : Sz m j) (l : n + m ≤ 100000) : IntMulOk i j := by
  have b1 : ∀ {k : Nat} {z : Int}, Sz k z → Builtin.Int.intBits z ≤ k := fun {k z} hz => by
    unfold Builtin.Int.intBits
    split
    · exact Nat.zero_le _
    · rename_i q
      have hz' : z.natAbs ≠ 0 := by simp at q; omega
      have := (Nat.log2_lt hz').mpr hz.lt
      omega
  have e1 := b1 h
  have e2 := b1 g
  unfold IntMulOk
  intro z
  simp only [Bool.and_eq_true] at z
  have z3 := z.2
  unfold Builtin.Int.intTooBig at z3
  simp only [decide_eq_true_eq] at z3
  have : (100000 : Int) ≤ bitsLine := by decide
  omega
theorem rf {n : Nat} {i j : Int} (h0 : j ≠ 0) (h : Sz n j) (l : n ≤ 8900) : mj i j := by
  refine ⟨h0, PyProof.noPylong_of_log2 ?_⟩
  have hz' : j.natAbs ≠ 0 := by omega
  have := (Nat.log2_lt hz').mpr h.lt
  omega
theorem divC {i j : Int} (h0 : j ≠ 0) (h1 : j.natAbs < 1073741824) : mj i j := ⟨h0, PyProof.noPylong_small h1⟩
theorem mulL {i j : Int} (h : i.natAbs < 2 ^ 64) : IntMulOk i j := AD.ok (.inl (by omega))
theorem mulR {i j : Int} (h : j.natAbs < 2 ^ 64) : IntMulOk i j := AD.ok (.inr (by omega))
def dN (x : N3) : PyData := .tuple [.int x.a, .int x.b, .int x.c]
def isWhole (d : PyData) : Bool := isT "int" d && !isT "bool" d
def isNum : PyData → Bool
  | .tuple [.int a, .int b, .int c] => decide (1 ≤ c) && (g3 a b c == 1)
  | _ => false
def fh : DSp := fun ds μ Q => ∃ d, ds = [.v d] ∧ Q (.v (.bool (isWhole d))) μ
def jz : DSp := fun ds μ Q => ∃ a b : Int, ds = [.v (.int a), .v (.int b)] ∧ Q (.v (.int (Int.gcd a b : Nat))) μ
def pC : DSp := fun ds μ Q => ∃ a b c : Int, ds = [.v (.int a), .v (.int b), .v (.int c)] ∧ Q (.v (.int (g3 a b c : Nat))) μ
def Few : PyData → Prop
  | .tuple xs => xs.length ≤ 1000
  | _ => True
def jq : DSp := fun ds μ Q => ∃ d, ds = [.v d] ∧ Few d ∧ Q (.v (.bool (isNum d))) μ
def bY : DSp := fun ds μ Q => ∃ a b c : Int, ds = [.v (.int a), .v (.int b), .v (.int c)] ∧ c ≠ 0 ∧ Sz 8800 c ∧ Q (.v (dN (low a b c))) μ
def jY : DSp := fun ds μ Q => ∃ x : N3, ds = [.v (dN x)] ∧ Q (.v (dN (gw x))) μ
def k0 : DSp := fun ds μ Q => ∃ x : N3, ds = [.v (dN x)] ∧ Q (.v (dN (minus x))) μ
def sp2 (f : N3 → N3 → N3) : DSp := fun ds μ Q => ∃ x y : N3, ds = [.v (dN x), .v (dN y)] ∧ Ok x ∧ Ok y ∧ Bd 4300 x ∧ Bd 4300 y ∧ Q (.v (dN (f x y))) μ
abbrev g5 : DSp := sp2 plus
def bc : DSp := fun ds μ Q => ∃ (d : Int) (x y : N3), ds = [.v (.int d), .v (dN x), .v (dN y)] ∧ Sz 5 d ∧ Ok x ∧ Ok y ∧ Bd 4300 x ∧ Bd 4300 y ∧ Q (.v (dN (times d x y))) μ
def cT : DSp := fun ds μ Q => ∃ (d : Int) (x : N3), ds = [.v (.int d), .v (dN x)] ∧ Sz 5 d ∧ norm d x ≠ 0 ∧ Bd 4300 x ∧ Q (.v (dN (aU d x))) μ
def jR : DSp := fun ds μ Q => ∃ (d : Int) (x y : N3), ds = [.v (.int d), .v (dN x), .v (dN y)] ∧ aK d ∧ Ok x ∧ Ok y ∧ y ≠ aB ∧ Bd 2100 x ∧ Bd 2100 y ∧ Q (.v (dN (times d x (aU d y)))) μ
def n6 : DSp := fun ds μ Q => ∃ d a b : Int, ds = [.v (.int d), .v (.int a), .v (.int b)] ∧ Sz 5 d ∧ Sz 9900 a ∧ Sz 9900 b ∧ Q (.v (.int (sg d a b))) μ
def fB : DSp := fun ds μ Q => ∃ (d : Int) (x : N3), ds = [.v (.int d), .v (dN x)] ∧ aK d ∧ Bd 8900 x ∧ Q (.v (.int (sg d x.a x.b))) μ
def dif (d : Int) (x y : N3) : Int := sg d (x.a * y.c - y.a * x.c) (x.b * y.c - y.b * x.c)
def oi : DSp := fun ds μ Q => ∃ (d : Int) (x y : N3), ds = [.v (.int d), .v (dN x), .v (dN y)] ∧ aK d ∧ Ok x ∧ Ok y ∧ Bd 4300 x ∧ Bd 4300 y ∧ Q (.v (.bool (decide (dif d y x = 1)))) μ
def Bag (μ : Mu) (a : Addr) : Prop := ∃ g m : Int, μ a = some [.int g, .int m] ∧ 0 ≤ g ∧ 0 ≤ m ∧ m < 2147483648
def Step (a : Addr) (μ μ' : Mu) : Prop := Bag μ' a ∧ ∀ b, b ≠ a → μ' b = μ b
def xl : DSp := fun ds μ Q => ∃ (ns : List Int) (k : Int), ds = [.s ns, .v (.int k)] ∧ 0 ≤ k ∧ k ≤ 1000 ∧ ∀ p μ', μ p = none → Step p μ μ' → Q (.m p) μ'
def cj : DSp := fun ds μ Q => ∃ (a : Addr) (n : Int), ds = [.m a, .v (.int n)] ∧ 1 ≤ n ∧ n ≤ 1000000000 ∧ Bag μ a ∧ ∀ r μ', 0 ≤ r → r < n → Step a μ μ' → Q (.v (.int r)) μ'
def j6 : DSp := fun ds μ Q => ∃ a : Addr, ds = [.m a] ∧ Bag μ a ∧ ∀ x μ', Ok x → Bd 20 x → Step a μ μ' → Q (.v (dN x)) μ'
def n4 : DSp := fun ds μ Q => ∃ a : Addr, ds = [.m a] ∧ Bag μ a ∧ ∀ d μ', aK d → Step a μ μ' → Q (.v (.int d)) μ'
theorem Step.trans {a : Addr} {μ μ1 μ2 : Mu} (h : Step a μ μ1) (g : Step a μ1 μ2) : Step a μ μ2 := ⟨g.1, fun b n => (g.2 b n).trans (h.2 b n)⟩
theorem Step.set {a : Addr} {μ : Mu} {g m : Int} (h1 : 0 ≤ g) (h2 : 0 ≤ m) (h3 : m < 2147483648) : Step a μ (aw μ a [.int g, .int m]) := ⟨⟨g, m, aD, h1, h2, h3⟩, fun b n => cD n⟩
local macro_rules | `(tactic| walk_at "rd") => `(tactic| simp only [↓Ac, ↓zQ, ↓zu, ↓wa, ↓sA, ↓As, ↓zh, ↓zO, ↓zf, ↓yy, ↓wK, ↓q_c, ↓Fe, ↓q_B, ↓Eu, ↓Cr, ↓Cd, ↓yU, ↓BZ, ↓yq, ↓Aq, ↓Cg, ↓zC, ↓E8, ↓yK, ↓wk, ↓Ca, ↓B3, ↓Ag, ↓Ci, ↓Cz, ↓BU, ↓BP, ↓B9, ↓B6, ↓Cp, ↓zT, ↓yD, ↓yG, ↓vi, ↓vM, ↓wb, ↓yQ, ↓uN, ↓qW, ↓BX, ↓Cu, ↓Cc, ↓zL, ↓yF, ↓zM, ↓yj, ↓yB, ↓EK, ↓uh, ↓zm, ↓Cv, ↓Cb, ↓Ct, ↓Fu, ↓yX, ↓yu, ↓zy, ↓zS, ↓Cs, ↓EN, ↓yz, ↓yR, ↓xm, ↓wx, ↓BR, ↓BW, ↓B8, ↓Co, ↓wV, ↓yI, ↓w6, ↓zd, ↓zR, ↓B5, ↓BN, ↓zW, ↓yY, ↓Cy, ↓zw, ↓B7, ↓xk, ↓vy, ↓BS, ↓Cn, ↓zq, ↓wQ, ↓yx, ↓uP, ↓wG, ↓tQ, ↓uu, ↓wL, ↓u7, ↓u5, ↓tU, ↓BV, zZ, ↓yv, ↓wH, y4, yA, B0, B4, Cf, Option.bind_none, Option.bind_some, Option.join_some, List.getElem?_cons_zero, List.getElem?_cons_succ, aG, dN, nu, tV, uA, xq, zP, List.map, List.append, List.replicate, List.length_cons, List.length_nil, Nat.reduceAdd, Nat.reduceSub, List.nil_append, List.cons_append, List.set_cons_zero, List.set_cons_succ, Option.map_some, ↓reduceIte, Bool.not_true, Bool.not_false, Bool.false_eq_true, Bool.true_eq_false, Bool.xor_false, Bool.false_xor])
def gF : DTS :=
  (bg (oJ (uI "int" (af 0)) (wD (uI "bool" (af 0)))))
def el : DTS :=
  (aE (ng (dB (dOp (cS true) (af 1) (dC (.int 0)))) (lX 0 1 (ab (af 1) (ab (oA (af 0) (af 1)) ak))))
  (bg (dCB lu (ab (af 0) ak))))
def d8 : DTS :=
  (bg (ao jz (ab (ao jz (ab (af 2) (ab (af 0) ak))) (ab (af 1) ak))))
def gj : DTS :=
  (aE (lX 0 1 (ab (dCB lu (ab (af 0) ak)) (ab (dCB lu (ab (af 1) ak)) ak)))
  (aE (ng (dB (dOp rGt (af 1) (dC (.int 0)))) (lX 0 1 (ab (af 1) (ab (oA (af 0) (af 1)) ak))))
  (bg (af 0))))
section
theorem wY (x : Int) {y : Int} (h : y ≠ 0) : (x.fmod y).natAbs < y.natAbs := by
  have e := Int.mul_fdiv_add_fmod x y
  have := Int.fmod_def x y
  rcases Int.lt_or_gt_of_ne h with h | h
  · have k := Int.neg_fmod_neg (a := x) (b := y)
    have h1 := Int.fmod_nonneg_of_pos (-x) (show 0 < -y by omega)
    have h2 := Int.fmod_lt_of_pos (-x) (show 0 < -y by omega)
    omega
  · have h1 := Int.fmod_nonneg_of_pos x h
    have h2 := Int.fmod_lt_of_pos x h
    omega
theorem vg (x y : Int) : Int.gcd y (x.fmod y) = Int.gcd x y := by
  have e := Int.mul_fdiv_add_fmod x y
  have e' : x.fmod y = x + y * (-(x.fdiv y)) := by rw [Int.mul_neg]; omega
  rw [e', Int.gcd_add_mul_left_right, Int.gcd_comm]
theorem nG {μ Qd ds} (h : fh ds μ Qd) : gF { nx := fun _ μ' => Qd (.v .none) μ', rt := Qd } (aG ["thing"] ds) μ := by
  obtain ⟨d, rfl, q⟩ := h
  unfold gF
  walk_at "rd"
  unfold isWhole at q
  cases hb : isT "int" d <;> simp_all
theorem lp {μ Qd ds} (h : jz ds μ Qd) : el { nx := fun _ μ' => Qd (.v .none) μ', rt := Qd } (aG ["a", "b"] ds) μ := by
  obtain ⟨a, b, rfl, q⟩ := h
  unfold el
  walk_at "rd"
  refine ⟨fun m ρ μ' => ∃ x y : Int, ρ = [some (.v (.int x)), some (.v (.int y))] ∧ m = y.natAbs ∧ Int.gcd x y = Int.gcd a b ∧ μ' = μ, ⟨_, a, b, rfl, rfl, rfl, rfl⟩, ?_⟩
  rintro m ρ μ' ⟨x, y, rfl, rfl, hg, rfl⟩
  walk_at "rd"
  by_cases hy : y = 0
  · subst hy
    have e : Int.gcd x 0 = x.natAbs := Int.gcd_zero_right x
    rw [← hg, e] at q
    simpa using q
  · have z : (true ^^ decide (y = 0)) = true := by simp [hy]
    rw [if_pos z]
    exact ⟨hy, _, wY x hy, y, x.fmod y, rfl, rfl, (vg x y).trans hg, trivial⟩
theorem oV {μ Qd ds} (h : jz ds μ Qd) : gj { nx := fun _ μ' => Qd (.v .none) μ', rt := Qd } (aG ["_law_one", "_law_other"] ds) μ := by
  obtain ⟨a, b, rfl, q⟩ := h
  unfold gj
  walk_at "rd"
  refine ⟨fun m ρ μ' => ∃ x y : Int, ρ = [some (.v (.int x)), some (.v (.int y))] ∧ m = y.natAbs ∧ 0 ≤ x ∧ 0 ≤ y ∧ Int.gcd x y = Int.gcd a b ∧ μ' = μ, ⟨_, _, _, rfl, rfl, by omega, by omega, by simp [Int.gcd], rfl⟩, ?_⟩
  rintro m ρ μ' ⟨x, y, rfl, rfl, hx, hy, hg, rfl⟩
  walk_at "rd"
  by_cases h0 : 0 < y
  · rw [if_pos (by simpa using h0)]
    have hy' : y ≠ 0 := by omega
    exact ⟨hy', _, wY x hy', y, x.fmod y, rfl, rfl, by omega, Int.fmod_nonneg_of_pos x h0, (vg x y).trans hg, trivial⟩
  · rw [if_neg (by simpa using h0)]
    have e : y = 0 := by omega
    subst e
    rw [Int.gcd_zero_right] at hg
    have : x = ((Int.gcd a b : Nat) : Int) := by omega
    rw [this]
    exact q
theorem lE {μ Qd ds} (h : pC ds μ Qd) : d8 { nx := fun _ μ' => Qd (.v .none) μ', rt := Qd } (aG ["a", "b", "c"] ds) μ := by
  obtain ⟨a, b, c, rfl, q⟩ := h
  unfold d8
  walk_at "rd"
  rw [← Bi] at q
  exact ⟨c, a, rfl, _, b, rfl, q⟩
end
open PySem PySem.Spec PyProof.Rows NM
def mD : DTS :=
  (aE (cR (dB (dOp (cS false) (af 2) (dC (.int 0)))) oB bB)
  (aE (bA (ao pC (ab (af 0) (ab (af 1) (ab (af 2) ak)))) (av 3))
  (aE (cR (dB (dOp rLt (af 2) (dC (.int 0)))) (bA (oU (af 3)) (av 3)) bB)
  (bg (cK (ab (mN (af 0) (af 3)) (ab (mN (af 1) (af 3)) (ab (mN (af 2) (af 3)) ak))))))))
def jC : DTS :=
  (aE (bA (bH (ao jz (ab (ao jz (ab (af 0) (ab (af 1) ak))) (ab (af 2) ak))) (dOp ax (kv (ab (dC (.int 1)) (ab (oU (dC (.int 1))) ak))) (dCB km (ab (dOp rLt (af 2) (dC (.int 0))) ak)))) (av 3))
  (bg (cK (ab (mN (af 0) (af 3)) (ab (mN (af 1) (af 3)) (ab (mN (af 2) (af 3)) ak))))))
def iF : DTS :=
  (bg (cK (ab (dOp ax (af 0) (dC (.int 0))) (ab (kX (dC (.int 0)) (dOp ax (af 0) (dC (.int 1)))) (ab (dOp ax (af 0) (dC (.int 2))) ak)))))
def gT : DTS :=
  (bg (cK (ab (kX (dC (.int 0)) (dOp ax (af 0) (dC (.int 0)))) (ab (kX (dC (.int 0)) (dOp ax (af 0) (dC (.int 1)))) (ab (dOp ax (af 0) (dC (.int 2))) ak)))))
def xr : DTS :=
  (bg (ao bY (ab (gO (bH (dOp ax (af 0) (dC (.int 0))) (dOp ax (af 1) (dC (.int 2)))) (bH (dOp ax (af 1) (dC (.int 0))) (dOp ax (af 0) (dC (.int 2))))) (ab (gO (bH (dOp ax (af 0) (dC (.int 1))) (dOp ax (af 1) (dC (.int 2)))) (bH (dOp ax (af 1) (dC (.int 1))) (dOp ax (af 0) (dC (.int 2))))) (ab (bH (dOp ax (af 0) (dC (.int 2))) (dOp ax (af 1) (dC (.int 2)))) ak)))))
def l4 : DTS :=
  (bg (ao bY (ab (gO (bH (dOp ax (af 0) (dC (.int 0))) (dOp ax (af 1) (dC (.int 2)))) (bH (dOp ax (af 1) (dC (.int 0))) (dOp ax (af 0) (dC (.int 2))))) (ab (gO (bH (dOp ax (af 0) (dC (.int 1))) (dOp ax (af 1) (dC (.int 2)))) (bH (dOp ax (af 1) (dC (.int 1))) (dOp ax (af 0) (dC (.int 2))))) (ab (bH (dOp ax (af 0) (dC (.int 2))) (dOp ax (af 1) (dC (.int 2)))) ak)))))
def ph : DTS :=
  (bg (ao bY (ab (gO (bH (dOp ax (af 1) (dC (.int 0))) (dOp ax (af 2) (dC (.int 0)))) (bH (bH (af 0) (dOp ax (af 1) (dC (.int 1)))) (dOp ax (af 2) (dC (.int 1))))) (ab (gO (bH (dOp ax (af 1) (dC (.int 0))) (dOp ax (af 2) (dC (.int 1)))) (bH (dOp ax (af 1) (dC (.int 1))) (dOp ax (af 2) (dC (.int 0))))) (ab (bH (dOp ax (af 1) (dC (.int 2))) (dOp ax (af 2) (dC (.int 2)))) ak)))))
def kj : DTS :=
  (bg (ao bY (ab (gO (bH (dOp ax (af 1) (dC (.int 0))) (dOp ax (af 2) (dC (.int 0)))) (bH (bH (af 0) (dOp ax (af 1) (dC (.int 1)))) (dOp ax (af 2) (dC (.int 1))))) (ab (gO (bH (dOp ax (af 1) (dC (.int 0))) (dOp ax (af 2) (dC (.int 1)))) (bH (dOp ax (af 1) (dC (.int 1))) (dOp ax (af 2) (dC (.int 0))))) (ab (bH (dOp ax (af 1) (dC (.int 2))) (dOp ax (af 2) (dC (.int 2)))) ak)))))
def ju : DTS :=
  (aE (bA (kX (bH (dOp ax (af 1) (dC (.int 0))) (dOp ax (af 1) (dC (.int 0)))) (bH (bH (af 0) (dOp ax (af 1) (dC (.int 1)))) (dOp ax (af 1) (dC (.int 1))))) (av 2))
  (bg (ao bY (ab (bH (dOp ax (af 1) (dC (.int 2))) (dOp ax (af 1) (dC (.int 0)))) (ab (bH (oU (dOp ax (af 1) (dC (.int 2)))) (dOp ax (af 1) (dC (.int 1)))) (ab (af 2) ak))))))
def fb : DTS :=
  (bg (ao bY (ab (bH (dOp ax (af 1) (dC (.int 0))) (dOp ax (af 1) (dC (.int 2)))) (ab (kX (dC (.int 0)) (bH (dOp ax (af 1) (dC (.int 1))) (dOp ax (af 1) (dC (.int 2))))) (ab (kX (bH (dOp ax (af 1) (dC (.int 0))) (dOp ax (af 1) (dC (.int 0)))) (bH (bH (af 0) (dOp ax (af 1) (dC (.int 1)))) (dOp ax (af 1) (dC (.int 1))))) ak)))))
def tE : DTS :=
  (aE (cR (dB (dOp (cS false) (af 2) (dC (.tuple [.int 0, .int 0, .int 1])))) oB bB)
  (bg (ao bc (ab (af 0) (ab (af 1) (ab (ao cT (ab (af 0) (ab (af 2) ak))) ak))))))
section
variable {μ : Mu} {Qd : DK} {ds : List D}
theorem Gz (i j : Int) : PyData.eqv (.int i) (.int j) = decide (i = j) := by simp [PyData.eqv]; rfl
theorem gdv {a b c : Int} (h : Sz 8800 c) (hc : c ≠ 0) : Sz 8800 ((g3 a b c : Nat) : Int) := by
  have h1 := (Af a b c).2.2
  have h2 := Int.natAbs_dvd_natAbs.mpr h1
  exact h.le (Nat.le_of_dvd (by omega) h2)
theorem xO (h : bY ds μ Qd) : mD { nx := fun _ μ' => Qd (.v .none) μ', rt := Qd } (aG ["a", "b", "c", "divisor"] ds) μ := by
  obtain ⟨a, b, c, rfl, hc, hz, q⟩ := h
  unfold mD
  walk_at "rd"
  rw [decide_eq_false hc]
  simp only [Bool.xor_false, Bool.false_eq_true, ↓reduceIte]
  refine ⟨a, b, c, rfl, ?_⟩
  walk_at "rd"
  have hp := sV (a := a) (b := b) hc
  have hg := gdv (a := a) (b := b) hz hc
  unfold low NM.dv dN at q
  simp only at q
  by_cases hn : c < 0
  · rw [if_pos (by simpa using hn)]
    rw [if_pos hn] at q
    have o : ∀ i : Int, mj i (-((g3 a b c : Nat) : Int)) := fun i => rf (by omega) hg.neg (by decide)
    exact ⟨o _, o _, o _, q⟩
  · rw [if_neg (by simpa using hn)]
    rw [if_neg hn] at q
    have o : ∀ i : Int, mj i ((g3 a b c : Nat) : Int) := fun i => rf (by omega) hg (by decide)
    exact ⟨o _, o _, o _, q⟩
theorem ug (h : bY ds μ Qd) : jC { nx := fun _ μ' => Qd (.v .none) μ', rt := Qd } (aG ["_law_a", "_law_b", "_law_c", "_law_common"] ds) μ := by
  obtain ⟨a, b, c, rfl, hc, hz, q⟩ := h
  unfold jC
  walk_at "rd"
  refine ⟨a, b, rfl, _, c, rfl, ?_⟩
  walk_at "rd"
  have hp := sV (a := a) (b := b) hc
  have hg := gdv (a := a) (b := b) hz hc
  unfold low NM.dv dN at q
  simp only at q
  by_cases hn : c < 0
  · simp only [hn, decide_true, ↓reduceIte, uA]
    rw [if_pos hn] at q
    have e : ((Int.gcd (Int.gcd a b : Nat) c : Nat) : Int) * -1 = -((g3 a b c : Nat) : Int) := by unfold g3; omega
    walk_at "rd"
    rw [e]
    have o : ∀ i : Int, mj i (-((g3 a b c : Nat) : Int)) := fun i => rf (by omega) hg.neg (by decide)
    exact ⟨mulR (by decide), o _, o _, o _, q⟩
  · simp only [hn, decide_false, Bool.false_eq_true, ↓reduceIte, tV]
    rw [if_neg hn] at q
    have e : ((Int.gcd (Int.gcd a b : Nat) c : Nat) : Int) * 1 = ((g3 a b c : Nat) : Int) := by unfold g3; omega
    walk_at "rd"
    rw [e]
    have o : ∀ i : Int, mj i ((g3 a b c : Nat) : Int) := fun i => rf (by omega) hg (by decide)
    exact ⟨mulR (by decide), o _, o _, o _, q⟩
theorem tu (h : jY ds μ Qd) : iF { nx := fun _ μ' => Qd (.v .none) μ', rt := Qd } (aG ["_law_x"] ds) μ := by
  obtain ⟨x, rfl, q⟩ := h
  unfold iF
  walk_at "rd"
  trace_state
  simp only [Int.zero_sub]
  exact q
theorem qj (h : k0 ds μ Qd) : gT { nx := fun _ μ' => Qd (.v .none) μ', rt := Qd } (aG ["_law_x"] ds) μ := by
  obtain ⟨x, rfl, q⟩ := h
  unfold gT
  walk_at "rd"
  simp only [Int.zero_sub]
  exact q
theorem A3 (h : g5 ds μ Qd) : xr { nx := fun _ μ' => Qd (.v .none) μ', rt := Qd } (aG ["x", "y"] ds) μ := by
  obtain ⟨x, y, rfl, ox, oy, bx, by', q⟩ := h
  unfold xr
  walk_at "rd"
  have m : ∀ {i j : Int}, Sz 4300 i → Sz 4300 j → IntMulOk i j := fun h g => eE h g (by decide)
  exact ⟨m bx.a by'.c, m by'.a bx.c, m bx.b by'.c, m by'.b bx.c, m bx.c by'.c, _, _, _, rfl, se ox oy, (bx.c.mul by'.c).mono (by decide), q⟩
theorem rO (h : g5 ds μ Qd) : l4 { nx := fun _ μ' => Qd (.v .none) μ', rt := Qd } (aG ["_law_x", "_law_y"] ds) μ := A3 h
theorem tW (h : bc ds μ Qd) : ph { nx := fun _ μ' => Qd (.v .none) μ', rt := Qd } (aG ["d", "x", "y"] ds) μ := by
  obtain ⟨d, x, y, rfl, hd, ox, oy, bx, by', q⟩ := h
  unfold ph
  walk_at "rd"
  have m : ∀ {i j : Int}, Sz 4300 i → Sz 4300 j → IntMulOk i j := fun h g => eE h g (by decide)
  exact ⟨m bx.a by'.a, eE hd bx.b (by decide), eE (hd.mul bx.b) by'.b (by decide), m bx.a by'.b, m bx.b by'.a, m bx.c by'.c, _, _, _, rfl, se ox oy, (bx.c.mul by'.c).mono (by decide), q⟩
theorem qa (h : bc ds μ Qd) : kj { nx := fun _ μ' => Qd (.v .none) μ', rt := Qd } (aG ["_law_d", "_law_x", "_law_y"] ds) μ := tW h
theorem uK (h : cT ds μ Qd) : ju { nx := fun _ μ' => Qd (.v .none) μ', rt := Qd } (aG ["d", "x", "norm"] ds) μ := by
  obtain ⟨d, x, rfl, hd, hn, bx, q⟩ := h
  unfold ju
  walk_at "rd"
  have m : ∀ {i j : Int}, Sz 4300 i → Sz 4300 j → IntMulOk i j := fun h g => eE h g (by decide)
  exact ⟨m bx.a bx.a, eE hd bx.b (by decide), eE (hd.mul bx.b) bx.b (by decide), m bx.c bx.a, m bx.c.neg bx.b, _, _, _, rfl, hn, (sZ hd bx).mono (by decide), q⟩
theorem nc (h : cT ds μ Qd) : fb { nx := fun _ μ' => Qd (.v .none) μ', rt := Qd } (aG ["_law_d", "_law_x"] ds) μ := by
  obtain ⟨d, x, rfl, hd, hn, bx, q⟩ := h
  unfold fb
  walk_at "rd"
  have m : ∀ {i j : Int}, Sz 4300 i → Sz 4300 j → IntMulOk i j := fun h g => eE h g (by decide)
  refine ⟨m bx.a bx.c, m bx.b bx.c, m bx.a bx.a, eE hd bx.b (by decide), eE (hd.mul bx.b) bx.b (by decide), _, _, _, rfl, hn, (sZ hd bx).mono (by decide), ?_⟩
  have e1 : x.a * x.c = x.c * x.a := Int.mul_comm ..
  have e2 : 0 - x.b * x.c = -x.c * x.b := by grind
  rw [e1, e2]
  exact q
theorem EF (a b c a' b' c' : Int) : PyData.eqv (.tuple [.int a, .int b, .int c]) (.tuple [.int a', .int b', .int c']) = decide (a = a' ∧ b = b' ∧ c = c') := by
  simp [PyData.eqv, PyData.eqvAll]
  rfl
theorem Bq (h : jR ds μ Qd) : tE { nx := fun _ μ' => Qd (.v .none) μ', rt := Qd } (aG ["d", "x", "y"] ds) μ := by
  obtain ⟨d, x, y, rfl, hd, ox, oy, hy, bx, by', q⟩ := h
  unfold tE
  walk_at "rd"
  refine ⟨rfl, rfl, ?_⟩
  have hn : ¬ (y.a = 0 ∧ y.b = 0 ∧ y.c = 1) := fun z => hy (N3.ext' z.1 z.2.1 z.2.2)
  rw [EF, decide_eq_false hn]
  simp only [Bool.xor_false, Bool.false_eq_true, ↓reduceIte]
  have s5 := nP hd.1 hd.2.1
  have nz := hd.norm oy hy
  exact ⟨d, y, rfl, s5, nz, by'.mono (by decide), d, x, _, rfl, s5, ox, cf nz, bx.mono (by decide), (gL s5 nz by').mono (by decide), q⟩
end
open PySem PySem.Spec PyProof.Rows NM
def eR : DTS :=
  (aE (cR (uk (dB (dOp (cS false) (af 1) (dC (.int 0)))) (dB (dOp (cS false) (af 2) (dC (.int 0))))) (bg (dC (.int 0))) bB)
  (aE (cR (uk (dB (dOp rGe (af 1) (dC (.int 0)))) (dB (dOp rGe (af 2) (dC (.int 0))))) (bg (dC (.int 1))) bB)
  (aE (cR (uk (dB (dOp rLe (af 1) (dC (.int 0)))) (dB (dOp rLe (af 2) (dC (.int 0))))) (bg (oU (dC (.int 1)))) bB)
  (aE (bA (dIf (dB (dOp rGt (bH (af 1) (af 1)) (bH (bH (af 0) (af 2)) (af 2)))) (af 1) (af 2)) (av 3))
  (bg (dIf (dB (dOp rGt (af 3) (dC (.int 0)))) (dC (.int 1)) (oU (dC (.int 1)))))))))
def kq : DTS :=
  (bg (ao n6 (ab (af 0) (ab (dOp ax (af 1) (dC (.int 0))) (ab (dOp ax (af 1) (dC (.int 1))) ak)))))
def iY : DTS :=
  (aE (lX 2 3 (ab (bH (dOp ax (af 1) (dC (.int 0))) (dOp ax (af 1) (dC (.int 0)))) (ab (bH (bH (af 0) (dOp ax (af 1) (dC (.int 1)))) (dOp ax (af 1) (dC (.int 1)))) ak)))
  (aE (bA (kv (ab (kX (dCB km (ab (dOp rGt (dOp ax (af 1) (dC (.int 0))) (dC (.int 0))) ak)) (dCB km (ab (dOp rLt (dOp ax (af 1) (dC (.int 0))) (dC (.int 0))) ak))) (ab (kX (dCB km (ab (dOp rGt (dOp ax (af 1) (dC (.int 1))) (dC (.int 0))) ak)) (dCB km (ab (dOp rLt (dOp ax (af 1) (dC (.int 1))) (dC (.int 0))) ak))) ak))) (av 4))
  (aE (cR (dB (dOp rGe (bH (dOp ax (af 4) (dC (.int 0))) (dOp ax (af 4) (dC (.int 1)))) (dC (.int 0)))) (bg (dIf (dB (dOp (cS true) (dOp ax (af 4) (dC (.int 0))) (dC (.int 0)))) (dOp ax (af 4) (dC (.int 0))) (dOp ax (af 4) (dC (.int 1))))) bB)
  (bg (dIf (dB (dOp rGt (af 2) (af 3))) (dOp ax (af 4) (dC (.int 0))) (dOp ax (af 4) (dC (.int 1))))))))
def gU : DTS :=
  (bg (dOp rGt (ao fB (ab (af 0) (ab (ao g5 (ab (af 2) (ab (ao k0 (ab (af 1) ak)) ak))) ak))) (dC (.int 0))))
section
variable {μ : Mu} {Qd : DK} {ds : List D}
theorem mZ (h : n6 ds μ Qd) : eR { nx := fun _ μ' => Qd (.v .none) μ', rt := Qd } (aG ["d", "a", "b", "prevailing"] ds) μ := by
  obtain ⟨d, a, b, rfl, hd, ha, hb, q⟩ := h
  unfold eR
  walk_at "rd"
  have m1 : MulOk a a := eE ha ha (by decide)
  have m2 : MulOk d b := eE hd hb (by decide)
  have m3 : MulOk (d * b) b := eE (hd.mul hb) hb (by decide)
  unfold sg at q
  by_cases h1 : a = 0
  · by_cases h2 : b = 0
    · subst h1 h2; simpa using q
    · subst h1
      rcases Int.lt_or_gt_of_ne h2 with h3 | h3
      · have e : ¬ (0 ≤ b) := by omega
        have e' : b ≤ 0 := by omega
        simp only [h2, e, e', and_false, true_and, if_true, if_false, decide_true, decide_false, Int.le_refl, ↓reduceIte, Bool.false_eq_true] at q ⊢
        exact q
      · have e : (0 ≤ b) := by omega
        simp only [h2, e, and_false, true_and, if_true, if_false, decide_true, decide_false, Int.le_refl, ↓reduceIte, Bool.false_eq_true] at q ⊢
        exact q
  · by_cases h3 : 0 ≤ a <;> by_cases h4 : 0 ≤ b <;> by_cases h5 : a ≤ 0 <;> by_cases h6 : b ≤ 0 <;> by_cases h7 : d * b * b < a * a <;> (try (exfalso; omega)) <;>
      simp only [h1, h3, h4, h5, h6, h7, and_false, false_and, and_true, true_and, if_true, if_false, decide_true, decide_false, ↓reduceIte, Bool.false_eq_true, and_self, m1, m2, m3, gt_iff_lt] at q ⊢ <;> (try exact q)
    all_goals
      first
      | (by_cases h8 : 0 < a <;> simp only [h8, if_true, if_false, decide_true, decide_false, ↓reduceIte, Bool.false_eq_true] at q ⊢ <;> exact q)
      | (by_cases h8 : 0 < b <;> simp only [h8, if_true, if_false, decide_true, decide_false, ↓reduceIte, Bool.false_eq_true] at q ⊢ <;> exact q)
theorem vR (h : fB ds μ Qd) : kq { nx := fun _ μ' => Qd (.v .none) μ', rt := Qd } (aG ["d", "x"] ds) μ := by
  obtain ⟨d, x, rfl, hd, bx, q⟩ := h
  unfold kq
  walk_at "rd"
  exact ⟨d, x.a, x.b, rfl, nP hd.1 hd.2.1, bx.a.mono (by decide), bx.b.mono (by decide), q⟩
theorem El {d a b sa sb : Int} (ha : (a < 0 ∧ sa = -1) ∨ (a = 0 ∧ sa = 0) ∨ (0 < a ∧ sa = 1)) (hb : (b < 0 ∧ sb = -1) ∨ (b = 0 ∧ sb = 0) ∨ (0 < b ∧ sb = 1)) :
    sg d a b = if 0 ≤ sa * sb then (if sa ≠ 0 then sa else sb) else if d * b * b < a * a then sa else sb := by
  unfold sg
  by_cases h7 : d * b * b < a * a <;> rcases ha with ⟨h1, rfl⟩ | ⟨h1, rfl⟩ | ⟨h1, rfl⟩ <;> rcases hb with ⟨h2, rfl⟩ | ⟨h2, rfl⟩ | ⟨h2, rfl⟩ <;> simp only [h7, ↓reduceIte] <;> (repeat' split) <;> omega
theorem rq (h : fB ds μ Qd) : iY { nx := fun _ μ' => Qd (.v .none) μ', rt := Qd } (aG ["_law_d", "_law_x", "_law_first", "_law_second", "_law_sides"] ds) μ := by
  obtain ⟨d, x, rfl, hd, bx, q⟩ := h
  unfold iY
  walk_at "rd"
  have s5 := nP hd.1 hd.2.1
  refine ⟨eE bx.a bx.a (by decide), eE s5 bx.b (by decide), eE (s5.mul bx.b) bx.b (by decide), ?_⟩
  have sd : ∀ u : Int, (u < 0 ∧ ((if decide (0 < u) = true then 1 else 0) - if decide (u < 0) = true then 1 else 0 : Int) = -1) ∨ (u = 0 ∧ ((if decide (0 < u) = true then 1 else 0) - if decide (u < 0) = true then 1 else 0 : Int) = 0) ∨ (0 < u ∧ ((if decide (0 < u) = true then 1 else 0) - if decide (u < 0) = true then 1 else 0 : Int) = 1) := fun u => by
    simp only [decide_eq_true_eq]
    split <;> split <;> omega
  have ha := sd x.a
  have hb := sd x.b
  generalize ((if decide (0 < x.a) = true then 1 else 0) - if decide (x.a < 0) = true then 1 else 0 : Int) = sa at ha ⊢
  generalize ((if decide (0 < x.b) = true then 1 else 0) - if decide (x.b < 0) = true then 1 else 0 : Int) = sb at hb ⊢
  rw [El ha hb] at q
  refine ⟨mulL (by omega), ?_⟩
  by_cases c1 : 0 ≤ sa * sb <;> by_cases c2 : sa = 0 <;> by_cases c3 : d * x.b * x.b < x.a * x.a <;> simp only [c1, c2, c3, decide_true, decide_false, ↓reduceIte, Bool.false_eq_true, Bool.xor_false, Bool.xor_true, Bool.not_true, ne_eq, not_true_eq_false, not_false_eq_true, Int.zero_mul, Int.le_refl] at q ⊢ <;> exact q
theorem qd (h : oi ds μ Qd) : gU { nx := fun _ μ' => Qd (.v .none) μ', rt := Qd } (aG ["_law_d", "_law_x", "_law_y"] ds) μ := by
  obtain ⟨d, x, y, rfl, hd, ox, oy, bx, by', q⟩ := h
  unfold gU
  walk_at "rd"
  refine ⟨x, rfl, y, minus x, rfl, oy, jF ox, by'.mono (by decide), (oP bx).mono (by decide), d, plus y (minus x), rfl, hd, (og oy (jF ox) by' (oP bx)).mono (by decide), ?_⟩
  walk_at "rd"
  have e : sg d (plus y (minus x)).a (plus y (minus x)).b = dif d y x := by
    obtain ⟨k, hk, hs, p1, p2, p3, _⟩ := iw (y.a * (minus x).c + (minus x).a * y.c) (y.b * (minus x).c + (minus x).b * y.c) (se oy (jF ox))
    have hk0 : 0 < k := hs.mpr (Int.mul_pos oy.c (jF ox).c)
    unfold dif
    have e1 : y.a * x.c - x.a * y.c = k * (plus y (minus x)).a := by rw [show k * (plus y (minus x)).a = _ from p1.symm]; show _ = y.a * x.c + -x.a * y.c; grind
    have e2 : y.b * x.c - x.b * y.c = k * (plus y (minus x)).b := by rw [show k * (plus y (minus x)).b = _ from p2.symm]; show _ = y.b * x.c + -x.b * y.c; grind
    rw [e1, e2, fw hd hk0]
  rw [e]
  have t := nh d (y.a * x.c - x.a * y.c) (y.b * x.c - x.b * y.c)
  have f : decide (0 < dif d y x) = decide (dif d y x = 1) := by unfold dif; rcases t with z | z | z <;> rw [z] <;> decide
  rw [f]
  exact q
end
open PySem PySem.Spec PyProof.Rows NM
def jQ : DTS :=
  (aE (bA (dC (.int 0)) (av 2))
  (aE (cR (dB (dOp rLt (af 1) (dCB gr (ab (af 0) ak)))) (bA (dOp ax (af 0) (af 1)) (av 2)) bB)
  (aE (bA (dC (.int 0)) (av 3))
  (aE (cR (dB (dOp rGe (dCB lu (ab (af 2) ak)) (DJ (dC (.int 10)) (dC (.int 18))))) (bA (dCB lu (ab (af 2) ak)) (av 3)) bB)
  (aE (bA (kv (ab (dC (.int 2147483647)) (ab (dC (.int 2147483629)) (ab (dC (.int 2147483587)) (ab (dC (.int 2147483579)) (ab (dC (.int 2147483563)) (ab (dC (.int 2147483549)) (ab (dC (.int 2147483543)) (ab (dC (.int 2147483497)) ak))))))))) (av 4))
  (aE (bA (gO (gO (gO (bH (oA (af 2) (dC (.int 2147483647))) (dC (.int 69623))) (bH (bH (dC (.int 104729)) (af 1)) (af 1))) (bH (dC (.int 7919)) (af 1))) (dC (.int 12345))) (av 5))
  (bg (q9 (ab (af 3) (ab (oA (af 5) (dOp ax (af 4) (oA (af 1) (dC (.int 8))))) ak))))))))))
def iz : DTS :=
  (aE (cR (dB (dOp rGt (dOp ax (af 0) (dC (.int 0))) (dC (.int 0)))) (aE (bA (oA (dOp ax (af 0) (dC (.int 0))) (af 1)) (av 2))
  (aE (bA (mN (dOp ax (af 0) (dC (.int 0))) (af 1)) (xg (af 0) (dC (.int 0))))
  (bg (af 2)))) bB)
  (aE (bA (oA (gO (bH (dOp ax (af 0) (dC (.int 1))) (dC (.int 48271))) (dC (.int 2531011))) (dC (.int 2147483647))) (xg (af 0) (dC (.int 1))))
  (bg (oA (mN (oA (DJ (dOp ax (af 0) (dC (.int 1))) (dC (.int 3))) (dC (.int 2147483629))) (dC (.int 64))) (af 1)))))
section
variable {μ : Mu} {Qd : DK} {ds : List D}
theorem tL {α : Type} {xs : List α} {i : Int} (h0 : 0 ≤ i) (h : i < (xs.length : Nat)) : ∃ d, atI xs i = some d ∧ d ∈ xs := by
  have hj : i.toNat < xs.length := by omega
  have e := nZ (xs := xs) (j := i.toNat) (v := xs[i.toNat]) (by simp [hj])
  rw [show ((i.toNat : Nat) : Int) = i by omega] at e
  exact ⟨_, e, List.getElem_mem _⟩
theorem js (x : Int) {y : Int} (h : 0 < y) : 0 ≤ x.fmod y ∧ x.fmod y < y := ⟨Int.fmod_nonneg_of_pos x h, Int.fmod_lt_of_pos x h⟩
theorem Ay {x y : Int} (hx : 0 ≤ x) (hy : 0 < y) : 0 ≤ x.fdiv y := by rw [Int.fdiv_eq_ediv_of_nonneg _ (by omega)]; exact Int.ediv_nonneg hx (by omega)
def ka : List PyData := [.int 2147483647, .int 2147483629, .int 2147483587, .int 2147483579, .int 2147483563, .int 2147483549, .int 2147483543, .int 2147483497]
theorem tO (h : xl ds μ Qd) : jQ { nx := fun _ μ' => Qd (.v .none) μ', rt := Qd } (aG ["_law_script", "_law_at", "_law_cell", "_law_great", "_law_primes", "_law_mixed"] ds) μ := by
  obtain ⟨ns, k, rfl, h0, h1, q⟩ := h
  unfold jQ
  have hp : ∃ pr : Int, atI ka (k.fmod 8) = some (.int pr) ∧ 0 < pr ∧ pr < 2147483648 := by
    obtain ⟨h2, h3⟩ := js k (show (0 : Int) < 8 by decide)
    obtain ⟨p, e, hm⟩ := tL (xs := ka) h2 (by exact h3)
    simp only [ka, List.mem_cons, List.not_mem_nil, or_false] at hm
    rcases hm with rfl | rfl | rfl | rfl | rfl | rfl | rfl | rfl <;> exact ⟨_, e, by decide, by decide⟩
  obtain ⟨pr, hpe, hp0, hp1⟩ := hp
  unfold ka at hpe
  walk_at "rd"
  rw [hpe]
  walk_at "rd"
  have c1 : Dx 10 18 := ⟨by decide, by decide, by decide⟩
  have z1 : (2147483647 : Int) ≠ 0 := by decide
  have z2 : (8 : Int) ≠ 0 := by decide
  have m1 : ∀ i : Int, MulOk i 69623 := fun i => mulR (by decide)
  have m2 : MulOk 104729 k := mulL (by decide)
  have m3 : MulOk (104729 * k) k := mulR (by omega)
  have m4 : MulOk 7919 k := mulL (by decide)
  have z3 : pr ≠ 0 := by omega
  have fin : ∀ G x : Int, 0 ≤ G → ∀ p, μ p = none → Qd (.m p) (aw μ p [.int G, .int (x.fmod pr)]) := fun G x hG p hp => by
    obtain ⟨h2, h3⟩ := js x hp0
    exact q p _ hp (Step.set hG h2 (by omega))
  by_cases hk : k < (ns.length : Nat)
  · rw [if_pos (by simpa using hk)]
    obtain ⟨c, hc, _⟩ := tL h0 hk
    rw [hc]
    walk_at "rd"
    refine ⟨c1, ?_⟩
    split
    · exact ⟨z1, m1 _, m2, m3, m4, z2, z3, fin _ _ (by omega)⟩
    · exact ⟨z1, m1 _, m2, m3, m4, z2, z3, fin _ _ (by omega)⟩
  · rw [if_neg (by simpa using hk)]
    refine ⟨c1, ?_⟩
    split
    · exact ⟨z1, m1 _, m2, m3, m4, z2, z3, fin _ _ (by omega)⟩
    · exact ⟨z1, m1 _, m2, m3, m4, z2, z3, fin _ _ (by omega)⟩
theorem sJ (h : cj ds μ Qd) : iz { nx := fun _ μ' => Qd (.v .none) μ', rt := Qd } (aG ["_law_bag_here", "_law_many", "_law_digit"] ds) μ := by
  obtain ⟨a, n, rfl, h0, h1, ⟨g, m, hb, hg, hm, hm'⟩, q⟩ := h
  unfold iz
  walk_at "rd"
  rw [hb]
  walk_at "rd"
  rw [hb]
  walk_at "rd"
  have n0 : n ≠ 0 := by omega
  have i0 : ixN 2 0 = some 0 := by rfl
  have i1 : ixN 2 1 = some 1 := by rfl
  by_cases hg0 : 0 < g
  · rw [if_pos (by simpa using hg0)]
    simp only [hb]
    walk_at "rd"
    obtain ⟨r0, r1⟩ := js g (show 0 < n by omega)
    refine ⟨n0, ?_⟩
    simp only [hb]
    walk_at "rd"
    refine ⟨divC n0 (by omega), ?_⟩
    simp only [hb, List.length_cons, List.length_nil, Nat.reduceAdd, i0, List.set_cons_zero]
    exact q _ _ r0 r1 (Step.set (Ay hg (by omega)) hm hm')
  · rw [if_neg (by simpa using hg0)]
    simp only [hb, i1, aD]
    walk_at "rd"
    obtain ⟨s0, s1⟩ := js (m * 48271 + 2531011) (show (0 : Int) < 2147483647 by decide)
    generalize (m * 48271 + 2531011).fmod 2147483647 = w at s0 s1 ⊢
    obtain ⟨r0, r1⟩ := js ((((w ^ Int.toNat 3).fmod 2147483629).fdiv 64)) (show 0 < n by omega)
    refine ⟨mulL (by omega), by decide, ?_⟩
    refine ⟨⟨by decide, by decide, by omega⟩, (by show (2147483629 : Int) ≠ 0; decide), divC (by decide) (by decide), n0, ?_⟩
    exact q _ _ r0 r1 (Step.set hg s0 (by omega))
end
open PySem PySem.Spec PyProof.Rows NM
section
variable {μ : Mu} {Qd : DK} {ds : List D}
end
open PySem PySem.Spec PyProof.Rows NM
def iO : DTS :=
  (aE (cR (kD (eM (dB (uI "tuple" (af 0)))) (dB (dOp (cS true) (dCB gr (ab (af 0) ak)) (dC (.int 3))))) (bg (dC (.bool false))) bB)
  (aE (bA (af 0) (kn 3 (ck (av 1) (ck (av 2) (ck (av 3) ml)))))
  (aE (cR (kD (eM (dB (ao fh (ab (af 1) ak)))) (kD (eM (dB (ao fh (ab (af 2) ak)))) (eM (dB (ao fh (ab (af 3) ak)))))) (bg (dC (.bool false))) bB)
  (bg (oJ (dOp rGe (af 3) (dC (.int 1))) (dOp (cS false) (ao pC (ab (af 1) (ab (af 2) (ab (af 3) ak)))) (dC (.int 1))))))))
section
variable {μ : Mu} {Qd : DK} {ds : List D}
def xo (i : Int) : Bool := decide (2 ≤ i) && decide (i ≤ 30) && !(decide (i = 4) || decide (i = 9) || decide (i = 16) || decide (i = 25))
theorem cH (d : PyData) : (∃ i, d = .int i ∧ isWhole d = true) ∨ ((∀ i, d ≠ .int i) ∧ isWhole d = false) := by
  cases d <;> first | exact .inl ⟨_, rfl, rfl⟩ | exact .inr ⟨fun _ z => (by cases z), rfl⟩
theorem wz (d : PyData) : (∃ xs, d = .tuple xs ∧ isT "tuple" d = true) ∨ ((∀ xs, d ≠ .tuple xs) ∧ isT "tuple" d = false) := by
  cases d <;> first | exact .inl ⟨_, rfl, rfl⟩ | exact .inr ⟨fun _ z => (by cases z), rfl⟩
theorem qL {d : PyData} (h : ∀ xs, d ≠ .tuple xs) : isNum d = false := by cases d <;> first | rfl | exact absurd rfl (h _)
theorem qT {xs : List PyData} (h : xs.length ≠ 3) : isNum (.tuple xs) = false := by
  unfold isNum
  split
  · rename_i e; cases e; exact absurd rfl h
  · rfl
theorem three {α : Type} {xs : List α} (h : xs.length = 3) : ∃ a b c, xs = [a, b, c] := by
  match xs, h with
  | [a, b, c], _ => exact ⟨a, b, c, rfl⟩
theorem rj (h : jq ds μ Qd) : iO { nx := fun _ μ' => Qd (.v .none) μ', rt := Qd } (aG ["thing", "a", "b", "c"] ds) μ := by
  obtain ⟨d, rfl, _, q⟩ := h
  unfold iO
  walk_at "rd"
  rcases wz d with ⟨xs, rfl, e⟩ | ⟨hn, e⟩
  · rw [e]
    walk_at "rd"
    by_cases hl : xs.length = 3
    · obtain ⟨a, b, c, rfl⟩ := three hl
      have e3 : decide ((([a, b, c].length : Nat) : Int) = 3) = true := rfl
      have e3' : [a, b, c].length = 3 := rfl
      simp only [e3, Bool.xor_self, Bool.false_eq_true, ↓reduceIte]
      refine ⟨rfl, ?_⟩
      walk_at "rd"
      refine ⟨a, rfl, ?_⟩
      rcases cH a with ⟨i, rfl, e⟩ | ⟨hn, e⟩
      · rw [e]
        walk_at "rd"
        refine ⟨b, rfl, ?_⟩
        rcases cH b with ⟨j, rfl, e⟩ | ⟨hn, e⟩
        · rw [e]
          walk_at "rd"
          refine ⟨c, rfl, ?_⟩
          rcases cH c with ⟨k, rfl, e⟩ | ⟨hn, e⟩
          · rw [e]
            walk_at "rd"
            have q' : Qd (.v (.bool (decide (1 ≤ k) && (g3 i j k == 1)))) μ := q
            by_cases hk : 1 ≤ k
            · rw [if_pos (by simpa using hk)]
              refine ⟨i, j, k, rfl, ?_⟩
              walk_at "rd"
              have ee : decide (((g3 i j k : Nat) : Int) = 1) = (decide (1 ≤ k) && (g3 i j k == 1)) := by
                rw [decide_eq_true hk, Bool.true_and, Bool.eq_iff_iff]; simp; omega
              rw [ee]
              exact q'
            · rw [if_neg (by simpa using hk)]
              rw [decide_eq_false hk] at q'
              exact q'
          · rw [e]
            walk_at "rd"
            have : isNum (.tuple [.int i, .int j, c]) = false := by cases c <;> first | rfl | exact absurd rfl (hn _)
            rw [this] at q
            exact q
        · rw [e]
          walk_at "rd"
          have : isNum (.tuple [.int i, b, c]) = false := by cases b <;> first | rfl | exact absurd rfl (hn _)
          rw [this] at q
          exact q
      · rw [e]
        walk_at "rd"
        have : isNum (.tuple [a, b, c]) = false := by cases a <;> first | rfl | exact absurd rfl (hn _)
        rw [this] at q
        exact q
    · rw [qT hl] at q
      have : decide (((xs.length : Nat) : Int) = 3) = false := by simp; omega
      rw [this]
      simp only [Bool.xor_false, ↓reduceIte]
      exact q
  · rw [e]
    rw [qL hn] at q
    walk_at "rd"
    exact q
end
open PySem PySem.Spec PyProof.Rows NM
def eK : DTS :=
  (aE (cR (kD (eM (dB (uI "tuple" (af 0)))) (kD (dB (dOp (cS true) (dCB gr (ab (af 0) ak)) (dC (.int 3)))) (eM (dB (dCB nr (ab (oO [none] (tY (af 0)) (av 0) qX (ao fh (ab (af 0) ak))) ak)))))) (bg (dC (.bool false))) bB)
  (bg (oJ (dOp rGt (dOp ax (af 0) (dC (.int 2))) (dC (.int 0))) (dOp (cS false) (ao jz (ab (ao jz (ab (dOp ax (af 0) (dC (.int 0))) (ab (dOp ax (af 0) (dC (.int 1))) ak))) (ab (dOp ax (af 0) (dC (.int 2))) ak))) (dC (.int 1))))))
def gu : DTS :=
  (aE (bA (dOp ax (kv (ab (dC (.int 4)) (ab (dC (.int 10)) (ab (dC (.int 100)) (ab (dC (.int 1000000)) ak))))) (ao cj (ab (af 0) (ab (dC (.int 4)) ak)))) (av 1))
  (aE (lX 2 3 (ab (kX (ao cj (ab (af 0) (ab (af 1) ak))) (mN (af 1) (dC (.int 2)))) (ab (kX (ao cj (ab (af 0) (ab (af 1) ak))) (mN (af 1) (dC (.int 2)))) ak)))
  (aE (bA (gO (dC (.int 1)) (ao cj (ab (af 0) (ab (kX (af 1) (dC (.int 1))) ak)))) (av 4))
  (aE (bA (ao cj (ab (af 0) (ab (dC (.int 8)) ak))) (av 5))
  (bg (ao bY (ab (dOp ax (kv (ab (af 2) (ab (af 2) (ab (af 2) (ab (af 2) (ab (af 2) (ab (af 2) (ab (af 2) (ab (dC (.int 0)) ak))))))))) (af 5)) (ab (dOp ax (kv (ab (af 3) (ab (af 3) (ab (af 3) (ab (af 3) (ab (af 3) (ab (dC (.int 0)) (ab (dC (.int 0)) (ab (af 3) ak))))))))) (af 5)) (ab (dOp ax (kv (ab (af 4) (ab (af 4) (ab (dC (.int 1)) (ab (af 4) (ab (dC (.int 1)) (ab (af 4) (ab (dC (.int 1)) (ab (af 4) ak))))))))) (af 5)) ak)))))))))
section
variable {μ : Mu} {Qd : DK} {ds : List D}
theorem ly (h : jq ds μ Qd) : eK { nx := fun _ μ' => Qd (.v .none) μ', rt := Qd } (aG ["_law_thing"] ds) μ := by
  obtain ⟨d, rfl, few, q⟩ := h
  unfold eK
  walk_at "rd"
  rcases wz d with ⟨xs, rfl, e⟩ | ⟨hn, e⟩
  · rw [e]
    walk_at "rd"
    by_cases hl : xs.length = 3
    · obtain ⟨a, b, c, rfl⟩ := three hl
      have e3 : decide ((([a, b, c].length : Nat) : Int) = 3) = true := rfl
      simp only [e3, Bool.xor_self, Bool.false_eq_true, ↓reduceIte]
      refine ⟨by simp, fun x => some (.bool (isWhole x)), fun x hx μ' hs => ⟨trivial, x, rfl, rfl, rfl⟩, ?_⟩
      rw [nY (fun x => PyData.bool (isWhole x)), gC]
      simp only [List.map_cons, List.map_nil, List.all_cons, List.all_nil, id, Bool.and_true]
      rcases cH a with ⟨i, rfl, ea⟩ | ⟨hn, ea⟩
      · rcases cH b with ⟨j, rfl, e1⟩ | ⟨hn, e1⟩
        · rcases cH c with ⟨k, rfl, e2⟩ | ⟨hn, e2⟩
          · rw [ea, e1, e2]
            simp only [Bool.and_self]
            walk_at "rd"
            have q' : Qd (.v (.bool (decide (1 ≤ k) && (g3 i j k == 1)))) μ := q
            by_cases hk : 1 ≤ k
            · rw [if_pos (by simp; omega)]
              refine ⟨i, j, rfl, _, k, rfl, ?_⟩
              walk_at "rd"
              have ee : decide (((Int.gcd (Int.gcd i j : Nat) k : Nat) : Int) = 1) = (decide (1 ≤ k) && (g3 i j k == 1)) := by
                unfold g3
                rw [decide_eq_true hk, Bool.true_and, Bool.eq_iff_iff]; simp; omega
              rw [ee]
              exact q'
            · rw [if_neg (by simp; omega)]
              rw [decide_eq_false hk] at q'
              exact q'
          · rw [ea, e1, e2]
            simp only [Bool.and_false]
            walk_at "rd"
            have : isNum (.tuple [.int i, .int j, c]) = false := by cases c <;> first | rfl | exact absurd rfl (hn _)
            rw [this] at q
            exact q
        · rw [ea, e1]
          simp only [Bool.and_false, Bool.false_and]
          walk_at "rd"
          have : isNum (.tuple [.int i, b, c]) = false := by cases b <;> first | rfl | exact absurd rfl (hn _)
          rw [this] at q
          exact q
      · rw [ea]
        simp only [Bool.and_false, Bool.false_and]
        walk_at "rd"
        have : isNum (.tuple [a, b, c]) = false := by cases a <;> first | rfl | exact absurd rfl (hn _)
        rw [this] at q
        exact q
    · rw [qT hl] at q
      have : decide (((xs.length : Nat) : Int) = 3) = false := by simp; omega
      rw [this]
      simp only [Bool.xor_false, ↓reduceIte]
      exact q
  · rw [e]
    rw [qL hn] at q
    walk_at "rd"
    exact q
theorem pick {P : PyData → Prop} {xs : List PyData} {i : Int} (h0 : 0 ≤ i) (h1 : i < (xs.length : Nat)) (h : ∀ x ∈ xs, P x) : ∃ d, atI xs i = some d ∧ P d := let ⟨d, e, m⟩ := tL h0 h1; ⟨d, e, h d m⟩
theorem Step.refl {a : Addr} (h : Bag μ a) : Step a μ μ := ⟨h, fun _ _ => rfl⟩
theorem uO {i : Int} (h1 : -1048576 < i) (h2 : i < 1048576) : Sz 20 i := Sz.of (by show i.natAbs < 1048576; omega)
theorem o4 (h : j6 ds μ Qd) : gu { nx := fun _ μ' => Qd (.v .none) μ', rt := Qd } (aG ["_law_bag_here", "_law_wide", "_law_a", "_law_b", "_law_c", "_law_way"] ds) μ := by
  obtain ⟨a, rfl, hb, q⟩ := h
  unfold gu
  walk_at "rd"
  refine ⟨a, 4, rfl, by decide, by decide, hb, fun r0 μ1 h0 h1 s1 => ?_⟩
  walk_at "rd"
  obtain ⟨w, e, i, rfl, w0, w1⟩ := pick (P := fun d => ∃ i : Int, d = .int i ∧ 4 ≤ i ∧ i ≤ 1000000) (xs := [PyData.int 4, PyData.int 10, PyData.int 100, PyData.int 1000000]) h0 (by exact h1) (by
    intro x hx
    simp only [List.mem_cons, List.not_mem_nil, or_false] at hx
    rcases hx with rfl | rfl | rfl | rfl <;> exact ⟨_, rfl, by decide, by decide⟩)
  rw [e]
  walk_at "rd"
  refine ⟨a, i, rfl, by omega, by omega, s1.1, fun r1 μ2 h2 h3 s2 => ?_⟩
  walk_at "rd"
  refine ⟨divC (by decide) (by decide), a, i, rfl, by omega, by omega, s2.1, fun r2 μ3 h4 h5 s3 => ?_⟩
  walk_at "rd"
  refine ⟨divC (by decide) (by decide), a, i - 1, rfl, by omega, by omega, s3.1, fun r3 μ4 h6 h7 s4 => ?_⟩
  walk_at "rd"
  refine ⟨a, 8, rfl, by decide, by decide, s4.1, fun r4 μ5 h8 h9 s5 => ?_⟩
  walk_at "rd"
  have ef : i.fdiv 2 = i / 2 := Int.fdiv_eq_ediv_of_nonneg _ (by omega)
  rw [ef]
  have za : Sz 20 (r1 - i / 2) := uO (by omega) (by omega)
  have zb : Sz 20 (r2 - i / 2) := uO (by omega) (by omega)
  have zc : Sz 20 (1 + r3) := uO (by omega) (by omega)
  have z0 : Sz 20 0 := uO (by omega) (by omega)
  have z1 : Sz 20 1 := uO (by omega) (by omega)
  obtain ⟨d1, e1, i1, rfl, b1⟩ := pick (P := fun d => ∃ i : Int, d = .int i ∧ Sz 20 i) (xs := [PyData.int (r1 - i / 2), PyData.int (r1 - i / 2), PyData.int (r1 - i / 2), PyData.int (r1 - i / 2), PyData.int (r1 - i / 2), PyData.int (r1 - i / 2), PyData.int (r1 - i / 2), PyData.int 0]) h8 (by exact h9) (by
    intro x hx
    simp only [List.mem_cons, List.not_mem_nil, or_false] at hx
    rcases hx with rfl | rfl | rfl | rfl | rfl | rfl | rfl | rfl <;> exact ⟨_, rfl, by assumption⟩)
  rw [e1]
  walk_at "rd"
  obtain ⟨d2, e2, i2, rfl, b2⟩ := pick (P := fun d => ∃ i : Int, d = .int i ∧ Sz 20 i) (xs := [PyData.int (r2 - i / 2), PyData.int (r2 - i / 2), PyData.int (r2 - i / 2), PyData.int (r2 - i / 2), PyData.int (r2 - i / 2), PyData.int 0, PyData.int 0, PyData.int (r2 - i / 2)]) h8 (by exact h9) (by
    intro x hx
    simp only [List.mem_cons, List.not_mem_nil, or_false] at hx
    rcases hx with rfl | rfl | rfl | rfl | rfl | rfl | rfl | rfl <;> exact ⟨_, rfl, by assumption⟩)
  rw [e2]
  walk_at "rd"
  obtain ⟨d3, e3, i3, rfl, b3, p3⟩ := pick (P := fun d => ∃ i : Int, d = .int i ∧ Sz 20 i ∧ 0 < i) (xs := [PyData.int (1 + r3), PyData.int (1 + r3), PyData.int 1, PyData.int (1 + r3), PyData.int 1, PyData.int (1 + r3), PyData.int 1, PyData.int (1 + r3)]) h8 (by exact h9) (by
    intro x hx
    simp only [List.mem_cons, List.not_mem_nil, or_false] at hx
    rcases hx with rfl | rfl | rfl | rfl | rfl | rfl | rfl | rfl <;> exact ⟨_, rfl, by assumption, by omega⟩)
  rw [e3]
  walk_at "rd"
  have n3 : i3 ≠ 0 := by omega
  exact ⟨i1, i2, i3, rfl, n3, b3.mono (by decide), q _ _ (mY _ _ n3) (o6 n3 b1 b2 b3) (s1.trans (s2.trans (s3.trans (s4.trans s5))))⟩
end
open PySem PySem.Spec PyProof.Rows NM
def iQ : DTS :=
  (aE (cR (dB (dOp (cS false) (ao cj (ab (af 0) (ab (dC (.int 2)) ak))) (dC (.int 0)))) (bg (dOp ax (kv (ab (dC (.int 2)) (ab (dC (.int 3)) (ab (dC (.int 5)) ak)))) (ao cj (ab (af 0) (ab (dC (.int 3)) ak))))) bB)
  (aE (bA (pG [none] (vw (ab (dC (.int 2)) (ab (dC (.int 31)) ak))) (av 0) (dB (dOp (AB true) (af 0) (kv (ab (dC (.int 4)) (ab (dC (.int 9)) (ab (dC (.int 16)) (ab (dC (.int 25)) ak))))))) (af 0)) (av 1))
  (bg (dOp ax (af 1) (ao cj (ab (af 0) (ab (dC (.int 25)) ak)))))))
def g7 : DTS :=
  (aE (bA (ao j6 (ab (af 0) ak)) (av 2))
  (aE (bA (ao fB (ab (af 1) (ab (af 2) ak))) (av 3))
  (aE (cR (dB (dOp (cS false) (af 3) (dC (.int 0)))) (bg (cK (ab (gO (dC (.int 1)) (ao cj (ab (af 0) (ab (dC (.int 5)) ak)))) (ab (dC (.int 0)) (ab (dC (.int 1)) ak))))) bB)
  (bg (dIf (dB (dOp rGt (af 3) (dC (.int 0)))) (af 2) (ao k0 (ab (af 2) ak)))))))
section
variable {μ : Mu} {Qd : DK} {ds : List D}
theorem BJ {lo : Int} {n : Nat} {x : PyData} (h : x ∈ jI lo n) : ∃ i : Int, x = .int i ∧ lo ≤ i ∧ i < lo + n := by
  unfold jI at h
  obtain ⟨k, hk, rfl⟩ := List.mem_map.mp h
  have := List.mem_range.mp hk
  exact ⟨_, rfl, by omega, by omega⟩
def uD : PyData → Option PyData
  | .int i => if xo i then some (.int i) else none
  | _ => none
def rK : List PyData := [2, 3, 5, 6, 7, 8, 10, 11, 12, 13, 14, 15, 17, 18, 19, 20, 21, 22, 23, 24, 26, 27, 28, 29, 30].map PyData.int
theorem in4 (i : Int) : (List.any [PyData.int 4, PyData.int 9, PyData.int 16, PyData.int 25] fun b => PyData.eqv b (.int i)) = (decide (i = 4) || decide (i = 9) || decide (i = 16) || decide (i = 25)) := by
  have ev : ∀ j : Int, PyData.eqv (.int j) (.int i) = decide (i = j) := fun j => by rw [Gz]; simp [eq_comm]
  simp only [List.any_cons, List.any_nil, ev, Bool.or_false, Bool.or_assoc]
theorem tD (h : n4 ds μ Qd) : iQ { nx := fun _ μ' => Qd (.v .none) μ', rt := Qd } (aG ["_law_bag_here", "_law_some"] ds) μ := by
  obtain ⟨a, rfl, hb, q⟩ := h
  unfold iQ
  walk_at "rd"
  refine ⟨a, 2, rfl, by decide, by decide, hb, fun r0 μ1 h0 h1 s1 => ?_⟩
  walk_at "rd"
  by_cases hr : r0 = 0
  · rw [if_pos (by simpa using hr)]
    refine ⟨a, 3, rfl, by decide, by decide, s1.1, fun r1 μ2 h2 h3 s2 => ?_⟩
    walk_at "rd"
    obtain ⟨w, e, i, rfl, w0⟩ := pick (P := fun d => ∃ i : Int, d = .int i ∧ aK i) (xs := [PyData.int 2, PyData.int 3, PyData.int 5]) h2 (by exact h3) (by
      intro x hx
      simp only [List.mem_cons, List.not_mem_nil, or_false] at hx
      rcases hx with rfl | rfl | rfl <;> exact ⟨_, rfl, by unfold aK; omega⟩)
    rw [e]
    exact q _ _ w0 (s1.trans s2)
  · rw [if_neg (by simpa using hr)]
    refine ⟨⟨by decide, by decide, by decide, by decide⟩, by decide, fun p hp => ⟨fun i acc μ' => acc = ((jI 2 29).take i).filterMap uD ∧ μ' = aw μ1 p acc, ⟨rfl, rfl⟩, ?_, ?_⟩⟩
    · rintro i x acc μ' hx hpa ⟨e0, e1⟩
      obtain ⟨k, rfl, i0, i1⟩ := BJ (List.mem_of_getElem? hx)
      refine ⟨trivial, rfl, rfl, by show 0 ≤ 60; decide, ?_⟩
      rw [in4]
      have i1' : k < 31 := by simpa using i1
      have e : uD (.int k) = if xo k then some (.int k) else none := rfl
      have e2 : xo k = !(decide (k = 4) || decide (k = 9) || decide (k = 16) || decide (k = 25)) := by
        unfold xo
        rw [decide_eq_true i0, decide_eq_true (show k ≤ 30 by omega)]
        rfl
      have ft : ((jI 2 29).take (i + 1)).filterMap uD = ((jI 2 29).take i).filterMap uD ++ (uD (.int k)).toList := DH hx
      rw [e, e2] at ft
      cases hh : (decide (k = 4) || decide (k = 9) || decide (k = 16) || decide (k = 25))
      · rw [hh] at ft
        simp only [Bool.true_xor, Bool.not_false, ↓reduceIte] at ft ⊢
        refine ⟨hpa, ?_, ?_⟩
        · rw [ft, e0]; rfl
        · rw [e1, mT]
      · rw [hh] at ft
        simp only [Bool.true_xor, Bool.not_true, ↓reduceIte, Bool.false_eq_true] at ft ⊢
        refine ⟨hpa, ?_, e1⟩
        rw [ft, e0]; simp
    rintro acc μ' ⟨e0, e1⟩ _
    have ed : fW μ' p = μ1 := by rw [e1]; exact xK hp
    rw [ed]
    have e0' : acc = rK := by rw [e0]; rfl
    rw [e0']
    refine ⟨a, 25, rfl, by decide, by decide, s1.1, fun r1 μ2 h2 h3 s2 => ?_⟩
    walk_at "rd"
    obtain ⟨w, e, i, rfl, w0⟩ := pick (P := fun d => ∃ i : Int, d = .int i ∧ aK i) (xs := rK) h2 (by exact h3) (by
      intro x hx
      unfold rK at hx
      obtain ⟨k, hk, rfl⟩ := List.mem_map.mp hx
      refine ⟨_, rfl, ?_⟩
      simp only [List.mem_cons, List.not_mem_nil, or_false] at hk
      unfold aK
      omega)
    rw [e]
    exact q _ _ w0 (s1.trans s2)
def jT : DSp := fun ds μ Q => ∃ (a : Addr) (d : Int), ds = [.m a, .v (.int d)] ∧ aK d ∧ Bag μ a ∧ ∀ x μ', Ok x → Bd 20 x → sg d x.a x.b = 1 → Step a μ μ' → Q (.v (dN x)) μ'
theorem qp (h : jT ds μ Qd) : g7 { nx := fun _ μ' => Qd (.v .none) μ', rt := Qd } (aG ["_law_bag_here", "_law_d", "_law_x", "_law_sign_here"] ds) μ := by
  obtain ⟨a, d, rfl, hd, hb, q⟩ := h
  unfold g7
  walk_at "rd"
  refine ⟨a, rfl, hb, fun x μ1 ox bx s1 => ?_⟩
  walk_at "rd"
  refine ⟨d, x, rfl, hd, bx.mono (by decide), ?_⟩
  walk_at "rd"
  have t := nh d x.a x.b
  by_cases h0 : sg d x.a x.b = 0
  · rw [if_pos (by simpa using h0)]
    refine ⟨a, 5, rfl, by decide, by decide, s1.1, fun r μ2 r0 r1 s2 => ?_⟩
    walk_at "rd"
    have ok : Ok ⟨1 + r, 0, 1⟩ := ⟨by show (0 : Int) < 1; decide, by unfold g3; simp⟩
    refine q ⟨1 + r, 0, 1⟩ μ2 ok ⟨uO (by show -1048576 < 1 + r; omega) (by show 1 + r < 1048576; omega), uO (by show -1048576 < (0 : Int); decide) (by show (0 : Int) < 1048576; decide), uO (by show -1048576 < (1 : Int); decide) (by show (1 : Int) < 1048576; decide)⟩ ?_ (s1.trans s2)
    show sg d (1 + r) 0 = 1
    unfold sg
    rw [if_neg (by omega), if_pos (by omega)]
  · rw [if_neg (by simpa using h0)]
    by_cases h1 : 0 < sg d x.a x.b
    · rw [if_pos (by simpa using h1)]
      exact q x μ1 ox bx (by omega) s1
    · rw [if_neg (by simpa using h1)]
      refine ⟨x, rfl, ?_⟩
      refine q (minus x) μ1 (jF ox) (oP bx) ?_ s1
      show sg d (-x.a) (-x.b) = 1
      rw [vP hd]
      omega
end
open PySem PySem.Spec PyProof.Rows NM
section
variable {μ : Mu} {Q : DK} {ds : List D}
def pj : DSp := fun ds μ Q => ∃ ns : List Int, ds = [.s ns] ∧ ns.length ≤ 63 ∧ ∀ μ', Q (.v (.bool true)) μ'
theorem nH (h : fh ds μ Q) : ds.length = 1 := by obtain ⟨_, rfl, _⟩ := h; rfl
theorem q5 (h : jz ds μ Q) : ds.length = 2 := by obtain ⟨_, _, rfl, _⟩ := h; rfl
theorem v5 (h : pC ds μ Q) : ds.length = 3 := by obtain ⟨_, _, _, rfl, _⟩ := h; rfl
theorem pO (h : jq ds μ Q) : ds.length = 1 := by obtain ⟨_, rfl, _⟩ := h; rfl
theorem kY (h : bY ds μ Q) : ds.length = 3 := by obtain ⟨_, _, _, rfl, _⟩ := h; rfl
theorem vp (h : jY ds μ Q) : ds.length = 1 := by obtain ⟨_, rfl, _⟩ := h; rfl
theorem uM (h : k0 ds μ Q) : ds.length = 1 := by obtain ⟨_, rfl, _⟩ := h; rfl
theorem vk (h : g5 ds μ Q) : ds.length = 2 := by obtain ⟨_, _, rfl, _⟩ := h; rfl
theorem nB (h : bc ds μ Q) : ds.length = 3 := by obtain ⟨_, _, _, rfl, _⟩ := h; rfl
theorem j0 (h : cT ds μ Q) : ds.length = 2 := by obtain ⟨_, _, rfl, _⟩ := h; rfl
theorem pT (h : jR ds μ Q) : ds.length = 3 := by obtain ⟨_, _, _, rfl, _⟩ := h; rfl
theorem uW (h : n6 ds μ Q) : ds.length = 3 := by obtain ⟨_, _, _, rfl, _⟩ := h; rfl
theorem pe (h : fB ds μ Q) : ds.length = 2 := by obtain ⟨_, _, rfl, _⟩ := h; rfl
theorem uw (h : oi ds μ Q) : ds.length = 3 := by obtain ⟨_, _, _, rfl, _⟩ := h; rfl
theorem xZ (h : xl ds μ Q) : ds.length = 2 := by obtain ⟨_, _, rfl, _⟩ := h; rfl
theorem vo (h : cj ds μ Q) : ds.length = 2 := by obtain ⟨_, _, rfl, _⟩ := h; rfl
theorem qx (h : j6 ds μ Q) : ds.length = 1 := by obtain ⟨_, rfl, _⟩ := h; rfl
theorem vh (h : n4 ds μ Q) : ds.length = 1 := by obtain ⟨_, rfl, _⟩ := h; rfl
theorem tq (h : jT ds μ Q) : ds.length = 2 := by obtain ⟨_, _, rfl, _⟩ := h; rfl
theorem yi (h : pj ds μ Q) : ds.length = 1 := by obtain ⟨_, rfl, _⟩ := h; rfl
end
def hJ : DTS := gF
theorem mH {μ Qd ds} (h : fh ds μ Qd) : hJ { nx := fun _ μ' => Qd (.v .none) μ', rt := Qd } (aG ["_law_thing"] ds) μ := nG h
structure CZ (K : PySem.W.Frag) (mg : Str → Option Value) (x : Str) (g : Addr) (a b c : Int) : Prop where
  m : mg x = some (.ref g)
  l : ∃ (od : Option Addr) (n : Nat) (sl : Array (Option Value)) (t u v : Tok), K.lookup g = some ⟨.type "tuple", od, .seq #[.int a t, .int b u, .int c v] n, sl⟩
theorem mh {X : Cx} {x : Str} {g : Addr} {a b c : Int} {pos : Pos} (hg : Gl X x) (h : CZ X.K X.mg x g a b c) (hd : (x == ("__debug__" : Str)) = false := by decide) : DE X (.Name x pos) (dC (.tuple [.int a, .int b, .int c])) := by
  obtain ⟨od, n, sl, t, u, v, e⟩ := h.l
  refine Bg (u := .ref g) hg h.m rfl (fun μ H _ => Rp.tuple (xs := [.int a, .int b, .int c]) (.inr ⟨_, _, _, e, rfl, rfl, (by show 3 ≤ sizeLine; decide), .cons ⟨t, rfl⟩ (.cons ⟨u, rfl⟩ (.cons ⟨v, rfl⟩ .nil))⟩) (.cons (.int a) (.cons (.int b) (.cons (.int c) .nil)))) hd
theorem xP {K : PySem.W.Frag} {H : Hp} {a : Addr} {ns : List Int} (hl : ns.length ≤ 63) (hT : u9 K H) (hS : SqL K H a (ns.map V.int)) : spD K pj [.ref a] H (fun v _ => v = .bl true) fun _ _ _ => False := by
  refine ⟨[.s ns], fun _ => none, fun d _ => d = .v (.bool true), ⟨fun a ds h => (by cases h), hT⟩, .cons ⟨a, rfl, hS, rfl⟩ .nil, ⟨ns, rfl, hl, fun _ => rfl⟩, fun d u μ' H' _ _ r q => ?_⟩
  subst q
  cases r
  rfl
open PySem PySem.Spec PyProof.Rows NM
section
variable {μ : Mu} {Q : DK} {ds : List D} {x y : N3}
theorem Fw (a b c : Int) : PyData.tuple [.int a, .int b, .int c] = dN ⟨a, b, c⟩ := rfl
theorem Dq : ax (.v (dN x)) (.v (.int 0)) μ Q = Q (.v (.int x.a)) μ := by unfold dN; rw [vi]
theorem CC : ax (.v (dN x)) (.v (.int 1)) μ Q = Q (.v (.int x.b)) μ := by unfold dN; rw [vM]
theorem CB : ax (.v (dN x)) (.v (.int 2)) μ Q = Q (.v (.int x.c)) μ := by unfold dN; rw [wb]
theorem eqN : PyData.eqv (dN x) (dN y) = decide (x = y) := by
  unfold dN
  rw [EF, Bool.eq_iff_iff]
  simp only [decide_eq_true_eq]
  exact ⟨fun h => N3.ext' h.1 h.2.1 h.2.2, fun h => by subst h; exact ⟨rfl, rfl, rfl⟩⟩
theorem Ff {neg : Bool} : cS neg (.v (dN x)) (.v (dN y)) μ Q = Q (.v (.bool (neg ^^ decide (x = y)))) μ := by
  rw [yM, eqN]
  exact propext ⟨fun h => h.2.2, fun h => ⟨rfl, rfl, h⟩⟩
theorem ou (h : Ok x) : isNum (dN x) = true := by
  have := h.c
  show (decide (1 ≤ x.c) && (g3 x.a x.b x.c == 1)) = true
  rw [h.g]
  simp; omega
theorem yZ : Few (dN x) := by simp [dN, Few]
theorem Aj {d a b c : Int} (h : aK d) (hc : 0 < c) : sg d (low a b c).a (low a b c).b = sg d a b := by
  obtain ⟨k, hk, hs, p1, p2, p3, _⟩ := iw a b (show c ≠ 0 by omega)
  have e := fw (a := (low a b c).a) (b := (low a b c).b) h (hs.mpr hc)
  rw [← p1, ← p2] at e
  exact e.symm
theorem lB {d : Int} (h : aK d) (ox : Ok x) (oy : Ok y) : sg d (times d x y).a (times d x y).b = sg d x.a x.b * sg d y.a y.b := by
  unfold times
  rw [Aj h (Int.mul_pos ox.c oy.c), vG h]
theorem Al {d : Int} : dif d x x = 0 := by unfold dif; rw [Int.sub_self, Int.sub_self]; exact cQ.mpr ⟨rfl, rfl⟩
theorem EX {lo : Int} {n i : Nat} {x : PyData} (h : (jI lo n)[i]? = some x) : x = .int (lo + i) ∧ i < n := by
  unfold jI at h
  rw [List.getElem?_map] at h
  by_cases hi : i < n
  · rw [List.getElem?_range hi] at h
    cases h
    exact ⟨rfl, hi⟩
  · rw [List.getElem?_eq_none (by simpa using hi)] at h
    cases h
theorem Dg {lo : Int} {n : Nat} : (jI lo n).length = n := by unfold jI; simp
end
end L2.DL
set_option Elab.async false
set_option linter.all false
set_option maxRecDepth 100000
set_option maxHeartbeats 4000000
namespace NM
inductive Euc : Nat → Nat → List Nat → Prop
  | nil (r : Nat) : Euc r 0 []
  | cons {r s : Nat} {cs : List Nat} : 0 < s → Euc s (r % s) cs → Euc r s (r / s :: cs)
theorem Euc.eq {r s : Nat} {cs cs' : List Nat} (h : Euc r s cs) : Euc r s cs' → cs = cs' := by
  induction h generalizing cs' with
  | nil r =>
    intro g
    cases g with
    | nil => rfl
    | cons h _ => exact absurd h (by decide)
  | cons hs _ ih =>
    intro g
    cases g with
    | nil => exact absurd hs (by decide)
    | cons _ g => rw [ih g]
theorem y8 : ∀ (n r s : Nat), s ≤ r → r * s < 2 ^ n → ∃ cs, Euc r s cs ∧ cs.length ≤ n
  | 0, r, s, h, hn => by
    have : s = 0 := by
      rcases Nat.eq_zero_or_pos s with z | z
      · exact z
      · have := Nat.mul_le_mul (Nat.le_trans z h : 1 ≤ r) (z : 1 ≤ s)
        simp at hn this; omega
    subst this
    exact ⟨[], .nil r, Nat.le_refl _⟩
  | n + 1, r, s, h, hn => by
    rcases Nat.eq_zero_or_pos s with z | z
    · subst z; exact ⟨[], .nil r, Nat.zero_le _⟩
    · have hm := Nat.mod_lt r z
      have h2 : 2 * (r % s) ≤ r := by
        have e := Nat.div_add_mod r s
        have d1 : 1 ≤ r / s := Nat.div_pos h z
        have := Nat.mul_le_mul_left s d1
        omega
      have hb : s * (r % s) < 2 ^ n := by
        have e1 : 2 * (s * (r % s)) = s * (2 * (r % s)) := by rw [Nat.mul_left_comm]
        have e2 : s * (2 * (r % s)) ≤ s * r := Nat.mul_le_mul_left s h2
        rw [Nat.mul_comm r s, Nat.pow_succ] at hn
        omega
      obtain ⟨cs, g, l⟩ := y8 n s (r % s) (Nat.le_of_lt hm) hb
      exact ⟨_, .cons z g, by simpa using l⟩
section
variable {d : Int} {u : N3} {i j : Nat}
theorem ui (i : Int) : Ok ⟨i, 0, 1⟩ := ⟨by show (0 : Int) < 1; decide, by show Int.gcd (Int.gcd i 0) 1 = 1; exact Int.gcd_one_right _⟩
end
end NM
set_option Elab.async false
set_option linter.all false
set_option maxRecDepth 100000
set_option maxHeartbeats 4000000
namespace L2.DL
open PySem PySem.Spec PyProof.Rows NM
local macro_rules | `(tactic| walk_at "rn") => `(tactic| simp only [↓Ac, ↓zQ, ↓zu, ↓wa, ↓sA, ↓As, ↓zh, ↓zO, ↓zf, ↓yy, ↓wK, ↓q_c, ↓Fe, ↓q_B, ↓Eu, ↓Cr, ↓Cd, ↓yU, ↓BZ, ↓yq, ↓Aq, ↓Cg, ↓zC, ↓E8, ↓yK, ↓wk, ↓Ca, ↓B3, ↓Ag, ↓Ci, ↓Cz, ↓BU, ↓BP, ↓B9, ↓B6, ↓Cp, ↓zT, ↓yD, ↓yG, ↓vi, ↓vM, ↓wb, ↓yQ, ↓uN, ↓qW, ↓BX, ↓Cu, ↓Cc, ↓zL, ↓yF, ↓zM, ↓yj, ↓yB, ↓EK, ↓uh, ↓zm, ↓Cv, ↓Cb, ↓Ct, ↓Fu, ↓yX, ↓yu, ↓zy, ↓zS, ↓Cs, ↓EN, ↓yz, ↓yR, ↓xm, ↓wx, ↓BR, ↓BW, ↓B8, ↓Co, ↓wV, ↓yI, ↓w6, ↓zd, ↓zR, ↓B5, ↓BN, ↓zW, ↓yY, ↓Cy, ↓zw, ↓B7, ↓xk, ↓vy, ↓BS, ↓Cn, ↓zq, ↓wQ, ↓yx, ↓uP, ↓wG, ↓tQ, ↓uu, ↓wL, ↓u7, ↓u5, ↓tU, ↓BV, zZ, ↓yv, ↓wH, y4, yA, B0, B4, Cf, Option.bind_none, Option.bind_some, Option.join_some, List.getElem?_cons_zero, List.getElem?_cons_succ, aG, Fw, Dq, CC, CB, Ff, nu, tV, uA, xq, zP, List.map, List.append, List.replicate, List.length_cons, List.length_nil, Nat.reduceAdd, Nat.reduceSub, List.nil_append, List.cons_append, List.set_cons_zero, List.set_cons_succ, Option.map_some, ↓reduceIte, Bool.not_true, Bool.not_false, Bool.false_eq_true, Bool.true_eq_false, Bool.xor_false, Bool.false_xor])
def sM (d : Int) : PyData → Bool
  | .tuple [.int a, .int b, .int c] => isNum (.tuple [.int a, .int b, .int c]) && decide (sg d a b = 1)
  | _ => false
def lW : DSp := fun ds μ Q => ∃ (d : Int) (t : PyData), ds = [.v (.int d), .v t] ∧ aK d ∧ Few t ∧ (∀ x, t = dN x → Bd 8900 x) ∧ Q (.v (.bool (sM d t))) μ
theorem sX {μ : Mu} {Q : DK} {ds : List D} (h : lW ds μ Q) : ds.length = 2 := by obtain ⟨_, _, rfl, _⟩ := h; rfl
def fu : DSp := fun ds μ Q => ∃ (d : Int) (x : N3), ds = [.v (.int d), .v (dN x)] ∧ aK d ∧ Ok x ∧ Bd 8900 x ∧ sg d x.a x.b = 1 ∧ Q (.v .none) μ
theorem nN {μ : Mu} {Q : DK} {ds : List D} (h : fu ds μ Q) : ds.length = 2 := by obtain ⟨_, _, rfl, _⟩ := h; rfl
def dF : DTS :=
  (bg (oJ (ao jq (ab (af 1) ak)) (dOp (cS false) (ao fB (ab (af 0) (ab (af 1) ak))) (dC (.int 1)))))
def cx : DTS :=
  (cR (eM (dB (ao lW (ab (af 0) (ab (af 1) ak))))) oB bB)
section
variable {μ : Mu} {Qd : DK} {ds : List D}
theorem tX {d : Int} {x : N3} (ox : Ok x) : sM d (dN x) = decide (sg d x.a x.b = 1) := by
  show (isNum (dN x) && decide (sg d x.a x.b = 1)) = _
  rw [ou ox, Bool.true_and]
theorem vm {d : Int} {t : PyData} (h : isNum t = false) : sM d t = false := by
  unfold sM
  split
  · rw [h, Bool.false_and]
  · rfl
theorem vx {t : PyData} (h : isNum t = true) : ∃ x : N3, t = dN x ∧ Ok x := by
  unfold isNum at h
  split at h
  · rename_i a b c
    simp only [Bool.and_eq_true, decide_eq_true_eq, beq_iff_eq] at h
    exact ⟨⟨a, b, c⟩, rfl, by show 0 < c; omega, h.2⟩
  · cases h
theorem kT (h : lW ds μ Qd) : dF { nx := fun _ μ' => Qd (.v .none) μ', rt := Qd } (aG ["d", "thing"] ds) μ := by
  obtain ⟨d, t, rfl, hd, ft, bt, q⟩ := h
  unfold dF
  walk_at "rn"
  refine ⟨t, rfl, ft, ?_⟩
  walk_at "rn"
  cases e : isNum t with
  | true =>
    walk_at "rn"
    obtain ⟨x, rfl, ox⟩ := vx e
    refine ⟨d, x, rfl, hd, bt x rfl, ?_⟩
    walk_at "rn"
    rw [tX ox] at q
    exact q
  | false =>
    walk_at "rn"
    rw [vm e] at q
    exact q
theorem hX (h : fu ds μ Qd) : cx { nx := fun _ μ' => Qd (.v .none) μ', rt := Qd } (aG ["d", "thing"] ds) μ := by
  obtain ⟨d, x, rfl, hd, ox, bx, hx, q⟩ := h
  unfold cx
  walk_at "rn"
  refine ⟨d, dN x, rfl, hd, yZ, fun y e => ?_, ?_⟩
  · have : y = x := by
      simp only [dN, PyData.tuple.injEq, List.cons.injEq, PyData.int.injEq, and_true] at e
      exact N3.ext' e.1.symm e.2.1.symm e.2.2.symm
    rw [this]; exact bx
  · walk_at "rn"
    rw [tX ox, hx]
    simp only [decide_true, Bool.not_true, Bool.false_eq_true, ↓reduceIte]
    exact q
theorem jA {x : PyData} (h : SeqAt.shaped x = true) : x.eqv x = true := SeqAt.eqv_refl _ (SeqAt.canLay_of_shaped h)
theorem eq_str {μ : Mu} {Qd : DK} {s : Str} (h : SeqAt.shaped (.str s) = true) (q : Qd (.v (.bool true)) μ) : cS false (.v (.str s)) (.v (.str s)) μ Qd := ⟨h, h, by rw [jA h]; exact q⟩
theorem ne_str {μ : Mu} {Qd : DK} {s : Str} (h : SeqAt.shaped (.str s) = true) (q : Qd (.v (.bool false)) μ) : cS true (.v (.str s)) (.v (.str s)) μ Qd := ⟨h, h, by rw [jA h]; exact q⟩
end
open PySem PySem.Spec PyProof.Rows NM
def ix (cs : List Nat) : List PyData := cs.map fun c => .int (c : Nat)
def kb : DSp := fun ds μ Q => ∃ (p q : Nat) (cs : List Nat), ds = [.v (dN ⟨p, 0, q⟩)] ∧ p < 2 ^ 222 ∧ q < 2 ^ 222 ∧ Euc (max p q) (min p q) cs ∧ cs.length ≤ 900 ∧ ∀ a μ', μ a = none → eW μ μ' → μ' a = some (ix cs) → Q (.m a) μ'
theorem qo {ds : List D} {μ : Mu} {Q : DK} (h : kb ds μ Q) : ds.length = 1 := by obtain ⟨_, _, _, rfl, _⟩ := h; rfl
def skw (x : N3) : Int := if 0 < x.b then 1 else -1
def wtD (e : Int) : PyData := .tuple [dN aB, dN ⟨e, 0, 1⟩, dN ⟨-e, 0, 1⟩, dN aB]
def wo (x : N3) : PyData := .tuple [dN one, wtD (skw x)]
def ma : DSp := fun ds μ Q => ∃ x : N3, ds = [.v (dN x)] ∧ Q (.v (wo x)) μ
theorem sU {ds : List D} {μ : Mu} {Q : DK} (h : ma ds μ Q) : ds.length = 1 := by obtain ⟨_, rfl, _⟩ := h; rfl
structure fX (d : Int) (w h : N3) : Prop where
  rt : aK d
  ow : Ok w
  oh : Ok h
  bw : Bd 70 w
  bh : Bd 70 h
  sw : sg d w.a w.b = 1
  sh : sg d h.a h.b = 1
def shp (d : Int) (w h : N3) : N3 := times d h (aU d w)
structure uF (d : Int) (w h : N3) (p q : Nat) (cs : List Nat) : Prop where
  e : shp d w h = ⟨p, 0, q⟩
  p0 : 0 < p
  q0 : 0 < q
  pb : p < 2 ^ 222
  qb : q < 2 ^ 222
  g : Euc (max p q) (min p q) cs
  l : cs.length ≤ 450
def kF : DSp := fun ds μ Q => ∃ (d : Int) (w h : N3), ds = [.v (.int d), .v (dN w), .v (dN h)] ∧ fX d w h ∧ ((shp d w h).b ≠ 0 → Q (.v .none) μ) ∧ (∀ p q cs, uF d w h p q cs → ∀ a μ', μ a = none → eW μ μ' → μ' a = some (ix cs) → Q (.m a) μ')
theorem ot {ds : List D} {μ : Mu} {Q : DK} (h : kF ds μ Q) : ds.length = 3 := by obtain ⟨_, _, _, rfl, _⟩ := h; rfl
def ni : DSp := fun ds μ Q => ∃ (d : Int) (w h : N3), ds = [.v (.int d), .v (dN w), .v (dN h)] ∧ fX d w h ∧ ((shp d w h).b ≠ 0 → Q (.v .none) μ) ∧ (∀ p q cs, uF d w h p q cs → Q (.v (.list (ix cs))) μ)
theorem nW {ds : List D} {μ : Mu} {Qd : DK} (h : ni ds μ Qd) : kF ds μ (frz μ Qd) := by
  obtain ⟨d, w, h, rfl, s, k1, k2⟩ := h
  exact ⟨d, w, h, rfl, s, fun z => ⟨eW.refl, k1 z⟩, fun p q cs f a μ' n s e => ⟨⟨n, s⟩, _, e, k2 p q cs f⟩⟩
def iH : DTS :=
  (bg (ao bc (ab (af 0) (ab (af 1) (ab (ao cT (ab (af 0) (ab (af 2) ak))) ak)))))
def dD : DTS :=
  (aE (bA (dIf (dB (dOp rGt (dOp ax (af 0) (dC (.int 1))) (dC (.int 0)))) (dC (.int 1)) (oU (dC (.int 1)))) (av 1))
  (bg (cK (ab (dC (.tuple [.int 1, .int 0, .int 1])) (ab (cK (ab (dC (.tuple [.int 0, .int 0, .int 1])) (ab (cK (ab (af 1) (ab (dC (.int 0)) (ab (dC (.int 1)) ak)))) (ab (cK (ab (oU (af 1)) (ab (dC (.int 0)) (ab (dC (.int 1)) ak)))) (ab (dC (.tuple [.int 0, .int 0, .int 1])) ak))))) ak)))))
def i8 : DTS :=
  (aE (bA (dCB (pD min) (ab (dOp ax (af 0) (dC (.int 0))) (ab (dOp ax (af 0) (dC (.int 2))) ak))) (av 1))
  (aE (bA (dCB (pD max) (ab (dOp ax (af 0) (dC (.int 0))) (ab (dOp ax (af 0) (dC (.int 2))) ak))) (av 2))
  (aE (bA (q9 ak) (av 3))
  (aE (ng (dB (dOp (cS true) (af 1) (dC (.int 0)))) (aE (lV (yh (af 3) (mN (af 2) (af 1))))
  (lX 2 1 (ab (af 1) (ab (oA (af 2) (af 1)) ak)))))
  (bg (af 3))))))
def gb : DTS :=
  (aE (bA (ao jR (ab (af 0) (ab (af 2) (ab (af 1) ak)))) (av 3))
  (aE (cR (dB (dOp (cS true) (dOp ax (af 3) (dC (.int 1))) (dC (.int 0)))) (bg (dC .none)) bB)
  (aE (bA (q9 ak) (av 4))
  (aE (lX 5 6 (ab (dOp ax (af 3) (dC (.int 0))) (ab (dOp ax (af 3) (dC (.int 2))) ak)))
  (aE (ng (dB (dOp rGt (bH (af 5) (af 6)) (dC (.int 0)))) (aE (lX 7 8 (ab (dCB (pD min) (ab (af 5) (ab (af 6) ak))) (ab (dCB (pD max) (ab (af 5) (ab (af 6) ak))) ak)))
  (aE (lV (yh (af 4) (mN (af 8) (af 7))))
  (cR (dB (dOp rGe (af 6) (af 5))) (bA (kX (af 6) (bH (af 7) (dOp ax (af 4) (oU (dC (.int 1)))))) (av 6)) (bA (kX (af 5) (bH (af 7) (dOp ax (af 4) (oU (dC (.int 1)))))) (av 5))))))
  (bg (af 4)))))))
section
variable {μ : Mu} {Qd : DK} {ds : List D}
theorem szN {n i : Nat} (h : i < 2 ^ n) : Sz n (i : Int) := Sz.of (by rw [Int.natAbs_natCast]; exact h)
theorem xt {l : List PyData} {v : PyData} : atI (l ++ [v]) (-1) = some v := by
  unfold atI ixN
  have e : (l ++ [v]).length = l.length + 1 := by simp
  rw [e]
  split
  · omega
  · rw [if_pos (by omega)]
    have z : (-1 + ((l.length + 1 : Nat) : Int)).toNat = l.length := by omega
    simp only [Option.bind_some]
    rw [z]
    simp
theorem uB {cs ds : List Nat} : ix (cs ++ ds) = ix cs ++ ix ds := List.map_append
theorem BO (r s : Nat) : (r : Int).fdiv (s : Int) = ((r / s : Nat) : Int) := by rw [Int.fdiv_eq_ediv_of_nonneg _ (Int.natCast_nonneg s)]; rfl
theorem FI (r s : Nat) : (r : Int).fmod (s : Int) = ((r % s : Nat) : Int) := by rw [Int.fmod_eq_emod_of_nonneg _ (Int.natCast_nonneg s)]; rfl
theorem ES (p q : Nat) : min (p : Int) (q : Int) = ((min p q : Nat) : Int) := by omega
theorem EB (p q : Nat) : max (p : Int) (q : Int) = ((max p q : Nat) : Int) := by omega
theorem sv (h : jR ds μ Qd) : iH { nx := fun _ μ' => Qd (.v .none) μ', rt := Qd } (aG ["_law_d", "_law_x", "_law_y"] ds) μ := by
  obtain ⟨d, x, y, rfl, hd, ox, oy, yn, bx, by_, q⟩ := h
  have s5 := nP hd.1 hd.2.1
  have ny := hd.norm oy yn
  unfold iH
  walk_at "rn"
  refine ⟨d, y, rfl, s5, ny, by_.mono (by decide), ?_⟩
  exact ⟨d, x, _, rfl, s5, ox, cf ny, bx.mono (by decide), (gL s5 ny by_).mono (by decide), q⟩
theorem kx (h : ma ds μ Qd) : dD { nx := fun _ μ' => Qd (.v .none) μ', rt := Qd } (aG ["shape", "skew"] ds) μ := by
  obtain ⟨x, rfl, q⟩ := h
  unfold dD
  walk_at "rn"
  unfold wo skw at q
  by_cases c : 0 < x.b
  · rw [if_pos (by simpa using c)]
    rw [if_pos c] at q
    exact q
  · rw [if_neg (by simpa using c)]
    rw [if_neg c] at q
    exact q
theorem sR (h : kb ds μ Qd) : i8 { nx := fun _ μ' => Qd (.v .none) μ', rt := Qd } (aG ["shape", "short", "rest", "counts"] ds) μ := by
  obtain ⟨p, q, cs, rfl, pb, qb, g, l, k⟩ := h
  unfold i8
  walk_at "rn"
  intro a ha
  rw [ES, EB, xc]
  refine ⟨fun m ρ μ' => ∃ (r s : Nat) (done rem : List Nat), ρ = [some (.v (dN ⟨p, 0, q⟩)), some (.v (.int (s : Nat))), some (.v (.int (r : Nat))), some (.m a)] ∧ m = s ∧ done ++ rem = cs ∧ Euc r s rem ∧ s < 2 ^ 222 ∧ eW μ μ' ∧ μ' a = some (ix done),
    ⟨_, _, _, [], cs, rfl, rfl, rfl, g, by omega, eW.refl.set ha, aD⟩, ?_⟩
  rintro m ρ μ' ⟨r, s, dn, rem, rfl, rfl, hc, g', hsb, sb, hm⟩
  walk_at "rn"
  cases g' with
  | nil =>
    rw [List.append_nil] at hc
    subst hc
    simp only [Int.natCast_zero, decide_true, Bool.xor_true, Bool.not_true, Bool.false_eq_true, ↓reduceIte]
    exact k a μ' ha sb hm
  | @cons _ _ rem hs g' =>
    have sn : (m : Int) ≠ 0 := by omega
    rw [if_pos (by simp; omega)]
    have hl : dn.length ≤ 900 := by have := congrArg List.length hc; simp at this; omega
    rw [hm]
    simp only [BO, FI]
    have dk : mj (r : Int) (m : Int) := rf sn (szN hsb) (by decide)
    refine ⟨dk, by unfold ix; rw [List.length_map]; omega, sn, _, Nat.mod_lt r hs, m, r % m, dn ++ [r / m], rem, rfl, rfl, by rw [← hc]; simp, g', Nat.lt_trans (Nat.mod_lt r hs) hsb, sb.set ha, ?_⟩
    rw [aD, uB]
    rfl
theorem A0 {d a : Int} (hd : aK d) (h : sg d a 0 = 1) : 0 < a := by
  rcases (cm hd).mp h with z | z | z
  · omega
  · omega
  · omega
theorem w4 {d : Int} {w h : N3} (s : fX d w h) (hb : (shp d w h).b = 0) : ∃ p q cs, uF d w h p q cs := by
  have s5 := nP s.rt.1 s.rt.2.1
  have nw := lx s.rt s.ow s.sw
  have oc := cf nw
  have os : Ok (shp d w h) := bP s.oh oc
  have bs : Bd 222 (shp d w h) := (fA s5 s.oh oc s.bh (gL s5 nw s.bw)).mono (by decide)
  have ss : sg d (shp d w h).a (shp d w h).b = 1 := by
    show sg d (times d h (aU d w)).a (times d h (aU d w)).b = 1
    rw [lB s.rt s.oh oc, s.sh, uf s.rt s.ow s.sw]; rfl
  rw [hb] at ss
  have ap := A0 s.rt ss
  have cp := os.c
  generalize hx : shp d w h = x at os bs hb ap cp
  obtain ⟨a, b, c⟩ := x
  simp only at hb ap cp
  subst hb
  obtain ⟨p, rfl⟩ : ∃ p : Nat, a = p := ⟨a.toNat, by omega⟩
  obtain ⟨q, rfl⟩ : ∃ q : Nat, c = q := ⟨c.toNat, by omega⟩
  have pb : p < 2 ^ 222 := by have := bs.a.lt; simpa using this
  have qb : q < 2 ^ 222 := by have := bs.c.lt; simpa using this
  have hm : max p q * min p q < 2 ^ 444 := by
    have e : max p q * min p q = p * q := by
      rcases Nat.le_total p q with z | z
      · rw [Nat.max_eq_right z, Nat.min_eq_left z, Nat.mul_comm]
      · rw [Nat.max_eq_left z, Nat.min_eq_right z]
    rw [e, show 2 ^ 444 = 2 ^ 222 * 2 ^ 222 by rw [← Nat.pow_add]]
    exact Nat.mul_lt_mul'' pb qb
  obtain ⟨cs, g, l⟩ := y8 444 (max p q) (min p q) (Nat.le_trans (Nat.min_le_left p q) (Nat.le_max_left p q)) hm
  exact ⟨p, q, cs, hx, by omega, by omega, pb, qb, g, by omega⟩
theorem pJ (h : kF ds μ Qd) : gb { nx := fun _ μ' => Qd (.v .none) μ', rt := Qd } (aG ["_law_d", "_law_width", "_law_height", "_law_shape", "_law_found", "_law_high", "_law_wide", "_law_less_side", "_law_more_side"] ds) μ := by
  obtain ⟨d, w, h, rfl, s, k1, k2⟩ := h
  unfold gb
  walk_at "rn"
  have wn : w ≠ aB := fun z => by have := s.sw; rw [z] at this; rw [show sg d aB.a aB.b = 0 from cQ.mpr ⟨rfl, rfl⟩] at this; cases this
  refine ⟨d, h, w, rfl, s.rt, s.oh, s.ow, wn, s.bh.mono (by decide), s.bw.mono (by decide), ?_⟩
  walk_at "rn"
  rw [show times d h (aU d w) = shp d w h from rfl]
  by_cases hb : (shp d w h).b = 0
  · rw [if_neg (by simp [hb])]
    intro a ha
    obtain ⟨p, q, cs, F⟩ := w4 s hb
    rw [F.e]
    walk_at "rn"
    rw [xc]
    refine ⟨fun m ρ μ' => ∃ (x y : Nat) (dn rem : List Nat) (r7 r8 : Option D), ρ = [some (.v (.int d)), some (.v (dN w)), some (.v (dN h)), some (.v (dN ⟨p, 0, q⟩)), some (.m a), some (.v (.int (x : Nat))), some (.v (.int (y : Nat))), r7, r8] ∧ m = rem.length ∧ dn ++ rem = cs ∧ Euc (max x y) (min x y) rem ∧ x < 2 ^ 222 ∧ y < 2 ^ 222 ∧ eW μ μ' ∧ μ' a = some (ix dn),
      ⟨_, p, q, [], cs, _, _, rfl, rfl, rfl, F.g, F.pb, F.qb, eW.refl.set ha, aD⟩, ?_⟩
    rintro m ρ μ' ⟨x, y, dn, rem, r7, r8, rfl, rfl, hc, g', xb, yb, sb, hm⟩
    walk_at "rn"
    refine ⟨eE (szN xb) (szN yb) (by decide), ?_⟩
    by_cases hz : 0 < (x : Int) * (y : Int)
    · rw [if_pos (by simpa using hz)]
      have x0 : 0 < x := Nat.pos_of_ne_zero fun z => by rw [z] at hz; simp at hz
      have y0 : 0 < y := Nat.pos_of_ne_zero fun z => by rw [z] at hz; simp at hz
      rw [ES, EB]
      obtain ⟨c, rem', rfl, rfl, g''⟩ : ∃ c rem', rem = c :: rem' ∧ c = max x y / min x y ∧ Euc (min x y) (max x y % min x y) rem' := by
        generalize hM : max x y = M at g'
        generalize hN : min x y = N at g'
        cases g' with
        | nil => omega
        | cons hs g' => exact ⟨_, _, rfl, rfl, g'⟩
      have hl : dn.length ≤ 450 := by have := congrArg List.length hc; have := F.l; simp at *; omega
      have mn : ((min x y : Nat) : Int) ≠ 0 := by omega
      have mb : min x y < 2 ^ 222 := by omega
      refine ⟨rf mn (szN mb) (by decide), ?_⟩
      rw [hm, BO]
      refine ⟨by unfold ix; rw [List.length_map]; omega, ?_⟩
      rw [aD]
      have hmem : aw μ' a (ix dn ++ [PyData.int ((max x y / min x y : Nat) : Int)]) a = some (ix (dn ++ [max x y / min x y])) := by rw [aD, uB]; rfl
      have hc' : dn ++ [max x y / min x y] ++ rem' = cs := by rw [← hc]; simp
      have em := Nat.div_add_mod (max x y) (min x y)
      by_cases hxy : x ≤ y
      · rw [if_pos (decide_eq_true (by omega))]
        dsimp only
        rw [xt]
        walk_at "rn"
        have e1 : max x y = y := by omega
        have e2 : min x y = x := by omega
        rw [e1, e2] at g'' hc' hmem em ⊢
        have ey : (y : Int) - (x : Int) * ((y / x : Nat) : Int) = ((y % x : Nat) : Int) := by rw [← Int.natCast_mul]; omega
        have lt := Nat.mod_lt y x0
        rw [ey]
        refine ⟨eE (szN xb) (szN (Nat.lt_of_le_of_lt (Nat.div_le_self y x) yb)) (by decide), _, Nat.lt_succ_self _, x, y % x, _, rem', _, _, rfl, rfl, hc', ?_, xb, by omega, sb.set ha, hmem⟩
        rw [Nat.max_eq_left (by omega), Nat.min_eq_right (by omega)]
        exact g''
      · rw [if_neg (by rw [decide_eq_true_eq]; omega)]
        dsimp only
        rw [xt]
        walk_at "rn"
        have e1 : max x y = x := by omega
        have e2 : min x y = y := by omega
        rw [e1, e2] at g'' hc' hmem em ⊢
        have ex : (x : Int) - (y : Int) * ((x / y : Nat) : Int) = ((x % y : Nat) : Int) := by rw [← Int.natCast_mul]; omega
        have lt := Nat.mod_lt x y0
        rw [ex]
        refine ⟨eE (szN yb) (szN (Nat.lt_of_le_of_lt (Nat.div_le_self x y) xb)) (by decide), _, Nat.lt_succ_self _, x % y, y, _, rem', _, _, rfl, rfl, hc', ?_, by omega, yb, sb.set ha, hmem⟩
        rw [Nat.max_eq_right (by omega), Nat.min_eq_left (by omega)]
        exact g''
    · rw [if_neg (by simpa using hz)]
      have z : min x y = 0 := by
        rcases Nat.eq_zero_or_pos x with q | q
        · omega
        · rcases Nat.eq_zero_or_pos y with q' | q'
          · omega
          · exact absurd (Int.mul_pos (by omega) (by omega)) hz
      rw [z] at g'
      generalize max x y = M at g'
      cases g' with
      | cons hs _ => exact absurd hs (by decide)
      | nil =>
        rw [List.append_nil] at hc
        subst hc
        exact k2 p q dn F a μ' ha sb hm
  · rw [if_pos (by simp [hb])]
    exact k1 hb
end
open PySem PySem.Spec PyProof.Rows NM
def mm : DSp := fun ds μ Q => ∃ (d : Int) (w h : N3), ds = [.v (.int d), .v (dN w), .v (dN h)] ∧ fX d w h ∧ ((shp d w h).b ≠ 0 → Q (.v (.tuple [.str "bar", wo (shp d w h)])) μ) ∧ (∀ p q cs, uF d w h p q cs → ∀ a μ', μ a = none → eW μ μ' → μ' a = some (ix cs) → Q (.q (QP (.str "squares") a)) μ')
theorem ua {ds : List D} {μ : Mu} {Q : DK} (h : mm ds μ Q) : ds.length = 3 := by obtain ⟨_, _, _, rfl, _⟩ := h; rfl
def Bv : DSp := fun ds μ Q => ∃ (d : Int) (w h : N3), ds = [.v (.int d), .v (dN w), .v (dN h)] ∧ fX d w h ∧ ((shp d w h).b ≠ 0 → Q (.v (.tuple [.str "bar", wo (shp d w h)])) μ) ∧ (∀ p q cs, uF d w h p q cs → Q (.v (.tuple [.str "squares", .list (ix cs)])) μ)
def k6 : DSp := fun ds μ Q => mm ds μ Q ∨ Bv ds μ Q
theorem oX {ds : List D} {μ : Mu} {Qd : DK} (h : k6 ds μ Qd) : mm ds μ Qd ∨ mm ds μ (Fg μ Qd) := by
  rcases h with h | h
  · exact .inl h
  · obtain ⟨d, w, h, rfl, s, k1, k2⟩ := h
    exact .inr ⟨d, w, h, rfl, s, fun z => ⟨eW.refl, k1 z⟩, fun p q cs f a μ' n s e => ⟨_, a, _, rfl, ⟨n, s⟩, e, k2 p q cs f⟩⟩
def lI : DSp := fun ds μ Q => ∃ (d e : Int), ds = [.v (.int d), .v (wtD e), .v (dN one)] ∧ aK d ∧ (e = 1 ∨ e = -1) ∧ Q (.v (.bool true)) μ
theorem rX {ds : List D} {μ : Mu} {Q : DK} (h : lI ds μ Q) : ds.length = 3 := by obtain ⟨_, _, rfl, _⟩ := h; rfl
def kZ : DSp := fun ds μ Q => ∃ (d e : Int) (x : N3), ds = [.v (.int d), .v (wtD e), .v (dN one), .v (dN x)] ∧ aK d ∧ (e = 1 ∨ e = -1) ∧ 0 < e * x.b ∧ Ok x ∧ Bd 222 x ∧ ∀ y, Bd 4300 y → sg d y.a y.b = -1 → Q (.v (dN y)) μ
theorem rC {ds : List D} {μ : Mu} {Q : DK} (h : kZ ds μ Q) : ds.length = 4 := by obtain ⟨_, _, _, rfl, _⟩ := h; rfl
def md : DSp := fun ds μ Q => ∃ (d : Int) (x : N3), ds = [.v (.int d), .v (.tuple [dN one]), .v (dN x), .v (wo x)] ∧ aK d ∧ Ok x ∧ Bd 222 x ∧ x.b ≠ 0 ∧ Q (.v (.bool true)) μ
theorem sF {ds : List D} {μ : Mu} {Q : DK} (h : md ds μ Q) : ds.length = 4 := by obtain ⟨_, _, rfl, _⟩ := h; rfl
def gP : DTS :=
  (aE (lV (ao fu (ab (af 0) (ab (af 1) ak))))
  (aE (lV (ao fu (ab (af 0) (ab (af 2) ak))))
  (aE (bA (ao jR (ab (af 0) (ab (af 2) (ab (af 1) ak)))) (av 3))
  (aE (cR (dB (dOp (cS true) (dOp ax (af 3) (dC (.int 1))) (dC (.int 0)))) (bg (cK (ab (dC (.str "bar")) (ab (ao ma (ab (af 3) ak)) ak)))) bB)
  (bg (zA (ab (dC (.str "squares")) (ab (ao kb (ab (af 3) ak)) ak))))))))
def cB : DTS :=
  (aE (bA (af 1) (kn 4 (ck (av 3) (ck (av 4) (ck (av 5) (ck (av 6) ml))))))
  (aE (lX 7 8 (ab (ao bc (ab (af 0) (ab (af 3) (ab (af 2) ak)))) (ab (ao bc (ab (af 0) (ab (af 6) (ab (ao jY (ab (af 2) ak)) ak)))) ak)))
  (aE (bA (ao g5 (ab (ao bc (ab (af 0) (ab (af 4) (ab (ao jY (ab (af 2) ak)) ak)))) (ab (ao bc (ab (af 0) (ab (af 5) (ab (af 2) ak)))) ak))) (av 9))
  (aE (cR (kD (dB (dOp rLt (ao fB (ab (af 0) (ab (af 7) ak))) (dC (.int 0)))) (dB (dOp rLt (ao fB (ab (af 0) (ab (af 8) ak))) (dC (.int 0))))) (bg (dC (.bool false))) bB)
  (aE (bA (ao bc (ab (af 0) (ab (cK (ab (dC (.int 4)) (ab (dC (.int 0)) (ab (dC (.int 1)) ak)))) (ab (ao bc (ab (af 0) (ab (af 7) (ab (af 8) ak)))) ak)))) (av 10))
  (bg (wD (ao oi (ab (af 0) (ab (af 10) (ab (ao bc (ab (af 0) (ab (af 9) (ab (af 9) ak)))) ak)))))))))))
def gQ : DTS :=
  (aE (bA (af 1) (kn 4 (ck (av 4) (ck (av 5) (ck (av 6) (ck (av 7) ml))))))
  (aE (bA (ao g5 (ab (ao bc (ab (af 0) (ab (af 4) (ab (af 3) ak)))) (ab (ao bc (ab (af 0) (ab (af 5) (ab (ao jY (ab (af 3) ak)) ak)))) ak))) (av 8))
  (aE (bA (ao g5 (ab (ao bc (ab (af 0) (ab (af 6) (ab (af 3) ak)))) (ab (ao bc (ab (af 0) (ab (af 7) (ab (ao jY (ab (af 3) ak)) ak)))) ak))) (av 9))
  (bg (ao g5 (ab (ao bc (ab (af 0) (ab (af 2) (ab (af 8) ak)))) (ab (ao bc (ab (af 0) (ab (ao jY (ab (af 2) ak)) (ab (af 9) ak)))) ak)))))))
def fY : DTS :=
  (aE (cR (kD (eM (dB (uI "tuple" (af 3)))) (kD (dB (dOp (cS true) (dCB gr (ab (af 3) ak)) (dC (.int 2)))) (eM (dB (ao jq (ab (dOp ax (af 3) (dC (.int 0))) ak)))))) (bg (dC (.bool false))) bB)
  (aE (cR (kD (dB (dOp rLe (ao fB (ab (af 0) (ab (dOp ax (af 3) (dC (.int 0))) ak))) (dC (.int 0)))) (kD (eM (dB (uI "tuple" (dOp ax (af 3) (dC (.int 1)))))) (dB (dOp (cS true) (dCB gr (ab (dOp ax (af 3) (dC (.int 1))) ak)) (dC (.int 4)))))) (bg (dC (.bool false))) bB)
  (aE (cR (eM (dB (dCB nr (ab (oO [none] (tY (dOp ax (af 3) (dC (.int 1)))) (av 0) qX (ao jq (ab (af 0) ak))) ak)))) (bg (dC (.bool false))) bB)
  (aE (ya (tY (af 1)) (av 4) (ya (sG (kv (ab (af 4) (ab (ao cT (ab (af 0) (ab (af 4) ak))) ak)))) (av 5) (cR (eM (dB (ao lI (ab (af 0) (ab (dOp ax (af 3) (dC (.int 1))) (ab (af 5) ak)))))) (bg (dC (.bool false))) bB)))
  (bg (dOp rLt (ao fB (ab (af 0) (ab (ao kZ (ab (af 0) (ab (dOp ax (af 3) (dC (.int 1))) (ab (dOp ax (af 3) (dC (.int 0))) (ab (ao bc (ab (af 0) (ab (af 2) (ab (dOp ax (af 3) (dC (.int 0))) ak)))) ak))))) ak))) (dC (.int 0))))))))
section
variable {μ : Mu} {Qd : DK} {ds : List D}
theorem qe (h : mm ds μ Qd) : gP { nx := fun _ μ' => Qd (.v .none) μ', rt := Qd } (aG ["d", "width", "height", "shape"] ds) μ := by
  obtain ⟨d, w, h, rfl, s, k1, k2⟩ := h
  unfold gP
  walk_at "rn"
  have wn : w ≠ aB := fun z => by have := s.sw; rw [z] at this; rw [show sg d aB.a aB.b = 0 from cQ.mpr ⟨rfl, rfl⟩] at this; cases this
  refine ⟨d, w, rfl, s.rt, s.ow, s.bw.mono (by decide), s.sw, ?_⟩
  refine ⟨d, h, rfl, s.rt, s.oh, s.bh.mono (by decide), s.sh, ?_⟩
  refine ⟨d, h, w, rfl, s.rt, s.oh, s.ow, wn, s.bh.mono (by decide), s.bw.mono (by decide), ?_⟩
  walk_at "rn"
  rw [show times d h (aU d w) = shp d w h from rfl]
  by_cases hb : (shp d w h).b = 0
  · rw [if_neg (by simp [hb])]
    obtain ⟨p, q, cs, F⟩ := w4 s hb
    rw [F.e]
    simp only [↓DF, ↓wk, ↓yK, ↓q_c, ↓vy, ↓wa]
    refine ⟨p, q, cs, rfl, F.pb, F.qb, F.g, by have := F.l; omega, fun a μ' n sb e => ?_⟩
    exact k2 p q cs F a μ' n sb e
  · rw [if_pos (by simp [hb])]
    exact ⟨_, rfl, k1 hb⟩
theorem bd1 {e : Int} (he : e = 1 ∨ e = -1) : Bd 1 ⟨e, 0, 1⟩ := ⟨Sz.of (by show e.natAbs < 2; omega), Sz.of (by show (0 : Int).natAbs < 2; decide), Sz.of (by show (1 : Int).natAbs < 2; decide)⟩
theorem iL (h : lI ds μ Qd) : cB { nx := fun _ μ' => Qd (.v .none) μ', rt := Qd } (aG ["_law_d", "_law_weights", "_law_kind", "_law_p", "_law_q", "_law_s", "_law_t", "_law_first", "_law_last", "_law_middle", "_law_four"] ds) μ := by
  obtain ⟨d, e, rfl, hd, he, q⟩ := h
  have s5 := nP hd.1 hd.2.1
  have he' : -e = 1 ∨ -e = -1 := by omega
  have b1 : Bd 1 one := ⟨Sz.of (by decide), Sz.of (by decide), Sz.of (by decide)⟩
  have b0 : Bd 1 aB := ⟨Sz.of (by decide), Sz.of (by decide), Sz.of (by decide)⟩
  have be := bd1 he
  have bn := bd1 he'
  have oe := ui e
  have on := ui (-e)
  have em : gw one = one := rfl
  have ep : plus ⟨e, 0, 1⟩ ⟨-e, 0, 1⟩ = aB := Rep.eq (lR oe on) aX ((aF oe).plus oe on (aF on)) (aF aX) (by show (e * 1 + -e * 1) * 1 = 0 * (1 * 1); omega) (by show ((0 : Int) * 1 + 0 * 1) * 1 = 0 * (1 * 1); omega)
  have b4 : Bd 3 ⟨4, 0, 1⟩ := ⟨Sz.of (by show (4 : Int).natAbs < 8; decide), Sz.of (by show (0 : Int).natAbs < 8; decide), Sz.of (by show (1 : Int).natAbs < 8; decide)⟩
  unfold cB wtD
  walk_at "rn"
  refine ⟨trivial, d, aB, one, rfl, s5, aX, cM, b0.mono (by decide), b1.mono (by decide), one, rfl, ?_⟩
  rw [em, x8 cM]
  refine ⟨d, aB, one, rfl, s5, aX, cM, b0.mono (by decide), b1.mono (by decide), ?_⟩
  rw [x8 cM]
  walk_at "rn"
  refine ⟨one, rfl, ?_⟩
  rw [em]
  refine ⟨d, _, one, rfl, s5, oe, cM, be.mono (by decide), b1.mono (by decide), ?_⟩
  rw [yN oe]
  refine ⟨d, _, one, rfl, s5, on, cM, bn.mono (by decide), b1.mono (by decide), ?_⟩
  rw [yN on]
  refine ⟨_, _, rfl, oe, on, be.mono (by decide), bn.mono (by decide), ?_⟩
  rw [ep]
  walk_at "rn"
  have z0 : sg d aB.a aB.b = 0 := cQ.mpr ⟨rfl, rfl⟩
  refine ⟨d, aB, rfl, hd, b0.mono (by decide), ?_⟩
  rw [z0]
  walk_at "rn"
  rw [show decide ((0 : Int) < 0) = false from rfl]
  walk_at "rn"
  refine ⟨d, aB, rfl, hd, b0.mono (by decide), ?_⟩
  rw [z0]
  walk_at "rn"
  rw [show decide ((0 : Int) < 0) = false from rfl]
  walk_at "rn"
  refine ⟨d, aB, aB, rfl, s5, aX, aX, b0.mono (by decide), b0.mono (by decide), ?_⟩
  rw [x8 aX]
  refine ⟨d, _, aB, rfl, s5, ui 4, aX, b4.mono (by decide), b0.mono (by decide), ?_⟩
  rw [Gj (ui 4)]
  walk_at "rn"
  refine ⟨d, aB, aB, rfl, s5, aX, aX, b0.mono (by decide), b0.mono (by decide), ?_⟩
  rw [x8 aX]
  refine ⟨d, aB, aB, rfl, hd, aX, aX, b0.mono (by decide), b0.mono (by decide), ?_⟩
  rw [Al]
  walk_at "rn"
  exact q
theorem qH (h : kZ ds μ Qd) : gQ { nx := fun _ μ' => Qd (.v .none) μ', rt := Qd } (aG ["_law_d", "_law_weights", "_law_width", "_law_height", "_law_p", "_law_q", "_law_s", "_law_t", "_law_first", "_law_second"] ds) μ := by
  obtain ⟨d, e, x, rfl, hd, he, hp, ox, bx, q⟩ := h
  have s5 := nP hd.1 hd.2.1
  have he' : -e = 1 ∨ -e = -1 := by omega
  have b1 : Bd 1 one := ⟨Sz.of (by decide), Sz.of (by decide), Sz.of (by decide)⟩
  have b0 : Bd 1 aB := ⟨Sz.of (by decide), Sz.of (by decide), Sz.of (by decide)⟩
  have be := bd1 he
  have bn := bd1 he'
  have oe := ui e
  have on := ui (-e)
  have om := Bl ox
  have bm := A1 bx
  have em : gw one = one := rfl
  have o1 := bP (d := d) oe om
  have o2 := bP (d := d) on ox
  have B1 := fA s5 oe om be bm
  have B2 := fA s5 on ox bn bx
  unfold gQ wtD
  walk_at "rn"
  refine ⟨trivial, d, aB, x, rfl, s5, aX, ox, b0.mono (by decide), bx.mono (by decide), ?_⟩
  rw [x8 ox]
  refine ⟨x, rfl, d, _, gw x, rfl, s5, oe, om, be.mono (by decide), bm.mono (by decide), ?_⟩
  refine ⟨aB, _, rfl, aX, o1, b0.mono (by decide), B1.mono (by decide), ?_⟩
  rw [FZ o1]
  walk_at "rn"
  refine ⟨d, _, x, rfl, s5, on, ox, bn.mono (by decide), bx.mono (by decide), ?_⟩
  refine ⟨x, rfl, d, aB, gw x, rfl, s5, aX, om, b0.mono (by decide), bm.mono (by decide), ?_⟩
  rw [x8 om]
  refine ⟨_, aB, rfl, o2, aX, B2.mono (by decide), b0.mono (by decide), ?_⟩
  rw [Ge o2]
  walk_at "rn"
  refine ⟨d, one, _, rfl, s5, cM, o1, b1.mono (by decide), B1.mono (by decide), ?_⟩
  rw [Df o1]
  refine ⟨one, rfl, d, gw one, _, rfl, s5, cM, o2, b1.mono (by decide), B2.mono (by decide), ?_⟩
  rw [em, Df o2]
  refine ⟨_, _, rfl, o1, o2, B1.mono (by decide), B2.mono (by decide), ?_⟩
  refine q _ ((og o1 o2 B1 B2).mono (by decide)) ?_
  have r := ((aF oe).times (d := d) oe om (aF om)).plus o1 o2 ((aF on).times (d := d) on ox (aF ox))
  have cp := ox.c
  have hC : 0 < (1 * (gw x).c) * (1 * x.c) := by show 0 < (1 * x.c) * (1 * x.c); rw [Int.one_mul]; exact Int.mul_pos cp cp
  rw [Rep.sg hd (lR o1 o2) r hC]
  have eA : (e * (gw x).a + d * 0 * (gw x).b) * (1 * x.c) + (-e * x.a + d * 0 * x.b) * (1 * (gw x).c) = 0 := by
    show (e * x.a + d * 0 * -x.b) * (1 * x.c) + (-e * x.a + d * 0 * x.b) * (1 * x.c) = 0
    grind
  have eB : (e * (gw x).b + 0 * (gw x).a) * (1 * x.c) + (-e * x.b + 0 * x.a) * (1 * (gw x).c) = -(2 * (e * x.b) * x.c) := by
    show (e * -x.b + 0 * x.a) * (1 * x.c) + (-e * x.b + 0 * x.a) * (1 * x.c) = -(2 * (e * x.b) * x.c)
    grind
  rw [eA, eB, AO]
  have : 0 < 2 * (e * x.b) * x.c := Int.mul_pos (by omega) cp
  rw [if_neg (by omega), if_neg (by omega)]
theorem D0 (x : N3) : skw x = 1 ∨ skw x = -1 := by unfold skw; split <;> omega
theorem AY {x : N3} (h : x.b ≠ 0) : 0 < skw x * x.b := by unfold skw; split <;> omega
theorem oE (h : md ds μ Qd) : fY { nx := fun _ μ' => Qd (.v .none) μ', rt := Qd } (aG ["_law_d", "_law_kinds", "_law_shape", "_law_thing", "_law_kind", "_law_way"] ds) μ := by
  obtain ⟨d, x, rfl, hd, ox, bx, hx, q⟩ := h
  have s5 := nP hd.1 hd.2.1
  have pm := D0 x
  have sp := AY hx
  generalize hk : skw x = e at pm sp
  have b1 : Bd 1 one := ⟨Sz.of (by decide), Sz.of (by decide), Sz.of (by decide)⟩
  have n1 : norm d one ≠ 0 := lx hd cM sH
  have ec : aU d one = one := Rep.eq (cf n1) cM ((aF cM).aU cM n1) (aF cM) (by show (1 * 1) * 1 = 1 * (1 * 1 - d * 0 * 0); simp) (by show (-1 * 0) * 1 = 0 * (1 * 1 - d * 0 * 0); simp)
  unfold fY wo
  rw [hk]
  have e1 : isT "tuple" (.tuple [dN one, wtD e]) = true := rfl
  have e2 : isT "tuple" (wtD e) = true := rfl
  walk_at "rn"
  rw [e1]
  walk_at "rn"
  refine ⟨_, rfl, yZ, ?_⟩
  rw [ou cM]
  walk_at "rn"
  refine ⟨d, one, rfl, hd, b1.mono (by decide), ?_⟩
  rw [show sg d one.a one.b = 1 from sH]
  walk_at "rn"
  rw [show decide ((1 : Int) ≤ 0) = false from rfl]
  walk_at "rn"
  rw [e2]
  unfold wtD
  walk_at "rn"
  rw [if_neg (by simp)]
  refine ⟨by decide, fun _ => some (.bool true), fun y hy μ' _ => ⟨trivial, ?_⟩, ?_⟩
  · obtain ⟨z, rfl, oz⟩ : ∃ z : N3, y = dN z ∧ Ok z := by
      simp only [List.mem_cons, List.not_mem_nil, or_false] at hy
      rcases hy with rfl | rfl | rfl | rfl
      · exact ⟨_, rfl, aX⟩
      · exact ⟨_, rfl, ui e⟩
      · exact ⟨_, rfl, ui (-e)⟩
      · exact ⟨_, rfl, aX⟩
    exact ⟨_, rfl, yZ, rfl, by rw [ou oz]⟩
  rw [show cu (List.filterMap (fun _ => some (PyData.bool true)) [dN aB, dN ⟨e, 0, 1⟩, dN ⟨-e, 0, 1⟩, dN aB]) = some [true, true, true, true] from rfl]
  dsimp only
  rw [if_neg (by decide)]
  rw [wO]
  walk_at "rn"
  refine ⟨fun i ρ μ' => ∃ r4 r5 : Option D, ρ = [some (.v (.int d)), some (.v (.tuple [dN one])), some (.v (dN x)), some (.v (.tuple [dN one, wtD e])), r4, r5] ∧ μ' = μ, ⟨_, _, rfl, rfl⟩, ?_, ?_⟩
  · rintro i y ρ μ' hy ⟨r4, r5, rfl, rfl⟩
    obtain rfl : y = dN one := by
      have := List.mem_of_getElem? hy
      simpa using this
    walk_at "rn"
    rw [wO]
    walk_at "rn"
    refine ⟨d, one, rfl, s5, n1, b1.mono (by decide), ?_⟩
    rw [ec]
    walk_at "rn"
    refine ⟨fun i ρ μ'' => ∃ r5 : Option D, ρ = [some (.v (.int d)), some (.v (.tuple [dN one])), some (.v (dN x)), some (.v (.tuple [dN one, wtD e])), some (.v (dN one)), r5] ∧ μ'' = μ', ⟨_, rfl, rfl⟩, ?_, ?_⟩
    · rintro j z ρ μ2 hz ⟨r5, rfl, rfl⟩
      obtain rfl : z = dN one := by
        have := List.mem_of_getElem? hz
        simpa using this
      walk_at "rn"
      refine ⟨d, e, rfl, hd, pm, ?_⟩
      walk_at "rn"
      exact ⟨_, rfl, trivial⟩
    · rintro ρ μ2 ⟨r5, rfl, rfl⟩
      exact ⟨_, _, rfl, rfl⟩
  · rintro ρ μ' ⟨r4, r5, rfl, rfl⟩
    walk_at "rn"
    refine ⟨d, x, one, rfl, s5, ox, cM, bx.mono (by decide), b1.mono (by decide), ?_⟩
    rw [yN ox]
    refine ⟨d, e, x, rfl, hd, pm, sp, ox, bx, fun y by_ sy => ?_⟩
    refine ⟨d, y, rfl, hd, by_.mono (by decide), ?_⟩
    rw [sy]
    walk_at "rn"
    exact q
end
open PySem PySem.Spec PyProof.Rows NM
def j7 : DSp := fun ds μ Q => ∃ (a : Addr) (d : Int), ds = [.m a, .v (.int d)] ∧ aK d ∧ Bag μ a ∧ ∀ w h μ', fX d w h → Bd 53 w → Bd 53 h → Step a μ μ' → Q (.v (.tuple [dN w, dN h])) μ'
theorem qs {ds : List D} {μ : Mu} {Q : DK} (h : j7 ds μ Q) : ds.length = 2 := by obtain ⟨_, _, rfl, _⟩ := h; rfl
def mB : DSp := fun ds μ Q => ∃ (d : Int) (w h : N3), ds = [.v (.int d), .v (dN w), .v (dN h)] ∧ fX d w h ∧ ∀ μ', eW μ μ' → Q (.v (.bool true)) μ'
theorem qC {ds : List D} {μ : Mu} {Q : DK} (h : mB ds μ Q) : ds.length = 3 := by obtain ⟨_, _, _, rfl, _⟩ := h; rfl
def oQ : DSp := fun ds μ Q => ∃ (d : Int) (w h : N3), ds = [.v (.int d), .v (dN w), .v (dN h)] ∧ fX d w h ∧ Q (.v (.bool true)) μ
theorem mS {ds : List D} {μ : Mu} {Qd : DK} (h : oQ ds μ Qd) : mB ds μ (frz μ Qd) := by
  obtain ⟨d, w, h, rfl, s, k⟩ := h
  exact ⟨d, w, h, rfl, s, fun μ' sb => ⟨sb, k⟩⟩
structure Sh (t : PyData) : Prop where
  lay : t.canLay0 = true
  dep : t.depth ≤ 60
theorem Sh.shaped {t : PyData} (h : Sh t) : SeqAt.shaped t = true := by
  unfold SeqAt.shaped
  rw [h.lay, Bool.true_and, decide_eq_true_eq]
  have := h.dep; omega
structure Lt (n : Nat) (t : PyData) : Prop where
  lay : t.canLay0 = true
  dep : t.depth ≤ n
theorem Lt.sh {n : Nat} {t : PyData} (h : Lt n t) (hn : n ≤ 60) : Sh t := ⟨h.lay, Nat.le_trans h.dep hn⟩
theorem xf {xs : List PyData} (h : ∀ x ∈ xs, x.canLay0 = true) : PyData.canLayAll0 xs = true := by
  induction xs with
  | nil => rfl
  | cons x r ih => rw [PyData.canLayAll0, h x (by simp), ih (fun y hy => h y (by simp [hy]))]; rfl
theorem qN {xs : List PyData} {n : Nat} (h : ∀ x ∈ xs, x.depth ≤ n) : PyData.depthAll xs ≤ n := by
  induction xs with
  | nil => exact Nat.zero_le _
  | cons x r ih =>
    rw [PyData.depthAll]
    have h1 := h x (by simp)
    have h2 := ih (fun y hy => h y (by simp [hy]))
    omega
theorem Di {xs : List PyData} {n : Nat} (h : ∀ x ∈ xs, Lt n x) : Lt (n + 1) (.tuple xs) :=
  ⟨by rw [PyData.canLay0]; exact xf fun x hx => (h x hx).lay, by rw [PyData.depth]; have := qN (n := n) fun x hx => (h x hx).dep; omega⟩
theorem yW {xs : List PyData} {n : Nat} (h : ∀ x ∈ xs, Lt n x) : Lt (n + 1) (.list xs) :=
  ⟨by rw [PyData.canLay0]; exact xf fun x hx => (h x hx).lay, by rw [PyData.depth]; have := qN (n := n) fun x hx => (h x hx).dep; omega⟩
theorem lt_int {n : Nat} {i : Int} : Lt n (.int i) := ⟨rfl, Nat.zero_le _⟩
def dq : DTS :=
  (aE (bA (ao cj (ab (af 0) (ab (dC (.int 8)) ak))) (av 2))
  (aE (bA (ao jT (ab (af 0) (ab (af 1) ak))) (av 3))
  (aE (cR (dB (dOp (cS false) (af 2) (dC (.int 0)))) (bg (cK (ab (af 3) (ab (ao jT (ab (af 0) (ab (af 1) ak))) ak)))) bB)
  (aE (cR (dB (dOp (cS false) (af 2) (dC (.int 1)))) (bg (cK (ab (af 3) (ab (ao g5 (ab (af 3) (ab (cK (ab (dC (.int 1)) (ab (dC (.int 0)) (ab (gO (dC (.int 1)) (ao cj (ab (af 0) (ab (dC (.int 9)) ak)))) ak)))) ak))) ak)))) bB)
  (aE (lX 4 5 (ab (gO (dC (.int 1)) (ao cj (ab (af 0) (ab (dC (.int 12)) ak)))) (ab (gO (dC (.int 1)) (ao cj (ab (af 0) (ab (dC (.int 12)) ak)))) ak)))
  (aE (cR (dB (dOp (cS false) (af 2) (dC (.int 2)))) (lX 4 5 (ab (gO (dC (.int 1)) (ao cj (ab (af 0) (ab (dC (.int 999999)) ak)))) (ab (gO (dC (.int 1)) (ao cj (ab (af 0) (ab (dC (.int 999999)) ak)))) ak))) bB)
  (aE (cR (dB (dOp (cS false) (af 2) (dC (.int 3)))) (aE (bA (cK (ab (dC (.int 1)) (ab (dC (.int 1)) ak))) (kn 2 (ck (av 4) (ck (av 5) ml))))
  (ya (rV (ab (ao cj (ab (af 0) (ab (dC (.int 26)) ak))) ak)) (av 6) (lX 4 5 (ab (af 5) (ab (gO (af 4) (af 5)) ak))))) bB)
  (aE (cR (dB (dOp (cS false) (af 2) (dC (.int 4)))) (bA (dOp ax (kv (ab (cK (ab (dC (.int 1)) (ab (dC (.int 60)) ak))) (ab (cK (ab (dC (.int 60)) (ab (dC (.int 1)) ak))) (ab (cK (ab (dC (.int 1)) (ab (dC (.int 61)) ak))) (ab (cK (ab (dC (.int 61)) (ab (dC (.int 1)) ak))) (ab (cK (ab (dC (.int 59)) (ab (dC (.int 58)) ak))) (ab (cK (ab (dC (.int 2)) (ab (dC (.int 59)) ak))) ak))))))) (ao cj (ab (af 0) (ab (dC (.int 6)) ak)))) (kn 2 (ck (av 4) (ck (av 5) ml)))) bB)
  (bg (cK (ab (af 3) (ab (ao bc (ab (af 1) (ab (af 3) (ab (ao bY (ab (af 4) (ab (dC (.int 0)) (ab (af 5) ak)))) ak)))) ak))))))))))))
def fI : DTS :=
  (aE (bA (ao ni (ab (af 0) (ab (af 1) (ab (af 2) ak)))) (av 3))
  (aE (bA (ao k6 (ab (af 0) (ab (af 1) (ab (af 2) ak)))) (av 4))
  (aE (cR (kD (eM (dB (w9 "tuple" (af 4)))) (dB (dOp (sN true) (dCB pk (ab (af 4) ak)) (dC (.int 2))))) (bg (dC (.bool false))) bB)
  (aE (cR (dB (dOp uH (af 3) (dC .none))) (bg (oJ (dOp (sN false) (dOp kz (af 4) (dC (.int 0))) (dC (.str "bar"))) (ao md (ab (af 0) (ab (cK (ab (cK (ab (dC (.int 1)) (ab (dC (.int 0)) (ab (dC (.int 1)) ak)))) ak)) (ab (ao jR (ab (af 0) (ab (af 2) (ab (af 1) ak)))) (ab (dOp kz (af 4) (dC (.int 1))) ak))))))) bB)
  (aE (cR (kD (dB (dOp (sN true) (dOp kz (af 4) (dC (.int 0))) (dC (.str "squares")))) (kD (eM (dB (w9 "list" (dOp kz (af 4) (dC (.int 1)))))) (dB (dOp (sN true) (dOp kz (af 4) (dC (.int 1))) (af 3))))) (bg (dC (.bool false))) bB)
  (aE (cR (eM (dB (dCB nr (ab (oO [none] (diM (dOp kz (af 4) (dC (.int 1)))) (av 0) qX (ao fh (ab (af 0) ak))) ak)))) (bg (dC (.bool false))) bB)
  (aE (lV (yh (dOp kz (af 4) (dC (.int 1))) (dC (.int 1))))
  (aE (lV (zx (dOp kz (af 4) (dC (.int 1)))))
  (bg (dOp (sN false) (ao k6 (ab (af 0) (ab (af 1) (ab (af 2) ak)))) (cK (ab (dC (.str "squares")) (ab (af 3) ak)))))))))))))
def vS : DTS :=
  (aE (ya (rV (ab (dCB (pD max) (ab (dC (.int 2)) (ab (dCB (pD min) (ab (dC (.int 6)) (ab (dCB gr (ab (af 0) ak)) ak))) ak))) ak)) (av 1) (aE (bA (ao xl (ab (af 0) (ab (af 1) ak))) (av 2))
  (aE (bA (ao n4 (ab (af 2) ak)) (av 3))
  (aE (bA (ao j7 (ab (af 2) (ab (af 3) ak))) (kn 2 (ck (av 4) (ck (av 5) ml))))
  (aE (bA (dOp ax (kv (ab (cK (ab (dC (.int 2)) (ab (dC (.int 0)) (ab (dC (.int 3)) ak)))) (ab (cK (ab (dC (.int 1)) (ab (dC (.int 1)) (ab (dC (.int 1)) ak)))) (ab (cK (ab (dC (.int 7)) (ab (dC (.int 0)) (ab (dC (.int 1)) ak)))) ak)))) (ao cj (ab (af 2) (ab (dC (.int 3)) ak)))) (av 6))
  (aE (bA (q9 (ab (cK (ab (af 4) (ab (af 5) ak))) (ab (cK (ab (af 5) (ab (af 4) ak))) (ab (cK (ab (af 4) (ab (af 4) ak))) ak)))) (av 7))
  (aE (lV (yh (af 7) (cK (ab (ao bc (ab (af 3) (ab (af 4) (ab (af 6) ak)))) (ab (ao bc (ab (af 3) (ab (af 5) (ab (af 6) ak)))) ak)))))
  (cR (eM (dB (dCB nr (ab (oO [none, none, some 3] (sG (dOp nC (af 7) (dSl (af 7) rp (Aa (dC (.int 1)))))) (kn 2 (ck (av 0) (ck (av 1) ml))) qX (ao oQ (ab (af 2) (ab (af 0) (ab (af 1) ak))))) ak)))) (bg (dC (.bool false))) bB))))))))
  (bg (dOp (cS false) (ao k6 (ab (dC (.int 2)) (ab (cK (ab (dC (.int 1)) (ab (dC (.int 0)) (ab (dC (.int 1)) ak)))) (ab (cK (ab (dC (.int 3)) (ab (dC (.int 0)) (ab (dC (.int 2)) ak)))) ak)))) (cK (ab (dC (.str "squares")) (ab (kv (ab (dC (.int 1)) (ab (dC (.int 2)) ak))) ak))))))
section
variable {μ : Mu} {Qd : DK} {ds : List D} {ρ : Rho}
theorem yd {d : Int} {w : N3} {p q : Int} (hd : aK d) (ow : Ok w) (bw : Bd 20 w) (sw : sg d w.a w.b = 1) (p0 : 0 < p) (q0 : 0 < q) (pb : p < 2 ^ 27) (qb : q < 2 ^ 27) : Ok (low p 0 q) ∧ Bd 27 (low p 0 q) ∧ fX d w (times d w (low p 0 q)) ∧ Bd 53 (times d w (low p 0 q)) := by
  have s5 := nP hd.1 hd.2.1
  have qn : q ≠ 0 := by omega
  have ol := mY p 0 qn
  have bl : Bd 27 (low p 0 q) := o6 qn (Sz.of (by show p.natAbs < 134217728; omega)) sz0 (Sz.of (by show q.natAbs < 134217728; omega))
  have sl : sg d (low p 0 q).a (low p 0 q).b = 1 := by
    rw [Aj hd q0]
    exact (cm hd).mpr (.inl ⟨by omega, by omega, by omega⟩)
  exact ⟨ol, bl, ⟨hd, ow, bP ow ol, bw.mono (by decide), (fA s5 ow ol bw bl).mono (by decide), sw, by rw [lB hd ow ol, sw, sl]; rfl⟩, fA s5 ow ol bw bl⟩
theorem kd (h : j7 ds μ Qd) : dq { nx := fun _ μ' => Qd (.v .none) μ', rt := Qd } (aG ["_law_bag_here", "_law_d", "_law_way", "_law_width", "_law_p", "_law_q", "_law_turn"] ds) μ := by
  obtain ⟨a, d, rfl, hd, hb, q⟩ := h
  have s5 := nP hd.1 hd.2.1
  unfold dq
  walk_at "rn"
  refine ⟨a, 8, rfl, by decide, by decide, hb, fun way μ1 w0 w1 s1 => ?_⟩
  walk_at "rn"
  refine ⟨a, d, rfl, hd, s1.1, fun w μ2 ow bw sw s2 => ?_⟩
  walk_at "rn"
  have s12 := s1.trans s2
  by_cases c0 : way = 0
  · rw [if_pos (by simp [c0])]
    refine ⟨a, d, rfl, hd, s2.1, fun h μ3 oh bh sh s3 => ?_⟩
    exact q w h μ3 ⟨hd, ow, oh, bw.mono (by decide), bh.mono (by decide), sw, sh⟩ (bw.mono (by decide)) (bh.mono (by decide)) (s12.trans s3)
  · rw [if_neg (by simp [c0])]
    by_cases c1 : way = 1
    · rw [if_pos (by simp [c1])]
      refine ⟨a, 9, rfl, by decide, by decide, s2.1, fun t μ3 t0 t1 s3 => ?_⟩
      walk_at "rn"
      have of : Ok ⟨1, 0, 1 + t⟩ := ⟨by show (0 : Int) < 1 + t; omega, by show Int.gcd (Int.gcd 1 0) (1 + t) = 1; rw [show ((Int.gcd 1 0 : Nat) : Int) = 1 from rfl]; exact Int.gcd_one_left _⟩
      have bf : Bd 4 ⟨1, 0, 1 + t⟩ := ⟨Sz.of (by show (1 : Int).natAbs < 16; decide), Sz.of (by show (0 : Int).natAbs < 16; decide), Sz.of (by show (1 + t).natAbs < 16; omega)⟩
      have sf : sg d 1 0 = 1 := (cm hd).mpr (.inl ⟨by omega, by omega, by omega⟩)
      refine ⟨w, ⟨1, 0, 1 + t⟩, rfl, ow, of, bw.mono (by decide), bf.mono (by decide), ?_⟩
      exact q _ _ μ3 ⟨hd, ow, lR ow of, bw.mono (by decide), (og ow of bw bf).mono (by decide), sw, yr hd ow of (.inr sw) sf⟩ (bw.mono (by decide)) ((og ow of bw bf).mono (by decide)) (s12.trans s3)
    · rw [if_neg (by simp [c1])]
      refine ⟨a, 12, rfl, by decide, by decide, s2.1, fun p μ3 p0 p1 s3 => ?_⟩
      walk_at "rn"
      refine ⟨a, 12, rfl, by decide, by decide, s3.1, fun r μ4 r0 r1 s4 => ?_⟩
      walk_at "rn"
      have s14 := s12.trans (s3.trans s4)
      have fin : ∀ (x y : Int) (μ' : Mu), 0 < x → 0 < y → x < 2 ^ 27 → y < 2 ^ 27 → Step a μ μ' → bY [.v (.int x), .v (.int 0), .v (.int y)] μ' (fun z μ1 => bc [.v (.int d), .v (dN w), z] μ1 fun z μ1 => match Option.map (fun z => dN w :: z) (bR [z]) with | some xs => Qd (.v (.tuple xs)) μ1 | none => False) := fun x y μ' x0 y0 xb yb st => by
        obtain ⟨ol, bl, S, B⟩ := yd hd ow bw sw x0 y0 xb yb
        refine ⟨x, 0, y, rfl, by omega, (Sz.of (n := 27) (by show y.natAbs < 134217728; omega)).mono (by decide), ?_⟩
        exact ⟨d, w, _, rfl, s5, ow, ol, bw.mono (by decide), bl.mono (by decide), q _ _ μ' S (bw.mono (by decide)) B st⟩
      by_cases c2 : way = 2
      · subst c2
        rw [if_pos (by decide)]
        refine ⟨a, 999999, rfl, by decide, by decide, s4.1, fun p' μ5 p0' p1' s5' => ?_⟩
        walk_at "rn"
        refine ⟨a, 999999, rfl, by decide, by decide, s5'.1, fun r' μ6 r0' r1' s6 => ?_⟩
        walk_at "rn"
        rw [if_neg (by decide), if_neg (by decide)]
        exact fin _ _ μ6 (by omega) (by omega) (by omega) (by omega) (s14.trans (s5'.trans s6))
      · rw [if_neg (by simp [c2])]
        by_cases c3 : way = 3
        · subst c3
          rw [if_pos (by decide)]
          refine ⟨trivial, ?_⟩
          rw [wO]
          walk_at "rn"
          refine ⟨a, 26, rfl, by decide, by decide, s4.1, fun n μ5 n0 n1 s5' => ?_⟩
          walk_at "rn"
          refine ⟨⟨by omega, by omega⟩, fun i ρ μ' => ∃ (x y : Int) (r6 : Option D), ρ = [some (.m a), some (.v (.int d)), some (.v (.int 3)), some (.v (dN w)), some (.v (.int x)), some (.v (.int y)), r6] ∧ 0 < x ∧ 0 < y ∧ x ≤ 2 ^ i ∧ y ≤ 2 ^ i ∧ μ' = μ5, ⟨1, 1, _, rfl, by decide, by decide, by decide, by decide, rfl⟩, ?_, ?_⟩
          · rintro i v ρ μ' hv ⟨x, y, r6, rfl, x0, y0, xb, yb, rfl⟩
            walk_at "rn"
            have e : (2 : Int) ^ (i + 1) = 2 ^ i * 2 := Int.pow_succ 2 i
            exact ⟨y, x + y, _, rfl, y0, by omega, by omega, by omega, trivial⟩
          · rintro ρ μ' ⟨x, y, r6, rfl, x0, y0, xb, yb, rfl⟩
            rw [Dg] at xb yb
            walk_at "rn"
            rw [if_neg (by decide)]
            have hp : (2 : Int) ^ n.toNat ≤ 2 ^ 26 := by
              have h := Nat.pow_le_pow_right (show 0 < 2 by decide) (show n.toNat ≤ 26 by omega)
              have h2 : ((2 ^ n.toNat : Nat) : Int) ≤ ((2 ^ 26 : Nat) : Int) := by exact_mod_cast h
              simpa using h2
            exact fin x y _ x0 y0 (by omega) (by omega) (s14.trans s5')
        · rw [if_neg (by simp [c3])]
          by_cases c4 : way = 4
          · subst c4
            rw [if_pos (by decide)]
            refine ⟨a, 6, rfl, by decide, by decide, s4.1, fun n μ5 n0 n1 s5' => ?_⟩
            walk_at "rn"
            obtain ⟨_, e, x, y, rfl, x0, y0, xb, yb⟩ := pick (P := fun v => ∃ x y : Int, v = .tuple [.int x, .int y] ∧ 0 < x ∧ 0 < y ∧ x < 2 ^ 27 ∧ y < 2 ^ 27) (xs := [.tuple [.int 1, .int 60], .tuple [.int 60, .int 1], .tuple [.int 1, .int 61], .tuple [.int 61, .int 1], .tuple [.int 59, .int 58], .tuple [.int 2, .int 59]]) n0 (by exact n1) (by
              intro v hv
              simp only [List.mem_cons, List.not_mem_nil, or_false] at hv
              rcases hv with rfl | rfl | rfl | rfl | rfl | rfl <;> exact ⟨_, _, rfl, by decide, by decide, by decide, by decide⟩)
            rw [e]
            walk_at "rn"
            exact ⟨trivial, fin x y _ x0 y0 xb yb (s14.trans s5')⟩
          · rw [if_neg (by simp [c4])]
            exact fin _ _ μ4 (by omega) (by omega) (by omega) (by omega) s14
theorem FA : SeqAt.shaped (.str "bar") = true := by decide +kernel
theorem Fp : SeqAt.shaped (.str "squares") = true := by decide +kernel
theorem uF.same {d : Int} {w h : N3} {p q p' q' : Nat} {cs cs' : List Nat} (F : uF d w h p q cs) (G : uF d w h p' q' cs') : p' = p ∧ q' = q ∧ cs' = cs := by
  have e := G.e.symm.trans F.e
  simp only [N3.mk.injEq] at e
  have e1 : p' = p := by omega
  have e2 : q' = q := by omega
  subst e1 e2
  exact ⟨rfl, rfl, G.g.eq F.g⟩
theorem Eh {cs : List Nat} : SeqAt.shaped (.list (ix cs)) = true := by
  refine (Lt.sh (n := 1) (yW fun y hy => ?_) (by decide)).shaped
  obtain ⟨c, _, rfl⟩ := List.mem_map.mp hy
  exact lt_int
theorem qY {cs : List Nat} : SeqAt.shaped (.tuple [.str "squares", .list (ix cs)]) = true := by
  refine (Lt.sh (n := 2) (Di fun y hy => ?_) (by decide)).shaped
  simp only [List.mem_cons, List.not_mem_nil, or_false] at hy
  rcases hy with rfl | rfl
  · exact ⟨by decide +kernel, by decide +kernel⟩
  · refine yW fun y hy => ?_
    obtain ⟨c, _, rfl⟩ := List.mem_map.mp hy
    exact lt_int
theorem nK (h : mB ds μ Qd) : fI { nx := fun _ μ' => Qd (.v .none) μ', rt := Qd } (aG ["_law_d", "_law_width", "_law_height", "_law_due", "_law_told"] ds) μ := by
  obtain ⟨d, w, h, rfl, s, k⟩ := h
  have hd := s.rt
  have nw := lx hd s.ow s.sw
  have oc := cf nw
  have s5 := nP hd.1 hd.2.1
  have os : Ok (shp d w h) := bP s.oh oc
  have bs : Bd 222 (shp d w h) := (fA s5 s.oh oc s.bh (gL s5 nw s.bw)).mono (by decide)
  have wn : w ≠ aB := fun z => by have := s.sw; rw [z] at this; rw [show sg d aB.a aB.b = 0 from cQ.mpr ⟨rfl, rfl⟩] at this; cases this
  unfold fI
  walk_at "rn"
  refine ⟨d, w, h, rfl, s, fun hb => ?_, fun p q cs F => ?_⟩
  · walk_at "rn"
    refine .inl ⟨d, w, h, rfl, s, fun _ => ?_, fun p q cs F => absurd (by rw [F.e]) hb⟩
    have e1 : isT "tuple" (.tuple [.str "bar", wo (shp d w h)]) = true := rfl
    walk_at "rn"
    simp only [↓yL, ↓sA, List.getElem?_cons_zero, List.getElem?_cons_succ, e1]
    walk_at "rn"
    rw [BB]
    walk_at "rn"
    rw [oT]
    walk_at "rn"
    rw [if_neg (by simp), D4]
    simp only [↓reduceIte]
    rw [yt]
    walk_at "rn"
    rw [oT]
    refine eq_str FA ?_
    simp only [↓reduceIte]
    refine ⟨d, h, w, rfl, hd, s.oh, s.ow, wn, s.bh.mono (by decide), s.bw.mono (by decide), ?_⟩
    dsimp only
    rw [yt]
    walk_at "rn"
    exact ⟨d, shp d w h, rfl, hd, os, bs, hb, k μ eW.refl⟩
  · walk_at "rn"
    refine .inl ⟨d, w, h, rfl, s, fun z => absurd (by rw [F.e]) z, fun p' q' cs' F' a μ1 na sb ha => ?_⟩
    obtain ⟨rfl, rfl, rfl⟩ := F.same F'
    have sL := Eh (cs := cs')
    simp only [↓yL, ↓sA, List.getElem?_cons_zero, List.getElem?_cons_succ]
    refine ⟨_, _, rfl, ?_⟩
    rw [show isT "tuple" (.tuple []) = true from rfl]
    walk_at "rn"
    rw [AL, oT]
    walk_at "rn"
    rw [if_neg (by decide), CF]
    simp only [Bool.false_eq_true, ↓reduceIte]
    refine Ef ?_
    rw [oT]
    refine ne_str Fp ?_
    simp only [Bool.false_eq_true, ↓reduceIte]
    refine pF ?_
    dsimp only
    rw [show isT "list" (.list []) = true from rfl]
    simp only [Bool.not_true, Bool.false_eq_true, ↓reduceIte]
    refine pF ?_
    refine ⟨_, ha, sL, sL, ?_⟩
    rw [jA sL]
    simp only [Bool.xor_true, Bool.not_true, Bool.false_eq_true, ↓reduceIte]
    have hl : (ix cs').length ≤ 450 := by unfold ix; rw [List.length_map]; exact F.l
    rw [Gr]
    walk_at "rn"
    refine pF ⟨_, ha, by omega, fun _ => some (.bool true), fun y hy μ' _ => ⟨trivial, y, rfl, rfl, ?_⟩, ?_⟩
    · obtain ⟨c, _, rfl⟩ := List.mem_map.mp hy
      rfl
    rw [nY (fun _ => PyData.bool true), gC (fun _ => true)]
    have hall : ((ix cs').map fun _ => true).all id = true := by rw [List.all_eq_true]; intro x hx; obtain ⟨_, _, rfl⟩ := List.mem_map.mp hx; rfl
    dsimp only
    rw [hall]
    simp only [Bool.not_true, Bool.false_eq_true, ↓reduceIte]
    refine pF ?_
    dsimp only
    rw [ha]
    refine ⟨by omega, ?_⟩
    rw [Es]
    walk_at "rn"
    refine pF ?_
    dsimp only
    rw [aD]
    refine .inr ⟨d, w, h, rfl, s, fun z => absurd (by rw [F.e]) z, fun p2 q2 cs2 F2 => ?_⟩
    obtain ⟨rfl, rfl, rfl⟩ := F.same F2
    rw [oT]
    refine ⟨qY, qY, ?_⟩
    rw [jA qY]
    exact k _ ((sb.set na).set na)
theorem Bp {α : Type} (xs : List α) (lo hi : Option Int) : (kK xs lo hi).length ≤ xs.length := by
  unfold kK
  rw [List.length_take, List.length_drop]
  omega
theorem BK {xs : List PyData} {lo hi : Option Int} {x : PyData} (h : x ∈ kK xs lo hi) : x ∈ xs := by
  unfold kK at h
  exact List.mem_of_mem_drop (List.mem_of_mem_take h)
theorem DX : ∀ f ∈ [dN ⟨2, 0, 3⟩, dN ⟨1, 1, 1⟩, dN ⟨7, 0, 1⟩], ∃ x : N3, f = dN x ∧ Ok x ∧ Bd 3 x ∧ ∀ d, aK d → sg d x.a x.b = 1 := fun f hf => by
  have b3 : ∀ {a b c : Int}, a.natAbs < 8 → b.natAbs < 8 → c.natAbs < 8 → Bd 3 ⟨a, b, c⟩ := fun h1 h2 h3 => ⟨Sz.of h1, Sz.of h2, Sz.of h3⟩
  simp only [List.mem_cons, List.not_mem_nil, or_false] at hf
  rcases hf with rfl | rfl | rfl
  · exact ⟨_, rfl, ⟨by decide, by decide⟩, b3 (by decide) (by decide) (by decide), fun d hd => (cm hd).mpr (.inl ⟨by decide, by decide, by decide⟩)⟩
  · exact ⟨_, rfl, ⟨by decide, by decide⟩, b3 (by decide) (by decide) (by decide), fun d hd => (cm hd).mpr (.inl ⟨by decide, by decide, by decide⟩)⟩
  · exact ⟨_, rfl, ⟨by decide, by decide⟩, b3 (by decide) (by decide) (by decide), fun d hd => (cm hd).mpr (.inl ⟨by decide, by decide, by decide⟩)⟩
theorem D5 (h : pj ds μ Qd) : vS { nx := fun _ μ' => Qd (.v .none) μ', rt := Qd } (aG ["_law_script", "_law_k", "_law_bag_here", "_law_d", "_law_width", "_law_height", "_law_factor", "_law_floors"] ds) μ := by
  obtain ⟨ns, rfl, h63, q⟩ := h
  unfold vS
  rw [yY, wO]
  walk_at "rn"
  have hm : (-(2 ^ 62) ≤ max 2 (min 6 ((ns.length : Nat) : Int)) ∧ max 2 (min 6 ((ns.length : Nat) : Int)) < 2 ^ 62) := by omega
  refine ⟨hm, fun i ρ μ' => ∃ r1 r2 r3 r4 r5 r6 r7, ρ = [some (.s ns), r1, r2, r3, r4, r5, r6, r7], ⟨_, _, _, _, _, _, _, rfl⟩, ?_, ?_⟩
  · rintro i x ρ μ0 hx ⟨r1, r2, r3, r4, r5, r6, r7, rfl⟩
    obtain ⟨rfl, hi⟩ := EX hx
    walk_at "rn"
    refine ⟨ns, _, rfl, by omega, by omega, fun a μ1 ha s1 => ?_⟩
    walk_at "rn"
    refine ⟨a, rfl, s1.1, fun d μ2 hd s2 => ?_⟩
    walk_at "rn"
    refine ⟨a, d, rfl, hd, s2.1, fun w h μ3 S bw bh s3 => ?_⟩
    walk_at "rn"
    refine ⟨trivial, a, 3, rfl, by decide, by decide, s3.1, fun r μ4 r0 r1 s4 => ?_⟩
    walk_at "rn"
    obtain ⟨_, e, f, rfl, of, bf, sf⟩ := pick (P := fun f => ∃ x : N3, f = dN x ∧ Ok x ∧ Bd 3 x ∧ ∀ d, aK d → sg d x.a x.b = 1) (xs := [dN ⟨2, 0, 3⟩, dN ⟨1, 1, 1⟩, dN ⟨7, 0, 1⟩]) r0 (by exact r1) DX
    rw [e]
    walk_at "rn"
    intro p hp
    have s5 := nP hd.1 hd.2.1
    have sff := sf d hd
    have ow' := bP (d := d) S.ow of
    have oh' := bP (d := d) S.oh of
    have bw' := fA s5 S.ow of bw bf
    have bh' := fA s5 S.oh of bh bf
    refine ⟨d, w, f, rfl, s5, S.ow, of, bw.mono (by decide), bf.mono (by decide), ?_⟩
    refine ⟨d, h, f, rfl, s5, S.oh, of, bh.mono (by decide), bf.mono (by decide), ?_⟩
    have S2 : fX d h w := ⟨hd, S.oh, S.ow, S.bh, S.bw, S.sh, S.sw⟩
    have S3 : fX d w w := ⟨hd, S.ow, S.ow, S.bw, S.bw, S.sw, S.sw⟩
    have S4 : fX d (times d w f) (times d h f) := ⟨hd, ow', oh', bw'.mono (by decide), bh'.mono (by decide), by rw [lB hd S.ow of, S.sw, sff]; rfl, by rw [lB hd S.oh of, S.sh, sff]; rfl⟩
    have hF : ∀ y ∈ [PyData.tuple [dN w, dN h], PyData.tuple [dN h, dN w], PyData.tuple [dN w, dN w]] ++ [PyData.tuple [dN (times d w f), dN (times d h f)]], ∃ u v, y = .tuple [dN u, dN v] ∧ fX d u v := fun y hy => by
      simp only [List.cons_append, List.nil_append, List.mem_cons, List.not_mem_nil, or_false] at hy
      rcases hy with rfl | rfl | rfl | rfl
      · exact ⟨_, _, rfl, S⟩
      · exact ⟨_, _, rfl, S2⟩
      · exact ⟨_, _, rfl, S3⟩
      · exact ⟨_, _, rfl, S4⟩
    have hL : ([PyData.tuple [dN w, dN h], PyData.tuple [dN h, dN w], PyData.tuple [dN w, dN w]] ++ [PyData.tuple [dN (times d w f), dN (times d h f)]]).length = 4 := rfl
    dsimp only [bR, Option.map]
    rw [aD]
    dsimp only
    refine ⟨by show 3 < 1000; decide, ?_⟩
    unfold x9
    dsimp only
    rw [aD]
    dsimp only
    generalize [PyData.tuple [dN w, dN h], PyData.tuple [dN h, dN w], PyData.tuple [dN w, dN w]] ++ [PyData.tuple [dN (times d w f), dN (times d h f)]] = fl at hF hL ⊢
    have hc := Bp fl none (some 1)
    refine ⟨by omega, by rw [List.length_append]; omega, fun _ => some (.bool true), fun y hy μ' _ => ?_, ?_⟩
    · obtain ⟨u, v, rfl, Suv⟩ : ∃ u v, y = .tuple [dN u, dN v] ∧ fX d u v := by
        rcases List.mem_append.mp hy with z | z
        · exact hF y z
        · exact hF y (BK z)
      walk_at "rn"
      exact ⟨trivial, ⟨trivial, trivial⟩, d, u, v, rfl, Suv, rfl, rfl⟩
    · rw [nY (fun _ => PyData.bool true), gC (fun _ => true)]
      have hall : ((fl ++ kK fl none (some 1)).map fun _ => true).all id = true := by rw [List.all_eq_true]; intro x hx; obtain ⟨_, _, rfl⟩ := List.mem_map.mp hx; rfl
      dsimp only
      rw [hall]
      simp only [Bool.not_true, Bool.false_eq_true, ↓reduceIte]
      exact ⟨_, _, _, _, _, _, _, rfl⟩
  · rintro ρ μ0 ⟨r1, r2, r3, r4, r5, r6, r7, rfl⟩
    have h2 : aK 2 := ⟨by decide, by decide, by decide, by decide, by decide, by decide⟩
    have B : ∀ {a b c : Int}, a.natAbs < 8 → b.natAbs < 8 → c.natAbs < 8 → Bd 70 ⟨a, b, c⟩ := fun h1 h2 h3 => (⟨Sz.of h1, Sz.of h2, Sz.of h3⟩ : Bd 3 _).mono (by decide)
    have S : fX 2 ⟨1, 0, 1⟩ ⟨3, 0, 2⟩ := ⟨h2, ⟨by decide, by decide⟩, ⟨by decide, by decide⟩, B (by decide) (by decide) (by decide), B (by decide) (by decide) (by decide), (cm h2).mpr (.inl ⟨by decide, by decide, by decide⟩), (cm h2).mpr (.inl ⟨by decide, by decide, by decide⟩)⟩
    have ev : shp 2 ⟨1, 0, 1⟩ ⟨3, 0, 2⟩ = ⟨3, 0, 2⟩ := N3.ext' (by decide +kernel) (by decide +kernel) (by decide +kernel)
    refine .inr ⟨2, ⟨1, 0, 1⟩, ⟨3, 0, 2⟩, rfl, S, fun z => absurd (by rw [ev]) z, fun p q' cs F => ?_⟩
    have e := ev.symm.trans F.e
    simp only [N3.mk.injEq] at e
    obtain rfl : p = 3 := by omega
    obtain rfl : q' = 2 := by omega
    have g : Euc 3 2 [1, 2] := .cons (r := 3) (s := 2) (by decide) (.cons (r := 2) (s := 1) (by decide) (.nil 1))
    obtain rfl : [1, 2] = cs := g.eq F.g
    refine ⟨qY, qY (cs := [1, 2]), ?_⟩
    rw [show PyData.tuple [.str "squares", .list [.int 1, .int 2]] = PyData.tuple [.str "squares", .list (ix [1, 2])] from rfl, jA qY]
    exact q _
end
end L2.DL
set_option Elab.async false
set_option linter.all false
set_option maxRecDepth 100000
set_option maxHeartbeats 4000000
namespace K19
open PySem L2 L2.DL
structure Adr where
  iT : Addr
  kN : FuncData
  cZ : Addr
  eP : FuncData
  gJ : Addr
  jS : FuncData
  cY : Addr
  eX : FuncData
  me : Addr
  pR : FuncData
  n8 : Addr
  rm : FuncData
  sD : Addr
  vI : FuncData
  iV : Addr
  kI : FuncData
  j4 : Addr
  mO : FuncData
  dy : Addr
  fJ : FuncData
  cP : Addr
  eg : FuncData
  bI : Addr
  cy : FuncData
  fP : Addr
  iM : FuncData
  cO : Addr
  eG : FuncData
  gA : Addr
  jV : FuncData
  ff : Addr
  gW : FuncData
  gD : Addr
  jr : FuncData
  fS : Addr
  iC : FuncData
  iE : Addr
  kS : FuncData
  fm : Addr
  gN : FuncData
  dA : Addr
  fF : FuncData
  fi : Addr
  gS : FuncData
  dc : Addr
  eS : FuncData
  dw : Addr
  fK : FuncData
  gH : Addr
  jW : FuncData
  bS : Addr
  cJ : FuncData
  gE : Addr
  jw : FuncData
  gz : Addr
  jx : FuncData
  fO : Addr
  iI : FuncData
  fR : Addr
  i6 : FuncData
  fQ : Addr
  iA : FuncData
  i5 : Addr
  kC : FuncData
  gI : Addr
  jU : FuncData
  gy : Addr
  jX : FuncData
  cz : Addr
  dE : FuncData
  fU : Addr
  iU : FuncData
  fj : Addr
  gX : FuncData
  d9 : Addr
  gh : FuncData
  wF : Addr
  zG : FuncData
  xG : Addr
  CH : Addr
structure Txt (K : PySem.W.Frag) (mg : Str → Option Value) (t : Adr) : Prop where
  wm : Fun K "is_whole" "is_whole" eZ t.iT t.kN
  kH : mg "is_whole" = some (.ref t.iT)
  kE : PySem.W.keepIn K (.ref t.iT) = true
  kM : Binds K t.kN ["thing"] []
  mV : Fun K "common_divisor" "common_divisor" bM t.cZ t.eP
  hZ : mg "common_divisor" = some (.ref t.cZ)
  iu : PySem.W.keepIn K (.ref t.cZ) = true
  hV : Binds K t.eP ["a", "b"] []
  tT : Fun K "is_number" "is_number" d5 t.gJ t.jS
  uc : mg "is_number" = some (.ref t.gJ)
  tM : PySem.W.keepIn K (.ref t.gJ) = true
  uV : Binds K t.jS ["thing"] []
  mL : Fun K "divisor_of_all" "divisor_of_all" bL t.cY t.eX
  hU : mg "divisor_of_all" = some (.ref t.cY)
  ib : PySem.W.keepIn K (.ref t.cY) = true
  hR : Binds K t.eX ["a", "b", "c"] []
  yk : Fun K "number" "number" ij t.me t.pR
  tN : mg "number" = some (.ref t.me)
  uX : PySem.W.keepIn K (.ref t.me) = true
  uz : Binds K t.pR ["a", "b", "c"] []
  AN : Fun K "times" "times" j3 t.n8 t.rm
  Bb : mg "times" = some (.ref t.n8)
  Bh : PySem.W.keepIn K (.ref t.n8) = true
  A8 : Binds K t.rm ["d", "x", "y"] []
  CK : Fun K "over" "over" mz t.sD t.vI
  CS : mg "over" = some (.ref t.sD)
  En : PySem.W.keepIn K (.ref t.sD) = true
  C1 : Binds K t.vI ["d", "x", "y"] []
  vV : Fun K "contrary" "contrary" eV t.iV t.kI
  wd : mg "contrary" = some (.ref t.iV)
  vO : PySem.W.keepIn K (.ref t.iV) = true
  vY : Binds K t.kI ["d", "x"] []
  ye : Fun K "sign_of" "sign_of" fV t.j4 t.mO
  xH : mg "sign_of" = some (.ref t.j4)
  xY : PySem.W.keepIn K (.ref t.j4) = true
  xB : Binds K t.mO ["d", "x"] []
  nM : Fun K "sign_of_parts" "sign_of_parts" bT t.dy t.fJ
  nT : mg "sign_of_parts" = some (.ref t.dy)
  nR : PySem.W.keepIn K (.ref t.dy) = true
  nV : Binds K t.fJ ["d", "a", "b"] []
  lF : Fun K "is_above_nought" "is_above_nought" bD t.cP t.eg
  mw : mg "is_above_nought" = some (.ref t.cP)
  lM : PySem.W.keepIn K (.ref t.cP) = true
  lS : Binds K t.eg ["d", "thing"] []
  iZ : Fun K "must_be_above_nought" "must_be_above_nought" aY t.bI t.cy
  eu : mg "must_be_above_nought" = some (.ref t.bI)
  eC : PySem.W.keepIn K (.ref t.bI) = true
  ez : Binds K t.cy ["d", "thing"] []
  su : Fun K "squares_of" "squares_of" de t.fP t.iM
  i4 : mg "squares_of" = some (.ref t.fP)
  iK : PySem.W.keepIn K (.ref t.fP) = true
  iJ : Binds K t.iM ["d", "width", "height"] []
  lz : Fun K "bar_for_squares" "bar_for_squares" bF t.cO t.eG
  lC : mg "bar_for_squares" = some (.ref t.cO)
  l6 : PySem.W.keepIn K (.ref t.cO) = true
  lq : Binds K t.eG ["shape"] []
  uR : Fun K "counts_of" "counts_of" dR t.gA t.jV
  uL : mg "counts_of" = some (.ref t.gA)
  u0 : PySem.W.keepIn K (.ref t.gA) = true
  u6 : Binds K t.jV ["shape"] []
  qi : Fun K "_law_counts" "_law_counts" cF t.ff t.gW
  pW : mg "_law_counts" = some (.ref t.ff)
  qy : PySem.W.keepIn K (.ref t.ff) = true
  qB : Binds K t.gW ["_law_d", "_law_width", "_law_height"] []
  uU : Fun K "_law_over" "_law_over" dM t.gD t.jr
  nq : mg "_law_over" = some (.ref t.gD)
  nA : PySem.W.keepIn K (.ref t.gD) = true
  nk : Binds K t.jr ["_law_d", "_law_x", "_law_y"] []
  sx : Fun K "_law_times" "_law_times" dg t.fS t.iC
  aJ : mg "_law_times" = some (.ref t.fS)
  aH : PySem.W.keepIn K (.ref t.fS) = true
  aI : Binds K t.iC ["_law_d", "_law_x", "_law_y"] []
  vt : Fun K "_law_low" "_law_low" eT t.iE t.kS
  gk : mg "_law_low" = some (.ref t.iE)
  gg : PySem.W.keepIn K (.ref t.iE) = true
  gi : Binds K t.kS ["_law_a", "_law_b", "_law_c"] []
  qK : Fun K "_law_shared" "_law_shared" cI t.fm t.gN
  fk : mg "_law_shared" = some (.ref t.fm)
  fc : PySem.W.keepIn K (.ref t.fm) = true
  fe : Binds K t.gN ["_law_one", "_law_other"] []
  nQ : Fun K "_law_contrary" "_law_contrary" bV t.dA t.fF
  ji : mg "_law_contrary" = some (.ref t.dA)
  jh : PySem.W.keepIn K (.ref t.dA) = true
  je : Binds K t.fF ["_law_d", "_law_x"] []
  qA : Fun K "_law_is_bar" "_law_is_bar" cE t.fi t.gS
  qm : mg "_law_is_bar" = some (.ref t.fi)
  qF : PySem.W.keepIn K (.ref t.fi) = true
  pX : Binds K t.gS ["_law_d", "_law_kinds", "_law_shape", "_law_thing"] []
  mI : Fun K "_law_is_number" "_law_is_number" bO t.dc t.eS
  il : mg "_law_is_number" = some (.ref t.dc)
  iq : PySem.W.keepIn K (.ref t.dc) = true
  ir : Binds K t.eS ["_law_thing"] []
  nL : Fun K "_law_is_whole" "_law_is_whole" bX t.dw t.fK
  jb : mg "_law_is_whole" = some (.ref t.dw)
  jk : PySem.W.keepIn K (.ref t.dw) = true
  ja : Binds K t.fK ["_law_thing"] []
  uT : Fun K "_law_sign" "_law_sign" dQ t.gH t.jW
  dY : mg "_law_sign" = some (.ref t.gH)
  dO : PySem.W.keepIn K (.ref t.gH) = true
  dS : Binds K t.jW ["_law_d", "_law_x"] []
  jo : Fun K "_law_is_never_below" "_law_is_never_below" bb t.bS t.cJ
  jn : mg "_law_is_never_below" = some (.ref t.bS)
  jm : PySem.W.keepIn K (.ref t.bS) = true
  jl : Binds K t.cJ ["_law_d", "_law_weights", "_law_kind"] []
  uY : Fun K "_law_mate" "_law_mate" dI t.gE t.jw
  fo : mg "_law_mate" = some (.ref t.gE)
  fq : PySem.W.keepIn K (.ref t.gE) = true
  fx : Binds K t.jw ["_law_x"] []
  ve : Fun K "_law_plus" "_law_plus" d6 t.gz t.jx
  dW : mg "_law_plus" = some (.ref t.gz)
  dZ : PySem.W.keepIn K (.ref t.gz) = true
  dX : Binds K t.jx ["_law_x", "_law_y"] []
  sE : Fun K "_law_below" "_law_below" cX t.fO t.iI
  rW : mg "_law_below" = some (.ref t.fO)
  rE : PySem.W.keepIn K (.ref t.fO) = true
  rh : Binds K t.iI ["_law_d", "_law_x", "_law_y"] []
  rn : Fun K "_law_minus" "_law_minus" da t.fR t.i6
  lG : mg "_law_minus" = some (.ref t.fR)
  kW : PySem.W.keepIn K (.ref t.fR) = true
  lT : Binds K t.i6 ["_law_x"] []
  rB : Fun K "_law_weigh" "_law_weigh" cV t.fQ t.iA
  rP : mg "_law_weigh" = some (.ref t.fQ)
  rY : PySem.W.keepIn K (.ref t.fQ) = true
  tj : Binds K t.iA ["_law_d", "_law_weights", "_law_width", "_law_height"] []
  vD : Fun K "_law_bag" "_law_bag" eU t.i5 t.kC
  vC : mg "_law_bag" = some (.ref t.i5)
  vH : PySem.W.keepIn K (.ref t.i5) = true
  vq : Binds K t.kC ["_law_script", "_law_at"] []
  uE : Fun K "_law_root" "_law_root" d0 t.gI t.jU
  tZ : mg "_law_root" = some (.ref t.gI)
  um : PySem.W.keepIn K (.ref t.gI) = true
  ub : Binds K t.jU ["_law_bag_here"] []
  uG : Fun K "_law_take" "_law_take" d4 t.gy t.jX
  aO : mg "_law_take" = some (.ref t.gy)
  aQ : PySem.W.keepIn K (.ref t.gy) = true
  aP : Binds K t.jX ["_law_bag_here", "_law_many"] []
  kP : Fun K "_law_floor_sides" "_law_floor_sides" br t.cz t.dE
  kR : mg "_law_floor_sides" = some (.ref t.cz)
  kO : PySem.W.keepIn K (.ref t.cz) = true
  kA : Binds K t.dE ["_law_bag_here", "_law_d"] []
  sr : Fun K "_law_above" "_law_above" dh t.fU t.iU
  lJ : mg "_law_above" = some (.ref t.fU)
  lP : PySem.W.keepIn K (.ref t.fU) = true
  lA : Binds K t.iU ["_law_bag_here", "_law_d"] []
  qf : Fun K "_law_number" "_law_number" cG t.fj t.gX
  qq : mg "_law_number" = some (.ref t.fj)
  p7 : PySem.W.keepIn K (.ref t.fj) = true
  qr : Binds K t.gX ["_law_bag_here"] []
  o8 : Fun K "_law_is_told" "_law_is_told" cw t.d9 t.gh
  o5 : mg "_law_is_told" = some (.ref t.d9)
  pH : PySem.W.keepIn K (.ref t.d9) = true
  oG : Binds K t.gh ["_law_d", "_law_width", "_law_height"] []
  EY : Fun K "law" "law" kf t.wF t.zG
  GC : mg "law" = some (.ref t.wF)
  GD : PySem.W.keepIn K (.ref t.wF) = true
  GB : Binds K t.zG ["_law_script"] []
  bu : mg "isinstance" = none
  o7 : mg "int" = none
  zJ : mg "bool" = none
  vb : mg "abs" = none
  lK : mg "tuple" = none
  pP : mg "len" = none
  zp : mg "min" = none
  An : mg "max" = none
  xh : mg "all" = none
  rN : mg "range" = none
  Ej : mg "list" = none
  pB : CZ K mg "NOUGHT" t.xG 0 0 1
  FH : CZ K mg "ONE" t.CH 1 0 1
structure EQ where
  P : Program
  w : World
  K : PySem.W.Frag
  mg : Str → Option Value
  base : Heap
  t : Adr
abbrev TX (e : EQ) : Prop := Txt e.K e.mg e.t
abbrev nI (e : EQ) : Prop := bq e.P e.w e.K e.mg e.base CX0 1 e.t.iT e.t.kN ["thing"] (spD e.K fh)
abbrev gG (e : EQ) : Prop := bq e.P e.w e.K e.mg e.base CX0 1 e.t.cZ e.t.eP ["a", "b"] (spD e.K jz)
abbrev lY (e : EQ) : Prop := bq e.P e.w e.K e.mg e.base CX0 3 e.t.gJ e.t.jS ["thing"] (spD e.K jq)
abbrev eo (e : EQ) : Prop := bq e.P e.w e.K e.mg e.base CX0 2 e.t.cY e.t.eX ["a", "b", "c"] (spD e.K pC)
abbrev my (e : EQ) : Prop := bq e.P e.w e.K e.mg e.base CX0 3 e.t.me e.t.pR ["a", "b", "c"] (spD e.K bY)
abbrev va (e : EQ) : Prop := bq e.P e.w e.K e.mg e.base CX0 4 e.t.n8 e.t.rm ["d", "x", "y"] (spD e.K bc)
abbrev wA (e : EQ) : Prop := bq e.P e.w e.K e.mg e.base CX0 5 e.t.sD e.t.vI ["d", "x", "y"] (spD e.K jR)
abbrev nv (e : EQ) : Prop := bq e.P e.w e.K e.mg e.base CX0 4 e.t.iV e.t.kI ["d", "x"] (spD e.K cT)
abbrev pq (e : EQ) : Prop := bq e.P e.w e.K e.mg e.base CX0 2 e.t.j4 e.t.mO ["d", "x"] (spD e.K fB)
abbrev ie (e : EQ) : Prop := bq e.P e.w e.K e.mg e.base CX0 1 e.t.dy e.t.fJ ["d", "a", "b"] (spD e.K n6)
abbrev gf (e : EQ) : Prop := bq e.P e.w e.K e.mg e.base CX0 4 e.t.cP e.t.eg ["d", "thing"] (spD e.K lW)
abbrev dJ (e : EQ) : Prop := bq e.P e.w e.K e.mg e.base CX0 5 e.t.bI e.t.cy ["d", "thing"] (spD e.K fu)
abbrev gR (e : EQ) : Prop := bq e.P e.w e.K e.mg e.base CX0 6 e.t.fP e.t.iM ["d", "width", "height"] (spD e.K k6)
abbrev gq (e : EQ) : Prop := bq e.P e.w e.K e.mg e.base CX0 1 e.t.cO e.t.eG ["shape"] (spD e.K ma)
abbrev lh (e : EQ) : Prop := bq e.P e.w e.K e.mg e.base CX0 1 e.t.gA e.t.jV ["shape"] (spD e.K kb)
abbrev jP (e : EQ) : Prop := bq e.P e.w e.K e.mg e.base CX0 5 e.t.ff e.t.gW ["_law_d", "_law_width", "_law_height"] (spD e.K ni)
abbrev i9 (e : EQ) : Prop := bq e.P e.w e.K e.mg e.base CX0 4 e.t.gD e.t.jr ["_law_d", "_law_x", "_law_y"] (spD e.K jR)
abbrev cg (e : EQ) : Prop := bq e.P e.w e.K e.mg e.base CX0 3 e.t.fS e.t.iC ["_law_d", "_law_x", "_law_y"] (spD e.K bc)
abbrev dU (e : EQ) : Prop := bq e.P e.w e.K e.mg e.base CX0 2 e.t.iE e.t.kS ["_law_a", "_law_b", "_law_c"] (spD e.K bY)
abbrev gc (e : EQ) : Prop := bq e.P e.w e.K e.mg e.base CX0 1 e.t.fm e.t.gN ["_law_one", "_law_other"] (spD e.K jz)
abbrev eN (e : EQ) : Prop := bq e.P e.w e.K e.mg e.base CX0 3 e.t.dA e.t.fF ["_law_d", "_law_x"] (spD e.K cT)
abbrev jv (e : EQ) : Prop := bq e.P e.w e.K e.mg e.base CX0 6 e.t.fi e.t.gS ["_law_d", "_law_kinds", "_law_shape", "_law_thing"] (spD e.K md)
abbrev gK (e : EQ) : Prop := bq e.P e.w e.K e.mg e.base CX0 2 e.t.dc e.t.eS ["_law_thing"] (spD e.K jq)
abbrev eQ (e : EQ) : Prop := bq e.P e.w e.K e.mg e.base CX0 1 e.t.dw e.t.fK ["_law_thing"] (spD e.K fh)
abbrev d7 (e : EQ) : Prop := bq e.P e.w e.K e.mg e.base CX0 1 e.t.gH e.t.jW ["_law_d", "_law_x"] (spD e.K fB)
abbrev ej (e : EQ) : Prop := bq e.P e.w e.K e.mg e.base CX0 5 e.t.bS e.t.cJ ["_law_d", "_law_weights", "_law_kind"] (spD e.K lI)
abbrev i7 (e : EQ) : Prop := bq e.P e.w e.K e.mg e.base CX0 1 e.t.gE e.t.jw ["_law_x"] (spD e.K jY)
abbrev eL (e : EQ) : Prop := bq e.P e.w e.K e.mg e.base CX0 3 e.t.gz e.t.jx ["_law_x", "_law_y"] (spD e.K g5)
abbrev kg (e : EQ) : Prop := bq e.P e.w e.K e.mg e.base CX0 4 e.t.fO e.t.iI ["_law_d", "_law_x", "_law_y"] (spD e.K oi)
abbrev gZ (e : EQ) : Prop := bq e.P e.w e.K e.mg e.base CX0 1 e.t.fR e.t.i6 ["_law_x"] (spD e.K k0)
abbrev ki (e : EQ) : Prop := bq e.P e.w e.K e.mg e.base CX0 4 e.t.fQ e.t.iA ["_law_d", "_law_weights", "_law_width", "_law_height"] (spD e.K kZ)
abbrev nE (e : EQ) : Prop := bq e.P e.w e.K e.mg e.base CX0 1 e.t.i5 e.t.kC ["_law_script", "_law_at"] (spD e.K xl)
abbrev mx (e : EQ) : Prop := bq e.P e.w e.K e.mg e.base CX0 2 e.t.gI e.t.jU ["_law_bag_here"] (spD e.K n4)
abbrev df (e : EQ) : Prop := bq e.P e.w e.K e.mg e.base CX0 1 e.t.gy e.t.jX ["_law_bag_here", "_law_many"] (spD e.K cj)
abbrev fM (e : EQ) : Prop := bq e.P e.w e.K e.mg e.base CX0 5 e.t.cz e.t.dE ["_law_bag_here", "_law_d"] (spD e.K j7)
abbrev kh (e : EQ) : Prop := bq e.P e.w e.K e.mg e.base CX0 4 e.t.fU e.t.iU ["_law_bag_here", "_law_d"] (spD e.K jT)
abbrev jK (e : EQ) : Prop := bq e.P e.w e.K e.mg e.base CX0 3 e.t.fj e.t.gX ["_law_bag_here"] (spD e.K j6)
abbrev jj (e : EQ) : Prop := bq e.P e.w e.K e.mg e.base CX0 7 e.t.d9 e.t.gh ["_law_d", "_law_width", "_law_height"] (spD e.K oQ)
abbrev zo (e : EQ) : Prop := bq e.P e.w e.K e.mg e.base CX0 8 e.t.wF e.t.zG ["_law_script"] (spD e.K pj)
section
variable {e : EQ}
theorem uj : aC ["thing"] ["thing"] (ar eZ) := ⟨rfl, rfl, rfl, by decide +kernel, rfl, by decide +kernel, by decide +kernel⟩
theorem tR (T : TX e)  : nI e := by
  have S := uj
  exact T.wm.okD S (fun ds μ Q h => nH h) (fun cdv A outer s H E hr => ⟨gF, (aj (az (mC (jD (xn _) rfl T.bu rfl T.o7 PyProof.Rows.Boot.«int» (dv 0)) (nj (vF (jD (uS _) rfl T.bu rfl T.zJ PyProof.Rows.Boot.«bool» (dv 0))))))), fun ds μ Qd h => nG h⟩)
theorem ll : aC ["a", "b"] ["a", "b"] (ar bM) := ⟨rfl, rfl, rfl, by decide +kernel, rfl, by decide +kernel, by decide +kernel⟩
theorem lH (T : TX e)  : gG e := by
  have S := ll
  exact T.mV.okD S (fun ds μ Q h => q5 h) (fun cdv A outer s H E hr => ⟨el, (ah (lN PassesOwn.never (aL (fD hr.units) bG (dv 1) ae (aA _)) (aj (fG (i := 0) (j := 1) rfl S.nd rfl rfl (by decide) rfl rfl (aa (dv 1) (aa (g6 (dv 0) (dv 1)) ag)) rfl)))
    (aj (az (oI rfl T.vb (aa (dv 0) ag))))), fun ds μ Qd h => lp h⟩)
theorem mR : aC ["d", "a", "b", "prevailing"] ["d", "a", "b"] (ar bT) := ⟨rfl, rfl, rfl, by decide +kernel, rfl, by decide +kernel, by decide +kernel⟩
theorem mP (T : TX e)  : ie e := by
  have S := mR
  exact T.nM.okD S (fun ds μ Q h => uW h) (fun cdv A outer s H E hr => ⟨eR, (ah (bE (DW.dt (vW (aL (cU hr.units) bG (dv 1) ae (aA _)) (sY (aL (cU hr.units) bG (dv 2) ae (aA _))))) (aj (az ae)) aR)
    (ah (bE (DW.dt (vW (aL qZ eD (dv 1) ae (aA _)) (sY (aL qZ eD (dv 2) ae (aA _))))) (aj (az ae)) aR)
    (ah (bE (DW.dt (vW (aL yE eD (dv 1) ae (aA _)) (sY (aL yE eD (dv 2) ae (aA _))))) (aj (az (iX ae))) aR)
    (ah (aS (i := 3) S.nd rfl (Or.inl rfl) (qO (aL jc eD (aN (dv 1) (dv 1)) (aN (aN (dv 0) (dv 2)) (dv 2)) (aA _)) (dv 1) (dv 2)))
    (aj (az (qO (aL jc eD (dv 3) ae (aA _)) ae (iX ae)))))))), fun ds μ Qd h => mZ h⟩)
theorem kG : aC ["shape", "skew"] ["shape"] (ar bF) := ⟨rfl, rfl, rfl, by decide +kernel, rfl, by decide +kernel, by decide +kernel⟩
theorem kJ (T : TX e)  : gq e := by
  have S := kG
  exact T.lz.okD S (fun ds μ Q h => sU h) (fun cdv A outer s H E hr => ⟨dD, (ah (aS (i := 1) S.nd rfl (Or.inl rfl) (qO (aL jc eD (aq (dv 0) ae (fun _ _ => rfl)) ae (aA _)) ae (iX ae)))
    (aj (az (aV (aa (mh rfl T.FH) (aa (aV (aa (mh rfl T.pB) (aa (aV (aa (dv 1) (aa ae (aa ae ag)))) (aa (aV (aa (iX (dv 1)) (aa ae (aa ae ag)))) (aa (mh rfl T.pB) ag))))) ag)))))), fun ds μ Qd h => kx h⟩)
theorem rL : aC ["shape", "short", "rest", "counts"] ["shape"] (ar dR) := ⟨rfl, rfl, rfl, by decide +kernel, rfl, by decide +kernel, by decide +kernel⟩
theorem sC (T : TX e)  : lh e := by
  have S := rL
  exact T.uR.okD S (fun ds μ Q h => qo h) (fun cdv A outer s H E hr => ⟨i8, (ah (aS (i := 1) S.nd rfl (Or.inl rfl) (vA rfl rfl T.zp (aa (aq (dv 0) ae (fun _ _ => rfl)) (aa (aq (dv 0) ae (fun _ _ => rfl)) ag))))
    (ah (aS (i := 2) S.nd rfl (Or.inl rfl) (vT rfl rfl T.An (aa (aq (dv 0) ae (fun _ _ => rfl)) (aa (aq (dv 0) ae (fun _ _ => rfl)) ag))))
    (ah (aS (i := 3) S.nd rfl (Or.inl rfl) (n9 ag))
    (ah (lN PassesOwn.never (aL (fD hr.units) bG (dv 1) ae (aA _)) (ah (iB (j8 (dv 3) (fH (dv 2) (dv 1))))
    (aj (fG (i := 2) (j := 1) rfl S.nd rfl rfl (by decide) rfl rfl (aa (dv 1) (aa (g6 (dv 2) (dv 1)) ag)) rfl))))
    (aj (az (dv 3))))))), fun ds μ Qd h => sR h⟩)
theorem oH : aC ["_law_one", "_law_other"] ["_law_one", "_law_other"] (ar cI) := ⟨rfl, rfl, rfl, by decide +kernel, rfl, by decide +kernel, by decide +kernel⟩
theorem pQ (T : TX e)  : gc e := by
  have S := oH
  exact T.qK.okD S (fun ds μ Q h => q5 h) (fun cdv A outer s H E hr => ⟨gj, (ah (fG (i := 0) (j := 1) rfl S.nd rfl rfl (by decide) rfl rfl (aa (oI rfl T.vb (aa (dv 0) ag)) (aa (oI rfl T.vb (aa (dv 1) ag)) ag)) rfl)
    (ah (lN PassesOwn.never (aL jc eD (dv 1) ae (aA _)) (aj (fG (i := 0) (j := 1) rfl S.nd rfl rfl (by decide) rfl rfl (aa (dv 1) (aa (g6 (dv 0) (dv 1)) ag)) rfl)))
    (aj (az (dv 0))))), fun ds μ Qd h => oV h⟩)
theorem mM : aC ["_law_thing"] ["_law_thing"] (ar bX) := ⟨rfl, rfl, rfl, by decide +kernel, rfl, by decide +kernel, by decide +kernel⟩
theorem mE (T : TX e)  : eQ e := by
  have S := mM
  exact T.nL.okD S (fun ds μ Q h => nH h) (fun cdv A outer s H E hr => ⟨hJ, (aj (az (mC (jD (xn _) rfl T.bu rfl T.o7 PyProof.Rows.Boot.«int» (dv 0)) (nj (vF (jD (uS _) rfl T.bu rfl T.zJ PyProof.Rows.Boot.«bool» (dv 0))))))), fun ds μ Qd h => mH h⟩)
theorem rQ : aC ["_law_d", "_law_x", "_law_first", "_law_second", "_law_sides"] ["_law_d", "_law_x"] (ar dQ) := ⟨rfl, rfl, rfl, by decide +kernel, rfl, by decide +kernel, by decide +kernel⟩
theorem tF (T : TX e)  : d7 e := by
  have S := rQ
  exact T.uT.okD S (fun ds μ Q h => pe h) (fun cdv A outer s H E hr => ⟨iY, (ah (fG (i := 2) (j := 3) rfl S.nd rfl rfl (by decide) rfl rfl (aa (aN (aq (dv 1) ae (fun _ _ => rfl)) (aq (dv 1) ae (fun _ _ => rfl))) (aa (aN (aN (dv 0) (aq (dv 1) ae (fun _ _ => rfl))) (aq (dv 1) ae (fun _ _ => rfl))) ag)) rfl)
    (ah (aS (i := 4) S.nd rfl (Or.inl rfl) (eO (aa (eY (jZ rfl T.o7 (aa (dG jc eD (aq (dv 1) ae (fun _ _ => rfl)) ae (aA _)) ag)) (jZ rfl T.o7 (aa (dG nF eD (aq (dv 1) ae (fun _ _ => rfl)) ae (aA _)) ag))) (aa (eY (jZ rfl T.o7 (aa (dG jc eD (aq (dv 1) ae (fun _ _ => rfl)) ae (aA _)) ag)) (jZ rfl T.o7 (aa (dG nF eD (aq (dv 1) ae (fun _ _ => rfl)) ae (aA _)) ag))) ag))))
    (ah (bE (aL qZ eD (aN (aq (dv 4) ae (fun _ _ => rfl)) (aq (dv 4) ae (fun _ _ => rfl))) ae (aA _)) (aj (az (qO (aL (fD hr.units) bG (aq (dv 4) ae (fun _ _ => rfl)) ae (aA _)) (aq (dv 4) ae (fun _ _ => rfl)) (aq (dv 4) ae (fun _ _ => rfl))))) aR)
    (aj (az (qO (aL jc eD (dv 2) (dv 3) (aA _)) (aq (dv 4) ae (fun _ _ => rfl)) (aq (dv 4) ae (fun _ _ => rfl)))))))), fun ds μ Qd h => rq h⟩)
theorem rF : aC ["_law_x"] ["_law_x"] (ar dI) := ⟨rfl, rfl, rfl, by decide +kernel, rfl, by decide +kernel, by decide +kernel⟩
theorem sI (T : TX e)  : i7 e := by
  have S := rF
  exact T.uY.okD S (fun ds μ Q h => vp h) (fun cdv A outer s H E hr => ⟨iF, (aj (az (aV (aa (aq (dv 0) ae (fun _ _ => rfl)) (aa (eY ae (aq (dv 0) ae (fun _ _ => rfl))) (aa (aq (dv 0) ae (fun _ _ => rfl)) ag)))))), fun ds μ Qd h => tu h⟩)
theorem pU : aC ["_law_x"] ["_law_x"] (ar da) := ⟨rfl, rfl, rfl, by decide +kernel, rfl, by decide +kernel, by decide +kernel⟩
theorem qc (T : TX e)  : gZ e := by
  have S := pU
  exact T.rn.okD S (fun ds μ Q h => uM h) (fun cdv A outer s H E hr => ⟨gT, (aj (az (aV (aa (eY ae (aq (dv 0) ae (fun _ _ => rfl))) (aa (eY ae (aq (dv 0) ae (fun _ _ => rfl))) (aa (aq (dv 0) ae (fun _ _ => rfl)) ag)))))), fun ds μ Qd h => qj h⟩)
theorem tP : aC ["_law_script", "_law_at", "_law_cell", "_law_great", "_law_primes", "_law_mixed"] ["_law_script", "_law_at"] (ar eU) := ⟨rfl, rfl, rfl, by decide +kernel, rfl, by decide +kernel, by decide +kernel⟩
theorem ur (T : TX e)  : nE e := by
  have S := tP
  exact T.vD.okD S (fun ds μ Q h => xZ h) (fun cdv A outer s H E hr => ⟨jQ, (ah (aS (i := 2) S.nd rfl (Or.inl rfl) ae)
    (ah (bE (aL nF eD (dv 1) (mU rfl T.pP (aa (dv 0) ag)) (aA _)) (aj (aS (i := 2) S.nd rfl (Or.inl rfl) (aq (dv 0) (dv 1) (fun _ _ => rfl)))) aR)
    (ah (aS (i := 3) S.nd rfl (Or.inl rfl) ae)
    (ah (bE (aL qZ eD (oI rfl T.vb (aa (dv 2) ag)) (Ar ae ae) (aA _)) (aj (aS (i := 3) S.nd rfl (Or.inl rfl) (oI rfl T.vb (aa (dv 2) ag)))) aR)
    (ah (aS (i := 4) S.nd rfl (Or.inl rfl) (eO (aa ae (aa ae (aa ae (aa ae (aa ae (aa ae (aa ae (aa ae ag))))))))))
    (ah (aS (i := 5) S.nd rfl (Or.inl rfl) (cN (cN (cN (aN (g6 (dv 2) ae) ae) (aN (aN ae (dv 1)) (dv 1))) (aN ae (dv 1))) ae))
    (aj (az (n9 (aa (dv 3) (aa (g6 (dv 5) (aq (dv 4) (g6 (dv 1) ae) (fun _ _ => rfl))) ag))))))))))), fun ds μ Qd h => tO h⟩)
theorem rS : aC ["_law_bag_here", "_law_many", "_law_digit"] ["_law_bag_here", "_law_many"] (ar d4) := ⟨rfl, rfl, rfl, by decide +kernel, rfl, by decide +kernel, by decide +kernel⟩
theorem rG (T : TX e)  : df e := by
  have S := rS
  exact T.uG.okD S (fun ds μ Q h => vo h) (fun cdv A outer s H E hr => ⟨iz, (ah (bE (aL jc eD (aq (dv 0) ae (fun _ _ => rfl)) ae (aA _)) (ah (aS (i := 2) S.nd rfl (Or.inl rfl) (g6 (aq (dv 0) ae (fun _ _ => rfl)) (dv 1)))
    (ah (jB (fH (aq (dv 0) ae (fun _ _ => rfl)) (dv 1)) (zU (dv 0) ae))
    (aj (az (dv 2))))) aR)
    (ah (jB (g6 (cN (aN (aq (dv 0) ae (fun _ _ => rfl)) ae) ae) ae) (zU (dv 0) ae))
    (aj (az (g6 (fH (g6 (Ar (aq (dv 0) ae (fun _ _ => rfl)) ae) ae) ae) (dv 1)))))), fun ds μ Qd h => sJ h⟩)
theorem lU : aC ["a", "b", "c"] ["a", "b", "c"] (ar bL) := ⟨rfl, rfl, rfl, by decide +kernel, rfl, by decide +kernel, by decide +kernel⟩
theorem mq (T : TX e) (cW : gG e) : eo e := by
  have S := lU
  exact T.mL.okD S (fun ds μ Q h => v5 h) (fun cdv A outer s H E hr => ⟨d8, (aj (az (ai cW (hr.mono (by decide)) rfl T.hZ T.iu T.hV (aa (ai cW (hr.mono (by decide)) rfl T.hZ T.iu T.hV (aa (dv 2) (aa (dv 0) ag))) (aa (dv 1) ag))))), fun ds μ Qd h => lE h⟩)
theorem vE : aC ["d", "x"] ["d", "x"] (ar fV) := ⟨rfl, rfl, rfl, by decide +kernel, rfl, by decide +kernel, by decide +kernel⟩
theorem vZ (T : TX e) (fE : ie e) : pq e := by
  have S := vE
  exact T.ye.okD S (fun ds μ Q h => pe h) (fun cdv A outer s H E hr => ⟨kq, (aj (az (ai fE (hr.mono (by decide)) rfl T.nT T.nR T.nV (aa (dv 0) (aa (aq (dv 1) ae (fun _ _ => rfl)) (aa (aq (dv 1) ae (fun _ _ => rfl)) ag)))))), fun ds μ Qd h => vR h⟩)
theorem uo : aC ["_law_a", "_law_b", "_law_c", "_law_common"] ["_law_a", "_law_b", "_law_c"] (ar eT) := ⟨rfl, rfl, rfl, by decide +kernel, rfl, by decide +kernel, by decide +kernel⟩
theorem ue (T : TX e) (bK : gc e) : dU e := by
  have S := uo
  exact T.vt.okD S (fun ds μ Q h => kY h) (fun cdv A outer s H E hr => ⟨jC, (ah (aS (i := 3) S.nd rfl (Or.inl rfl) (aN (ai bK (hr.mono (by decide)) rfl T.fk T.fc T.fe (aa (ai bK (hr.mono (by decide)) rfl T.fk T.fc T.fe (aa (dv 0) (aa (dv 1) ag))) (aa (dv 2) ag))) (aq (eO (aa ae (aa (iX ae) ag))) (jZ rfl T.o7 (aa (dG nF eD (dv 2) ae (aA _)) ag)) (fun _ _ => rfl))))
    (aj (az (aV (aa (fH (dv 0) (dv 3)) (aa (fH (dv 1) (dv 3)) (aa (fH (dv 2) (dv 3)) ag))))))), fun ds μ Qd h => ug h⟩)
theorem lj : aC ["_law_thing"] ["_law_thing"] (ar bO) := ⟨rfl, rfl, rfl, by decide +kernel, rfl, by decide +kernel, by decide +kernel⟩
theorem mv (T : TX e) (bW : eQ e) (bK : gc e) : gK e := by
  have S := lj
  exact T.mI.okD S (fun ds μ Q h => pO h) (fun cdv A outer s H E hr => ⟨eK, (ah (bE (DW.dt (ig (du (dr (jD (kit_tuple _) rfl T.bu rfl T.lK PyProof.Rows.Boot.«tuple» (dv 0)))) (ig (aL (fD hr.units) bG (mU rfl T.pP (aa (dv 0) ag)) ae (aA _)) (jL (du (dr (sk rfl rfl T.xh (aa (sj (N' := ["_law_one"]) (cap := [none]) rfl (vz (dv 0)) (fun _ _ _ => (aW (i := 0) (show List.Nodup (["_law_one"] : List Str) by decide +kernel) rfl (Or.inl rfl))) (fun _ _ _ => lQ) (fun _ _ _ => (ai bW (hr.mono (by decide)) rfl T.jb T.jk T.ja (aa (dv 0) ag))) rfl (by decide +kernel) rfl (by decide +kernel) (by intro _ _ h; first | exact h | exact cl1 h | exact cl2 (by decide +kernel) h | exact cl3 (by decide +kernel) h | exact cl_of (cl_c rfl cl_n) _ _ h | exact cl_of (cl_c rfl (cl_c rfl cl_n)) _ _ h | exact cl_of (cl_c rfl (cl_c rfl (cl_c rfl cl_n))) _ _ h | cases h) (oF rfl) rfl (kU trivial)) ag)))))))) (aj (az jf)) aR)
    (aj (az (mC (dG jc eD (aq (dv 0) ae (fun _ _ => rfl)) ae (aA _)) (nj (dG (cU hr.units) bG (ai bK (hr.mono (by decide)) rfl T.fk T.fc T.fe (aa (ai bK (hr.mono (by decide)) rfl T.fk T.fc T.fe (aa (aq (dv 0) ae (fun _ _ => rfl)) (aa (aq (dv 0) ae (fun _ _ => rfl)) ag))) (aa (aq (dv 0) ae (fun _ _ => rfl)) ag))) ae (aA _))))))), fun ds μ Qd h => ly h⟩)
theorem tG : aC ["_law_bag_here", "_law_some"] ["_law_bag_here"] (ar d0) := ⟨rfl, rfl, rfl, by decide +kernel, rfl, by decide +kernel, by decide +kernel⟩
theorem tw (T : TX e) (ay : df e) : mx e := by
  have S := tG
  exact T.uE.okD S (fun ds μ Q h => vh h) (fun cdv A outer s H E hr => ⟨iQ, (ah (bE (aL (cU hr.units) bG (ai ay (hr.mono (by decide)) rfl T.aO T.aQ T.aP (aa (dv 0) (aa ae ag))) ae (aA _)) (aj (az (aq (eO (aa ae (aa ae (aa ae ag)))) (ai ay (hr.mono (by decide)) rfl T.aO T.aQ T.aP (aa (dv 0) (aa ae ag))) (fun _ _ => rfl)))) aR)
    (ah (Bc (i := 1) (N' := ["_law_d"]) (cap := [none]) S.nd rfl rfl rfl (AU rfl T.rN (aa ae (aa ae ag))) (fun _ _ _ => (aW (i := 0) (show List.Nodup (["_law_d"] : List Str) by decide +kernel) rfl (Or.inl rfl))) (fun _ _ _ => (zj (aL (xV hr.units) Dv (dv 0) (eO (aa ae (aa ae (aa ae (aa ae ag))))) (by with_unfolding_all rfl)))) (fun _ _ _ => (dv 0)) rfl (by decide +kernel) rfl (by decide +kernel) (by intro _ _ h; first | exact h | exact cl1 h | exact cl2 (by decide +kernel) h | exact cl3 (by decide +kernel) h | exact cl_of (cl_c rfl cl_n) _ _ h | exact cl_of (cl_c rfl (cl_c rfl cl_n)) _ _ h | exact cl_of (cl_c rfl (cl_c rfl (cl_c rfl cl_n))) _ _ h | cases h) (oF rfl) rfl (kU trivial))
    (aj (az (aq (dv 1) (ai ay (hr.mono (by decide)) rfl T.aO T.aQ T.aP (aa (dv 0) (aa ae ag))) (fun _ _ => rfl)))))), fun ds μ Qd h => tD h⟩)
theorem tI : aC ["thing", "a", "b", "c"] ["thing"] (ar d5) := ⟨rfl, rfl, rfl, by decide +kernel, rfl, by decide +kernel, by decide +kernel⟩
theorem rJ (T : TX e) (gm : nI e) (bN : eo e) : lY e := by
  have S := tI
  exact T.tT.okD S (fun ds μ Q h => pO h) (fun cdv A outer s H E hr => ⟨iO, (ah (bE (DW.dt (ig (du (dr (jD (kit_tuple _) rfl T.bu rfl T.lK PyProof.Rows.Boot.«tuple» (dv 0)))) (jL (aL (fD hr.units) bG (mU rfl T.pP (aa (dv 0) ag)) ae (aA _))))) (aj (az jf)) aR)
    (ah (jB (dv 0) (ky (n := 3) rfl (bp (aW (i := 1) S.nd rfl (Or.inl rfl)) (bp (aW (i := 2) S.nd rfl (Or.inl rfl)) (bp (aW (i := 3) S.nd rfl (Or.inl rfl)) iy)))))
    (ah (bE (DW.dt (ig (du (dr (ai gm (hr.mono (by decide)) rfl T.kH T.kE T.kM (aa (dv 1) ag)))) (ig (du (dr (ai gm (hr.mono (by decide)) rfl T.kH T.kE T.kM (aa (dv 2) ag)))) (jL (du (dr (ai gm (hr.mono (by decide)) rfl T.kH T.kE T.kM (aa (dv 3) ag)))))))) (aj (az jf)) aR)
    (aj (az (mC (dG qZ eD (dv 3) ae (aA _)) (nj (dG (cU hr.units) bG (ai bN (hr.mono (by decide)) rfl T.hU T.ib T.hR (aa (dv 1) (aa (dv 2) (aa (dv 3) ag)))) ae (aA _))))))))), fun ds μ Qd h => rj h⟩)
theorem xD : aC ["a", "b", "c", "divisor"] ["a", "b", "c"] (ar ij) := ⟨rfl, rfl, rfl, by decide +kernel, rfl, by decide +kernel, by decide +kernel⟩
theorem yc (T : TX e) (bN : eo e) : my e := by
  have S := xD
  exact T.yk.okD S (fun ds μ Q h => kY h) (fun cdv A outer s H E hr => ⟨mD, (ah (bE (aL (cU hr.units) bG (dv 2) ae (aA _)) (aj oZ) aR)
    (ah (aS (i := 3) S.nd rfl (Or.inl rfl) (ai bN (hr.mono (by decide)) rfl T.hU T.ib T.hR (aa (dv 0) (aa (dv 1) (aa (dv 2) ag)))))
    (ah (bE (aL nF eD (dv 2) ae (aA _)) (aj (aS (i := 3) S.nd rfl (Or.inl rfl) (iX (dv 3)))) aR)
    (aj (az (aV (aa (fH (dv 0) (dv 3)) (aa (fH (dv 1) (dv 3)) (aa (fH (dv 2) (dv 3)) ag))))))))), fun ds μ Qd h => xO h⟩)
theorem ql : aC ["_law_d", "_law_x", "_law_y"] ["_law_d", "_law_x", "_law_y"] (ar dg) := ⟨rfl, rfl, rfl, by decide +kernel, rfl, by decide +kernel, by decide +kernel⟩
theorem p6 (T : TX e) (bj : dU e) : cg e := by
  have S := ql
  exact T.sx.okD S (fun ds μ Q h => nB h) (fun cdv A outer s H E hr => ⟨kj, (aj (az (ai bj (hr.mono (by decide)) rfl T.gk T.gg T.gi (aa (cN (aN (aq (dv 1) ae (fun _ _ => rfl)) (aq (dv 2) ae (fun _ _ => rfl))) (aN (aN (dv 0) (aq (dv 1) ae (fun _ _ => rfl))) (aq (dv 2) ae (fun _ _ => rfl)))) (aa (cN (aN (aq (dv 1) ae (fun _ _ => rfl)) (aq (dv 2) ae (fun _ _ => rfl))) (aN (aq (dv 1) ae (fun _ _ => rfl)) (aq (dv 2) ae (fun _ _ => rfl)))) (aa (aN (aq (dv 1) ae (fun _ _ => rfl)) (aq (dv 2) ae (fun _ _ => rfl))) ag)))))), fun ds μ Qd h => qa h⟩)
theorem mJ : aC ["_law_d", "_law_x"] ["_law_d", "_law_x"] (ar bV) := ⟨rfl, rfl, rfl, by decide +kernel, rfl, by decide +kernel, by decide +kernel⟩
theorem mG (T : TX e) (bj : dU e) : eN e := by
  have S := mJ
  exact T.nQ.okD S (fun ds μ Q h => j0 h) (fun cdv A outer s H E hr => ⟨fb, (aj (az (ai bj (hr.mono (by decide)) rfl T.gk T.gg T.gi (aa (aN (aq (dv 1) ae (fun _ _ => rfl)) (aq (dv 1) ae (fun _ _ => rfl))) (aa (eY ae (aN (aq (dv 1) ae (fun _ _ => rfl)) (aq (dv 1) ae (fun _ _ => rfl)))) (aa (eY (aN (aq (dv 1) ae (fun _ _ => rfl)) (aq (dv 1) ae (fun _ _ => rfl))) (aN (aN (dv 0) (aq (dv 1) ae (fun _ _ => rfl))) (aq (dv 1) ae (fun _ _ => rfl)))) ag)))))), fun ds μ Qd h => nc h⟩)
theorem tH : aC ["_law_x", "_law_y"] ["_law_x", "_law_y"] (ar d6) := ⟨rfl, rfl, rfl, by decide +kernel, rfl, by decide +kernel, by decide +kernel⟩
theorem rR (T : TX e) (bj : dU e) : eL e := by
  have S := tH
  exact T.ve.okD S (fun ds μ Q h => vk h) (fun cdv A outer s H E hr => ⟨l4, (aj (az (ai bj (hr.mono (by decide)) rfl T.gk T.gg T.gi (aa (cN (aN (aq (dv 0) ae (fun _ _ => rfl)) (aq (dv 1) ae (fun _ _ => rfl))) (aN (aq (dv 1) ae (fun _ _ => rfl)) (aq (dv 0) ae (fun _ _ => rfl)))) (aa (cN (aN (aq (dv 0) ae (fun _ _ => rfl)) (aq (dv 1) ae (fun _ _ => rfl))) (aN (aq (dv 1) ae (fun _ _ => rfl)) (aq (dv 0) ae (fun _ _ => rfl)))) (aa (aN (aq (dv 0) ae (fun _ _ => rfl)) (aq (dv 1) ae (fun _ _ => rfl))) ag)))))), fun ds μ Qd h => rO h⟩)
theorem pN : aC ["_law_bag_here", "_law_wide", "_law_a", "_law_b", "_law_c", "_law_way"] ["_law_bag_here"] (ar cG) := ⟨rfl, rfl, rfl, by decide +kernel, rfl, by decide +kernel, by decide +kernel⟩
theorem oK (T : TX e) (ay : df e) (bj : dU e) : jK e := by
  have S := pN
  exact T.qf.okD S (fun ds μ Q h => qx h) (fun cdv A outer s H E hr => ⟨gu, (ah (aS (i := 1) S.nd rfl (Or.inl rfl) (aq (eO (aa ae (aa ae (aa ae (aa ae ag))))) (ai ay (hr.mono (by decide)) rfl T.aO T.aQ T.aP (aa (dv 0) (aa ae ag))) (fun _ _ => rfl)))
    (ah (fG (i := 2) (j := 3) rfl S.nd rfl rfl (by decide) rfl rfl (aa (eY (ai ay (hr.mono (by decide)) rfl T.aO T.aQ T.aP (aa (dv 0) (aa (dv 1) ag))) (fH (dv 1) ae)) (aa (eY (ai ay (hr.mono (by decide)) rfl T.aO T.aQ T.aP (aa (dv 0) (aa (dv 1) ag))) (fH (dv 1) ae)) ag)) rfl)
    (ah (aS (i := 4) S.nd rfl (Or.inl rfl) (cN ae (ai ay (hr.mono (by decide)) rfl T.aO T.aQ T.aP (aa (dv 0) (aa (eY (dv 1) ae) ag)))))
    (ah (aS (i := 5) S.nd rfl (Or.inl rfl) (ai ay (hr.mono (by decide)) rfl T.aO T.aQ T.aP (aa (dv 0) (aa ae ag))))
    (aj (az (ai bj (hr.mono (by decide)) rfl T.gk T.gg T.gi (aa (aq (eO (aa (dv 2) (aa (dv 2) (aa (dv 2) (aa (dv 2) (aa (dv 2) (aa (dv 2) (aa (dv 2) (aa ae ag))))))))) (dv 5) (fun _ _ => rfl)) (aa (aq (eO (aa (dv 3) (aa (dv 3) (aa (dv 3) (aa (dv 3) (aa (dv 3) (aa ae (aa ae (aa (dv 3) ag))))))))) (dv 5) (fun _ _ => rfl)) (aa (aq (eO (aa (dv 4) (aa (dv 4) (aa ae (aa (dv 4) (aa ae (aa (dv 4) (aa ae (aa (dv 4) ag))))))))) (dv 5) (fun _ _ => rfl)) ag)))))))))), fun ds μ Qd h => o4 h⟩)
theorem zi : aC ["d", "x", "y"] ["d", "x", "y"] (ar j3) := ⟨rfl, rfl, rfl, by decide +kernel, rfl, by decide +kernel, by decide +kernel⟩
theorem bP (T : TX e) (ic : my e) : va e := by
  have S := zi
  exact T.AN.okD S (fun ds μ Q h => nB h) (fun cdv A outer s H E hr => ⟨ph, (aj (az (ai ic (hr.mono (by decide)) rfl T.tN T.uX T.uz (aa (cN (aN (aq (dv 1) ae (fun _ _ => rfl)) (aq (dv 2) ae (fun _ _ => rfl))) (aN (aN (dv 0) (aq (dv 1) ae (fun _ _ => rfl))) (aq (dv 2) ae (fun _ _ => rfl)))) (aa (cN (aN (aq (dv 1) ae (fun _ _ => rfl)) (aq (dv 2) ae (fun _ _ => rfl))) (aN (aq (dv 1) ae (fun _ _ => rfl)) (aq (dv 2) ae (fun _ _ => rfl)))) (aa (aN (aq (dv 1) ae (fun _ _ => rfl)) (aq (dv 2) ae (fun _ _ => rfl))) ag)))))), fun ds μ Qd h => tW h⟩)
theorem uq : aC ["d", "x", "norm"] ["d", "x"] (ar eV) := ⟨rfl, rfl, rfl, by decide +kernel, rfl, by decide +kernel, by decide +kernel⟩
theorem cf (T : TX e) (ic : my e) : nv e := by
  have S := uq
  exact T.vV.okD S (fun ds μ Q h => j0 h) (fun cdv A outer s H E hr => ⟨ju, (ah (aS (i := 2) S.nd rfl (Or.inl rfl) (eY (aN (aq (dv 1) ae (fun _ _ => rfl)) (aq (dv 1) ae (fun _ _ => rfl))) (aN (aN (dv 0) (aq (dv 1) ae (fun _ _ => rfl))) (aq (dv 1) ae (fun _ _ => rfl)))))
    (aj (az (ai ic (hr.mono (by decide)) rfl T.tN T.uX T.uz (aa (aN (aq (dv 1) ae (fun _ _ => rfl)) (aq (dv 1) ae (fun _ _ => rfl))) (aa (aN (iX (aq (dv 1) ae (fun _ _ => rfl))) (aq (dv 1) ae (fun _ _ => rfl))) (aa (dv 2) ag))))))), fun ds μ Qd h => uK h⟩)
theorem ko : aC ["d", "thing"] ["d", "thing"] (ar bD) := ⟨rfl, rfl, rfl, by decide +kernel, rfl, by decide +kernel, by decide +kernel⟩
theorem kB (T : TX e) (jE : lY e) (mK : pq e) : gf e := by
  have S := ko
  exact T.lF.okD S (fun ds μ Q h => sX h) (fun cdv A outer s H E hr => ⟨dF, (aj (az (mC (ai jE (hr.mono (by decide)) rfl T.uc T.tM T.uV (aa (dv 1) ag)) (nj (dG (cU hr.units) bG (ai mK (hr.mono (by decide)) rfl T.xH T.xY T.xB (aa (dv 0) (aa (dv 1) ag))) ae (aA _)))))), fun ds μ Qd h => kT h⟩)
theorem tJ : aC ["_law_d", "_law_x", "_law_y"] ["_law_d", "_law_x", "_law_y"] (ar dM) := ⟨rfl, rfl, rfl, by decide +kernel, rfl, by decide +kernel, by decide +kernel⟩
theorem tm (T : TX e) (au : cg e) (bU : eN e) : i9 e := by
  have S := tJ
  exact T.uU.okD S (fun ds μ Q h => pT h) (fun cdv A outer s H E hr => ⟨iH, (aj (az (ai au (hr.mono (by decide)) rfl T.aJ T.aH T.aI (aa (dv 0) (aa (dv 1) (aa (ai bU (hr.mono (by decide)) rfl T.ji T.jh T.je (aa (dv 0) (aa (dv 2) ag))) ag)))))), fun ds μ Qd h => sv h⟩)
theorem qh : aC ["_law_d", "_law_x", "_law_y"] ["_law_d", "_law_x", "_law_y"] (ar cX) := ⟨rfl, rfl, rfl, by decide +kernel, rfl, by decide +kernel, by decide +kernel⟩
theorem qE (T : TX e) (aZ : d7 e) (ba : eL e) (dj : gZ e) : kg e := by
  have S := qh
  exact T.sE.okD S (fun ds μ Q h => uw h) (fun cdv A outer s H E hr => ⟨gU, (aj (az (dG jc eD (ai aZ (hr.mono (by decide)) rfl T.dY T.dO T.dS (aa (dv 0) (aa (ai ba (hr.mono (by decide)) rfl T.dW T.dZ T.dX (aa (dv 2) (aa (ai dj (hr.mono (by decide)) rfl T.lG T.kW T.lT (aa (dv 1) ag)) ag))) ag))) ae (aA _)))), fun ds μ Qd h => qd h⟩)
theorem p5 : aC ["_law_d", "_law_weights", "_law_width", "_law_height", "_law_p", "_law_q", "_law_s", "_law_t", "_law_first", "_law_second"] ["_law_d", "_law_weights", "_law_width", "_law_height"] (ar cV) := ⟨rfl, rfl, rfl, by decide +kernel, rfl, by decide +kernel, by decide +kernel⟩
theorem qv (T : TX e) (ba : eL e) (au : cg e) (cb : i7 e) : ki e := by
  have S := p5
  exact T.rB.okD S (fun ds μ Q h => rC h) (fun cdv A outer s H E hr => ⟨gQ, (ah (jB (dv 1) (ky (n := 4) rfl (bp (aW (i := 4) S.nd rfl (Or.inl rfl)) (bp (aW (i := 5) S.nd rfl (Or.inl rfl)) (bp (aW (i := 6) S.nd rfl (Or.inl rfl)) (bp (aW (i := 7) S.nd rfl (Or.inl rfl)) iy))))))
    (ah (aS (i := 8) S.nd rfl (Or.inl rfl) (ai ba (hr.mono (by decide)) rfl T.dW T.dZ T.dX (aa (ai au (hr.mono (by decide)) rfl T.aJ T.aH T.aI (aa (dv 0) (aa (dv 4) (aa (dv 3) ag)))) (aa (ai au (hr.mono (by decide)) rfl T.aJ T.aH T.aI (aa (dv 0) (aa (dv 5) (aa (ai cb (hr.mono (by decide)) rfl T.fo T.fq T.fx (aa (dv 3) ag)) ag)))) ag))))
    (ah (aS (i := 9) S.nd rfl (Or.inl rfl) (ai ba (hr.mono (by decide)) rfl T.dW T.dZ T.dX (aa (ai au (hr.mono (by decide)) rfl T.aJ T.aH T.aI (aa (dv 0) (aa (dv 6) (aa (dv 3) ag)))) (aa (ai au (hr.mono (by decide)) rfl T.aJ T.aH T.aI (aa (dv 0) (aa (dv 7) (aa (ai cb (hr.mono (by decide)) rfl T.fo T.fq T.fx (aa (dv 3) ag)) ag)))) ag))))
    (aj (az (ai ba (hr.mono (by decide)) rfl T.dW T.dZ T.dX (aa (ai au (hr.mono (by decide)) rfl T.aJ T.aH T.aI (aa (dv 0) (aa (dv 2) (aa (dv 8) ag)))) (aa (ai au (hr.mono (by decide)) rfl T.aJ T.aH T.aI (aa (dv 0) (aa (ai cb (hr.mono (by decide)) rfl T.fo T.fq T.fx (aa (dv 2) ag)) (aa (dv 9) ag)))) ag)))))))), fun ds μ Qd h => qH h⟩)
theorem pV : aC ["_law_bag_here", "_law_d", "_law_x", "_law_sign_here"] ["_law_bag_here", "_law_d"] (ar dh) := ⟨rfl, rfl, rfl, by decide +kernel, rfl, by decide +kernel, by decide +kernel⟩
theorem p4 (T : TX e) (gM : jK e) (aZ : d7 e) (ay : df e) (dj : gZ e) : kh e := by
  have S := pV
  exact T.sr.okD S (fun ds μ Q h => tq h) (fun cdv A outer s H E hr => ⟨g7, (ah (aS (i := 2) S.nd rfl (Or.inl rfl) (ai gM (hr.mono (by decide)) rfl T.qq T.p7 T.qr (aa (dv 0) ag)))
    (ah (aS (i := 3) S.nd rfl (Or.inl rfl) (ai aZ (hr.mono (by decide)) rfl T.dY T.dO T.dS (aa (dv 1) (aa (dv 2) ag))))
    (ah (bE (aL (cU hr.units) bG (dv 3) ae (aA _)) (aj (az (aV (aa (cN ae (ai ay (hr.mono (by decide)) rfl T.aO T.aQ T.aP (aa (dv 0) (aa ae ag)))) (aa ae (aa ae ag)))))) aR)
    (aj (az (qO (aL jc eD (dv 3) ae (aA _)) (dv 2) (ai dj (hr.mono (by decide)) rfl T.lG T.kW T.lT (aa (dv 2) ag)))))))), fun ds μ Qd h => qp h⟩)
theorem BD : aC ["d", "x", "y"] ["d", "x", "y"] (ar mz) := ⟨rfl, rfl, rfl, by decide +kernel, rfl, by decide +kernel, by decide +kernel⟩
theorem AA (T : TX e) (rH : va e) (ku : nv e) : wA e := by
  have S := BD
  exact T.CK.okD S (fun ds μ Q h => pT h) (fun cdv A outer s H E hr => ⟨tE, (ah (bE (aL (cU hr.units) bG (dv 2) (mh rfl T.pB) (aA _)) (aj oZ) aR)
    (aj (az (ai rH (hr.mono (by decide)) rfl T.Bb T.Bh T.A8 (aa (dv 0) (aa (dv 1) (aa (ai ku (hr.mono (by decide)) rfl T.wd T.vO T.vY (aa (dv 0) (aa (dv 2) ag))) ag))))))), fun ds μ Qd h => Bq h⟩)
theorem hE : aC ["d", "thing"] ["d", "thing"] (ar aY) := ⟨rfl, rfl, rfl, by decide +kernel, rfl, by decide +kernel, by decide +kernel⟩
theorem hW (T : TX e) (eJ : gf e) : dJ e := by
  have S := hE
  exact T.iZ.okD S (fun ds μ Q h => nN h) (fun cdv A outer s H E hr => ⟨cx, (aj (bE (du (dr (ai eJ (hr.mono (by decide)) rfl T.mw T.lM T.lS (aa (dv 0) (aa (dv 1) ag))))) (aj oZ) aR)), fun ds μ Qd h => hX h⟩)
theorem pK : aC ["_law_d", "_law_width", "_law_height", "_law_shape", "_law_found", "_law_high", "_law_wide", "_law_less_side", "_law_more_side"] ["_law_d", "_law_width", "_law_height"] (ar cF) := ⟨rfl, rfl, rfl, by decide +kernel, rfl, by decide +kernel, by decide +kernel⟩
theorem o9 (T : TX e) (dP : i9 e) : jP e := by
  have S := pK
  exact y6 (T.qi.okD S (fun ds μ Q h => ot h) (fun cdv A outer s H E hr => ⟨gb, (ah (aS (i := 3) S.nd rfl (Or.inl rfl) (ai dP (hr.mono (by decide)) rfl T.nq T.nA T.nk (aa (dv 0) (aa (dv 2) (aa (dv 1) ag)))))
    (ah (bE (aL (fD hr.units) bG (aq (dv 3) ae (fun _ _ => rfl)) ae (aA _)) (aj (az yP)) aR)
    (ah (aS (i := 4) S.nd rfl (Or.inl rfl) (n9 ag))
    (ah (fG (i := 5) (j := 6) rfl S.nd rfl rfl (by decide) rfl rfl (aa (aq (dv 3) ae (fun _ _ => rfl)) (aa (aq (dv 3) ae (fun _ _ => rfl)) ag)) rfl)
    (ah (lN PassesOwn.never (aL jc eD (aN (dv 5) (dv 6)) ae (aA _)) (ah (fG (i := 7) (j := 8) rfl S.nd rfl rfl (by decide) rfl rfl (aa (vA rfl rfl T.zp (aa (dv 5) (aa (dv 6) ag))) (aa (vT rfl rfl T.An (aa (dv 5) (aa (dv 6) ag))) ag)) rfl)
    (ah (iB (j8 (dv 4) (fH (dv 8) (dv 7))))
    (aj (bE (aL qZ eD (dv 6) (dv 5) (aA _)) (aj (aS (i := 6) S.nd rfl (Or.inl rfl) (eY (dv 6) (aN (dv 7) (aq (dv 4) (iX ae) (fun _ _ => rfl)))))) (aj (aS (i := 5) S.nd rfl (Or.inl rfl) (eY (dv 5) (aN (dv 7) (aq (dv 4) (iX ae) (fun _ _ => rfl)))))))))))
    (aj (az (dv 4)))))))), fun ds μ Qd h => pJ h⟩)) (fun ds μ Qd h => nW h)
theorem iD : aC ["_law_d", "_law_weights", "_law_kind", "_law_p", "_law_q", "_law_s", "_law_t", "_law_first", "_law_last", "_law_middle", "_law_four"] ["_law_d", "_law_weights", "_law_kind"] (ar bb) := ⟨rfl, rfl, rfl, by decide +kernel, rfl, by decide +kernel, by decide +kernel⟩
theorem iR (T : TX e) (au : cg e) (cb : i7 e) (ba : eL e) (aZ : d7 e) (iP : kg e) : ej e := by
  have S := iD
  exact T.jo.okD S (fun ds μ Q h => rX h) (fun cdv A outer s H E hr => ⟨cB, (ah (jB (dv 1) (ky (n := 4) rfl (bp (aW (i := 3) S.nd rfl (Or.inl rfl)) (bp (aW (i := 4) S.nd rfl (Or.inl rfl)) (bp (aW (i := 5) S.nd rfl (Or.inl rfl)) (bp (aW (i := 6) S.nd rfl (Or.inl rfl)) iy))))))
    (ah (fG (i := 7) (j := 8) rfl S.nd rfl rfl (by decide) rfl rfl (aa (ai au (hr.mono (by decide)) rfl T.aJ T.aH T.aI (aa (dv 0) (aa (dv 3) (aa (dv 2) ag)))) (aa (ai au (hr.mono (by decide)) rfl T.aJ T.aH T.aI (aa (dv 0) (aa (dv 6) (aa (ai cb (hr.mono (by decide)) rfl T.fo T.fq T.fx (aa (dv 2) ag)) ag)))) ag)) rfl)
    (ah (aS (i := 9) S.nd rfl (Or.inl rfl) (ai ba (hr.mono (by decide)) rfl T.dW T.dZ T.dX (aa (ai au (hr.mono (by decide)) rfl T.aJ T.aH T.aI (aa (dv 0) (aa (dv 4) (aa (ai cb (hr.mono (by decide)) rfl T.fo T.fq T.fx (aa (dv 2) ag)) ag)))) (aa (ai au (hr.mono (by decide)) rfl T.aJ T.aH T.aI (aa (dv 0) (aa (dv 5) (aa (dv 2) ag)))) ag))))
    (ah (bE (DW.dt (ig (aL nF eD (ai aZ (hr.mono (by decide)) rfl T.dY T.dO T.dS (aa (dv 0) (aa (dv 7) ag))) ae (aA _)) (jL (aL nF eD (ai aZ (hr.mono (by decide)) rfl T.dY T.dO T.dS (aa (dv 0) (aa (dv 8) ag))) ae (aA _))))) (aj (az jf)) aR)
    (ah (aS (i := 10) S.nd rfl (Or.inl rfl) (ai au (hr.mono (by decide)) rfl T.aJ T.aH T.aI (aa (dv 0) (aa (aV (aa ae (aa ae (aa ae ag)))) (aa (ai au (hr.mono (by decide)) rfl T.aJ T.aH T.aI (aa (dv 0) (aa (dv 7) (aa (dv 8) ag)))) ag)))))
    (aj (az (vF (ai iP (hr.mono (by decide)) rfl T.rW T.rE T.rh (aa (dv 0) (aa (dv 10) (aa (ai au (hr.mono (by decide)) rfl T.aJ T.aH T.aI (aa (dv 0) (aa (dv 9) (aa (dv 9) ag)))) ag)))))))))))), fun ds μ Qd h => iL h⟩)
theorem kc : aC ["_law_bag_here", "_law_d", "_law_way", "_law_width", "_law_p", "_law_q", "_law_turn"] ["_law_bag_here", "_law_d"] (ar br) := ⟨rfl, rfl, rfl, by decide +kernel, rfl, by decide +kernel, by decide +kernel⟩
theorem ke (T : TX e) (ay : df e) (fT : kh e) (ba : eL e) (au : cg e) (bj : dU e) : fM e := by
  have S := kc
  exact T.kP.okD S (fun ds μ Q h => qs h) (fun cdv A outer s H E hr => ⟨dq, (ah (aS (i := 2) S.nd rfl (Or.inl rfl) (ai ay (hr.mono (by decide)) rfl T.aO T.aQ T.aP (aa (dv 0) (aa ae ag))))
    (ah (aS (i := 3) S.nd rfl (Or.inl rfl) (ai fT (hr.mono (by decide)) rfl T.lJ T.lP T.lA (aa (dv 0) (aa (dv 1) ag))))
    (ah (bE (aL (cU hr.units) bG (dv 2) ae (aA _)) (aj (az (aV (aa (dv 3) (aa (ai fT (hr.mono (by decide)) rfl T.lJ T.lP T.lA (aa (dv 0) (aa (dv 1) ag))) ag))))) aR)
    (ah (bE (aL (cU hr.units) bG (dv 2) ae (aA _)) (aj (az (aV (aa (dv 3) (aa (ai ba (hr.mono (by decide)) rfl T.dW T.dZ T.dX (aa (dv 3) (aa (aV (aa ae (aa ae (aa (cN ae (ai ay (hr.mono (by decide)) rfl T.aO T.aQ T.aP (aa (dv 0) (aa ae ag)))) ag)))) ag))) ag))))) aR)
    (ah (fG (i := 4) (j := 5) rfl S.nd rfl rfl (by decide) rfl rfl (aa (cN ae (ai ay (hr.mono (by decide)) rfl T.aO T.aQ T.aP (aa (dv 0) (aa ae ag)))) (aa (cN ae (ai ay (hr.mono (by decide)) rfl T.aO T.aQ T.aP (aa (dv 0) (aa ae ag)))) ag)) rfl)
    (ah (bE (aL (cU hr.units) bG (dv 2) ae (aA _)) (aj (fG (i := 4) (j := 5) rfl S.nd rfl rfl (by decide) rfl rfl (aa (cN ae (ai ay (hr.mono (by decide)) rfl T.aO T.aQ T.aP (aa (dv 0) (aa ae ag)))) (aa (cN ae (ai ay (hr.mono (by decide)) rfl T.aO T.aQ T.aP (aa (dv 0) (aa ae ag)))) ag)) rfl)) aR)
    (ah (bE (aL (cU hr.units) bG (dv 2) ae (aA _)) (ah (jB (aV (aa ae (aa ae ag))) (ky (n := 2) rfl (bp (aW (i := 4) S.nd rfl (Or.inl rfl)) (bp (aW (i := 5) S.nd rfl (Or.inl rfl)) iy))))
    (aj (tK PassesOwn.never rfl (wW rfl T.rN (aa (ai ay (hr.mono (by decide)) rfl T.aO T.aQ T.aP (aa (dv 0) (aa ae ag))) ag)) (aW (i := 6) S.nd rfl (Or.inl rfl)) (aj (fG (i := 4) (j := 5) rfl S.nd rfl rfl (by decide) rfl rfl (aa (dv 5) (aa (cN (dv 4) (dv 5)) ag)) rfl))))) aR)
    (ah (bE (aL (cU hr.units) bG (dv 2) ae (aA _)) (aj (jB (aq (eO (aa (aV (aa ae (aa ae ag))) (aa (aV (aa ae (aa ae ag))) (aa (aV (aa ae (aa ae ag))) (aa (aV (aa ae (aa ae ag))) (aa (aV (aa ae (aa ae ag))) (aa (aV (aa ae (aa ae ag))) ag))))))) (ai ay (hr.mono (by decide)) rfl T.aO T.aQ T.aP (aa (dv 0) (aa ae ag))) (fun _ _ => rfl)) (ky (n := 2) rfl (bp (aW (i := 4) S.nd rfl (Or.inl rfl)) (bp (aW (i := 5) S.nd rfl (Or.inl rfl)) iy))))) aR)
    (aj (az (aV (aa (dv 3) (aa (ai au (hr.mono (by decide)) rfl T.aJ T.aH T.aI (aa (dv 1) (aa (dv 3) (aa (ai bj (hr.mono (by decide)) rfl T.gk T.gg T.gi (aa (dv 4) (aa ae (aa (dv 5) ag)))) ag)))) ag))))))))))))), fun ds μ Qd h => kd h⟩)
theorem pY : aC ["d", "width", "height", "shape"] ["d", "width", "height"] (ar de) := ⟨rfl, rfl, rfl, by decide +kernel, rfl, by decide +kernel, by decide +kernel⟩
theorem qu (T : TX e) (bJ : dJ e) (vQ : wA e) (eI : gq e) (jN : lh e) : gR e := by
  have S := pY
  exact AQ (T.su.okD S (fun ds μ Q h => ua h) (fun cdv A outer s H E hr => ⟨gP, (ah (iB (ai bJ (hr.mono (by decide)) rfl T.eu T.eC T.ez (aa (dv 0) (aa (dv 1) ag))))
    (ah (iB (ai bJ (hr.mono (by decide)) rfl T.eu T.eC T.ez (aa (dv 0) (aa (dv 2) ag))))
    (ah (aS (i := 3) S.nd rfl (Or.inl rfl) (ai vQ (hr.mono (by decide)) rfl T.CS T.En T.C1 (aa (dv 0) (aa (dv 2) (aa (dv 1) ag)))))
    (ah (bE (aL (fD hr.units) bG (aq (dv 3) ae (fun _ _ => rfl)) ae (aA _)) (aj (az (aV (aa mW (aa (ai eI (hr.mono (by decide)) rfl T.lC T.l6 T.lq (aa (dv 3) ag)) ag))))) aR)
    (aj (az (A5 (aa mW (aa (ai jN (hr.mono (by decide)) rfl T.uL T.u0 T.u6 (aa (dv 3) ag)) ag))))))))), fun ds μ Qd h => qe h⟩)) (fun ds μ Qd h => oX h)
theorem pS : aC ["_law_d", "_law_kinds", "_law_shape", "_law_thing", "_law_kind", "_law_way"] ["_law_d", "_law_kinds", "_law_shape", "_law_thing"] (ar cE) := ⟨rfl, rfl, rfl, by decide +kernel, rfl, by decide +kernel, by decide +kernel⟩
theorem pA (T : TX e) (dm : gK e) (aZ : d7 e) (bU : eN e) (cL : ej e) (iW : ki e) (au : cg e) : jv e := by
  have S := pS
  exact T.qA.okD S (fun ds μ Q h => sF h) (fun cdv A outer s H E hr => ⟨fY, (ah (bE (DW.dt (ig (du (dr (jD (kit_tuple _) rfl T.bu rfl T.lK PyProof.Rows.Boot.«tuple» (dv 3)))) (ig (aL (fD hr.units) bG (mU rfl T.pP (aa (dv 3) ag)) ae (aA _)) (jL (du (dr (ai dm (hr.mono (by decide)) rfl T.il T.iq T.ir (aa (aq (dv 3) ae (fun _ _ => rfl)) ag)))))))) (aj (az jf)) aR)
    (ah (bE (DW.dt (ig (aL yE eD (ai aZ (hr.mono (by decide)) rfl T.dY T.dO T.dS (aa (dv 0) (aa (aq (dv 3) ae (fun _ _ => rfl)) ag))) ae (aA _)) (ig (du (dr (jD (kit_tuple _) rfl T.bu rfl T.lK PyProof.Rows.Boot.«tuple» (aq (dv 3) ae (fun _ _ => rfl))))) (jL (aL (fD hr.units) bG (mU rfl T.pP (aa (aq (dv 3) ae (fun _ _ => rfl)) ag)) ae (aA _)))))) (aj (az jf)) aR)
    (ah (bE (du (dr (sk rfl rfl T.xh (aa (sj (N' := ["_law_one"]) (cap := [none]) rfl (vz (aq (dv 3) ae (fun _ _ => rfl))) (fun _ _ _ => (aW (i := 0) (show List.Nodup (["_law_one"] : List Str) by decide +kernel) rfl (Or.inl rfl))) (fun _ _ _ => lQ) (fun _ _ _ => (ai dm (hr.mono (by decide)) rfl T.il T.iq T.ir (aa (dv 0) ag))) rfl (by decide +kernel) rfl (by decide +kernel) (by intro _ _ h; first | exact h | exact cl1 h | exact cl2 (by decide +kernel) h | exact cl3 (by decide +kernel) h | exact cl_of (cl_c rfl cl_n) _ _ h | exact cl_of (cl_c rfl (cl_c rfl cl_n)) _ _ h | exact cl_of (cl_c rfl (cl_c rfl (cl_c rfl cl_n))) _ _ h | cases h) (oF rfl) rfl (kU trivial)) ag)))) (aj (az jf)) aR)
    (ah (tK PassesOwn.never rfl (vz (dv 1)) (aW (i := 4) S.nd rfl (Or.inl rfl)) (aj (tK PassesOwn.never rfl (wI (eO (aa (dv 4) (aa (ai bU (hr.mono (by decide)) rfl T.ji T.jh T.je (aa (dv 0) (aa (dv 4) ag))) ag)))) (aW (i := 5) S.nd rfl (Or.inl rfl)) (aj (bE (du (dr (ai cL (hr.mono (by decide)) rfl T.jn T.jm T.jl (aa (dv 0) (aa (aq (dv 3) ae (fun _ _ => rfl)) (aa (dv 5) ag)))))) (aj (az jf)) aR)))))
    (aj (az (dG nF eD (ai aZ (hr.mono (by decide)) rfl T.dY T.dO T.dS (aa (dv 0) (aa (ai iW (hr.mono (by decide)) rfl T.rP T.rY T.tj (aa (dv 0) (aa (aq (dv 3) ae (fun _ _ => rfl)) (aa (aq (dv 3) ae (fun _ _ => rfl)) (aa (ai au (hr.mono (by decide)) rfl T.aJ T.aH T.aI (aa (dv 0) (aa (dv 2) (aa (aq (dv 3) ae (fun _ _ => rfl)) ag)))) ag))))) ag))) ae (aA _)))))))), fun ds μ Qd h => oE h⟩)
theorem nS : aC ["_law_d", "_law_width", "_law_height", "_law_due", "_law_told"] ["_law_d", "_law_width", "_law_height"] (ar cw) := ⟨rfl, rfl, rfl, by decide +kernel, rfl, by decide +kernel, by decide +kernel⟩
theorem nU (T : TX e) (g4 : jP e) (cC : gR e) (gY : jv e) (dP : i9 e) (bW : eQ e) : jj e := by
  have S := nS
  exact y6 (T.o8.okD S (fun ds μ Q h => qC h) (fun cdv A outer s H E hr => ⟨fI, (ah (aS (i := 3) S.nd rfl (Or.inl rfl) (ai g4 (hr.mono (by decide)) rfl T.pW T.qy T.qB (aa (dv 0) (aa (dv 1) (aa (dv 2) ag)))))
    (ah (aS (i := 4) S.nd rfl (Or.inl rfl) (ai cC (hr.mono (by decide)) rfl T.i4 T.iK T.iJ (aa (dv 0) (aa (dv 1) (aa (dv 2) ag)))))
    (ah (bE (DW.dt (ig (du (dr (wU (kit_tuple _) rfl T.bu rfl T.lK PyProof.Rows.Boot.«tuple» (dv 4)))) (jL (aL (fD hr.units) oM (A6 rfl T.pP (aa (dv 4) ag)) ae (aA _))))) (aj (az jf)) aR)
    (ah (bE (aL Bz Er (dv 3) yP (aA _)) (aj (az (mC (dG (cU hr.units) oM (jJ (dv 4) ae (fun _ _ => rfl)) mW (aA _)) (nj (ai gY (hr.mono (by decide)) rfl T.qm T.qF T.pX (aa (dv 0) (aa (aV (aa (aV (aa ae (aa ae (aa ae ag)))) ag)) (aa (ai dP (hr.mono (by decide)) rfl T.nq T.nA T.nk (aa (dv 0) (aa (dv 2) (aa (dv 1) ag)))) (aa (jJ (dv 4) ae (fun _ _ => rfl)) ag))))))))) aR)
    (ah (bE (DW.dt (ig (aL (fD hr.units) oM (jJ (dv 4) ae (fun _ _ => rfl)) mW (aA _)) (ig (du (dr (wU (yo _) rfl T.bu rfl T.Ej PyProof.Rows.Boot.«list» (jJ (dv 4) ae (fun _ _ => rfl))))) (jL (aL (fD hr.units) oM (jJ (dv 4) ae (fun _ _ => rfl)) (dv 3) (aA _)))))) (aj (az jf)) aR)
    (ah (bE (du (dr (sk rfl rfl T.xh (aa (yT (N' := ["_law_one"]) (cap := [none]) rfl (Gu (jJ (dv 4) ae (fun _ _ => rfl))) (fun _ _ _ => (aW (i := 0) (show List.Nodup (["_law_one"] : List Str) by decide +kernel) rfl (Or.inl rfl))) (fun _ _ _ => lQ) (fun _ _ _ => (ai bW (hr.mono (by decide)) rfl T.jb T.jk T.ja (aa (dv 0) ag))) rfl (by decide +kernel) rfl (by decide +kernel) (by intro _ _ h; first | exact h | exact cl1 h | exact cl2 (by decide +kernel) h | exact cl3 (by decide +kernel) h | exact cl_of (cl_c rfl cl_n) _ _ h | exact cl_of (cl_c rfl (cl_c rfl cl_n)) _ _ h | exact cl_of (cl_c rfl (cl_c rfl (cl_c rfl cl_n))) _ _ h | cases h) (oF rfl) rfl (kU trivial)) ag)))) (aj (az jf)) aR)
    (ah (iB (j8 (jJ (dv 4) ae (fun _ _ => rfl)) ae))
    (ah (iB (A4 (jJ (dv 4) ae (fun _ _ => rfl))))
    (aj (az (dG (cU hr.units) oM (ai cC (hr.mono (by decide)) rfl T.i4 T.iK T.iJ (aa (dv 0) (aa (dv 1) (aa (dv 2) ag)))) (aV (aa mW (aa (dv 3) ag))) (aA _)))))))))))), fun ds μ Qd h => nK h⟩)) (fun ds μ Qd h => mS h)
theorem D8 : aC ["_law_script", "_law_k", "_law_bag_here", "_law_d", "_law_width", "_law_height", "_law_factor", "_law_floors"] ["_law_script"] (ar kf) := ⟨rfl, rfl, rfl, by decide +kernel, rfl, by decide +kernel, by decide +kernel⟩
theorem D2 (T : TX e) (kQ : nE e) (jG : mx e) (dH : fM e) (ay : df e) (au : cg e) (fZ : jj e) (cC : gR e) : zo e := by
  have S := D8
  exact T.EY.okD S (fun ds μ Q h => yi h) (fun cdv A outer s H E hr => ⟨vS, (ah (tK PassesOwn.never rfl (wW rfl T.rN (aa (vT rfl rfl T.An (aa ae (aa (vA rfl rfl T.zp (aa ae (aa (mU rfl T.pP (aa (dv 0) ag)) ag))) ag))) ag)) (aW (i := 1) S.nd rfl (Or.inl rfl)) (ah (aS (i := 2) S.nd rfl (Or.inl rfl) (ai kQ (hr.mono (by decide)) rfl T.vC T.vH T.vq (aa (dv 0) (aa (dv 1) ag))))
    (ah (aS (i := 3) S.nd rfl (Or.inr rfl) (ai jG (hr.mono (by decide)) rfl T.tZ T.um T.ub (aa (dv 2) ag)))
    (ah (jB (ai dH (hr.mono (by decide)) rfl T.kR T.kO T.kA (aa (dv 2) (aa (dv 3) ag))) (ky (n := 2) rfl (bp (aW (i := 4) S.nd rfl (Or.inl rfl)) (bp (aW (i := 5) S.nd rfl (Or.inl rfl)) iy))))
    (ah (aS (i := 6) S.nd rfl (Or.inl rfl) (aq (eO (aa (aV (aa ae (aa ae (aa ae ag)))) (aa (aV (aa ae (aa ae (aa ae ag)))) (aa (aV (aa ae (aa ae (aa ae ag)))) ag)))) (ai ay (hr.mono (by decide)) rfl T.aO T.aQ T.aP (aa (dv 2) (aa ae ag))) (fun _ _ => rfl)))
    (ah (aS (i := 7) S.nd rfl (Or.inl rfl) (n9 (aa (aV (aa (dv 4) (aa (dv 5) ag))) (aa (aV (aa (dv 5) (aa (dv 4) ag))) (aa (aV (aa (dv 4) (aa (dv 4) ag))) ag)))))
    (ah (iB (j8 (dv 7) (aV (aa (ai au (hr.mono (by decide)) rfl T.aJ T.aH T.aI (aa (dv 3) (aa (dv 4) (aa (dv 6) ag)))) (aa (ai au (hr.mono (by decide)) rfl T.aJ T.aH T.aI (aa (dv 3) (aa (dv 5) (aa (dv 6) ag)))) ag)))))
    (aj (bE (du (dr (sk rfl rfl T.xh (aa (sj (N' := ["_law_wide", "_law_high", "_law_d"]) (cap := [none, none, some 3]) rfl (wI (Az (dv 7) (zX (dv 7) BG (BC ae)))) (fun _ _ _ => (ky (n := 2) rfl (bp (aW (i := 0) (show List.Nodup (["_law_wide", "_law_high", "_law_d"] : List Str) by decide +kernel) rfl (Or.inl rfl)) (bp (aW (i := 1) (show List.Nodup (["_law_wide", "_law_high", "_law_d"] : List Str) by decide +kernel) rfl (Or.inl rfl)) iy)))) (fun _ _ _ => lQ) (fun _ _ _ => (ai fZ (hr.mono (by decide)) rfl T.o5 T.pH T.oG (aa (dv 2) (aa (dv 0) (aa (dv 1) ag))))) rfl (by decide +kernel) rfl (by decide +kernel) (by intro _ _ h; first | exact h | exact cl1 h | exact cl2 (by decide +kernel) h | exact cl3 (by decide +kernel) h | exact cl_of (cl_c rfl cl_n) _ _ h | exact cl_of (cl_c rfl (cl_c rfl cl_n)) _ _ h | exact cl_of (cl_c rfl (cl_c rfl (cl_c rfl cl_n))) _ _ h | cases h) (oF rfl) rfl (kU ⟨Gq, trivial⟩)) ag)))) (aj (az jf)) aR)))))))))
    (aj (az (dG (cU hr.units) bG (ai cC (hr.mono (by decide)) rfl T.i4 T.iK T.iJ (aa ae (aa (aV (aa ae (aa ae (aa ae ag)))) (aa (aV (aa ae (aa ae (aa ae ag)))) ag)))) (aV (aa mW (aa (eO (aa ae (aa ae ag))) ag))) (aA _))))), fun ds μ Qd h => D5 h⟩)
theorem DQ (T : TX e) : zo e := by
  have gm := tR T
  have cW := lH T
  have fE := mP T
  have eI := kJ T
  have jN := sC T
  have bK := pQ T
  have bW := mE T
  have aZ := tF T
  have cb := sI T
  have dj := qc T
  have kQ := ur T
  have ay := rG T
  have bN := mq T cW
  have mK := vZ T fE
  have bj := ue T bK
  have dm := mv T bW bK
  have jG := tw T ay
  have jE := rJ T gm bN
  have ic := yc T bN
  have au := p6 T bj
  have bU := mG T bj
  have ba := rR T bj
  have gM := oK T ay bj
  have rH := bP T ic
  have ku := cf T ic
  have eJ := kB T jE mK
  have dP := tm T au bU
  have iP := qE T aZ ba dj
  have iW := qv T ba au cb
  have fT := p4 T gM aZ ay dj
  have vQ := AA T rH ku
  have bJ := hW T eJ
  have g4 := o9 T dP
  have cL := iR T au cb ba aZ iP
  have dH := ke T ay fT ba au bj
  have cC := qu T bJ vQ eI jN
  have gY := pA T dm aZ bU cL iW au
  have fZ := nU T g4 cC gY dP bW
  exact D2 T kQ jG dH ay au fZ cC
end
theorem all_mk {l : PySem.W.OpenLaw} {w : World} {K : PySem.W.Frag} {h : Heap} {mg : Str → Option Value} {fa : Addr} (X : K.In h) (G : h.Ns mainGlobals mg) (hfa : mg "law" = some (.ref fa))
    {f0 c0 f1 c1 f2 c2 f3 c3 f4 c4 f5 c5 f6 c6 f7 c7 f8 c8 f9 c9 f10 c10 f11 c11 f12 c12 f13 c13 f14 c14 f15 c15 f16 c16 f17 c17 f18 c18 f19 c19 f20 c20 f21 c21 f22 c22 f23 c23 f24 c24 f25 c25 f26 c26 f27 c27 f28 c28 f29 c29 f30 c30 f31 c31 f32 c32 f33 c33 f34 c34 f35 c35 f36 c36 f37 c37 f38 c38 : Addr} {t0 t1 t2 t3 t4 t5 t6 t7 t8 t9 t10 t11 t12 t13 t14 t15 t16 t17 t18 t19 t20 t21 t22 t23 t24 t25 t26 t27 t28 t29 t30 t31 t32 t33 t34 t35 t36 t37 t38 : Tok} {m0 m1 m2 m3 m4 m5 m6 m7 m8 m9 m10 m11 m12 m13 m14 m15 m16 m17 m18 m19 m20 m21 m22 m23 m24 m25 m26 m27 m28 m29 m30 m31 m32 m33 m34 m35 m36 m37 m38 : Str} {g0 : Addr} {go0 : Option Addr} {q0a q0b q0c : Tok} {gn0 : Nat} {gs0 : Array (Option Value)} {g1 : Addr} {go1 : Option Addr} {q1a q1b q1c : Tok} {gn1 : Nat} {gs1 : Array (Option Value)}
    (a0 : FQ K "is_whole" eZ f0 c0 t0 m0)
    (a1 : FQ K "common_divisor" bM f1 c1 t1 m1)
    (a2 : FQ K "is_number" d5 f2 c2 t2 m2)
    (a3 : FQ K "divisor_of_all" bL f3 c3 t3 m3)
    (a4 : FQ K "number" ij f4 c4 t4 m4)
    (a5 : FQ K "times" j3 f5 c5 t5 m5)
    (a6 : FQ K "over" mz f6 c6 t6 m6)
    (a7 : FQ K "contrary" eV f7 c7 t7 m7)
    (a8 : FQ K "sign_of" fV f8 c8 t8 m8)
    (a9 : FQ K "sign_of_parts" bT f9 c9 t9 m9)
    (a10 : FQ K "is_above_nought" bD f10 c10 t10 m10)
    (a11 : FQ K "must_be_above_nought" aY f11 c11 t11 m11)
    (a12 : FQ K "squares_of" de f12 c12 t12 m12)
    (a13 : FQ K "bar_for_squares" bF f13 c13 t13 m13)
    (a14 : FQ K "counts_of" dR f14 c14 t14 m14)
    (a15 : FQ K "_law_counts" cF f15 c15 t15 m15)
    (a16 : FQ K "_law_over" dM f16 c16 t16 m16)
    (a17 : FQ K "_law_times" dg f17 c17 t17 m17)
    (a18 : FQ K "_law_low" eT f18 c18 t18 m18)
    (a19 : FQ K "_law_shared" cI f19 c19 t19 m19)
    (a20 : FQ K "_law_contrary" bV f20 c20 t20 m20)
    (a21 : FQ K "_law_is_bar" cE f21 c21 t21 m21)
    (a22 : FQ K "_law_is_number" bO f22 c22 t22 m22)
    (a23 : FQ K "_law_is_whole" bX f23 c23 t23 m23)
    (a24 : FQ K "_law_sign" dQ f24 c24 t24 m24)
    (a25 : FQ K "_law_is_never_below" bb f25 c25 t25 m25)
    (a26 : FQ K "_law_mate" dI f26 c26 t26 m26)
    (a27 : FQ K "_law_plus" d6 f27 c27 t27 m27)
    (a28 : FQ K "_law_below" cX f28 c28 t28 m28)
    (a29 : FQ K "_law_minus" da f29 c29 t29 m29)
    (a30 : FQ K "_law_weigh" cV f30 c30 t30 m30)
    (a31 : FQ K "_law_bag" eU f31 c31 t31 m31)
    (a32 : FQ K "_law_root" d0 f32 c32 t32 m32)
    (a33 : FQ K "_law_take" d4 f33 c33 t33 m33)
    (a34 : FQ K "_law_floor_sides" br f34 c34 t34 m34)
    (a35 : FQ K "_law_above" dh f35 c35 t35 m35)
    (a36 : FQ K "_law_number" cG f36 c36 t36 m36)
    (a37 : FQ K "_law_is_told" cw f37 c37 t37 m37)
    (a38 : FQ K "law" kf f38 c38 t38 m38)
    (z0 : PySem.W.nsIn K mainGlobals "isinstance" = some none)
    (z1 : PySem.W.nsIn K mainGlobals "int" = some none)
    (z2 : PySem.W.nsIn K mainGlobals "bool" = some none)
    (z3 : PySem.W.nsIn K mainGlobals "abs" = some none)
    (z4 : PySem.W.nsIn K mainGlobals "tuple" = some none)
    (z5 : PySem.W.nsIn K mainGlobals "len" = some none)
    (z6 : PySem.W.nsIn K mainGlobals "min" = some none)
    (z7 : PySem.W.nsIn K mainGlobals "max" = some none)
    (z8 : PySem.W.nsIn K mainGlobals "all" = some none)
    (z9 : PySem.W.nsIn K mainGlobals "range" = some none)
    (z10 : PySem.W.nsIn K mainGlobals "list" = some none)
    (v0 : PySem.W.nsIn K mainGlobals "NOUGHT" = some (some (.ref g0))) (w0 : K.lookup g0 = some ⟨.type "tuple", go0, .seq #[.int 0 q0a, .int 0 q0b, .int 1 q0c] gn0, gs0⟩)
    (v1 : PySem.W.nsIn K mainGlobals "ONE" = some (some (.ref g1))) (w1 : K.lookup g1 = some ⟨.type "tuple", go1, .seq #[.int 1 q1a, .int 0 q1b, .int 1 q1c] gn1, gs1⟩) :
    ∃ fd : FuncData, (∀ (s : Shared) (v : Value), BindsTo s fd ⟨[v], []⟩ [("_law_script", v)]) ∧ ∀ base : Heap, K.In base → base.Ns mainGlobals mg → bq l.prog w K mg base CX0 8 fa fd ["_law_script"] (spD K pj) := by
  have e := hfa.symm.trans (PySem.W.mg_of X G a38.1)
  cases e
  have F0 := aT (st := eZ) a0.2.1 a0.2.2.1 a0.2.2.2
  have b0 := F0.binds (ps := ["thing"]) fun _ _ _ _ _ _ us hl => match us, hl with | [_], _ => rfl
  have F1 := aT (st := bM) a1.2.1 a1.2.2.1 a1.2.2.2
  have b1 := F1.binds (ps := ["a", "b"]) fun _ _ _ _ _ _ us hl => match us, hl with | [_, _], _ => rfl
  have F2 := aT (st := d5) a2.2.1 a2.2.2.1 a2.2.2.2
  have b2 := F2.binds (ps := ["thing"]) fun _ _ _ _ _ _ us hl => match us, hl with | [_], _ => rfl
  have F3 := aT (st := bL) a3.2.1 a3.2.2.1 a3.2.2.2
  have b3 := F3.binds (ps := ["a", "b", "c"]) fun _ _ _ _ _ _ us hl => match us, hl with | [_, _, _], _ => rfl
  have F4 := aT (st := ij) a4.2.1 a4.2.2.1 a4.2.2.2
  have b4 := F4.binds (ps := ["a", "b", "c"]) fun _ _ _ _ _ _ us hl => match us, hl with | [_, _, _], _ => rfl
  have F5 := aT (st := j3) a5.2.1 a5.2.2.1 a5.2.2.2
  have b5 := F5.binds (ps := ["d", "x", "y"]) fun _ _ _ _ _ _ us hl => match us, hl with | [_, _, _], _ => rfl
  have F6 := aT (st := mz) a6.2.1 a6.2.2.1 a6.2.2.2
  have b6 := F6.binds (ps := ["d", "x", "y"]) fun _ _ _ _ _ _ us hl => match us, hl with | [_, _, _], _ => rfl
  have F7 := aT (st := eV) a7.2.1 a7.2.2.1 a7.2.2.2
  have b7 := F7.binds (ps := ["d", "x"]) fun _ _ _ _ _ _ us hl => match us, hl with | [_, _], _ => rfl
  have F8 := aT (st := fV) a8.2.1 a8.2.2.1 a8.2.2.2
  have b8 := F8.binds (ps := ["d", "x"]) fun _ _ _ _ _ _ us hl => match us, hl with | [_, _], _ => rfl
  have F9 := aT (st := bT) a9.2.1 a9.2.2.1 a9.2.2.2
  have b9 := F9.binds (ps := ["d", "a", "b"]) fun _ _ _ _ _ _ us hl => match us, hl with | [_, _, _], _ => rfl
  have F10 := aT (st := bD) a10.2.1 a10.2.2.1 a10.2.2.2
  have b10 := F10.binds (ps := ["d", "thing"]) fun _ _ _ _ _ _ us hl => match us, hl with | [_, _], _ => rfl
  have F11 := aT (st := aY) a11.2.1 a11.2.2.1 a11.2.2.2
  have b11 := F11.binds (ps := ["d", "thing"]) fun _ _ _ _ _ _ us hl => match us, hl with | [_, _], _ => rfl
  have F12 := aT (st := de) a12.2.1 a12.2.2.1 a12.2.2.2
  have b12 := F12.binds (ps := ["d", "width", "height"]) fun _ _ _ _ _ _ us hl => match us, hl with | [_, _, _], _ => rfl
  have F13 := aT (st := bF) a13.2.1 a13.2.2.1 a13.2.2.2
  have b13 := F13.binds (ps := ["shape"]) fun _ _ _ _ _ _ us hl => match us, hl with | [_], _ => rfl
  have F14 := aT (st := dR) a14.2.1 a14.2.2.1 a14.2.2.2
  have b14 := F14.binds (ps := ["shape"]) fun _ _ _ _ _ _ us hl => match us, hl with | [_], _ => rfl
  have F15 := aT (st := cF) a15.2.1 a15.2.2.1 a15.2.2.2
  have b15 := F15.binds (ps := ["_law_d", "_law_width", "_law_height"]) fun _ _ _ _ _ _ us hl => match us, hl with | [_, _, _], _ => rfl
  have F16 := aT (st := dM) a16.2.1 a16.2.2.1 a16.2.2.2
  have b16 := F16.binds (ps := ["_law_d", "_law_x", "_law_y"]) fun _ _ _ _ _ _ us hl => match us, hl with | [_, _, _], _ => rfl
  have F17 := aT (st := dg) a17.2.1 a17.2.2.1 a17.2.2.2
  have b17 := F17.binds (ps := ["_law_d", "_law_x", "_law_y"]) fun _ _ _ _ _ _ us hl => match us, hl with | [_, _, _], _ => rfl
  have F18 := aT (st := eT) a18.2.1 a18.2.2.1 a18.2.2.2
  have b18 := F18.binds (ps := ["_law_a", "_law_b", "_law_c"]) fun _ _ _ _ _ _ us hl => match us, hl with | [_, _, _], _ => rfl
  have F19 := aT (st := cI) a19.2.1 a19.2.2.1 a19.2.2.2
  have b19 := F19.binds (ps := ["_law_one", "_law_other"]) fun _ _ _ _ _ _ us hl => match us, hl with | [_, _], _ => rfl
  have F20 := aT (st := bV) a20.2.1 a20.2.2.1 a20.2.2.2
  have b20 := F20.binds (ps := ["_law_d", "_law_x"]) fun _ _ _ _ _ _ us hl => match us, hl with | [_, _], _ => rfl
  have F21 := aT (st := cE) a21.2.1 a21.2.2.1 a21.2.2.2
  have b21 := F21.binds (ps := ["_law_d", "_law_kinds", "_law_shape", "_law_thing"]) fun _ _ _ _ _ _ us hl => match us, hl with | [_, _, _, _], _ => rfl
  have F22 := aT (st := bO) a22.2.1 a22.2.2.1 a22.2.2.2
  have b22 := F22.binds (ps := ["_law_thing"]) fun _ _ _ _ _ _ us hl => match us, hl with | [_], _ => rfl
  have F23 := aT (st := bX) a23.2.1 a23.2.2.1 a23.2.2.2
  have b23 := F23.binds (ps := ["_law_thing"]) fun _ _ _ _ _ _ us hl => match us, hl with | [_], _ => rfl
  have F24 := aT (st := dQ) a24.2.1 a24.2.2.1 a24.2.2.2
  have b24 := F24.binds (ps := ["_law_d", "_law_x"]) fun _ _ _ _ _ _ us hl => match us, hl with | [_, _], _ => rfl
  have F25 := aT (st := bb) a25.2.1 a25.2.2.1 a25.2.2.2
  have b25 := F25.binds (ps := ["_law_d", "_law_weights", "_law_kind"]) fun _ _ _ _ _ _ us hl => match us, hl with | [_, _, _], _ => rfl
  have F26 := aT (st := dI) a26.2.1 a26.2.2.1 a26.2.2.2
  have b26 := F26.binds (ps := ["_law_x"]) fun _ _ _ _ _ _ us hl => match us, hl with | [_], _ => rfl
  have F27 := aT (st := d6) a27.2.1 a27.2.2.1 a27.2.2.2
  have b27 := F27.binds (ps := ["_law_x", "_law_y"]) fun _ _ _ _ _ _ us hl => match us, hl with | [_, _], _ => rfl
  have F28 := aT (st := cX) a28.2.1 a28.2.2.1 a28.2.2.2
  have b28 := F28.binds (ps := ["_law_d", "_law_x", "_law_y"]) fun _ _ _ _ _ _ us hl => match us, hl with | [_, _, _], _ => rfl
  have F29 := aT (st := da) a29.2.1 a29.2.2.1 a29.2.2.2
  have b29 := F29.binds (ps := ["_law_x"]) fun _ _ _ _ _ _ us hl => match us, hl with | [_], _ => rfl
  have F30 := aT (st := cV) a30.2.1 a30.2.2.1 a30.2.2.2
  have b30 := F30.binds (ps := ["_law_d", "_law_weights", "_law_width", "_law_height"]) fun _ _ _ _ _ _ us hl => match us, hl with | [_, _, _, _], _ => rfl
  have F31 := aT (st := eU) a31.2.1 a31.2.2.1 a31.2.2.2
  have b31 := F31.binds (ps := ["_law_script", "_law_at"]) fun _ _ _ _ _ _ us hl => match us, hl with | [_, _], _ => rfl
  have F32 := aT (st := d0) a32.2.1 a32.2.2.1 a32.2.2.2
  have b32 := F32.binds (ps := ["_law_bag_here"]) fun _ _ _ _ _ _ us hl => match us, hl with | [_], _ => rfl
  have F33 := aT (st := d4) a33.2.1 a33.2.2.1 a33.2.2.2
  have b33 := F33.binds (ps := ["_law_bag_here", "_law_many"]) fun _ _ _ _ _ _ us hl => match us, hl with | [_, _], _ => rfl
  have F34 := aT (st := br) a34.2.1 a34.2.2.1 a34.2.2.2
  have b34 := F34.binds (ps := ["_law_bag_here", "_law_d"]) fun _ _ _ _ _ _ us hl => match us, hl with | [_, _], _ => rfl
  have F35 := aT (st := dh) a35.2.1 a35.2.2.1 a35.2.2.2
  have b35 := F35.binds (ps := ["_law_bag_here", "_law_d"]) fun _ _ _ _ _ _ us hl => match us, hl with | [_, _], _ => rfl
  have F36 := aT (st := cG) a36.2.1 a36.2.2.1 a36.2.2.2
  have b36 := F36.binds (ps := ["_law_bag_here"]) fun _ _ _ _ _ _ us hl => match us, hl with | [_], _ => rfl
  have F37 := aT (st := cw) a37.2.1 a37.2.2.1 a37.2.2.2
  have b37 := F37.binds (ps := ["_law_d", "_law_width", "_law_height"]) fun _ _ _ _ _ _ us hl => match us, hl with | [_, _, _], _ => rfl
  have F38 := aT (st := kf) a38.2.1 a38.2.2.1 a38.2.2.2
  have b38 := F38.binds (ps := ["_law_script"]) fun _ _ _ _ _ _ us hl => match us, hl with | [_], _ => rfl
  have T : Txt K mg ⟨f0, fd "is_whole" eZ t0 m0 c0, f1, fd "common_divisor" bM t1 m1 c1, f2, fd "is_number" d5 t2 m2 c2, f3, fd "divisor_of_all" bL t3 m3 c3, f4, fd "number" ij t4 m4 c4, f5, fd "times" j3 t5 m5 c5, f6, fd "over" mz t6 m6 c6, f7, fd "contrary" eV t7 m7 c7, f8, fd "sign_of" fV t8 m8 c8, f9, fd "sign_of_parts" bT t9 m9 c9, f10, fd "is_above_nought" bD t10 m10 c10, f11, fd "must_be_above_nought" aY t11 m11 c11, f12, fd "squares_of" de t12 m12 c12, f13, fd "bar_for_squares" bF t13 m13 c13, f14, fd "counts_of" dR t14 m14 c14, f15, fd "_law_counts" cF t15 m15 c15, f16, fd "_law_over" dM t16 m16 c16, f17, fd "_law_times" dg t17 m17 c17, f18, fd "_law_low" eT t18 m18 c18, f19, fd "_law_shared" cI t19 m19 c19, f20, fd "_law_contrary" bV t20 m20 c20, f21, fd "_law_is_bar" cE t21 m21 c21, f22, fd "_law_is_number" bO t22 m22 c22, f23, fd "_law_is_whole" bX t23 m23 c23, f24, fd "_law_sign" dQ t24 m24 c24, f25, fd "_law_is_never_below" bb t25 m25 c25, f26, fd "_law_mate" dI t26 m26 c26, f27, fd "_law_plus" d6 t27 m27 c27, f28, fd "_law_below" cX t28 m28 c28, f29, fd "_law_minus" da t29 m29 c29, f30, fd "_law_weigh" cV t30 m30 c30, f31, fd "_law_bag" eU t31 m31 c31, f32, fd "_law_root" d0 t32 m32 c32, f33, fd "_law_take" d4 t33 m33 c33, f34, fd "_law_floor_sides" br t34 m34 c34, f35, fd "_law_above" dh t35 m35 c35, f36, fd "_law_number" cG t36 m36 c36, f37, fd "_law_is_told" cw t37 m37 c37, fa, fd "law" kf t38 m38 c38, g0, g1⟩ := ⟨F0, PySem.W.mg_of X G a0.1, a0.2.2.2, b0, F1, PySem.W.mg_of X G a1.1, a1.2.2.2, b1, F2, PySem.W.mg_of X G a2.1, a2.2.2.2, b2, F3, PySem.W.mg_of X G a3.1, a3.2.2.2, b3, F4, PySem.W.mg_of X G a4.1, a4.2.2.2, b4, F5, PySem.W.mg_of X G a5.1, a5.2.2.2, b5, F6, PySem.W.mg_of X G a6.1, a6.2.2.2, b6, F7, PySem.W.mg_of X G a7.1, a7.2.2.2, b7, F8, PySem.W.mg_of X G a8.1, a8.2.2.2, b8, F9, PySem.W.mg_of X G a9.1, a9.2.2.2, b9, F10, PySem.W.mg_of X G a10.1, a10.2.2.2, b10, F11, PySem.W.mg_of X G a11.1, a11.2.2.2, b11, F12, PySem.W.mg_of X G a12.1, a12.2.2.2, b12, F13, PySem.W.mg_of X G a13.1, a13.2.2.2, b13, F14, PySem.W.mg_of X G a14.1, a14.2.2.2, b14, F15, PySem.W.mg_of X G a15.1, a15.2.2.2, b15, F16, PySem.W.mg_of X G a16.1, a16.2.2.2, b16, F17, PySem.W.mg_of X G a17.1, a17.2.2.2, b17, F18, PySem.W.mg_of X G a18.1, a18.2.2.2, b18, F19, PySem.W.mg_of X G a19.1, a19.2.2.2, b19, F20, PySem.W.mg_of X G a20.1, a20.2.2.2, b20, F21, PySem.W.mg_of X G a21.1, a21.2.2.2, b21, F22, PySem.W.mg_of X G a22.1, a22.2.2.2, b22, F23, PySem.W.mg_of X G a23.1, a23.2.2.2, b23, F24, PySem.W.mg_of X G a24.1, a24.2.2.2, b24, F25, PySem.W.mg_of X G a25.1, a25.2.2.2, b25, F26, PySem.W.mg_of X G a26.1, a26.2.2.2, b26, F27, PySem.W.mg_of X G a27.1, a27.2.2.2, b27, F28, PySem.W.mg_of X G a28.1, a28.2.2.2, b28, F29, PySem.W.mg_of X G a29.1, a29.2.2.2, b29, F30, PySem.W.mg_of X G a30.1, a30.2.2.2, b30, F31, PySem.W.mg_of X G a31.1, a31.2.2.2, b31, F32, PySem.W.mg_of X G a32.1, a32.2.2.2, b32, F33, PySem.W.mg_of X G a33.1, a33.2.2.2, b33, F34, PySem.W.mg_of X G a34.1, a34.2.2.2, b34, F35, PySem.W.mg_of X G a35.1, a35.2.2.2, b35, F36, PySem.W.mg_of X G a36.1, a36.2.2.2, b36, F37, PySem.W.mg_of X G a37.1, a37.2.2.2, b37, F38, PySem.W.mg_of X G a38.1, a38.2.2.2, b38, PySem.W.mg_none_of X G z0, PySem.W.mg_none_of X G z1, PySem.W.mg_none_of X G z2, PySem.W.mg_none_of X G z3, PySem.W.mg_none_of X G z4, PySem.W.mg_none_of X G z5, PySem.W.mg_none_of X G z6, PySem.W.mg_none_of X G z7, PySem.W.mg_none_of X G z8, PySem.W.mg_none_of X G z9, PySem.W.mg_none_of X G z10, ⟨PySem.W.mg_of X G v0, ⟨_, _, _, _, _, _, w0⟩⟩, ⟨PySem.W.mg_of X G v1, ⟨_, _, _, _, _, _, w1⟩⟩⟩
  exact ⟨_, fun s v => .of_eq rfl, fun base _ _ => DQ (e := ⟨l.prog, w, K, mg, base, _⟩) T⟩
theorem walk {l : PySem.W.OpenLaw} {q : Program} {loose : List Str} {XP : (Str → Option Value) → Heap → Prop} {YP : World → Heap → Prop} {d : DefRec} {K : Params → PySem.W.Frag} (tabs : List Addr) (hn : l.most = some 63) (hdf : d.params.defaults = [])
    (hY : ∀ (w : World) (h : Heap), YP w h → (K w.params).In h ∧ (∀ p ∈ tabs, h.get? p = some (PySem.W.tabObj #[]) ∧ (K w.params).lookup p = none) ∧ (∀ p ∈ tabs, isCodeTable h p))
    (hA2 : ∀ (w : World) c o p q, (K w.params).lookup c = some o → cq o = some (p, q) → p ∈ tabs)
    (F : ∀ (w : World) (mg : Str → Option Value) (fa : Addr) (h : Heap), (K w.params).In h → h.Ns mainGlobals mg → mg d.name = some (.ref fa) →
      ∃ fd : FuncData, (∀ (s : Shared) (u : Value), BindsTo s fd ⟨[u], []⟩ [("_law_script", u)]) ∧ ∀ base : Heap, (K w.params).In base → base.Ns mainGlobals mg → bq l.prog w (K w.params) mg base CX0 8 fa fd ["_law_script"] (spD (K w.params) pj)) :
    PySem.W.WalkO q loose XP YP l.row.toRowW d [] (fun f vs => PySem.call f vs) :=
  L2.zl (n := 63) (k := 8) (x := "_law_script") (CX := fun _ => CX0) (sp := fun w => spD (K w.params) pj) tabs hn (by decide) hdf ⟨rfl, by decide, by decide⟩ hY hA2 F (fun w H a ns hl hT hS => xP hl hT hS) fun _ _ _ _ _ z => z
end K19
open PySem PySem.W PyProof.Rows L2.DL in
set_option maxRecDepth 100000 in
set_option maxHeartbeats 0 in
theorem PySem.Challenge.cw_matefloors_k19_squares_taken_away_holds : PySem.Challenge.rw_matefloors_k19_squares_taken_away.Holds :=
  holds_law K19.H.ws fun said => holds_open (XP := XL K19.H.V []) (YP := K19.H.HK.says) (d := K19.H.D) (kwd := []) K19.H.left K19.H.HK.of K19.H.HK.keeps (fun s e => xl_of s (Bool.and_eq_true_iff.mp e).1) XL.keeps (by kernel_rfl) (by kernel_rfl) (by kernel_rfl)
    (fun s e => recFacts_of (Bool.and_eq_true_iff.mp e).2) (by kernel_rfl) said (by kernel_rfl) ⟨by kernel_rfl, by kernel_rfl, by kernel_rfl, by kernel_rfl, by kernel_rfl, by kernel_rfl⟩ ⟨[.list []], by kernel_rfl, by kernel_rfl⟩
    (K19.walk (l := PySem.Challenge.rw_matefloors_k19_squares_taken_away) (K := K19.H.K) K19.H.tabs (by kernel_rfl) (by kernel_rfl) (fun w h Y => by
      have Y : (K19.H.KF w.params).In h := Y
      refine ⟨rA Y, fun p hp => ?_, fun p hp => ?_⟩
      · rcases List.mem_cons.mp hp with rfl | hp
        · exact ⟨Y _ _ (K19.H.ia w.params).1, (K19.H.ia w.params).2⟩
        rcases List.mem_cons.mp hp with rfl | hp
        · exact ⟨Y _ _ (K19.H.wC w.params).1, (K19.H.wC w.params).2⟩
        exact nomatch hp
      · rcases List.mem_cons.mp hp with rfl | hp
        · obtain ⟨o, e1, e2⟩ := wM (K19.H.mf w.params); exact qU (rA Y) e1 e2
        rcases List.mem_cons.mp hp with rfl | hp
        · obtain ⟨o, e1, e2⟩ := wM (K19.H.zk w.params); exact qU (rA Y) e1 e2
        exact nomatch hp) (fun w c o p q e e2 => by
      have h := Bx (K19.H.DU w.params) e e2
      have h2 := List.mem_map_of_mem (f := fun x : Addr × Str => x.1) h
      exact h2) fun w mg fa h KX G hmg => by
      obtain ⟨h0, h1, h2, h3, h4, h5, h6, h7, h8, h9, h10, h11, h12, h13, h14, h15, h16, h17, h18, h19, h20, h21, h22, h23, h24, h25, h26, h27, h28, h29, h30, h31, h32, h33, h34, h35, h36, h37, h38, h39, h40, h41, h42, h43, h44, h45, h46, h47, h48, h49, h50, h51⟩ := K19.H.facts w.params
      exact K19.all_mk KX G hmg h0 h1 h2 h3 h4 h5 h6 h7 h8 h9 h10 h11 h12 h13 h14 h15 h16 h17 h18 h19 h20 h21 h22 h23 h24 h25 h26 h27 h28 h29 h30 h31 h32 h33 h34 h35 h36 h37 h38 h39 h40 h41 h42 h43 h44 h45 h46 h47 h48 h49 h50.1 h50.2 h51.1 h51.2)
